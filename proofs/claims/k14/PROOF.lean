import PyProof.Rows.All
import PySem.Challenge.RW_heardtrue_k14_potentials
import HandS.ForMost
import HandS.CallLocal
import HandS.Comp
import HandS.Conv
import HandS.Deep
import HandS.Dict
import HandS.DictComp
import HandS.ExcInit
import HandS.ExcIs
import HandS.FStr
import HandS.ForExc
import HandS.IsInst
import HandS.Iter
import HandS.More
import HandS.NoneIn
import HandS.RevRange
import HandS.SortKw
import HandS.Style
import HandS.Text
import HandS.TryOnly
import HandS.TupAny
import HandS.TupMul
import HandS.TupSets
import HandS.Walk
import HandS.Wide
import HandS.WideBits
import HandS.Zip
import KE.BitLaws
import KE.DataAny
import KE.DataFind
import KE.DataMinMax
import KE.DatumOrd
import KE.GoesEnum
import KE.GoesMore
import KE.GoesNew
import KE.GoesZip
import KE.KExcIs
import KE.OsArith
import KE.SortData
import PyProof.AutoSeq1
import PyProof.FitsInt
import PyProof.ReprBulk
import PyProof.ReprReads
set_option Elab.async false
set_option linter.all false
set_option maxRecDepth 100000
set_option maxHeartbeats 40000000
/-! Kt: symbolic states over the hand layer. Slots and cells hold items: plain data (persistent), or a raw value. -/
namespace Kt
open PySem PySem.Spec PyProof.Rows L2

def Ex (H H' : Hp) : Prop := ∀ a o, H a = some o → H' a = some o
/-- an item: plain data; a raw value; a raw value of which something is true that stays true -/
inductive It where
  | d (x : PyData)
  | v (u : V)
  | m (u : V) (φ : Hp → Prop) (h : ∀ P P', Ex P P' → φ P → φ P')
  | w (φ : V → Hp → Prop) (h : ∀ v P P', Ex P P' → φ v P → φ v P')
abbrev Mem := List (Addr × List It)
abbrev Rho := List (Option It)

theorem Ex.refl (H : Hp) : Ex H H := fun _ _ h => h
theorem Ex.trans {H H1 H2 : Hp} (a : Ex H H1) (b : Ex H1 H2) : Ex H H2 := fun x o h => b x o (a x o h)
theorem Ex.new {H : Hp} {p : Addr} {o : HO} (h : H p = none) : Ex H (upd H p o) := fun a u e => by
  rw [upd_ne (ne_of_none e h)]
  exact e
theorem ex_rd {H H' : Hp} {a : Addr} {u : HO} (e : Ex H H') (h : Rd H a u) : Rd H' a u := by
  rcases h with h | ⟨o, h⟩
  · exact Or.inl (e a _ h)
  · exact Or.inr ⟨o, e a _ h⟩
theorem ex_l {K : PySem.W.Frag} {H H' : Hp} {a : Addr} {xs : List V} (e : Ex H H') (h : SqL K H a xs) : SqL K H' a xs := by
  rcases h with h | h
  · exact Or.inl (ex_rd e h)
  · exact Or.inr h
/-- all that is persistent stands; a dict perhaps under a lock -/
def ExW (P H : Hp) : Prop := ∀ a o, P a = some o → H a = some o ∨ ((∃ kvs, o = .dK kvs) ∧ ∃ od, H a = some (.frz od o))
theorem Ex.w {H H' : Hp} (e : Ex H H') : ExW H H' := fun a o h => .inl (e a o h)
theorem ExW.of {H H' : Hp} (e : ExW H H') {a : Addr} {o : HO} (h : H a = some o) (nd : ∀ kvs, o ≠ .dK kvs := by intro _ h; cases h) : H' a = some o := by
  rcases e a o h with k | ⟨⟨kvs, k⟩, _⟩
  · exact k
  · exact absurd k (nd kvs)
theorem ExW.rd {H H' : Hp} (e : ExW H H') {a : Addr} {kvs : List (Key × V)} (h : Rd H a (.dK kvs)) : Rd H' a (.dK kvs) := by
  rcases h with h | ⟨o, h⟩
  · rcases e a _ h with k | ⟨_, od, k⟩
    · exact .inl k
    · exact .inr ⟨od, k⟩
  · exact .inr ⟨o, e.of h⟩
theorem exw_l {K : PySem.W.Frag} {H H' : Hp} {a : Addr} {xs : List V} (e : ExW H H') (h : SqL K H a xs) : SqL K H' a xs := by
  rcases h with (h | ⟨o, h⟩) | h
  · exact .inl (.inl (e.of h))
  · exact .inl (.inr ⟨o, e.of h⟩)
  · exact .inr h
mutual
/-- plain data at any depth, tracked -/
inductive Dn (H : Hp) : V → PyData → Prop
  | non : Dn H .non .none
  | bl (b : Bool) : Dn H (.bl b) (.bool b)
  | int (i : Int) : Dn H (.int i) (.int i)
  | str (x : Str) : Dn H (.str x) (.str x)
  | lst {a : Addr} {xs : List V} {ds : List PyData} : H a = some (.lst xs) → DnAll H xs ds → Dn H (.ref a) (.list ds)
  | tup {a : Addr} {xs : List V} {ds : List PyData} : H a = some (.tup xs) → DnAll H xs ds → Dn H (.ref a) (.tuple ds)
  | dic {a : Addr} {kvs : List (Key × V)} {es : List (PyData × PyData)} : Rd H a (.dK kvs) → DnKV H kvs es → Dn H (.ref a) (.dict es)
inductive DnAll (H : Hp) : List V → List PyData → Prop
  | nil : DnAll H [] []
  | cons {v : V} {vs : List V} {d : PyData} {ds : List PyData} : Dn H v d → DnAll H vs ds → DnAll H (v :: vs) (d :: ds)
inductive DnKV (H : Hp) : List (Key × V) → List (PyData × PyData) → Prop
  | nil : DnKV H [] []
  | inl {i : Int} {v : V} {r : List (Key × V)} {d : PyData} {es : List (PyData × PyData)} : Dn H v d → DnKV H r es → DnKV H ((.inl i, v) :: r) ((.int i, d) :: es)
  | inr {x : Str} {v : V} {r : List (Key × V)} {d : PyData} {es : List (PyData × PyData)} : Dn H v d → DnKV H r es → DnKV H ((.inr x, v) :: r) ((.str x, d) :: es)
end
mutual
theorem dnw_ex {H H' : Hp} (e : ExW H H') : ∀ (d : PyData) (v : V), Dn H v d → Dn H' v d
  | .none, _, h => by cases h; exact .non
  | .bool b, _, h => by cases h; exact .bl b
  | .int i, _, h => by cases h; exact .int i
  | .str x, _, h => by cases h; exact .str x
  | .list ds, _, h => by
    cases h with
    | lst hs ha => exact .lst (e.of hs) (dnwAll_ex e ds _ ha)
  | .tuple ds, _, h => by
    cases h with
    | tup hs ha => exact .tup (e.of hs) (dnwAll_ex e ds _ ha)
  | .dict es, _, h => by
    cases h with
    | dic hs ha => exact .dic (e.rd hs) (dnwKV_ex e es _ ha)
theorem dnwAll_ex {H H' : Hp} (e : ExW H H') : ∀ (ds : List PyData) (vs : List V), DnAll H vs ds → DnAll H' vs ds
  | [], _, h => by cases h; exact .nil
  | d :: ds, _, h => by
    cases h with
    | cons h1 h2 => exact .cons (dnw_ex e d _ h1) (dnwAll_ex e ds _ h2)
theorem dnwKV_ex {H H' : Hp} (e : ExW H H') : ∀ (es : List (PyData × PyData)) (kvs : List (Key × V)), DnKV H kvs es → DnKV H' kvs es
  | [], _, h => by cases h; exact .nil
  | (k, d) :: es, _, h => by
    cases h with
    | inl h1 h2 => exact .inl (dnw_ex e d _ h1) (dnwKV_ex e es _ h2)
    | inr h1 h2 => exact .inr (dnw_ex e d _ h1) (dnwKV_ex e es _ h2)
end
theorem dn_ex {H H' : Hp} (e : Ex H H') (d : PyData) (v : V) (h : Dn H v d) : Dn H' v d := dnw_ex e.w d v h
theorem dnAll_ex {H H' : Hp} (e : Ex H H') (ds : List PyData) (vs : List V) (h : DnAll H vs ds) : DnAll H' vs ds := dnwAll_ex e.w ds vs h
theorem dnKV_ex {H H' : Hp} (e : Ex H H') (es : List (PyData × PyData)) (kvs : List (Key × V)) (h : DnKV H kvs es) : DnKV H' kvs es := dnwKV_ex e.w es kvs h
theorem dnAll_len {H : Hp} : ∀ {vs : List V} {ds : List PyData}, DnAll H vs ds → vs.length = ds.length
  | _, [], h => by cases h; rfl
  | _, d :: ds, h => by
    cases h with
    | cons h1 h2 => rw [List.length_cons, List.length_cons, dnAll_len h2]
theorem dnAll_get {H : Hp} : ∀ {vs : List V} {ds : List PyData} {i : Nat} {d : PyData}, DnAll H vs ds → ds[i]? = some d → ∃ v, vs[i]? = some v ∧ Dn H v d
  | _, [], i, d, h, e => by simp at e
  | _, x :: ds, 0, d, h, e => by
    cases h with
    | cons h1 h2 =>
      have e' : x = d := Option.some.inj e
      exact ⟨_, rfl, e' ▸ h1⟩
  | _, x :: ds, i + 1, d, h, e => by
    cases h with
    | cons h1 h2 =>
      obtain ⟨v, a, b⟩ := dnAll_get (i := i) h2 e
      exact ⟨v, a, b⟩
theorem DnAll.app {H : Hp} : ∀ {vs ws : List V} {ds es : List PyData}, DnAll H vs ds → DnAll H ws es → DnAll H (vs ++ ws) (ds ++ es)
  | _, _, _, _, .nil, h => h
  | _, _, _, _, .cons a b, h => .cons a (DnAll.app b h)
theorem DnAll.drop {H : Hp} : ∀ {vs : List V} {ds : List PyData} (n : Nat), DnAll H vs ds → DnAll H (vs.drop n) (ds.drop n)
  | _, _, 0, h => h
  | _, _, _ + 1, .nil => .nil
  | _, _, n + 1, .cons _ b => DnAll.drop n b
theorem DnAll.take {H : Hp} : ∀ {vs : List V} {ds : List PyData} (n : Nat), DnAll H vs ds → DnAll H (vs.take n) (ds.take n)
  | _, _, 0, _ => .nil
  | _, _, _ + 1, .nil => .nil
  | _, _, n + 1, .cons a b => .cons a (DnAll.take n b)
theorem DnAll.rep {H : Hp} {vs : List V} {ds : List PyData} (h : DnAll H vs ds) : ∀ n : Nat, DnAll H (List.replicate n vs).flatten (List.replicate n ds).flatten
  | 0 => .nil
  | n + 1 => h.app (DnAll.rep h n)
theorem DnAll.ints {H : Hp} : ∀ {vs : List V} {ns : List Int}, DnAll H vs (ns.map PyData.int) → vs = ns.map V.int
  | _, [], h => by cases h; rfl
  | _, n :: ns, h => by
    cases h with
    | cons a b =>
      cases a
      rw [DnAll.ints b]
      rfl
theorem DnAll.bools {H : Hp} : ∀ {vs : List V} {ns : List Bool}, DnAll H vs (ns.map PyData.bool) → vs = ns.map V.bl
  | _, [], h => by cases h; rfl
  | _, n :: ns, h => by
    cases h with
    | cons a b =>
      cases a
      rw [DnAll.bools b]
      rfl
/-! to the layer (no dicts) -/
mutual
def noDict : PyData → Bool
  | .dict _ => false
  | .list ds => noDicts ds
  | .tuple ds => noDicts ds
  | _ => true
def noDicts : List PyData → Bool
  | [] => true
  | d :: ds => noDict d && noDicts ds
end
mutual
theorem dp_of {K : PySem.W.Frag} {H : Hp} : ∀ (d : PyData) (v : V), noDict d = true → Dn H v d → Dp K H v d
  | .none, _, _, h => by cases h; exact .non
  | .bool b, _, _, h => by cases h; exact .bl b
  | .int i, _, _, h => by cases h; exact .int i
  | .str x, _, _, h => by cases h; exact .str x
  | .list ds, _, n, h => by
    cases h with
    | lst hs ha => exact .lst (.inl (.inl hs)) (dpAll_of ds _ n ha)
  | .tuple ds, _, n, h => by
    cases h with
    | tup hs ha => exact .tup (.inl (.inl hs)) (dpAll_of ds _ n ha)
  | .dict es, _, n, h => by cases n
theorem dpAll_of {K : PySem.W.Frag} {H : Hp} : ∀ (ds : List PyData) (vs : List V), noDicts ds = true → DnAll H vs ds → DpAll K H vs ds
  | [], _, _, h => by cases h; exact .nil
  | d :: ds, _, n, h => by
    cases h with
    | cons h1 h2 =>
      have n' := Bool.and_eq_true_iff.mp (show (noDict d && noDicts ds) = true from n)
      exact .cons (dp_of d _ n'.1 h1) (dpAll_of ds _ n'.2 h2)
end

/-! ### items -/
section
variable {P P' H H' : Hp}
def RepI (P : Hp) (v : V) : It → Prop
  | .d x => Dn P v x
  | .v u => v = u
  | .m u φ _ => v = u ∧ φ P
  | .w φ _ => φ v P
def RepIs (P : Hp) : List V → List It → Prop
  | [], [] => True
  | v :: vs, i :: is => RepI P v i ∧ RepIs P vs is
  | _, _ => False
theorem RepI.ex {v : V} {i : It} (e : Ex P P') (h : RepI P v i) : RepI P' v i := by
  cases i with
  | d x => exact dn_ex e x v h
  | v u => exact h
  | m u φ k => exact ⟨h.1, k _ _ e h.2⟩
  | w φ k => exact k _ _ _ e h
theorem RepIs.ex (e : Ex P P') : ∀ {vs : List V} {is : List It}, RepIs P vs is → RepIs P' vs is
  | [], [], _ => trivial
  | v :: vs, i :: is, h => ⟨h.1.ex e, RepIs.ex e h.2⟩
  | [], _ :: _, h => h.elim
  | _ :: _, [], h => h.elim
theorem RepIs.len : ∀ {vs : List V} {is : List It}, RepIs P vs is → vs.length = is.length
  | [], [], _ => rfl
  | v :: vs, i :: is, h => by rw [List.length_cons, List.length_cons, RepIs.len h.2]
  | [], _ :: _, h => h.elim
  | _ :: _, [], h => h.elim
theorem RepIs.app : ∀ {vs ws : List V} {is js : List It}, RepIs P vs is → RepIs P ws js → RepIs P (vs ++ ws) (is ++ js)
  | [], _, [], _, _, h => h
  | v :: vs, _, i :: is, _, h, g => ⟨h.1, RepIs.app h.2 g⟩
  | [], _, _ :: _, _, h, _ => h.elim
  | _ :: _, _, [], _, h, _ => h.elim
theorem RepIs.get : ∀ {vs : List V} {is : List It} {n : Nat} {i : It}, RepIs P vs is → is[n]? = some i → ∃ v, vs[n]? = some v ∧ RepI P v i
  | [], [], _, _, _, e => by simp at e
  | v :: vs, j :: is, 0, i, h, e => by
    have e' : j = i := Option.some.inj e
    exact ⟨v, rfl, e' ▸ h.1⟩
  | v :: vs, j :: is, n + 1, i, h, e => RepIs.get (vs := vs) (is := is) (n := n) h.2 e
  | [], _ :: _, _, _, h, _ => h.elim
  | _ :: _, [], _, _, h, _ => h.elim
theorem RepIs.set {v : V} {i : It} (r : RepI P v i) : ∀ {vs : List V} {is : List It} (n : Nat), RepIs P vs is → RepIs P (vs.set n v) (is.set n i)
  | [], [], _, _ => trivial
  | _ :: _, _ :: _, 0, h => ⟨r, h.2⟩
  | _ :: _, _ :: _, n + 1, h => ⟨h.1, RepIs.set r n h.2⟩
  | [], _ :: _, _, h => h.elim
  | _ :: _, [], _, h => h.elim
theorem RepIs.of_all : ∀ {vs : List V} {ds : List PyData}, DnAll P vs ds → RepIs P vs (ds.map It.d)
  | _, [], h => by cases h; trivial
  | _, d :: ds, h => by
    cases h with
    | cons h1 h2 => exact ⟨h1, RepIs.of_all h2⟩
theorem RepIs.to_all : ∀ {vs : List V} {ds : List PyData}, RepIs P vs (ds.map It.d) → DnAll P vs ds
  | [], [], _ => .nil
  | v :: vs, d :: ds, h => .cons h.1 (RepIs.to_all h.2)
  | [], _ :: _, h => h.elim
  | _ :: _, [], h => h.elim
end

/-! ### what stands at a point: entry facts, slots, cells -/
structure Ent where
  P0 : Hp
  H0 : Hp
  F : List Addr
/-- no dict is under a lock -/
def NzD (H : Hp) : Prop := ∀ a od kvs, H a ≠ some (.frz od (.dK kvs))
theorem NzD.new {H : Hp} (h : NzD H) {p : Addr} {o : HO} (nf : ∀ od kvs, o ≠ .frz od (.dK kvs)) : NzD (upd H p o) := fun a od kvs e => by
  by_cases ea : a = p
  · subst ea
    rw [upd_same] at e
    exact nf od kvs (Option.some.inj e)
  · rw [upd_ne ea] at e
    exact h a od kvs e
structure Holds (N : Ent) (P H : Hp) (M : Mem) : Prop where
  exw : ExW P H
  ex0 : Ex N.P0 P
  fr : ∀ b o, N.H0 b = some o → b ∉ N.F → H b = some o
  nw : ∀ b, N.P0 b = none → P b ≠ none → N.H0 b = none
  mem : ∀ c ∈ M, P c.1 = none ∧ ∃ xs, H c.1 = some (.lst xs) ∧ RepIs P xs c.2
  nd : (M.map Prod.fst).Nodup
  mf : ∀ a ∈ N.F, a ∈ M.map Prod.fst
  fs : ∀ c ∈ M, c.1 ∈ N.F ∨ N.H0 c.1 = none
  uf : ∀ a od kvs, H a = some (.frz od (.dK kvs)) → N.H0 a = some (.frz od (.dK kvs))
  pf : NzD P
theorem Holds.ex {N : Ent} {P H : Hp} {M : Mem} (h : Holds N P H M) (a : Addr) (o : HO) (e : P a = some o) (nd : ∀ kvs, o ≠ .dK kvs := by intro _ h; cases h) : H a = some o := by
  rcases h.exw a o e with k | ⟨⟨kvs, k⟩, _⟩
  · exact k
  · exact absurd k (nd kvs)
theorem Holds.no {N : Ent} {P H : Hp} {M : Mem} (h : Holds N P H M) {p : Addr} (hp : H p = none) : P p = none := by
  cases e : P p with
  | none => rfl
  | some u =>
    rcases h.exw p u e with k | ⟨_, od, k⟩
    · rw [hp] at k; cases k
    · rw [hp] at k; cases k
theorem Holds.ufu {N : Ent} {P H : Hp} {M : Mem} (h : Holds N P H M) {p : Addr} {o : HO} (nf : ∀ od kvs, o ≠ .frz od (.dK kvs)) (a : Addr) (od : Obj) (u : List (Key × V)) (e : upd H p o a = some (.frz od (.dK u))) : N.H0 a = some (.frz od (.dK u)) := by
  by_cases ea : a = p
  · subst ea
    rw [upd_same] at e
    exact absurd (Option.some.inj e) (nf od u)
  · rw [upd_ne ea] at e
    exact h.uf a od u e
def Slots (P : Hp) (σ : L2.St) (ρ : Rho) : Prop :=
  σ.length = ρ.length ∧ ∀ (i : Nat) it, ρ[i]? = some (some it) → ∃ v, σ[i]? = some (some v) ∧ RepI P v it

section
variable {N : Ent} {P P' H H' : Hp} {M : Mem} {σ : L2.St} {ρ : Rho}
theorem Slots.ex (e : Ex P P') (h : Slots P σ ρ) : Slots P' σ ρ := ⟨h.1, fun i it q => by
  obtain ⟨v, a, b⟩ := h.2 i it q
  exact ⟨v, a, b.ex e⟩⟩
theorem Slots.set {v : V} {it : It} (r : RepI P v it) (i : Nat) (h : Slots P σ ρ) : Slots P (σ.set i (some v)) (ρ.set i (some it)) := by
  refine ⟨by rw [List.length_set, List.length_set]; exact h.1, fun j jt q => ?_⟩
  by_cases e : i = j
  · subst e
    by_cases l : i < ρ.length
    · rw [List.getElem?_set_self l] at q
      cases Option.some.inj q
      exact ⟨v, List.getElem?_set_self (h.1 ▸ l), r⟩
    · rw [List.getElem?_eq_none (by rw [List.length_set]; omega)] at q
      cases q
  · rw [List.getElem?_set_ne e] at q ⊢
    exact h.2 j jt q
theorem Slots.unset (i : Nat) (h : Slots P σ ρ) (x : Option V) : Slots P (σ.set i x) (ρ.set i none) := by
  refine ⟨by rw [List.length_set, List.length_set]; exact h.1, fun j jt q => ?_⟩
  by_cases e : i = j
  · subst e
    by_cases l : i < ρ.length
    · rw [List.getElem?_set_self l] at q
      cases Option.some.inj q
    · rw [List.getElem?_eq_none (by rw [List.length_set]; omega)] at q
      cases q
  · rw [List.getElem?_set_ne e] at q ⊢
    exact h.2 j jt q
/-- fewer slots known -/
theorem Slots.weak {ρ' : Rho} (h : Slots P σ ρ) (hl : ρ'.length = ρ.length) (w : ∀ (i : Nat) (it : It), ρ'[i]? = some (some it) → ρ[i]? = some (some it)) : Slots P σ ρ' :=
  ⟨h.1.trans hl.symm, fun i it q => h.2 i it (w i it q)⟩
theorem Holds.cell (h : Holds N P H M) {a : Addr} {its : List It} (hm : (a, its) ∈ M) : ∃ xs, H a = some (.lst xs) ∧ RepIs P xs its := (h.mem _ hm).2
/-- a new persistent object -/
theorem Holds.pers (h : Holds N P H M) {p : Addr} {o : HO} (hp : H p = none) (nf : ∀ od kvs, o ≠ .frz od (.dK kvs) := by intro _ _ h; cases h) : Holds N (upd P p o) (upd H p o) M ∧ Ex P (upd P p o) := by
  have pn : P p = none := h.no hp
  have h0 : N.H0 p = none ∨ p ∈ N.F := by
    by_cases f : p ∈ N.F
    · exact .inr f
    · refine .inl ?_
      cases e : N.H0 p with
      | none => rfl
      | some u => rw [h.fr p u e f] at hp; cases hp
  have np : p ∉ N.F := fun f => by
    obtain ⟨c, hc, e⟩ := List.mem_map.mp (h.mf p f)
    obtain ⟨xs, e1, _⟩ := (h.mem c hc).2
    rw [e, hp] at e1
    cases e1
  have q : Ex P (upd P p o) := Ex.new pn
  refine ⟨⟨fun a u e => ?_, h.ex0.trans q, fun b u e f => ?_, fun b e f => ?_, fun c hc => ?_, h.nd, h.mf, h.fs, fun a od u e => ?_, h.pf.new nf⟩, q⟩
  · by_cases ea : a = p
    · subst ea
      rw [upd_same] at e ⊢
      exact .inl e
    · rw [upd_ne ea] at e ⊢
      exact h.exw a u e
  · have := h.fr b u e f
    rw [upd_ne (ne_of_none this hp)]
    exact this
  · by_cases eb : b = p
    · subst eb
      rcases h0 with h0 | h0
      · exact h0
      · exact absurd h0 np
    · rw [upd_ne eb] at f
      exact h.nw b e f
  · obtain ⟨a1, xs, a2, a3⟩ := h.mem c hc
    have ne : c.1 ≠ p := ne_of_none a2 hp
    exact ⟨by rw [upd_ne ne]; exact a1, xs, by rw [upd_ne ne]; exact a2, a3.ex q⟩
  · exact h.ufu nf a od u e
/-- a new own list -/
theorem Holds.own (h : Holds N P H M) {p : Addr} {xs : List V} {its : List It} (hp : H p = none) (r : RepIs P xs its) : Holds N P (upd H p (.lst xs)) (M ++ [(p, its)]) := by
  have pn : P p = none := h.no hp
  have np : p ∉ M.map Prod.fst := fun f => by
    obtain ⟨c, hc, e⟩ := List.mem_map.mp f
    obtain ⟨xs, e1, _⟩ := (h.mem c hc).2
    rw [e, hp] at e1
    cases e1
  have h0 : N.H0 p = none := by
    cases e : N.H0 p with
    | none => rfl
    | some u => rw [h.fr p u e (fun f => np (h.mf p f))] at hp; cases hp
  refine ⟨fun a u e => ?_, h.ex0, fun b u e f => ?_, h.nw, fun c hc => ?_, ?_, fun a ha => ?_, fun c hc => ?_, h.ufu (o := .lst xs) (fun _ _ h => by cases h), h.pf⟩
  · rw [upd_ne (ne_of_none e pn)]
    exact h.exw a u e
  · have := h.fr b u e f
    rw [upd_ne (ne_of_none this hp)]
    exact this
  · rcases List.mem_append.mp hc with hc | hc
    · obtain ⟨a1, xs, a2, a3⟩ := h.mem c hc
      have ne : c.1 ≠ p := ne_of_none a2 hp
      exact ⟨a1, xs, by rw [upd_ne ne]; exact a2, a3⟩
    · cases List.mem_singleton.mp hc
      exact ⟨pn, xs, upd_same, r⟩
  · rw [List.map_append]
    refine List.nodup_append.mpr ⟨h.nd, by simp, fun a ha b hb => ?_⟩
    simp at hb
    subst hb
    exact fun e => np (e ▸ ha)
  · rw [List.map_append]
    exact List.mem_append_left _ (h.mf a ha)
  · rcases List.mem_append.mp hc with hc | hc
    · exact h.fs c hc
    · cases List.mem_singleton.mp hc
      exact .inr h0
def Mem.put (M : Mem) (a : Addr) (its : List It) : Mem := M.map fun c => if c.1 = a then (a, its) else c
theorem put_fst (M : Mem) (a : Addr) (its : List It) : (M.put a its).map Prod.fst = M.map Prod.fst := by
  unfold Mem.put
  rw [List.map_map]
  refine List.map_congr_left fun c _ => ?_
  show (if c.1 = a then (a, its) else c).1 = c.1
  by_cases e : c.1 = a
  · rw [if_pos e]; exact e.symm
  · rw [if_neg e]
/-- an own list changes -/
theorem Holds.write (h : Holds N P H M) {a : Addr} {its its' : List It} {xs' : List V} (hm : (a, its) ∈ M) (r : RepIs P xs' its') : Holds N P (upd H a (.lst xs')) (M.put a its') := by
  have an : P a = none := (h.mem _ hm).1
  refine ⟨fun b u e => ?_, h.ex0, fun b u e f => ?_, h.nw, fun c hc => ?_, by rw [put_fst]; exact h.nd, fun b hb => by rw [put_fst]; exact h.mf b hb, fun c hc => ?_, h.ufu (o := .lst xs') (fun _ _ h => by cases h), h.pf⟩
  · rw [upd_ne (ne_of_none e an)]
    exact h.exw b u e
  · have ne : b ≠ a := fun z => by
      subst z
      rcases h.fs _ hm with k | k
      · exact f k
      · rw [show N.H0 b = none from k] at e; cases e
    rw [upd_ne ne]
    exact h.fr b u e f
  · obtain ⟨c0, hc0, e⟩ := List.mem_map.mp hc
    by_cases q : c0.1 = a
    · rw [if_pos q] at e
      subst e
      exact ⟨an, xs', upd_same, r⟩
    · rw [if_neg q] at e
      subst e
      obtain ⟨a1, xs, a2, a3⟩ := h.mem c0 hc0
      exact ⟨a1, xs, by rw [upd_ne q]; exact a2, a3⟩
  · obtain ⟨c0, hc0, e⟩ := List.mem_map.mp hc
    by_cases q : c0.1 = a
    · rw [if_pos q] at e
      subst e
      exact h.fs (a, its) hm
    · rw [if_neg q] at e
      subst e
      exact h.fs c0 hc0
/-- cells forgotten, others in another order -/
theorem Holds.sub (h : Holds N P H M) {M' : Mem} (s : ∀ c ∈ M', c ∈ M) (nd : (M'.map Prod.fst).Nodup) (mf : ∀ a ∈ N.F, a ∈ M'.map Prod.fst) : Holds N P H M' :=
  ⟨h.exw, h.ex0, h.fr, h.nw, fun c hc => h.mem c (s c hc), nd, mf, fun c hc => h.fs c (s c hc), h.uf, h.pf⟩
/-- an own list of data becomes persistent -/
theorem Holds.freeze (h : Holds N P H M) {a : Addr} {ds : List PyData} (hm : (a, ds.map It.d) ∈ M) (hf : a ∉ N.F) :
    ∃ P', Ex P P' ∧ Dn P' (.ref a) (.list ds) ∧ Holds N P' H (M.filter fun c => decide (c.1 ≠ a)) := by
  obtain ⟨an, xs, e, r⟩ := h.mem _ hm
  have q : Ex P (upd P a (.lst xs)) := Ex.new an
  refine ⟨upd P a (.lst xs), q, .lst upd_same (dnAll_ex q _ _ r.to_all), fun b u z => ?_, h.ex0.trans q, h.fr, fun b z f => ?_, fun c hc => ?_, ?_, fun b hb => ?_, fun c hc => h.fs c (List.mem_filter.mp hc).1, h.uf, h.pf.new (o := .lst xs) (fun _ _ h => by cases h)⟩
  · by_cases eb : b = a
    · subst eb
      rw [upd_same] at z
      rw [← z]
      exact .inl e
    · rw [upd_ne eb] at z
      exact h.exw b u z
  · by_cases eb : b = a
    · subst eb
      rcases h.fs _ hm with k | k
      · exact absurd k hf
      · exact k
    · rw [upd_ne eb] at f
      exact h.nw b z f
  · obtain ⟨hc, ne⟩ := List.mem_filter.mp hc
    have ne : c.1 ≠ a := of_decide_eq_true ne
    obtain ⟨a1, ys, a2, a3⟩ := h.mem c hc
    exact ⟨by rw [upd_ne ne]; exact a1, ys, a2, a3.ex q⟩
  · exact (h.nd.sublist ((List.filter_sublist (l := M)).map _))
  · obtain ⟨c, hc, e⟩ := List.mem_map.mp (h.mf b hb)
    refine List.mem_map.mpr ⟨c, List.mem_filter.mpr ⟨hc, decide_eq_true fun z => hf ?_⟩, e⟩
    rw [← z, e]
    exact hb
end
end Kt

namespace Kt
open PySem PySem.Spec PyProof.Rows L2

/-! ### what an expression, a test, arguments, a statement need, canonically -/
def wE (X : Cx) (e : Expr) : TE := fun σ H Q => ∀ pins s, Inv X pins σ H s → wpAny (model X.prog X.w) X.A (eval e X.env) (EP X pins σ Q) X.xe s
def wT (X : Cx) (e : Expr) : TT := fun σ H Q => ∀ pins s, Inv X pins σ H s → wpAny (model X.prog X.w) X.A (isTrue e X.env (eval e X.env)) (TP X pins σ Q) X.xe s
def wW (X : Cx) (e : Expr) : TT := fun σ H Q => ∀ (whole : Sem Value) pins s, Inv X pins σ H s → wpAny (model X.prog X.w) X.A (isTrue e X.env whole) (TP X pins σ Q) X.xe s
def wA (X : Cx) (es : List Expr) : TA := fun σ H Q => ∀ (pos : Pos) pins s, Inv X pins σ H s → wpAny (model X.prog X.w) X.A (spliced (backTo pos (starEach es X.env))) (AP X pins σ Q) X.xe s
def wS (X : Cx) (st : Stmt) : TS := fun D σ H => ∀ pins s, Inv X pins σ H s → wpAny (model X.prog X.w) X.A (exec st X.env) (SP X pins D) X.xe s
def wSs (X : Cx) (st : List Stmt) : TS := fun D σ H => ∀ pins s, Inv X pins σ H s → wpAny (model X.prog X.w) X.A (execs st X.env) (SP X pins D) X.xe s
def wG (X : Cx) (tg : Expr) : TG := fun v σ H Q => ∀ pins s (u : Value), Inv X pins σ H s → RelV v u → wpAny (model X.prog X.w) X.A (assign tg X.env u) (fun _ s' => ∃ σ' H', Inv X pins σ' H' s' ∧ Q σ' H') X.xe s
section
variable {X : Cx}
theorem pe_w {e : Expr} : PE X e (wE X e) := ⟨fun pins s σ H Q I h => h pins s I⟩
theorem pt_w {e : Expr} : PT X e (wT X e) := ⟨fun pins s σ H Q I h => h pins s I⟩
theorem pw_w {e : Expr} : PW X e (wW X e) := ⟨fun wh pins s σ H Q I h => h wh pins s I⟩
theorem pa_w {es : List Expr} : PA X es (wA X es) := ⟨fun pos pins s σ H Q I h => h pos pins s I⟩
theorem ps_w {st : Stmt} : PS X st (wS X st) := ⟨fun pins s σ H D I h => h pins s I⟩
theorem pss_w {st : List Stmt} : PSs X st (wSs X st) := ⟨fun pins s σ H D I h => h pins s I⟩
theorem pg_w {tg : Expr} : PG X tg (wG X tg) := ⟨fun pins s σ H v u Q I r h => h pins s u I r⟩
theorem e_of {e : Expr} {t : TE} (h : PE X e t) {σ : L2.St} {H : Hp} {Q : VK} (q : t σ H Q) : wE X e σ H Q := fun pins s I => h.run pins s σ H Q I q
theorem t_of {e : Expr} {t : TT} (h : PT X e t) {σ : L2.St} {H : Hp} {Q : Bool → Hp → Prop} (q : t σ H Q) : wT X e σ H Q := fun pins s I => h.run pins s σ H Q I q
theorem w_of {e : Expr} {t : TT} (h : PW X e t) {σ : L2.St} {H : Hp} {Q : Bool → Hp → Prop} (q : t σ H Q) : wW X e σ H Q := fun wh pins s I => h.run wh pins s σ H Q I q
theorem a_of {es : List Expr} {t : TA} (h : PA X es t) {σ : L2.St} {H : Hp} {Q : List V → Hp → Prop} (q : t σ H Q) : wA X es σ H Q := fun pos pins s I => h.run pos pins s σ H Q I q
theorem s_of {st : Stmt} {t : TS} (h : PS X st t) {σ : L2.St} {H : Hp} {D : Ends} (q : t D σ H) : wS X st D σ H := fun pins s I => h.run pins s σ H D I q
theorem ss_of {st : List Stmt} {t : TS} (h : PSs X st t) {σ : L2.St} {H : Hp} {D : Ends} (q : t D σ H) : wSs X st D σ H := fun pins s I => h.run pins s σ H D I q
theorem g_of {tg : Expr} {t : TG} (h : PG X tg t) {v : V} {σ : L2.St} {H : Hp} {Q : L2.St → Hp → Prop} (q : t v σ H Q) : wG X tg v σ H Q := fun pins s u I r => h.run pins s σ H v u Q I r q
end

/-! ### judgements over symbolic states -/
def EJ (X : Cx) (N : Ent) (ρ : Rho) (M : Mem) (e : Expr) (i : It) (M' : Mem) : Prop :=
  ∀ σ H P, Holds N P H M → Slots P σ ρ → ∀ Q : VK, (∀ v H' P', Ex P P' → Holds N P' H' M' → RepI P' v i → Q v H') → wE X e σ H Q
/-- e gives a new list of these items -/
def EL (X : Cx) (N : Ent) (ρ : Rho) (M : Mem) (e : Expr) (is : List It) (M' : Mem) : Prop :=
  ∀ σ H P, Holds N P H M → Slots P σ ρ → ∀ Q : VK, (∀ p H' P', Ex P P' → p ∉ N.F → Holds N P' H' (M' ++ [(p, is)]) → Q (.ref p) H') → wE X e σ H Q
def TJ (X : Cx) (N : Ent) (ρ : Rho) (M : Mem) (e : Expr) (b : Bool) (M' : Mem) : Prop :=
  ∀ σ H P, Holds N P H M → Slots P σ ρ → ∀ Q : Bool → Hp → Prop, (∀ H' P', Ex P P' → Holds N P' H' M' → Q b H') → wT X e σ H Q
def WJ (X : Cx) (N : Ent) (ρ : Rho) (M : Mem) (e : Expr) (b : Bool) (M' : Mem) : Prop :=
  ∀ σ H P, Holds N P H M → Slots P σ ρ → ∀ Q : Bool → Hp → Prop, (∀ H' P', Ex P P' → Holds N P' H' M' → Q b H') → wW X e σ H Q
def AJ (X : Cx) (N : Ent) (ρ : Rho) (M : Mem) (es : List Expr) (is : List It) (M' : Mem) : Prop :=
  ∀ σ H P, Holds N P H M → Slots P σ ρ → ∀ Q : List V → Hp → Prop, (∀ vs H' P', Ex P P' → Holds N P' H' M' → RepIs P' vs is → Q vs H') → wA X es σ H Q
/-- a rule by values -/
def RJ (N : Ent) (r : R2) (M : Mem) (i j k : It) (M' : Mem) : Prop :=
  ∀ x y H P, Holds N P H M → RepI P x i → RepI P y j → ∀ Q : VK, (∀ v H' P', Ex P P' → Holds N P' H' M' → RepI P' v k → Q v H') → r x y H Q
/-- a built-in's call by values -/
def CJ (N : Ent) (r : List V → Hp → VK → Prop) (M : Mem) (is : List It) (k : It) (M' : Mem) : Prop :=
  ∀ vs H P, Holds N P H M → RepIs P vs is → ∀ Q : VK, (∀ v H' P', Ex P P' → Holds N P' H' M' → RepI P' v k → Q v H') → r vs H Q
def CL (N : Ent) (r : List V → Hp → VK → Prop) (M : Mem) (is js : List It) (M' : Mem) : Prop :=
  ∀ vs H P, Holds N P H M → RepIs P vs is → ∀ Q : VK, (∀ p H' P', Ex P P' → p ∉ N.F → Holds N P' H' (M' ++ [(p, js)]) → Q (.ref p) H') → r vs H Q
theorem Holds.newF {N : Ent} {P H : Hp} {M : Mem} (h : Holds N P H M) {p : Addr} (hp : H p = none) : p ∉ N.F := fun f => by
  obtain ⟨c, hc, e⟩ := List.mem_map.mp (h.mf p f)
  obtain ⟨xs, e1, _⟩ := (h.mem c hc).2
  rw [e, hp] at e1
  cases e1
theorem filter_last {M : Mem} {p : Addr} {is : List It} (nd : ((M ++ [(p, is)]).map Prod.fst).Nodup) : ((M ++ [(p, is)]).filter fun c => decide (c.1 ≠ p)) = M := by
  rw [List.filter_append]
  have h2 : ([(p, is)].filter fun c : Addr × List It => decide (c.1 ≠ p)) = [] := by simp
  rw [h2, List.append_nil]
  refine List.filter_eq_self.mpr fun c hc => decide_eq_true fun e => ?_
  rw [List.map_append] at nd
  have := (List.nodup_append.mp nd).2.2 c.1 (List.mem_map.mpr ⟨c, hc, rfl⟩) p (by simp)
  exact this e

section
variable {X : Cx} {N : Ent} {ρ : Rho} {M M1 M2 M3 M' : Mem} {a b c e : Expr} {pos : Pos} {i j k : It}
abbrev dI (n : Int) : It := .d (.int n)
abbrev dB (b : Bool) : It := .d (.bool b)
theorem ri_int {P : Hp} {v : V} {n : Int} (h : RepI P v (dI n)) : v = .int n := by cases (show Dn P v (.int n) from h); rfl
theorem ri_bl {P : Hp} {v : V} {n : Bool} (h : RepI P v (dB n)) : v = .bl n := by cases (show Dn P v (.bool n) from h); rfl
theorem ri_str {P : Hp} {v : V} {n : Str} (h : RepI P v (.d (.str n))) : v = .str n := by cases (show Dn P v (.str n) from h); rfl
theorem ri_non {P : Hp} {v : V} (h : RepI P v (.d .none)) : v = .non := by cases (show Dn P v .none from h); rfl
theorem ri_tup {P : Hp} {v : V} {ds : List PyData} (h : RepI P v (.d (.tuple ds))) : ∃ a xs, v = .ref a ∧ P a = some (.tup xs) ∧ DnAll P xs ds := by
  cases (show Dn P v (.tuple ds) from h) with
  | tup h1 h2 => exact ⟨_, _, rfl, h1, h2⟩
theorem ri_lst {P : Hp} {v : V} {ds : List PyData} (h : RepI P v (.d (.list ds))) : ∃ a xs, v = .ref a ∧ P a = some (.lst xs) ∧ DnAll P xs ds := by
  cases (show Dn P v (.list ds) from h) with
  | lst h1 h2 => exact ⟨_, _, rfl, h1, h2⟩

/-! names and constants -/
theorem ej_name (n : Nat) {x : Str} (hρ : ρ[n]? = some (some i) := by rfl) (hN : X.N[n]? = some x := by rfl) (hv : Vis X.env.scope x := by first | exact Or.inl rfl | exact Or.inr (Or.inl rfl) | exact Or.inr (Or.inr rfl)) (hd : (x == ("__debug__" : Str)) = false := by decide)
    (hcd : (x == ("__classdict__" : Str)) = false := by decide) : EJ X N ρ M (.Name x pos) i M := fun σ H P h g Q q => by
  obtain ⟨v, e, r⟩ := g.2 n i hρ
  exact e_of (pe_var (i := n) hN hv hd hcd) ⟨v, e, q v H P (Ex.refl P) h r⟩
theorem ej_int {n : Int} {j : Nat} : EJ X N ρ M (.Constant (.int n) j pos) (dI n) M := fun σ H P h g Q q => e_of pe_int (q _ H P (Ex.refl P) h (.int n))
theorem ej_bl {n : Bool} {j : Nat} : EJ X N ρ M (.Constant (.bool n) j pos) (dB n) M := fun σ H P h g Q q => e_of pe_bl (q _ H P (Ex.refl P) h (.bl n))
theorem ej_non {j : Nat} : EJ X N ρ M (.Constant .none j pos) (.d .none) M := fun σ H P h g Q q => e_of pe_non (q _ H P (Ex.refl P) h .non)
theorem ej_str {n : Str} {j : Nat} : EJ X N ρ M (.Constant (.str n) j pos) (.d (.str n)) M := fun σ H P h g Q q => e_of pe_str (q _ H P (Ex.refl P) h (.str n))
/-- a module's int -/
theorem ej_gint {x : Str} {n : Int} {t : Tok} (hm : X.mg x = some (.int n t)) (hg : Gl X x := by rfl) (hd : (x == ("__debug__" : Str)) = false := by decide) : EJ X N ρ M (.Name x pos) (dI n) M := fun σ H P h g Q q =>
  e_of (pe_glob (v := .int n) hg hm ⟨t, rfl⟩ hd) (q _ H P (Ex.refl P) h (.int n))

/-! operators -/
theorem ej_op {op : Operator} {r : R2} (ho : OpR X (binaryOp op) r) (ha : EJ X N ρ M a i M1) (hb : EJ X N ρ M1 b j M2) (hr : RJ N r M2 i j k M3) : EJ X N ρ M (.BinOp a op b pos) k M3 := fun σ H P h g Q q =>
  e_of (pe_op ho pe_w pe_w) (ha σ H P h g _ fun x H1 P1 e1 h1 r1 => hb σ H1 P1 h1 (g.ex e1) _ fun y H2 P2 e2 h2 r2 =>
    hr x y H2 P2 h2 (r1.ex e2) r2 Q fun v H3 P3 e3 h3 r3 => q v H3 P3 ((e1.trans e2).trans e3) h3 r3)
theorem ej_cmp {op : CmpOp} {r : R2} (ho : OpR X (compareOp op) r) (hm : behindInMarks op b = false) (ha : EJ X N ρ M a i M1) (hb : EJ X N ρ M1 b j M2) (hr : RJ N r M2 i j k M3) : EJ X N ρ M (.Compare a [op] [b] pos) k M3 := fun σ H P h g Q q =>
  e_of (pe_cmpR ho pe_w pe_w hm) (ha σ H P h g _ fun x H1 P1 e1 h1 r1 => hb σ H1 P1 h1 (g.ex e1) _ fun y H2 P2 e2 h2 r2 =>
    hr x y H2 P2 h2 (r1.ex e2) r2 Q fun v H3 P3 e3 h3 r3 => q v H3 P3 ((e1.trans e2).trans e3) h3 r3)
theorem tj_cmp {op : CmpOp} {r : R2} {t : Bool} (ho : OpR X (compareOp op) r) (hm : behindInMarks op b = false) (ha : EJ X N ρ M a i M1) (hb : EJ X N ρ M1 b j M2) (hr : RJ N r M2 i j (dB t) M3) : TJ X N ρ M (.Compare a [op] [b] pos) t M3 := fun σ H P h g Q q =>
  t_of (pt_cmpR ho pe_w pe_w hm) (ha σ H P h g _ fun x H1 P1 e1 h1 r1 => hb σ H1 P1 h1 (g.ex e1) _ fun y H2 P2 e2 h2 r2 =>
    hr x y H2 P2 h2 (r1.ex e2) r2 _ fun v H3 P3 e3 h3 r3 => ⟨t, ri_bl r3, q H3 P3 ((e1.trans e2).trans e3) h3⟩)
theorem ej_un {op : UnaryOp} {r : V → Hp → VK → Prop} (ho : UnR X (unaryOp op) r) (ha : EJ X N ρ M a i M1) (hr : ∀ x H P, Holds N P H M1 → RepI P x i → ∀ Q : VK, (∀ v, RepI P v k → Q v H) → r x H Q) : EJ X N ρ M (.UnaryOp op a pos) k M1 := fun σ H P h g Q q =>
  e_of (pe_un ho pe_w) (ha σ H P h g _ fun x H1 P1 e1 h1 r1 => hr x H1 P1 h1 r1 Q fun v r => q v H1 P1 e1 h1 r)
theorem ej_neg {n : Int} (ha : EJ X N ρ M a (dI n) M1) : EJ X N ρ M (.UnaryOp .USub a pos) (dI (-n)) M1 := ej_un un_neg ha fun x H P h r Q q => ⟨n, ri_int r, q _ (.int _)⟩
theorem rj_I0 {g : Int → Int → Int} {n m : Int} : RJ N (rI0 fun i j => .int (g i j)) M (dI n) (dI m) (dI (g n m)) M := fun x y H P h rx ry Q q =>
  ⟨n, m, ri_int rx, ri_int ry, q _ H P (Ex.refl P) h (.int _)⟩
theorem rj_B0 {g : Int → Int → Bool} {n m : Int} : RJ N (rI0 fun i j => .bl (g i j)) M (dI n) (dI m) (dB (g n m)) M := fun x y H P h rx ry Q q =>
  ⟨n, m, ri_int rx, ri_int ry, q _ H P (Ex.refl P) h (.bl _)⟩
theorem rj_I {C : Int → Int → Prop} {g : Int → Int → Int} {n m : Int} (hc : C n m) : RJ N (rI C fun i j => .int (g i j)) M (dI n) (dI m) (dI (g n m)) M := fun x y H P h rx ry Q q =>
  ⟨n, m, ri_int rx, ri_int ry, hc, q _ H P (Ex.refl P) h (.int _)⟩
theorem ej_add {n m : Int} (ha : EJ X N ρ M a (dI n) M1) (hb : EJ X N ρ M1 b (dI m) M2) : EJ X N ρ M (.BinOp a .Add b pos) (dI (n + m)) M2 := ej_op op_add ha hb rj_I0
theorem ej_sub {n m : Int} (ha : EJ X N ρ M a (dI n) M1) (hb : EJ X N ρ M1 b (dI m) M2) : EJ X N ρ M (.BinOp a .Sub b pos) (dI (n - m)) M2 := ej_op op_sub ha hb rj_I0
theorem ej_mul {n m : Int} (ha : EJ X N ρ M a (dI n) M1) (hb : EJ X N ρ M1 b (dI m) M2) (hc : CMul n m) : EJ X N ρ M (.BinOp a .Mult b pos) (dI (n * m)) M2 := ej_op op_mul ha hb (rj_I hc)
theorem ej_fdiv {n m : Int} (ha : EJ X N ρ M a (dI n) M1) (hb : EJ X N ρ M1 b (dI m) M2) (hc : 0 < m ∧ m < 1073741824) : EJ X N ρ M (.BinOp a .FloorDiv b pos) (dI (n / m)) M2 := ej_op op_fdiv ha hb (rj_I hc)
theorem ej_mod {n m : Int} (ha : EJ X N ρ M a (dI n) M1) (hb : EJ X N ρ M1 b (dI m) M2) (hc : 0 < m) : EJ X N ρ M (.BinOp a .Mod b pos) (dI (n % m)) M2 := ej_op op_mod ha hb (rj_I hc)
theorem ej_shl {n m : Int} (ha : EJ X N ρ M a (dI n) M1) (hb : EJ X N ρ M1 b (dI m) M2) (hc : CPow n m) : EJ X N ρ M (.BinOp a .LShift b pos) (dI (n * 2 ^ m.toNat)) M2 := ej_op op_shl ha hb (rj_I hc)
theorem ej_shr {n m : Int} (ha : EJ X N ρ M a (dI n) M1) (hb : EJ X N ρ M1 b (dI m) M2) (hc : 0 ≤ m) : EJ X N ρ M (.BinOp a .RShift b pos) (dI (n / 2 ^ m.toNat)) M2 := ej_op op_shr ha hb (rj_I hc)
theorem ej_and {n m : Int} (ha : EJ X N ρ M a (dI n) M1) (hb : EJ X N ρ M1 b (dI m) M2) : EJ X N ρ M (.BinOp a .BitAnd b pos) (dI (Builtin.bitAnd n m)) M2 := ej_op op_and ha hb rj_I0
theorem ej_xor {n m : Int} (ha : EJ X N ρ M a (dI n) M1) (hb : EJ X N ρ M1 b (dI m) M2) : EJ X N ρ M (.BinOp a .BitXor b pos) (dI (Builtin.bitXor n m)) M2 := ej_op op_xor ha hb rj_I0
theorem tj_lt {n m : Int} (ha : EJ X N ρ M a (dI n) M1) (hb : EJ X N ρ M1 b (dI m) M2) : TJ X N ρ M (.Compare a [.Lt] [b] pos) (decide (n < m)) M2 := tj_cmp op_lt (nomark _) ha hb rj_B0
theorem tj_le {n m : Int} (ha : EJ X N ρ M a (dI n) M1) (hb : EJ X N ρ M1 b (dI m) M2) : TJ X N ρ M (.Compare a [.LtE] [b] pos) (decide (n ≤ m)) M2 := tj_cmp op_le (nomark _) ha hb rj_B0
theorem tj_gt {n m : Int} (ha : EJ X N ρ M a (dI n) M1) (hb : EJ X N ρ M1 b (dI m) M2) : TJ X N ρ M (.Compare a [.Gt] [b] pos) (decide (m < n)) M2 := tj_cmp op_gt (nomark _) ha hb rj_B0
theorem tj_ge {n m : Int} (ha : EJ X N ρ M a (dI n) M1) (hb : EJ X N ρ M1 b (dI m) M2) : TJ X N ρ M (.Compare a [.GtE] [b] pos) (decide (m ≤ n)) M2 := tj_cmp op_ge (nomark _) ha hb rj_B0
/-- == of scalars -/
def scalD : PyData → PyData → Option Bool
  | .int a, .int b => some (decide (a = b))
  | .bool a, .bool b => some (decide (a = b))
  | .str a, .str b => some (decide (a = b))
  | .none, .none => some true
  | _, _ => none
theorem rj_eqI {n m : Int} : RJ N rEq M (dI n) (dI m) (dB (decide (n = m))) M := fun x y H P h rx ry Q q => by
  cases ri_int rx
  cases ri_int ry
  refine ⟨rfl, q _ H P (Ex.refl P) h ?_⟩
  have e : decide (V.int n = V.int m) = decide (n = m) := by
    by_cases z : n = m
    · subst z; simp
    · simp [z]
  rw [e]
  exact .bl _
theorem tj_eqI {n m : Int} (ha : EJ X N ρ M a (dI n) M1) (hb : EJ X N ρ M1 b (dI m) M2) : TJ X N ρ M (.Compare a [.Eq] [b] pos) (decide (n = m)) M2 := tj_cmp op_eq (nomark _) ha hb rj_eqI
theorem ej_eqI {n m : Int} (ha : EJ X N ρ M a (dI n) M1) (hb : EJ X N ρ M1 b (dI m) M2) : EJ X N ρ M (.Compare a [.Eq] [b] pos) (dB (decide (n = m))) M2 := ej_cmp op_eq (nomark _) ha hb rj_eqI
theorem rj_neI {n m : Int} : RJ N rNe M (dI n) (dI m) (dB (!decide (n = m))) M := fun x y H P h rx ry Q q => by
  cases ri_int rx
  cases ri_int ry
  refine ⟨rfl, q _ H P (Ex.refl P) h ?_⟩
  have e : decide (V.int n = V.int m) = decide (n = m) := by
    by_cases z : n = m
    · subst z; simp
    · simp [z]
  rw [e]
  exact .bl _
theorem tj_neI {n m : Int} (ha : EJ X N ρ M a (dI n) M1) (hb : EJ X N ρ M1 b (dI m) M2) : TJ X N ρ M (.Compare a [.NotEq] [b] pos) (!decide (n = m)) M2 := tj_cmp op_ne (nomark _) ha hb rj_neI

/-! what an item reads as, in cells -/
inductive Rd1 (M : Mem) : It → PyData → Prop
  | d (x : PyData) : Rd1 M (.d x) x
  | own {a : Addr} {ds : List PyData} : (a, ds.map It.d) ∈ M → Rd1 M (.v (.ref a)) (.list ds)
theorem Rd1.dn {P H : Hp} (h : Holds N P H M) {v : V} {i : It} {d : PyData} (r : RepI P v i) (k : Rd1 M i d) : Dn H v d := by
  cases k with
  | d => exact dnw_ex h.exw d v r
  | own hm =>
    obtain ⟨xs, e, q⟩ := h.cell hm
    cases (show v = .ref _ from r)
    exact .lst e (dnwAll_ex h.exw _ _ q.to_all)
def plainD (d : PyData) : Bool := noDict d && SeqAt.shaped d
theorem rj_eqD {d d' : PyData} (hi : Rd1 M i d) (hj : Rd1 M j d') (s1 : plainD d = true) (s2 : plainD d' = true) : RJ N (rEqD X.K) M i j (dB (PyData.eqv d d')) M := fun x y H P h rx ry Q q => by
  have a1 := Bool.and_eq_true_iff.mp s1
  have a2 := Bool.and_eq_true_iff.mp s2
  exact ⟨d, d', dp_of d x a1.1 (hi.dn h rx), dp_of d' y a2.1 (hj.dn h ry), a1.2, a2.2, q _ H P (Ex.refl P) h (.bl _)⟩
theorem rj_neD {d d' : PyData} (hi : Rd1 M i d) (hj : Rd1 M j d') (s1 : plainD d = true) (s2 : plainD d' = true) : RJ N (rNeD X.K) M i j (dB (!PyData.eqv d d')) M := fun x y H P h rx ry Q q => by
  have a1 := Bool.and_eq_true_iff.mp s1
  have a2 := Bool.and_eq_true_iff.mp s2
  exact ⟨d, d', dp_of d x a1.1 (hi.dn h rx), dp_of d' y a2.1 (hj.dn h ry), a1.2, a2.2, q _ H P (Ex.refl P) h (.bl _)⟩

/-! subscripts -/
theorem rj_ixT {ds : List PyData} {n : Int} {d : PyData} (hd : atI ds n = some d) : RJ N (rIxT X.K) M (.d (.tuple ds)) (dI n) (.d d) M := fun x y H P h rx ry Q q => by
  obtain ⟨a, xs, rfl, h1, h2⟩ := ri_tup rx
  obtain ⟨j, e1, e2⟩ : ∃ j, ixN ds.length n = some j ∧ ds[j]? = some d := by
    unfold atI at hd
    cases e : ixN ds.length n with
    | none => rw [e] at hd; cases hd
    | some j => rw [e] at hd; exact ⟨j, rfl, hd⟩
  obtain ⟨v, e3, e4⟩ := dnAll_get h2 e2
  refine ⟨a, xs, n, v, rfl, ri_int ry, .inl (.inl (h.ex _ _ h1)), ?_, q v H P (Ex.refl P) h e4⟩
  unfold atI
  rw [dnAll_len h2, e1]
  exact e3
theorem rj_ixL {ds : List PyData} {n : Int} {d : PyData} (hd : atI ds n = some d) : RJ N (rIxL X.K) M (.d (.list ds)) (dI n) (.d d) M := fun x y H P h rx ry Q q => by
  obtain ⟨a, xs, rfl, h1, h2⟩ := ri_lst rx
  obtain ⟨j, e1, e2⟩ : ∃ j, ixN ds.length n = some j ∧ ds[j]? = some d := by
    unfold atI at hd
    cases e : ixN ds.length n with
    | none => rw [e] at hd; cases hd
    | some j => rw [e] at hd; exact ⟨j, rfl, hd⟩
  obtain ⟨v, e3, e4⟩ := dnAll_get h2 e2
  refine ⟨a, xs, n, v, rfl, ri_int ry, .inl (.inl (h.ex _ _ h1)), ?_, q v H P (Ex.refl P) h e4⟩
  unfold atI
  rw [dnAll_len h2, e1]
  exact e3
theorem rj_ixO {p : Addr} {is : List It} {n : Int} {k : It} (hm : (p, is) ∈ M) (hd : atI is n = some k) : RJ N (rIxL X.K) M (.v (.ref p)) (dI n) k M := fun x y H P h rx ry Q q => by
  obtain ⟨xs, h1, h2⟩ := h.cell hm
  cases (show x = .ref p from rx)
  obtain ⟨j, e1, e2⟩ : ∃ j, ixN is.length n = some j ∧ is[j]? = some k := by
    unfold atI at hd
    cases e : ixN is.length n with
    | none => rw [e] at hd; cases hd
    | some j => rw [e] at hd; exact ⟨j, rfl, hd⟩
  obtain ⟨v, e3, e4⟩ := h2.get e2
  refine ⟨p, xs, n, v, rfl, ri_int ry, .inl (.inl h1), ?_, q v H P (Ex.refl P) h e4⟩
  unfold atI
  rw [h2.len, e1]
  exact e3
theorem ej_ix {r : R2} (hr : IxR X r) (ha : EJ X N ρ M a i M1) (hb : EJ X N ρ M1 b j M2) (hj : RJ N r M2 i j k M3) (hs : PlainIx b := by exact fun _ _ => rfl) : EJ X N ρ M (.Subscript a b pos) k M3 := fun σ H P h g Q q =>
  e_of (pe_ix hr pe_w pe_w hs) (ha σ H P h g _ fun x H1 P1 e1 h1 r1 => hb σ H1 P1 h1 (g.ex e1) _ fun y H2 P2 e2 h2 r2 =>
    hj x y H2 P2 h2 (r1.ex e2) r2 Q fun v H3 P3 e3 h3 r3 => q v H3 P3 ((e1.trans e2).trans e3) h3 r3)
theorem ej_ixT {ds : List PyData} {n : Int} {d : PyData} (ha : EJ X N ρ M a (.d (.tuple ds)) M1) (hb : EJ X N ρ M1 b (dI n) M2) (hd : atI ds n = some d) (hs : PlainIx b := by exact fun _ _ => rfl) : EJ X N ρ M (.Subscript a b pos) (.d d) M2 := ej_ix ix_tup ha hb (rj_ixT hd) hs
theorem ej_ixL {ds : List PyData} {n : Int} {d : PyData} (ha : EJ X N ρ M a (.d (.list ds)) M1) (hb : EJ X N ρ M1 b (dI n) M2) (hd : atI ds n = some d) (hs : PlainIx b := by exact fun _ _ => rfl) : EJ X N ρ M (.Subscript a b pos) (.d d) M2 := ej_ix ix_list ha hb (rj_ixL hd) hs
theorem ej_ixO {p : Addr} {is : List It} {n : Int} {k : It} (ha : EJ X N ρ M a (.v (.ref p)) M1) (hb : EJ X N ρ M1 b (dI n) M2) (hm : (p, is) ∈ M2) (hd : atI is n = some k) (hs : PlainIx b := by exact fun _ _ => rfl) : EJ X N ρ M (.Subscript a b pos) k M2 := ej_ix ix_list ha hb (rj_ixO hm hd) hs

/-! arguments, displays -/
theorem aj_nil : AJ X N ρ M [] [] M := fun σ H P h g Q q => a_of pa_nil (q [] H P (Ex.refl P) h trivial)
theorem aj_cons {es : List Expr} {is : List It} (ha : EJ X N ρ M a i M1) (hb : AJ X N ρ M1 es is M2) (hs : starEach (a :: es) X.env = (false, eval a X.env) :: starEach es X.env := by rfl) : AJ X N ρ M (a :: es) (i :: is) M2 := fun σ H P h g Q q =>
  a_of (pa_cons pe_w pa_w hs) (ha σ H P h g _ fun x H1 P1 e1 h1 r1 => hb σ H1 P1 h1 (g.ex e1) _ fun vs H2 P2 e2 h2 r2 => q _ H2 P2 (e1.trans e2) h2 ⟨r1.ex e2, r2⟩)
def allD : List It → Option (List PyData)
  | [] => some []
  | .d x :: r => (allD r).map (x :: ·)
  | _ => none
theorem allD_eq : ∀ {is : List It} {ds : List PyData}, allD is = some ds → is = ds.map It.d
  | [], ds, h => by cases Option.some.inj h; rfl
  | .d x :: r, ds, h => by
    cases e : allD r with
    | none => rw [show allD (.d x :: r) = (allD r).map (x :: ·) from rfl, e] at h; cases h
    | some l =>
      rw [show allD (.d x :: r) = (allD r).map (x :: ·) from rfl, e] at h
      cases Option.some.inj h
      rw [allD_eq e]
      rfl
  | .v u :: r, ds, h => by cases h
  | .m u φ k :: r, ds, h => by cases h
  | .w φ k :: r, ds, h => by cases h
theorem ej_tup {es : List Expr} {is : List It} {ds : List PyData} {n : Nat} (ha : AJ X N ρ M es is M1) (hd : allD is = some ds := by rfl) (hz : ds.length ≤ 100000 := by first | decide | (simp; done)) : EJ X N ρ M (.Tuple es n pos) (.d (.tuple ds)) M1 := fun σ H P h g Q q =>
  e_of (pe_tup pa_w) (ha σ H P h g _ fun xs H1 P1 e1 h1 r1 => by
    rw [allD_eq hd] at r1
    have z := dnAll_len r1.to_all
    refine ⟨by rw [z]; exact Nat.le_trans hz (by decide), fun p hp => ?_⟩
    obtain ⟨h2, e2⟩ := h1.pers (o := .tup xs) hp
    exact q _ _ _ (e1.trans e2) h2 (.tup upd_same (dnAll_ex e2 _ _ r1.to_all)))
theorem el_disp {es : List Expr} {is : List It} (ha : AJ X N ρ M es is M1) (hz : is.length ≤ 100000 := by first | decide | (simp; done)) : EL X N ρ M (.List es pos) is M1 := fun σ H P h g Q q =>
  e_of (pe_lst pa_w) (ha σ H P h g _ fun xs H1 P1 e1 h1 r1 => by
    have z : xs.length ≤ sizeLine := by rw [r1.len]; exact Nat.le_trans hz (by decide)
    exact ⟨z, fun p hp => q p _ P1 e1 (h1.newF hp) (h1.own hp r1)⟩)
/-- a new list that stays as it is -/
theorem ej_el {is : List It} {ds : List PyData} (h : EL X N ρ M e is M1) (hd : is = ds.map It.d) : EJ X N ρ M e (.d (.list ds)) M1 := fun σ H P hh g Q q =>
  h σ H P hh g Q fun p H1 P1 e1 hp h1 => by
    subst hd
    obtain ⟨P2, e2, dn, h2⟩ := h1.freeze (a := p) (ds := ds) (List.mem_append_right _ (List.mem_singleton.mpr rfl)) hp
    rw [filter_last h1.nd] at h2
    exact q _ H1 P2 (e1.trans e2) h2 dn

/-! built-ins called by name -/
theorem ej_callB {x : Str} {id : String} {r : List V → Hp → VK → Prop} {p : Pos} {es : List Expr} {is : List It} (hc : CallR X (.builtin id) r) (hm : X.mg x = none) (hv : bootBuiltins x = some (.builtin id)) (ha : AJ X N ρ M (e :: es) is M1) (hr : CJ N r M1 is k M2)
    (hg : Gl X x := by rfl) (hn : x ≠ "__name__" := by decide) (hdb : (x == ("__debug__" : Str)) = false := by decide)
    (he : starEach (e :: es) X.env = (false, eval e X.env) :: starEach es X.env := by rfl) (hpl : (backTo pos (starEach es X.env)).any (·.1) = false := by rfl) : EJ X N ρ M (.Call (.Name x p) (e :: es) [] pos) k M2 := fun σ H P h g Q q =>
  e_of (pe_callB hc hg hm hv pa_w hn hdb he hpl) (ha σ H P h g _ fun vs H1 P1 e1 h1 r1 => hr vs H1 P1 h1 r1 Q fun v H2 P2 e2 h2 r2 => q v H2 P2 (e1.trans e2) h2 r2)
theorem ej_callTy {x : Str} {T : String} {r : List V → Hp → VK → Prop} {p : Pos} {es : List Expr} {is : List It} (hc : CallR X (.type T) r) (hm : X.mg x = none) (hv : bootBuiltins x = some (.type T)) (ha : AJ X N ρ M (e :: es) is M1) (hr : CJ N r M1 is k M2)
    (hg : Gl X x := by rfl) (hn : x ≠ "__name__" := by decide) (hdb : (x == ("__debug__" : Str)) = false := by decide)
    (he : starEach (e :: es) X.env = (false, eval e X.env) :: starEach es X.env := by rfl) (hpl : (backTo pos (starEach es X.env)).any (·.1) = false := by rfl) : EJ X N ρ M (.Call (.Name x p) (e :: es) [] pos) k M2 := fun σ H P h g Q q =>
  e_of (pe_callTy hc hg hm hv pa_w hn hdb he hpl) (ha σ H P h g _ fun vs H1 P1 e1 h1 r1 => hr vs H1 P1 h1 r1 Q fun v H2 P2 e2 h2 r2 => q v H2 P2 (e1.trans e2) h2 r2)
end
end Kt

namespace Kt
open PySem PySem.Spec PyProof.Rows L2
section
variable {X : Cx} {N : Ent} {ρ ρ' : Rho} {M M1 M2 M3 M' : Mem} {a b c e : Expr} {pos : Pos} {i j k : It} {t u : Bool}

/-! tests -/
theorem tj_val (h : EJ X N ρ M e (dB t) M1) (he : ∀ whole, isTrue e X.env whole = (do let v ← whole; standAt e.pos; holding [v] (truthy v)) := by intro _; rfl) : TJ X N ρ M e t M1 := fun σ H P hh g Q q =>
  t_of (pt_val pe_w he) (h σ H P hh g _ fun v H1 P1 e1 h1 r1 => ⟨t, ri_bl r1, q H1 P1 e1 h1⟩)
theorem tj_w (h : WJ X N ρ M e t M1) : TJ X N ρ M e t M1 := fun σ H P hh g Q q => t_of pw_w.pt (h σ H P hh g Q q)
theorem tj_not (h : TJ X N ρ M a t M1) : TJ X N ρ M (.UnaryOp .Not a pos) (!t) M1 := fun σ H P hh g Q q => t_of (pt_not pt_w) (h σ H P hh g _ q)
theorem wj_and1 (h : TJ X N ρ M a t M1) : WJ X N ρ M (.BoolOp .And [a] pos) t M1 := fun σ H P hh g Q q => w_of (pw_and1 pt_w) (h σ H P hh g Q q)
theorem wj_or1 (h : TJ X N ρ M a t M1) : WJ X N ρ M (.BoolOp .Or [a] pos) t M1 := fun σ H P hh g Q q => w_of (pw_or1 pt_w) (h σ H P hh g Q q)
theorem wj_and {es : List Expr} (h : TJ X N ρ M a t M1) (h2 : t = true → WJ X N ρ M1 (.BoolOp .And (b :: es) pos) u M1) : WJ X N ρ M (.BoolOp .And (a :: b :: es) pos) (t && u) M1 := fun σ H P hh g Q q =>
  w_of (pw_and pt_w pw_w) (h σ H P hh g _ fun H1 P1 e1 h1 => by
    cases t with
    | true => exact iteT (h2 rfl σ H1 P1 h1 (g.ex e1) Q fun H2 P2 e2 h3 => q H2 P2 (e1.trans e2) h3)
    | false => exact iteF (q H1 P1 e1 h1))
theorem wj_or {es : List Expr} (h : TJ X N ρ M a t M1) (h2 : t = false → WJ X N ρ M1 (.BoolOp .Or (b :: es) pos) u M1) : WJ X N ρ M (.BoolOp .Or (a :: b :: es) pos) (t || u) M1 := fun σ H P hh g Q q =>
  w_of (pw_or pt_w pw_w) (h σ H P hh g _ fun H1 P1 e1 h1 => by
    cases t with
    | true => exact iteT (q H1 P1 e1 h1)
    | false => exact iteF (h2 rfl σ H1 P1 h1 (g.ex e1) Q fun H2 P2 e2 h3 => q H2 P2 (e1.trans e2) h3))
theorem tj_is (h : TJ X N ρ M e t M1) (q : t = u) : TJ X N ρ M e u M1 := q ▸ h
theorem ej_is (h : EJ X N ρ M e i M1) (q : i = j) : EJ X N ρ M e j M1 := q ▸ h
/-! as values -/
theorem ej_one {op : BoolOp} (h : EJ X N ρ M a i M1) : EJ X N ρ M (.BoolOp op [a] pos) i M1 := fun σ H P hh g Q q => e_of (pe_one pe_w) (h σ H P hh g Q q)
theorem ej_andV {es : List Expr} (h : EJ X N ρ M a (dB t) M1) (h2 : t = true → EJ X N ρ M1 (.BoolOp .And (b :: es) pos) (dB u) M1) : EJ X N ρ M (.BoolOp .And (a :: b :: es) pos) (dB (t && u)) M1 := fun σ H P hh g Q q =>
  e_of (pe_and pe_w pe_w) (h σ H P hh g _ fun v H1 P1 e1 h1 r1 => ⟨t, ri_bl r1, by
    cases t with
    | true => exact iteT (h2 rfl σ H1 P1 h1 (g.ex e1) Q fun v2 H2 P2 e2 h3 r => q v2 H2 P2 (e1.trans e2) h3 r)
    | false => exact iteF (q _ H1 P1 e1 h1 (.bl _))⟩)
theorem ej_orV {es : List Expr} (h : EJ X N ρ M a (dB t) M1) (h2 : t = false → EJ X N ρ M1 (.BoolOp .Or (b :: es) pos) (dB u) M1) : EJ X N ρ M (.BoolOp .Or (a :: b :: es) pos) (dB (t || u)) M1 := fun σ H P hh g Q q =>
  e_of (pe_or pe_w pe_w) (h σ H P hh g _ fun v H1 P1 e1 h1 r1 => ⟨t, ri_bl r1, by
    cases t with
    | true => exact iteT (q _ H1 P1 e1 h1 (.bl _))
    | false => exact iteF (h2 rfl σ H1 P1 h1 (g.ex e1) Q fun v2 H2 P2 e2 h3 r => q v2 H2 P2 (e1.trans e2) h3 r)⟩)
theorem ej_notV (h : EJ X N ρ M a (dB t) M1) : EJ X N ρ M (.UnaryOp .Not a pos) (dB (!t)) M1 := fun σ H P hh g Q q =>
  e_of (pe_not pe_w) (h σ H P hh g _ fun v H1 P1 e1 h1 r1 => ⟨t, ri_bl r1, q _ H1 P1 e1 h1 (.bl _)⟩)
theorem ej_if (hc : TJ X N ρ M c t M1) (h1 : t = true → EJ X N ρ M1 a i M2) (h2 : t = false → EJ X N ρ M1 b i M2) : EJ X N ρ M (.IfExp c a b pos) i M2 := fun σ H P hh g Q q =>
  e_of (pe_ifExp pt_w pe_w pe_w) (hc σ H P hh g _ fun H1 P1 e1 hh1 => by
    cases t with
    | true => exact iteT (h1 rfl σ H1 P1 hh1 (g.ex e1) Q fun v H2 P2 e2 h3 r => q v H2 P2 (e1.trans e2) h3 r)
    | false => exact iteF (h2 rfl σ H1 P1 hh1 (g.ex e1) Q fun v H2 P2 e2 h3 r => q v H2 P2 (e1.trans e2) h3 r))
/-- low <= x <= high, as a value, as a test -/
theorem ej_chainLL {n m l : Int} (ha : EJ X N ρ M a (dI n) M) (hb : EJ X N ρ M b (dI m) M) (hc : EJ X N ρ M c (dI l) M) (hm : lastMarks [.LtE, .LtE] [b, c] = false := by with_unfolding_all rfl) : EJ X N ρ M (.Compare a [.LtE, .LtE] [b, c] pos) (dB (decide (n ≤ m) && decide (m ≤ l))) M := fun σ H P h g Q q =>
  e_of (pe_chain op_le op_le pe_w pe_w pe_w hm) (ha σ H P h g _ fun x H1 P1 e1 h1 r1 => hb σ H1 P1 h1 (g.ex e1) _ fun y H2 P2 e2 h2 r2 => ⟨n, m, ri_int r1, ri_int r2, decide (n ≤ m), rfl, by
    cases z : decide (n ≤ m) with
    | false => exact iteF (q _ H2 P2 (e1.trans e2) h2 (by rw [z]; exact .bl _))
    | true => exact iteT (hc σ H2 P2 h2 (g.ex (e1.trans e2)) _ fun w H3 P3 e3 h3 r3 => ⟨m, l, ri_int r2, ri_int r3, q _ H3 P3 ((e1.trans e2).trans e3) h3 (by rw [z]; exact .bl _)⟩)⟩)

/-! ### built-ins -/
theorem ri2 {P : Hp} {vs : List V} {i j : It} (h : RepIs P vs [i, j]) : ∃ x y, vs = [x, y] ∧ RepI P x i ∧ RepI P y j := by
  match vs, h with
  | [x, y], h => exact ⟨x, y, rfl, h.1, h.2.1⟩
theorem ri1 {P : Hp} {vs : List V} {i : It} (h : RepIs P vs [i]) : ∃ x, vs = [x] ∧ RepI P x i := by
  match vs, h with
  | [x], h => exact ⟨x, rfl, h.1⟩
theorem ej_len {p q : Pos} {x : It} {n : Nat} (hm : X.mg "len" = none) (ha : EJ X N ρ M a x M1) (hn : ∀ v H P, Holds N P H M1 → RepI P v x → ∃ y ys, v = .ref y ∧ (SqL X.K H y ys ∨ SqT X.K H y ys) ∧ ys.length = n)
    (hg : Gl X "len" := by rfl) (he : starEach [a] X.env = [(false, eval a X.env)] := by rfl) (hpl : (backTo q (starEach ([] : List Expr) X.env)).any (·.1) = false := by rfl) : EJ X N ρ M (.Call (.Name "len" p) [a] [] q) (dI (n : Int)) M1 :=
  ej_callB call_len_seq hm PySem.boot_len (aj_cons ha aj_nil he) (fun vs H P h rr Q q => by
    obtain ⟨x, rfl, r⟩ := ri1 rr
    obtain ⟨y, ys, rfl, s, z⟩ := hn x H P h r
    exact ⟨y, ys, rfl, s, q _ H P (Ex.refl P) h (by rw [z]; exact .int _)⟩) hg (by decide) (by decide) he hpl
theorem ej_lenL {p q : Pos} {ds : List PyData} (hm : X.mg "len" = none) (ha : EJ X N ρ M a (.d (.list ds)) M1) (hg : Gl X "len" := by rfl) (he : starEach [a] X.env = [(false, eval a X.env)] := by rfl) (hpl : (backTo q (starEach ([] : List Expr) X.env)).any (·.1) = false := by rfl) :
    EJ X N ρ M (.Call (.Name "len" p) [a] [] q) (dI (ds.length : Int)) M1 := ej_len hm ha (fun v H P h r => by
  obtain ⟨y, ys, rfl, h1, h2⟩ := ri_lst r
  exact ⟨y, ys, rfl, .inl (.inl (.inl (h.ex _ _ h1))), dnAll_len h2⟩) hg he hpl
theorem ej_lenT {p q : Pos} {ds : List PyData} (hm : X.mg "len" = none) (ha : EJ X N ρ M a (.d (.tuple ds)) M1) (hg : Gl X "len" := by rfl) (he : starEach [a] X.env = [(false, eval a X.env)] := by rfl) (hpl : (backTo q (starEach ([] : List Expr) X.env)).any (·.1) = false := by rfl) :
    EJ X N ρ M (.Call (.Name "len" p) [a] [] q) (dI (ds.length : Int)) M1 := ej_len hm ha (fun v H P h r => by
  obtain ⟨y, ys, rfl, h1, h2⟩ := ri_tup r
  exact ⟨y, ys, rfl, .inr (.inl (.inl (h.ex _ _ h1))), dnAll_len h2⟩) hg he hpl
theorem ej_lenO {p q : Pos} {o : Addr} {is : List It} (hm : X.mg "len" = none) (ha : EJ X N ρ M a (.v (.ref o)) M1) (hM : (o, is) ∈ M1) (hg : Gl X "len" := by rfl) (he : starEach [a] X.env = [(false, eval a X.env)] := by rfl) (hpl : (backTo q (starEach ([] : List Expr) X.env)).any (·.1) = false := by rfl) :
    EJ X N ρ M (.Call (.Name "len" p) [a] [] q) (dI (is.length : Int)) M1 := ej_len hm ha (fun v H P h r => by
  cases (show v = .ref o from r)
  obtain ⟨xs, h1, h2⟩ := h.cell hM
  exact ⟨o, xs, rfl, .inl (.inl (.inl h1)), h2.len⟩) hg he hpl
theorem ej_intc {p q : Pos} {n : Int} (hm : X.mg "int" = none) (ha : EJ X N ρ M a (dI n) M1) (hg : Gl X "int" := by rfl) (he : starEach [a] X.env = [(false, eval a X.env)] := by rfl) (hpl : (backTo q (starEach ([] : List Expr) X.env)).any (·.1) = false := by rfl) :
    EJ X N ρ M (.Call (.Name "int" p) [a] [] q) (dI n) M1 := ej_callTy call_int1 hm (by decide +kernel) (aj_cons ha aj_nil he) (fun vs H P h rr Q q => by
  obtain ⟨x, rfl, r⟩ := ri1 rr
  cases ri_int r
  exact .inl ⟨n, rfl, q _ H P (Ex.refl P) h (.int _)⟩) hg (by decide) (by decide) he hpl
theorem ej_abs {p q : Pos} {n : Int} (hm : X.mg "abs" = none) (ha : EJ X N ρ M a (dI n) M1) (hg : Gl X "abs" := by rfl) (he : starEach [a] X.env = [(false, eval a X.env)] := by rfl) (hpl : (backTo q (starEach ([] : List Expr) X.env)).any (·.1) = false := by rfl) :
    EJ X N ρ M (.Call (.Name "abs" p) [a] [] q) (dI (if n < 0 then -n else n)) M1 := ej_callB call_abs hm (by decide +kernel) (aj_cons ha aj_nil he) (fun vs H P h rr Q q => by
  obtain ⟨x, rfl, r⟩ := ri1 rr
  cases ri_int r
  exact ⟨n, rfl, q _ H P (Ex.refl P) h (.int _)⟩) hg (by decide) (by decide) he hpl
theorem ej_sum {p q : Pos} {ns : List Int} (hc : X.calm = true) (hm : X.mg "sum" = none) (ha : EJ X N ρ M a (.d (.list (ns.map PyData.int))) M1) (hg : Gl X "sum" := by rfl) (he : starEach [a] X.env = [(false, eval a X.env)] := by rfl) (hpl : (backTo q (starEach ([] : List Expr) X.env)).any (·.1) = false := by rfl) :
    EJ X N ρ M (.Call (.Name "sum" p) [a] [] q) (dI ns.sum) M1 := ej_callB (cr_sum hc) hm (by decide +kernel) (aj_cons ha aj_nil he) (fun vs H P h rr Q q => by
  obtain ⟨x, rfl, r⟩ := ri1 rr
  obtain ⟨y, ys, rfl, h1, h2⟩ := ri_lst r
  cases h2.ints
  exact ⟨y, ns, rfl, .inl (.inl (h.ex _ _ h1)), q _ H P (Ex.refl P) h (.int _)⟩) hg (by decide) (by decide) he hpl
theorem ej_all {p q : Pos} {bs : List Bool} (hc : X.calm = true) (hm : X.mg "all" = none) (ha : EJ X N ρ M a (.d (.list (bs.map PyData.bool))) M1) (hg : Gl X "all" := by rfl) (he : starEach [a] X.env = [(false, eval a X.env)] := by rfl) (hpl : (backTo q (starEach ([] : List Expr) X.env)).any (·.1) = false := by rfl) :
    EJ X N ρ M (.Call (.Name "all" p) [a] [] q) (dB (bs.all id)) M1 := ej_callB (cr_all hc) hm (by decide +kernel) (aj_cons ha aj_nil he) (fun vs H P h rr Q q => by
  obtain ⟨x, rfl, r⟩ := ri1 rr
  obtain ⟨y, ys, rfl, h1, h2⟩ := ri_lst r
  cases h2.bools
  exact ⟨y, bs, rfl, .inl (.inl (h.ex _ _ h1)), q _ H P (Ex.refl P) h (.bl _)⟩) hg (by decide) (by decide) he hpl
theorem ej_maxL {p q : Pos} {ns : List Int} {m : Int} (hc : X.calm = true) (hm : X.mg "max" = none) (ha : EJ X N ρ M a (.d (.list (ns.map PyData.int))) M1) (h1 : m ∈ ns) (h2 : ∀ y ∈ ns, y ≤ m) (hg : Gl X "max" := by rfl) (he : starEach [a] X.env = [(false, eval a X.env)] := by rfl) (hpl : (backTo q (starEach ([] : List Expr) X.env)).any (·.1) = false := by rfl) :
    EJ X N ρ M (.Call (.Name "max" p) [a] [] q) (dI m) M1 := ej_callB (cr_max hc) hm (by decide +kernel) (aj_cons ha aj_nil he) (fun vs H P h rr Q q => by
  obtain ⟨x, rfl, r⟩ := ri1 rr
  obtain ⟨y, ys, rfl, h3, h4⟩ := ri_lst r
  cases h4.ints
  refine ⟨y, ns, rfl, .inl (.inl (h.ex _ _ h3)), List.length_pos_of_mem h1, fun m' hm' hy => ?_⟩
  have e : m' = m := by have := hy m h1; have := h2 m' hm'; omega
  exact q _ H P (Ex.refl P) h (e ▸ .int _)) hg (by decide) (by decide) he hpl
/-- tuple(a list): a new tuple -/
theorem ej_tupleL {p q : Pos} {is : List It} {ds : List PyData} (hm : X.mg "tuple" = none) (ha : EL X N ρ M a is M1) (hd : is = ds.map It.d) (hg : Gl X "tuple" := by rfl) (he : starEach [a] X.env = [(false, eval a X.env)] := by rfl) (hpl : (backTo q (starEach ([] : List Expr) X.env)).any (·.1) = false := by rfl) :
    EJ X N ρ M (.Call (.Name "tuple" p) [a] [] q) (.d (.tuple ds)) M1 := ej_callTy call_tuple_of hm (by decide +kernel) (aj_cons (ej_el ha hd) aj_nil he) (fun vs H P h rr Q q => by
  obtain ⟨x, rfl, r⟩ := ri1 rr
  obtain ⟨y, ys, rfl, h1, h2⟩ := ri_lst r
  refine ⟨y, ys, rfl, .inl ⟨.inl (.inl (h.ex _ _ h1)), fun l hl => ?_⟩⟩
  obtain ⟨h3, e3⟩ := h.pers (o := .tup ys) hl
  exact q _ _ _ e3 h3 (.tup upd_same (dnAll_ex e3 _ _ h2))) hg (by decide) (by decide) he hpl
theorem ej_tupleD {p q : Pos} {ds : List PyData} (hm : X.mg "tuple" = none) (ha : EJ X N ρ M a (.d (.list ds)) M1) (hg : Gl X "tuple" := by rfl) (he : starEach [a] X.env = [(false, eval a X.env)] := by rfl) (hpl : (backTo q (starEach ([] : List Expr) X.env)).any (·.1) = false := by rfl) :
    EJ X N ρ M (.Call (.Name "tuple" p) [a] [] q) (.d (.tuple ds)) M1 := ej_callTy call_tuple_of hm (by decide +kernel) (aj_cons ha aj_nil he) (fun vs H P h rr Q q => by
  obtain ⟨x, rfl, r⟩ := ri1 rr
  obtain ⟨y, ys, rfl, h1, h2⟩ := ri_lst r
  refine ⟨y, ys, rfl, .inl ⟨.inl (.inl (h.ex _ _ h1)), fun l hl => ?_⟩⟩
  obtain ⟨h3, e3⟩ := h.pers (o := .tup ys) hl
  exact q _ _ _ e3 h3 (.tup upd_same (dnAll_ex e3 _ _ h2))) hg (by decide) (by decide) he hpl
theorem ej_tupleO {p q : Pos} {o : Addr} {ds : List PyData} (hm : X.mg "tuple" = none) (ha : EJ X N ρ M a (.v (.ref o)) M1) (hM : (o, ds.map It.d) ∈ M1) (hg : Gl X "tuple" := by rfl) (he : starEach [a] X.env = [(false, eval a X.env)] := by rfl) (hpl : (backTo q (starEach ([] : List Expr) X.env)).any (·.1) = false := by rfl) :
    EJ X N ρ M (.Call (.Name "tuple" p) [a] [] q) (.d (.tuple ds)) M1 := ej_callTy call_tuple_of hm (by decide +kernel) (aj_cons ha aj_nil he) (fun vs H P h rr Q q => by
  obtain ⟨x, rfl, r⟩ := ri1 rr
  cases (show x = .ref o from r)
  obtain ⟨ys, h1, h2⟩ := h.cell hM
  refine ⟨o, ys, rfl, .inl ⟨.inl (.inl h1), fun l hl => ?_⟩⟩
  obtain ⟨h3, e3⟩ := h.pers (o := .tup ys) hl
  exact q _ _ _ e3 h3 (.tup upd_same (dnAll_ex e3 _ _ h2.to_all))) hg (by decide) (by decide) he hpl

/-! ### statements -/
structure Post where
  nx : Rho → Mem → Prop
  rt : It → Mem → Prop
  bk : Rho → Mem → Prop := fun _ _ => False
  ct : Rho → Mem → Prop := fun _ _ => False
  er : Str → Mem → Prop := fun _ _ => False
/-- the dict of an exception with this name -/
abbrev XD (z : Str) : HO := .xd [("name", .str z)]
structure ZD (mg : Str → Option Value) (N : Ent) (P : Hp) (Z : Post) (D : Ends) (E : XK) : Prop where
  nx : ∀ ρ' M' σ' H' P', Z.nx ρ' M' → Ex P P' → Holds N P' H' M' → Slots P' σ' ρ' → D.nx σ' H'
  rt : ∀ i M' v H' P', Z.rt i M' → Ex P P' → Holds N P' H' M' → RepI P' v i → D.rt v H'
  bk : ∀ ρ' M' σ' H' P', Z.bk ρ' M' → Ex P P' → Holds N P' H' M' → Slots P' σ' ρ' → D.bk σ' H'
  ct : ∀ ρ' M' σ' H' P', Z.ct ρ' M' → Ex P P' → Holds N P' H' M' → Slots P' σ' ρ' → D.ct σ' H'
  er : ∀ z M' d H' P' C, mg "ShapeError" = some (.ref C) → Z.er z M' → Ex P P' → Holds N P' H' M' → H' d = some (XD z) → E (.ref C) (some d) H'
theorem ZD.ex {mg : Str → Option Value} {P P' : Hp} {Z : Post} {D : Ends} {E : XK} (e : Ex P P') (z : ZD mg N P Z D E) : ZD mg N P' Z D E :=
  ⟨fun ρ' M' σ' H' P'' a b => z.nx ρ' M' σ' H' P'' a (e.trans b), fun i M' v H' P'' a b => z.rt i M' v H' P'' a (e.trans b), fun ρ' M' σ' H' P'' a b => z.bk ρ' M' σ' H' P'' a (e.trans b), fun ρ' M' σ' H' P'' a b => z.ct ρ' M' σ' H' P'' a (e.trans b), fun w M' d H' P'' C c a b => z.er w M' d H' P'' C c a (e.trans b)⟩
def SJ (X : Cx) (N : Ent) (ρ : Rho) (M : Mem) (sts : List Stmt) (Z : Post) : Prop :=
  ∀ σ H P, Holds N P H M → Slots P σ ρ → ∀ (D : Ends) (E : XK), Takes X (fun c d _ H => E c d H) → ZD X.mg N P Z D E → wSs X sts D σ H
/-- a target takes an item -/
def GJ (X : Cx) (N : Ent) (tg : Expr) (i : It) (ρ : Rho) (ρ' : Rho) : Prop :=
  ∀ v σ H P M, Holds N P H M → Slots P σ ρ → RepI P v i → ∀ Q : L2.St → Hp → Prop, (∀ σ', Slots P σ' ρ' → Q σ' H) → wG X tg v σ H Q
variable {Z : Post} {rest : List Stmt}
theorem sj_nil (h : Z.nx ρ M) : SJ X N ρ M [] Z := fun σ H P hh g D E tk z => ss_of pss_nil (z.nx ρ M σ H P h (Ex.refl P) hh g)
theorem sj_cons {st : Stmt} (h : ∀ σ H P, Holds N P H M → Slots P σ ρ → ∀ (D : Ends) (E : XK), Takes X (fun c d _ H => E c d H) → ZD X.mg N P { Z with nx := fun ρ' M' => SJ X N ρ' M' rest Z } D E → wS X st D σ H) : SJ X N ρ M (st :: rest) Z := fun σ H P hh g D E tk z =>
  ss_of (pss_cons ps_w pss_w) (h σ H P hh g _ E tk ⟨fun ρ' M' σ' H' P' a e hh' g' => a σ' H' P' hh' g' D E tk (z.ex e), z.rt, z.bk, z.ct, z.er⟩)
theorem gj_name (n : Nat) {x : Str} (hN : X.N.Nodup) (hi : X.N[n]? = some x := by rfl) (hx : Loc X.env.scope x := by first | exact .inl rfl | exact .inr rfl) (hf : X.fn x = true ∨ X.env.scope.names.lookup x = some .local := by first | exact .inl rfl | exact .inr rfl) :
    GJ X N (.Name x pos) i ρ (ρ.set n (some i)) := fun v σ H P M hh g r Q q => g_of (pg_name (i := n) hN hi hx hf) (q _ (g.set r n))
theorem sj_asgG {tg : Expr} (he : EJ X N ρ M e i M1) (hg : GJ X N tg i ρ ρ') (hr : SJ X N ρ' M1 rest Z) (hs : swapsWithSole [tg] e pos.line X.env = pure false := by rfl) (hw : swappedStores [tg] e X.env = pure none := by rfl)
    (h1 : (assignEach [tg] X.env).map (·.2) = [assign tg X.env] := by rfl) : SJ X N ρ M (.Assign [tg] e pos :: rest) Z := sj_cons fun σ H P hh g D E tk z =>
  s_of (ps_asg pe_w pg_w hs hw h1) (he σ H P hh g _ fun v H1 P1 e1 h1 r1 => hg v σ H1 P1 M1 h1 (g.ex e1) r1 _ fun σ' g' => z.nx ρ' M1 σ' H1 P1 hr e1 h1 g')
/-- x = e -/
theorem sj_set (n : Nat) {x : Str} {pos' : Pos} (hN : X.N.Nodup) (he : EJ X N ρ M e i M1) (hr : SJ X N (ρ.set n (some i)) M1 rest Z) (hi : X.N[n]? = some x := by rfl) (hx : Loc X.env.scope x := by first | exact .inl rfl | exact .inr rfl) (hs : swapsWith e (some (.Name x pos')) pos.line X.env = pure false := by rfl) (hf : X.fn x = true ∨ X.env.scope.names.lookup x = some .local := by first | exact .inl rfl | exact .inr rfl) :
    SJ X N ρ M (.Assign [.Name x pos'] e pos :: rest) Z := sj_cons fun σ H P hh g D E tk z =>
  s_of (ps_set (i := n) hN hi hx pe_w hs hf) (he σ H P hh g _ fun v H1 P1 e1 h1 r1 => z.nx _ M1 _ H1 P1 hr e1 h1 ((g.ex e1).set r1 n))
/-- x = a new list of one's own -/
theorem sj_own (n : Nat) {x : Str} {pos' : Pos} {is : List It} (hN : X.N.Nodup) (he : EL X N ρ M e is M1) (hr : ∀ p, p ∉ N.F → SJ X N (ρ.set n (some (.v (.ref p)))) (M1 ++ [(p, is)]) rest Z) (hi : X.N[n]? = some x := by rfl) (hx : Loc X.env.scope x := by first | exact .inl rfl | exact .inr rfl) (hs : swapsWith e (some (.Name x pos')) pos.line X.env = pure false := by rfl) (hf : X.fn x = true ∨ X.env.scope.names.lookup x = some .local := by first | exact .inl rfl | exact .inr rfl) :
    SJ X N ρ M (.Assign [.Name x pos'] e pos :: rest) Z := sj_cons fun σ H P hh g D E tk z =>
  s_of (ps_set (i := n) hN hi hx pe_w hs hf) (he σ H P hh g _ fun p H1 P1 e1 hp h1 => z.nx _ _ _ _ P1 (hr p hp) e1 h1 ((g.ex e1).set (it := .v (.ref p)) rfl n))
theorem sj_ret (he : EJ X N ρ M e i M1) (h : Z.rt i M1) : SJ X N ρ M (.Return (some e) pos :: rest) Z := sj_cons fun σ H P hh g D E tk z =>
  s_of (ps_ret pe_w) (he σ H P hh g _ fun v H1 P1 e1 h1 r1 => z.rt i M1 v H1 P1 h e1 h1 r1)
theorem sj_retN (h : Z.rt (.d .none) M) : SJ X N ρ M (.Return none pos :: rest) Z := sj_cons fun σ H P hh g D E tk z => s_of ps_retN (z.rt _ M _ H P h (Ex.refl P) hh .non)
theorem sj_if {A B : List Stmt} (hc : TJ X N ρ M c t M1) (h1 : t = true → SJ X N ρ M1 A { Z with nx := fun ρ' M' => SJ X N ρ' M' rest Z }) (h2 : t = false → SJ X N ρ M1 B { Z with nx := fun ρ' M' => SJ X N ρ' M' rest Z }) : SJ X N ρ M (.If c A B pos :: rest) Z := sj_cons fun σ H P hh g D E tk z =>
  s_of (ps_if pt_w pss_w pss_w) (hc σ H P hh g _ fun H1 P1 e1 hh1 => by
    cases t with
    | true => exact iteT (h1 rfl σ H1 P1 hh1 (g.ex e1) D E tk (z.ex e1))
    | false => exact iteF (h2 rfl σ H1 P1 hh1 (g.ex e1) D E tk (z.ex e1)))
theorem sj_expr (he : EJ X N ρ M e i M1) (hr : SJ X N ρ M1 rest Z) (hs : swapsWith e none pos.line X.env = pure false := by rfl) : SJ X N ρ M (.Expr e pos :: rest) Z := sj_cons fun σ H P hh g D E tk z =>
  s_of (ps_expr pe_w hs) (he σ H P hh g _ fun v H1 P1 e1 h1 r1 => z.nx ρ M1 σ H1 P1 hr e1 h1 (g.ex e1))
theorem sj_break (h : Z.bk ρ M) : SJ X N ρ M (.Break pos :: rest) Z := sj_cons fun σ H P hh g D E tk z => s_of ps_break (z.bk ρ M σ H P h (Ex.refl P) hh g)
theorem sj_continue (h : Z.ct ρ M) : SJ X N ρ M (.Continue pos :: rest) Z := sj_cons fun σ H P hh g D E tk z => s_of ps_continue (z.ct ρ M σ H P h (Ex.refl P) hh g)
/-- fewer things known -/
theorem sj_weak {sts : List Stmt} (h : SJ X N ρ' M' sts Z) (hl : ρ'.length = ρ.length) (w : ∀ (n : Nat) (it : It), ρ'[n]? = some (some it) → ρ[n]? = some (some it)) (s : ∀ c ∈ M', c ∈ M) (nd : (M.map Prod.fst).Nodup → (M'.map Prod.fst).Nodup) (mf : ∀ a ∈ N.F, a ∈ M'.map Prod.fst) : SJ X N ρ M sts Z :=
  fun σ H P hh g D E tk z => h σ H P (hh.sub s (nd hh.nd) mf) (g.weak hl w) D E tk z
/-- x += e, ints -/
theorem sj_aug (n : Nat) {x : Str} {pos' : Pos} {op : Operator} {f : Int → Int → Int} {z1 z2 : Int} (ho : PIp X op (ipI f)) (hN : X.N.Nodup) (hρ : ρ[n]? = some (some (dI z1))) (he : EJ X N ρ M e (dI z2) M1) (hr : SJ X N (ρ.set n (some (dI (f z1 z2)))) M1 rest Z) (hi : X.N[n]? = some x := by rfl) (hx : Loc X.env.scope x := by first | exact .inl rfl | exact .inr rfl) (hf : X.fn x = true ∨ X.env.scope.names.lookup x = some .local := by first | exact .inl rfl | exact .inr rfl) :
    SJ X N ρ M (.AugAssign (.Name x pos') op e pos :: rest) Z := sj_cons fun σ H P hh g D E tk z => by
  obtain ⟨v, e0, r0⟩ := g.2 n _ hρ
  refine s_of (ps_aug (i := n) hN hi hx pe_w ho hf) ⟨v, e0, he σ H P hh g _ fun y H1 P1 e1 h1 r1 => ⟨z1, z2, ri_int r0, ri_int r1, ?_⟩⟩
  exact z.nx _ M1 _ H1 P1 hr e1 h1 ((g.ex e1).set (it := dI (f z1 z2)) (.int _) n)
/-- xs.append(e), xs one's own -/
theorem sj_append {ap epos : Pos} {p : Addr} {is is0 : List It} (ho : EJ X N ρ M a (.v (.ref p)) M) (hm0 : (p, is0) ∈ M) (he : EJ X N ρ M e i M1) (hm : (p, is) ∈ M1) (hz : is.length < 100000) (hr : SJ X N ρ (M1.put p (is ++ [i])) rest Z) (hs : swapsWith (.Call (.Attribute a "append" ap) [e] [] pos) none epos.line X.env = pure false := by rfl)
    (hst : starEach [e] X.env = [(false, eval e X.env)] := by rfl) (ps : PE X (.Call (.Attribute a "append" ap) [e] [] pos) (tBM X.K "list" rAppend (wE X a) (wA X [e])) := by exact pe_bm PySem.F.plainAttrs_list PySem.F.slot_list_append PySem.F.type_list_append mt_append pe_w pa_w) : SJ X N ρ M (.Expr (.Call (.Attribute a "append" ap) [e] [] pos) epos :: rest) Z := sj_cons fun σ H P hh g D E tk z => by
  refine s_of (ps_expr ps hs) (ho σ H P hh g _ fun v H1 P1 e1 h1 r1 => ?_)
  cases (show v = .ref p from r1)
  obtain ⟨ys, ey, _⟩ := h1.cell hm0
  refine ⟨.inl ⟨rfl, ys, .inl (.inl ey)⟩, ?_⟩
  refine aj_cons he aj_nil hst σ H1 P1 h1 (g.ex e1) _ fun vs H2 P2 e2 h2 r2 => ?_
  obtain ⟨y, rfl, r3⟩ := ri1 r2
  obtain ⟨xs, e3, r4⟩ := h2.cell hm
  refine ⟨p, xs, y, rfl, rfl, e3, by rw [r4.len]; exact Nat.lt_of_lt_of_le hz (by decide), ?_⟩
  exact z.nx ρ _ σ _ P2 hr (e1.trans e2) (h2.write hm (r4.app ⟨r3, trivial⟩)) (g.ex (e1.trans e2))
/-- xs[i] = e, xs one's own -/
theorem sj_setO {o x : Expr} {spos : Pos} {p : Addr} {is : List It} {n : Nat} (he : EJ X N ρ M e i M1) (ho : EJ X N ρ M1 o (.v (.ref p)) M1) (hx : EJ X N ρ M1 x (dI (n : Int)) M2) (hm : (p, is) ∈ M2) (hn : n < is.length) (hr : SJ X N ρ (M2.put p (is.set n i)) rest Z)
    (ha : ∀ v, assign (.Subscript o x spos) X.env v = (do
      let ov ← holding [v] (eval o X.env)
      let iv ← holding [v, ov] (eval x X.env)
      standAt spos
      holding [v, ov, iv] (setItem ov iv v)
      release [v, ov, iv] []) := by intro _; rfl)
    (hs : swapsWithSole [.Subscript o x spos] e pos.line X.env = pure false := by rfl) (hw : swappedStores [.Subscript o x spos] e X.env = pure none := by rfl)
    (h1 : (assignEach [.Subscript o x spos] X.env).map (·.2) = [assign (.Subscript o x spos) X.env] := by rfl) : SJ X N ρ M (.Assign [.Subscript o x spos] e pos :: rest) Z := sj_cons fun σ H P hh g D E tk z => by
  refine s_of (ps_asg pe_w (pg_sub pe_w pe_w set_list ha) hs hw h1) (he σ H P hh g _ fun v H1 P1 e1 h1 r1 => ho σ H1 P1 h1 (g.ex e1) _ fun ov H2 P2 e2 h2 r2 => hx σ H2 P2 h2 (g.ex (e1.trans e2)) _ fun iv H3 P3 e3 h3 r3 => ?_)
  obtain ⟨xs, e4, r4⟩ := h3.cell hm
  have z4 := r4.len
  refine ⟨p, xs, (n : Int), n, r2, ri_int r3, e4, ?_, ?_⟩
  · unfold ixN
    rw [if_pos (by omega), if_pos (by omega)]
    simp
  · exact z.nx ρ _ σ _ P3 hr ((e1.trans e2).trans e3) (h3.write hm (r4.set ((r1.ex e2).ex e3) n)) (g.ex ((e1.trans e2).trans e3))
/-- an own list of data becomes persistent, at a slot -/
theorem sj_freeze (n : Nat) {p : Addr} {ds : List PyData} {sts : List Stmt} (hρ : ρ[n]? = some (some (.v (.ref p)))) (hm : (p, ds.map It.d) ∈ M) (hF : p ∉ N.F) (hr : SJ X N (ρ.set n (some (.d (.list ds)))) (M.filter fun c => decide (c.1 ≠ p)) sts Z) : SJ X N ρ M sts Z := fun σ H P hh g D E tk z => by
  obtain ⟨P', e, dn, h'⟩ := hh.freeze hm hF
  obtain ⟨v, ev, rv⟩ := g.2 n _ hρ
  cases (show v = .ref p from rv)
  have es : σ.set n (some (.ref p)) = σ := by
    refine List.ext_getElem? fun m => ?_
    by_cases q : n = m
    · subst q
      have l : n < σ.length := (List.getElem?_eq_some_iff.mp ev).1
      rw [List.getElem?_set_self l, ev]
    · rw [List.getElem?_set_ne q]
  have g' := (g.ex e).set (it := .d (.list ds)) (v := .ref p) dn n
  rw [es] at g'
  exact hr σ H P' h' g' D E tk (z.ex e)
end
end Kt

namespace Kt
open PySem PySem.Spec PyProof.Rows L2

/-! ### the frame: a part of the cells alone -/
section
variable {N : Ent} {P P' H H' : Hp} {Mc Mr Mc' : Mem}
abbrev inner (P H : Hp) (Mc : Mem) : Ent := ⟨P, H, Mc.map Prod.fst⟩
theorem Holds.h0_none (h : Holds N P H Mc) {b : Addr} (hb : H b = none) : N.H0 b = none := by
  cases e : N.H0 b with
  | none => rfl
  | some o =>
    by_cases f : b ∈ N.F
    · exact absurd f (h.newF hb)
    · rw [h.fr b o e f] at hb; cases hb
theorem Holds.enter (h : Holds N P H (Mc ++ Mr)) : Holds (inner P H Mc) P H Mc :=
  ⟨h.exw, Ex.refl P, fun _ _ e _ => e, fun b e f => absurd e f, fun c hc => h.mem c (List.mem_append_left _ hc), by
    have := h.nd
    rw [List.map_append] at this
    exact (List.nodup_append.mp this).1, fun a ha => ha, fun c hc => .inl (List.mem_map.mpr ⟨c, hc, rfl⟩), fun _ _ _ e => e, h.pf⟩
theorem Holds.leave (h : Holds N P H (Mc ++ Mr)) (h' : Holds (inner P H Mc) P' H' Mc') : Holds N P' H' (Mc' ++ Mr) := by
  have nd := h.nd
  rw [List.map_append] at nd
  obtain ⟨n1, n2, n3⟩ := List.nodup_append.mp nd
  have old : ∀ c ∈ Mc', c.1 ∈ Mc.map Prod.fst ∨ H c.1 = none := h'.fs
  refine ⟨h'.exw, h.ex0.trans h'.ex0, fun b o e f => ?_, fun b e f => ?_, fun c hc => ?_, ?_, fun a ha => ?_, fun c hc => ?_, fun a od u e => h.uf a od u (h'.uf a od u e), h'.pf⟩
  · refine h'.fr b o (h.fr b o e f) fun hb => ?_
    obtain ⟨c, hc, ec⟩ := List.mem_map.mp hb
    rcases h.fs c (List.mem_append_left _ hc) with k | k
    · exact f (ec ▸ k)
    · rw [ec, e] at k; cases k
  · cases q : P b with
    | some u => exact h.nw b e (by rw [q]; exact Option.some_ne_none u)
    | none => exact h.h0_none (h'.nw b q f)
  · rcases List.mem_append.mp hc with hc | hc
    · exact h'.mem c hc
    · obtain ⟨a1, xs, a2, a3⟩ := h.mem c (List.mem_append_right _ hc)
      have nc : c.1 ∉ Mc.map Prod.fst := fun z => n3 c.1 z c.1 (List.mem_map.mpr ⟨c, hc, rfl⟩) rfl
      refine ⟨?_, xs, h'.fr c.1 _ a2 nc, a3.ex h'.ex0⟩
      cases q : P' c.1 with
      | none => rfl
      | some u =>
        have := h'.nw c.1 a1 (by rw [q]; exact Option.some_ne_none u)
        rw [show (inner P H Mc).H0 = H from rfl] at this
        rw [this] at a2
        cases a2
  · rw [List.map_append]
    refine List.nodup_append.mpr ⟨h'.nd, n2, fun a ha b hb e => ?_⟩
    subst e
    obtain ⟨c, hc, ec⟩ := List.mem_map.mp ha
    rcases old c hc with k | k
    · exact n3 a (ec ▸ k) a hb rfl
    · obtain ⟨c2, hc2, e2⟩ := List.mem_map.mp hb
      obtain ⟨xs, a2, _⟩ := (h.mem c2 (List.mem_append_right _ hc2)).2
      rw [e2, ← ec, k] at a2
      cases a2
  · have := h.mf a ha
    rw [List.map_append] at this ⊢
    rcases List.mem_append.mp this with k | k
    · exact List.mem_append_left _ (h'.mf a k)
    · exact List.mem_append_right _ k
  · rcases List.mem_append.mp hc with hc | hc
    · rcases old c hc with k | k
      · obtain ⟨c2, hc2, e2⟩ := List.mem_map.mp k
        have := h.fs c2 (List.mem_append_left _ hc2)
        rw [e2] at this
        exact this
      · exact .inr (h.h0_none k)
    · exact h.fs c (List.mem_append_right _ hc)
end

/-! ### contracts -/
abbrev Co := List It → Mem → It → Mem → Prop
def spC (C : Co) : Sp := fun vs H Q _ => ∃ (P : Hp) (is : List It) (M : Mem) (i : It) (M' : Mem), Holds (inner P H M) P H M ∧ RepIs P vs is ∧ C is M i M' ∧ ∀ v H' P', Holds (inner P H M) P' H' M' → RepI P' v i → Q v H'
structure Def (P : Program) (w : World) (K : PySem.W.Frag) (mg : Str → Option Value) (base : Heap) (x : Str) (k : Nat) (C : Co) : Prop where
  ex : ∃ f fd ps, FnOk P w K mg base CX0 k f fd ps (spC C) ∧ mg x = some (.ref f) ∧ PySem.W.keepIn K (.ref f) = true ∧ Binds K fd ps []
theorem Def.mono {P : Program} {w : World} {K : PySem.W.Frag} {mg : Str → Option Value} {base : Heap} {x : Str} {k k' : Nat} {C : Co} (F : Def P w K mg base x k C) (h : k ≤ k') : Def P w K mg base x k' C := by
  obtain ⟨f, fd, ps, a, b⟩ := F.ex
  exact ⟨f, fd, ps, a.mono h, b⟩
section
variable {X : Cx} {N : Ent} {ρ ρ' : Rho} {M M1 M2 M3 M' Mc Mr Mc' : Mem} {a b c e : Expr} {pos : Pos} {i j k : It} {t u : Bool}
theorem ej_call {x : Str} {l : Nat} {C : Co} {p : Pos} {es : List Expr} {is : List It} (F : Def X.prog X.w X.K X.mg X.base x l C) (hr : Room l X.A) (ha : AJ X N ρ M (e :: es) is M1) (hM : M1 = Mc ++ Mr) (hC : C is Mc i Mc') (hM2 : M2 = Mc' ++ Mr)
    (hg : Gl X x := by rfl) (hdb : (x == ("__debug__" : Str)) = false := by decide) (he : starEach (e :: es) X.env = (false, eval e X.env) :: starEach es X.env := by rfl) (hpl : (backTo pos (starEach es X.env)).any (·.1) = false := by rfl) :
    EJ X N ρ M (.Call (.Name x p) (e :: es) [] pos) i M2 := fun σ H P hh g Q q => by
  obtain ⟨f, fd, ps, F1, hm, hk, hb⟩ := F.ex
  refine e_of (pe_call F1 hr hg hm hk hb .nil pass0 pa_w hdb he hpl) (ha σ H P hh g _ fun vs H1 P1 e1 h1 r1 => ?_)
  subst hM hM2
  refine ⟨P1, is, Mc, i, Mc', h1.enter, ?_, hC, fun v H' P' h' r' => ?_⟩
  · rw [List.append_nil]; exact r1
  · exact q v H' P' (e1.trans h'.ex0) (h1.leave h') r'
/-- a call that asks for no cells -/
theorem ej_callP {x : Str} {l : Nat} {C : Co} {p : Pos} {es : List Expr} {is : List It} (F : Def X.prog X.w X.K X.mg X.base x l C) (hr : Room l X.A) (ha : AJ X N ρ M (e :: es) is M1) (hC : C is [] i [])
    (hg : Gl X x := by rfl) (hdb : (x == ("__debug__" : Str)) = false := by decide) (he : starEach (e :: es) X.env = (false, eval e X.env) :: starEach es X.env := by rfl) (hpl : (backTo pos (starEach es X.env)).any (·.1) = false := by rfl) :
    EJ X N ρ M (.Call (.Name x p) (e :: es) [] pos) i M1 := ej_call F hr ha (Mc := []) (Mr := M1) rfl hC rfl hg hdb he hpl

/-! ### loops -/
variable {Z : Post} {body rest : List Stmt} {tg iter : Expr}
theorem sj_forL {ds : List PyData} (hc : X.calm = true) (hi : EJ X N ρ M iter (.d (.list ds)) M1) (Inv : Nat → Rho → Mem → Prop) (h0 : Inv 0 ρ M1)
    (step : ∀ n d ρ' M', ds[n]? = some d → Inv n ρ' M' → ∃ ρ2, GJ X N tg (.d d) ρ' ρ2 ∧ SJ X N ρ2 M' body { nx := Inv (n + 1), ct := Inv (n + 1), bk := fun ρ' M' => SJ X N ρ' M' rest Z, rt := Z.rt, er := Z.er })
    (done : ∀ ρ' M', Inv ds.length ρ' M' → SJ X N ρ' M' rest Z) (hp : PassesOwn (model X.prog X.w) X.A X.env X.xe := by exact PassesOwn.never) (hf : ∀ x, foldedSetIterable iter X.env x = pure x := by intro _; rfl) : SJ X N ρ M (.For tg iter body [] pos :: rest) Z := sj_cons fun σ H P hh g D E tk z => by
  refine s_of (ps_for hp hc (pi_list pe_w) pg_w pss_w hf) (hi σ H P hh g _ fun v H1 P1 e1 h1 r1 => ?_)
  obtain ⟨a, xs, rfl, x1, x2⟩ := ri_lst r1
  have xl := dnAll_len x2
  refine ⟨a, rfl, ⟨xs, .inl (.inl (h1.ex _ _ x1))⟩, for_list (xs := xs) (fun n σ' H' => ∃ ρ' M' P', Inv n ρ' M' ∧ Holds N P' H' M' ∧ Slots P' σ' ρ' ∧ Ex P1 P') ⟨ρ, M1, P1, h0, h1, g.ex e1, Ex.refl _⟩ (fun n σ' H' _ hw => ?_) (fun n x σ' H' hx hw => ?_) (fun σ' H' hw => ?_)⟩
  · obtain ⟨ρ', M', P', _, h2, _, e2⟩ := hw
    exact .inl (.inl (h2.ex _ _ (e2 _ _ x1)))
  · obtain ⟨ρ', M', P', w, h2, g2, e2⟩ := hw
    have nl : n < ds.length := xl ▸ (List.getElem?_eq_some_iff.mp hx).1
    obtain ⟨v', ev, dv⟩ := dnAll_get x2 (List.getElem?_eq_getElem nl)
    rw [hx] at ev
    cases Option.some.inj ev
    obtain ⟨ρ2, G, S⟩ := step n _ ρ' M' (List.getElem?_eq_getElem nl) w
    refine G x σ' H' P' M' h2 g2 (dn_ex e2 _ _ dv) _ fun σ2 g3 => ?_
    refine S σ2 H' P' h2 g3 _ E tk ⟨fun ρ4 M4 σ4 H4 P4 a e h g => ⟨ρ4, M4, P4, a, h, g, e2.trans e⟩, fun i M4 v H4 P4 a e h r => z.rt i M4 v H4 P4 a ((e1.trans e2).trans e) h r, fun ρ4 M4 σ4 H4 P4 a e h g => z.nx ρ4 M4 σ4 H4 P4 a ((e1.trans e2).trans e) h g, fun ρ4 M4 σ4 H4 P4 a e h g => ⟨ρ4, M4, P4, a, h, g, e2.trans e⟩, fun w M4 d H4 P4 C c a e h x => z.er w M4 d H4 P4 C c a ((e1.trans e2).trans e) h x⟩
  · obtain ⟨ρ', M', P', w, h2, g2, e2⟩ := hw
    rw [xl] at w
    exact z.nx ρ' M' σ' H' P' (done ρ' M' w) (e1.trans e2) h2 g2
theorem sj_forT {ds : List PyData} (hc : X.calm = true) (hi : EJ X N ρ M iter (.d (.tuple ds)) M1) (Inv : Nat → Rho → Mem → Prop) (h0 : Inv 0 ρ M1)
    (step : ∀ n d ρ' M', ds[n]? = some d → Inv n ρ' M' → ∃ ρ2, GJ X N tg (.d d) ρ' ρ2 ∧ SJ X N ρ2 M' body { nx := Inv (n + 1), ct := Inv (n + 1), bk := fun ρ' M' => SJ X N ρ' M' rest Z, rt := Z.rt, er := Z.er })
    (done : ∀ ρ' M', Inv ds.length ρ' M' → SJ X N ρ' M' rest Z) (hp : PassesOwn (model X.prog X.w) X.A X.env X.xe := by exact PassesOwn.never) (hf : ∀ x, foldedSetIterable iter X.env x = pure x := by intro _; rfl) : SJ X N ρ M (.For tg iter body [] pos :: rest) Z := sj_cons fun σ H P hh g D E tk z => by
  refine s_of (ps_for hp hc (pi_tup pe_w) pg_w pss_w hf) (hi σ H P hh g _ fun v H1 P1 e1 h1 r1 => ?_)
  obtain ⟨a, xs, rfl, x1, x2⟩ := ri_tup r1
  have xl := dnAll_len x2
  refine ⟨a, rfl, ⟨xs, .inl (.inl (h1.ex _ _ x1))⟩, for_tup (xs := xs) (fun n σ' H' => ∃ ρ' M' P', Inv n ρ' M' ∧ Holds N P' H' M' ∧ Slots P' σ' ρ' ∧ Ex P1 P') ⟨ρ, M1, P1, h0, h1, g.ex e1, Ex.refl _⟩ (fun n σ' H' _ hw => ?_) (fun n x σ' H' hx hw => ?_) (fun σ' H' hw => ?_)⟩
  · obtain ⟨ρ', M', P', _, h2, _, e2⟩ := hw
    exact .inl (.inl (h2.ex _ _ (e2 _ _ x1)))
  · obtain ⟨ρ', M', P', w, h2, g2, e2⟩ := hw
    have nl : n < ds.length := xl ▸ (List.getElem?_eq_some_iff.mp hx).1
    obtain ⟨v', ev, dv⟩ := dnAll_get x2 (List.getElem?_eq_getElem nl)
    rw [hx] at ev
    cases Option.some.inj ev
    obtain ⟨ρ2, G, S⟩ := step n _ ρ' M' (List.getElem?_eq_getElem nl) w
    refine G x σ' H' P' M' h2 g2 (dn_ex e2 _ _ dv) _ fun σ2 g3 => ?_
    refine S σ2 H' P' h2 g3 _ E tk ⟨fun ρ4 M4 σ4 H4 P4 a e h g => ⟨ρ4, M4, P4, a, h, g, e2.trans e⟩, fun i M4 v H4 P4 a e h r => z.rt i M4 v H4 P4 a ((e1.trans e2).trans e) h r, fun ρ4 M4 σ4 H4 P4 a e h g => z.nx ρ4 M4 σ4 H4 P4 a ((e1.trans e2).trans e) h g, fun ρ4 M4 σ4 H4 P4 a e h g => ⟨ρ4, M4, P4, a, h, g, e2.trans e⟩, fun w M4 d H4 P4 C c a e h x => z.er w M4 d H4 P4 C c a ((e1.trans e2).trans e) h x⟩
  · obtain ⟨ρ', M', P', w, h2, g2, e2⟩ := hw
    rw [xl] at w
    exact z.nx ρ' M' σ' H' P' (done ρ' M' w) (e1.trans e2) h2 g2
/-- for x in range(n) -/
theorem sj_forR {p rp : Pos} {m : Int} (hc : X.calm = true) (hmr : X.mg "range" = none) (hi : EJ X N ρ M a (dI m) M1) (hb : -(2 ^ 62) ≤ m ∧ m < 2 ^ 62) (Inv : Nat → Rho → Mem → Prop) (h0 : Inv 0 ρ M1)
    (step : ∀ n ρ' M', n < m.toNat → Inv n ρ' M' → ∃ ρ2, GJ X N tg (dI (n : Int)) ρ' ρ2 ∧ SJ X N ρ2 M' body { nx := Inv (n + 1), ct := Inv (n + 1), bk := fun ρ' M' => SJ X N ρ' M' rest Z, rt := Z.rt, er := Z.er })
    (done : ∀ ρ' M', Inv m.toNat ρ' M' → SJ X N ρ' M' rest Z) (hp : PassesOwn (model X.prog X.w) X.A X.env X.xe := by exact PassesOwn.never) (hg : Gl X "range" := by rfl) (hs : starEach [a] X.env = [(false, eval a X.env)] := by rfl)
    (hf : ∀ x, foldedSetIterable (.Call (.Name "range" p) [a] [] rp) X.env x = pure x := by intro _; rfl) : SJ X N ρ M (.For tg (.Call (.Name "range" p) [a] [] rp) body [] pos :: rest) Z := sj_cons fun σ H P hh g D E tk z => by
  refine s_of (ps_for hp hc (pi_range1 hg hmr pa_w hs) pg_w pss_w hf) (aj_cons hi aj_nil hs σ H P hh g _ fun vs H1 P1 e1 h1 r1 => ?_)
  obtain ⟨x, rfl, r2⟩ := ri1 r1
  cases ri_int r2
  refine ⟨m, rfl, hb.1, hb.2, for_range (lo := 0) (n := m.toNat) (fun n σ' H' => ∃ ρ' M' P', Inv n ρ' M' ∧ Holds N P' H' M' ∧ Slots P' σ' ρ' ∧ Ex P1 P') ⟨ρ, M1, P1, h0, h1, g.ex e1, Ex.refl _⟩ (fun n σ' H' hn hw => ?_) (fun σ' H' hw => ?_)⟩
  · obtain ⟨ρ', M', P', w, h2, g2, e2⟩ := hw
    obtain ⟨ρ2, G, S⟩ := step n ρ' M' hn w
    refine G _ σ' H' P' M' h2 g2 (by rw [Int.zero_add]; exact .int _) _ fun σ2 g3 => ?_
    refine S σ2 H' P' h2 g3 _ E tk ⟨fun ρ4 M4 σ4 H4 P4 a e h g => ⟨ρ4, M4, P4, a, h, g, e2.trans e⟩, fun i M4 v H4 P4 a e h r => z.rt i M4 v H4 P4 a ((e1.trans e2).trans e) h r, fun ρ4 M4 σ4 H4 P4 a e h g => z.nx ρ4 M4 σ4 H4 P4 a ((e1.trans e2).trans e) h g, fun ρ4 M4 σ4 H4 P4 a e h g => ⟨ρ4, M4, P4, a, h, g, e2.trans e⟩, fun w M4 d H4 P4 C c a e h x => z.er w M4 d H4 P4 C c a ((e1.trans e2).trans e) h x⟩
  · obtain ⟨ρ', M', P', w, h2, g2, e2⟩ := hw
    exact z.nx ρ' M' σ' H' P' (done ρ' M' w) (e1.trans e2) h2 g2
theorem sj_while (n0 : Nat) (Inv : Nat → Rho → Mem → Prop) (h0 : Inv n0 ρ M)
    (step : ∀ m ρ' M', Inv m ρ' M' → ∃ t M2, TJ X N ρ' M' c t M2 ∧ (t = true → SJ X N ρ' M2 body { nx := fun ρ2 M3 => ∃ m', m' < m ∧ Inv m' ρ2 M3, ct := fun ρ2 M3 => ∃ m', m' < m ∧ Inv m' ρ2 M3, bk := fun ρ' M' => SJ X N ρ' M' rest Z, rt := Z.rt, er := Z.er }) ∧ (t = false → SJ X N ρ' M2 rest Z))
    (hp : PassesOwn (model X.prog X.w) X.A X.env X.xe := by exact PassesOwn.never) : SJ X N ρ M (.While c body [] pos :: rest) Z := sj_cons fun σ H P hh g D E tk z => by
  refine s_of (ps_while hp pt_w pss_w) ⟨fun m σ' H' => ∃ ρ' M' P', Inv m ρ' M' ∧ Holds N P' H' M' ∧ Slots P' σ' ρ' ∧ Ex P P', ⟨n0, ρ, M, P, h0, hh, g, Ex.refl P⟩, fun m σ' H' hw => ?_⟩
  obtain ⟨ρ', M', P', w, h2, g2, e2⟩ := hw
  obtain ⟨t, M2, T, S1, S2⟩ := step m ρ' M' w
  refine T σ' H' P' h2 g2 _ fun H3 P3 e3 h3 => ?_
  cases t with
  | true =>
    refine iteT ⟨fun σ4 H4 => ∃ m', m' < m ∧ ∃ ρ' M' P', Inv m' ρ' M' ∧ Holds N P' H4 M' ∧ Slots P' σ4 ρ' ∧ Ex P P', fun σ4 H4 ⟨m', l, w'⟩ => ⟨m', l, w'⟩, ?_⟩
    refine S1 rfl σ' H3 P3 h3 (g2.ex e3) _ E tk ⟨fun ρ4 M4 σ4 H4 P4 ⟨m', l, w'⟩ e h g => ⟨m', l, ρ4, M4, P4, w', h, g, (e2.trans e3).trans e⟩, fun i M4 v H4 P4 a e h r => z.rt i M4 v H4 P4 a ((e2.trans e3).trans e) h r, fun ρ4 M4 σ4 H4 P4 a e h g => z.nx ρ4 M4 σ4 H4 P4 a ((e2.trans e3).trans e) h g, fun ρ4 M4 σ4 H4 P4 ⟨m', l, w'⟩ e h g => ⟨m', l, ρ4, M4, P4, w', h, g, (e2.trans e3).trans e⟩, fun w M4 d H4 P4 C c a e h x => z.er w M4 d H4 P4 C c a ((e2.trans e3).trans e) h x⟩
  | false => exact iteF (z.nx ρ' M2 σ' H3 P3 (S2 rfl) (e2.trans e3) h3 (g2.ex e3))

/-! ### comprehensions -/
theorem put_last {M : Mem} {D : Addr} {is js : List It} (nd : ((M ++ [(D, is)]).map Prod.fst).Nodup) : (M ++ [(D, is)]).put D js = M ++ [(D, js)] := by
  unfold Mem.put
  rw [List.map_append]
  rw [List.map_append] at nd
  congr 1
  · have : (M.map fun c => if c.1 = D then (D, js) else c) = M.map id := List.map_congr_left fun c hc => if_neg fun e => (List.nodup_append.mp nd).2.2 c.1 (List.mem_map.mpr ⟨c, hc, rfl⟩) D (by simp) e
    rw [this, List.map_id]
  · simp
abbrev Blk (X : Cx) (Y : Cx) (scope : Scope) : Prop := ∃ s H C cl fp, Y = X.blk s H scope (compEnvC scope cl C X.env) fp
def wBE (X : Cx) (scope : Scope) (e : Expr) : TE := fun σ H Q => ∀ s H0 C cl fp, wE (X.blk s H0 scope (compEnvC scope cl C X.env) fp) e σ H Q
theorem slots_comp {P : Hp} {σ : L2.St} {v : V} (g : Slots P σ ρ) (n : Nat) (r : RepI P v i) : Slots P ((wipe σ [n]).set n (some v)) (ρ.set n (some i)) := by
  show Slots P ((σ.set n none).set n (some v)) (ρ.set n (some i))
  rw [List.set_set]
  exact g.set r n
theorem wipe_comp {σ : L2.St} {v : V} (n : Nat) : wipe ((wipe σ [n]).set n (some v)) [n] = wipe σ [n] := by
  show ((σ.set n none).set n (some v)).set n none = σ.set n none
  rw [List.set_set, List.set_set]
def LJ (X : Cx) (N : Ent) (ρ : Rho) (M : Mem) (te : TE) (is : List It) (M' : Mem) : Prop :=
  ∀ σ H P, Holds N P H M → Slots P σ ρ → ∀ Q : VK, (∀ p H' P', Ex P P' → p ∉ N.F → Holds N P' H' (M' ++ [(p, is)]) → Q (.ref p) H') → te σ H Q
theorem el_lc {te : TE} {is : List It} (h : LJ X N ρ M te is M1) (pe : PE X e te) : EL X N ρ M e is M1 := fun σ H P hh g Q q => e_of pe (h σ H P hh g Q q)
theorem sj_lc (n : Nat) {te : TE} {is : List It} {st : Stmt} {Z : Post} {rest : List Stmt} (h : LJ X N ρ M te is M1) (ps : PS X st (tAsg te (gName n))) (hr : ∀ p, p ∉ N.F → SJ X N (ρ.set n (some (.v (.ref p)))) (M1 ++ [(p, is)]) rest Z) : SJ X N ρ M (st :: rest) Z := sj_cons fun σ H P hh g D E tk z =>
  s_of ps (h σ H P hh g _ fun p H1 P1 e1 hp h1 => z.nx _ _ _ _ P1 (hr p hp) e1 h1 ((g.ex e1).set (it := .v (.ref p)) rfl n))
/-- (the reading) [e for x in a list of data] -/
theorem lj_comp {elt : Expr} {scope : Scope} (n : Nat) {ds : List PyData} (A : Nat → List It) (Mi : Nat → Mem) (hc : X.calm = true) (hN : X.N.Nodup) (hi : (EJ X N ρ M iter (.d (.list ds)) M1))
    (hA0 : A 0 = []) (hM0 : Mi 0 = M1) (hz : ds.length ≤ 100000)
    (step : ∀ (m : Nat) d, ds[m]? = some d → ∃ j, A (m + 1) = A m ++ [j] ∧ (A m).length ≤ m ∧ ∀ N' s H C cl fp, EJ (X.blk s H scope (compEnvC scope cl C X.env) fp) N' (ρ.set n (some (.d d))) (Mi m) elt j (Mi (m + 1)))
    : LJ X N ρ M (tLc (iList X.K (wE X iter)) (gName n) tYes (wBE X scope elt) [n]) (A ds.length) (Mi ds.length) := fun σ H P hh g Q q => by
  refine (hi σ H P hh g _ fun v H1 P1 e1 h1 r1 => ?_)
  obtain ⟨a, xs, rfl, x1, x2⟩ := ri_lst r1
  have xl := dnAll_len x2
  refine ⟨a, rfl, ⟨xs, .inl (.inl (h1.ex _ _ x1))⟩, fun D hD => lc_list (xs := xs) (fun m H' => ∃ P', Holds N P' H' (Mi m ++ [(D, A m)]) ∧ Ex P1 P') ⟨P1, by rw [hA0, hM0]; exact h1.own hD (its := []) trivial, Ex.refl _⟩ (fun m H' _ hw => ?_) (fun m x' H' hx hw => ?_) (fun H' hw => ?_)⟩
  · obtain ⟨P', h2, e2⟩ := hw
    exact .inl (.inl (h2.ex _ _ (e2 _ _ x1)))
  · obtain ⟨P', h2, e2⟩ := hw
    have nl : m < ds.length := xl ▸ (List.getElem?_eq_some_iff.mp hx).1
    obtain ⟨v', ev, dv⟩ := dnAll_get x2 (List.getElem?_eq_getElem nl)
    rw [hx] at ev
    cases Option.some.inj ev
    obtain ⟨j, eA, lA, S⟩ := step m _ (List.getElem?_eq_getElem nl)
    refine ⟨wipe_comp n, ?_⟩
    unfold tYes
    dsimp only
    rw [if_pos rfl]
    intro s H0 C cl fp
    refine S (inner P' H' (Mi m)) s H0 C cl fp _ H' P' h2.enter (slots_comp (g.ex (e1.trans e2)) n (dn_ex e2 _ _ dv)) _ fun y H4 P4 e4 h4 r4 => ?_
    have h5 := h2.leave h4
    obtain ⟨acc, ea, ra⟩ := h5.cell (a := D) (its := A m) (List.mem_append_right _ (List.mem_singleton.mpr rfl))
    refine ⟨acc, ea, by rw [ra.len]; exact Nat.lt_of_lt_of_le (Nat.lt_of_le_of_lt lA (Nat.lt_of_lt_of_le nl hz)) (by decide), P4, ?_, e2.trans e4⟩
    have h6 := h5.write (a := D) (its := A m) (its' := A (m + 1)) (List.mem_append_right _ (List.mem_singleton.mpr rfl)) (xs' := acc ++ [y]) (by rw [eA]; exact ra.app ⟨r4, trivial⟩)
    rw [put_last h5.nd] at h6
    exact h6
  · obtain ⟨P', h2, e2⟩ := hw
    rw [xl] at h2
    exact q D H' P' (e1.trans e2) (h1.newF hD) h2
/-- [e for x in a list of data] -/
theorem el_comp {elt : Expr} {x : Str} {p : Pos} {scope : Scope} (n : Nat) {ds : List PyData} (A : Nat → List It) (Mi : Nat → Mem) (hc : X.calm = true) (hN : X.N.Nodup) (hi : (EJ X N ρ M iter (.d (.list ds)) M1))
    (hA0 : A 0 = []) (hM0 : Mi 0 = M1) (hz : ds.length ≤ 100000)
    (step : ∀ (m : Nat) d, ds[m]? = some d → ∃ j, A (m + 1) = A m ++ [j] ∧ (A m).length ≤ m ∧ ∀ N' s H C cl fp, EJ (X.blk s H scope (compEnvC scope cl C X.env) fp) N' (ρ.set n (some (.d d))) (Mi m) elt j (Mi (m + 1)))
    (ok : BlkOk X.N X.env.scope scope [(x, n)] := by exact blkOk_by (by kernel_rfl))
    (hgn : ∀ (s : Shared) (H : Hp) (C : Addr) (cl : List (Str × Addr)) (fp : List Addr), PG (X.blk s H scope (compEnvC scope cl C X.env) fp) (.Name x p) (gName n) := by exact fun _ _ _ _ _ => pg_name (by assumption) rfl (Or.inl rfl))
    (hf : ∀ x, foldedSetIterable iter X.env x = pure x := by intro _; rfl) : EL X N ρ M (.ListComp elt [⟨.Name x p, iter, [], 0⟩] scope pos) (A ds.length) (Mi ds.length) :=
  el_lc (lj_comp n A Mi hc hN hi hA0 hM0 hz step) (pe_lc hc hN (pi_list pe_w) ok hgn (fun _ _ _ _ _ => pts_nil) (te := wBE X scope elt) (fun s H C cl fp => ⟨fun pins s1 σ1 H1 Q1 I1 h1 => h1 s H C cl fp pins s1 I1⟩) hf)
theorem sj_setcomp (n' : Nat) {y : Str} {py spos : Pos} {Z : Post} {rest : List Stmt} {elt : Expr} {x : Str} {p : Pos} {scope : Scope} (n : Nat) {ds : List PyData} (A : Nat → List It) (Mi : Nat → Mem) (hc : X.calm = true) (hN : X.N.Nodup) (hi : (EJ X N ρ M iter (.d (.list ds)) M1))
    (hA0 : A 0 = []) (hM0 : Mi 0 = M1) (hz : ds.length ≤ 100000)
    (step : ∀ (m : Nat) d, ds[m]? = some d → ∃ j, A (m + 1) = A m ++ [j] ∧ (A m).length ≤ m ∧ ∀ N' s H C cl fp, EJ (X.blk s H scope (compEnvC scope cl C X.env) fp) N' (ρ.set n (some (.d d))) (Mi m) elt j (Mi (m + 1)))
    (hr : ∀ p, p ∉ N.F → SJ X N (ρ.set n' (some (.v (.ref p)))) (Mi ds.length ++ [(p, A ds.length)]) rest Z)
    (hy : X.N[n']? = some y := by rfl) (hyl : X.env.scope.names.lookup y = some .local := by rfl)
    (hsw : swapsWith (.ListComp elt [⟨.Name x p, iter, [], 0⟩] scope pos) (some (.Name y py)) spos.line X.env = pure true := by exact sw_true rfl rfl rfl (by kernel_rfl))
    (ok : BlkOk X.N X.env.scope scope [(x, n)] := by exact blkOk_by (by kernel_rfl))
    (hgn : ∀ (s : Shared) (H : Hp) (C : Addr) (cl : List (Str × Addr)) (fp : List Addr), PG (X.blk s H scope (compEnvC scope cl C X.env) fp) (.Name x p) (gName n) := by exact fun _ _ _ _ _ => pg_name (by assumption) rfl (Or.inl rfl))
    (hf : ∀ x, foldedSetIterable iter X.env x = pure x := by intro _; rfl) : SJ X N ρ M (.Assign [.Name y py] (.ListComp elt [⟨.Name x p, iter, [], 0⟩] scope pos) spos :: rest) Z :=
  sj_lc n' (lj_comp n A Mi hc hN hi hA0 hM0 hz step) (ps_setLc (i := n') (y := y) (py := py) (spos := spos) hc hN hy hyl hsw (pi_list pe_w) ok hgn (fun _ _ _ _ _ => pts_nil) (te := wBE X scope elt) (fun s H C cl fp => ⟨fun pins s1 σ1 H1 Q1 I1 h1 => h1 s H C cl fp pins s1 I1⟩) hf) hr
/-- (the reading) [e for x in a tuple of data] -/
theorem lj_compT {elt : Expr} {scope : Scope} (n : Nat) {ds : List PyData} (A : Nat → List It) (Mi : Nat → Mem) (hc : X.calm = true) (hN : X.N.Nodup) (hi : (EJ X N ρ M iter (.d (.tuple ds)) M1))
    (hA0 : A 0 = []) (hM0 : Mi 0 = M1) (hz : ds.length ≤ 100000)
    (step : ∀ (m : Nat) d, ds[m]? = some d → ∃ j, A (m + 1) = A m ++ [j] ∧ (A m).length ≤ m ∧ ∀ N' s H C cl fp, EJ (X.blk s H scope (compEnvC scope cl C X.env) fp) N' (ρ.set n (some (.d d))) (Mi m) elt j (Mi (m + 1)))
    : LJ X N ρ M (tLc (iTup X.K (wE X iter)) (gName n) tYes (wBE X scope elt) [n]) (A ds.length) (Mi ds.length) := fun σ H P hh g Q q => by
  refine (hi σ H P hh g _ fun v H1 P1 e1 h1 r1 => ?_)
  obtain ⟨a, xs, rfl, x1, x2⟩ := ri_tup r1
  have xl := dnAll_len x2
  refine ⟨a, rfl, ⟨xs, .inl (.inl (h1.ex _ _ x1))⟩, fun D hD => lc_tup (xs := xs) (fun m H' => ∃ P', Holds N P' H' (Mi m ++ [(D, A m)]) ∧ Ex P1 P') ⟨P1, by rw [hA0, hM0]; exact h1.own hD (its := []) trivial, Ex.refl _⟩ (fun m H' _ hw => ?_) (fun m x' H' hx hw => ?_) (fun H' hw => ?_)⟩
  · obtain ⟨P', h2, e2⟩ := hw
    exact .inl (.inl (h2.ex _ _ (e2 _ _ x1)))
  · obtain ⟨P', h2, e2⟩ := hw
    have nl : m < ds.length := xl ▸ (List.getElem?_eq_some_iff.mp hx).1
    obtain ⟨v', ev, dv⟩ := dnAll_get x2 (List.getElem?_eq_getElem nl)
    rw [hx] at ev
    cases Option.some.inj ev
    obtain ⟨j, eA, lA, S⟩ := step m _ (List.getElem?_eq_getElem nl)
    refine ⟨wipe_comp n, ?_⟩
    unfold tYes
    dsimp only
    rw [if_pos rfl]
    intro s H0 C cl fp
    refine S (inner P' H' (Mi m)) s H0 C cl fp _ H' P' h2.enter (slots_comp (g.ex (e1.trans e2)) n (dn_ex e2 _ _ dv)) _ fun y H4 P4 e4 h4 r4 => ?_
    have h5 := h2.leave h4
    obtain ⟨acc, ea, ra⟩ := h5.cell (a := D) (its := A m) (List.mem_append_right _ (List.mem_singleton.mpr rfl))
    refine ⟨acc, ea, by rw [ra.len]; exact Nat.lt_of_lt_of_le (Nat.lt_of_le_of_lt lA (Nat.lt_of_lt_of_le nl hz)) (by decide), P4, ?_, e2.trans e4⟩
    have h6 := h5.write (a := D) (its := A m) (its' := A (m + 1)) (List.mem_append_right _ (List.mem_singleton.mpr rfl)) (xs' := acc ++ [y]) (by rw [eA]; exact ra.app ⟨r4, trivial⟩)
    rw [put_last h5.nd] at h6
    exact h6
  · obtain ⟨P', h2, e2⟩ := hw
    rw [xl] at h2
    exact q D H' P' (e1.trans e2) (h1.newF hD) h2
/-- [e for x in a tuple of data] -/
theorem el_compT {elt : Expr} {x : Str} {p : Pos} {scope : Scope} (n : Nat) {ds : List PyData} (A : Nat → List It) (Mi : Nat → Mem) (hc : X.calm = true) (hN : X.N.Nodup) (hi : (EJ X N ρ M iter (.d (.tuple ds)) M1))
    (hA0 : A 0 = []) (hM0 : Mi 0 = M1) (hz : ds.length ≤ 100000)
    (step : ∀ (m : Nat) d, ds[m]? = some d → ∃ j, A (m + 1) = A m ++ [j] ∧ (A m).length ≤ m ∧ ∀ N' s H C cl fp, EJ (X.blk s H scope (compEnvC scope cl C X.env) fp) N' (ρ.set n (some (.d d))) (Mi m) elt j (Mi (m + 1)))
    (ok : BlkOk X.N X.env.scope scope [(x, n)] := by exact blkOk_by (by kernel_rfl))
    (hgn : ∀ (s : Shared) (H : Hp) (C : Addr) (cl : List (Str × Addr)) (fp : List Addr), PG (X.blk s H scope (compEnvC scope cl C X.env) fp) (.Name x p) (gName n) := by exact fun _ _ _ _ _ => pg_name (by assumption) rfl (Or.inl rfl))
    (hf : ∀ x, foldedSetIterable iter X.env x = pure x := by intro _; rfl) : EL X N ρ M (.ListComp elt [⟨.Name x p, iter, [], 0⟩] scope pos) (A ds.length) (Mi ds.length) :=
  el_lc (lj_compT n A Mi hc hN hi hA0 hM0 hz step) (pe_lc hc hN (pi_tup pe_w) ok hgn (fun _ _ _ _ _ => pts_nil) (te := wBE X scope elt) (fun s H C cl fp => ⟨fun pins s1 σ1 H1 Q1 I1 h1 => h1 s H C cl fp pins s1 I1⟩) hf)
theorem sj_setcompT (n' : Nat) {y : Str} {py spos : Pos} {Z : Post} {rest : List Stmt} {elt : Expr} {x : Str} {p : Pos} {scope : Scope} (n : Nat) {ds : List PyData} (A : Nat → List It) (Mi : Nat → Mem) (hc : X.calm = true) (hN : X.N.Nodup) (hi : (EJ X N ρ M iter (.d (.tuple ds)) M1))
    (hA0 : A 0 = []) (hM0 : Mi 0 = M1) (hz : ds.length ≤ 100000)
    (step : ∀ (m : Nat) d, ds[m]? = some d → ∃ j, A (m + 1) = A m ++ [j] ∧ (A m).length ≤ m ∧ ∀ N' s H C cl fp, EJ (X.blk s H scope (compEnvC scope cl C X.env) fp) N' (ρ.set n (some (.d d))) (Mi m) elt j (Mi (m + 1)))
    (hr : ∀ p, p ∉ N.F → SJ X N (ρ.set n' (some (.v (.ref p)))) (Mi ds.length ++ [(p, A ds.length)]) rest Z)
    (hy : X.N[n']? = some y := by rfl) (hyl : X.env.scope.names.lookup y = some .local := by rfl)
    (hsw : swapsWith (.ListComp elt [⟨.Name x p, iter, [], 0⟩] scope pos) (some (.Name y py)) spos.line X.env = pure true := by exact sw_true rfl rfl rfl (by kernel_rfl))
    (ok : BlkOk X.N X.env.scope scope [(x, n)] := by exact blkOk_by (by kernel_rfl))
    (hgn : ∀ (s : Shared) (H : Hp) (C : Addr) (cl : List (Str × Addr)) (fp : List Addr), PG (X.blk s H scope (compEnvC scope cl C X.env) fp) (.Name x p) (gName n) := by exact fun _ _ _ _ _ => pg_name (by assumption) rfl (Or.inl rfl))
    (hf : ∀ x, foldedSetIterable iter X.env x = pure x := by intro _; rfl) : SJ X N ρ M (.Assign [.Name y py] (.ListComp elt [⟨.Name x p, iter, [], 0⟩] scope pos) spos :: rest) Z :=
  sj_lc n' (lj_compT n A Mi hc hN hi hA0 hM0 hz step) (ps_setLc (i := n') (y := y) (py := py) (spos := spos) hc hN hy hyl hsw (pi_tup pe_w) ok hgn (fun _ _ _ _ _ => pts_nil) (te := wBE X scope elt) (fun s H C cl fp => ⟨fun pins s1 σ1 H1 Q1 I1 h1 => h1 s H C cl fp pins s1 I1⟩) hf) hr
/-- (the reading) [e for x in range(n)] -/
theorem lj_compR {elt : Expr} {scope : Scope} (n : Nat) {z : Int} (A : Nat → List It) (Mi : Nat → Mem) (hc : X.calm = true) (hmr : X.mg "range" = none) (hN : X.N.Nodup) (hi : EJ X N ρ M a (dI z) M1)
    (hA0 : A 0 = []) (hM0 : Mi 0 = M1) (hz : z ≤ 100000 ∧ -(2 ^ 62) ≤ z)
    (step : ∀ (m : Nat), m < z.toNat → ∃ j, A (m + 1) = A m ++ [j] ∧ (A m).length ≤ m ∧ ∀ N' s H C cl fp, EJ (X.blk s H scope (compEnvC scope cl C X.env) fp) N' (ρ.set n (some (dI (m : Int)))) (Mi m) elt j (Mi (m + 1)))
    (hs : starEach [a] X.env = [(false, eval a X.env)] := by rfl)
    : LJ X N ρ M (tLc (iRng1 (wA X [a])) (gName n) tYes (wBE X scope elt) [n]) (A z.toNat) (Mi z.toNat) := fun σ H P hh g Q q => by
  refine (aj_cons hi aj_nil hs σ H P hh g _ fun vs H1 P1 e1 h1 r1 => ?_)
  obtain ⟨x', rfl, r2⟩ := ri1 r1
  cases ri_int r2
  refine ⟨z, rfl, hz.2, by omega, fun D hD => lc_range (lo := 0) (n := z.toNat) (fun m H' => ∃ P', Holds N P' H' (Mi m ++ [(D, A m)]) ∧ Ex P1 P') ⟨P1, by rw [hA0, hM0]; exact h1.own hD (its := []) trivial, Ex.refl _⟩ (fun m H' nl hw => ?_) (fun H' hw => ?_)⟩
  · obtain ⟨P', h2, e2⟩ := hw
    obtain ⟨j, eA, lA, S⟩ := step m nl
    refine ⟨wipe_comp n, ?_⟩
    unfold tYes
    dsimp only
    rw [if_pos rfl]
    intro s H0 C cl fp
    refine S (inner P' H' (Mi m)) s H0 C cl fp _ H' P' h2.enter (slots_comp (g.ex (e1.trans e2)) n (by rw [Int.zero_add]; exact .int _)) _ fun y H4 P4 e4 h4 r4 => ?_
    have h5 := h2.leave h4
    obtain ⟨acc, ea, ra⟩ := h5.cell (a := D) (its := A m) (List.mem_append_right _ (List.mem_singleton.mpr rfl))
    refine ⟨acc, ea, by rw [ra.len]; exact Nat.lt_of_lt_of_le (Nat.lt_of_le_of_lt lA (by omega : m < 100000)) (by decide), P4, ?_, e2.trans e4⟩
    have h6 := h5.write (a := D) (its := A m) (its' := A (m + 1)) (List.mem_append_right _ (List.mem_singleton.mpr rfl)) (xs' := acc ++ [y]) (by rw [eA]; exact ra.app ⟨r4, trivial⟩)
    rw [put_last h5.nd] at h6
    exact h6
  · obtain ⟨P', h2, e2⟩ := hw
    exact q D H' P' (e1.trans e2) (h1.newF hD) h2
/-- [e for x in range(n)] -/
theorem el_compR {elt : Expr} {x : Str} {p rpp rp : Pos} {scope : Scope} (n : Nat) {z : Int} (A : Nat → List It) (Mi : Nat → Mem) (hc : X.calm = true) (hmr : X.mg "range" = none) (hN : X.N.Nodup) (hi : EJ X N ρ M a (dI z) M1)
    (hA0 : A 0 = []) (hM0 : Mi 0 = M1) (hz : z ≤ 100000 ∧ -(2 ^ 62) ≤ z)
    (step : ∀ (m : Nat), m < z.toNat → ∃ j, A (m + 1) = A m ++ [j] ∧ (A m).length ≤ m ∧ ∀ N' s H C cl fp, EJ (X.blk s H scope (compEnvC scope cl C X.env) fp) N' (ρ.set n (some (dI (m : Int)))) (Mi m) elt j (Mi (m + 1)))
    (ok : BlkOk X.N X.env.scope scope [(x, n)] := by exact blkOk_by (by kernel_rfl))
    (hgn : ∀ (s : Shared) (H : Hp) (C : Addr) (cl : List (Str × Addr)) (fp : List Addr), PG (X.blk s H scope (compEnvC scope cl C X.env) fp) (.Name x p) (gName n) := by exact fun _ _ _ _ _ => pg_name (by assumption) rfl (Or.inl rfl))
    (hg : Gl X "range" := by rfl) (hs : starEach [a] X.env = [(false, eval a X.env)] := by rfl)
    (hf : ∀ x, foldedSetIterable (.Call (.Name "range" rpp) [a] [] rp) X.env x = pure x := by intro _; rfl) : EL X N ρ M (.ListComp elt [⟨.Name x p, .Call (.Name "range" rpp) [a] [] rp, [], 0⟩] scope pos) (A z.toNat) (Mi z.toNat) :=
  el_lc (lj_compR n A Mi hc hmr hN hi hA0 hM0 hz step hs) (pe_lc hc hN (pi_range1 hg hmr pa_w hs) ok hgn (fun _ _ _ _ _ => pts_nil) (te := wBE X scope elt) (fun s H C cl fp => ⟨fun pins s1 σ1 H1 Q1 I1 h1 => h1 s H C cl fp pins s1 I1⟩) hf)
theorem sj_setcompR (n' : Nat) {y : Str} {py spos : Pos} {Z : Post} {rest : List Stmt} {elt : Expr} {x : Str} {p rpp rp : Pos} {scope : Scope} (n : Nat) {z : Int} (A : Nat → List It) (Mi : Nat → Mem) (hc : X.calm = true) (hmr : X.mg "range" = none) (hN : X.N.Nodup) (hi : EJ X N ρ M a (dI z) M1)
    (hA0 : A 0 = []) (hM0 : Mi 0 = M1) (hz : z ≤ 100000 ∧ -(2 ^ 62) ≤ z)
    (step : ∀ (m : Nat), m < z.toNat → ∃ j, A (m + 1) = A m ++ [j] ∧ (A m).length ≤ m ∧ ∀ N' s H C cl fp, EJ (X.blk s H scope (compEnvC scope cl C X.env) fp) N' (ρ.set n (some (dI (m : Int)))) (Mi m) elt j (Mi (m + 1)))
    (hr : ∀ p, p ∉ N.F → SJ X N (ρ.set n' (some (.v (.ref p)))) (Mi z.toNat ++ [(p, A z.toNat)]) rest Z)
    (hy : X.N[n']? = some y := by rfl) (hyl : X.env.scope.names.lookup y = some .local := by rfl)
    (hsw : swapsWith (.ListComp elt [⟨.Name x p, .Call (.Name "range" rpp) [a] [] rp, [], 0⟩] scope pos) (some (.Name y py)) spos.line X.env = pure true := by exact sw_true rfl rfl rfl (by kernel_rfl))
    (ok : BlkOk X.N X.env.scope scope [(x, n)] := by exact blkOk_by (by kernel_rfl))
    (hgn : ∀ (s : Shared) (H : Hp) (C : Addr) (cl : List (Str × Addr)) (fp : List Addr), PG (X.blk s H scope (compEnvC scope cl C X.env) fp) (.Name x p) (gName n) := by exact fun _ _ _ _ _ => pg_name (by assumption) rfl (Or.inl rfl))
    (hg : Gl X "range" := by rfl) (hs : starEach [a] X.env = [(false, eval a X.env)] := by rfl)
    (hf : ∀ x, foldedSetIterable (.Call (.Name "range" rpp) [a] [] rp) X.env x = pure x := by intro _; rfl) : SJ X N ρ M (.Assign [.Name y py] (.ListComp elt [⟨.Name x p, .Call (.Name "range" rpp) [a] [] rp, [], 0⟩] scope pos) spos :: rest) Z :=
  sj_lc n' (lj_compR n A Mi hc hmr hN hi hA0 hM0 hz step hs) (ps_setLc (i := n') (y := y) (py := py) (spos := spos) hc hN hy hyl hsw (pi_range1 hg hmr pa_w hs) ok hgn (fun _ _ _ _ _ => pts_nil) (te := wBE X scope elt) (fun s H C cl fp => ⟨fun pins s1 σ1 H1 Q1 I1 h1 => h1 s H C cl fp pins s1 I1⟩) hf) hr

/-! ### a def keeps its contract -/
theorem slots_start {P : Hp} {vs : List V} {is : List It} (n : Nat) (r : RepIs P vs is) : Slots P (vs.map some ++ List.replicate n none) (is.map some ++ List.replicate n none) := by
  refine ⟨by simp [r.len], fun k it q => ?_⟩
  by_cases l : k < is.length
  · rw [List.getElem?_append_left (by simpa using l), List.getElem?_map] at q
    cases e : is[k]? with
    | none => rw [e] at q; cases q
    | some i =>
      rw [e] at q
      cases Option.some.inj (Option.some.inj q)
      obtain ⟨v, e1, e2⟩ := r.get e
      refine ⟨v, ?_, e2⟩
      rw [List.getElem?_append_left (by simpa [r.len] using l), List.getElem?_map, e1]
      rfl
  · rw [List.getElem?_append_right (by simpa using Nat.le_of_not_lt l), List.getElem?_replicate] at q
    split at q
    · cases q
    · cases q
def rho (N : List Str) (is : List It) : Rho := is.map some ++ List.replicate (N.length - is.length) none
def retZ (i : It) (M' : Mem) : Post := { nx := fun _ M'' => i = .d .none ∧ ∃ L, M'' = M' ++ L, rt := fun i' M'' => i' = i ∧ ∃ L, M'' = M' ++ L }
theorem def_ok {P : Program} {w : World} {K : PySem.W.Frag} {mg : Str → Option Value} {base : Heap} {x qual : Str} {st : Stmt} {f : Addr} {fd : FuncData} {NN ps : List Str} {l : Nat} {C : Co} (F : Fun K x qual st f fd) (S : FnScope NN ps (defScope st))
    (hm : mg x = some (.ref f)) (hb : Binds K fd ps []) (len : ∀ is M i M', C is M i M' → is.length = ps.length ∧ M'.map Prod.fst = M.map Prod.fst)
    (body : ∀ X : Cx, (∃ cdv A outer s H E, X = (cxOf CX0 P w K mg base NN qual (defScope st) f cdv A outer s H E).nox ∧ Room l X.A) → ∀ N is M i M', N.F = M.map Prod.fst → C is M i M' → SJ X N (rho NN is) M (defBody st) (retZ i M')) : Def P w K mg base x (l + 1) C := by
  refine ⟨f, fd, ps, F.ok S (fun vs H Q E h => ?_) (fun cdv A outer s H vs Q E hr h => ?_), hm, F.kp, hb⟩
  · obtain ⟨P0, is, M, i, M', _, r, hC, _⟩ := h
    rw [r.len]
    exact (len _ _ _ _ hC).1
  · obtain ⟨P0, is, M, i, M', h0, r, hC, q⟩ := h
    have back : ∀ {P' H' M'' L}, M'' = M' ++ L → Holds (inner P0 H M) P' H' M'' → Holds (inner P0 H M) P' H' M' := fun {P' H' M'' L} e hh => by
      subst e
      refine hh.sub (fun c hc => List.mem_append_left _ hc) ?_ fun a ha => ?_
      · have := hh.nd
        rw [List.map_append] at this
        exact (List.nodup_append.mp this).1
      · rw [(len _ _ _ _ hC).2]
        exact ha
    refine ⟨_, pss_w, ?_⟩
    have es : L2.start NN vs = vs.map some ++ List.replicate (NN.length - is.length) none := by
      unfold L2.start
      rw [r.len]
    rw [es]
    refine body _ ⟨cdv, A, outer, s, H, E, rfl, hr⟩ (inner P0 H M) is M i M' rfl hC _ H P0 h0 (slots_start _ r) _ E0 takes0 ⟨fun ρ' M'' σ' H' P' a e hh g => ?_, fun i' M'' v H' P' a e hh rr => ?_, fun _ _ _ _ _ a => a.elim, fun _ _ _ _ _ a => a.elim, fun _ _ _ _ _ _ _ a => a.elim⟩
    · obtain ⟨rfl, L, eL⟩ := a
      exact q _ H' P' (back eL hh) .non
    · obtain ⟨rfl, L, eL⟩ := a
      exact q _ H' P' (back eL hh) rr
end
end Kt

/-! Kt5: the program's own error with a name: made, raised, caught, read. -/
namespace Kt
open PySem PySem.Spec PyProof.Rows L2
section
variable {X : Cx} {e : Expr} {es : List Expr} {ta : TA} {p p1 p2 pos : Pos}
/-- Base.__init__(self, ..), Base an own class over ValueError without an __init__ of its own -/
theorem pe_hinit {x : Str} {C0 : Addr} {pl : Sem Bool} (hg : Gl X x) (hm : X.mg x = some (.ref C0)) (sp : PySem.W.specialIn X.K (.ref C0) "__getattribute__" = some (some (.builtin "type.__getattribute__"))) (hr : PySem.W.readsIn X.K C0 (.type "type") = true)
    (vV : PySem.W.findCls X.K (.ref C0) (.type "type") "__init__" = some (.val (.builtin "ValueError.__init__"))) (ha : PA X (e :: es) ta)
    (hd : (x == ("__debug__" : Str)) = false := by decide)
    (hc : eval (.Call (.Attribute (.Name x p1) "__init__" p2) (e :: es) [] pos) X.env = (do
      let ov ← eval (.Name x p1) X.env
      standAt p2.atName
      let (f, first) ← holding [ov] (getMethod ov "__init__" pl)
      callWith pos f first (backTo pos (starEach (e :: es) X.env)) (backToKw pos (keywordEach [] X.env))) := by rfl)
    (he : starEach (e :: es) X.env = (false, eval e X.env) :: starEach es X.env := by rfl) (hpl : (backTo pos (starEach es X.env)).any (·.1) = false := by rfl) :
    PE X (.Call (.Attribute (.Name x p1) "__init__" p2) (e :: es) [] pos) (tVeI X.K ta) := by
  refine ⟨fun pins s σ H Q I h => ?_⟩
  refine PySem.W.methodCall_KW (ld_glob I hg hm ?_ hd) hc
  refine PySem.W.method_cls I.kIn sp ?_
  refine PySem.W.cls_value I.kIn hr vV (by decide +kernel) ?_
  show wpAny _ _ (callWith pos (Value.builtin "ValueError.__init__") [] (backTo pos (starEach (e :: es) X.env)) []) _ _ _
  refine PyProof.Rows.callWith_method1 (thn (ha.run pos pins _ σ H _ (I.tok _) h) fun us s1 ⟨vs, H1, I1, r1, a, C, ws, ev, hl, T, ea, q⟩ => ?_) he hpl
  subst ev
  cases r1 with
  | @cons _ u0 _ ur ra rw' =>
    obtain rfl : u0 = Value.ref a := ra
    have hlen : ur.length ≤ sizeLine := by
      rw [← Paired.length rw', sizeLine_eq]
      omega
    exact oinit_ok T I1 ea hlen fun s' J => ⟨.non, H1, J, rfl, q⟩
end
structure ErrTxt (K : PySem.W.Frag) (mg : Str → Option Value) (sI : Stmt) (Cs C0 fI : Addr) (fd : FuncData) : Prop where
  gS : mg "ShapeError" = some (.ref Cs)
  g0 : mg "HeardError" = some (.ref C0)
  oex : OexC K Cs
  iC : PySem.W.findIn K (.ref Cs) "__init__" = some (some (.ref fI))
  tI : PySem.W.typeIn K (.ref fI) = some (.type "function")
  no : PySem.W.findIn K (.ref Cs) "name" = some none
  sp0 : PySem.W.specialIn K (.ref C0) "__getattribute__" = some (some (.builtin "type.__getattribute__"))
  rd0 : PySem.W.readsIn K C0 (.type "type") = true
  v0 : PySem.W.findCls K (.ref C0) (.type "type") "__init__" = some (.val (.builtin "ValueError.__init__"))
  te : PySem.W.exmOne K (.ref Cs) (.ref Cs) = some true
  ga : PySem.W.findIn K (.ref Cs) "__getattribute__" = some (some (.builtin "BaseException.__getattribute__"))
  gg : PySem.W.findIn K (.ref Cs) "__getattr__" = some none
  hd : PySem.W.hasDictIn K Cs = true
  fn : Fun K "__init__" "ShapeError.__init__" sI fI fd
  bi : Binds K fd ["self", "name"] []
def spInit (Cs : Addr) : Sp := fun vs H Q _ => ∃ (a : Addr) (z : Str), vs = [.ref a, .str z] ∧ H a = some (exo a Cs none) ∧ z.length ≤ 1000 ∧ ∀ dx, H dx = none → dx ≠ a → Q .non (upd (upd H dx (exd dx [("name", .str z)])) a (exo a Cs (some dx)))
def InitOk (P : Program) (w : World) (K : PySem.W.Frag) (mg : Str → Option Value) (base : Heap) (Cs fI : Addr) (fd : FuncData) : Prop := FnOk P w K mg base CX0 1 fI fd ["self", "name"] (spInit Cs)
theorem Holds.junk {N : Ent} {P H : Hp} {M : Mem} (h : Holds N P H M) {p : Addr} {o : HO} (hp : H p = none) (nf : ∀ od kvs, o ≠ .frz od (.dK kvs) := by intro _ _ h; cases h) : Holds N P (upd H p o) M := by
  refine ⟨fun a u e => ?_, h.ex0, fun b u e f => ?_, h.nw, fun c hc => ?_, h.nd, h.mf, h.fs, h.ufu nf, h.pf⟩
  · rw [upd_ne (ne_of_none e (h.no hp))]
    exact h.exw a u e
  · have := h.fr b u e f
    rw [upd_ne (ne_of_none this hp)]
    exact this
  · obtain ⟨a1, xs, a2, a3⟩ := h.mem c hc
    exact ⟨a1, xs, by rw [upd_ne (ne_of_none a2 hp)]; exact a2, a3⟩
section
variable {X : Cx} {N : Ent} {ρ ρ' : Rho} {M M1 M2 M' Mc Mr Mc' : Mem} {a b c e : Expr} {pos pos2 p : Pos} {i j k : It} {Z : Post} {rest : List Stmt} {Cs C0 fI : Addr} {fd : FuncData} {sI : Stmt}
/-- raise ShapeError(e) -/
theorem sj_raise {z : Str} (hc : X.calm = true) (T : ErrTxt X.K X.mg sI Cs C0 fI fd) (F1 : InitOk X.prog X.w X.K X.mg X.base Cs fI fd) (hr : Room 2 X.A) (he : EJ X N ρ M e (.d (.str z)) M1) (hz : z.length ≤ 1000) (h : Z.er z M1)
    (hg : Gl X "ShapeError" := by rfl) (hs : starEach [e] X.env = [(false, eval e X.env)] := by rfl) (hpl : (backTo pos (starEach ([] : List Expr) X.env)).any (·.1) = false := by rfl) :
    SJ X N ρ M (.Raise (some (.Call (.Name "ShapeError" p) [e] [] pos)) none pos2 :: rest) Z := sj_cons fun σ H P hh g D E tk zd => by
  refine s_of (ps_raise hc tk (pmk_oex T.oex T.iC T.tI F1 hr T.bi .nil pass0 hg T.gS (pa_cons pe_w pa_nil hs) (by decide) hs hpl)) ?_
  refine he σ H P hh g _ fun v H1 P1 e1 h1 r1 => ?_
  cases ri_str r1
  refine ⟨(by show 1 ≤ 1000; decide), fun a ha => ⟨a, z, rfl, upd_same, hz, fun dx hdx ne => ⟨rfl, dx, [("name", .str z)], upd_same, ?_, ?_, ?_⟩⟩⟩
  · rw [upd_ne ne, upd_same]
  · rw [upd_ne ne] at hdx
    exact hdx
  · have hdx' : H1 dx = none := by
      rw [upd_ne ne] at hdx
      exact hdx
    have eq : upd (del (upd (upd (upd H1 a (exo a Cs none)) dx (exd dx [("name", .str z)])) a (exo a Cs (some dx))) a) dx (XD z) = upd H1 dx (XD z) := by
      funext b
      by_cases hb : b = dx
      · subst hb
        rw [upd_same, upd_same]
      · rw [upd_ne hb, upd_ne hb]
        by_cases hba : b = a
        · subst hba
          rw [del_same, ha]
        · rw [del_ne hba, upd_ne hba, upd_ne hb, upd_ne hba]
    show E (.ref Cs) (some dx) (upd (del (upd (upd (upd H1 a (exo a Cs none)) dx (exd dx [("name", .str z)])) a (exo a Cs (some dx))) a) dx (XD z))
    rw [eq]
    exact zd.er z M1 dx _ P1 Cs T.gS h e1 (h1.junk hdx') upd_same

/-! ### contracts of defs that may raise -/
abbrev Ro := List It → Mem → Str → Prop
def spX (mg : Str → Option Value) (C : Co) (R : Ro) : Sp := fun vs H Q E => ∃ (P : Hp) (is : List It) (M : Mem), Holds (inner P H M) P H M ∧ RepIs P vs is ∧
  ((∃ i M', C is M i M' ∧ ∀ v H' P', Holds (inner P H M) P' H' M' → RepI P' v i → Q v H') ∨
    (∃ z, R is M z ∧ ∀ d H' P' Cs, mg "ShapeError" = some (.ref Cs) → Holds (inner P H M) P' H' M → H' d = some (XD z) → E (.ref Cs) (some d) H'))
structure DefX (P : Program) (w : World) (K : PySem.W.Frag) (mg : Str → Option Value) (base : Heap) (x : Str) (k : Nat) (C : Co) (R : Ro) : Prop where
  ex : ∃ f fd ps, FnOk P w K mg base (L2.CX P w) k f fd ps (spX mg C R) ∧ mg x = some (.ref f) ∧ PySem.W.keepIn K (.ref f) = true ∧ Binds K fd ps []
/-- e raises an error of this name -/
def XJ (X : Cx) (N : Ent) (ρ : Rho) (M : Mem) (e : Expr) (z : Str) : Prop :=
  ∀ σ H P, Holds N P H M → Slots P σ ρ → ∀ E : XK, Takes X (fun c d _ H => E c d H) → (∀ d H' P' Cs, X.mg "ShapeError" = some (.ref Cs) → Ex P P' → Holds N P' H' M → H' d = some (XD z) → E (.ref Cs) (some d) H') → ∀ Q : VK, wE X e σ H Q
variable {es : List Expr} {is : List It}
/-- a call that does not raise here -/
theorem ej_callX {x : Str} {l : Nat} {C : Co} {R : Ro} (F : DefX X.prog X.w X.K X.mg X.base x l C R) (hr : Room l X.A) (ha : AJ X N ρ M (e :: es) is M1) (hM : M1 = Mc ++ Mr) (hC : C is Mc i Mc') (hM2 : M2 = Mc' ++ Mr)
    (hg : Gl X x := by rfl) (hdb : (x == ("__debug__" : Str)) = false := by decide) (he : starEach (e :: es) X.env = (false, eval e X.env) :: starEach es X.env := by rfl) (hpl : (backTo pos (starEach es X.env)).any (·.1) = false := by rfl) :
    EJ X N ρ M (.Call (.Name x p) (e :: es) [] pos) i M2 := fun σ H P hh g Q q => by
  obtain ⟨f, fd, ps, F1, hm, hk, hb⟩ := F.ex
  refine e_of (pe_call F1 hr hg hm hk hb .nil passL pa_w hdb he hpl) (ha σ H P hh g _ fun vs H1 P1 e1 h1 r1 => ?_)
  subst hM hM2
  refine ⟨P1, is, Mc, h1.enter, ?_, .inl ⟨i, Mc', hC, fun v H' P' h' r' => ?_⟩⟩
  · rw [List.append_nil]; exact r1
  · exact q v H' P' (e1.trans h'.ex0) (h1.leave h') r'
/-- a call that raises -/
theorem xj_callX {x : Str} {z : Str} {l : Nat} {C : Co} {R : Ro} (F : DefX X.prog X.w X.K X.mg X.base x l C R) (hr : Room l X.A) (ha : AJ X N ρ M (e :: es) is M) (hR : R is [] z)
    (hg : Gl X x := by rfl) (hdb : (x == ("__debug__" : Str)) = false := by decide) (he : starEach (e :: es) X.env = (false, eval e X.env) :: starEach es X.env := by rfl) (hpl : (backTo pos (starEach es X.env)).any (·.1) = false := by rfl) :
    XJ X N ρ M (.Call (.Name x p) (e :: es) [] pos) z := fun σ H P hh g E tk er Q => by
  obtain ⟨f, fd, ps, F1, hm, hk, hb⟩ := F.ex
  refine e_of (pe_callS F1 hr hg hm hk hb (fun σ => passAt tk σ) pa_w hdb he hpl) (ha σ H P hh g _ fun vs H1 P1 e1 h1 r1 => ?_)
  have h2 : Holds N P1 H1 ([] ++ M) := h1
  refine ⟨P1, is, [], h2.enter, r1, .inr ⟨z, hR, fun d H' P' Cs gs h' x' => ?_⟩⟩
  exact er d H' P' Cs gs (e1.trans h'.ex0) (h2.leave h') x'
theorem sj_exprX {z : Str} (he : XJ X N ρ M e z) (h : Z.er z M) (hs : swapsWith e none pos.line X.env = pure false := by rfl) : SJ X N ρ M (.Expr e pos :: rest) Z := sj_cons fun σ H P hh g D E tk zd =>
  s_of (ps_expr pe_w hs) (he σ H P hh g E tk (fun d H' P' Cs gs e1 h1 x => zd.er z M d H' P' Cs gs h e1 h1 x) _)
theorem sj_retX {z : Str} (he : XJ X N ρ M e z) (h : Z.er z M) : SJ X N ρ M (.Return (some e) pos :: rest) Z := sj_cons fun σ H P hh g D E tk zd =>
  s_of (ps_ret pe_w) (he σ H P hh g E tk (fun d H' P' Cs gs e1 h1 x => zd.er z M d H' P' Cs gs h e1 h1 x) _)
/-- a def that may raise keeps its contract -/
theorem defX_ok {P : Program} {w : World} {K : PySem.W.Frag} {mg : Str → Option Value} {base : Heap} {x qual : Str} {st : Stmt} {f : Addr} {fd : FuncData} {NN ps : List Str} {l : Nat} {C : Co} {R : Ro} (F : Fun K x qual st f fd) (S : FnScope NN ps (defScope st))
    (hm : mg x = some (.ref f)) (hb : Binds K fd ps []) (len : ∀ is M i M', C is M i M' → is.length = ps.length ∧ M'.map Prod.fst = M.map Prod.fst) (len2 : ∀ is M z, R is M z → is.length = ps.length)
    (body : ∀ X : Cx, (∃ cdv A outer s H E, X = cxOf (L2.CX P w) P w K mg base NN qual (defScope st) f cdv A outer s H E ∧ Room l X.A) → ∀ N is M, N.F = M.map Prod.fst →
      (∀ i M', C is M i M' → SJ X N (rho NN is) M (defBody st) (retZ i M')) ∧ (∀ z, R is M z → SJ X N (rho NN is) M (defBody st) { nx := fun _ _ => False, rt := fun _ _ => False, er := fun z' M' => z' = z ∧ M' = M })) : DefX P w K mg base x (l + 1) C R := by
  refine ⟨f, fd, ps, F.okX S (fun vs H Q E h => ?_) (fun cdv A outer s H vs Q E hr h => ?_), hm, F.kp, hb⟩
  · obtain ⟨P0, is, M, _, r, ⟨i, M', hC, _⟩ | ⟨z, hR, _⟩⟩ := h
    · rw [r.len]
      exact (len _ _ _ _ hC).1
    · rw [r.len]
      exact len2 _ _ _ hR
  · obtain ⟨P0, is, M, h0, r, hq⟩ := h
    refine ⟨_, pss_w, ?_⟩
    have es : L2.start NN vs = vs.map some ++ List.replicate (NN.length - is.length) none := by
      unfold L2.start
      rw [r.len]
    rw [es]
    have B := body _ ⟨cdv, A, outer, s, H, E, rfl, hr⟩ (inner P0 H M) is M rfl
    rcases hq with ⟨i, M', hC, q⟩ | ⟨z, hR, q⟩
    · have back : ∀ {P' H' M'' L}, M'' = M' ++ L → Holds (inner P0 H M) P' H' M'' → Holds (inner P0 H M) P' H' M' := fun {P' H' M'' L} e hh => by
        subst e
        refine hh.sub (fun c hc => List.mem_append_left _ hc) ?_ fun a ha => ?_
        · have := hh.nd
          rw [List.map_append] at this
          exact (List.nodup_append.mp this).1
        · rw [(len _ _ _ _ hC).2]
          exact ha
      refine B.1 i M' hC _ H P0 h0 (slots_start _ r) _ E0 takes0 ⟨fun ρ' M'' σ' H' P' a e hh g => ?_, fun i' M'' v H' P' a e hh rr => ?_, fun _ _ _ _ _ a => a.elim, fun _ _ _ _ _ a => a.elim, fun _ _ _ _ _ _ _ a => a.elim⟩
      · obtain ⟨rfl, L, eL⟩ := a
        exact q _ H' P' (back eL hh) .non
      · obtain ⟨rfl, L, eL⟩ := a
        exact q _ H' P' (back eL hh) rr
    · refine B.2 z hR _ H P0 h0 (slots_start _ r) _ E (takes_of rfl rfl rfl rfl) ⟨fun _ _ _ _ _ a => a.elim, fun _ _ _ _ _ a => a.elim, fun _ _ _ _ _ a => a.elim, fun _ _ _ _ _ a => a.elim, fun z' M'' d H' P' Cs gs a e hh x => ?_⟩
      obtain ⟨rfl, rfl⟩ := a
      exact q d H' P' Cs gs hh x
end
end Kt

namespace Kt
open PySem PySem.Spec PyProof.Rows L2
section
variable {X : Cx} {N : Ent} {ρ ρ' : Rho} {M M1 M2 M' Mc Mr Mc' : Mem} {a b c e : Expr} {pos pos2 p : Pos} {i j k : It} {Z : Post} {rest : List Stmt} {Cs C0 fI : Addr} {fd : FuncData} {sI : Stmt}
/-- e.name in the suite that holds e (at a, its dict d) -/
def tEN (C : Addr) (a : Addr) (cls : Value) (d : Option Addr) (te : TE) : TE := fun σ H Q => te σ H fun x H1 => x = .ref a ∧ cls = .ref C ∧ ∃ (dd : Addr) (v : V), d = some dd ∧ H1 dd = some (.xd [(("name" : Str), v)]) ∧ Q v H1
theorem relO_name {v : V} {v' : Value} (r : RelV v v') (f : Str) : RelO (List.lookup f [(("name" : Str), v)]) (if f = "name" then some v' else none) := by
  by_cases hw : f = "name"
  · subst hw
    rw [if_pos rfl]
    have q : List.lookup ("name" : Str) [(("name" : Str), v)] = some v := by simp [List.lookup]
    rw [q]
    exact r
  · rw [if_neg hw]
    have qw : (f == ("name" : Str)) = false := by simpa using hw
    have q2 : List.lookup f [(("name" : Str), v)] = none := by simp [List.lookup, qw]
    rw [q2]
    trivial
theorem pe_ename {a : Addr} {oe : Obj} {cls : Value} {d : Option Addr} {pn : List (Addr × Obj)} {te : TE} (T : ErrTxt X.K X.mg sI Cs C0 fI fd) (hz : Zc cls d oe) (hf : ∃ vs, oe.data = .fields vs) (he : PE (X.suite a ((a, oe) :: pn)) e te)
    (hb : attributeBase e "name" X.env (eval e X.env) = eval e X.env := by rfl) :
    PE (X.suite a ((a, oe) :: pn)) (.Attribute e "name" pos) (tEN Cs a cls d te) := by
  refine ⟨fun pins s σ H Q I h => ?_⟩
  refine attr_of hb (thn (he.run pins s σ H _ I h) fun u s1 hh => ?_)
  obtain ⟨x, H1, I1, rx, ex, ec, dd, v, ed, ea, q⟩ := hh
  subst ex
  obtain rfl : u = Value.ref a := rx
  subst ec
  subst ed
  obtain ⟨ha, _⟩ := I1.pin (a, oe) (List.mem_append_left _ List.mem_cons_self)
  obtain ⟨vs, hd⟩ := hf
  have hx : ObjOk X.prog X.w H1 s1.heap dd (.xd [(("name" : Str), v)]) := I1.hok dd _ ea
  obtain ⟨mA, hns, hr⟩ := hx
  obtain ⟨od, ho, hl⟩ := lookIn_ns hns
  have l : List.lookup ("name" : Str) [(("name" : Str), v)] = some v := by simp [List.lookup]
  obtain ⟨u, hu, ru⟩ := RelO.some_of (v := v) (o := mA "name") (by rw [← l]; exact hr "name")
  have J : PySem.W.InstAt s1.heap a oe Cs (some od) := ⟨ha, hz.1, by unfold PySem.W.notCls; rw [hd] <;> rfl, by rw [hz.2]; exact ho⟩
  exact HandSPX.exc_get I1.kIn J T.ga T.gg T.oex.exC (PySem.W.findObj_own T.hd T.no rfl (by rw [hl, hu])) (handed_of ru) ⟨v, H1, I1.tok _, ru, q⟩
theorem takes_len {W W' : WX} (t : Takes X W) (h : ∀ c d σ H, σ.length = X.N.length → W' c d σ H → W c d σ H) : Takes X W' := fun u s' ⟨a, B, sI, pins, σ, H, cls, d, e, I, nb, up, sky, na, os, ag, w⟩ =>
  t u s' ⟨a, B, sI, pins, σ, H, cls, d, e, I, nb, up, sky, na, os, ag, h _ _ _ _ I.len w⟩
/-- what a suite of returns is to give -/
def SuiteOk (X : Cx) (N : Ent) (n : Nat) (Cs : Addr) (suite : List Stmt) (z : Str) (M' : Mem) (rt : It → Mem → Prop) : Prop :=
  ∀ (a dd : Addr) (P' H' : Hp) (σ' : L2.St) (oe : Obj) (pn : List (Addr × Obj)) (D : Ends), Holds N P' H' M' → H' dd = some (XD z) → H' a = none → σ'.length = X.N.length → Zc (.ref Cs) (some dd) oe → (∃ vs, oe.data = .fields vs) →
    (∀ i M'' v H'' P'', rt i M'' → Ex P' P'' → Holds N P'' H'' M'' → RepI P'' v i → D.rt v H'') → wSs (X.suite a ((a, oe) :: pn)) suite D (σ'.set n (some (.ref a))) H'
theorem sj_try (n : Nat) {nm : Str} {np pos' : Pos} {body suite : List Stmt} {b₀ : Stmt} (ER : Str → Mem → Prop) (hN : X.N.Nodup) (T : ErrTxt X.K X.mg sI Cs C0 fI fd)
    (hb : ∀ (pn : List (Addr × Obj)) (xe : Value → Shared → Prop), PassesOwn (model X.prog X.w) X.A X.env xe → SJ (X.tr pn xe) N ρ M body { nx := fun ρ' M' => SJ X N ρ' M' rest Z, rt := Z.rt, bk := Z.bk, ct := Z.ct, er := ER })
    (hsu : ∀ z M', ER z M' → SuiteOk X N n Cs (b₀ :: suite) z M' Z.rt)
    (hi : X.N[n]? = some nm := by rfl) (hln : X.env.kindOf nm = some .local := by rfl) (hg : Gl X "ShapeError" := by rfl) (hs : X.stack = X.env :: X.outer := by rfl) (hf : X.env.frame = some X.env.locals := by rfl) :
    SJ X N ρ M (.Try body [.ExceptHandler (some (.Name "ShapeError" np)) (some nm) (b₀ :: suite) pos'] [] [] pos :: rest) Z := sj_cons fun σ H P hh g D E tk zd => by
  refine s_of (ps_try_as (i := n) (c := .ref Cs) (tb := fun W => fun D σ H => ∀ pn xe, Takes (X.tr pn xe) W → PassesOwn (model X.prog X.w) X.A X.env xe → wSs (X.tr pn xe) body D σ H)
    (ts := fun a cls d => fun D σ H => ∀ oe pn, Zc cls d oe → (∃ vs, oe.data = .fields vs) → wSs (X.suite a ((a, oe) :: pn)) (b₀ :: suite) D σ H) (Wout := fun _ _ _ _ => False) hs hf hN hi hln ⟨hg, by decide, .inl T.gS⟩ takes0
    (fun W pn xe tk1 po => ⟨fun pins s σ H D I h => h pn xe tk1 po pins s I⟩) (fun a oe cls d pn hz hv => ⟨fun pins s σ H D I h => h oe pn hz hv pins s I⟩)) ?_
  intro pn xe tk1 po
  refine hb pn xe po σ H P hh g D (fun c d H' => ∀ σ' : L2.St, σ'.length = X.N.length → wAs X.K (.ref Cs) n (fun a cls d => fun D σ H => ∀ oe pn, Zc cls d oe → (∃ vs, oe.data = .fields vs) → wSs (X.suite a ((a, oe) :: pn)) (b₀ :: suite) D σ H) (fun _ _ _ _ => False) D c d σ' H') (takes_len tk1 fun c d σ' H' hl w => w σ' hl) ⟨zd.nx, zd.rt, zd.bk, zd.ct, fun z M' d H' P' C gC hz e1 h1 x1 => ?_⟩
  intro σ' hl
  have eC : C = Cs := by
    have := gC.symm.trans T.gS
    cases this
    rfl
  subst eC
  refine ⟨true, T.te, fun _ a ha oe pn2 hz2 hv2 => ?_, fun q => Bool.noConfusion q⟩
  exact hsu z M' hz a d P' H' σ' oe pn2 _ h1 x1 ha hl hz2 hv2 fun i M'' v H'' P'' r e2 h2 r2 => zd.rt i M'' v H'' P'' r (e1.trans e2) h2 r2
/-- return e.name == '..' -/
theorem suite_eq (n : Nat) {nm z w : Str} {p1 p2 p3 p4 : Pos} {j : Nat} {rest : List Stmt} {rt : It → Mem → Prop} (T : ErrTxt X.K X.mg sI Cs C0 fI fd) (h : rt (dB (decide (z = w))) M') (hi : X.N[n]? = some nm := by rfl) (hv : Vis X.env.scope nm := by exact Or.inl rfl) (hd : (nm == ("__debug__" : Str)) = false := by decide) (hcd : (nm == ("__classdict__" : Str)) = false := by decide)
    (hb : attributeBase (.Name nm p1) "name" X.env (eval (.Name nm p1) X.env) = eval (.Name nm p1) X.env := by rfl) :
    SuiteOk X N n Cs (.Return (some (.Compare (.Attribute (.Name nm p1) "name" p2) [.Eq] [.Constant (.str w) j p3] p4)) pos :: rest) z M' rt := fun a dd P' H' σ' oe pn D hh x ha hl hz hf k => by
  have l : n < X.N.length := (List.getElem?_eq_some_iff.mp hi).1
  refine ss_of (pss_cons (ps_ret (pe_cmpR op_eq (pe_ename T hz hf (pe_var (i := n) hi hv hd hcd) hb) pe_str (nomark _))) pss_w) ?_
  refine ⟨.ref a, List.getElem?_set_self (by omega), rfl, rfl, dd, .str z, rfl, x, rfl, ?_⟩
  refine k (dB (decide (z = w))) M' _ H' P' h (Ex.refl _) hh ?_
  have e : decide (V.str z = V.str w) = decide (z = w) := by
    by_cases q : z = w
    · subst q; simp
    · simp [q]
  show Dn P' (.bl (decide (V.str z = V.str w))) (.bool (decide (z = w)))
  rw [e]
  exact .bl _
/-- return e.name -/
theorem suite_name (n : Nat) {nm z : Str} {p1 p2 : Pos} {rest : List Stmt} {rt : It → Mem → Prop} (T : ErrTxt X.K X.mg sI Cs C0 fI fd) (h : rt (.d (.str z)) M') (hi : X.N[n]? = some nm := by rfl) (hv : Vis X.env.scope nm := by exact Or.inl rfl) (hd : (nm == ("__debug__" : Str)) = false := by decide) (hcd : (nm == ("__classdict__" : Str)) = false := by decide)
    (hb : attributeBase (.Name nm p1) "name" X.env (eval (.Name nm p1) X.env) = eval (.Name nm p1) X.env := by rfl) :
    SuiteOk X N n Cs (.Return (some (.Attribute (.Name nm p1) "name" p2)) pos :: rest) z M' rt := fun a dd P' H' σ' oe pn D hh x ha hl hz hf k => by
  have l : n < X.N.length := (List.getElem?_eq_some_iff.mp hi).1
  refine ss_of (pss_cons (ps_ret (pe_ename T hz hf (pe_var (i := n) hi hv hd hcd) hb)) pss_w) ?_
  refine ⟨.ref a, List.getElem?_set_self (by omega), rfl, rfl, dd, .str z, rfl, x, ?_⟩
  exact k (.d (.str z)) M' _ H' P' h (Ex.refl _) hh (.str z)
end
end Kt

/-! Kt7: kinds, concatenation, slices, filters, the script as a source. -/
namespace Kt
open PySem PySem.Spec PyProof.Rows L2

namespace HT
theorem seqIx (n m : Nat) (h : n < m) : seqIndex? (n : Int) m = some n := (L2.ixN_seq (by unfold L2.ixN; rw [if_pos (by omega), if_pos (by omega)]; simp)).1
end HT
theorem RepIs.erase {P : Hp} : ∀ {vs : List V} {is : List It} (n : Nat), RepIs P vs is → RepIs P (vs.eraseIdx n) (is.eraseIdx n)
  | [], [], _, _ => trivial
  | _ :: _, _ :: _, 0, h => h.2
  | _ :: _, _ :: _, n + 1, h => ⟨h.1, RepIs.erase n h.2⟩
  | [], _ :: _, _, h => h.elim
  | _ :: _, [], _, h => h.elim
section
variable {X : Cx} {N : Ent} {ρ ρ' : Rho} {M M1 M2 M3 M' Mc Mr Mc' : Mem} {a b c e : Expr} {pos : Pos} {i j k : It} {t u : Bool} {Z : Post} {body rest : List Stmt} {tg iter : Expr}
def wBT (X : Cx) (scope : Scope) (e : Expr) : TT := fun σ H Q => ∀ s H0 C cl fp, wT (X.blk s H0 scope (compEnvC scope cl C X.env) fp) e σ H Q
/-- (the reading) [e for x in a list-like source] -/
theorem lj_compS {x0 : It} {elt : Expr} {scope : Scope} (n : Nat) {ds : List PyData} (A : Nat → List It) (Mi : Nat → Mem) (hc : X.calm = true) (hN : X.N.Nodup) (hi : EJ X N ρ M iter x0 M1) (src : ∀ v P, RepI P v x0 → ∃ a xs, v = .ref a ∧ SqL X.K P a xs ∧ DnAll P xs ds)
    (hA0 : A 0 = []) (hM0 : Mi 0 = M1) (hz : ds.length ≤ 100000)
    (step : ∀ (m : Nat) d, ds[m]? = some d → ∃ j, A (m + 1) = A m ++ [j] ∧ (A m).length ≤ m ∧ ∀ N' s H C cl fp, EJ (X.blk s H scope (compEnvC scope cl C X.env) fp) N' (ρ.set n (some (.d d))) (Mi m) elt j (Mi (m + 1)))
    : LJ X N ρ M (tLc (iList X.K (wE X iter)) (gName n) tYes (wBE X scope elt) [n]) (A ds.length) (Mi ds.length) := fun σ H P hh g Q q => by
  refine (hi σ H P hh g _ fun v H1 P1 e1 h1 r1 => ?_)
  obtain ⟨a, xs, rfl, x1, x2⟩ := src _ _ r1
  have xl := dnAll_len x2
  refine ⟨a, rfl, ⟨xs, exw_l h1.exw x1⟩, fun D hD => lc_list (xs := xs) (fun m H' => ∃ P', Holds N P' H' (Mi m ++ [(D, A m)]) ∧ Ex P1 P') ⟨P1, by rw [hA0, hM0]; exact h1.own hD (its := []) trivial, Ex.refl _⟩ (fun m H' _ hw => ?_) (fun m x' H' hx hw => ?_) (fun H' hw => ?_)⟩
  · obtain ⟨P', h2, e2⟩ := hw
    exact exw_l h2.exw (ex_l e2 x1)
  · obtain ⟨P', h2, e2⟩ := hw
    have nl : m < ds.length := xl ▸ (List.getElem?_eq_some_iff.mp hx).1
    obtain ⟨v', ev, dv⟩ := dnAll_get x2 (List.getElem?_eq_getElem nl)
    rw [hx] at ev
    cases Option.some.inj ev
    obtain ⟨j, eA, lA, S⟩ := step m _ (List.getElem?_eq_getElem nl)
    refine ⟨wipe_comp n, ?_⟩
    unfold tYes
    dsimp only
    rw [if_pos rfl]
    intro s H0 C cl fp
    refine S (inner P' H' (Mi m)) s H0 C cl fp _ H' P' h2.enter (slots_comp (g.ex (e1.trans e2)) n (dn_ex e2 _ _ dv)) _ fun y H4 P4 e4 h4 r4 => ?_
    have h5 := h2.leave h4
    obtain ⟨acc, ea, ra⟩ := h5.cell (a := D) (its := A m) (List.mem_append_right _ (List.mem_singleton.mpr rfl))
    refine ⟨acc, ea, by rw [ra.len]; exact Nat.lt_of_lt_of_le (Nat.lt_of_le_of_lt lA (Nat.lt_of_lt_of_le nl hz)) (by decide), P4, ?_, e2.trans e4⟩
    have h6 := h5.write (a := D) (its := A m) (its' := A (m + 1)) (List.mem_append_right _ (List.mem_singleton.mpr rfl)) (xs' := acc ++ [y]) (by rw [eA]; exact ra.app ⟨r4, trivial⟩)
    rw [put_last h5.nd] at h6
    exact h6
  · obtain ⟨P', h2, e2⟩ := hw
    rw [xl] at h2
    exact q D H' P' (e1.trans e2) (h1.newF hD) h2
/-- [e for x in a list-like source] -/
theorem el_compS {x0 : It} {elt : Expr} {x : Str} {p : Pos} {scope : Scope} (n : Nat) {ds : List PyData} (A : Nat → List It) (Mi : Nat → Mem) (hc : X.calm = true) (hN : X.N.Nodup) (hi : EJ X N ρ M iter x0 M1) (src : ∀ v P, RepI P v x0 → ∃ a xs, v = .ref a ∧ SqL X.K P a xs ∧ DnAll P xs ds)
    (hA0 : A 0 = []) (hM0 : Mi 0 = M1) (hz : ds.length ≤ 100000)
    (step : ∀ (m : Nat) d, ds[m]? = some d → ∃ j, A (m + 1) = A m ++ [j] ∧ (A m).length ≤ m ∧ ∀ N' s H C cl fp, EJ (X.blk s H scope (compEnvC scope cl C X.env) fp) N' (ρ.set n (some (.d d))) (Mi m) elt j (Mi (m + 1)))
    (ok : BlkOk X.N X.env.scope scope [(x, n)] := by exact blkOk_by (by kernel_rfl))
    (hgn : ∀ (s : Shared) (H : Hp) (C : Addr) (cl : List (Str × Addr)) (fp : List Addr), PG (X.blk s H scope (compEnvC scope cl C X.env) fp) (.Name x p) (gName n) := by exact fun _ _ _ _ _ => pg_name (by assumption) rfl (Or.inl rfl))
    (hf : ∀ x, foldedSetIterable iter X.env x = pure x := by intro _; rfl) : EL X N ρ M (.ListComp elt [⟨.Name x p, iter, [], 0⟩] scope pos) (A ds.length) (Mi ds.length) :=
  el_lc (lj_compS n A Mi hc hN hi src hA0 hM0 hz step) (pe_lc hc hN (pi_list pe_w) ok hgn (fun _ _ _ _ _ => pts_nil) (te := wBE X scope elt) (fun s H C cl fp => ⟨fun pins s1 σ1 H1 Q1 I1 h1 => h1 s H C cl fp pins s1 I1⟩) hf)
theorem sj_setcompS (n' : Nat) {y : Str} {py spos : Pos} {Z : Post} {rest : List Stmt} {x0 : It} {elt : Expr} {x : Str} {p : Pos} {scope : Scope} (n : Nat) {ds : List PyData} (A : Nat → List It) (Mi : Nat → Mem) (hc : X.calm = true) (hN : X.N.Nodup) (hi : EJ X N ρ M iter x0 M1) (src : ∀ v P, RepI P v x0 → ∃ a xs, v = .ref a ∧ SqL X.K P a xs ∧ DnAll P xs ds)
    (hA0 : A 0 = []) (hM0 : Mi 0 = M1) (hz : ds.length ≤ 100000)
    (step : ∀ (m : Nat) d, ds[m]? = some d → ∃ j, A (m + 1) = A m ++ [j] ∧ (A m).length ≤ m ∧ ∀ N' s H C cl fp, EJ (X.blk s H scope (compEnvC scope cl C X.env) fp) N' (ρ.set n (some (.d d))) (Mi m) elt j (Mi (m + 1)))
    (hr : ∀ p, p ∉ N.F → SJ X N (ρ.set n' (some (.v (.ref p)))) (Mi ds.length ++ [(p, A ds.length)]) rest Z)
    (hy : X.N[n']? = some y := by rfl) (hyl : X.env.scope.names.lookup y = some .local := by rfl)
    (hsw : swapsWith (.ListComp elt [⟨.Name x p, iter, [], 0⟩] scope pos) (some (.Name y py)) spos.line X.env = pure true := by exact sw_true rfl rfl rfl (by kernel_rfl))
    (ok : BlkOk X.N X.env.scope scope [(x, n)] := by exact blkOk_by (by kernel_rfl))
    (hgn : ∀ (s : Shared) (H : Hp) (C : Addr) (cl : List (Str × Addr)) (fp : List Addr), PG (X.blk s H scope (compEnvC scope cl C X.env) fp) (.Name x p) (gName n) := by exact fun _ _ _ _ _ => pg_name (by assumption) rfl (Or.inl rfl))
    (hf : ∀ x, foldedSetIterable iter X.env x = pure x := by intro _; rfl) : SJ X N ρ M (.Assign [.Name y py] (.ListComp elt [⟨.Name x p, iter, [], 0⟩] scope pos) spos :: rest) Z :=
  sj_lc n' (lj_compS n A Mi hc hN hi src hA0 hM0 hz step) (ps_setLc (i := n') (y := y) (py := py) (spos := spos) hc hN hy hyl hsw (pi_list pe_w) ok hgn (fun _ _ _ _ _ => pts_nil) (te := wBE X scope elt) (fun s H C cl fp => ⟨fun pins s1 σ1 H1 Q1 I1 h1 => h1 s H C cl fp pins s1 I1⟩) hf) hr
/-- (the reading) [e for x in a list of data if c] -/
theorem lj_compF {cnd : Expr} {elt : Expr} {scope : Scope} (n : Nat) {ds : List PyData} (A : Nat → List It) (Mi : Nat → Mem) (hc : X.calm = true) (hN : X.N.Nodup) (hi : (EJ X N ρ M iter (.d (.list ds)) M1))
    (hA0 : A 0 = []) (hM0 : Mi 0 = M1) (hz : ds.length ≤ 100000)
    (step : ∀ (m : Nat) d, ds[m]? = some d → ∃ t Mm, (∀ N' s H C cl fp, TJ (X.blk s H scope (compEnvC scope cl C X.env) fp) N' (ρ.set n (some (.d d))) (Mi m) cnd t Mm) ∧ (A m).length ≤ m ∧
      (t = true → ∃ j, A (m + 1) = A m ++ [j] ∧ ∀ N' s H C cl fp, EJ (X.blk s H scope (compEnvC scope cl C X.env) fp) N' (ρ.set n (some (.d d))) Mm elt j (Mi (m + 1))) ∧ (t = false → A (m + 1) = A m ∧ Mi (m + 1) = Mm))
    : LJ X N ρ M (tLc (iList X.K (wE X iter)) (gName n) (wBT X scope cnd) (wBE X scope elt) [n]) (A ds.length) (Mi ds.length) := fun σ H P hh g Q q => by
  refine (hi σ H P hh g _ fun v H1 P1 e1 h1 r1 => ?_)
  obtain ⟨a, xs, rfl, x1, x2⟩ := ri_lst r1
  have xl := dnAll_len x2
  refine ⟨a, rfl, ⟨xs, .inl (.inl (h1.ex _ _ x1))⟩, fun D hD => lc_list (xs := xs) (fun m H' => ∃ P', Holds N P' H' (Mi m ++ [(D, A m)]) ∧ Ex P1 P') ⟨P1, by rw [hA0, hM0]; exact h1.own hD (its := []) trivial, Ex.refl _⟩ (fun m H' _ hw => ?_) (fun m x' H' hx hw => ?_) (fun H' hw => ?_)⟩
  · obtain ⟨P', h2, e2⟩ := hw
    exact .inl (.inl (h2.ex _ _ (e2 _ _ x1)))
  · obtain ⟨P', h2, e2⟩ := hw
    have nl : m < ds.length := xl ▸ (List.getElem?_eq_some_iff.mp hx).1
    obtain ⟨v', ev, dv⟩ := dnAll_get x2 (List.getElem?_eq_getElem nl)
    rw [hx] at ev
    cases Option.some.inj ev
    obtain ⟨t, Mm, T, lA, S1, S2⟩ := step m _ (List.getElem?_eq_getElem nl)
    refine ⟨wipe_comp n, ?_⟩
    intro s H0 C cl fp
    have gs := slots_comp (g.ex (e1.trans e2)) n (i := .d ds[m]) (dn_ex e2 _ _ dv)
    refine T (inner P' H' (Mi m)) s H0 C cl fp _ H' P' h2.enter gs _ fun H3 P3 e3 h3 => ?_
    cases t with
    | true =>
      obtain ⟨j, eA, S⟩ := S1 rfl
      rw [if_pos rfl]
      intro s H0 C cl fp
      refine S (inner P' H' (Mi m)) s H0 C cl fp _ H3 P3 h3 (gs.ex e3) _ fun y H4 P4 e4 h4 r4 => ?_
      have h5 := h2.leave h4
      obtain ⟨acc, ea, ra⟩ := h5.cell (a := D) (its := A m) (List.mem_append_right _ (List.mem_singleton.mpr rfl))
      refine ⟨acc, ea, by rw [ra.len]; exact Nat.lt_of_lt_of_le (Nat.lt_of_le_of_lt lA (Nat.lt_of_lt_of_le nl hz)) (by decide), P4, ?_, (e2.trans e3).trans e4⟩
      have h6 := h5.write (a := D) (its := A m) (its' := A (m + 1)) (List.mem_append_right _ (List.mem_singleton.mpr rfl)) (xs' := acc ++ [y]) (by rw [eA]; exact ra.app ⟨r4, trivial⟩)
      rw [put_last h5.nd] at h6
      exact h6
    | false =>
      obtain ⟨eA, eM⟩ := S2 rfl
      rw [if_neg Bool.false_ne_true]
      refine ⟨P3, ?_, e2.trans e3⟩
      rw [eA, eM]
      exact h2.leave h3
  · obtain ⟨P', h2, e2⟩ := hw
    rw [xl] at h2
    exact q D H' P' (e1.trans e2) (h1.newF hD) h2
/-- [e for x in a list of data if c] -/
theorem el_compF {cnd : Expr} {elt : Expr} {x : Str} {p : Pos} {scope : Scope} (n : Nat) {ds : List PyData} (A : Nat → List It) (Mi : Nat → Mem) (hc : X.calm = true) (hN : X.N.Nodup) (hi : (EJ X N ρ M iter (.d (.list ds)) M1))
    (hA0 : A 0 = []) (hM0 : Mi 0 = M1) (hz : ds.length ≤ 100000)
    (step : ∀ (m : Nat) d, ds[m]? = some d → ∃ t Mm, (∀ N' s H C cl fp, TJ (X.blk s H scope (compEnvC scope cl C X.env) fp) N' (ρ.set n (some (.d d))) (Mi m) cnd t Mm) ∧ (A m).length ≤ m ∧
      (t = true → ∃ j, A (m + 1) = A m ++ [j] ∧ ∀ N' s H C cl fp, EJ (X.blk s H scope (compEnvC scope cl C X.env) fp) N' (ρ.set n (some (.d d))) Mm elt j (Mi (m + 1))) ∧ (t = false → A (m + 1) = A m ∧ Mi (m + 1) = Mm))
    (ok : BlkOk X.N X.env.scope scope [(x, n)] := by exact blkOk_by (by kernel_rfl))
    (hgn : ∀ (s : Shared) (H : Hp) (C : Addr) (cl : List (Str × Addr)) (fp : List Addr), PG (X.blk s H scope (compEnvC scope cl C X.env) fp) (.Name x p) (gName n) := by exact fun _ _ _ _ _ => pg_name (by assumption) rfl (Or.inl rfl))
    (hf : ∀ x, foldedSetIterable iter X.env x = pure x := by intro _; rfl) : EL X N ρ M (.ListComp elt [⟨.Name x p, iter, [cnd], 0⟩] scope pos) (A ds.length) (Mi ds.length) :=
  el_lc (lj_compF n A Mi hc hN hi hA0 hM0 hz step) (pe_lc hc hN (pi_list pe_w) ok hgn (tt := wBT X scope cnd) (fun s H C cl fp => pts_one ⟨fun pins s1 σ1 H1 Q1 I1 h1 => h1 s H C cl fp pins s1 I1⟩) (te := wBE X scope elt) (fun s H C cl fp => ⟨fun pins s1 σ1 H1 Q1 I1 h1 => h1 s H C cl fp pins s1 I1⟩) hf)
theorem sj_setcompF (n' : Nat) {y : Str} {py spos : Pos} {Z : Post} {rest : List Stmt} {cnd : Expr} {elt : Expr} {x : Str} {p : Pos} {scope : Scope} (n : Nat) {ds : List PyData} (A : Nat → List It) (Mi : Nat → Mem) (hc : X.calm = true) (hN : X.N.Nodup) (hi : (EJ X N ρ M iter (.d (.list ds)) M1))
    (hA0 : A 0 = []) (hM0 : Mi 0 = M1) (hz : ds.length ≤ 100000)
    (step : ∀ (m : Nat) d, ds[m]? = some d → ∃ t Mm, (∀ N' s H C cl fp, TJ (X.blk s H scope (compEnvC scope cl C X.env) fp) N' (ρ.set n (some (.d d))) (Mi m) cnd t Mm) ∧ (A m).length ≤ m ∧
      (t = true → ∃ j, A (m + 1) = A m ++ [j] ∧ ∀ N' s H C cl fp, EJ (X.blk s H scope (compEnvC scope cl C X.env) fp) N' (ρ.set n (some (.d d))) Mm elt j (Mi (m + 1))) ∧ (t = false → A (m + 1) = A m ∧ Mi (m + 1) = Mm))
    (hr : ∀ p, p ∉ N.F → SJ X N (ρ.set n' (some (.v (.ref p)))) (Mi ds.length ++ [(p, A ds.length)]) rest Z)
    (hy : X.N[n']? = some y := by rfl) (hyl : X.env.scope.names.lookup y = some .local := by rfl)
    (hsw : swapsWith (.ListComp elt [⟨.Name x p, iter, [cnd], 0⟩] scope pos) (some (.Name y py)) spos.line X.env = pure true := by exact sw_true rfl rfl rfl (by kernel_rfl))
    (ok : BlkOk X.N X.env.scope scope [(x, n)] := by exact blkOk_by (by kernel_rfl))
    (hgn : ∀ (s : Shared) (H : Hp) (C : Addr) (cl : List (Str × Addr)) (fp : List Addr), PG (X.blk s H scope (compEnvC scope cl C X.env) fp) (.Name x p) (gName n) := by exact fun _ _ _ _ _ => pg_name (by assumption) rfl (Or.inl rfl))
    (hf : ∀ x, foldedSetIterable iter X.env x = pure x := by intro _; rfl) : SJ X N ρ M (.Assign [.Name y py] (.ListComp elt [⟨.Name x p, iter, [cnd], 0⟩] scope pos) spos :: rest) Z :=
  sj_lc n' (lj_compF n A Mi hc hN hi hA0 hM0 hz step) (ps_setLc (i := n') (y := y) (py := py) (spos := spos) hc hN hy hyl hsw (pi_list pe_w) ok hgn (tt := wBT X scope cnd) (fun s H C cl fp => pts_one ⟨fun pins s1 σ1 H1 Q1 I1 h1 => h1 s H C cl fp pins s1 I1⟩) (te := wBE X scope elt) (fun s H C cl fp => ⟨fun pins s1 σ1 H1 Q1 I1 h1 => h1 s H C cl fp pins s1 I1⟩) hf) hr
/-- (the reading) [e for x in range(n) if c] -/
theorem lj_compRF {cnd : Expr} {elt : Expr} {scope : Scope} (n : Nat) {z : Int} (A : Nat → List It) (Mi : Nat → Mem) (hc : X.calm = true) (hmr : X.mg "range" = none) (hN : X.N.Nodup) (hi : EJ X N ρ M a (dI z) M1)
    (hA0 : A 0 = []) (hM0 : Mi 0 = M1) (hz : z ≤ 100000 ∧ -(2 ^ 62) ≤ z)
    (step : ∀ (m : Nat), m < z.toNat → ∃ t Mm, (∀ N' s H C cl fp, TJ (X.blk s H scope (compEnvC scope cl C X.env) fp) N' (ρ.set n (some (dI (m : Int)))) (Mi m) cnd t Mm) ∧ (A m).length ≤ m ∧
      (t = true → ∃ j, A (m + 1) = A m ++ [j] ∧ ∀ N' s H C cl fp, EJ (X.blk s H scope (compEnvC scope cl C X.env) fp) N' (ρ.set n (some (dI (m : Int)))) Mm elt j (Mi (m + 1))) ∧ (t = false → A (m + 1) = A m ∧ Mi (m + 1) = Mm))
    (hs : starEach [a] X.env = [(false, eval a X.env)] := by rfl)
    : LJ X N ρ M (tLc (iRng1 (wA X [a])) (gName n) (wBT X scope cnd) (wBE X scope elt) [n]) (A z.toNat) (Mi z.toNat) := fun σ H P hh g Q q => by
  refine (aj_cons hi aj_nil hs σ H P hh g _ fun vs H1 P1 e1 h1 r1 => ?_)
  obtain ⟨x', rfl, r2⟩ := ri1 r1
  cases ri_int r2
  refine ⟨z, rfl, hz.2, by omega, fun D hD => lc_range (lo := 0) (n := z.toNat) (fun m H' => ∃ P', Holds N P' H' (Mi m ++ [(D, A m)]) ∧ Ex P1 P') ⟨P1, by rw [hA0, hM0]; exact h1.own hD (its := []) trivial, Ex.refl _⟩ (fun m H' nl hw => ?_) (fun H' hw => ?_)⟩
  · obtain ⟨P', h2, e2⟩ := hw
    obtain ⟨t, Mm, T, lA, S1, S2⟩ := step m nl
    refine ⟨wipe_comp n, ?_⟩
    intro s H0 C cl fp
    have gs := slots_comp (v := .int (0 + (m : Int))) (g.ex (e1.trans e2)) n (i := dI (m : Int)) (by rw [Int.zero_add]; exact .int _)
    refine T (inner P' H' (Mi m)) s H0 C cl fp _ H' P' h2.enter gs _ fun H3 P3 e3 h3 => ?_
    cases t with
    | true =>
      obtain ⟨j, eA, S⟩ := S1 rfl
      rw [if_pos rfl]
      intro s H0 C cl fp
      refine S (inner P' H' (Mi m)) s H0 C cl fp _ H3 P3 h3 (gs.ex e3) _ fun y H4 P4 e4 h4 r4 => ?_
      have h5 := h2.leave h4
      obtain ⟨acc, ea, ra⟩ := h5.cell (a := D) (its := A m) (List.mem_append_right _ (List.mem_singleton.mpr rfl))
      refine ⟨acc, ea, by rw [ra.len]; exact Nat.lt_of_lt_of_le (Nat.lt_of_le_of_lt lA (by omega : m < 100000)) (by decide), P4, ?_, (e2.trans e3).trans e4⟩
      have h6 := h5.write (a := D) (its := A m) (its' := A (m + 1)) (List.mem_append_right _ (List.mem_singleton.mpr rfl)) (xs' := acc ++ [y]) (by rw [eA]; exact ra.app ⟨r4, trivial⟩)
      rw [put_last h5.nd] at h6
      exact h6
    | false =>
      obtain ⟨eA, eM⟩ := S2 rfl
      rw [if_neg Bool.false_ne_true]
      refine ⟨P3, ?_, e2.trans e3⟩
      rw [eA, eM]
      exact h2.leave h3
  · obtain ⟨P', h2, e2⟩ := hw
    exact q D H' P' (e1.trans e2) (h1.newF hD) h2
/-- [e for x in range(n) if c] -/
theorem el_compRF {cnd : Expr} {elt : Expr} {x : Str} {p rpp rp : Pos} {scope : Scope} (n : Nat) {z : Int} (A : Nat → List It) (Mi : Nat → Mem) (hc : X.calm = true) (hmr : X.mg "range" = none) (hN : X.N.Nodup) (hi : EJ X N ρ M a (dI z) M1)
    (hA0 : A 0 = []) (hM0 : Mi 0 = M1) (hz : z ≤ 100000 ∧ -(2 ^ 62) ≤ z)
    (step : ∀ (m : Nat), m < z.toNat → ∃ t Mm, (∀ N' s H C cl fp, TJ (X.blk s H scope (compEnvC scope cl C X.env) fp) N' (ρ.set n (some (dI (m : Int)))) (Mi m) cnd t Mm) ∧ (A m).length ≤ m ∧
      (t = true → ∃ j, A (m + 1) = A m ++ [j] ∧ ∀ N' s H C cl fp, EJ (X.blk s H scope (compEnvC scope cl C X.env) fp) N' (ρ.set n (some (dI (m : Int)))) Mm elt j (Mi (m + 1))) ∧ (t = false → A (m + 1) = A m ∧ Mi (m + 1) = Mm))
    (ok : BlkOk X.N X.env.scope scope [(x, n)] := by exact blkOk_by (by kernel_rfl))
    (hgn : ∀ (s : Shared) (H : Hp) (C : Addr) (cl : List (Str × Addr)) (fp : List Addr), PG (X.blk s H scope (compEnvC scope cl C X.env) fp) (.Name x p) (gName n) := by exact fun _ _ _ _ _ => pg_name (by assumption) rfl (Or.inl rfl))
    (hg : Gl X "range" := by rfl) (hs : starEach [a] X.env = [(false, eval a X.env)] := by rfl)
    (hf : ∀ x, foldedSetIterable (.Call (.Name "range" rpp) [a] [] rp) X.env x = pure x := by intro _; rfl) : EL X N ρ M (.ListComp elt [⟨.Name x p, .Call (.Name "range" rpp) [a] [] rp, [cnd], 0⟩] scope pos) (A z.toNat) (Mi z.toNat) :=
  el_lc (lj_compRF n A Mi hc hmr hN hi hA0 hM0 hz step hs) (pe_lc hc hN (pi_range1 hg hmr pa_w hs) ok hgn (tt := wBT X scope cnd) (fun s H C cl fp => pts_one ⟨fun pins s1 σ1 H1 Q1 I1 h1 => h1 s H C cl fp pins s1 I1⟩) (te := wBE X scope elt) (fun s H C cl fp => ⟨fun pins s1 σ1 H1 Q1 I1 h1 => h1 s H C cl fp pins s1 I1⟩) hf)
theorem sj_setcompRF (n' : Nat) {y : Str} {py spos : Pos} {Z : Post} {rest : List Stmt} {cnd : Expr} {elt : Expr} {x : Str} {p rpp rp : Pos} {scope : Scope} (n : Nat) {z : Int} (A : Nat → List It) (Mi : Nat → Mem) (hc : X.calm = true) (hmr : X.mg "range" = none) (hN : X.N.Nodup) (hi : EJ X N ρ M a (dI z) M1)
    (hA0 : A 0 = []) (hM0 : Mi 0 = M1) (hz : z ≤ 100000 ∧ -(2 ^ 62) ≤ z)
    (step : ∀ (m : Nat), m < z.toNat → ∃ t Mm, (∀ N' s H C cl fp, TJ (X.blk s H scope (compEnvC scope cl C X.env) fp) N' (ρ.set n (some (dI (m : Int)))) (Mi m) cnd t Mm) ∧ (A m).length ≤ m ∧
      (t = true → ∃ j, A (m + 1) = A m ++ [j] ∧ ∀ N' s H C cl fp, EJ (X.blk s H scope (compEnvC scope cl C X.env) fp) N' (ρ.set n (some (dI (m : Int)))) Mm elt j (Mi (m + 1))) ∧ (t = false → A (m + 1) = A m ∧ Mi (m + 1) = Mm))
    (hr : ∀ p, p ∉ N.F → SJ X N (ρ.set n' (some (.v (.ref p)))) (Mi z.toNat ++ [(p, A z.toNat)]) rest Z)
    (hy : X.N[n']? = some y := by rfl) (hyl : X.env.scope.names.lookup y = some .local := by rfl)
    (hsw : swapsWith (.ListComp elt [⟨.Name x p, .Call (.Name "range" rpp) [a] [] rp, [cnd], 0⟩] scope pos) (some (.Name y py)) spos.line X.env = pure true := by exact sw_true rfl rfl rfl (by kernel_rfl))
    (ok : BlkOk X.N X.env.scope scope [(x, n)] := by exact blkOk_by (by kernel_rfl))
    (hgn : ∀ (s : Shared) (H : Hp) (C : Addr) (cl : List (Str × Addr)) (fp : List Addr), PG (X.blk s H scope (compEnvC scope cl C X.env) fp) (.Name x p) (gName n) := by exact fun _ _ _ _ _ => pg_name (by assumption) rfl (Or.inl rfl))
    (hg : Gl X "range" := by rfl) (hs : starEach [a] X.env = [(false, eval a X.env)] := by rfl)
    (hf : ∀ x, foldedSetIterable (.Call (.Name "range" rpp) [a] [] rp) X.env x = pure x := by intro _; rfl) : SJ X N ρ M (.Assign [.Name y py] (.ListComp elt [⟨.Name x p, .Call (.Name "range" rpp) [a] [] rp, [cnd], 0⟩] scope pos) spos :: rest) Z :=
  sj_lc n' (lj_compRF n A Mi hc hmr hN hi hA0 hM0 hz step hs) (ps_setLc (i := n') (y := y) (py := py) (spos := spos) hc hN hy hyl hsw (pi_range1 hg hmr pa_w hs) ok hgn (tt := wBT X scope cnd) (fun s H C cl fp => pts_one ⟨fun pins s1 σ1 H1 Q1 I1 h1 => h1 s H C cl fp pins s1 I1⟩) (te := wBE X scope elt) (fun s H C cl fp => ⟨fun pins s1 σ1 H1 Q1 I1 h1 => h1 s H C cl fp pins s1 I1⟩) hf) hr
theorem sj_forS {x0 : It} {ds : List PyData} (hc : X.calm = true) (hi : EJ X N ρ M iter x0 M1) (src : ∀ v P, RepI P v x0 → ∃ a xs, v = .ref a ∧ SqL X.K P a xs ∧ DnAll P xs ds) (Inv : Nat → Rho → Mem → Prop) (h0 : Inv 0 ρ M1)
    (step : ∀ n d ρ' M', ds[n]? = some d → Inv n ρ' M' → ∃ ρ2, GJ X N tg (.d d) ρ' ρ2 ∧ SJ X N ρ2 M' body { nx := Inv (n + 1), ct := Inv (n + 1), bk := fun ρ' M' => SJ X N ρ' M' rest Z, rt := Z.rt, er := Z.er })
    (done : ∀ ρ' M', Inv ds.length ρ' M' → SJ X N ρ' M' rest Z) (hp : PassesOwn (model X.prog X.w) X.A X.env X.xe := by exact PassesOwn.never) (hf : ∀ x, foldedSetIterable iter X.env x = pure x := by intro _; rfl) : SJ X N ρ M (.For tg iter body [] pos :: rest) Z := sj_cons fun σ H P hh g D E tk z => by
  refine s_of (ps_for hp hc (pi_list pe_w) pg_w pss_w hf) (hi σ H P hh g _ fun v H1 P1 e1 h1 r1 => ?_)
  obtain ⟨a, xs, rfl, x1, x2⟩ := src _ _ r1
  have xl := dnAll_len x2
  refine ⟨a, rfl, ⟨xs, exw_l h1.exw x1⟩, for_list (xs := xs) (fun n σ' H' => ∃ ρ' M' P', Inv n ρ' M' ∧ Holds N P' H' M' ∧ Slots P' σ' ρ' ∧ Ex P1 P') ⟨ρ, M1, P1, h0, h1, g.ex e1, Ex.refl _⟩ (fun n σ' H' _ hw => ?_) (fun n x σ' H' hx hw => ?_) (fun σ' H' hw => ?_)⟩
  · obtain ⟨ρ', M', P', _, h2, _, e2⟩ := hw
    exact exw_l h2.exw (ex_l e2 x1)
  · obtain ⟨ρ', M', P', w, h2, g2, e2⟩ := hw
    have nl : n < ds.length := xl ▸ (List.getElem?_eq_some_iff.mp hx).1
    obtain ⟨v', ev, dv⟩ := dnAll_get x2 (List.getElem?_eq_getElem nl)
    rw [hx] at ev
    cases Option.some.inj ev
    obtain ⟨ρ2, G, S⟩ := step n _ ρ' M' (List.getElem?_eq_getElem nl) w
    refine G x σ' H' P' M' h2 g2 (dn_ex e2 _ _ dv) _ fun σ2 g3 => ?_
    refine S σ2 H' P' h2 g3 _ E tk ⟨fun ρ4 M4 σ4 H4 P4 a e h g => ⟨ρ4, M4, P4, a, h, g, e2.trans e⟩, fun i M4 v H4 P4 a e h r => z.rt i M4 v H4 P4 a ((e1.trans e2).trans e) h r, fun ρ4 M4 σ4 H4 P4 a e h g => z.nx ρ4 M4 σ4 H4 P4 a ((e1.trans e2).trans e) h g, fun ρ4 M4 σ4 H4 P4 a e h g => ⟨ρ4, M4, P4, a, h, g, e2.trans e⟩, fun w M4 d H4 P4 C c a e h x => z.er w M4 d H4 P4 C c a ((e1.trans e2).trans e) h x⟩
  · obtain ⟨ρ', M', P', w, h2, g2, e2⟩ := hw
    rw [xl] at w
    exact z.nx ρ' M' σ' H' P' (done ρ' M' w) (e1.trans e2) h2 g2

/-- the script -/
def scr (K : PySem.W.Frag) (a : Addr) (ns : List Int) : It := .m (.ref a) (fun P => SqL K P a (ns.map V.int)) fun _ _ e h => ex_l e h
theorem dn_ints {P : Hp} : ∀ ns : List Int, DnAll P (ns.map V.int) (ns.map PyData.int)
  | [] => .nil
  | n :: r => .cons (.int n) (dn_ints r)
theorem scr_src {K : PySem.W.Frag} {a : Addr} {ns : List Int} : ∀ v P, RepI P v (scr K a ns) → ∃ a xs, v = .ref a ∧ SqL K P a xs ∧ DnAll P xs (ns.map PyData.int) := fun v P h => ⟨a, _, h.1, h.2, dn_ints ns⟩
theorem sj_nd {sts : List Stmt} (h : (M.map Prod.fst).Nodup → SJ X N ρ M sts Z) : SJ X N ρ M sts Z := fun σ H P hh => h hh.nd σ H P hh
theorem sj_is {sts : List Stmt} (h : SJ X N ρ' M' sts Z) (e1 : ρ = ρ') (e2 : M = M') : SJ X N ρ M sts Z := by
  subst e1 e2
  exact h
theorem ej_m (h : EJ X N ρ M e i M1) (q : M1 = M2) : EJ X N ρ M e i M2 := q ▸ h
/-! kinds -/
def tyD : PyData → String
  | .none => "NoneType"
  | .bool _ => "bool"
  | .int _ => "int"
  | .str _ => "str"
  | .list _ => "list"
  | .tuple _ => "tuple"
  | .dict _ => "dict"
theorem ty_of {K : PySem.W.Frag} {H : Hp} {v : V} {d : PyData} (h : Dn H v d) : TyX K H v (.type (tyD d)) := by
  cases h with
  | non => exact .base .non
  | bl b => exact .base (.bl b)
  | int i => exact .base (.int i)
  | str x => exact .base (.str x)
  | lst e _ => exact .base (.lst e)
  | tup e _ => exact .base (.tup e)
  | dic e _ =>
    rcases e with e | ⟨o, e⟩
    · exact .base (.dK e)
    · exact .fDict e
theorem ej_ty {x : Str} {T : String} (hm : X.mg x = none) (hv : bootBuiltins x = some (.type T)) (hg : Gl X x := by rfl) (hn : x ≠ "__name__" := by decide) (hd : (x == ("__debug__" : Str)) = false := by decide) : EJ X N ρ M (.Name x pos) (.v (.ty T)) M := fun σ H P h g Q q =>
  e_of (pe_bltn (v := .ty T) hg hm hv rfl hn hd) (q _ H P (Ex.refl P) h rfl)
theorem ej_isi {p q : Pos} {d : PyData} {T : String} {r : Bool} (hm : X.mg "isinstance" = none) (ha : EJ X N ρ M a (.d d) M1) (hb : EJ X N ρ M1 b (.v (.ty T)) M2) (hk : kitB (tyD d) T = some r) (hg : Gl X "isinstance" := by rfl) (he : starEach [a, b] X.env = (false, eval a X.env) :: starEach [b] X.env := by rfl)
    (he2 : starEach [b] X.env = [(false, eval b X.env)] := by rfl) (hpl : (backTo q (starEach [b] X.env)).any (·.1) = false := by rfl) : EJ X N ρ M (.Call (.Name "isinstance" p) [a, b] [] q) (dB r) M2 :=
  ej_callB call_isi hm (by decide +kernel) (aj_cons ha (aj_cons hb aj_nil he2) he) (fun vs H P h rr Q q => by
    obtain ⟨x, y, rfl, r1, r2⟩ := ri2 rr
    cases (show y = .ty T from r2)
    exact ⟨x, .ty T, _, _, r, rfl, .ty T, ty_of (dnw_ex h.exw d x r1), kit_ty hk, q _ H P (Ex.refl P) h (.bl _)⟩) hg (by decide) (by decide) he hpl
theorem ej_isB (ha : EJ X N ρ M a (dB t) M1) (hb : EJ X N ρ M1 b (dB u) M2) : EJ X N ρ M (.Compare a [.Is] [b] pos) (dB (decide (t = u))) M2 := ej_cmp op_isBl (nomark _) ha hb fun x y H P h rx ry Q q => ⟨t, u, ri_bl rx, ri_bl ry, q _ H P (Ex.refl P) h (.bl _)⟩
theorem tj_isB (ha : EJ X N ρ M a (dB t) M1) (hb : EJ X N ρ M1 b (dB u) M2) : TJ X N ρ M (.Compare a [.Is] [b] pos) (decide (t = u)) M2 := tj_cmp op_isBl (nomark _) ha hb fun x y H P h rx ry Q q => ⟨t, u, ri_bl rx, ri_bl ry, q _ H P (Ex.refl P) h (.bl _)⟩
theorem tj_notB (ha : EJ X N ρ M a (dB t) M1) (hb : EJ X N ρ M1 b (dB u) M2) : TJ X N ρ M (.Compare a [.IsNot] [b] pos) (!decide (t = u)) M2 := tj_cmp op_notBl (nomark _) ha hb fun x y H P h rx ry Q q => ⟨t, u, ri_bl rx, ri_bl ry, q _ H P (Ex.refl P) h (.bl _)⟩
/-! concatenation, repetition, slices -/
theorem rj_catT {ds es : List PyData} (h0 : ds ≠ []) (hz : ds.length + es.length ≤ 100000) : RJ N (rCatT X.K) M (.d (.tuple ds)) (.d (.tuple es)) (.d (.tuple (ds ++ es))) M := fun x y H P h rx ry Q q => by
  obtain ⟨a, xs, rfl, h1, h2⟩ := ri_tup rx
  obtain ⟨b, ys, rfl, h3, h4⟩ := ri_tup ry
  have l1 := dnAll_len h2
  have l2 := dnAll_len h4
  refine ⟨a, b, xs, ys, rfl, rfl, .inl (.inl (h.ex _ _ h1)), .inl (.inl (h.ex _ _ h3)), fun e => h0 ?_, by rw [l1, l2]; exact Nat.le_trans hz (by decide), fun e => ?_, fun _ p hp => ?_⟩
  · rw [e] at l1
    exact List.length_eq_zero_iff.mp l1.symm
  · rw [e] at l2
    have : es = [] := List.length_eq_zero_iff.mp l2.symm
    subst this
    rw [List.append_nil] at q
    exact q _ H P (Ex.refl P) h (.tup h1 h2)
  · obtain ⟨h5, e5⟩ := h.pers (o := .tup (xs ++ ys)) hp
    exact q _ _ _ e5 h5 (.tup upd_same (dnAll_ex e5 _ _ (h2.app h4)))
theorem ej_catT {ds es : List PyData} (ha : EJ X N ρ M a (.d (.tuple ds)) M1) (hb : EJ X N ρ M1 b (.d (.tuple es)) M2) (h0 : ds ≠ []) (hz : ds.length + es.length ≤ 100000) : EJ X N ρ M (.BinOp a .Add b pos) (.d (.tuple (ds ++ es))) M2 := ej_op op_catT ha hb (rj_catT h0 hz)
theorem el_op {op : Operator} {r : R2} {is : List It} (ho : OpR X (binaryOp op) r) (ha : EJ X N ρ M a i M1) (hb : EJ X N ρ M1 b j M2)
    (hr : ∀ x y H P, Holds N P H M2 → RepI P x i → RepI P y j → ∀ Q : VK, (∀ xs, RepIs P xs is → ∀ p, H p = none → Q (.ref p) (upd H p (.lst xs))) → r x y H Q) : EL X N ρ M (.BinOp a op b pos) is M2 := fun σ H P h g Q q =>
  e_of (pe_op ho pe_w pe_w) (ha σ H P h g _ fun x H1 P1 e1 h1 r1 => hb σ H1 P1 h1 (g.ex e1) _ fun y H2 P2 e2 h2 r2 =>
    hr x y H2 P2 h2 (r1.ex e2) r2 Q fun xs rs p hp => q p _ P2 (e1.trans e2) (h2.newF hp) (h2.own hp rs))
theorem el_cat {ds es : List PyData} (ha : EJ X N ρ M a (.d (.list ds)) M1) (hb : EJ X N ρ M1 b (.d (.list es)) M2) (hz : ds.length + es.length ≤ 100000) : EL X N ρ M (.BinOp a .Add b pos) ((ds ++ es).map It.d) M2 :=
  el_op op_cat ha hb fun x y H P h rx ry Q q => by
    obtain ⟨a, xs, rfl, h1, h2⟩ := ri_lst rx
    obtain ⟨b, ys, rfl, h3, h4⟩ := ri_lst ry
    exact ⟨a, b, xs, ys, rfl, rfl, h.ex _ _ h1, h.ex _ _ h3, by rw [dnAll_len h2, dnAll_len h4]; exact Nat.le_trans hz (by decide), fun p hp => q _ (RepIs.of_all (h2.app h4)) p hp⟩
theorem el_rep {ds : List PyData} {n : Int} (ha : EJ X N ρ M a (.d (.list ds)) M1) (hb : EJ X N ρ M1 b (dI n) M2) (h1 : -(2 ^ 63) ≤ n) (h2 : n < 2 ^ 63) (hz : ds.length * n.toNat ≤ 100000) : EL X N ρ M (.BinOp a .Mult b pos) (((List.replicate n.toNat ds).flatten).map It.d) M2 :=
  el_op op_rep ha hb fun x y H P h rx ry Q q => by
    obtain ⟨a, xs, rfl, h3, h4⟩ := ri_lst rx
    exact ⟨a, n, xs, rfl, ri_int ry, h.ex _ _ h3, h1, h2, by rw [dnAll_len h4]; exact Nat.le_trans hz (by decide), fun p hp => q _ (RepIs.of_all (h4.rep _)) p hp⟩
def OJ (X : Cx) (N : Ent) (ρ : Rho) (M : Mem) (e : Option Expr) (o : Option Int) (M' : Mem) : Prop :=
  ∀ σ H P, Holds N P H M → Slots P σ ρ → ∃ to : TO, PO X e to ∧ ∀ Q : Option Int → Hp → Prop, (∀ H' P', Ex P P' → Holds N P' H' M' → Q o H') → to σ H Q
def cutD (ds : List PyData) (lo hi : Option Int) : List PyData := (ds.drop (HT.sIx ds.length 0 lo)).take (HT.sIx ds.length ds.length hi - HT.sIx ds.length 0 lo)
theorem DnAll.cut {P : Hp} {xs : List V} {ds : List PyData} (h : DnAll P xs ds) (lo hi : Option Int) : DnAll P (cutV xs lo hi) (cutD ds lo hi) := by
  unfold cutV cutD
  rw [dnAll_len h]
  exact (h.drop _).take _
/-- t[lo:hi], the parts written ints or none -/
theorem ej_slT {ds : List PyData} {lo hi : Option Expr} {l h : Option Int} {tl th : TO} {p2 : Pos} (ha : EJ X N ρ M a (.d (.tuple ds)) M1) (pl : PO X lo tl) (ph : PO X hi th) (el : ∀ σ H Q, Q l H → tl σ H Q) (eh : ∀ σ H Q, Q h H → th σ H Q)
    (hw : ¬ (HT.sIx ds.length 0 l = 0 ∧ HT.sIx ds.length ds.length h = ds.length)) : EJ X N ρ M (.Subscript a (.Slice lo hi none p2) pos) (.d (.tuple (cutD ds l h))) M1 := fun σ H P hh g Q q =>
  e_of (pe_slice sl_tup pe_w pl ph) (ha σ H P hh g _ fun x H1 P1 e1 h1 r1 => el _ _ _ (eh _ _ _ (by
    obtain ⟨a, xs, rfl, h3, h4⟩ := ri_tup r1
    refine ⟨a, xs, rfl, .inl (.inl (h1.ex _ _ h3)), by rw [dnAll_len h4]; exact hw, fun p hp => ?_⟩
    obtain ⟨h5, e5⟩ := h1.pers (o := .tup (cutV xs l h)) hp
    exact q _ _ _ (e1.trans e5) h5 (.tup upd_same (dnAll_ex e5 _ _ (h4.cut l h))))))
theorem el_slL {ds : List PyData} {lo hi : Option Expr} {l h : Option Int} {tl th : TO} {p2 : Pos} (ha : EJ X N ρ M a (.d (.list ds)) M1) (pl : PO X lo tl) (ph : PO X hi th) (el : ∀ σ H Q, Q l H → tl σ H Q) (eh : ∀ σ H Q, Q h H → th σ H Q) :
    EL X N ρ M (.Subscript a (.Slice lo hi none p2) pos) ((cutD ds l h).map It.d) M1 := fun σ H P hh g Q q =>
  e_of (pe_slice sl_list pe_w pl ph) (ha σ H P hh g _ fun x H1 P1 e1 h1 r1 => el _ _ _ (eh _ _ _ (by
    obtain ⟨a, xs, rfl, h3, h4⟩ := ri_lst r1
    exact ⟨a, xs, rfl, .inl (.inl (h1.ex _ _ h3)), fun p hp => q p _ P1 e1 (h1.newF hp) (h1.own hp (RepIs.of_all (h4.cut l h)))⟩)))
/-- list(t), list(xs) -/
theorem el_listT {p q : Pos} {ds : List PyData} (hm : X.mg "list" = none) (ha : EJ X N ρ M a (.d (.tuple ds)) M1) (hg : Gl X "list" := by rfl) (he : starEach [a] X.env = [(false, eval a X.env)] := by rfl) (hpl : (backTo q (starEach ([] : List Expr) X.env)).any (·.1) = false := by rfl) :
    EL X N ρ M (.Call (.Name "list" p) [a] [] q) (ds.map It.d) M1 := fun σ H P hh g Q k =>
  e_of (pe_callTy call_list_of hg hm (by decide +kernel) pa_w (by decide) (by decide) he hpl) (aj_cons ha aj_nil he σ H P hh g _ fun vs H1 P1 e1 h1 r1 => by
    obtain ⟨x, rfl, r2⟩ := ri1 r1
    obtain ⟨y, ys, rfl, h3, h4⟩ := ri_tup r2
    exact ⟨y, ys, rfl, .inr (.inl (.inl (h1.ex _ _ h3))), fun l hl => k l _ P1 e1 (h1.newF hl) (h1.own hl (RepIs.of_all h4))⟩)
theorem el_listL {p q : Pos} {ds : List PyData} (hm : X.mg "list" = none) (ha : EJ X N ρ M a (.d (.list ds)) M1) (hg : Gl X "list" := by rfl) (he : starEach [a] X.env = [(false, eval a X.env)] := by rfl) (hpl : (backTo q (starEach ([] : List Expr) X.env)).any (·.1) = false := by rfl) :
    EL X N ρ M (.Call (.Name "list" p) [a] [] q) (ds.map It.d) M1 := fun σ H P hh g Q k =>
  e_of (pe_callTy call_list_of hg hm (by decide +kernel) pa_w (by decide) (by decide) he hpl) (aj_cons ha aj_nil he σ H P hh g _ fun vs H1 P1 e1 h1 r1 => by
    obtain ⟨x, rfl, r2⟩ := ri1 r1
    obtain ⟨y, ys, rfl, h3, h4⟩ := ri_lst r2
    exact ⟨y, ys, rfl, .inl (.inl (.inl (h1.ex _ _ h3))), fun l hl => k l _ P1 e1 (h1.newF hl) (h1.own hl (RepIs.of_all h4))⟩)
/-- == of data -/
theorem ej_eqD {d d' : PyData} (hr : X.A.units + 64 < cLine) (ha : EJ X N ρ M a i M1) (hb : EJ X N ρ M1 b j M2) (hi : Rd1 M2 i d) (hj : Rd1 M2 j d') (s1 : plainD d = true) (s2 : plainD d' = true) : EJ X N ρ M (.Compare a [.Eq] [b] pos) (dB (PyData.eqv d d')) M2 := ej_cmp (op_eqD hr) (nomark _) ha hb (rj_eqD hi hj s1 s2)
theorem tj_eqD {d d' : PyData} (hr : X.A.units + 64 < cLine) (ha : EJ X N ρ M a i M1) (hb : EJ X N ρ M1 b j M2) (hi : Rd1 M2 i d) (hj : Rd1 M2 j d') (s1 : plainD d = true) (s2 : plainD d' = true) : TJ X N ρ M (.Compare a [.Eq] [b] pos) (PyData.eqv d d') M2 := tj_cmp (op_eqD hr) (nomark _) ha hb (rj_eqD hi hj s1 s2)
theorem tj_neD {d d' : PyData} (hr : X.A.units + 64 < cLine) (ha : EJ X N ρ M a i M1) (hb : EJ X N ρ M1 b j M2) (hi : Rd1 M2 i d) (hj : Rd1 M2 j d') (s1 : plainD d = true) (s2 : plainD d' = true) : TJ X N ρ M (.Compare a [.NotEq] [b] pos) (!PyData.eqv d d') M2 := tj_cmp (op_neD hr) (nomark _) ha hb (rj_neD hi hj s1 s2)
/-- xs.pop(i), xs one's own -/
theorem sj_popAt {ap epos : Pos} {p : Addr} {is : List It} {n : Nat} (ho : EJ X N ρ M a (.v (.ref p)) M) (he : EJ X N ρ M e (dI (n : Int)) M) (hm : (p, is) ∈ M) (hn : n < is.length) (hz : is.length < 100000) (hr : SJ X N ρ (M.put p (is.eraseIdx n)) rest Z) (hs : swapsWith (.Call (.Attribute a "pop" ap) [e] [] pos) none epos.line X.env = pure false := by rfl)
    (hst : starEach [e] X.env = [(false, eval e X.env)] := by rfl) (ps : PE X (.Call (.Attribute a "pop" ap) [e] [] pos) (tBM X.K "list" rPopAt (wE X a) (wA X [e])) := by exact pe_bm PySem.F.plainAttrs_list PySem.F.slot_list_pop PySem.F.type_list_pop mt_popAt pe_w pa_w) : SJ X N ρ M (.Expr (.Call (.Attribute a "pop" ap) [e] [] pos) epos :: rest) Z := sj_cons fun σ H P hh g D E tk z => by
  refine s_of (ps_expr ps hs) (ho σ H P hh g _ fun v H1 P1 e1 h1 r1 => ?_)
  cases (show v = .ref p from r1)
  obtain ⟨ys, ey, _⟩ := h1.cell hm
  refine ⟨.inl ⟨rfl, ys, .inl (.inl ey)⟩, ?_⟩
  refine aj_cons he aj_nil hst σ H1 P1 h1 (g.ex e1) _ fun vs H2 P2 e2 h2 r2 => ?_
  obtain ⟨y, rfl, r3⟩ := ri1 r2
  cases ri_int r3
  obtain ⟨xs, e3, r4⟩ := h2.cell hm
  have z4 := r4.len
  have hx : n < xs.length := by omega
  refine ⟨p, xs, (n : Int), n, xs[n], rfl, rfl, e3, by omega, by omega, ?_, List.getElem?_eq_getElem hx, ?_⟩
  · have q := (HT.seqIx n xs.length hx)
    exact q
  · exact z.nx ρ _ σ _ P2 hr (e1.trans e2) (h2.write hm (r4.erase n)) (g.ex (e1.trans e2))
end
end Kt

/-! Kt8: defs that hand back cells of their own; the law itself. -/
namespace Kt
open PySem PySem.Spec PyProof.Rows L2
abbrev Pre := List It → Mem → Prop
def spN (A : Pre) (B : Co) : Sp := fun vs H Q _ => ∃ (P : Hp) (is : List It) (M : Mem), Holds (inner P H M) P H M ∧ RepIs P vs is ∧ A is M ∧ ∀ i M' v H' P', B is M i M' → Holds (inner P H M) P' H' M' → RepI P' v i → Q v H'
structure DefN (P : Program) (w : World) (K : PySem.W.Frag) (mg : Str → Option Value) (base : Heap) (x : Str) (k : Nat) (A : Pre) (B : Co) : Prop where
  ex : ∃ f fd ps, FnOk P w K mg base CX0 k f fd ps (spN A B) ∧ mg x = some (.ref f) ∧ PySem.W.keepIn K (.ref f) = true ∧ Binds K fd ps []
def MSub (M' M'' : Mem) : Prop := (∀ c ∈ M', c ∈ M'') ∧ ((M''.map Prod.fst).Nodup → (M'.map Prod.fst).Nodup)
theorem defN_ok {P : Program} {w : World} {K : PySem.W.Frag} {mg : Str → Option Value} {base : Heap} {x qual : Str} {st : Stmt} {f : Addr} {fd : FuncData} {NN ps : List Str} {l : Nat} {A : Pre} {B : Co} (F : Fun K x qual st f fd) (S : FnScope NN ps (defScope st))
    (hm : mg x = some (.ref f)) (hb : Binds K fd ps []) (len : ∀ is M, A is M → is.length = ps.length) (keep : ∀ is M i M', A is M → B is M i M' → ∀ a ∈ M.map Prod.fst, a ∈ M'.map Prod.fst)
    (body : ∀ X : Cx, (∃ cdv A outer s H E, X = (cxOf CX0 P w K mg base NN qual (defScope st) f cdv A outer s H E).nox ∧ Room l X.A) → ∀ N is M, N.F = M.map Prod.fst → A is M → SJ X N (rho NN is) M (defBody st) { nx := fun _ M'' => ∃ M', B is M (.d .none) M' ∧ MSub M' M'', rt := fun i M'' => ∃ M', B is M i M' ∧ MSub M' M'' }) : DefN P w K mg base x (l + 1) A B := by
  refine ⟨f, fd, ps, F.ok S (fun vs H Q E h => ?_) (fun cdv A outer s H vs Q E hr h => ?_), hm, F.kp, hb⟩
  · obtain ⟨P0, is, M, h0, r, hA, _⟩ := h
    rw [r.len]
    exact len _ _ hA
  · obtain ⟨P0, is, M, h0, r, hA, q⟩ := h
    refine ⟨_, pss_w, ?_⟩
    have es : L2.start NN vs = vs.map some ++ List.replicate (NN.length - is.length) none := by
      unfold L2.start
      rw [r.len]
    rw [es]
    refine body _ ⟨cdv, A, outer, s, H, E, rfl, hr⟩ (inner P0 H M) is M rfl hA _ H P0 h0 (slots_start _ r) _ E0 takes0 ⟨fun ρ' M'' σ' H' P' a e hh g => ?_, fun i' M'' v H' P' a e hh rr => ?_, fun _ _ _ _ _ a => a.elim, fun _ _ _ _ _ a => a.elim, fun _ _ _ _ _ _ _ a => a.elim⟩
    · obtain ⟨M', hB, s1, s2⟩ := a
      exact q _ _ _ H' P' hB (hh.sub s1 (s2 hh.nd) fun a ha => keep _ _ _ _ hA hB a ha) .non
    · obtain ⟨M', hB, s1, s2⟩ := a
      exact q _ _ _ H' P' hB (hh.sub s1 (s2 hh.nd) fun a ha => keep _ _ _ _ hA hB a ha) rr
section
variable {X : Cx} {N : Ent} {ρ ρ' : Rho} {M M1 M2 M3 M' Mc Mr Mc' : Mem} {a b c e : Expr} {pos p pos' : Pos} {i j k : It} {t u : Bool} {Z : Post} {body rest : List Stmt} {es : List Expr} {is : List It}
/-- x = f(..), f handing back cells -/
theorem sj_setN (n : Nat) {x y : Str} {l : Nat} {A : Pre} {B : Co} (hN : X.N.Nodup) (F : DefN X.prog X.w X.K X.mg X.base y l A B) (hr : Room l X.A) (ha : AJ X N ρ M (e :: es) is M1) (hM : M1 = Mc ++ Mr) (hA : A is Mc)
    (hk : ∀ i Mc', B is Mc i Mc' → SJ X N (ρ.set n (some i)) (Mc' ++ Mr) rest Z) (hi : X.N[n]? = some x := by rfl) (hx : Loc X.env.scope x := by first | exact .inl rfl | exact .inr rfl)
    (hs : swapsWith (.Call (.Name y p) (e :: es) [] pos) (some (.Name x pos')) pos.line X.env = pure false := by rfl) (hf : X.fn x = true ∨ X.env.scope.names.lookup x = some .local := by first | exact .inl rfl | exact .inr rfl)
    (hg : Gl X y := by rfl) (hdb : (y == ("__debug__" : Str)) = false := by decide) (he : starEach (e :: es) X.env = (false, eval e X.env) :: starEach es X.env := by rfl) (hpl : (backTo pos (starEach es X.env)).any (·.1) = false := by rfl) {spos : Pos}
    (hs2 : swapsWith (.Call (.Name y p) (e :: es) [] pos) (some (.Name x pos')) spos.line X.env = pure false := by rfl) :
    SJ X N ρ M (.Assign [.Name x pos'] (.Call (.Name y p) (e :: es) [] pos) spos :: rest) Z := sj_cons fun σ H P hh g D E tk z => by
  obtain ⟨f, fd, ps, F1, hm, hkp, hb⟩ := F.ex
  refine s_of (ps_set (i := n) hN hi hx (pe_call F1 hr hg hm hkp hb .nil pass0 pa_w hdb he hpl) hs2 hf) (ha σ H P hh g _ fun vs H1 P1 e1 h1 r1 => ?_)
  subst hM
  refine ⟨P1, is, Mc, h1.enter, ?_, hA, fun i M' v H' P' hB h' r' => ?_⟩
  · rw [List.append_nil]; exact r1
  · exact z.nx _ _ _ _ P' (hk i M' hB) (e1.trans h'.ex0) (h1.leave h') ((g.ex (e1.trans h'.ex0)).set r' n)
/-- return [a, b], a a new list -/
theorem sj_retLL {lp : Pos} (ha : EL X N ρ M a is M1) (hb : ∀ p, EJ X N ρ (M1 ++ [(p, is)]) b j (M1 ++ [(p, is)])) (h : ∀ p q, Z.rt (.v (.ref q)) (M1 ++ [(p, is)] ++ [(q, [.v (.ref p), j])]))
    (he : starEach [a, b] X.env = (false, eval a X.env) :: starEach [b] X.env := by rfl) (he2 : starEach [b] X.env = [(false, eval b X.env)] := by rfl) : SJ X N ρ M (.Return (some (.List [a, b] lp)) pos :: rest) Z := sj_cons fun σ H P hh g D E tk z =>
  s_of (ps_ret (pe_lst (pa_cons pe_w (pa_cons pe_w pa_nil he2) he))) (ha σ H P hh g _ fun p H1 P1 e1 hp h1 => hb p σ H1 P1 h1 (g.ex e1) _ fun v2 H2 P2 e2 h2 r2 => ⟨(by show 2 ≤ sizeLine; decide), fun q hq => z.rt _ _ _ _ P2 (h p q) (e1.trans e2) (h2.own hq ⟨rfl, r2, trivial⟩) rfl⟩)
end
/-- the law -/
theorem nz_only {H : Hp} (h : Only H) : NzD H := fun a od kvs e => by
  rcases h a with k | ⟨o, xs, k⟩
  · rw [k] at e; cases e
  · rw [k] at e; cases e
def spLaw (K : PySem.W.Frag) : Sp := fun vs H Q _ => ∃ (a : Addr) (ns : List Int), vs = [.ref a] ∧ SqL K H a (ns.map V.int) ∧ ns.length ≤ 63 ∧ NzD H ∧ ∀ H', Q (.bl true) H'
theorem law_ok {P : Program} {w : World} {K : PySem.W.Frag} {mg : Str → Option Value} {base : Heap} {st : Stmt} {f : Addr} {fd : FuncData} {NN : List Str} {l : Nat} (F : Fun K "law" "law" st f fd) (S : FnScope NN ["script"] (defScope st))
    (body : ∀ X : Cx, (∃ cdv A outer s H E, X = (cxOf CX0 P w K mg base NN "law" (defScope st) f cdv A outer s H E).nox ∧ Room l X.A) → ∀ N a ns, N.F = [] → ns.length ≤ 63 → SJ X N (rho NN [scr K a ns]) [] (defBody st) { nx := fun _ _ => False, rt := fun i _ => i = dB true }) : FnOk P w K mg base CX0 (l + 1) f fd ["script"] (spLaw K) := by
  refine F.ok S (fun vs H Q E h => ?_) (fun cdv A outer s H vs Q E hr h => ?_)
  · obtain ⟨a, ns, rfl, _⟩ := h
    rfl
  · obtain ⟨a, ns, rfl, hS, hl, nz, q⟩ := h
    refine ⟨_, pss_w, ?_⟩
    have h0 : Holds (inner H H []) H H [] := ⟨(Ex.refl H).w, Ex.refl H, fun _ _ e _ => e, fun _ e f => absurd e f, fun _ hc => absurd hc (List.not_mem_nil), List.nodup_nil, fun _ ha => ha, fun _ hc => absurd hc (List.not_mem_nil), fun _ _ _ e => e, nz⟩
    have es : L2.start NN [V.ref a] = ([V.ref a] : List V).map some ++ List.replicate (NN.length - ([scr K a ns] : List It).length) none := rfl
    rw [es]
    refine body _ ⟨cdv, A, outer, s, H, E, rfl, hr⟩ (inner H H []) a ns rfl hl _ H H h0 (slots_start (vs := [V.ref a]) (is := [scr K a ns]) _ ⟨⟨rfl, hS⟩, trivial⟩) _ E0 takes0 ⟨fun _ _ _ _ _ a => a.elim, fun i' M'' v H' P' e _ hh rr => ?_, fun _ _ _ _ _ a => a.elim, fun _ _ _ _ _ a => a.elim, fun _ _ _ _ _ _ _ a => a.elim⟩
    subst e
    rw [ri_bl rr]
    exact q H'
end Kt
namespace Kt
open PySem PySem.Spec PyProof.Rows L2
section
variable {X : Cx} {N : Ent} {ρ ρ' : Rho} {M M1 M2 M3 M' Mc Mr Mc' : Mem} {a b c e : Expr} {pos p pos' : Pos} {i j k : It} {t u : Bool}
theorem rj_eqS {n m : Str} : RJ N rEq M (.d (.str n)) (.d (.str m)) (dB (decide (n = m))) M := fun x y H P h rx ry Q q => by
  cases ri_str rx
  cases ri_str ry
  refine ⟨rfl, q _ H P (Ex.refl P) h ?_⟩
  have e : decide (V.str n = V.str m) = decide (n = m) := by
    by_cases z : n = m
    · subst z; simp
    · simp [z]
  rw [e]
  exact .bl _
theorem ej_eqS {n m : Str} (ha : EJ X N ρ M a (.d (.str n)) M1) (hb : EJ X N ρ M1 b (.d (.str m)) M2) : EJ X N ρ M (.Compare a [.Eq] [b] pos) (dB (decide (n = m))) M2 := ej_cmp op_eq (nomark _) ha hb rj_eqS
theorem tj_eqS {n m : Str} (ha : EJ X N ρ M a (.d (.str n)) M1) (hb : EJ X N ρ M1 b (.d (.str m)) M2) : TJ X N ρ M (.Compare a [.Eq] [b] pos) (decide (n = m)) M2 := tj_cmp op_eq (nomark _) ha hb rj_eqS
end
theorem kit_int (d : PyData) : kitB (tyD d) "int" = some (decide (tyD d = "int" ∨ tyD d = "bool")) := by cases d <;> kernel_rfl
theorem kit_bool (d : PyData) : kitB (tyD d) "bool" = some (decide (tyD d = "bool")) := by cases d <;> kernel_rfl
theorem kit_str (d : PyData) : kitB (tyD d) "str" = some (decide (tyD d = "str")) := by cases d <;> kernel_rfl
theorem kit_tuple (d : PyData) : kitB (tyD d) "tuple" = some (decide (tyD d = "tuple")) := by cases d <;> kernel_rfl
theorem kit_list (d : PyData) : kitB (tyD d) "list" = some (decide (tyD d = "list")) := by cases d <;> kernel_rfl
end Kt

/-! Kt9: comprehensions with a pair as a target; with two clauses. -/
namespace Kt
open PySem PySem.Spec PyProof.Rows L2
section
variable {X : Cx} {N : Ent} {ρ ρ' : Rho} {M M1 M2 M3 M' Mc Mr Mc' : Mem} {a b c e elt iter iter1 : Expr} {pos p pos' : Pos} {i j k : It} {t u : Bool} {scope : Scope}
theorem two_set {σ : L2.St} {n1 n2 : Nat} {v1 v2 : V} (ne : n1 ≠ n2) : ((wipe σ [n1, n2]).set n1 (some v1)).set n2 (some v2) = (σ.set n1 (some v1)).set n2 (some v2) := by
  show ((((σ.set n2 none).set n1 none).set n1 (some v1)).set n2 (some v2)) = _
  rw [List.set_set, List.set_comm _ _ ne.symm, List.set_set]
theorem two_wipe {σ : L2.St} {n1 n2 : Nat} {v1 v2 : V} (ne : n1 ≠ n2) : wipe (((wipe σ [n1, n2]).set n1 (some v1)).set n2 (some v2)) [n1, n2] = wipe σ [n1, n2] := by
  rw [two_set ne]
  show ((((σ.set n1 (some v1)).set n2 (some v2)).set n2 none).set n1 none) = (σ.set n2 none).set n1 none
  rw [List.set_set, List.set_comm _ _ ne, List.set_set, List.set_comm _ _ ne.symm]
/-- [e for x, y in a list of pairs] -/
theorem lj_compP (n1 n2 : Nat) {ds : List PyData} (A : Nat → List It) (Mi : Nat → Mem) (hc : X.calm = true) (hN : X.N.Nodup) (ne : n1 ≠ n2) (hi : EJ X N ρ M iter (.d (.list ds)) M1)
    (hA0 : A 0 = []) (hM0 : Mi 0 = M1) (hz : ds.length ≤ 100000)
    (step : ∀ (m : Nat) d, ds[m]? = some d → ∃ x y j, d = .tuple [x, y] ∧ A (m + 1) = A m ++ [j] ∧ (A m).length ≤ m ∧ ∀ N' s H C cl fp, EJ (X.blk s H scope (compEnvC scope cl C X.env) fp) N' ((ρ.set n1 (some (.d x))).set n2 (some (.d y))) (Mi m) elt j (Mi (m + 1)))
    : LJ X N ρ M (tLc (iList X.K (wE X iter)) (gTup X.K 2 (gCons (gName n1) (gCons (gName n2) gNil))) tYes (wBE X scope elt) [n1, n2]) (A ds.length) (Mi ds.length) := fun σ H P hh g Q q => by
  refine (hi σ H P hh g _ fun v H1 P1 e1 h1 r1 => ?_)
  obtain ⟨a, xs, rfl, x1, x2⟩ := ri_lst r1
  have xl := dnAll_len x2
  refine ⟨a, rfl, ⟨xs, .inl (.inl (h1.ex _ _ x1))⟩, fun D hD => lc_list (xs := xs) (fun m H' => ∃ P', Holds N P' H' (Mi m ++ [(D, A m)]) ∧ Ex P1 P') ⟨P1, by rw [hA0, hM0]; exact h1.own hD (its := []) trivial, Ex.refl _⟩ (fun m H' _ hw => ?_) (fun m x' H' hx hw => ?_) (fun H' hw => ?_)⟩
  · obtain ⟨P', h2, e2⟩ := hw
    exact .inl (.inl (h2.ex _ _ (e2 _ _ x1)))
  · obtain ⟨P', h2, e2⟩ := hw
    have nl : m < ds.length := xl ▸ (List.getElem?_eq_some_iff.mp hx).1
    obtain ⟨v', ev, dv⟩ := dnAll_get x2 (List.getElem?_eq_getElem nl)
    rw [hx] at ev
    cases Option.some.inj ev
    obtain ⟨dx, dy, j, ed, eA, lA, S⟩ := step m _ (List.getElem?_eq_getElem nl)
    rw [ed] at dv
    obtain ⟨ta, ts, rfl, t1, t2⟩ := ri_tup (show RepI P1 x' (.d (.tuple [dx, dy])) from dv)
    cases t2 with
    | cons k1 kr =>
      cases kr with
      | cons k2 kn =>
        cases kn
        refine ⟨ta, _, rfl, .inl (.inl (h2.ex _ _ (e2 _ _ t1))), rfl, _, _, rfl, _, _, rfl, rfl, two_wipe ne, ?_⟩
        unfold tYes
        dsimp only
        rw [if_pos rfl]
        intro s H0 C cl fp
        refine S (inner P' H' (Mi m)) s H0 C cl fp _ H' P' h2.enter (by rw [two_set ne]; exact ((g.ex (e1.trans e2)).set (it := .d dx) (dn_ex e2 _ _ k1) n1).set (it := .d dy) (dn_ex e2 _ _ k2) n2) _ fun y H4 P4 e4 h4 r4 => ?_
        have h5 := h2.leave h4
        obtain ⟨acc, ea, ra⟩ := h5.cell (a := D) (its := A m) (List.mem_append_right _ (List.mem_singleton.mpr rfl))
        refine ⟨acc, ea, by rw [ra.len]; exact Nat.lt_of_lt_of_le (Nat.lt_of_le_of_lt lA (Nat.lt_of_lt_of_le nl hz)) (by decide), P4, ?_, e2.trans e4⟩
        have h6 := h5.write (a := D) (its := A m) (its' := A (m + 1)) (List.mem_append_right _ (List.mem_singleton.mpr rfl)) (xs' := acc ++ [y]) (by rw [eA]; exact ra.app ⟨r4, trivial⟩)
        rw [put_last h5.nd] at h6
        exact h6
  · obtain ⟨P', h2, e2⟩ := hw
    rw [xl] at h2
    exact q D H' P' (e1.trans e2) (h1.newF hD) h2
theorem el_compP {x y : Str} {px py tp : Pos} {tk : Nat} (n1 n2 : Nat) {ds : List PyData} (A : Nat → List It) (Mi : Nat → Mem) (hc : X.calm = true) (hN : X.N.Nodup) (ne : n1 ≠ n2) (hi : EJ X N ρ M iter (.d (.list ds)) M1)
    (hA0 : A 0 = []) (hM0 : Mi 0 = M1) (hz : ds.length ≤ 100000)
    (step : ∀ (m : Nat) d, ds[m]? = some d → ∃ x y j, d = .tuple [x, y] ∧ A (m + 1) = A m ++ [j] ∧ (A m).length ≤ m ∧ ∀ N' s H C cl fp, EJ (X.blk s H scope (compEnvC scope cl C X.env) fp) N' ((ρ.set n1 (some (.d x))).set n2 (some (.d y))) (Mi m) elt j (Mi (m + 1)))
    (ok : BlkOk X.N X.env.scope scope [(x, n1), (y, n2)] := by exact blkOk_by (by kernel_rfl))
    (hgn : ∀ (s : Shared) (H : Hp) (C : Addr) (cl : List (Str × Addr)) (fp : List Addr), PG (X.blk s H scope (compEnvC scope cl C X.env) fp) (.Tuple [.Name x px, .Name y py] tk tp) (gTup X.K 2 (gCons (gName n1) (gCons (gName n2) gNil))) := by exact fun _ _ _ _ _ => pg_tup (by rfl) (pgs_cons (pg_name (by assumption) rfl (Or.inl rfl)) (pgs_cons (pg_name (by assumption) rfl (Or.inl rfl)) pgs_nil)))
    (hf : ∀ x, foldedSetIterable iter X.env x = pure x := by intro _; rfl) : EL X N ρ M (.ListComp elt [⟨.Tuple [.Name x px, .Name y py] tk tp, iter, [], 0⟩] scope pos) (A ds.length) (Mi ds.length) :=
  el_lc (lj_compP n1 n2 A Mi hc hN ne hi hA0 hM0 hz step) (pe_lc hc hN (pi_list pe_w) ok hgn (fun _ _ _ _ _ => pts_nil) (te := wBE X scope elt) (fun s H C cl fp => ⟨fun pins s1 σ1 H1 Q1 I1 h1 => h1 s H C cl fp pins s1 I1⟩) hf)
/-- [e for x in t for y in x], tuples of tuples, cells as they stand -/
def flat2 (f : PyData → PyData → PyData) : List PyData → List PyData
  | [] => []
  | .tuple l :: r => l.map (f (.tuple l)) ++ flat2 f r
  | _ :: r => flat2 f r
theorem flat2_app (f : PyData → PyData → PyData) : ∀ a b : List PyData, flat2 f (a ++ b) = flat2 f a ++ flat2 f b
  | [], b => rfl
  | d :: r, b => by
    cases d with
    | tuple l =>
      show l.map (f (.tuple l)) ++ flat2 f (r ++ b) = (l.map (f (.tuple l)) ++ flat2 f r) ++ flat2 f b
      rw [flat2_app f r b, List.append_assoc]
    | _ => exact flat2_app f r b
theorem wipe_first {σ : L2.St} {n1 n2 : Nat} {v : V} (ne : n1 ≠ n2) : wipe ((wipe σ [n1, n2]).set n1 (some v)) [n1, n2] = wipe σ [n1, n2] := by
  show ((((σ.set n2 none).set n1 none).set n1 (some v)).set n2 none).set n1 none = (σ.set n2 none).set n1 none
  rw [List.set_set, List.set_comm _ _ ne, List.set_set, List.set_set]
theorem flat2_take (f : PyData → PyData → PyData) {ds : List PyData} {i : Nat} {l : List PyData} (h : ds[i]? = some (.tuple l)) : flat2 f (ds.take (i + 1)) = flat2 f (ds.take i) ++ l.map (f (.tuple l)) := by
  rw [List.take_add_one, h, flat2_app]
  show _ ++ (l.map (f (.tuple l)) ++ []) = _
  rw [List.append_nil]
theorem flat2_len (f : PyData → PyData → PyData) (z : Nat) : ∀ ds : List PyData, (∀ d ∈ ds, ∃ l, d = .tuple l ∧ l.length ≤ z) → (flat2 f ds).length ≤ ds.length * z
  | [], _ => by simp [flat2]
  | d :: r, h => by
    obtain ⟨l, rfl, hl⟩ := h d List.mem_cons_self
    show (l.map (f (.tuple l)) ++ flat2 f r).length ≤ _
    have := flat2_len f z r fun d hd => h d (List.mem_cons_of_mem _ hd)
    rw [List.length_append, List.length_map, List.length_cons, Nat.succ_mul]
    omega
theorem el_comp22 {x y : Str} {px py : Pos} (n1 n2 : Nat) {ds : List PyData} (f : PyData → PyData → PyData) (hc : X.calm = true) (hN : X.N.Nodup) (ne : n1 ≠ n2) (hi : EJ X N ρ M iter (.d (.tuple ds)) M1)
    (hz : ds.length ≤ 1000) (shape : ∀ d ∈ ds, ∃ l, d = .tuple l ∧ l.length ≤ 64)
    (src : ∀ d ∈ ds, ∀ N' s H C cl fp, EJ (X.blk s H scope (compEnvC scope cl C X.env) fp) N' ((ρ.set n2 none).set n1 (some (.d d))) M1 iter1 (.d d) M1)
    (step : ∀ (l : List PyData) (d : PyData), .tuple l ∈ ds → d ∈ l → ∀ N' s H C cl fp, EJ (X.blk s H scope (compEnvC scope cl C X.env) fp) N' (((ρ.set n2 none).set n1 (some (.d (.tuple l)))).set n2 (some (.d d))) M1 elt (.d (f (.tuple l) d)) M1)
    (ok : BlkOk X.N X.env.scope scope [(x, n1), (y, n2)] := by exact blkOk_by (by kernel_rfl))
    (hg1 : ∀ (s : Shared) (H : Hp) (C : Addr) (cl : List (Str × Addr)) (fp : List Addr), PG (X.blk s H scope (compEnvC scope cl C X.env) fp) (.Name x px) (gName n1) := by exact fun _ _ _ _ _ => pg_name (by assumption) rfl (Or.inl rfl))
    (hg2 : ∀ (s : Shared) (H : Hp) (C : Addr) (cl : List (Str × Addr)) (fp : List Addr), PG (X.blk s H scope (compEnvC scope cl C X.env) fp) (.Name y py) (gName n2) := by exact fun _ _ _ _ _ => pg_name (by assumption) rfl (Or.inl rfl))
    (hf : ∀ x, foldedSetIterable iter X.env x = pure x := by intro _; rfl) (hf1 : ∀ env x, foldedSetIterable iter1 env x = pure x := by intro _ _; rfl) : EL X N ρ M (.ListComp elt [⟨.Name x px, iter, [], 0⟩, ⟨.Name y py, iter1, [], 0⟩] scope pos) ((flat2 f ds).map It.d) M1 := fun σ H P hh g Q q => by
  have pi1 : ∀ (s : Shared) (H : Hp) (C : Addr) (cl : List (Str × Addr)) (fp : List Addr), PI (X.blk s H scope (compEnvC scope cl C X.env) fp) (.Name y py) iter1 (iTup X.K (wBE X scope iter1)) := fun s H C cl fp =>
    pi_tup (X := X.blk s H scope (compEnvC scope cl C X.env) fp) ⟨fun pins s1 σ1 H1 Q1 I1 h1 => h1 s H C cl fp pins s1 I1⟩
  refine e_of (pe_lc2 (vs1 := [n2]) (te := wBE X scope elt) hc hN (pi_tup pe_w) ok (by simp) hg1 (fun _ _ _ _ _ => pts_nil) pi1 hg2 (fun _ _ _ _ _ => pts_nil) (fun s H C cl fp => ⟨fun pins s1 σ1 H1 Q1 I1 h1 => h1 s H C cl fp pins s1 I1⟩) hf hf1) (hi σ H P hh g _ fun v H1 P1 e1 h1 r1 => ?_)
  obtain ⟨a, xs, rfl, x1, x2⟩ := ri_tup r1
  have xl := dnAll_len x2
  refine ⟨a, rfl, ⟨xs, .inl (.inl (h1.ex _ _ x1))⟩, fun D hD => ?_⟩
  refine ⟨fun i m H => m = xs.length - i ∧ i ≤ xs.length ∧ ∃ P', Holds N P' H (M1 ++ [(D, (flat2 f (ds.take i)).map It.d)]) ∧ Ex P1 P', ⟨xs.length, by simp, Nat.zero_le _, P1, h1.own hD (its := []) trivial, Ex.refl _⟩, ?_⟩
  rintro i m H2 ⟨rfl, hil, P2, h2, e2⟩
  have sq : SqT X.K H2 a xs := .inl (.inl (h2.ex _ _ (e2 _ _ x1)))
  by_cases hlt : i < xs.length
  · refine .inr ⟨⟨xs, xs[i], sq, by simp [hlt]⟩, fun H' => ∃ P', Holds N P' H' (M1 ++ [(D, (flat2 f (ds.take (i + 1))).map It.d)]) ∧ Ex P1 P', fun H' p' => ⟨xs.length - (i + 1), by omega, rfl, hlt, p'⟩, fun x' H' yl => ?_⟩
    obtain ⟨rfl, yx⟩ := yl
    have hx := yx xs sq
    have nl : i < ds.length := xl ▸ hlt
    obtain ⟨v', ev, dv⟩ := dnAll_get x2 (List.getElem?_eq_getElem nl)
    rw [hx] at ev
    cases Option.some.inj ev
    have hmem : ds[i] ∈ ds := List.getElem_mem nl
    obtain ⟨l, el, ll⟩ := shape _ hmem
    refine ⟨wipe_first ne, ?_⟩
    unfold tYes
    dsimp only
    rw [if_pos rfl]
    intro s H0 C cl fp
    have g2 : Slots P2 ((wipe σ [n1, n2]).set n1 (some x')) ((ρ.set n2 none).set n1 (some (.d ds[i]))) := by
      have e : (wipe σ [n1, n2]).set n1 (some x') = (σ.set n2 none).set n1 (some x') := by
        show ((σ.set n2 none).set n1 none).set n1 (some x') = _
        rw [List.set_set]
      rw [e]
      exact ((g.ex (e1.trans e2)).unset n2 none).set (it := .d ds[i]) (dn_ex e2 _ _ dv) n1
    refine src _ hmem (inner P2 H' M1) s H0 C cl fp _ H' P2 h2.enter g2 _ fun w H4 P4 e4 h4 r4 => ?_
    have h5 := h2.leave h4
    rw [el] at r4
    obtain ⟨ta, ts, rfl, t1, t2⟩ := ri_tup r4
    have tl := dnAll_len t2
    refine ⟨ta, rfl, ⟨ts, .inl (.inl (h5.ex _ _ t1))⟩, fun j k H => k = ts.length - j ∧ j ≤ ts.length ∧ ∃ P', Holds N P' H (M1 ++ [(D, (flat2 f (ds.take i) ++ (l.take j).map (f (.tuple l))).map It.d)]) ∧ Ex P4 P', ⟨ts.length, by simp, Nat.zero_le _, P4, by simpa using h5, Ex.refl _⟩, ?_⟩
    rintro j k H6 ⟨rfl, hjl, P6, h6, e6⟩
    have sq6 : SqT X.K H6 ta ts := .inl (.inl (h6.ex _ _ (e6 _ _ t1)))
    by_cases hjt : j < ts.length
    · refine .inr ⟨⟨ts, ts[j], sq6, by simp [hjt]⟩, fun H' => ∃ P', Holds N P' H' (M1 ++ [(D, (flat2 f (ds.take i) ++ (l.take (j + 1)).map (f (.tuple l))).map It.d)]) ∧ Ex P4 P', fun H' p' => ⟨ts.length - (j + 1), by omega, rfl, hjt, p'⟩, fun x7 H7 yl7 => ?_⟩
      obtain ⟨rfl, yx7⟩ := yl7
      have hx7 := yx7 ts sq6
      have nl7 : j < l.length := tl ▸ hjt
      obtain ⟨v7, ev7, dv7⟩ := dnAll_get t2 (List.getElem?_eq_getElem nl7)
      rw [hx7] at ev7
      cases Option.some.inj ev7
      refine ⟨wipe_comp n2, ?_⟩
      dsimp only
      rw [if_pos rfl]
      intro s H0 C cl fp
      have g7 := slots_comp (g2.ex (e4.trans e6)) n2 (i := .d l[j]) (dn_ex e6 _ _ dv7)
      rw [el] at g7
      refine step l l[j] (el ▸ hmem) (List.getElem_mem nl7) (inner P6 H7 M1) s H0 C cl fp _ H7 P6 h6.enter g7 _ fun y8 H8 P8 e8 h8 r8 => ?_
      have h9 := h6.leave h8
      obtain ⟨acc, ea, ra⟩ := h9.cell (a := D) (its := (flat2 f (ds.take i) ++ (l.take j).map (f (.tuple l))).map It.d) (List.mem_append_right _ (List.mem_singleton.mpr rfl))
      have hlen := flat2_len f 64 (ds.take i) fun d hd => shape d (List.mem_of_mem_take hd)
      refine ⟨acc, ea, ?_, P8, ?_, e6.trans e8⟩
      · rw [ra.len]
        refine Nat.lt_of_lt_of_le (m := 100000) ?_ (by decide)
        simp
        have : (List.take i ds).length ≤ 1000 := by rw [List.length_take]; omega
        have h64 : (flat2 f (List.take i ds)).length ≤ 64000 := Nat.le_trans hlen (by omega)
        omega
      · have h10 := h9.write (a := D) (its := (flat2 f (ds.take i) ++ (l.take j).map (f (.tuple l))).map It.d) (its' := (flat2 f (ds.take i) ++ (l.take (j + 1)).map (f (.tuple l))).map It.d) (List.mem_append_right _ (List.mem_singleton.mpr rfl)) (xs' := acc ++ [y8]) (by
          have e11 : (flat2 f (ds.take i) ++ (l.take (j + 1)).map (f (.tuple l))).map It.d = (flat2 f (ds.take i) ++ (l.take j).map (f (.tuple l))).map It.d ++ [It.d (f (.tuple l) l[j])] := by
            rw [List.take_add_one, List.getElem?_eq_getElem nl7, List.map_append, List.map_append, List.map_append, List.map_append, List.append_assoc]
            rfl
          rw [e11]
          exact ra.app ⟨r8, trivial⟩)
        rw [put_last h9.nd] at h10
        exact h10
    · have ej : j = ts.length := by omega
      subst ej
      refine .inl ⟨⟨ts, sq6, Nat.le_refl _⟩, P6, ?_, (e2.trans e4).trans e6⟩
      rw [flat2_take f ((List.getElem?_eq_getElem nl).trans (congrArg some el))]
      rw [tl, List.take_length] at h6
      exact h6
  · have ei : i = xs.length := by omega
    subst ei
    refine .inl ⟨⟨xs, sq, Nat.le_refl _⟩, ?_⟩
    rw [xl, List.take_length] at h2
    exact q D H2 P2 (e1.trans e2) (h1.newF hD) h2
end
end Kt

/-! Kta: extend by a tuple; two names at once. -/
namespace PySem
namespace AutoSeq1
open Builtin
theorem extend_tup (l : Addr) (items : Array Value) (n : Nat) (b : Addr) (items2 : Array Value) (n2 : Nat) (dd : Option Addr) (sl : Array (Option Value)) (hs0 : ¬(!items.isEmpty && Builtin.List.listTooLong (items.size + items2.size)) = true) (hs1 : items.size ≤ sizeLine) (hs2 : items.size + items2.size ≤ sizeLine + 1) :
    Meets (Builtin.«list.extend» ⟨[.ref l, .ref b], []⟩) (fun _ R s => s.heap.get? l = some { cls := .type "list", dict := none, data := .seq items n, slots := #[] } ∧ s.heap.get? b = some { cls := .type "tuple", dict := dd, data := .seq items2 n2, slots := sl } ∧ R (.ok (.ret Value.none)) { s with heap := s.heap.update l (Obj.mapSeq fun x => x ++ items2), toks := s.toks }) :=
  .of_wp fun prog w A R s h => by
    obtain ⟨hp, g, d, tk, os⟩ := s; obtain ⟨hl, hb, h⟩ := h; have f1 := idx_int; have f2 := sub_tuple_tuple; have f3 := sub_list_list; have f4 := sub_tuple_list; have f5 := sub_list_tuple;
    have hz' : (items ++ items2).size ≤ sizeLine + 1 := by rw [Array.size_append]; exact hs2
    wp_walk using (wpAny_updateSeq hl rfl (hz := hs1) (_hz' := hz')), wpAny_loadPart' hl, wpAny_loadPart' hb; exact ⟨_, rfl, h⟩
end AutoSeq1
end PySem
namespace Kt
open PySem PySem.Spec PyProof.Rows L2
section
variable {X : Cx}
def rExtT (K : PySem.W.Frag) : V → List V → Hp → VK → Prop := fun x vs H Q => ∃ l b xs zs, x = .ref l ∧ vs = [.ref b] ∧ H l = some (.lst xs) ∧ SqT K H b zs ∧ xs.length + zs.length ≤ sizeLine ∧ Q .non (upd H l (.lst (xs ++ zs)))
theorem mt_extT : MtM X "list.extend" (rExtT X.K) := by
  intro pins s σ H x vs v us Q I rx rv h
  obtain ⟨l, b, xs, zs, rfl, rfl, hH, hB, hz, q⟩ := h
  cases rx
  obtain ⟨u, rfl, ru⟩ := rv.one
  cases ru
  obtain ⟨z, its, n, r, hl, e⟩ := I.lstM hH
  obtain ⟨its2, r2, ⟨o2, ho, hc, n2, hd⟩, hz2⟩ := I.tuple hB
  have hl2 := r2.length
  have hsz : its.toArray.size + its2.toArray.size ≤ sizeLine := by rw [List.size_toArray, List.size_toArray]; omega
  have hlong : ¬ (!its.toArray.isEmpty && Builtin.List.listTooLong (its.toArray.size + its2.toArray.size)) = true := by
    rw [notLongL hsz, Bool.and_false]
    exact Bool.false_ne_true
  obtain ⟨oc, od, odt, osl⟩ := o2
  dsimp only at hc hd
  subst hc hd
  refine call_meets F.slot_list_extend ⟨_, e, rfl⟩ F.entry_list_extend (F.args_list_extend_2 _ _)
    (AutoSeq1.extend_tup l its.toArray n b its2.toArray n2 od osl hlong (by rw [List.size_toArray]; omega) (by omega)) ⟨e, ho, ?_⟩
  refine ⟨.non, _, I.lset (its' := its ++ its2) hH e (by simp) (r.append r2) ?_, rfl, q⟩
  rw [List.length_append]
  omega
variable {N : Ent} {ρ ρ' : Rho} {M M1 M2 M' : Mem} {a b c e : Expr} {pos : Pos} {i j k : It} {Z : Post} {rest : List Stmt}
/-- xs.extend(t), xs one's own, t a tuple -/
theorem sj_extT {ap epos : Pos} {p : Addr} {is is0 : List It} {ds : List PyData} (ho : EJ X N ρ M a (.v (.ref p)) M) (hm0 : (p, is0) ∈ M) (he : EJ X N ρ M e (.d (.tuple ds)) M1) (hm : (p, is) ∈ M1) (hz : is.length + ds.length ≤ 100000) (hr : SJ X N ρ (M1.put p (is ++ ds.map It.d)) rest Z) (hs : swapsWith (.Call (.Attribute a "extend" ap) [e] [] pos) none epos.line X.env = pure false := by rfl)
    (hst : starEach [e] X.env = [(false, eval e X.env)] := by rfl) (ps : PE X (.Call (.Attribute a "extend" ap) [e] [] pos) (tBM X.K "list" (rExtT X.K) (wE X a) (wA X [e])) := by exact pe_bm PySem.F.plainAttrs_list PySem.F.slot_list_extend PySem.F.type_list_extend mt_extT pe_w pa_w) : SJ X N ρ M (.Expr (.Call (.Attribute a "extend" ap) [e] [] pos) epos :: rest) Z := sj_cons fun σ H P hh g D E tk z => by
  refine s_of (ps_expr ps hs) (ho σ H P hh g _ fun v H1 P1 e1 h1 r1 => ?_)
  cases (show v = .ref p from r1)
  obtain ⟨ys, ey, _⟩ := h1.cell hm0
  refine ⟨.inl ⟨rfl, ys, .inl (.inl ey)⟩, ?_⟩
  refine aj_cons he aj_nil hst σ H1 P1 h1 (g.ex e1) _ fun vs H2 P2 e2 h2 r2 => ?_
  obtain ⟨y, rfl, r3⟩ := ri1 r2
  obtain ⟨xs, e3, r4⟩ := h2.cell hm
  obtain ⟨b, zs, rfl, h5, h6⟩ := ri_tup r3
  refine ⟨p, b, xs, zs, rfl, rfl, e3, .inl (.inl (h2.ex _ _ h5)), by rw [r4.len, dnAll_len h6]; exact Nat.le_trans hz (by decide), ?_⟩
  exact z.nx ρ _ σ _ P2 hr (e1.trans e2) (h2.write hm (r4.app (RepIs.of_all h6))) (g.ex (e1.trans e2))
/-- x, y = a, b: two different local names -/
theorem sj_par (n1 n2 : Nat) {x y : Str} {px py pt pt2 : Pos} {kt k2 : Nat} (hc : X.calm = true) (hN : X.N.Nodup) (ne : n1 ≠ n2) (ha : EJ X N ρ M a i M1) (hb : EJ X N ρ M1 b j M2) (hr : SJ X N ((ρ.set n1 (some i)).set n2 (some j)) M2 rest Z)
    (hi : X.N[n1]? = some x := by rfl) (hj : X.N[n2]? = some y := by rfl) (hx : X.env.scope.names.lookup x = some .local := by rfl) (hy : X.env.scope.names.lookup y = some .local := by rfl)
    (hw : swappedStores [.Tuple [.Name x px, .Name y py] kt pt] (.Tuple [a, b] k2 pt2) X.env = pure (some [x, y]) := by rfl) (hs : swapsWithSole [.Tuple [.Name x px, .Name y py] kt pt] (.Tuple [a, b] k2 pt2) pos.line X.env = pure false := by rfl)
    (he : starEach [a, b] X.env = (false, eval a X.env) :: starEach [b] X.env := by rfl) (he2 : starEach [b] X.env = [(false, eval b X.env)] := by rfl) :
    SJ X N ρ M (.Assign [.Tuple [.Name x px, .Name y py] kt pt] (.Tuple [a, b] k2 pt2) pos :: rest) Z := sj_cons fun σ H P hh g D E tk z =>
  s_of (ps_par (i := n1) (j := n2) hc hN hi hj ne hx hy pa_w hw hs) (aj_cons ha (aj_cons hb aj_nil he2) he σ H P hh g _ fun vs H1 P1 e1 h1 r1 => by
    obtain ⟨v, w, rfl, r2, r3⟩ := ri2 r1
    exact ⟨v, w, rfl, z.nx _ _ _ _ P1 hr e1 h1 (((g.ex e1).set r2 n1).set r3 n2)⟩)
end
end Kt

/-! Ktb: max of a tuple of ints; small helps. -/
namespace Kt
open PySem PySem.Spec PyProof.Rows L2
def mxI (x : Int) (xs : List Int) : Int := xs.foldl (fun a y => if a < y then y else a) x
theorem maxOf_int (x : Int) (xs : List Int) : PySem.W.maxOf x xs = mxI x xs := by
  unfold PySem.W.maxOf mxI
  congr 1
  funext a y
  have : (PySem.W.DatumOrd.lt a y = true) = (a < y) := by
    show (decide (a < y) = true) = (a < y)
    simp
  simp only [this]
theorem mxI_ge : ∀ (xs : List Int) (x : Int), x ≤ mxI x xs ∧ ∀ y ∈ xs, y ≤ mxI x xs
  | [], x => ⟨Int.le_refl _, fun _ h => absurd h List.not_mem_nil⟩
  | z :: r, x => by
    have ih := mxI_ge r (if x < z then z else x)
    have e : mxI x (z :: r) = mxI (if x < z then z else x) r := rfl
    rw [e]
    refine ⟨?_, fun y hy => ?_⟩
    · have := ih.1
      split at this <;> omega
    · rcases List.mem_cons.mp hy with rfl | hy
      · have := ih.1
        split at this <;> omega
      · exact ih.2 y hy
theorem mxI_mem : ∀ (xs : List Int) (x : Int), mxI x xs = x ∨ mxI x xs ∈ xs
  | [], x => .inl rfl
  | z :: r, x => by
    have ih := mxI_mem r (if x < z then z else x)
    have e : mxI x (z :: r) = mxI (if x < z then z else x) r := rfl
    rw [e]
    rcases ih with h | h
    · rw [h]
      split
      · exact .inr List.mem_cons_self
      · exact .inl rfl
    · exact .inr (List.mem_cons_of_mem _ h)
section
variable {X : Cx}
def rMaxT (K : PySem.W.Frag) : List V → Hp → VK → Prop := fun vs H Q => ∃ (a : Addr) (n : Int) (ns : List Int), vs = [V.ref a] ∧ SqT K H a ((n :: ns).map V.int) ∧ Q (.int (mxI n ns)) H
theorem cr_maxT (hc : X.calm = true) (hu : X.A.units + 64 < cLine) : CallR X (.builtin "max") (rMaxT X.K) := by
  intro pins s σ H vs us Q I r h
  obtain ⟨a, n, ns, rfl, hs, q⟩ := h
  obtain ⟨its, rv, ⟨o, ho, hcl, n2, hd⟩, _⟩ := I.tuple hs
  rw [Vals.ref1 r]
  have hI : IntsAre its (n :: ns) := rv.ints
  have hu2 : X.A.units + 1 + PySem.W.Datum.depth Int < cLine := by
    have : PySem.W.Datum.depth Int ≤ 1 := by decide
    omega
  refine PySem.W.max_tuple_datum (x := n) (xs := ns) (vs := its.toArray) (I.ok.hd hc) ⟨o, ho, hcl, n2, hd⟩ (PySem.W.HoldAll.of_ints (by simpa using hI)) hu2 fun i v h' tk hv hh hk => ?_
  obtain ⟨as, rd⟩ := hh
  rw [maxOf_int] at rd
  have : ∃ t, v = .int (mxI n ns) t := by
    cases rd with
    | int i t => exact ⟨t, rfl⟩
  obtain ⟨t, rfl⟩ := this
  exact ⟨.int _, H, I.kept hk, ⟨_, rfl⟩, q⟩
variable {N : Ent} {ρ ρ' : Rho} {M M1 M2 M' : Mem} {a b c e : Expr} {pos : Pos} {i j k : It}
theorem ej_maxT {p q : Pos} {n : Int} {ns : List Int} (hc : X.calm = true) (hu : X.A.units + 64 < cLine) (hm : X.mg "max" = none) (ha : EJ X N ρ M a (.d (.tuple ((n :: ns).map PyData.int))) M1) (hg : Gl X "max" := by rfl) (he : starEach [a] X.env = [(false, eval a X.env)] := by rfl) (hpl : (backTo q (starEach ([] : List Expr) X.env)).any (·.1) = false := by rfl) :
    EJ X N ρ M (.Call (.Name "max" p) [a] [] q) (dI (mxI n ns)) M1 := ej_callB (cr_maxT hc hu) hm (by decide +kernel) (aj_cons ha aj_nil he) (fun vs H P h rr Q q => by
  obtain ⟨x, rfl, r⟩ := ri1 rr
  obtain ⟨y, ys, rfl, h1, h2⟩ := ri_tup r
  cases DnAll.ints (ns := n :: ns) h2
  exact ⟨y, n, ns, rfl, .inl (.inl (h.ex _ _ h1)), q _ H P (Ex.refl P) h (.int _)⟩) hg (by decide) (by decide) he hpl
theorem at_of0 {α : Type} {l : List α} {n : Int} (h0 : 0 ≤ n) {x : α} (h : l[n.toNat]? = some x) : atI l n = some x := by
  have e : n = ((n.toNat : Nat) : Int) := by omega
  rw [e]
  exact atI_nat (by simpa using h)
theorem at_map {α β : Type} {f : α → β} {l : List α} {n : Int} {x : α} (h0 : 0 ≤ n) (h : l[n.toNat]? = some x) : atI (l.map f) n = some (f x) := at_of0 h0 (by rw [List.getElem?_map, h]; rfl)
theorem tame_mono : ∀ {n : Nat} {d : PyData} {tame : Nat → PyData → Prop}, (∀ n d, tame (n + 1) d → tame n d) → tame (n + 1) d → tame n d := fun h => h _ _
end
end Kt

/-! Ktc: data that == may be asked of. -/
namespace Kt
open PySem PySem.Spec PyProof.Rows L2
/-- plain data of at most this depth -/
inductive PN : Nat → PyData → Prop
  | non {n : Nat} : PN n .none
  | bl {n : Nat} (b : Bool) : PN n (.bool b)
  | int {n : Nat} (i : Int) : PN n (.int i)
  | str {n : Nat} (x : Str) (h : PyData.strOk x = true) : PN n (.str x)
  | lst {n : Nat} (l : List PyData) (h : ∀ x ∈ l, PN n x) : PN (n + 1) (.list l)
  | tup {n : Nat} (l : List PyData) (h : ∀ x ∈ l, PN n x) : PN (n + 1) (.tuple l)
theorem pn_all {n : Nat} (f : ∀ x, PN n x → noDict x = true ∧ PyData.canLay0 x = true ∧ PyData.depth x ≤ n ∧ PyData.eqv x x = true) : ∀ l : List PyData, (∀ x ∈ l, PN n x) → noDicts l = true ∧ PyData.canLayAll0 l = true ∧ PyData.depthAll l ≤ n ∧ PyData.eqvAll l l = true
  | [], _ => ⟨rfl, rfl, by simp [PyData.depthAll], by simp [PyData.eqvAll]⟩
  | x :: r, h => by
    obtain ⟨a1, a2, a3, a4⟩ := f x (h x List.mem_cons_self)
    obtain ⟨b1, b2, b3, b4⟩ := pn_all f r fun y hy => h y (List.mem_cons_of_mem _ hy)
    refine ⟨?_, ?_, ?_, ?_⟩
    · show (noDict x && noDicts r) = true
      rw [a1, b1]
      rfl
    · simp only [PyData.canLayAll0, a2, b2, Bool.and_self]
    · simp only [PyData.depthAll]
      omega
    · simp only [PyData.eqvAll, a4, b4, Bool.and_self]
theorem pn_ok : ∀ (n : Nat) (d : PyData), PN n d → noDict d = true ∧ PyData.canLay0 d = true ∧ PyData.depth d ≤ n ∧ PyData.eqv d d = true := by
  intro n
  induction n with
  | zero =>
    intro d h
    cases h with
    | non => exact ⟨rfl, rfl, by simp [PyData.depth], by simp [PyData.eqv]⟩
    | bl b => exact ⟨rfl, rfl, by simp [PyData.depth], by simp [PyData.eqv]⟩
    | int i => exact ⟨rfl, rfl, by simp [PyData.depth], by simp [PyData.eqv]⟩
    | str x hx => exact ⟨rfl, by simpa [PyData.canLay0] using hx, by simp [PyData.depth], by simp [PyData.eqv]⟩
  | succ n ih =>
    intro d h
    cases h with
    | non => exact ⟨rfl, rfl, by simp [PyData.depth], by simp [PyData.eqv]⟩
    | bl b => exact ⟨rfl, rfl, by simp [PyData.depth], by simp [PyData.eqv]⟩
    | int i => exact ⟨rfl, rfl, by simp [PyData.depth], by simp [PyData.eqv]⟩
    | str x hx => exact ⟨rfl, by simpa [PyData.canLay0] using hx, by simp [PyData.depth], by simp [PyData.eqv]⟩
    | lst l hl =>
      obtain ⟨a, b, c, e⟩ := pn_all ih l hl
      exact ⟨a, by simpa [PyData.canLay0] using b, by simp only [PyData.depth]; omega, by simpa [PyData.eqv] using e⟩
    | tup l hl =>
      obtain ⟨a, b, c, e⟩ := pn_all ih l hl
      exact ⟨a, by simpa [PyData.canLay0] using b, by simp only [PyData.depth]; omega, by simpa [PyData.eqv] using e⟩
theorem PN.plain {n : Nat} {d : PyData} (h : PN n d) (hn : n ≤ 64 := by decide) : plainD d = true := by
  obtain ⟨a, b, c, _⟩ := pn_ok n d h
  unfold plainD SeqAt.shaped
  rw [a, b, decide_eq_true (Nat.le_trans c hn)]
  rfl
theorem PN.refl {n : Nat} {d : PyData} (h : PN n d) : PyData.eqv d d = true := (pn_ok n d h).2.2.2
theorem PN.ints {n : Nat} (ns : List Int) : PN (n + 1) (.list (ns.map PyData.int)) := .lst _ fun x hx => by
  obtain ⟨k, _, rfl⟩ := List.mem_map.mp hx
  exact .int k
theorem PN.intsT {n : Nat} (ns : List Int) : PN (n + 1) (.tuple (ns.map PyData.int)) := .tup _ fun x hx => by
  obtain ⟨k, _, rfl⟩ := List.mem_map.mp hx
  exact .int k
end Kt

/-! Ktd: ranges with a step, ranges from their end: one rule for a comprehension, one for a loop. -/
namespace Kt
open PySem PySem.Spec PyProof.Rows L2
theorem lc_steps {lo c : Int} {n : Nat} {g : TG} {tt : TT} {te : TE} {vs : List Nat} {σ : L2.St} {H1 : Hp} {D : Addr} {Qd : Hp → Prop} (W : Nat → Hp → Prop) (start : W 0 (upd H1 D (.lst [])))
    (one : ∀ i H, i < n → W i H → g (.int (lo + (i : Nat) * c)) (wipe σ vs) H fun σ2 H2 => wipe σ2 vs = wipe σ vs ∧ tt σ2 H2 fun b H3 =>
      if b = true then te σ2 H3 fun y H4 => ∃ acc, H4 D = some (.lst acc) ∧ acc.length < sizeLine ∧ W (i + 1) (upd H4 D (.lst (acc ++ [y]))) else W (i + 1) H3) (fin : ∀ H, W n H → Qd H) :
    ∃ V : Nat → Nat → Hp → Prop, (∃ m, V 0 m (upd H1 D (.lst []))) ∧ ∀ i m H, V i m H →
      ((Itc lo c n).stop i H ∧ Qd H) ∨ ((Itc lo c n).go i H ∧ ∃ Nx : Hp → Prop, (∀ H', Nx H' → ∃ m', m' < m ∧ V (i + 1) m' H') ∧ ∀ x H', (Itc lo c n).yld i H x H' →
        g x (wipe σ vs) H' fun σ2 H2 => wipe σ2 vs = wipe σ vs ∧ tt σ2 H2 fun b H3 => if b = true then te σ2 H3 fun y H4 => ∃ acc, H4 D = some (.lst acc) ∧ acc.length < sizeLine ∧ Nx (upd H4 D (.lst (acc ++ [y]))) else Nx H3) := by
  refine ⟨fun i m H => m + i = n ∧ W i H, ⟨n, rfl, start⟩, fun i m H hw => ?_⟩
  obtain ⟨hm, p⟩ := hw
  cases m with
  | zero =>
    refine .inl ⟨show n ≤ i by omega, fin H ?_⟩
    rw [show n = i by omega]
    exact p
  | succ m =>
    refine .inr ⟨show i < n by omega, W (i + 1), fun H' p' => ⟨m, Nat.lt_succ_self m, by omega, p'⟩, fun x H' y => ?_⟩
    obtain ⟨y1, y2⟩ := y
    rw [y1, y2]
    exact one i H (by omega) p
section
variable {X : Cx} {N : Ent} {ρ ρ' : Rho} {M M1 M2 M3 M' : Mem} {a b c e elt iter : Expr} {pos p pos' : Pos} {i j k : It} {scope : Scope} {Z : Post} {rest body : List Stmt} {tg : Expr}
/-- iterating this walks lo, lo + st, .. n times -/
def IC (X : Cx) (N : Ent) (ρ : Rho) (M : Mem) (iter : Expr) (lo st : Int) (n : Nat) (M1 : Mem) : Prop :=
  ∃ ti : TI, (∀ tg, PI X tg iter ti) ∧ ∀ σ H P, Holds N P H M → Slots P σ ρ → ∀ R, (∀ H1 P1, Ex P P1 → Holds N P1 H1 M1 → R (Itc lo st n) H1) → ti σ H R
theorem ic_range3 {p rp : Pos} {z1 z2 z3 : Int} {n : Nat} (hmr : X.mg "range" = none) (ha : EJ X N ρ M a (dI z1) M1) (hb : EJ X N ρ M1 b (dI z2) M2) (hc : EJ X N ρ M2 c (dI z3) M3) (hn : RgC z1 z2 z3 n) (hg : Gl X "range" := by rfl)
    (hs : starEach [a, b, c] X.env = (false, eval a X.env) :: starEach [b, c] X.env := by rfl) (hs2 : starEach [b, c] X.env = (false, eval b X.env) :: starEach [c] X.env := by rfl) (hs3 : starEach [c] X.env = [(false, eval c X.env)] := by rfl) (hpl : (backTo rp (starEach [b, c] X.env)).any (·.1) = false := by rfl) :
    IC X N ρ M (.Call (.Name "range" p) [a, b, c] [] rp) z1 z3 n M3 := by
  refine ⟨iRng3 (wA X [a, b, c]), fun tg => pi_range3 hg hmr pa_w hs hpl, fun σ H P hh g R q => ?_⟩
  refine aj_cons ha (aj_cons hb (aj_cons hc aj_nil hs3) hs2) hs σ H P hh g _ fun vs H1 P1 e1 h1 r1 => ?_
  match vs, r1 with
  | [x, y, w], ⟨rx, ry, rw', _⟩ =>
    cases ri_int rx
    cases ri_int ry
    cases ri_int rw'
    exact ⟨z1, z2, z3, n, rfl, hn, q H1 P1 e1 h1⟩
/-- reversed(range(z)) -/
theorem ic_rev {p rp p2 rp2 : Pos} {z : Int} (hmr : X.mg "range" = none) (hmv : X.mg "reversed" = none) (ha : EJ X N ρ M a (dI z) M1) (hz : -(2 ^ 62) ≤ z ∧ z < 2 ^ 62) (hg : Gl X "range" := by rfl) (hgv : Gl X "reversed" := by rfl)
    (hs : starEach [a] X.env = (false, eval a X.env) :: starEach [] X.env := by rfl)
    (hs2 : starEach [.Call (.Name "range" p) [a] [] rp] X.env = (false, eval (.Call (.Name "range" p) [a] [] rp) X.env) :: starEach [] X.env := by rfl) :
    IC X N ρ M (.Call (.Name "reversed" p2) [.Call (.Name "range" p) [a] [] rp] [] rp2) (z.toNat - 1) (-1) z.toNat M1 := by
  refine ⟨iRevR (tRg1 (wE X a)), fun tg => pi_revR hgv hmv (prg_1 hg hmr pe_w hs) hs2, fun σ H P hh g R q => ?_⟩
  refine ha σ H P hh g _ fun v H1 P1 e1 h1 r1 => ?_
  cases ri_int r1
  refine ⟨z, rfl, by decide, by decide, hz.1, hz.2, ?_⟩
  rw [show ((0 : Int) + (((z - 0).toNat : Nat) : Int) - 1) = (z.toNat : Int) - 1 by rw [Int.sub_zero, Int.zero_add], Int.sub_zero]
  exact q H1 P1 e1 h1
theorem lj_ic {lo st : Int} {z : Nat} {ti : TI} (n : Nat) (A : Nat → List It) (Mi : Nat → Mem) (hN : X.N.Nodup) (hi : ∀ σ H P, Holds N P H M → Slots P σ ρ → ∀ R, (∀ H1 P1, Ex P P1 → Holds N P1 H1 M1 → R (Itc lo st z) H1) → ti σ H R)
    (hA0 : A 0 = []) (hM0 : Mi 0 = M1) (hz : z ≤ 100000)
    (step : ∀ (m : Nat), m < z → ∃ j, A (m + 1) = A m ++ [j] ∧ (A m).length ≤ m ∧ ∀ N' s H C cl fp, EJ (X.blk s H scope (compEnvC scope cl C X.env) fp) N' (ρ.set n (some (dI (lo + (m : Nat) * st)))) (Mi m) elt j (Mi (m + 1))) :
    LJ X N ρ M (tLc ti (gName n) tYes (wBE X scope elt) [n]) (A z) (Mi z) := fun σ H P hh g Q q => by
  refine hi σ H P hh g _ fun H1 P1 e1 h1 D hD => ?_
  refine lc_steps (fun m H' => ∃ P', Holds N P' H' (Mi m ++ [(D, A m)]) ∧ Ex P1 P') ⟨P1, by rw [hA0, hM0]; exact h1.own hD (its := []) trivial, Ex.refl _⟩ (fun m H' nl hw => ?_) (fun H' hw => ?_)
  · obtain ⟨P', h2, e2⟩ := hw
    obtain ⟨j, eA, lA, S⟩ := step m nl
    refine ⟨wipe_comp n, ?_⟩
    unfold tYes
    dsimp only
    rw [if_pos rfl]
    intro s H0 C cl fp
    refine S (inner P' H' (Mi m)) s H0 C cl fp _ H' P' h2.enter (slots_comp (g.ex (e1.trans e2)) n (.int _)) _ fun y H4 P4 e4 h4 r4 => ?_
    have h5 := h2.leave h4
    obtain ⟨acc, ea, ra⟩ := h5.cell (a := D) (its := A m) (List.mem_append_right _ (List.mem_singleton.mpr rfl))
    refine ⟨acc, ea, by rw [ra.len]; exact Nat.lt_of_lt_of_le (Nat.lt_of_le_of_lt lA (by omega : m < 100000)) (by decide), P4, ?_, e2.trans e4⟩
    have h6 := h5.write (a := D) (its := A m) (its' := A (m + 1)) (List.mem_append_right _ (List.mem_singleton.mpr rfl)) (xs' := acc ++ [y]) (by rw [eA]; exact ra.app ⟨r4, trivial⟩)
    rw [put_last h5.nd] at h6
    exact h6
  · obtain ⟨P', h2, e2⟩ := hw
    exact q D H' P' (e1.trans e2) (h1.newF hD) h2
/-- [elt for x in such a walk] -/
theorem el_compC {x : Str} {p : Pos} (n : Nat) {lo st : Int} {z : Nat} (A : Nat → List It) (Mi : Nat → Mem) (hc : X.calm = true) (hN : X.N.Nodup) (hi : IC X N ρ M iter lo st z M1)
    (hA0 : A 0 = []) (hM0 : Mi 0 = M1) (hz : z ≤ 100000)
    (step : ∀ (m : Nat), m < z → ∃ j, A (m + 1) = A m ++ [j] ∧ (A m).length ≤ m ∧ ∀ N' s H C cl fp, EJ (X.blk s H scope (compEnvC scope cl C X.env) fp) N' (ρ.set n (some (dI (lo + (m : Nat) * st)))) (Mi m) elt j (Mi (m + 1)))
    (ok : BlkOk X.N X.env.scope scope [(x, n)] := by exact blkOk_by (by kernel_rfl))
    (hgn : ∀ (s : Shared) (H : Hp) (C : Addr) (cl : List (Str × Addr)) (fp : List Addr), PG (X.blk s H scope (compEnvC scope cl C X.env) fp) (.Name x p) (gName n) := by exact fun _ _ _ _ _ => pg_name (by assumption) rfl (Or.inl rfl))
    (hf : ∀ x, foldedSetIterable iter X.env x = pure x := by intro _; rfl) : EL X N ρ M (.ListComp elt [⟨.Name x p, iter, [], 0⟩] scope pos) (A z) (Mi z) := by
  obtain ⟨ti, pi, hi⟩ := hi
  exact el_lc (lj_ic n A Mi hN hi hA0 hM0 hz step) (pe_lc hc hN (pi _) ok hgn (fun _ _ _ _ _ => pts_nil) (te := wBE X scope elt) (fun s H C cl fp => ⟨fun pins s1 σ1 H1 Q1 I1 h1 => h1 s H C cl fp pins s1 I1⟩) hf)
/-- for tg in such a walk -/
theorem sj_forC {lo st : Int} {z : Nat} (hc : X.calm = true) (hi : IC X N ρ M iter lo st z M1) (Inv : Nat → Rho → Mem → Prop) (h0 : Inv 0 ρ M1)
    (step : ∀ n ρ' M', n < z → Inv n ρ' M' → ∃ ρ2, GJ X N tg (dI (lo + (n : Nat) * st)) ρ' ρ2 ∧ SJ X N ρ2 M' body { nx := Inv (n + 1), ct := Inv (n + 1), bk := fun ρ' M' => SJ X N ρ' M' rest Z, rt := Z.rt, er := Z.er })
    (done : ∀ ρ' M', Inv z ρ' M' → SJ X N ρ' M' rest Z) (hp : PassesOwn (model X.prog X.w) X.A X.env X.xe := by exact PassesOwn.never)
    (hf : ∀ x, foldedSetIterable iter X.env x = pure x := by intro _; rfl) : SJ X N ρ M (.For tg iter body [] pos :: rest) Z := sj_cons fun σ H P hh g D E tk z' => by
  obtain ⟨ti, pi, hi⟩ := hi
  refine s_of (ps_for hp hc (pi _) pg_w pss_w hf) (hi σ H P hh g _ fun H1 P1 e1 h1 => ?_)
  refine for_rangeC (lo := lo) (n := z) (fun n σ' H' => ∃ ρ' M' P', Inv n ρ' M' ∧ Holds N P' H' M' ∧ Slots P' σ' ρ' ∧ Ex P1 P') ⟨ρ, M1, P1, h0, h1, g.ex e1, Ex.refl _⟩ (fun n σ' H' hn hw => ?_) (fun σ' H' hw => ?_)
  · obtain ⟨ρ', M', P', w, h2, g2, e2⟩ := hw
    obtain ⟨ρ2, G, S⟩ := step n ρ' M' hn w
    refine G _ σ' H' P' M' h2 g2 (.int _) _ fun σ2 g3 => ?_
    exact S σ2 H' P' h2 g3 _ E tk ⟨fun ρ4 M4 σ4 H4 P4 a e h g => ⟨ρ4, M4, P4, a, h, g, e2.trans e⟩, fun i M4 v H4 P4 a e h r => z'.rt i M4 v H4 P4 a ((e1.trans e2).trans e) h r, fun ρ4 M4 σ4 H4 P4 a e h g => z'.nx ρ4 M4 σ4 H4 P4 a ((e1.trans e2).trans e) h g, fun ρ4 M4 σ4 H4 P4 a e h g => ⟨ρ4, M4, P4, a, h, g, e2.trans e⟩, fun w M4 d H4 P4 C c a e h x => z'.er w M4 d H4 P4 C c a ((e1.trans e2).trans e) h x⟩
  · obtain ⟨ρ', M', P', w, h2, g2, e2⟩ := hw
    exact z'.nx ρ' M' σ' H' P' (done ρ' M' w) (e1.trans e2) h2 g2
/-- xs[lo:hi], the parts ints that are reckoned -/
theorem el_slV {ds : List PyData} {lo hi : Expr} {l h : Int} {p2 : Pos} (ha : EJ X N ρ M a (.d (.list ds)) M1) (hl : EJ X N ρ M1 lo (dI l) M2) (hh : EJ X N ρ M2 hi (dI h) M3) :
    EL X N ρ M (.Subscript a (.Slice (some lo) (some hi) none p2) pos) ((cutD ds (some l) (some h)).map It.d) M3 := fun σ H P hd g Q q => by
  refine e_of (pe_slice sl_list pe_w (po_some pe_w) (po_some pe_w)) (ha σ H P hd g _ fun x H1 P1 e1 h1 r1 => ?_)
  refine hl σ H1 P1 h1 (g.ex e1) _ fun v2 H2 P2 e2 h2 r2 => ⟨l, ri_int r2, ?_⟩
  refine hh σ H2 P2 h2 (g.ex (e1.trans e2)) _ fun v3 H3 P3 e3 h3 r3 => ⟨h, ri_int r3, ?_⟩
  obtain ⟨a, xs, rfl, h4, h5⟩ := ri_lst (r1.ex (e2.trans e3))
  exact ⟨a, xs, rfl, .inl (.inl (h3.ex _ _ h4)), fun p hp => q p _ P3 (e1.trans (e2.trans e3)) (h3.newF hp) (h3.own hp (RepIs.of_all (h5.cut (some l) (some h))))⟩
end
end Kt

/-! Kte: comprehensions with two clauses, the inner one over a list that is reckoned. -/
namespace Kt
open PySem PySem.Spec PyProof.Rows L2
def flatL (fl : PyData → List PyData) (f : PyData → PyData → PyData) : List PyData → List PyData
  | [] => []
  | d :: r => (fl d).map (f d) ++ flatL fl f r
theorem flatL_app (fl : PyData → List PyData) (f : PyData → PyData → PyData) : ∀ a b : List PyData, flatL fl f (a ++ b) = flatL fl f a ++ flatL fl f b
  | [], b => rfl
  | d :: r, b => by
    show (fl d).map (f d) ++ flatL fl f (r ++ b) = ((fl d).map (f d) ++ flatL fl f r) ++ flatL fl f b
    rw [flatL_app fl f r b, List.append_assoc]
theorem flatL_take (fl : PyData → List PyData) (f : PyData → PyData → PyData) {ds : List PyData} {i : Nat} {d : PyData} (h : ds[i]? = some d) : flatL fl f (ds.take (i + 1)) = flatL fl f (ds.take i) ++ (fl d).map (f d) := by
  rw [List.take_add_one, h, flatL_app]
  show _ ++ ((fl d).map (f d) ++ []) = _
  rw [List.append_nil]
theorem flatL_len (fl : PyData → List PyData) (f : PyData → PyData → PyData) (z : Nat) : ∀ ds : List PyData, (∀ d ∈ ds, (fl d).length ≤ z) → (flatL fl f ds).length ≤ ds.length * z
  | [], _ => by simp [flatL]
  | d :: r, h => by
    have hl := h d List.mem_cons_self
    show ((fl d).map (f d) ++ flatL fl f r).length ≤ _
    have := flatL_len fl f z r fun d hd => h d (List.mem_cons_of_mem _ hd)
    rw [List.length_append, List.length_map, List.length_cons, Nat.succ_mul]
    omega
section
variable {X : Cx} {N : Ent} {ρ ρ' : Rho} {M M1 M2 M3 M' Mc Mr Mc' : Mem} {a b c e elt iter iter1 : Expr} {pos p pos' : Pos} {i j k : It} {t u : Bool} {scope : Scope}
/-- [elt for x in xs for y in (a list reckoned from x)] -/
theorem el_comp2L {x y : Str} {px py : Pos} (n1 n2 : Nat) {ds : List PyData} (fl : PyData → List PyData) (f : PyData → PyData → PyData) (hc : X.calm = true) (hN : X.N.Nodup) (ne : n1 ≠ n2) (hi : EJ X N ρ M iter (.d (.list ds)) M1)
    (hz : ds.length ≤ 1000) (shape : ∀ d ∈ ds, (fl d).length ≤ 64)
    (src : ∀ d ∈ ds, ∀ N' s H C cl fp, EJ (X.blk s H scope (compEnvC scope cl C X.env) fp) N' ((ρ.set n2 none).set n1 (some (.d d))) M1 iter1 (.d (.list (fl d))) M1)
    (step : ∀ (d0 d : PyData), d0 ∈ ds → d ∈ fl d0 → ∀ N' s H C cl fp, EJ (X.blk s H scope (compEnvC scope cl C X.env) fp) N' (((ρ.set n2 none).set n1 (some (.d d0))).set n2 (some (.d d))) M1 elt (.d (f d0 d)) M1)
    (ok : BlkOk X.N X.env.scope scope [(x, n1), (y, n2)] := by exact blkOk_by (by kernel_rfl))
    (hg1 : ∀ (s : Shared) (H : Hp) (C : Addr) (cl : List (Str × Addr)) (fp : List Addr), PG (X.blk s H scope (compEnvC scope cl C X.env) fp) (.Name x px) (gName n1) := by exact fun _ _ _ _ _ => pg_name (by assumption) rfl (Or.inl rfl))
    (hg2 : ∀ (s : Shared) (H : Hp) (C : Addr) (cl : List (Str × Addr)) (fp : List Addr), PG (X.blk s H scope (compEnvC scope cl C X.env) fp) (.Name y py) (gName n2) := by exact fun _ _ _ _ _ => pg_name (by assumption) rfl (Or.inl rfl))
    (hf : ∀ x, foldedSetIterable iter X.env x = pure x := by intro _; rfl) (hf1 : ∀ env x, foldedSetIterable iter1 env x = pure x := by intro _ _; rfl) : EL X N ρ M (.ListComp elt [⟨.Name x px, iter, [], 0⟩, ⟨.Name y py, iter1, [], 0⟩] scope pos) ((flatL fl f ds).map It.d) M1 := fun σ H P hh g Q q => by
  have pi1 : ∀ (s : Shared) (H : Hp) (C : Addr) (cl : List (Str × Addr)) (fp : List Addr), PI (X.blk s H scope (compEnvC scope cl C X.env) fp) (.Name y py) iter1 (iList X.K (wBE X scope iter1)) := fun s H C cl fp =>
    pi_list (X := X.blk s H scope (compEnvC scope cl C X.env) fp) ⟨fun pins s1 σ1 H1 Q1 I1 h1 => h1 s H C cl fp pins s1 I1⟩
  refine e_of (pe_lc2 (vs1 := [n2]) (te := wBE X scope elt) hc hN (pi_list pe_w) ok (by simp) hg1 (fun _ _ _ _ _ => pts_nil) pi1 hg2 (fun _ _ _ _ _ => pts_nil) (fun s H C cl fp => ⟨fun pins s1 σ1 H1 Q1 I1 h1 => h1 s H C cl fp pins s1 I1⟩) hf hf1) (hi σ H P hh g _ fun v H1 P1 e1 h1 r1 => ?_)
  obtain ⟨a, xs, rfl, x1, x2⟩ := ri_lst r1
  have xl := dnAll_len x2
  refine ⟨a, rfl, ⟨xs, .inl (.inl (h1.ex _ _ x1))⟩, fun D hD => ?_⟩
  refine ⟨fun i m H => m = xs.length - i ∧ i ≤ xs.length ∧ ∃ P', Holds N P' H (M1 ++ [(D, (flatL fl f (ds.take i)).map It.d)]) ∧ Ex P1 P', ⟨xs.length, by simp, Nat.zero_le _, P1, h1.own hD (its := []) trivial, Ex.refl _⟩, ?_⟩
  rintro i m H2 ⟨rfl, hil, P2, h2, e2⟩
  have sq : SqL X.K H2 a xs := .inl (.inl (h2.ex _ _ (e2 _ _ x1)))
  by_cases hlt : i < xs.length
  · refine .inr ⟨⟨xs, xs[i], sq, by simp [hlt]⟩, fun H' => ∃ P', Holds N P' H' (M1 ++ [(D, (flatL fl f (ds.take (i + 1))).map It.d)]) ∧ Ex P1 P', fun H' p' => ⟨xs.length - (i + 1), by omega, rfl, hlt, p'⟩, fun x' H' yl => ?_⟩
    obtain ⟨rfl, yx⟩ := yl
    have hx := yx xs sq
    have nl : i < ds.length := xl ▸ hlt
    obtain ⟨v', ev, dv⟩ := dnAll_get x2 (List.getElem?_eq_getElem nl)
    rw [hx] at ev
    cases Option.some.inj ev
    have hmem : ds[i] ∈ ds := List.getElem_mem nl
    have ll := shape _ hmem
    generalize hl : fl ds[i] = l at ll
    refine ⟨wipe_first ne, ?_⟩
    unfold tYes
    dsimp only
    rw [if_pos rfl]
    intro s H0 C cl fp
    have g2 : Slots P2 ((wipe σ [n1, n2]).set n1 (some x')) ((ρ.set n2 none).set n1 (some (.d ds[i]))) := by
      have e : (wipe σ [n1, n2]).set n1 (some x') = (σ.set n2 none).set n1 (some x') := by
        show ((σ.set n2 none).set n1 none).set n1 (some x') = _
        rw [List.set_set]
      rw [e]
      exact ((g.ex (e1.trans e2)).unset n2 none).set (it := .d ds[i]) (dn_ex e2 _ _ dv) n1
    refine src _ hmem (inner P2 H' M1) s H0 C cl fp _ H' P2 h2.enter g2 _ fun w H4 P4 e4 h4 r4 => ?_
    have h5 := h2.leave h4
    rw [hl] at r4
    obtain ⟨ta, ts, rfl, t1, t2⟩ := ri_lst r4
    have tl := dnAll_len t2
    refine ⟨ta, rfl, ⟨ts, .inl (.inl (h5.ex _ _ t1))⟩, fun j k H => k = ts.length - j ∧ j ≤ ts.length ∧ ∃ P', Holds N P' H (M1 ++ [(D, (flatL fl f (ds.take i) ++ (l.take j).map (f ds[i])).map It.d)]) ∧ Ex P4 P', ⟨ts.length, by simp, Nat.zero_le _, P4, by simpa using h5, Ex.refl _⟩, ?_⟩
    rintro j k H6 ⟨rfl, hjl, P6, h6, e6⟩
    have sq6 : SqL X.K H6 ta ts := .inl (.inl (h6.ex _ _ (e6 _ _ t1)))
    by_cases hjt : j < ts.length
    · refine .inr ⟨⟨ts, ts[j], sq6, by simp [hjt]⟩, fun H' => ∃ P', Holds N P' H' (M1 ++ [(D, (flatL fl f (ds.take i) ++ (l.take (j + 1)).map (f ds[i])).map It.d)]) ∧ Ex P4 P', fun H' p' => ⟨ts.length - (j + 1), by omega, rfl, hjt, p'⟩, fun x7 H7 yl7 => ?_⟩
      obtain ⟨rfl, yx7⟩ := yl7
      have hx7 := yx7 ts sq6
      have nl7 : j < l.length := tl ▸ hjt
      obtain ⟨v7, ev7, dv7⟩ := dnAll_get t2 (List.getElem?_eq_getElem nl7)
      rw [hx7] at ev7
      cases Option.some.inj ev7
      refine ⟨wipe_comp n2, ?_⟩
      dsimp only
      rw [if_pos rfl]
      intro s H0 C cl fp
      have g7 := slots_comp (g2.ex (e4.trans e6)) n2 (i := .d l[j]) (dn_ex e6 _ _ dv7)
      refine step ds[i] l[j] hmem (by rw [hl]; exact List.getElem_mem nl7) (inner P6 H7 M1) s H0 C cl fp _ H7 P6 h6.enter g7 _ fun y8 H8 P8 e8 h8 r8 => ?_
      have h9 := h6.leave h8
      obtain ⟨acc, ea, ra⟩ := h9.cell (a := D) (its := (flatL fl f (ds.take i) ++ (l.take j).map (f ds[i])).map It.d) (List.mem_append_right _ (List.mem_singleton.mpr rfl))
      have hlen := flatL_len fl f 64 (ds.take i) fun d hd => shape d (List.mem_of_mem_take hd)
      refine ⟨acc, ea, ?_, P8, ?_, e6.trans e8⟩
      · rw [ra.len]
        refine Nat.lt_of_lt_of_le (m := 100000) ?_ (by decide)
        simp
        have : (List.take i ds).length ≤ 1000 := by rw [List.length_take]; omega
        have h64 : (flatL fl f (List.take i ds)).length ≤ 64000 := Nat.le_trans hlen (by omega)
        omega
      · have h10 := h9.write (a := D) (its := (flatL fl f (ds.take i) ++ (l.take j).map (f ds[i])).map It.d) (its' := (flatL fl f (ds.take i) ++ (l.take (j + 1)).map (f ds[i])).map It.d) (List.mem_append_right _ (List.mem_singleton.mpr rfl)) (xs' := acc ++ [y8]) (by
          have e11 : (flatL fl f (ds.take i) ++ (l.take (j + 1)).map (f ds[i])).map It.d = (flatL fl f (ds.take i) ++ (l.take j).map (f ds[i])).map It.d ++ [It.d (f ds[i] l[j])] := by
            rw [List.take_add_one, List.getElem?_eq_getElem nl7, List.map_append, List.map_append, List.map_append, List.map_append, List.append_assoc]
            rfl
          rw [e11]
          exact ra.app ⟨r8, trivial⟩)
        rw [put_last h9.nd] at h10
        exact h10
    · have ej : j = ts.length := by omega
      subst ej
      refine .inl ⟨⟨ts, sq6, Nat.le_refl _⟩, P6, ?_, (e2.trans e4).trans e6⟩
      rw [flatL_take fl f (List.getElem?_eq_getElem nl), hl]
      rw [tl, List.take_length] at h6
      exact h6
  · have ei : i = xs.length := by omega
    subst ei
    refine .inl ⟨⟨xs, sq, Nat.le_refl _⟩, ?_⟩
    rw [xl, List.take_length] at h2
    exact q D H2 P2 (e1.trans e2) (h1.newF hD) h2
end
end Kt

/-! Ktf: tuples of any length joined, cut and repeated; targets of several names. -/
namespace Kt
open PySem PySem.Spec PyProof.Rows L2
section
variable {X : Cx} {N : Ent} {ρ ρ' ρ1 ρ2 : Rho} {M M1 M2 M3 M' : Mem} {a b c e : Expr} {pos p pos' : Pos} {i j k : It}
theorem rj_catA {ds es : List PyData} (hz : ds.length + es.length ≤ 100000) : RJ N (rCatA X.K) M (.d (.tuple ds)) (.d (.tuple es)) (.d (.tuple (ds ++ es))) M := fun x y H P h rx ry Q q => by
  obtain ⟨a, xs, rfl, h1, h2⟩ := ri_tup rx
  obtain ⟨b, ys, rfl, h3, h4⟩ := ri_tup ry
  have l1 := dnAll_len h2
  have l2 := dnAll_len h4
  refine ⟨a, b, xs, ys, rfl, rfl, .inl (.inl (h.ex _ _ h1)), .inl (.inl (h.ex _ _ h3)), by rw [l1, l2]; exact Nat.le_trans hz (by decide), fun ex => ?_, fun _ ey => ?_, fun _ _ p hp => ?_⟩
  · rw [ex] at l1
    have : ds = [] := List.length_eq_zero_iff.mp l1.symm
    subst this
    exact q _ H P (Ex.refl P) h (.tup h3 h4)
  · rw [ey] at l2
    have : es = [] := List.length_eq_zero_iff.mp l2.symm
    subst this
    rw [List.append_nil] at q
    exact q _ H P (Ex.refl P) h (.tup h1 h2)
  · obtain ⟨h5, e5⟩ := h.pers (o := .tup (xs ++ ys)) hp
    exact q _ _ _ e5 h5 (.tup upd_same (dnAll_ex e5 _ _ (h2.app h4)))
/-- t + u -/
theorem ej_catA {ds es : List PyData} (ha : EJ X N ρ M a (.d (.tuple ds)) M1) (hb : EJ X N ρ M1 b (.d (.tuple es)) M2) (hz : ds.length + es.length ≤ 100000) : EJ X N ρ M (.BinOp a .Add b pos) (.d (.tuple (ds ++ es))) M2 := ej_op op_catA ha hb (rj_catA hz)
/-- t * n, two times at least -/
theorem ej_repT {ds : List PyData} {n : Int} (ha : EJ X N ρ M a (.d (.tuple ds)) M1) (hb : EJ X N ρ M1 b (dI n) M2) (h0 : ds ≠ []) (h1 : 2 ≤ n) (h2 : n ≤ 1000) (hz : ds.length ≤ 1000) : EJ X N ρ M (.BinOp a .Mult b pos) (.d (.tuple (List.replicate n.toNat ds).flatten)) M2 :=
  ej_op op_repT ha hb fun x y H P h rx ry Q q => by
    obtain ⟨l, xs, rfl, h3, h4⟩ := ri_tup rx
    have l1 := dnAll_len h4
    refine ⟨l, n, xs, rfl, ri_int ry, .inl (.inl (h.ex _ _ h3)), fun ex => h0 ?_, h1, h2, by rw [l1]; exact hz, fun p hp => ?_⟩
    · rw [ex] at l1
      exact List.length_eq_zero_iff.mp l1.symm
    · obtain ⟨h5, e5⟩ := h.pers (o := .tup (List.replicate n.toNat xs).flatten) hp
      exact q _ _ _ e5 h5 (.tup upd_same (dnAll_ex e5 _ _ (h4.rep _)))
/-- t[lo:hi], the parts written ints or none, the whole of it too -/
theorem ej_slA {ds : List PyData} {lo hi : Option Expr} {l h : Option Int} {tl th : TO} {p2 : Pos} (ha : EJ X N ρ M a (.d (.tuple ds)) M1) (pl : PO X lo tl) (ph : PO X hi th) (el : ∀ σ H Q, Q l H → tl σ H Q) (eh : ∀ σ H Q, Q h H → th σ H Q) :
    EJ X N ρ M (.Subscript a (.Slice lo hi none p2) pos) (.d (.tuple (cutD ds l h))) M1 := fun σ H P hh g Q q =>
  e_of (pe_slice sl_tupA pe_w pl ph) (ha σ H P hh g _ fun x H1 P1 e1 h1 r1 => el _ _ _ (eh _ _ _ (by
    obtain ⟨a, xs, rfl, h3, h4⟩ := ri_tup r1
    have l1 := dnAll_len h4
    refine ⟨a, xs, rfl, .inl (.inl (h1.ex _ _ h3)), fun hw => ?_, fun _ p hp => ?_⟩
    · rw [l1] at hw
      have e : cutD ds l h = ds := by
        unfold cutD
        rw [hw.1, hw.2, List.drop_zero, Nat.sub_zero, List.take_length]
      rw [e] at q
      exact q _ H1 P1 e1 h1 (.tup h3 h4)
    · obtain ⟨h5, e5⟩ := h1.pers (o := .tup (cutV xs l h)) hp
      exact q _ _ _ (e1.trans e5) h5 (.tup upd_same (dnAll_ex e5 _ _ (h4.cut l h))))))
/-- several targets, one datum each -/
def GsJ (X : Cx) (N : Ent) (es : List Expr) (ds : List PyData) (ρ ρ' : Rho) : Prop :=
  ∃ t : TGs, PGs X es t ∧ ∀ vs σ H P M, Holds N P H M → Slots P σ ρ → DnAll P vs ds → ∀ Q : L2.St → Hp → Prop, (∀ σ', Slots P σ' ρ' → Q σ' H) → t vs σ H Q
theorem gs_nil : GsJ X N [] [] ρ ρ := ⟨gNil, pgs_nil, fun vs σ H P M hh g r Q q => by
  cases r
  exact ⟨rfl, q σ g⟩⟩
theorem gs_cons {es : List Expr} {d : PyData} {ds : List PyData} {x : Str} (n : Nat) (hN : X.N.Nodup) (h : GsJ X N es ds (ρ.set n (some (.d d))) ρ') (hi : X.N[n]? = some x := by rfl) (hx : Loc X.env.scope x := by first | exact .inl rfl | exact .inr rfl) (hf : X.fn x = true ∨ X.env.scope.names.lookup x = some .local := by first | exact .inl rfl | exact .inr rfl)
    (hs : (assignEach (.Name x p :: es) X.env).map (·.2) = assign (.Name x p) X.env :: (assignEach es X.env).map (·.2) := by rfl) : GsJ X N (.Name x p :: es) (d :: ds) ρ ρ' := by
  obtain ⟨t, pt, ht⟩ := h
  refine ⟨gCons (gName n) t, pgs_cons (pg_name (i := n) hN hi hx hf) pt hs, fun vs σ H P M hh g r Q q => ?_⟩
  cases r with
  | cons r1 r2 => exact ⟨_, _, rfl, ht _ _ H P M hh (g.set (it := .d d) r1 n) r2 Q q⟩
theorem gj_tup {es : List Expr} {ds : List PyData} {kk : Nat} (hc : X.calm = true) (h : GsJ X N es ds ρ ρ') (hl : es.length = ds.length := by rfl)
    (hn : (assignEach es X.env).length = es.length := by rfl) (hst : (assignEach es X.env).findIdx? (·.1) = none := by rfl) : GJ X N (.Tuple es kk pos) (.d (.tuple ds)) ρ ρ' := fun v σ H P M hh g r Q q => by
  obtain ⟨t, pt, ht⟩ := h
  obtain ⟨a, xs, rfl, h1, h2⟩ := ri_tup r
  exact g_of (pg_tup hc pt hn hst) ⟨a, xs, rfl, .inl (.inl (hh.ex _ _ h1)), by rw [dnAll_len h2, hl], ht xs σ H P M hh g h2 Q q⟩
end
end Kt

/-! Ktg: isinstance(e, ..) of an own error that bears a name, in a suite that answers with it. -/
namespace Kt
open PySem PySem.Spec PyProof.Rows L2
/-- what K tells of the error's class, so that isinstance may be asked of its instances -/
structure IsTxt (K : PySem.W.Frag) (Cs C0 : Addr) : Prop where
  cl : (PySem.W.clsIn K Cs).isSome = true
  sb : PySem.W.subIn K (.ref Cs) (.type "BaseException") = some true
  ha : PySem.W.findIn K (.ref Cs) "__class__" = some (some (.builtin "object.__class__"))
  hn : PySem.W.specialIn K (.builtin "object.__class__") "__get__" = some (some (.builtin "getset_descriptor.__get__"))
  ht : PySem.W.takesIn K (.builtin "object.__class__") = some true
  hm : PySem.W.mroIn K Cs (.type "object") = some true
  k0 : PySem.W.kitOne K (.ref Cs) (.ref C0) = some true
  kV : PySem.W.kitOne K (.ref Cs) (.type "ValueError") = some true
section
variable {X : Cx} {N : Ent} {M' : Mem} {Cs C0 fI a dd : Addr} {fd : FuncData} {sI : Stmt} {oe : Obj} {pn : List (Addr × Obj)} {pos : Pos} {rest : List Stmt}
def rIsD (K : PySem.W.Frag) (D a dd : Addr) : List V → Hp → VK → Prop := fun xs H Q => ∃ (c : V) (cv : Value) (b : Bool) (z : Str), xs = [.ref a, c] ∧ (∀ u, RelV c u → u = cv) ∧ PySem.W.kitOne K (.ref D) cv = some b ∧ H dd = some (XD z) ∧ Q (.bl b) H
theorem call_isD (T : ErrTxt X.K X.mg sI Cs C0 fI fd) (I0 : IsTxt X.K Cs C0) (hz : Zc (.ref Cs) (some dd) oe) (hf : ∃ vs, oe.data = .fields vs) : CallR (X.suite a ((a, oe) :: pn)) (.builtin "isinstance") (rIsD X.K Cs a dd) := by
  intro pins s σ H xs us Q I r h
  obtain ⟨c, cv, b, z, rfl, hcv, e, hd, q⟩ := h
  obtain ⟨x, us1, rx, r1, rfl⟩ : ∃ x us1, RelV (.ref a) x ∧ Vals [c] us1 ∧ us = x :: us1 := by
    cases r with
    | cons h1 h2 => exact ⟨_, _, h1, h2, rfl⟩
  obtain ⟨u, rt, rfl⟩ : ∃ u, RelV c u ∧ us1 = [u] := by
    cases r1 with
    | cons h1 h2 =>
      cases h2
      exact ⟨_, h1, rfl⟩
  obtain rfl : x = Value.ref a := rx
  obtain rfl := hcv u rt
  obtain ⟨hget, _⟩ := I.pin (a, oe) (List.mem_append_left _ List.mem_cons_self)
  obtain ⟨vs, hv⟩ := hf
  have hx : ObjOk X.prog X.w H s.heap dd (XD z) := I.hok dd _ hd
  obtain ⟨mA, hns, _⟩ := hx
  obtain ⟨od, ho, _⟩ := lookIn_ns hns
  have J : PySem.W.InstAt s.heap a oe Cs (some od) := ⟨hget, hz.1, by unfold PySem.W.notCls; rw [hv] <;> rfl, by rw [hz.2]; exact ho⟩
  exact PySem.W.kia_one (PySem.W.kitx_exc I0.cl T.ga T.gg I0.sb I0.ha I0.hn I0.ht I0.hm) I.kIn J e (fun z => nomatch z) fun tk => ⟨.bl b, H, I.kept (t' := tk) fun _ _ z => z, rfl, q⟩
/-- return isinstance(e, base) and isinstance(e, ValueError) and e.name == '..' -/
theorem suite_isEq (n : Nat) {nm b0 z w : Str} {p1 p2 p3 p4 p5 p6 p7 p8 p9 pA pB pC pD : Pos} {j : Nat} {rt : It → Mem → Prop} (T : ErrTxt X.K X.mg sI Cs C0 fI fd) (I0 : IsTxt X.K Cs C0) (hmi : X.mg "isinstance" = none) (hmv : X.mg "ValueError" = none) (h : rt (dB (decide (z = w))) M') (hi : X.N[n]? = some nm := by rfl)
    (hb0 : X.mg b0 = some (.ref C0)) (hg0 : Gl X b0 := by rfl) (hgi : Gl X "isinstance" := by rfl) (hgv : Gl X "ValueError" := by rfl) (hd0 : (b0 == ("__debug__" : Str)) = false := by decide)
    (hv : Vis X.env.scope nm := by exact Or.inl rfl) (hd : (nm == ("__debug__" : Str)) = false := by decide) (hcd : (nm == ("__classdict__" : Str)) = false := by decide)
    (hb : attributeBase (.Name nm p1) "name" X.env (eval (.Name nm p1) X.env) = eval (.Name nm p1) X.env := by rfl)
    (hs1 : starEach [.Name nm p6, .Name b0 p7] X.env = (false, eval (.Name nm p6) X.env) :: starEach [.Name b0 p7] X.env := by rfl) (hs2 : starEach [.Name b0 p7] X.env = [(false, eval (.Name b0 p7) X.env)] := by rfl) (hpl1 : (backTo p8 (starEach [.Name b0 p7] X.env)).any (·.1) = false := by rfl)
    (hs3 : starEach [.Name nm pA, .Name "ValueError" pB] X.env = (false, eval (.Name nm pA) X.env) :: starEach [.Name "ValueError" pB] X.env := by rfl) (hs4 : starEach [.Name "ValueError" pB] X.env = [(false, eval (.Name "ValueError" pB) X.env)] := by rfl) (hpl2 : (backTo pC (starEach [.Name "ValueError" pB] X.env)).any (·.1) = false := by rfl) :
    SuiteOk X N n Cs (.Return (some (.BoolOp .And [.Call (.Name "isinstance" p5) [.Name nm p6, .Name b0 p7] [] p8, .Call (.Name "isinstance" p9) [.Name nm pA, .Name "ValueError" pB] [] pC, .Compare (.Attribute (.Name nm p1) "name" p2) [.Eq] [.Constant (.str w) j p3] p4] pD)) pos :: rest) z M' rt := fun a dd P' H' σ' oe pn D hh x ha hl hz hf k => by
  have l : n < X.N.length := (List.getElem?_eq_some_iff.mp hi).1
  have sv : (σ'.set n (some (.ref a)))[n]? = some (some (.ref a)) := List.getElem?_set_self (by omega)
  have CI := call_isD (X := X) (pn := pn) (a := a) T I0 hz hf
  have PV : ∀ q : Pos, PE (X.suite a ((a, oe) :: pn)) (.Name nm q) _ := fun q => pe_var (i := n) hi hv hd hcd
  refine ss_of (pss_cons (ps_ret (pe_and (pe_callB CI hgi hmi boot_isinstance (pa_cons (PV p6) (pa_cons (pe_glob hg0 hb0 (v := .ref C0) rfl hd0) pa_nil hs2) hs1) (by decide) (by decide) hs1 hpl1) (pe_and (pe_callB CI hgi hmi boot_isinstance (pa_cons (PV pA) (pa_cons (pe_bltn hgv hmv (by decide +kernel) (v := .ty "ValueError") rfl) pa_nil hs4) hs3) (by decide) (by decide) hs3 hpl2) (pe_one (pe_cmpR op_eq (pe_ename T hz hf (PV p1) hb) pe_str (nomark _)))))) pss_w) ?_
  refine ⟨.ref a, sv, .ref C0, .ref C0, true, z, rfl, fun u hu => hu, I0.k0, x, true, rfl, iteT ?_⟩
  refine ⟨.ref a, sv, .ty "ValueError", .type "ValueError", true, z, rfl, fun u hu => hu, I0.kV, x, true, rfl, iteT ?_⟩
  refine ⟨.ref a, sv, rfl, rfl, dd, .str z, rfl, x, rfl, ?_⟩
  refine k (dB (decide (z = w))) M' _ H' P' h (Ex.refl _) hh ?_
  have e : decide (V.str z = V.str w) = decide (z = w) := by
    by_cases q : z = w
    · rw [q, decide_eq_true rfl, decide_eq_true rfl]
    · rw [decide_eq_false q, decide_eq_false fun h => q (V.str.inj h)]
  show Dn P' (.bl (decide (V.str z = V.str w))) (.bool (decide (z = w)))
  rw [e]
  exact .bl _
end
end Kt

/-! Kth: a tuple once: t * 1. -/
namespace Kt
open PySem PySem.Spec PyProof PyProof.Rows L2
theorem tup_once (l : Addr) (its : Array Value) (n : Nat) (dd : Option Addr) (sl : Array (Option Value)) (u : Tok) :
    Meets (Builtin.«tuple.__mul__» ⟨[.ref l, .int 1 u], []⟩) (fun _ R s => s.heap.get? l = some { cls := .type "tuple", dict := dd, data := .seq its n, slots := sl } ∧ R (.ok (.ret (Value.ref l))) s) :=
  .of_wp fun prog w A R s hr => by
    obtain ⟨hp, g, d, tk, os⟩ := s
    obtain ⟨at_, fin⟩ := hr
    have idx := AutoSeq1.idx_int
    have one : (its.isEmpty || (1 : Int) == 1) = true := by simp
    wp_walk using wpAny_loadPart' at_
    exact ⟨_, rfl, fin⟩
section
variable {X : Cx} {N : Ent} {ρ : Rho} {M M1 M2 : Mem} {a b : Expr} {pos : Pos}
def rOnce (K : PySem.W.Frag) : R2 := fun x y H Q => ∃ l xs, x = .ref l ∧ y = .int 1 ∧ SqT K H l xs ∧ Q (.ref l) H
theorem op_once : OpR X (binaryOp .Mult) (rOnce X.K) := by
  intro pins s σ H x y v u Q I rx ry h
  obtain ⟨l, xs, rfl, rfl, hT, q⟩ := h
  obtain rfl : v = Value.ref l := rx
  obtain ⟨t, rfl⟩ := ry
  obtain ⟨its, r, ⟨⟨cls, dd, data, sl⟩, ho, hc, n, hd⟩, _⟩ := I.tuple hT
  obtain rfl : cls = Value.type "tuple" := hc
  obtain rfl : data = _ := hd
  have ti : s.TypeIs (.ref l) "tuple" := ⟨_, ho, rfl⟩
  have mul := call_meets (prog := X.prog) (w := X.w) (A := X.A) (E := X.xe) F.slot_tuple_mul ti F.entry_tuple_mul (F.args_tuple_mul_2 _ _) (tup_once l its.toArray n dd sl t) (Q := EP X pins σ Q) ⟨ho, ⟨.ref l, H, I, rfl, q⟩⟩
  exact wpAny_binaryOp_repeat_ref (T := "tuple") (U := "int") (by decide) ti (fun s' => typeIs_int s' 1 t) noFill_tuple_mul F.fills_int_mul F.slot_int_rmul repeat_tuple F.slot_int_index.lookup
    (call_meets F.slot_int_rmul (typeIs_int s 1 t) F.entry_int_rmul (F.args_int_rmul_2 _ _) (int_rmul_tuple 1 t l its.toArray n dd sl) ⟨ho, rfl, ti, mul⟩)
/-- t * n, once at least -/
theorem ej_times {ds : List PyData} {n : Int} (ha : EJ X N ρ M a (.d (.tuple ds)) M1) (hb : EJ X N ρ M1 b (dI n) M2) (h0 : ds ≠ []) (h1 : 1 ≤ n) (h2 : n ≤ 1000) (hz : ds.length ≤ 1000) : EJ X N ρ M (.BinOp a .Mult b pos) (.d (.tuple (List.replicate n.toNat ds).flatten)) M2 := by
  by_cases h : n = 1
  · subst h
    rw [show (List.replicate (1 : Int).toNat ds).flatten = ds by simp]
    exact ej_op op_once ha hb fun x y H P hh rx ry Q q => by
      obtain ⟨l, xs, rfl, h3, h4⟩ := ri_tup rx
      exact ⟨l, xs, rfl, ri_int ry, .inl (.inl (hh.ex _ _ h3)), q _ H P (Ex.refl P) hh (.tup h3 h4)⟩
  · exact ej_repT ha hb h0 (by omega) h2 hz
end
end Kt

/-! Kti: enumerate over a tuple -/
namespace Kt
open PySem PySem.Spec PyProof PyProof.Rows L2
theorem wp_ite2 {M : Model} {A : Around} {α : Type} {c : Prop} [Decidable c] {t e : Sem α} {Q : α → Shared → Prop} {E : Value → Shared → Prop} {s : Shared} (h1 : wpAny M A t Q E s) (h2 : wpAny M A e Q E s) : wpAny M A (if c then t else e) Q E s := by
  split <;> assumption
theorem enum_newB {v : Value} {o : Obj} {Hh : Heap → Prop} (B : Begins v o Hh) : Meets (Builtin.«enumerate.__new__» ⟨[.type "enumerate", v], []⟩) (fun _ R s => Hh s.heap ∧ R (.ok (.ret (Value.ref (s.heap.push o).objs.size))) { s with heap := (s.heap.push o).push { cls := .type "enumerate", data := .fields #[.none, .bool false, .ref s.heap.objs.size, rawInt 0, .none, .none] } }) :=
  .of_wp fun prog w A R s hr => by
    obtain ⟨hp, g, d, tk, os⟩ := s
    obtain ⟨at_, fin⟩ := hr
    have hsub := sub_enumerate
    have hit := fun (A : Around) (E : Value → Shared → Prop) (s : Shared) (Q : Value → Shared → Prop) (h1 : Hh s.heap) (h2 : Q (.ref s.heap.objs.size) { s with heap := s.heap.push o }) => B.iter prog w A E s Q h1 h2
    unfold Builtin.«enumerate.__new__»
    wp_walk using hit
    refine wpAny_stack_any fun st => wpAny_pure ?_
    refine wp_ite2 ?_ ?_
    · wp_walk using hit
      case h1 => exact at_
      show wpAny _ _ _ _ _ ⟨hp.push o, g, d, tk, os⟩
      wp_walk
      exact ⟨_, rfl, fin⟩
    · wp_walk using hit
      case h1 => exact at_
      show wpAny _ _ _ _ _ ⟨hp.push o, g, d, tk, os⟩
      wp_walk
      exact ⟨_, rfl, fin⟩
def IteT (K : PySem.W.Frag) (a : Addr) : L2.It :=
  { go := fun i H => ∃ xs x, SqT K H a xs ∧ xs[i]? = some x
    yld := fun i H v H' => ∃ T x, v = .ref T ∧ H T = none ∧ H' = upd H T (.tup [.int (i : Nat), x]) ∧ ∀ xs, SqT K H a xs → xs[i]? = some x
    stop := fun i H => ∃ xs, SqT K H a xs ∧ xs.length = i }
theorem turn_enumT {P : Program} {w : World} {K : PySem.W.Frag} {elts : List Expr} {kk : Nat} {tpos : Pos} (a e it : Addr) :
    Turn P w K (.Tuple elts kk tpos) (IteT K a) [e, it] e fun i h => (∃ old, IsEnum h e it (i : Nat) old) ∧ h.IsTupleIter it a i ∧ e ≠ it := by
  refine ⟨by simp, ?_, ?_, ?_, ?_, ?_⟩
  · rintro i h ⟨⟨old, h1⟩, ⟨o, h2, _, h4⟩, ne⟩ b hb
    simp only [List.mem_cons, List.not_mem_nil, or_false] at hb
    rcases hb with rfl | rfl
    · exact ⟨_, h1, fun v => by simp⟩
    · exact ⟨_, h2, fun v => by rw [h4]; simp⟩
  · rintro i h h' ⟨⟨old, h1⟩, h2, ne⟩ hk
    exact ⟨⟨old, hk e (by simp) _ h1⟩, h2.at (hk it (by simp)), ne⟩
  · rintro X rfl rfl rfl hc i pins s σ H E I hfp ⟨⟨old, h1⟩, h2, ne⟩ ⟨xs, x, hq, hx⟩
    obtain ⟨its, hv, ht, hl⟩ := I.tuple hq
    obtain ⟨u, hu, ru⟩ := hv.get hx
    have nea : a ≠ e := fun q => by
      obtain ⟨o, ho, hcl, _⟩ := ht
      rw [q, h1] at ho
      cases ho
      simp at hcl
    have nei : a ≠ it := fun q => by
      obtain ⟨o, ho, hcl, _⟩ := ht
      obtain ⟨o2, ho2, hcl2, _⟩ := h2
      rw [q, ho2] at ho
      cases ho
      rw [hcl2] at hcl
      simp at hcl
    have G := GoesN.enumFrom (prog := X.prog) (w := X.w) (A := X.A) (elts := elts) (x1 := kk) (pos := tpos) 0 (Draws.tuple (prog := X.prog) (w := X.w) (A := X.A.in1) (I.ok.hd hc) it a nei its.toArray) e ne (by simp [ne, Ne.symm nea]) (by simp)
    refine G.goes i s _ E (by simp; exact (List.getElem?_eq_some_iff.mp hu).1) ⟨⟨old, by simpa using h1⟩, h2, ht⟩ fun v h' tk hY hS hfr htk => ?_
    obtain ⟨T, t, x', rfl, hT, hx', hTu⟩ := hY
    have ex : x' = u := by
      simp at hx'
      rw [hu] at hx'
      exact (Option.some.inj hx').symm
    subst ex
    have hT0 : H T = none := I.hok.fresh hT
    refine ⟨.ref T, upd H T (.tup [.int (i : Nat), x]), I.turnedNew hfr (fun b hb => hfp b hb) hT ?_, rfl, ⟨T, x, rfl, hT0, rfl, fun ys hy => by rw [I.tuple_inj hy hq]; exact hx⟩, ?_, fun b hb => ?_⟩
    · unfold ObjOk
      refine ⟨by show 2 ≤ sizeLine; decide, [.int (i : Nat) t, x'], .cons ⟨t, rfl⟩ (.cons ru .nil), ?_⟩
      rw [Int.zero_add] at hTu
      exact hTu
    · obtain ⟨⟨o, g1⟩, g2, _⟩ := hS
      exact ⟨⟨o, by simpa using g1⟩, g2, ne⟩
    · have hb0 := (hfp b hb).1
      by_cases q : b = T
      · subst q
        obtain ⟨_, _, _, h5, _⟩ := hfp b hb
        exfalso
        have : ∃ o, s.heap.get? b = some o := by
          simp only [List.mem_cons, List.not_mem_nil, or_false] at hb
          rcases hb with rfl | rfl
          · exact ⟨_, h1⟩
          · obtain ⟨o, q1, _⟩ := h2
            exact ⟨o, q1⟩
        obtain ⟨o, q1⟩ := this
        exact absurd (Heap.lt_size q1) (Nat.not_lt.mpr hT)
      · rw [upd_ne q]
        exact hb0
  · rintro X rfl rfl rfl hc i pins s σ H E I hfp ⟨⟨old, h1⟩, h2, ne⟩ ⟨xs, hq, hx⟩
    obtain ⟨its, hv, ht, hl⟩ := I.tuple hq
    have hlen : its.toArray.size = i := by simp; rw [← hv.length]; exact hx
    have nei : a ≠ it := fun q => by
      obtain ⟨o, ho, hcl, _⟩ := ht
      obtain ⟨o2, ho2, hcl2, _⟩ := h2
      rw [q, ho2] at ho
      cases ho
      rw [hcl2] at hcl
      simp at hcl
    refine wpAny_pyNext_enum_endD (Draws.tuple (prog := X.prog) (w := X.w) (A := X.A.in1) (I.ok.hd hc) it a nei its.toArray) h1 ⟨hlen ▸ h2, ht⟩ fun h' hx' => ⟨rfl, ?_⟩
    obtain ⟨a1, a2, a3, a4, a5, a6⟩ := hfp it (by simp)
    exact I.turned (fun b o hb hg => hx' b o hb hg) a1 a2 a4 a5 a6
  · rintro A i s Q E ⟨⟨old, h1⟩, _, _⟩ q
    exact wpAny_pyIter_enum h1 q

theorem walk_enumT {K : PySem.W.Frag} {a : Addr} {xs : List V} (inj : ∀ H ys, SqT K H a xs → SqT K H a ys → ys = xs) : Walk (IteT K a) xs.length (fun H => SqT K H a xs) (fun i H v H' => ∃ T x, v = .ref T ∧ H T = none ∧ H' = upd H T (.tup [.int (i : Nat), x]) ∧ xs[i]? = some x) :=
  ⟨fun i H hi g => ⟨xs, _, g, List.getElem?_eq_getElem hi⟩, fun H g => ⟨xs, g, rfl⟩, fun i H v H' hi g y => by
    obtain ⟨T, x, a1, a2, a3, a4⟩ := y
    exact ⟨T, x, a1, a2, a3, a4 xs g⟩⟩
theorem call_enumT {prog : Program} {w : World} {A : Around} {E : Value → Shared → Prop} {s : Shared} {v : Value} {o : Obj} {Hh : Heap → Prop} {Q : Value → Shared → Prop} (B : Begins v o Hh) (hh : Hh s.heap)
    (h : ∀ h' : Heap, IsEnum h' (s.heap.objs.size + 1) s.heap.objs.size 0 .none → h'.get? s.heap.objs.size = some o → h'.objs.size = s.heap.objs.size + 2 → (∀ (b : Addr) (o : Obj), s.heap.get? b = some o → h'.get? b = some o) → Q (.ref (s.heap.objs.size + 1)) { s with heap := h' }) :
    wpAny (model prog w) A (call (.type "enumerate") [v]) Q E s := by
  refine callType_new F.called_enumerate (by decide) (F.typeCall_enumerate_1 v) (F.newCall_enumerate_1 v) (fun obj => F.args_object_init_2 obj v) F.entry_enumerate_new (enum_newB B) ⟨hh, ?_⟩
  have hz := Heap.size_push s.heap o
  rw [hz]
  refine ⟨⟨_, Heap.get?_push_at hz.symm rfl, rfl⟩, h _ (Heap.get?_push_at hz.symm rfl) ?_ ?_ ?_⟩
  · exact Heap.get?_push_of_some _ (Heap.get?_push_at rfl B.free)
  · rw [Heap.size_push, hz]
  · exact fun b o2 hb => Heap.get?_push_of_some _ (Heap.get?_push_of_some _ hb)
def iEnumT (K : PySem.W.Frag) (ta : TA) : TI := fun σ H R => ta σ H fun vs H1 => ∃ a xs, vs = [.ref a] ∧ SqT K H1 a xs ∧ R (IteT K a) H1
theorem pi_enumT {X : Cx} {e : Expr} {ta : TA} {p pos tpos : Pos} {elts : List Expr} {kk : Nat} (hg : Gl X "enumerate") (hm : X.mg "enumerate" = none) (ha : PA X [e] ta) (hs : starEach [e] X.env = [(false, eval e X.env)] := by rfl) :
    PI X (.Tuple elts kk tpos) (.Call (.Name "enumerate" p) [e] [] pos) (iEnumT X.K ta) := by
  refine ⟨fun pins s σ H R I h => ?_⟩
  refine Call_ (ld_blt I hg hm boot_enumerate (PyProof.Rows.callWith_type1 (thn (ha.run pos pins s σ H _ I h) fun us s1 x => ?_) hs rfl))
  obtain ⟨vs, H1, I1, r1, a, xs, rfl, hq, q⟩ := x
  cases r1 with
  | cons r rr =>
    cases rr
    cases r
    obtain ⟨its, rv, ht, hz⟩ := I1.tuple hq
    refine call_enumT (begins_tuple a its.toArray) ht fun h' he ho hsz hk => wpAny_pyIter_enum he ?_
    have I2 := I1.kept (t' := s1.toks) hk
    refine ⟨_, [s1.heap.objs.size + 1, s1.heap.objs.size], _, IteT X.K a, H1, rfl, I2, turn_enumT a (s1.heap.objs.size + 1) s1.heap.objs.size, ⟨⟨_, he⟩, ⟨_, ho, rfl, rfl⟩, Nat.succ_ne_self _⟩, fun b hb => ?_, q⟩
    simp only [List.mem_cons, List.not_mem_nil, or_false] at hb
    rcases hb with rfl | rfl
    · exact I1.fpOk (by omega) (I1.hok.fresh (by omega))
    · exact I1.fpOk (by omega) (I1.hok.fresh (by omega))
end Kt

/-! Ktk: loops and comprehensions over any walk of data: enumerate, zip, lists, tuples. -/
namespace Kt
open PySem PySem.Spec PyProof PyProof.Rows L2
structure WalkQ (φ : Mem → Prop) (N : Ent) (P1 : Hp) (J : L2.It) (ds : List PyData) : Prop where
  go : ∀ i H P' M', i < ds.length → Holds N P' H M' → Ex P1 P' → φ M' → J.go i H
  stop : ∀ H P' M', Holds N P' H M' → Ex P1 P' → φ M' → J.stop ds.length H
  yld : ∀ i H x H' P' M', i < ds.length → Holds N P' H M' → Ex P1 P' → φ M' → J.yld i H x H' → ∃ P'' d, ds[i]? = some d ∧ Ex P' P'' ∧ Holds N P'' H' M' ∧ RepI P'' x (.d d)
abbrev anyM : Mem → Prop := fun _ => True
section
variable {X : Cx} {N : Ent} {ρ ρ' : Rho} {M M1 M2 : Mem} {a b e tg iter : Expr} {pos : Pos} {Z : Post} {body rest : List Stmt}
/-- a walk that asks φ of what may still change -/
def IWQ (φ : Mem → Prop) (X : Cx) (N : Ent) (ρ : Rho) (M : Mem) (tg iter : Expr) (ds : List PyData) (M1 : Mem) : Prop :=
  ∃ ti : TI, PI X tg iter ti ∧ ∀ σ H P, Holds N P H M → Slots P σ ρ → ∀ R, (∀ J H1 P1, Ex P P1 → Holds N P1 H1 M1 → WalkQ φ N P1 J ds → R J H1) → ti σ H R
abbrev IW (X : Cx) (N : Ent) (ρ : Rho) (M : Mem) (tg iter : Expr) (ds : List PyData) (M1 : Mem) : Prop := IWQ anyM X N ρ M tg iter ds M1
def enumD (ds : List PyData) : List PyData := ds.mapIdx fun i d => .tuple [.int (i : Int), d]
theorem enumD_get {ds : List PyData} {i : Nat} {d : PyData} (h : ds[i]? = some d) : (enumD ds)[i]? = some (.tuple [.int (i : Int), d]) := by
  unfold enumD
  rw [List.getElem?_mapIdx, h]
  rfl
theorem enumD_len (ds : List PyData) : (enumD ds).length = ds.length := by unfold enumD; simp
theorem enumD_inv {ds : List PyData} {i : Nat} {d : PyData} (h : (enumD ds)[i]? = some d) : ∃ x, ds[i]? = some x ∧ d = .tuple [.int (i : Int), x] := by
  unfold enumD at h
  rw [List.getElem?_mapIdx] at h
  obtain ⟨x, h1, h2⟩ := Option.map_eq_some_iff.mp h
  exact ⟨x, h1, h2.symm⟩
theorem iw_enumT {p : Pos} {elts : List Expr} {kk : Nat} {tpos : Pos} {ds : List PyData} (hm : X.mg "enumerate" = none) (ha : EJ X N ρ M a (.d (.tuple ds)) M1) (hg : Gl X "enumerate" := by rfl) (hs : starEach [a] X.env = [(false, eval a X.env)] := by rfl) :
    IW X N ρ M (.Tuple elts kk tpos) (.Call (.Name "enumerate" p) [a] [] pos) (enumD ds) M1 := by
  refine ⟨_, pi_enumT hg hm pa_w hs, fun σ H P hh g R q => ?_⟩
  refine aj_cons ha aj_nil hs σ H P hh g _ fun vs H1 P1 e1 h1 r1 => ?_
  obtain ⟨x, rfl, r2⟩ := ri1 r1
  obtain ⟨t, xs, rfl, x1, x2⟩ := ri_tup r2
  have xl := dnAll_len x2
  refine ⟨t, xs, rfl, .inl (.inl (h1.ex _ _ x1)), q _ H1 P1 e1 h1 ⟨fun i H P' M' hi h2 e2 _ => ?_, fun H P' M' h2 e2 _ => ?_, fun i H v H' P' M' hi h2 e2 _ y => ?_⟩⟩
  · rw [enumD_len, ← xl] at hi
    exact ⟨xs, _, .inl (.inl (h2.ex _ _ (e2 _ _ x1))), List.getElem?_eq_getElem hi⟩
  · exact ⟨xs, .inl (.inl (h2.ex _ _ (e2 _ _ x1))), by rw [enumD_len, xl]⟩
  · obtain ⟨T, u, rfl, hT, rfl, hx⟩ := y
    have hx := hx xs (.inl (.inl (h2.ex _ _ (e2 _ _ x1))))
    rw [enumD_len] at hi
    obtain ⟨v', ev, dv⟩ := dnAll_get x2 (List.getElem?_eq_getElem hi)
    rw [hx] at ev
    cases Option.some.inj ev
    obtain ⟨h5, e5⟩ := h2.pers (o := .tup [.int (i : Nat), u]) hT
    exact ⟨_, _, enumD_get (List.getElem?_eq_getElem hi), e5, h5, .tup upd_same (.cons (.int _) (.cons (dn_ex e5 _ _ (dn_ex e2 _ _ dv)) .nil))⟩
theorem iw_enumL {p : Pos} {elts : List Expr} {kk : Nat} {tpos : Pos} {ds : List PyData} (hm : X.mg "enumerate" = none) (ha : EJ X N ρ M a (.d (.list ds)) M1) (hg : Gl X "enumerate" := by rfl) (hs : starEach [a] X.env = [(false, eval a X.env)] := by rfl) :
    IW X N ρ M (.Tuple elts kk tpos) (.Call (.Name "enumerate" p) [a] [] pos) (enumD ds) M1 := by
  refine ⟨_, pi_enum hg hm pa_w hs, fun σ H P hh g R q => ?_⟩
  refine aj_cons ha aj_nil hs σ H P hh g _ fun vs H1 P1 e1 h1 r1 => ?_
  obtain ⟨x, rfl, r2⟩ := ri1 r1
  obtain ⟨t, xs, rfl, x1, x2⟩ := ri_lst r2
  have xl := dnAll_len x2
  refine ⟨t, xs, rfl, .inl (.inl (h1.ex _ _ x1)), q _ H1 P1 e1 h1 ⟨fun i H P' M' hi h2 e2 _ => ?_, fun H P' M' h2 e2 _ => ?_, fun i H v H' P' M' hi h2 e2 _ y => ?_⟩⟩
  · rw [enumD_len, ← xl] at hi
    exact ⟨xs, _, .inl (.inl (h2.ex _ _ (e2 _ _ x1))), List.getElem?_eq_getElem hi⟩
  · exact ⟨xs, .inl (.inl (h2.ex _ _ (e2 _ _ x1))), by rw [enumD_len, xl]; exact Nat.le_refl _⟩
  · obtain ⟨T, u, rfl, hT, rfl, hx⟩ := y
    have hx := hx xs (.inl (.inl (h2.ex _ _ (e2 _ _ x1))))
    rw [enumD_len] at hi
    obtain ⟨v', ev, dv⟩ := dnAll_get x2 (List.getElem?_eq_getElem hi)
    rw [hx] at ev
    cases Option.some.inj ev
    obtain ⟨h5, e5⟩ := h2.pers (o := .tup [.int (i : Nat), u]) hT
    exact ⟨_, _, enumD_get (List.getElem?_eq_getElem hi), e5, h5, .tup upd_same (.cons (.int _) (.cons (dn_ex e5 _ _ (dn_ex e2 _ _ dv)) .nil))⟩
theorem iw_list {ds : List PyData} (ha : EJ X N ρ M iter (.d (.list ds)) M1) : IW X N ρ M tg iter ds M1 := by
  refine ⟨_, pi_list pe_w, fun σ H P hh g R q => ?_⟩
  refine ha σ H P hh g _ fun v H1 P1 e1 h1 r1 => ?_
  obtain ⟨t, xs, rfl, x1, x2⟩ := ri_lst r1
  have xl := dnAll_len x2
  refine ⟨t, rfl, ⟨xs, .inl (.inl (h1.ex _ _ x1))⟩, q _ H1 P1 e1 h1 ⟨fun i H P' M' hi h2 e2 _ => ?_, fun H P' M' h2 e2 _ => ?_, fun i H v H' P' M' hi h2 e2 _ y => ?_⟩⟩
  · rw [← xl] at hi
    exact ⟨xs, _, .inl (.inl (h2.ex _ _ (e2 _ _ x1))), List.getElem?_eq_getElem hi⟩
  · exact ⟨xs, .inl (.inl (h2.ex _ _ (e2 _ _ x1))), by rw [xl]; exact Nat.le_refl _⟩
  · obtain ⟨rfl, hx⟩ := y
    have hx := hx xs (.inl (.inl (h2.ex _ _ (e2 _ _ x1))))
    obtain ⟨v', ev, dv⟩ := dnAll_get x2 (List.getElem?_eq_getElem hi)
    rw [hx] at ev
    cases Option.some.inj ev
    exact ⟨P', _, List.getElem?_eq_getElem hi, Ex.refl _, h2, dn_ex e2 _ _ dv⟩
theorem iw_tup {ds : List PyData} (ha : EJ X N ρ M iter (.d (.tuple ds)) M1) : IW X N ρ M tg iter ds M1 := by
  refine ⟨_, pi_tup pe_w, fun σ H P hh g R q => ?_⟩
  refine ha σ H P hh g _ fun v H1 P1 e1 h1 r1 => ?_
  obtain ⟨t, xs, rfl, x1, x2⟩ := ri_tup r1
  have xl := dnAll_len x2
  refine ⟨t, rfl, ⟨xs, .inl (.inl (h1.ex _ _ x1))⟩, q _ H1 P1 e1 h1 ⟨fun i H P' M' hi h2 e2 _ => ?_, fun H P' M' h2 e2 _ => ?_, fun i H v H' P' M' hi h2 e2 _ y => ?_⟩⟩
  · rw [← xl] at hi
    exact ⟨xs, _, .inl (.inl (h2.ex _ _ (e2 _ _ x1))), List.getElem?_eq_getElem hi⟩
  · exact ⟨xs, .inl (.inl (h2.ex _ _ (e2 _ _ x1))), by rw [xl]; exact Nat.le_refl _⟩
  · obtain ⟨rfl, hx⟩ := y
    have hx := hx xs (.inl (.inl (h2.ex _ _ (e2 _ _ x1))))
    obtain ⟨v', ev, dv⟩ := dnAll_get x2 (List.getElem?_eq_getElem hi)
    rw [hx] at ev
    cases Option.some.inj ev
    exact ⟨P', _, List.getElem?_eq_getElem hi, Ex.refl _, h2, dn_ex e2 _ _ dv⟩
/-- a list of one's own, as long as it stays -/
theorem iw_own {p : Addr} {ds : List PyData} (ha : EJ X N ρ M iter (.v (.ref p)) M1) (hp : (p, ds.map It.d) ∈ M1) : IWQ (fun M' => (p, ds.map It.d) ∈ M') X N ρ M tg iter ds M1 := by
  refine ⟨_, pi_list pe_w, fun σ H P hh g R q => ?_⟩
  refine ha σ H P hh g _ fun v H1 P1 e1 h1 r1 => ?_
  cases (show v = .ref p from r1)
  obtain ⟨xs0, x0, _⟩ := h1.cell hp
  refine ⟨p, rfl, ⟨xs0, .inl (.inl x0)⟩, q _ H1 P1 e1 h1 ⟨fun i H P' M' hi h2 e2 hm => ?_, fun H P' M' h2 e2 hm => ?_, fun i H v H' P' M' hi h2 e2 hm y => ?_⟩⟩
  · obtain ⟨xs, x1, x2⟩ := h2.cell hm
    have xl := dnAll_len x2.to_all
    rw [← xl] at hi
    exact ⟨xs, _, .inl (.inl x1), List.getElem?_eq_getElem hi⟩
  · obtain ⟨xs, x1, x2⟩ := h2.cell hm
    have xl := dnAll_len x2.to_all
    exact ⟨xs, .inl (.inl x1), by rw [xl]; exact Nat.le_refl _⟩
  · obtain ⟨rfl, hx⟩ := y
    obtain ⟨xs, x1, x2⟩ := h2.cell hm
    have hx := hx xs (.inl (.inl x1))
    obtain ⟨v', ev, dv⟩ := dnAll_get x2.to_all (List.getElem?_eq_getElem hi)
    rw [hx] at ev
    cases Option.some.inj ev
    exact ⟨P', _, List.getElem?_eq_getElem hi, Ex.refl _, h2, dv⟩
theorem iw_zipL {p : Pos} {elts : List Expr} {kk : Nat} {tpos : Pos} {ds es : List PyData} (hm : X.mg "zip" = none) (ha : EJ X N ρ M a (.d (.list ds)) M1) (hb : EJ X N ρ M1 b (.d (.list es)) M2) (hl : ds.length = es.length) (hg : Gl X "zip" := by rfl) (hs : starEach [a, b] X.env = (false, eval a X.env) :: starEach [b] X.env := by rfl) (hs2 : starEach [b] X.env = (false, eval b X.env) :: starEach [] X.env := by rfl) (hpl : (backTo pos (starEach [b] X.env)).any (·.1) = false := by rfl) :
    IW X N ρ M (.Tuple elts kk tpos) (.Call (.Name "zip" p) [a, b] [] pos) (List.zipWith (fun x y => .tuple [x, y]) ds es) M2 := by
  refine ⟨_, pi_zip hg hm pa_w hs hpl, fun σ H P hh g R q => ?_⟩
  refine aj_cons ha (aj_cons hb aj_nil hs2) hs σ H P hh g _ fun vs H1 P1 e1 h1 r1 => ?_
  obtain ⟨x, y, rfl, r2, r3⟩ := ri2 r1
  obtain ⟨t, xs, rfl, x1, x2⟩ := ri_lst r2
  obtain ⟨u, ys, rfl, y1, y2⟩ := ri_lst r3
  have xl := dnAll_len x2
  have yl := dnAll_len y2
  have zl : (List.zipWith (fun x y => PyData.tuple [x, y]) ds es).length = ds.length := by simp; omega
  refine ⟨t, u, xs, ys, rfl, .inl (.inl (h1.ex _ _ x1)), .inl (.inl (h1.ex _ _ y1)), q _ H1 P1 e1 h1 ⟨fun i H P' M' hi h2 e2 _ => ?_, fun H P' M' h2 e2 _ => ?_, fun i H v H' P' M' hi h2 e2 _ y => ?_⟩⟩
  · rw [zl] at hi
    exact ⟨xs, ys, _, _, .inl (.inl (h2.ex _ _ (e2 _ _ x1))), .inl (.inl (h2.ex _ _ (e2 _ _ y1))), List.getElem?_eq_getElem (by omega), List.getElem?_eq_getElem (by omega)⟩
  · exact ⟨xs, ys, .inl (.inl (h2.ex _ _ (e2 _ _ x1))), .inl (.inl (h2.ex _ _ (e2 _ _ y1))), .inl (by rw [zl, xl]; exact Nat.le_refl _)⟩
  · obtain ⟨T, x, y, rfl, hT, rfl, hx, hy⟩ := y
    have hx := hx xs (.inl (.inl (h2.ex _ _ (e2 _ _ x1))))
    have hy := hy ys (.inl (.inl (h2.ex _ _ (e2 _ _ y1))))
    rw [zl] at hi
    obtain ⟨v', ev, dv⟩ := dnAll_get x2 (List.getElem?_eq_getElem hi)
    rw [hx] at ev
    cases Option.some.inj ev
    obtain ⟨w', ew, dw⟩ := dnAll_get y2 (List.getElem?_eq_getElem (show i < es.length by omega))
    rw [hy] at ew
    cases Option.some.inj ew
    obtain ⟨h5, e5⟩ := h2.pers (o := .tup [x, y]) hT
    exact ⟨_, .tuple [ds[i], es[i]], by rw [List.getElem?_zipWith, List.getElem?_eq_getElem hi, List.getElem?_eq_getElem (show i < es.length by omega)], e5, h5, .tup upd_same (.cons (dn_ex e5 _ _ (dn_ex e2 _ _ dv)) (.cons (dn_ex e5 _ _ (dn_ex e2 _ _ dw)) .nil))⟩
theorem sj_forQ {φ : Mem → Prop} {ds : List PyData} (hc : X.calm = true) (hi : IWQ φ X N ρ M tg iter ds M1) (Inv : Nat → Rho → Mem → Prop) (hφ : ∀ n ρ' M', Inv n ρ' M' → φ M') (h0 : Inv 0 ρ M1)
    (step : ∀ n d ρ' M', ds[n]? = some d → Inv n ρ' M' → ∃ ρ2, GJ X N tg (.d d) ρ' ρ2 ∧ SJ X N ρ2 M' body { nx := Inv (n + 1), ct := Inv (n + 1), bk := fun ρ' M' => SJ X N ρ' M' rest Z, rt := Z.rt, er := Z.er })
    (done : ∀ ρ' M', Inv ds.length ρ' M' → SJ X N ρ' M' rest Z) (hp : PassesOwn (model X.prog X.w) X.A X.env X.xe := by exact PassesOwn.never) (hf : ∀ x, foldedSetIterable iter X.env x = pure x := by intro _; rfl) : SJ X N ρ M (.For tg iter body [] pos :: rest) Z := sj_cons fun σ H P hh g D E tk z => by
  obtain ⟨ti, pi, hi⟩ := hi
  refine s_of (ps_for hp hc pi pg_w pss_w hf) (hi σ H P hh g _ fun J H1 P1 e1 h1 W => ?_)
  have WK : Walk J ds.length (fun H => ∃ P' M', Holds N P' H M' ∧ Ex P1 P' ∧ φ M') (fun i H x H' => ∀ P' M', Holds N P' H M' → Ex P1 P' → φ M' → ∃ P'' d, ds[i]? = some d ∧ Ex P' P'' ∧ Holds N P'' H' M' ∧ RepI P'' x (.d d)) :=
    ⟨fun i H hi ⟨P', M', a, b, c⟩ => W.go i H P' M' hi a b c, fun H ⟨P', M', a, b, c⟩ => W.stop H P' M' a b c, fun i H x H' hi _ y P' M' a b c => W.yld i H x H' P' M' hi a b c y⟩
  refine for_it WK (fun n σ' H' => ∃ ρ' M' P', Inv n ρ' M' ∧ Holds N P' H' M' ∧ Slots P' σ' ρ' ∧ Ex P1 P') ⟨ρ, M1, P1, h0, h1, g.ex e1, Ex.refl _⟩ (fun i σ' H' _ ⟨ρ', M', P', iv, a, _, b⟩ => ⟨P', M', a, b, hφ _ _ _ iv⟩) (fun n x σ' H' H2 hn hw hy => ?_) (fun σ' H' hw => ?_)
  · obtain ⟨ρ', M', P', w, h2, g2, e2⟩ := hw
    obtain ⟨P2, d, ed, e3, h3, r3⟩ := hy P' M' h2 e2 (hφ _ _ _ w)
    obtain ⟨ρ2, G, S⟩ := step n d ρ' M' ed w
    refine G x σ' H2 P2 M' h3 (g2.ex e3) r3 _ fun σ2 g3 => ?_
    refine S σ2 H2 P2 h3 g3 _ E tk ⟨fun ρ4 M4 σ4 H4 P4 a e h g => ⟨ρ4, M4, P4, a, h, g, (e2.trans e3).trans e⟩, fun i M4 v H4 P4 a e h r => z.rt i M4 v H4 P4 a ((e1.trans (e2.trans e3)).trans e) h r, fun ρ4 M4 σ4 H4 P4 a e h g => z.nx ρ4 M4 σ4 H4 P4 a ((e1.trans (e2.trans e3)).trans e) h g, fun ρ4 M4 σ4 H4 P4 a e h g => ⟨ρ4, M4, P4, a, h, g, (e2.trans e3).trans e⟩, fun w M4 d H4 P4 C c a e h x => z.er w M4 d H4 P4 C c a ((e1.trans (e2.trans e3)).trans e) h x⟩
  · obtain ⟨ρ', M', P', w, h2, g2, e2⟩ := hw
    exact z.nx ρ' M' σ' H' P' (done ρ' M' w) (e1.trans e2) h2 g2
theorem sj_forW {ds : List PyData} (hc : X.calm = true) (hi : IW X N ρ M tg iter ds M1) (Inv : Nat → Rho → Mem → Prop) (h0 : Inv 0 ρ M1)
    (step : ∀ n d ρ' M', ds[n]? = some d → Inv n ρ' M' → ∃ ρ2, GJ X N tg (.d d) ρ' ρ2 ∧ SJ X N ρ2 M' body { nx := Inv (n + 1), ct := Inv (n + 1), bk := fun ρ' M' => SJ X N ρ' M' rest Z, rt := Z.rt, er := Z.er })
    (done : ∀ ρ' M', Inv ds.length ρ' M' → SJ X N ρ' M' rest Z) (hp : PassesOwn (model X.prog X.w) X.A X.env X.xe := by exact PassesOwn.never) (hf : ∀ x, foldedSetIterable iter X.env x = pure x := by intro _; rfl) : SJ X N ρ M (.For tg iter body [] pos :: rest) Z :=
  sj_forQ hc hi Inv (fun _ _ _ _ => trivial) h0 step done hp hf
/-! ### comprehensions over any walk -/
variable {scope : Scope} {cnd elt : Expr}
/-- a target of a comprehension: from a datum to the slots -/
def TgC (N : Ent) (ρ : Rho) (vs : List Nat) (tgt : TG) (d : PyData) (ρ2 : Rho) : Prop :=
  ∀ v σ H P M, Holds N P H M → Slots P σ ρ → RepI P v (.d d) → ∀ Q : L2.St → Hp → Prop, (∀ σ2, Slots P σ2 ρ2 → wipe σ2 vs = wipe σ vs → Q σ2 H) → tgt v (wipe σ vs) H Q
theorem tgc1 (n : Nat) {d : PyData} : TgC N ρ [n] (gName n) d (ρ.set n (some (.d d))) := fun v σ H P M hh g r Q q => q _ (slots_comp g n r) (wipe_comp n)
theorem tgc2 {K : PySem.W.Frag} (n1 n2 : Nat) (ne : n1 ≠ n2) {x y : PyData} : TgC N ρ [n1, n2] (gTup K 2 (gCons (gName n1) (gCons (gName n2) gNil))) (.tuple [x, y]) ((ρ.set n1 (some (.d x))).set n2 (some (.d y))) := fun v σ H P M hh g r Q q => by
  obtain ⟨ta, ts, rfl, t1, t2⟩ := ri_tup r
  cases t2 with
  | cons k1 kr =>
    cases kr with
    | cons k2 kn =>
      cases kn
      exact ⟨ta, _, rfl, .inl (.inl (hh.ex _ _ t1)), rfl, _, _, rfl, _, _, rfl, rfl, q _ (by rw [two_set ne]; exact (g.set (it := .d x) k1 n1).set (it := .d y) k2 n2) (two_wipe ne)⟩
theorem lj_compQ {φ : Mem → Prop} {ti : TI} (vs : List Nat) (tgt : TG) {ds : List PyData} (A : Nat → List It) (Mi : Nat → Mem)
    (hi : ∀ σ H P, Holds N P H M → Slots P σ ρ → ∀ R, (∀ J H1 P1, Ex P P1 → Holds N P1 H1 M1 → WalkQ φ N P1 J ds → R J H1) → ti σ H R)
    (hφ : ∀ m c, φ (Mi m ++ [c])) (hA0 : A 0 = []) (hM0 : Mi 0 = M1) (hz : ds.length ≤ 100000)
    (step : ∀ (m : Nat) d, ds[m]? = some d → ∃ ρ2 t Mm, TgC N ρ vs tgt d ρ2 ∧ (∀ N' s H C cl fp, TJ (X.blk s H scope (compEnvC scope cl C X.env) fp) N' ρ2 (Mi m) cnd t Mm) ∧ (A m).length ≤ m ∧
      (t = true → ∃ j, A (m + 1) = A m ++ [j] ∧ ∀ N' s H C cl fp, EJ (X.blk s H scope (compEnvC scope cl C X.env) fp) N' ρ2 Mm elt j (Mi (m + 1))) ∧ (t = false → A (m + 1) = A m ∧ Mi (m + 1) = Mm))
    : LJ X N ρ M (tLc ti tgt (wBT X scope cnd) (wBE X scope elt) vs) (A ds.length) (Mi ds.length) := fun σ H P hh g Q q => by
  refine hi σ H P hh g _ fun J H1 P1 e1 h1 W D hD => ?_
  have WK : Walk J ds.length (fun H => ∃ P' M', Holds N P' H M' ∧ Ex P1 P' ∧ φ M') (fun i H x H' => i < ds.length ∧ ∀ P' M', Holds N P' H M' → Ex P1 P' → φ M' → ∃ P'' d, ds[i]? = some d ∧ Ex P' P'' ∧ Holds N P'' H' M' ∧ RepI P'' x (.d d)) :=
    ⟨fun i H hi ⟨P', M', a, b, c⟩ => W.go i H P' M' hi a b c, fun H ⟨P', M', a, b, c⟩ => W.stop H P' M' a b c, fun i H x H' hi _ y => ⟨hi, fun P' M' a b c => W.yld i H x H' P' M' hi a b c y⟩⟩
  refine lc_it WK (fun m H' => ∃ P', Holds N P' H' (Mi m ++ [(D, A m)]) ∧ Ex P1 P') ⟨P1, by rw [hA0, hM0]; exact h1.own hD (its := []) trivial, Ex.refl _⟩ (fun m H' _ ⟨P', a, b⟩ => ⟨P', _, a, b, hφ m _⟩) (fun m x' H' H2 hn hw hy => ?_) (fun H' hw => ?_)
  · obtain ⟨P', h2', e2'⟩ := hw
    obtain ⟨P2, d, ed, e3', h2, r3⟩ := hy.2 P' _ h2' e2' (hφ m _)
    have e2 := e2'.trans e3'
    obtain ⟨ρ2, t, Mm, G, T, lA, S1, S2⟩ := step m d ed
    refine G x' σ H2 P2 _ h2 (g.ex (e1.trans e2)) r3 _ fun σ2 gs hw2 => ⟨hw2, ?_⟩
    intro s H0 C cl fp
    refine T (inner P2 H2 (Mi m)) s H0 C cl fp _ H2 P2 h2.enter gs _ fun H3 P3 e3 h3 => ?_
    cases t with
    | true =>
      obtain ⟨j, eA, S⟩ := S1 rfl
      rw [if_pos rfl]
      intro s H0 C cl fp
      refine S (inner P2 H2 (Mi m)) s H0 C cl fp _ H3 P3 h3 (gs.ex e3) _ fun y H4 P4 e4 h4 r4 => ?_
      have h5 := h2.leave h4
      obtain ⟨acc, ea, ra⟩ := h5.cell (a := D) (its := A m) (List.mem_append_right _ (List.mem_singleton.mpr rfl))
      refine ⟨acc, ea, by rw [ra.len]; exact Nat.lt_of_lt_of_le (Nat.lt_of_le_of_lt lA (Nat.lt_of_lt_of_le hn hz)) (by decide), P4, ?_, (e2.trans e3).trans e4⟩
      have h6 := h5.write (a := D) (its := A m) (its' := A (m + 1)) (List.mem_append_right _ (List.mem_singleton.mpr rfl)) (xs' := acc ++ [y]) (by rw [eA]; exact ra.app ⟨r4, trivial⟩)
      rw [put_last h5.nd] at h6
      exact h6
    | false =>
      obtain ⟨eA, eM⟩ := S2 rfl
      rw [if_neg Bool.false_ne_true]
      refine ⟨P3, ?_, e2.trans e3⟩
      rw [eA, eM]
      exact h2.leave h3
  · obtain ⟨P', h2, e2⟩ := hw
    exact q D H' P' (e1.trans e2) (h1.newF hD) h2
theorem lj_compW {φ : Mem → Prop} {ti : TI} (vs : List Nat) (tgt : TG) {ds : List PyData} (A : Nat → List It) (Mi : Nat → Mem)
    (hi : ∀ σ H P, Holds N P H M → Slots P σ ρ → ∀ R, (∀ J H1 P1, Ex P P1 → Holds N P1 H1 M1 → WalkQ φ N P1 J ds → R J H1) → ti σ H R)
    (hφ : ∀ m c, φ (Mi m ++ [c])) (hA0 : A 0 = []) (hM0 : Mi 0 = M1) (hz : ds.length ≤ 100000)
    (step : ∀ (m : Nat) d, ds[m]? = some d → ∃ ρ2 j, TgC N ρ vs tgt d ρ2 ∧ A (m + 1) = A m ++ [j] ∧ (A m).length ≤ m ∧ ∀ N' s H C cl fp, EJ (X.blk s H scope (compEnvC scope cl C X.env) fp) N' ρ2 (Mi m) elt j (Mi (m + 1)))
    : LJ X N ρ M (tLc ti tgt tYes (wBE X scope elt) vs) (A ds.length) (Mi ds.length) := fun σ H P hh g Q q => by
  refine hi σ H P hh g _ fun J H1 P1 e1 h1 W D hD => ?_
  have WK : Walk J ds.length (fun H => ∃ P' M', Holds N P' H M' ∧ Ex P1 P' ∧ φ M') (fun i H x H' => i < ds.length ∧ ∀ P' M', Holds N P' H M' → Ex P1 P' → φ M' → ∃ P'' d, ds[i]? = some d ∧ Ex P' P'' ∧ Holds N P'' H' M' ∧ RepI P'' x (.d d)) :=
    ⟨fun i H hi ⟨P', M', a, b, c⟩ => W.go i H P' M' hi a b c, fun H ⟨P', M', a, b, c⟩ => W.stop H P' M' a b c, fun i H x H' hi _ y => ⟨hi, fun P' M' a b c => W.yld i H x H' P' M' hi a b c y⟩⟩
  refine lc_it WK (fun m H' => ∃ P', Holds N P' H' (Mi m ++ [(D, A m)]) ∧ Ex P1 P') ⟨P1, by rw [hA0, hM0]; exact h1.own hD (its := []) trivial, Ex.refl _⟩ (fun m H' _ ⟨P', a, b⟩ => ⟨P', _, a, b, hφ m _⟩) (fun m x' H' H2 hn hw hy => ?_) (fun H' hw => ?_)
  · obtain ⟨P', h2', e2'⟩ := hw
    obtain ⟨P2, d, ed, e3', h2, r3⟩ := hy.2 P' _ h2' e2' (hφ m _)
    have e2 := e2'.trans e3'
    obtain ⟨ρ2, j, G, eA, lA, S⟩ := step m d ed
    refine G x' σ H2 P2 _ h2 (g.ex (e1.trans e2)) r3 _ fun σ2 gs hw2 => ⟨hw2, ?_⟩
    unfold tYes
    dsimp only
    rw [if_pos rfl]
    intro s H0 C cl fp
    refine S (inner P2 H2 (Mi m)) s H0 C cl fp _ H2 P2 h2.enter gs _ fun y H4 P4 e4 h4 r4 => ?_
    have h5 := h2.leave h4
    obtain ⟨acc, ea, ra⟩ := h5.cell (a := D) (its := A m) (List.mem_append_right _ (List.mem_singleton.mpr rfl))
    refine ⟨acc, ea, by rw [ra.len]; exact Nat.lt_of_lt_of_le (Nat.lt_of_le_of_lt lA (Nat.lt_of_lt_of_le hn hz)) (by decide), P4, ?_, e2.trans e4⟩
    have h6 := h5.write (a := D) (its := A m) (its' := A (m + 1)) (List.mem_append_right _ (List.mem_singleton.mpr rfl)) (xs' := acc ++ [y]) (by rw [eA]; exact ra.app ⟨r4, trivial⟩)
    rw [put_last h5.nd] at h6
    exact h6
  · obtain ⟨P', h2, e2⟩ := hw
    exact q D H' P' (e1.trans e2) (h1.newF hD) h2
/-- [e for x in walk] -/
theorem el_compW1 {φ : Mem → Prop} {x : Str} {p : Pos} (n : Nat) {ds : List PyData} (A : Nat → List It) (Mi : Nat → Mem) (hc : X.calm = true) (hN : X.N.Nodup) (hi : IWQ φ X N ρ M (.Name x p) iter ds M1)
    (hφ : ∀ m c, φ (Mi m ++ [c])) (hA0 : A 0 = []) (hM0 : Mi 0 = M1) (hz : ds.length ≤ 100000)
    (step : ∀ (m : Nat) d, ds[m]? = some d → ∃ j, A (m + 1) = A m ++ [j] ∧ (A m).length ≤ m ∧ ∀ N' s H C cl fp, EJ (X.blk s H scope (compEnvC scope cl C X.env) fp) N' (ρ.set n (some (.d d))) (Mi m) elt j (Mi (m + 1)))
    (ok : BlkOk X.N X.env.scope scope [(x, n)] := by exact blkOk_by (by kernel_rfl))
    (hgn : ∀ (s : Shared) (H : Hp) (C : Addr) (cl : List (Str × Addr)) (fp : List Addr), PG (X.blk s H scope (compEnvC scope cl C X.env) fp) (.Name x p) (gName n) := by exact fun _ _ _ _ _ => pg_name (by assumption) rfl (Or.inl rfl))
    (hf : ∀ x, foldedSetIterable iter X.env x = pure x := by intro _; rfl) : EL X N ρ M (.ListComp elt [⟨.Name x p, iter, [], 0⟩] scope pos) (A ds.length) (Mi ds.length) := by
  obtain ⟨ti, pi, hi⟩ := hi
  exact el_lc (lj_compW [n] (gName n) A Mi hi hφ hA0 hM0 hz fun m d hd => by obtain ⟨j, a, b, c⟩ := step m d hd; exact ⟨_, j, tgc1 n, a, b, c⟩) (pe_lc hc hN pi ok hgn (fun _ _ _ _ _ => pts_nil) (te := wBE X scope elt) (fun s H C cl fp => ⟨fun pins s1 σ1 H1 Q1 I1 h1 => h1 s H C cl fp pins s1 I1⟩) hf)
/-- [e for x in walk if c] -/
theorem el_compW1F {φ : Mem → Prop} {x : Str} {p : Pos} (n : Nat) {ds : List PyData} (A : Nat → List It) (Mi : Nat → Mem) (hc : X.calm = true) (hN : X.N.Nodup) (hi : IWQ φ X N ρ M (.Name x p) iter ds M1)
    (hφ : ∀ m c, φ (Mi m ++ [c])) (hA0 : A 0 = []) (hM0 : Mi 0 = M1) (hz : ds.length ≤ 100000)
    (step : ∀ (m : Nat) d, ds[m]? = some d → ∃ t Mm, (∀ N' s H C cl fp, TJ (X.blk s H scope (compEnvC scope cl C X.env) fp) N' (ρ.set n (some (.d d))) (Mi m) cnd t Mm) ∧ (A m).length ≤ m ∧
      (t = true → ∃ j, A (m + 1) = A m ++ [j] ∧ ∀ N' s H C cl fp, EJ (X.blk s H scope (compEnvC scope cl C X.env) fp) N' (ρ.set n (some (.d d))) Mm elt j (Mi (m + 1))) ∧ (t = false → A (m + 1) = A m ∧ Mi (m + 1) = Mm))
    (ok : BlkOk X.N X.env.scope scope [(x, n)] := by exact blkOk_by (by kernel_rfl))
    (hgn : ∀ (s : Shared) (H : Hp) (C : Addr) (cl : List (Str × Addr)) (fp : List Addr), PG (X.blk s H scope (compEnvC scope cl C X.env) fp) (.Name x p) (gName n) := by exact fun _ _ _ _ _ => pg_name (by assumption) rfl (Or.inl rfl))
    (hf : ∀ x, foldedSetIterable iter X.env x = pure x := by intro _; rfl) : EL X N ρ M (.ListComp elt [⟨.Name x p, iter, [cnd], 0⟩] scope pos) (A ds.length) (Mi ds.length) := by
  obtain ⟨ti, pi, hi⟩ := hi
  exact el_lc (lj_compQ [n] (gName n) A Mi hi hφ hA0 hM0 hz fun m d hd => by obtain ⟨t, Mm, a, b, c⟩ := step m d hd; exact ⟨_, t, Mm, tgc1 n, a, b, c⟩) (pe_lc hc hN pi ok hgn (tt := wBT X scope cnd) (fun s H C cl fp => pts_one ⟨fun pins s1 σ1 H1 Q1 I1 h1 => h1 s H C cl fp pins s1 I1⟩) (te := wBE X scope elt) (fun s H C cl fp => ⟨fun pins s1 σ1 H1 Q1 I1 h1 => h1 s H C cl fp pins s1 I1⟩) hf)
/-- [e for x, y in walk] -/
theorem el_compW2 {φ : Mem → Prop} {x y : Str} {px py tp : Pos} {tk : Nat} (n1 n2 : Nat) {ds : List PyData} (A : Nat → List It) (Mi : Nat → Mem) (hc : X.calm = true) (hN : X.N.Nodup) (ne : n1 ≠ n2) (hi : IWQ φ X N ρ M (.Tuple [.Name x px, .Name y py] tk tp) iter ds M1)
    (hφ : ∀ m c, φ (Mi m ++ [c])) (hA0 : A 0 = []) (hM0 : Mi 0 = M1) (hz : ds.length ≤ 100000)
    (step : ∀ (m : Nat) d, ds[m]? = some d → ∃ u v j, d = .tuple [u, v] ∧ A (m + 1) = A m ++ [j] ∧ (A m).length ≤ m ∧ ∀ N' s H C cl fp, EJ (X.blk s H scope (compEnvC scope cl C X.env) fp) N' ((ρ.set n1 (some (.d u))).set n2 (some (.d v))) (Mi m) elt j (Mi (m + 1)))
    (ok : BlkOk X.N X.env.scope scope [(x, n1), (y, n2)] := by exact blkOk_by (by kernel_rfl))
    (hgn : ∀ (s : Shared) (H : Hp) (C : Addr) (cl : List (Str × Addr)) (fp : List Addr), PG (X.blk s H scope (compEnvC scope cl C X.env) fp) (.Tuple [.Name x px, .Name y py] tk tp) (gTup X.K 2 (gCons (gName n1) (gCons (gName n2) gNil))) := by exact fun _ _ _ _ _ => pg_tup (by rfl) (pgs_cons (pg_name (by assumption) rfl (Or.inl rfl)) (pgs_cons (pg_name (by assumption) rfl (Or.inl rfl)) pgs_nil)))
    (hf : ∀ x, foldedSetIterable iter X.env x = pure x := by intro _; rfl) : EL X N ρ M (.ListComp elt [⟨.Tuple [.Name x px, .Name y py] tk tp, iter, [], 0⟩] scope pos) (A ds.length) (Mi ds.length) := by
  obtain ⟨ti, pi, hi⟩ := hi
  exact el_lc (lj_compW [n1, n2] (gTup X.K 2 (gCons (gName n1) (gCons (gName n2) gNil))) A Mi hi hφ hA0 hM0 hz fun m d hd => by obtain ⟨u, v, j, rfl, a, b, c⟩ := step m d hd; exact ⟨_, j, tgc2 n1 n2 ne, a, b, c⟩) (pe_lc hc hN pi ok hgn (fun _ _ _ _ _ => pts_nil) (te := wBE X scope elt) (fun s H C cl fp => ⟨fun pins s1 σ1 H1 Q1 I1 h1 => h1 s H C cl fp pins s1 I1⟩) hf)
/-- [e for x, y in walk if c] -/
theorem el_compW2F {φ : Mem → Prop} {x y : Str} {px py tp : Pos} {tk : Nat} (n1 n2 : Nat) {ds : List PyData} (A : Nat → List It) (Mi : Nat → Mem) (hc : X.calm = true) (hN : X.N.Nodup) (ne : n1 ≠ n2) (hi : IWQ φ X N ρ M (.Tuple [.Name x px, .Name y py] tk tp) iter ds M1)
    (hφ : ∀ m c, φ (Mi m ++ [c])) (hA0 : A 0 = []) (hM0 : Mi 0 = M1) (hz : ds.length ≤ 100000)
    (step : ∀ (m : Nat) d, ds[m]? = some d → ∃ u v t Mm, d = .tuple [u, v] ∧ (∀ N' s H C cl fp, TJ (X.blk s H scope (compEnvC scope cl C X.env) fp) N' ((ρ.set n1 (some (.d u))).set n2 (some (.d v))) (Mi m) cnd t Mm) ∧ (A m).length ≤ m ∧
      (t = true → ∃ j, A (m + 1) = A m ++ [j] ∧ ∀ N' s H C cl fp, EJ (X.blk s H scope (compEnvC scope cl C X.env) fp) N' ((ρ.set n1 (some (.d u))).set n2 (some (.d v))) Mm elt j (Mi (m + 1))) ∧ (t = false → A (m + 1) = A m ∧ Mi (m + 1) = Mm))
    (ok : BlkOk X.N X.env.scope scope [(x, n1), (y, n2)] := by exact blkOk_by (by kernel_rfl))
    (hgn : ∀ (s : Shared) (H : Hp) (C : Addr) (cl : List (Str × Addr)) (fp : List Addr), PG (X.blk s H scope (compEnvC scope cl C X.env) fp) (.Tuple [.Name x px, .Name y py] tk tp) (gTup X.K 2 (gCons (gName n1) (gCons (gName n2) gNil))) := by exact fun _ _ _ _ _ => pg_tup (by rfl) (pgs_cons (pg_name (by assumption) rfl (Or.inl rfl)) (pgs_cons (pg_name (by assumption) rfl (Or.inl rfl)) pgs_nil)))
    (hf : ∀ x, foldedSetIterable iter X.env x = pure x := by intro _; rfl) : EL X N ρ M (.ListComp elt [⟨.Tuple [.Name x px, .Name y py] tk tp, iter, [cnd], 0⟩] scope pos) (A ds.length) (Mi ds.length) := by
  obtain ⟨ti, pi, hi⟩ := hi
  exact el_lc (lj_compQ [n1, n2] (gTup X.K 2 (gCons (gName n1) (gCons (gName n2) gNil))) A Mi hi hφ hA0 hM0 hz fun m d hd => by obtain ⟨u, v, t, Mm, rfl, a, b, c⟩ := step m d hd; exact ⟨_, t, Mm, tgc2 n1 n2 ne, a, b, c⟩) (pe_lc hc hN pi ok hgn (tt := wBT X scope cnd) (fun s H C cl fp => pts_one ⟨fun pins s1 σ1 H1 Q1 I1 h1 => h1 s H C cl fp pins s1 I1⟩) (te := wBE X scope elt) (fun s H C cl fp => ⟨fun pins s1 σ1 H1 Q1 I1 h1 => h1 s H C cl fp pins s1 I1⟩) hf)
end
end Kt

/-! Ktl: slices of what is only read, max of two. -/
namespace Kt
open PySem PySem.Spec PyProof PyProof.Rows L2
section
variable {X : Cx} {N : Ent} {ρ ρ' : Rho} {M M1 M2 M3 : Mem} {a b c e : Expr} {pos : Pos} {i j k : It} {Z : Post} {rest : List Stmt}
theorem el_slS {x0 : It} {ds : List PyData} {lo hi : Option Expr} {l h : Option Int} {tl th : TO} {p2 : Pos} (ha : EJ X N ρ M a x0 M1) (src : ∀ v P, RepI P v x0 → ∃ a xs, v = .ref a ∧ SqL X.K P a xs ∧ DnAll P xs ds) (pl : PO X lo tl) (ph : PO X hi th) (el : ∀ σ H Q, Q l H → tl σ H Q) (eh : ∀ σ H Q, Q h H → th σ H Q) :
    EL X N ρ M (.Subscript a (.Slice lo hi none p2) pos) ((cutD ds l h).map It.d) M1 := fun σ H P hh g Q q =>
  e_of (pe_slice sl_list pe_w pl ph) (ha σ H P hh g _ fun x H1 P1 e1 h1 r1 => el _ _ _ (eh _ _ _ (by
    obtain ⟨a, xs, rfl, h3, h4⟩ := src _ _ r1
    exact ⟨a, xs, rfl, exw_l h1.exw h3, fun p hp => q p _ P1 e1 (h1.newF hp) (h1.own hp (RepIs.of_all (h4.cut l h)))⟩)))
theorem ej_max2 {p q : Pos} {n m : Int} (hc : X.calm = true) (hm : X.mg "max" = none) (ha : EJ X N ρ M a (dI n) M1) (hb : EJ X N ρ M1 b (dI m) M2) (hg : Gl X "max" := by rfl) (he : starEach [a, b] X.env = (false, eval a X.env) :: starEach [b] X.env := by rfl) (he2 : starEach [b] X.env = (false, eval b X.env) :: starEach [] X.env := by rfl) (hpl : (backTo q (starEach [b] X.env)).any (·.1) = false := by rfl) :
    EJ X N ρ M (.Call (.Name "max" p) [a, b] [] q) (dI (if m > n then m else n)) M2 := ej_callB (call_max2 hc) hm (by decide +kernel) (aj_cons ha (aj_cons hb aj_nil he2) he) (fun vs H P h rr Q k => by
  obtain ⟨x, y, rfl, r1, r2⟩ := ri2 rr
  cases ri_int r1
  cases ri_int r2
  exact ⟨n, m, rfl, k _ H P (Ex.refl P) h (.int _)⟩) hg (by decide) (by decide) he hpl
theorem ri3 {P : Hp} {vs : List V} {i j k : It} (h : RepIs P vs [i, j, k]) : ∃ x y z, vs = [x, y, z] ∧ RepI P x i ∧ RepI P y j ∧ RepI P z k := by
  match vs, h with
  | [x, y, z], ⟨a, b, c, _⟩ => exact ⟨x, y, z, rfl, a, b, c⟩
/-- x, y, z = a, b, c: three different local names -/
theorem sj_par3 (n1 n2 n3 : Nat) {x y z : Str} {px py pz pt pt2 : Pos} {kt k2 : Nat} (hc : X.calm = true) (hN : X.N.Nodup) (ne : n1 ≠ n2) (ne2 : n1 ≠ n3) (ne3 : n2 ≠ n3) (ha : EJ X N ρ M a i M1) (hb : EJ X N ρ M1 b j M2) (hd : EJ X N ρ M2 c k M3) (hr : SJ X N (((ρ.set n1 (some i)).set n2 (some j)).set n3 (some k)) M3 rest Z)
    (hi : X.N[n1]? = some x := by rfl) (hj : X.N[n2]? = some y := by rfl) (hl : X.N[n3]? = some z := by rfl) (hx : X.env.scope.names.lookup x = some .local := by rfl) (hy : X.env.scope.names.lookup y = some .local := by rfl) (hz : X.env.scope.names.lookup z = some .local := by rfl)
    (hw : swappedStores [.Tuple [.Name x px, .Name y py, .Name z pz] kt pt] (.Tuple [a, b, c] k2 pt2) X.env = pure (some [x, y, z]) := by rfl) (hs : swapsWithSole [.Tuple [.Name x px, .Name y py, .Name z pz] kt pt] (.Tuple [a, b, c] k2 pt2) pos.line X.env = pure false := by rfl)
    (he : starEach [a, b, c] X.env = (false, eval a X.env) :: starEach [b, c] X.env := by rfl) (he2 : starEach [b, c] X.env = (false, eval b X.env) :: starEach [c] X.env := by rfl) (he3 : starEach [c] X.env = (false, eval c X.env) :: starEach [] X.env := by rfl) :
    SJ X N ρ M (.Assign [.Tuple [.Name x px, .Name y py, .Name z pz] kt pt] (.Tuple [a, b, c] k2 pt2) pos :: rest) Z := sj_cons fun σ H P hh g D E tk zz =>
  s_of (ps_par3 (i := n1) (j := n2) (l := n3) hc hN hi hj hl ne ne2 ne3 hx hy hz pa_w hw hs) (aj_cons ha (aj_cons hb (aj_cons hd aj_nil he3) he2) he σ H P hh g _ fun vs H1 P1 e1 h1 r1 => by
    obtain ⟨v, w, u, rfl, r2, r3, r4⟩ := ri3 r1
    exact ⟨v, w, u, rfl, zz.nx _ _ _ _ P1 hr e1 h1 ((((g.ex e1).set r2 n1).set r3 n2).set r4 n3)⟩)
/-! int of a bool, powers, in -/
theorem ej_intb {p q : Pos} {n : Bool} (hm : X.mg "int" = none) (ha : EJ X N ρ M a (dB n) M1) (hg : Gl X "int" := by rfl) (he : starEach [a] X.env = [(false, eval a X.env)] := by rfl) (hpl : (backTo q (starEach ([] : List Expr) X.env)).any (·.1) = false := by rfl) :
    EJ X N ρ M (.Call (.Name "int" p) [a] [] q) (dI (if n then 1 else 0)) M1 := ej_callTy call_int1 hm (by decide +kernel) (aj_cons ha aj_nil he) (fun vs H P h rr Q k => by
  obtain ⟨x, rfl, r⟩ := ri1 rr
  cases ri_bl r
  exact .inr ⟨n, rfl, k _ H P (Ex.refl P) h (.int _)⟩) hg (by decide) (by decide) he hpl
theorem ej_pow {n m : Int} (ha : EJ X N ρ M a (dI n) M1) (hb : EJ X N ρ M1 b (dI m) M2) (hc : CPow n m) : EJ X N ρ M (.BinOp a .Pow b pos) (dI (n ^ m.toNat)) M2 := ej_op op_pow ha hb (rj_I hc)
def inI (n : Int) (ns : List Int) : Bool := ns.any fun m => decide (n = m)
theorem inV_int (n : Int) : ∀ ns : List Int, inV (.int n) (ns.map V.int) = inI n ns := by
  intro ns
  induction ns with
  | nil => rfl
  | cons m ms ih =>
    unfold inV inI at ih ⊢
    rw [List.map_cons, List.any_cons, List.any_cons, ih]
    congr 1
    show eqV (.int m) (.int n) = decide (n = m)
    unfold eqV
    by_cases h : n = m
    · subst h
      simp
    · have h' : ¬ m = n := fun e => h e.symm
      simp [h, h']
theorem flat_ints : ∀ ns : List Int, (ns.map V.int).all flatV = true := by
  intro ns
  rw [List.all_eq_true]
  intro x hx
  obtain ⟨m, _, rfl⟩ := List.mem_map.mp hx
  rfl
theorem tj_inI {n : Int} {ns : List Int} (ha : EJ X N ρ M a (dI n) M1) (hb : EJ X N ρ M1 b (.d (.list (ns.map .int))) M2) (hm : behindInMarks .In b = false := by rfl) : TJ X N ρ M (.Compare a [.In] [b] pos) (inI n ns) M2 := tj_cmp op_in_seq hm ha hb fun x y H P h rx ry Q q => by
  cases ri_int rx
  obtain ⟨p, xs, rfl, h1, h2⟩ := ri_lst ry
  have e := DnAll.ints h2
  subst e
  refine ⟨p, _, rfl, .inl (.inl (.inl (h.ex _ _ h1))), rfl, flat_ints ns, ?_⟩
  rw [if_neg (by decide), inV_int]
  exact q _ H P (Ex.refl P) h (.bl _)
theorem ej_ninI {n : Int} {ns : List Int} (ha : EJ X N ρ M a (dI n) M1) (hb : EJ X N ρ M1 b (.d (.list (ns.map .int))) M2) (hm : behindInMarks .NotIn b = false := by rfl) : EJ X N ρ M (.Compare a [.NotIn] [b] pos) (dB (!inI n ns)) M2 := ej_cmp op_notIn_seq hm ha hb fun x y H P h rx ry Q q => by
  cases ri_int rx
  obtain ⟨p, xs, rfl, h1, h2⟩ := ri_lst ry
  have e := DnAll.ints h2
  subst e
  refine ⟨p, _, rfl, .inl (.inl (.inl (h.ex _ _ h1))), rfl, flat_ints ns, ?_⟩
  rw [if_pos rfl, inV_int]
  exact q _ H P (Ex.refl P) h (.bl _)
/-! is None -/
theorem tj_isN {d : PyData} (ha : EJ X N ρ M a (.d d) M1) (hb : EJ X N ρ M1 b (.d .none) M2) : TJ X N ρ M (.Compare a [.Is] [b] pos) (decide (tyD d = "NoneType")) M2 := tj_cmp op_isN (nomark _) ha hb fun x y H P h rx ry Q q => by
  cases ri_non ry
  refine ⟨rfl, ?_⟩
  have e : decide (x = V.non) = decide (tyD d = "NoneType") := by
    cases (show Dn P x d from rx) <;> rfl
  rw [e]
  exact q _ H P (Ex.refl P) h (.bl _)
theorem tj_notNo {d : PyData} (ha : EJ X N ρ M a (.d d) M1) (hb : EJ X N ρ M1 b (.d .none) M2) : TJ X N ρ M (.Compare a [.IsNot] [b] pos) (!decide (tyD d = "NoneType")) M2 := tj_cmp op_notN (nomark _) ha hb fun x y H P h rx ry Q q => by
  cases ri_non ry
  refine ⟨rfl, ?_⟩
  have e : decide (x = V.non) = decide (tyD d = "NoneType") := by
    cases (show Dn P x d from rx) <;> rfl
  rw [e]
  exact q _ H P (Ex.refl P) h (.bl _)
end
section
variable {X : Cx} {N : Ent} {M' : Mem} {Cs C0 fI a dd : Addr} {fd : FuncData} {sI : Stmt} {oe : Obj} {pn : List (Addr × Obj)} {pos : Pos} {rest : List Stmt}
/-- return e.name if isinstance(e, base) else '..' -/
theorem suite_ifName (n : Nat) {nm b0 z w : Str} {p1 p2 p3 p5 p6 p7 p8 pD : Pos} {j : Nat} {rt : It → Mem → Prop} (T : ErrTxt X.K X.mg sI Cs C0 fI fd) (I0 : IsTxt X.K Cs C0) (hmi : X.mg "isinstance" = none) (h : rt (.d (.str z)) M') (hi : X.N[n]? = some nm := by rfl)
    (hb0 : X.mg b0 = some (.ref C0)) (hg0 : Gl X b0 := by rfl) (hgi : Gl X "isinstance" := by rfl) (hd0 : (b0 == ("__debug__" : Str)) = false := by decide)
    (hv : Vis X.env.scope nm := by exact Or.inl rfl) (hd : (nm == ("__debug__" : Str)) = false := by decide) (hcd : (nm == ("__classdict__" : Str)) = false := by decide)
    (hb : attributeBase (.Name nm p1) "name" X.env (eval (.Name nm p1) X.env) = eval (.Name nm p1) X.env := by rfl)
    (hs1 : starEach [.Name nm p6, .Name b0 p7] X.env = (false, eval (.Name nm p6) X.env) :: starEach [.Name b0 p7] X.env := by rfl) (hs2 : starEach [.Name b0 p7] X.env = [(false, eval (.Name b0 p7) X.env)] := by rfl) (hpl1 : (backTo p8 (starEach [.Name b0 p7] X.env)).any (·.1) = false := by rfl) :
    SuiteOk X N n Cs (.Return (some (.IfExp (.Call (.Name "isinstance" p5) [.Name nm p6, .Name b0 p7] [] p8) (.Attribute (.Name nm p1) "name" p2) (.Constant (.str w) j p3) pD)) pos :: rest) z M' rt := fun a dd P' H' σ' oe pn D hh x ha hl hz hf k => by
  have l : n < X.N.length := (List.getElem?_eq_some_iff.mp hi).1
  have sv : (σ'.set n (some (.ref a)))[n]? = some (some (.ref a)) := List.getElem?_set_self (by omega)
  have CI := call_isD (X := X) (pn := pn) (a := a) T I0 hz hf
  have PV : ∀ q : Pos, PE (X.suite a ((a, oe) :: pn)) (.Name nm q) _ := fun q => pe_var (i := n) hi hv hd hcd
  refine ss_of (pss_cons (ps_ret (pe_ifExp (pt_val (pe_callB CI hgi hmi boot_isinstance (pa_cons (PV p6) (pa_cons (pe_glob hg0 hb0 (v := .ref C0) rfl hd0) pa_nil hs2) hs1) (by decide) (by decide) hs1 hpl1) (by intro _; rfl)) (pe_ename T hz hf (PV p1) hb) pe_str)) pss_w) ?_
  refine ⟨.ref a, sv, .ref C0, .ref C0, true, z, rfl, fun u hu => hu, I0.k0, x, true, rfl, iteT ?_⟩
  refine ⟨.ref a, sv, rfl, rfl, dd, .str z, rfl, x, ?_⟩
  exact k (.d (.str z)) M' _ H' P' h (Ex.refl _) hh (.str z)
end
end Kt

/-! Ktm: chains, tuple slices with reckoned bounds, names set to comprehensions over walks. -/
namespace Kt
open PySem PySem.Spec PyProof PyProof.Rows L2
section
variable {X : Cx} {N : Ent} {ρ ρ' : Rho} {M M1 M2 M3 : Mem} {a b c e iter : Expr} {pos : Pos} {i j k : It} {Z : Post} {rest : List Stmt} {scope : Scope} {cnd elt : Expr}
theorem ej_chainLt {n m l : Int} (ha : EJ X N ρ M a (dI n) M) (hb : EJ X N ρ M b (dI m) M) (hc : EJ X N ρ M c (dI l) M) (hm : lastMarks [.LtE, .Lt] [b, c] = false := by with_unfolding_all rfl) : EJ X N ρ M (.Compare a [.LtE, .Lt] [b, c] pos) (dB (decide (n ≤ m) && decide (m < l))) M := fun σ H P h g Q q =>
  e_of (pe_chain op_le op_lt pe_w pe_w pe_w hm) (ha σ H P h g _ fun x H1 P1 e1 h1 r1 => hb σ H1 P1 h1 (g.ex e1) _ fun y H2 P2 e2 h2 r2 => ⟨n, m, ri_int r1, ri_int r2, decide (n ≤ m), rfl, by
    cases z : decide (n ≤ m) with
    | false => exact iteF (q _ H2 P2 (e1.trans e2) h2 (by rw [z]; exact .bl _))
    | true => exact iteT (hc σ H2 P2 h2 (g.ex (e1.trans e2)) _ fun w H3 P3 e3 h3 r3 => ⟨m, l, ri_int r2, ri_int r3, q _ H3 P3 ((e1.trans e2).trans e3) h3 (by rw [z]; exact .bl _)⟩)⟩)
theorem tj_chainLt {n m l : Int} (ha : EJ X N ρ M a (dI n) M) (hb : EJ X N ρ M b (dI m) M) (hc : EJ X N ρ M c (dI l) M) (hm : lastMarks [.LtE, .Lt] [b, c] = false := by with_unfolding_all rfl) : TJ X N ρ M (.Compare a [.LtE, .Lt] [b, c] pos) (decide (n ≤ m) && decide (m < l)) M := fun σ H P h g Q q =>
  t_of (pt_chain op_le op_lt pe_w pe_w pe_w hm) (ha σ H P h g _ fun x H1 P1 e1 h1 r1 => hb σ H1 P1 h1 (g.ex e1) _ fun y H2 P2 e2 h2 r2 => ⟨n, m, ri_int r1, ri_int r2, decide (n ≤ m), rfl, by
    cases z : decide (n ≤ m) with
    | false => exact iteF ⟨false, rfl, by rw [z] at q; exact q H2 P2 (e1.trans e2) h2⟩
    | true => exact iteT (hc σ H2 P2 h2 (g.ex (e1.trans e2)) _ fun w H3 P3 e3 h3 r3 => ⟨m, l, ri_int r2, ri_int r3, _, rfl, by rw [z, Bool.true_and] at q; exact q H3 P3 ((e1.trans e2).trans e3) h3⟩)⟩)
theorem ej_slTto {ds : List PyData} {hi : Expr} {h : Int} {p2 : Pos} (ha : EJ X N ρ M a (.d (.tuple ds)) M1) (hh : EJ X N ρ M1 hi (dI h) M2) :
    EJ X N ρ M (.Subscript a (.Slice none (some hi) none p2) pos) (.d (.tuple (cutD ds none (some h)))) M2 := fun σ H P hd g Q q => by
  refine e_of (pe_slice sl_tupA pe_w po_none (po_some pe_w)) (ha σ H P hd g _ fun x H1 P1 e1 h1 r1 => ?_)
  refine hh σ H1 P1 h1 (g.ex e1) _ fun v2 H2 P2 e2 h2 r2 => ⟨h, ri_int r2, ?_⟩
  obtain ⟨a, xs, rfl, h3, h4⟩ := ri_tup (r1.ex e2)
  have l1 := dnAll_len h4
  refine ⟨a, xs, rfl, .inl (.inl (h2.ex _ _ h3)), fun hw => ?_, fun _ p hp => ?_⟩
  · rw [l1] at hw
    have e : cutD ds none (some h) = ds := by
      unfold cutD
      rw [hw.1, hw.2, List.drop_zero, Nat.sub_zero, List.take_length]
    rw [e] at q
    exact q _ H2 P2 (e1.trans e2) h2 (.tup h3 h4)
  · obtain ⟨h5, e5⟩ := h2.pers (o := .tup (cutV xs none (some h))) hp
    exact q _ _ _ ((e1.trans e2).trans e5) h5 (.tup upd_same (dnAll_ex e5 _ _ (h4.cut none (some h))))
theorem ej_slTfrom {ds : List PyData} {lo : Expr} {h : Int} {p2 : Pos} (ha : EJ X N ρ M a (.d (.tuple ds)) M1) (hh : EJ X N ρ M1 lo (dI h) M2) :
    EJ X N ρ M (.Subscript a (.Slice (some lo) none none p2) pos) (.d (.tuple (cutD ds (some h) none))) M2 := fun σ H P hd g Q q => by
  refine e_of (pe_slice sl_tupA pe_w (po_some pe_w) po_none) (ha σ H P hd g _ fun x H1 P1 e1 h1 r1 => ?_)
  refine hh σ H1 P1 h1 (g.ex e1) _ fun v2 H2 P2 e2 h2 r2 => ⟨h, ri_int r2, ?_⟩
  obtain ⟨a, xs, rfl, h3, h4⟩ := ri_tup (r1.ex e2)
  have l1 := dnAll_len h4
  refine ⟨a, xs, rfl, .inl (.inl (h2.ex _ _ h3)), fun hw => ?_, fun _ p hp => ?_⟩
  · rw [l1] at hw
    have e : cutD ds (some h) none = ds := by
      unfold cutD
      rw [hw.1, hw.2, List.drop_zero, Nat.sub_zero, List.take_length]
    rw [e] at q
    exact q _ H2 P2 (e1.trans e2) h2 (.tup h3 h4)
  · obtain ⟨h5, e5⟩ := h2.pers (o := .tup (cutV xs (some h) none)) hp
    exact q _ _ _ ((e1.trans e2).trans e5) h5 (.tup upd_same (dnAll_ex e5 _ _ (h4.cut (some h) none)))
/-- y = [e for x, y in walk] -/
theorem sj_setW2 {φ : Mem → Prop} (n' : Nat) {nm : Str} {py spos : Pos} {x y : Str} {px p2 tp : Pos} {tk : Nat} (n1 n2 : Nat) {ds : List PyData} (A : Nat → List It) (Mi : Nat → Mem) (hc : X.calm = true) (hN : X.N.Nodup) (ne : n1 ≠ n2) (hi : IWQ φ X N ρ M (.Tuple [.Name x px, .Name y p2] tk tp) iter ds M1)
    (hφ : ∀ m c, φ (Mi m ++ [c])) (hA0 : A 0 = []) (hM0 : Mi 0 = M1) (hz : ds.length ≤ 100000)
    (step : ∀ (m : Nat) d, ds[m]? = some d → ∃ u v j, d = .tuple [u, v] ∧ A (m + 1) = A m ++ [j] ∧ (A m).length ≤ m ∧ ∀ N' s H C cl fp, EJ (X.blk s H scope (compEnvC scope cl C X.env) fp) N' ((ρ.set n1 (some (.d u))).set n2 (some (.d v))) (Mi m) elt j (Mi (m + 1)))
    (hr : ∀ p, p ∉ N.F → SJ X N (ρ.set n' (some (.v (.ref p)))) (Mi ds.length ++ [(p, A ds.length)]) rest Z)
    (hy : X.N[n']? = some nm := by rfl) (hyl : X.env.scope.names.lookup nm = some .local := by rfl)
    (hsw : swapsWith (.ListComp elt [⟨.Tuple [.Name x px, .Name y p2] tk tp, iter, [], 0⟩] scope pos) (some (.Name nm py)) spos.line X.env = pure true := by exact sw_true rfl rfl rfl (by kernel_rfl))
    (ok : BlkOk X.N X.env.scope scope [(x, n1), (y, n2)] := by exact blkOk_by (by kernel_rfl))
    (hgn : ∀ (s : Shared) (H : Hp) (C : Addr) (cl : List (Str × Addr)) (fp : List Addr), PG (X.blk s H scope (compEnvC scope cl C X.env) fp) (.Tuple [.Name x px, .Name y p2] tk tp) (gTup X.K 2 (gCons (gName n1) (gCons (gName n2) gNil))) := by exact fun _ _ _ _ _ => pg_tup (by rfl) (pgs_cons (pg_name (by assumption) rfl (Or.inl rfl)) (pgs_cons (pg_name (by assumption) rfl (Or.inl rfl)) pgs_nil)))
    (hf : ∀ x, foldedSetIterable iter X.env x = pure x := by intro _; rfl) : SJ X N ρ M (.Assign [.Name nm py] (.ListComp elt [⟨.Tuple [.Name x px, .Name y p2] tk tp, iter, [], 0⟩] scope pos) spos :: rest) Z := by
  obtain ⟨ti, pi, hi⟩ := hi
  exact sj_lc n' (lj_compW [n1, n2] (gTup X.K 2 (gCons (gName n1) (gCons (gName n2) gNil))) A Mi hi hφ hA0 hM0 hz fun m d hd => by obtain ⟨u, v, j, rfl, a, b, c⟩ := step m d hd; exact ⟨_, j, tgc2 n1 n2 ne, a, b, c⟩) (ps_setLc (i := n') (y := nm) (py := py) (spos := spos) hc hN hy hyl hsw pi ok hgn (fun _ _ _ _ _ => pts_nil) (te := wBE X scope elt) (fun s H C cl fp => ⟨fun pins s1 σ1 H1 Q1 I1 h1 => h1 s H C cl fp pins s1 I1⟩) hf) hr
end
end Kt

/-! Ktn: zip of unlike lengths, of tuples; targets of four names; orders of tuples; great divisors. -/
namespace Kt
open PySem PySem.Spec PyProof PyProof.Rows L2
section
variable {X : Cx} {N : Ent} {ρ ρ' : Rho} {M M1 M2 M3 : Mem} {a b c e iter : Expr} {pos : Pos} {i j k : It} {Z : Post} {rest : List Stmt} {scope : Scope} {cnd elt : Expr}
theorem ej_fdivW {n m : Int} (ha : EJ X N ρ M a (dI n) M1) (hb : EJ X N ρ M1 b (dI m) M2) (hc : 0 < m ∧ m.natAbs.log2 < 9000) : EJ X N ρ M (.BinOp a .FloorDiv b pos) (dI (n / m)) M2 := ej_op op_fdivW ha hb (rj_I hc)
theorem ej_geV {n m : Int} (ha : EJ X N ρ M a (dI n) M1) (hb : EJ X N ρ M1 b (dI m) M2) : EJ X N ρ M (.Compare a [.GtE] [b] pos) (dB (decide (m ≤ n))) M2 := ej_cmp op_ge (nomark _) ha hb rj_B0
theorem ej_ltV {n m : Int} (ha : EJ X N ρ M a (dI n) M1) (hb : EJ X N ρ M1 b (dI m) M2) : EJ X N ρ M (.Compare a [.Lt] [b] pos) (dB (decide (n < m))) M2 := ej_cmp op_lt (nomark _) ha hb rj_B0
theorem ej_ltT {ns ms : List Int} (hu : X.A.units < cLine) (ha : EJ X N ρ M a (.d (.tuple (ns.map .int))) M1) (hb : EJ X N ρ M1 b (.d (.tuple (ms.map .int))) M2) : EJ X N ρ M (.Compare a [.Lt] [b] pos) (dB (HT.lexLt ns ms)) M2 := ej_cmp (op_ltT hu) (nomark _) ha hb fun x y H P h rx ry Q q => by
  obtain ⟨p, xs, rfl, h1, h2⟩ := ri_tup rx
  obtain ⟨p', ys, rfl, h3, h4⟩ := ri_tup ry
  have e := DnAll.ints h2
  subst e
  have e := DnAll.ints h4
  subst e
  exact ⟨p, p', ns, ms, rfl, rfl, .inl (.inl (h.ex _ _ h1)), .inl (.inl (h.ex _ _ h3)), q _ H P (Ex.refl P) h (.bl _)⟩
theorem iw_zipL' {p : Pos} {elts : List Expr} {kk : Nat} {tpos : Pos} {ds es : List PyData} (hm : X.mg "zip" = none) (ha : EJ X N ρ M a (.d (.list ds)) M1) (hb : EJ X N ρ M1 b (.d (.list es)) M2) (hg : Gl X "zip" := by rfl) (hs : starEach [a, b] X.env = (false, eval a X.env) :: starEach [b] X.env := by rfl) (hs2 : starEach [b] X.env = (false, eval b X.env) :: starEach [] X.env := by rfl) (hpl : (backTo pos (starEach [b] X.env)).any (·.1) = false := by rfl) :
    IW X N ρ M (.Tuple elts kk tpos) (.Call (.Name "zip" p) [a, b] [] pos) (List.zipWith (fun x y => .tuple [x, y]) ds es) M2 := by
  refine ⟨_, pi_zip hg hm pa_w hs hpl, fun σ H P hh g R q => ?_⟩
  refine aj_cons ha (aj_cons hb aj_nil hs2) hs σ H P hh g _ fun vs H1 P1 e1 h1 r1 => ?_
  obtain ⟨x, y, rfl, r2, r3⟩ := ri2 r1
  obtain ⟨t, xs, rfl, x1, x2⟩ := ri_lst r2
  obtain ⟨u, ys, rfl, y1, y2⟩ := ri_lst r3
  have xl := dnAll_len x2
  have yl := dnAll_len y2
  have zl : (List.zipWith (fun x y => PyData.tuple [x, y]) ds es).length = min ds.length es.length := by simp
  refine ⟨t, u, xs, ys, rfl, .inl (.inl (h1.ex _ _ x1)), .inl (.inl (h1.ex _ _ y1)), q _ H1 P1 e1 h1 ⟨fun i H P' M' hi h2 e2 _ => ?_, fun H P' M' h2 e2 _ => ?_, fun i H v H' P' M' hi h2 e2 _ y => ?_⟩⟩
  · rw [zl] at hi
    exact ⟨xs, ys, _, _, .inl (.inl (h2.ex _ _ (e2 _ _ x1))), .inl (.inl (h2.ex _ _ (e2 _ _ y1))), List.getElem?_eq_getElem (by omega), List.getElem?_eq_getElem (by omega)⟩
  · exact ⟨xs, ys, .inl (.inl (h2.ex _ _ (e2 _ _ x1))), .inl (.inl (h2.ex _ _ (e2 _ _ y1))), by omega⟩
  · obtain ⟨T, x, y, rfl, hT, rfl, hx, hy⟩ := y
    have hx := hx xs (.inl (.inl (h2.ex _ _ (e2 _ _ x1))))
    have hy := hy ys (.inl (.inl (h2.ex _ _ (e2 _ _ y1))))
    rw [zl] at hi
    have i1 : i < ds.length := by omega
    have i2 : i < es.length := by omega
    obtain ⟨v', ev, dv⟩ := dnAll_get x2 (List.getElem?_eq_getElem i1)
    rw [hx] at ev
    cases Option.some.inj ev
    obtain ⟨w', ew, dw⟩ := dnAll_get y2 (List.getElem?_eq_getElem i2)
    rw [hy] at ew
    cases Option.some.inj ew
    obtain ⟨h5, e5⟩ := h2.pers (o := .tup [x, y]) hT
    exact ⟨_, .tuple [ds[i], es[i]], by rw [List.getElem?_zipWith, List.getElem?_eq_getElem i1, List.getElem?_eq_getElem i2], e5, h5, .tup upd_same (.cons (dn_ex e5 _ _ (dn_ex e2 _ _ dv)) (.cons (dn_ex e5 _ _ (dn_ex e2 _ _ dw)) .nil))⟩
theorem iw_zipT' {p : Pos} {elts : List Expr} {kk : Nat} {tpos : Pos} {ds es : List PyData} (hm : X.mg "zip" = none) (ha : EJ X N ρ M a (.d (.tuple ds)) M1) (hb : EJ X N ρ M1 b (.d (.tuple es)) M2) (hg : Gl X "zip" := by rfl) (hs : starEach [a, b] X.env = (false, eval a X.env) :: starEach [b] X.env := by rfl) (hs2 : starEach [b] X.env = (false, eval b X.env) :: starEach [] X.env := by rfl) (hpl : (backTo pos (starEach [b] X.env)).any (·.1) = false := by rfl) :
    IW X N ρ M (.Tuple elts kk tpos) (.Call (.Name "zip" p) [a, b] [] pos) (List.zipWith (fun x y => .tuple [x, y]) ds es) M2 := by
  refine ⟨_, RZ.pi_zipA hg hm pa_w hs hpl, fun σ H P hh g R q => ?_⟩
  refine aj_cons ha (aj_cons hb aj_nil hs2) hs σ H P hh g _ fun vs H1 P1 e1 h1 r1 => ?_
  obtain ⟨x, y, rfl, r2, r3⟩ := ri2 r1
  obtain ⟨t, xs, rfl, x1, x2⟩ := ri_tup r2
  obtain ⟨u, ys, rfl, y1, y2⟩ := ri_tup r3
  have xl := dnAll_len x2
  have yl := dnAll_len y2
  have zl : (List.zipWith (fun x y => PyData.tuple [x, y]) ds es).length = min ds.length es.length := by simp
  refine ⟨t, u, xs, ys, rfl, .inr ⟨.inl (.inl (h1.ex _ _ x1)), .inl (.inl (h1.ex _ _ y1)), q _ H1 P1 e1 h1 ⟨fun i H P' M' hi h2 e2 _ => ?_, fun H P' M' h2 e2 _ => ?_, fun i H v H' P' M' hi h2 e2 _ y => ?_⟩⟩⟩
  · rw [zl] at hi
    exact ⟨xs, ys, _, _, .inl (.inl (h2.ex _ _ (e2 _ _ x1))), .inl (.inl (h2.ex _ _ (e2 _ _ y1))), List.getElem?_eq_getElem (by omega), List.getElem?_eq_getElem (by omega)⟩
  · exact ⟨xs, ys, .inl (.inl (h2.ex _ _ (e2 _ _ x1))), .inl (.inl (h2.ex _ _ (e2 _ _ y1))), by omega⟩
  · obtain ⟨T, x, y, rfl, hT, rfl, hx, hy⟩ := y
    have hx := hx xs (.inl (.inl (h2.ex _ _ (e2 _ _ x1))))
    have hy := hy ys (.inl (.inl (h2.ex _ _ (e2 _ _ y1))))
    rw [zl] at hi
    have i1 : i < ds.length := by omega
    have i2 : i < es.length := by omega
    obtain ⟨v', ev, dv⟩ := dnAll_get x2 (List.getElem?_eq_getElem i1)
    rw [hx] at ev
    cases Option.some.inj ev
    obtain ⟨w', ew, dw⟩ := dnAll_get y2 (List.getElem?_eq_getElem i2)
    rw [hy] at ew
    cases Option.some.inj ew
    obtain ⟨h5, e5⟩ := h2.pers (o := .tup [x, y]) hT
    exact ⟨_, .tuple [ds[i], es[i]], by rw [List.getElem?_zipWith, List.getElem?_eq_getElem i1, List.getElem?_eq_getElem i2], e5, h5, .tup upd_same (.cons (dn_ex e5 _ _ (dn_ex e2 _ _ dv)) (.cons (dn_ex e5 _ _ (dn_ex e2 _ _ dw)) .nil))⟩
theorem four_set {σ : L2.St} {n1 n2 n3 : Nat} {v1 v2 v3 v4 : V} (ne : n1 ≠ n2) (ne2 : n1 ≠ n3) (ne3 : n2 ≠ n3) : ((((wipe σ [n1, n2, n3]).set n1 (some v1)).set n2 (some v2)).set n3 (some v3)).set n2 (some v4) = ((σ.set n1 (some v1)).set n3 (some v3)).set n2 (some v4) := by
  show (((((((σ.set n3 none).set n2 none).set n1 none).set n1 (some v1)).set n2 (some v2)).set n3 (some v3)).set n2 (some v4)) = _
  refine List.ext_getElem? fun i => ?_
  simp only [List.getElem?_set, List.length_set]
  repeat' split
  all_goals first | rfl | omega | simp_all
theorem four_wipe {σ : L2.St} {n1 n2 n3 : Nat} {v1 v2 v3 v4 : V} (ne : n1 ≠ n2) (ne2 : n1 ≠ n3) (ne3 : n2 ≠ n3) : wipe (((((wipe σ [n1, n2, n3]).set n1 (some v1)).set n2 (some v2)).set n3 (some v3)).set n2 (some v4)) [n1, n2, n3] = wipe σ [n1, n2, n3] := by
  show (((((((((σ.set n3 none).set n2 none).set n1 none).set n1 (some v1)).set n2 (some v2)).set n3 (some v3)).set n2 (some v4)).set n3 none).set n2 none).set n1 none = ((σ.set n3 none).set n2 none).set n1 none
  refine List.ext_getElem? fun i => ?_
  simp only [List.getElem?_set, List.length_set]
  repeat' split
  all_goals first | rfl | omega | simp_all
/-- x, _, y, _ -/
theorem tgc4 {K : PySem.W.Frag} (n1 n2 n3 : Nat) (ne : n1 ≠ n2) (ne2 : n1 ≠ n3) (ne3 : n2 ≠ n3) {x y z w : PyData} : TgC N ρ [n1, n2, n3] (gTup K 4 (gCons (gName n1) (gCons (gName n2) (gCons (gName n3) (gCons (gName n2) gNil))))) (.tuple [x, y, z, w]) (((ρ.set n1 (some (.d x))).set n3 (some (.d z))).set n2 (some (.d w))) := fun v σ H P M hh g r Q q => by
  obtain ⟨ta, ts, rfl, t1, t2⟩ := ri_tup r
  cases t2 with
  | cons k1 t2 =>
    cases t2 with
    | cons k2 t2 =>
      cases t2 with
      | cons k3 t2 =>
        cases t2 with
        | cons k4 t2 =>
          cases t2
          exact ⟨ta, _, rfl, .inl (.inl (hh.ex _ _ t1)), rfl, _, _, rfl, _, _, rfl, _, _, rfl, _, _, rfl, rfl, q _ (by rw [four_set ne ne2 ne3]; exact ((g.set (it := .d x) k1 n1).set (it := .d z) k3 n3).set (it := .d w) k4 n2) (four_wipe ne ne2 ne3)⟩
/-- [e for x, _, y, _ in walk] -/
theorem el_compW4 {φ : Mem → Prop} {x y z : Str} {px py pz pw tp : Pos} {tk : Nat} (n1 n2 n3 : Nat) {ds : List PyData} (A : Nat → List It) (Mi : Nat → Mem) (hc : X.calm = true) (hN : X.N.Nodup) (ne : n1 ≠ n2) (ne2 : n1 ≠ n3) (ne3 : n2 ≠ n3) (hi : IWQ φ X N ρ M (.Tuple [.Name x px, .Name y py, .Name z pz, .Name y pw] tk tp) iter ds M1)
    (hφ : ∀ m c, φ (Mi m ++ [c])) (hA0 : A 0 = []) (hM0 : Mi 0 = M1) (hz : ds.length ≤ 100000)
    (step : ∀ (m : Nat) d, ds[m]? = some d → ∃ u v w t j, d = .tuple [u, v, w, t] ∧ A (m + 1) = A m ++ [j] ∧ (A m).length ≤ m ∧ ∀ N' s H C cl fp, EJ (X.blk s H scope (compEnvC scope cl C X.env) fp) N' (((ρ.set n1 (some (.d u))).set n3 (some (.d w))).set n2 (some (.d t))) (Mi m) elt j (Mi (m + 1)))
    (ok : BlkOk X.N X.env.scope scope [(x, n1), (y, n2), (z, n3)] := by exact blkOk_by (by kernel_rfl))
    (hgn : ∀ (s : Shared) (H : Hp) (C : Addr) (cl : List (Str × Addr)) (fp : List Addr), PG (X.blk s H scope (compEnvC scope cl C X.env) fp) (.Tuple [.Name x px, .Name y py, .Name z pz, .Name y pw] tk tp) (gTup X.K 4 (gCons (gName n1) (gCons (gName n2) (gCons (gName n3) (gCons (gName n2) gNil))))) := by exact fun _ _ _ _ _ => pg_tup (by rfl) (pgs_cons (pg_name (by assumption) rfl (Or.inl rfl)) (pgs_cons (pg_name (by assumption) rfl (Or.inl rfl)) (pgs_cons (pg_name (by assumption) rfl (Or.inl rfl)) (pgs_cons (pg_name (by assumption) rfl (Or.inl rfl)) pgs_nil)))))
    (hf : ∀ x, foldedSetIterable iter X.env x = pure x := by intro _; rfl) : EL X N ρ M (.ListComp elt [⟨.Tuple [.Name x px, .Name y py, .Name z pz, .Name y pw] tk tp, iter, [], 0⟩] scope pos) (A ds.length) (Mi ds.length) := by
  obtain ⟨ti, pi, hi⟩ := hi
  exact el_lc (lj_compW [n1, n2, n3] (gTup X.K 4 (gCons (gName n1) (gCons (gName n2) (gCons (gName n3) (gCons (gName n2) gNil))))) A Mi hi hφ hA0 hM0 hz fun m d hd => by obtain ⟨u, v, w, t, j, rfl, a, b, c⟩ := step m d hd; exact ⟨_, j, tgc4 n1 n2 n3 ne ne2 ne3, a, b, c⟩) (pe_lc hc hN pi ok hgn (fun _ _ _ _ _ => pts_nil) (te := wBE X scope elt) (fun s H C cl fp => ⟨fun pins s1 σ1 H1 Q1 I1 h1 => h1 s H C cl fp pins s1 I1⟩) hf)
end
end Kt

/-! Kto: displays of data, one rule each, so that nothing is left to be reckoned. -/
namespace Kt
open PySem PySem.Spec PyProof PyProof.Rows L2
section
variable {X : Cx} {N : Ent} {ρ ρ' : Rho} {M : Mem} {a b c d e : Expr} {pos : Pos} {A B C D : PyData} {kk : Nat}
theorem jt0 : EJ X N ρ M (.Tuple [] kk pos) (.d (.tuple [])) M := ej_tup (ds := []) aj_nil rfl (by decide)
theorem jt1 (h1 : EJ X N ρ M a (.d A) M) (hs : starEach [a] X.env = (false, eval a X.env) :: starEach [] X.env := by rfl) : EJ X N ρ M (.Tuple [a] kk pos) (.d (.tuple [A])) M := ej_tup (ds := [A]) (is := [.d A]) (aj_cons h1 aj_nil hs) rfl (by show 1 ≤ 100000; decide)
theorem jt2 (h1 : EJ X N ρ M a (.d A) M) (h2 : EJ X N ρ M b (.d B) M) (hs : starEach [a, b] X.env = (false, eval a X.env) :: starEach [b] X.env := by rfl) (hs2 : starEach [b] X.env = (false, eval b X.env) :: starEach [] X.env := by rfl) : EJ X N ρ M (.Tuple [a, b] kk pos) (.d (.tuple [A, B])) M := ej_tup (ds := [A, B]) (is := [.d A, .d B]) (aj_cons h1 (aj_cons h2 aj_nil hs2) hs) rfl (by show 2 ≤ 100000; decide)
theorem jt3 (h1 : EJ X N ρ M a (.d A) M) (h2 : EJ X N ρ M b (.d B) M) (h3 : EJ X N ρ M c (.d C) M) (hs : starEach [a, b, c] X.env = (false, eval a X.env) :: starEach [b, c] X.env := by rfl) (hs2 : starEach [b, c] X.env = (false, eval b X.env) :: starEach [c] X.env := by rfl) (hs3 : starEach [c] X.env = (false, eval c X.env) :: starEach [] X.env := by rfl) : EJ X N ρ M (.Tuple [a, b, c] kk pos) (.d (.tuple [A, B, C])) M := ej_tup (ds := [A, B, C]) (is := [.d A, .d B, .d C]) (aj_cons h1 (aj_cons h2 (aj_cons h3 aj_nil hs3) hs2) hs) rfl (by show 3 ≤ 100000; decide)
theorem jt4 (h1 : EJ X N ρ M a (.d A) M) (h2 : EJ X N ρ M b (.d B) M) (h3 : EJ X N ρ M c (.d C) M) (h4 : EJ X N ρ M d (.d D) M) (hs : starEach [a, b, c, d] X.env = (false, eval a X.env) :: starEach [b, c, d] X.env := by rfl) (hs2 : starEach [b, c, d] X.env = (false, eval b X.env) :: starEach [c, d] X.env := by rfl) (hs3 : starEach [c, d] X.env = (false, eval c X.env) :: starEach [d] X.env := by rfl) (hs4 : starEach [d] X.env = (false, eval d X.env) :: starEach [] X.env := by rfl) : EJ X N ρ M (.Tuple [a, b, c, d] kk pos) (.d (.tuple [A, B, C, D])) M := ej_tup (ds := [A, B, C, D]) (is := [.d A, .d B, .d C, .d D]) (aj_cons h1 (aj_cons h2 (aj_cons h3 (aj_cons h4 aj_nil hs4) hs3) hs2) hs) rfl (by show 4 ≤ 100000; decide)
theorem jl0 : EJ X N ρ M (.List [] pos) (.d (.list [])) M := ej_el (ds := []) (is := []) (el_disp aj_nil (by decide)) rfl
theorem jl1 (h1 : EJ X N ρ M a (.d A) M) (hs : starEach [a] X.env = (false, eval a X.env) :: starEach [] X.env := by rfl) : EJ X N ρ M (.List [a] pos) (.d (.list [A])) M := ej_el (ds := [A]) (is := [.d A]) (el_disp (aj_cons h1 aj_nil hs) (by show 1 ≤ 100000; decide)) rfl
theorem jl2 (h1 : EJ X N ρ M a (.d A) M) (h2 : EJ X N ρ M b (.d B) M) (hs : starEach [a, b] X.env = (false, eval a X.env) :: starEach [b] X.env := by rfl) (hs2 : starEach [b] X.env = (false, eval b X.env) :: starEach [] X.env := by rfl) : EJ X N ρ M (.List [a, b] pos) (.d (.list [A, B])) M := ej_el (ds := [A, B]) (is := [.d A, .d B]) (el_disp (aj_cons h1 (aj_cons h2 aj_nil hs2) hs) (by show 2 ≤ 100000; decide)) rfl
theorem jl4 (h1 : EJ X N ρ M a (.d A) M) (h2 : EJ X N ρ M b (.d B) M) (h3 : EJ X N ρ M c (.d C) M) (h4 : EJ X N ρ M d (.d D) M) (hs : starEach [a, b, c, d] X.env = (false, eval a X.env) :: starEach [b, c, d] X.env := by rfl) (hs2 : starEach [b, c, d] X.env = (false, eval b X.env) :: starEach [c, d] X.env := by rfl) (hs3 : starEach [c, d] X.env = (false, eval c X.env) :: starEach [d] X.env := by rfl) (hs4 : starEach [d] X.env = (false, eval d X.env) :: starEach [] X.env := by rfl) : EJ X N ρ M (.List [a, b, c, d] pos) (.d (.list [A, B, C, D])) M := ej_el (ds := [A, B, C, D]) (is := [.d A, .d B, .d C, .d D]) (el_disp (aj_cons h1 (aj_cons h2 (aj_cons h3 (aj_cons h4 aj_nil hs4) hs3) hs2) hs) (by show 4 ≤ 100000; decide)) rfl
/-- [x] + l, (x,) + t, t + (x,), l + [x] -/
theorem jc_l {L : List PyData} (h1 : EJ X N ρ M a (.d (.list [A])) M) (h2 : EJ X N ρ M b (.d (.list L)) M) (hz : L.length ≤ 1000) : EJ X N ρ M (.BinOp a .Add b pos) (.d (.list (A :: L))) M := ej_el (ds := A :: L) (el_cat (ds := [A]) (es := L) h1 h2 (by show 1 + L.length ≤ 100000; omega)) rfl
theorem jc_lr {L : List PyData} (h1 : EJ X N ρ M a (.d (.list L)) M) (h2 : EJ X N ρ M b (.d (.list [A])) M) (hz : L.length ≤ 1000) : EJ X N ρ M (.BinOp a .Add b pos) (.d (.list (L ++ [A]))) M := ej_el (ds := L ++ [A]) (el_cat (ds := L) (es := [A]) h1 h2 (by show L.length + 1 ≤ 100000; omega)) rfl
theorem jc_t {L : List PyData} (h1 : EJ X N ρ M a (.d (.tuple [A])) M) (h2 : EJ X N ρ M b (.d (.tuple L)) M) (hz : L.length ≤ 1000) : EJ X N ρ M (.BinOp a .Add b pos) (.d (.tuple (A :: L))) M := ej_catA (ds := [A]) (es := L) h1 h2 (by show 1 + L.length ≤ 100000; omega)
theorem jc_tr {L : List PyData} (h1 : EJ X N ρ M a (.d (.tuple L)) M) (h2 : EJ X N ρ M b (.d (.tuple [A])) M) (hz : L.length ≤ 1000) : EJ X N ρ M (.BinOp a .Add b pos) (.d (.tuple (L ++ [A]))) M := ej_catA (ds := L) (es := [A]) h1 h2 (by show L.length + 1 ≤ 100000; omega)
/-- rows: a display put behind a list -/
theorem jd_nil : AJ X N ρ M [] (([] : List PyData).map It.d) M := aj_nil
theorem jd_cons {es : List Expr} {S : List PyData} (h1 : EJ X N ρ M a (.d A) M) (h2 : AJ X N ρ M es (S.map It.d) M) (hs : starEach (a :: es) X.env = (false, eval a X.env) :: starEach es X.env := by rfl) : AJ X N ρ M (a :: es) ((A :: S).map It.d) M := aj_cons h1 h2 hs
theorem jr_list {es : List Expr} {S : List PyData} (h2 : AJ X N ρ M es (S.map It.d) M) (hz : S.length ≤ 1000) : EJ X N ρ M (.List es pos) (.d (.list S)) M := ej_el (ds := S) (el_disp h2 (by rw [List.length_map]; omega)) rfl
theorem jr_cat {es : List Expr} {R S : List PyData} {p2 : Pos} (h1 : EJ X N ρ M a (.d (.list R)) M) (h2 : AJ X N ρ M es (S.map It.d) M) (hz : S.length ≤ 1000) (hr : R.length ≤ 1000) : EJ X N ρ M (.BinOp a .Add (.List es p2) pos) (.d (.list (R ++ S))) M := ej_el (ds := R ++ S) (el_cat (ds := R) (es := S) h1 (jr_list h2 hz) (by omega)) rfl
theorem jlistT {p q : Pos} {ds : List PyData} (hm : X.mg "list" = none) (ha : EJ X N ρ M a (.d (.tuple ds)) M) (hg : Gl X "list" := by rfl) (he : starEach [a] X.env = [(false, eval a X.env)] := by rfl) (hpl : (backTo q (starEach ([] : List Expr) X.env)).any (·.1) = false := by rfl) : EJ X N ρ M (.Call (.Name "list" p) [a] [] q) (.d (.list ds)) M := ej_el (ds := ds) (el_listT hm ha hg he hpl) rfl
end
end Kt

/-! Ktp: len(set(xs)) of a longer list of different ints. -/
namespace Kt
open PySem PySem.Spec PyProof PyProof.Rows L2
def tLenB (K : PySem.W.Frag) (ta : TE) : TE := fun σ H Q => ta σ H fun x H1 => ∃ (l : Addr) (ns : List Int), x = .ref l ∧ SqL K H1 l (ns.map V.int) ∧ ns.length < 4000 ∧ ns.Nodup ∧ Q (.int (ns.length : Int)) H1
theorem pe_lenB {X : Cx} {a : Expr} {ta : TE} {p p2 q pos : Pos} (hc : X.calm = true) (hg : Gl X "len") (hm : X.mg "len" = none) (hg2 : Gl X "set") (hm2 : X.mg "set" = none) (ha : PE X a ta) (na : starEach [a] X.env = (false, eval a X.env) :: starEach [] X.env := by rfl) :
    PE X (.Call (.Name "len" p) [.Call (.Name "set" p2) [a] [] q] [] pos) (tLenB X.K ta) := by
  refine ⟨fun pins s σ H Q I h => ?_⟩
  refine Call_ (ld_blt I hg hm boot_len (PyProof.Rows.callWith_builtin1 (args_cons (Call_ (ld_blt I hg2 hm2 boot_set (PyProof.Rows.callWith_type1 (args_cons (thn (ha.run pins s σ H _ I h) fun v s1 x => args_nil ?_) na) na rfl))) rfl) rfl rfl))
  obtain ⟨x, H1, I1, r1, l, ns, rfl, hq, h1, hnd, q1⟩ := x
  cases r1
  obtain ⟨its, r, pl, hz⟩ := I1.list hq
  have hl : its.toArray.size = ns.length := by
    rw [List.size_toArray, ← r.length, List.length_map]
  refine call_set_list (I1.ok.hd hc) pl.isList r.ints (by rw [hl]; show ns.length + 1 < 4096; omega) fun h' tk hS hk => args_nil ?_
  rw [hl, firstMet_nodup ns hnd ns.length (Nat.le_refl _), List.take_length] at hS
  obtain ⟨o, es, ep, t, ho, hx, hd, _, _, _, hf, hn⟩ := hS
  refine call_len_set ho hx hd hf (by rw [hn]; omega) ?_
  refine ⟨.int (ns.length : Int), H1, ?_, ?_, q1⟩
  · exact I1.kept fun b u hb => hk b u (Heap.lt_size hb) hb
  · rw [hn]
    exact ⟨_, rfl⟩
section
variable {X : Cx} {N : Ent} {ρ : Rho} {M M1 : Mem} {a : Expr} {pos p p2 q : Pos}
theorem ej_lenSet {ns : List Int} (hc : X.calm = true) (hm : X.mg "len" = none) (hm2 : X.mg "set" = none) (ha : EJ X N ρ M a (.d (.list (ns.map .int))) M1) (h1 : ns.length < 4000) (hnd : ns.Nodup) (hg : Gl X "len" := by rfl) (hg2 : Gl X "set" := by rfl) (na : starEach [a] X.env = (false, eval a X.env) :: starEach [] X.env := by rfl) :
    EJ X N ρ M (.Call (.Name "len" p) [.Call (.Name "set" p2) [a] [] q] [] pos) (dI (ns.length : Int)) M1 := fun σ H P hh g Q k =>
  e_of (pe_lenB hc hg hm hg2 hm2 pe_w na) (ha σ H P hh g _ fun v H1 P1 e1 hh1 r => by
    obtain ⟨l, xs, rfl, h2, h3⟩ := ri_lst r
    have e := DnAll.ints h3
    subst e
    exact ⟨l, ns, rfl, .inl (.inl (hh1.ex _ _ h2)), h1, hnd, k _ H1 P1 e1 hh1 (.int _)⟩)
end
end Kt

/-! Ktq: except without a name, min of two, the length of what is only read. -/
namespace Kt
open PySem PySem.Spec PyProof PyProof.Rows L2
section
variable {X : Cx} {N : Ent} {ρ ρ' : Rho} {M M1 M2 : Mem} {a b e : Expr} {pos : Pos} {Z : Post} {rest : List Stmt} {Cs C0 fI : Addr} {fd : FuncData} {sI : Stmt}
def SuiteOk0 (X : Cx) (N : Ent) (suite : List Stmt) (M' : Mem) (rt : It → Mem → Prop) : Prop :=
  ∀ (P' H' : Hp) (σ' : L2.St) (pn : List (Addr × Obj)) (a : Addr) (D : Ends), Holds N P' H' M' → (∀ i M'' v H'' P'', rt i M'' → Ex P' P'' → Holds N P'' H'' M'' → RepI P'' v i → D.rt v H'') → wSs (X.suite a pn) suite D σ' H'
theorem sj_try0 {np pos' : Pos} {body suite : List Stmt} {b₀ : Stmt} (ER : Str → Mem → Prop) (T : ErrTxt X.K X.mg sI Cs C0 fI fd)
    (hb : ∀ (pn : List (Addr × Obj)) (xe : Value → Shared → Prop), PassesOwn (model X.prog X.w) X.A X.env xe → SJ (X.tr pn xe) N ρ M body { nx := fun ρ' M' => SJ X N ρ' M' rest Z, rt := Z.rt, bk := Z.bk, ct := Z.ct, er := ER })
    (hsu : ∀ z M', ER z M' → SuiteOk0 X N (b₀ :: suite) M' Z.rt)
    (hg : Gl X "ShapeError" := by rfl) (hs : X.stack = X.env :: X.outer := by rfl) (hf : X.env.frame = some X.env.locals := by rfl) :
    SJ X N ρ M (.Try body [.ExceptHandler (some (.Name "ShapeError" np)) none (b₀ :: suite) pos'] [] [] pos :: rest) Z := sj_cons fun σ H P hh g D E tk zd => by
  refine s_of (ps_try_only (c := .ref Cs) (tb := fun W => fun D σ H => ∀ pn xe, Takes (X.tr pn xe) W → PassesOwn (model X.prog X.w) X.A X.env xe → wSs (X.tr pn xe) body D σ H)
    (ts := fun a cls d => fun D σ H => ∀ oe pn, Zc cls d oe → (∃ vs, oe.data = .fields vs) → wSs (X.suite a ((a, oe) :: pn)) (b₀ :: suite) D σ H) (Wout := fun _ _ _ _ => False) hs hf ⟨hg, by decide, .inl T.gS⟩ takes0
    (fun W pn xe tk1 po => ⟨fun pins s σ H D I h => h pn xe tk1 po pins s I⟩) (fun a oe cls d pn hz hv => ⟨fun pins s σ H D I h => h oe pn hz hv pins s I⟩)) ?_
  intro pn xe tk1 po
  refine hb pn xe po σ H P hh g D (fun c d H' => ∀ σ' : L2.St, wOnly X.K (.ref Cs) (fun a cls d => fun D σ H => ∀ oe pn, Zc cls d oe → (∃ vs, oe.data = .fields vs) → wSs (X.suite a ((a, oe) :: pn)) (b₀ :: suite) D σ H) (fun _ _ _ _ => False) D c d σ' H') (takes_len tk1 fun c d σ' H' hl w => w σ') ⟨zd.nx, zd.rt, zd.bk, zd.ct, fun z M' d H' P' C gC hz e1 h1 x1 => ?_⟩
  intro σ'
  have eC : C = Cs := by
    have := gC.symm.trans T.gS
    cases this
    rfl
  subst eC
  refine ⟨true, T.te, fun _ a ha oe pn2 hz2 hv2 => ?_, fun q => Bool.noConfusion q⟩
  exact hsu z M' hz P' H' σ' _ a _ h1 fun i M'' v H'' P'' r e2 h2 r2 => zd.rt i M'' v H'' P'' r (e1.trans e2) h2 r2
theorem suite0_bl {M' : Mem} {n : Bool} {j : Nat} {p1 : Pos} {rest : List Stmt} {rt : It → Mem → Prop} (h : rt (dB n) M') : SuiteOk0 X N (.Return (some (.Constant (.bool n) j p1)) pos :: rest) M' rt := fun P' H' σ' pn a D hh k => by
  refine ss_of (pss_cons (ps_ret pe_bl) pss_w) ?_
  exact k (dB n) M' _ H' P' h (Ex.refl _) hh (.bl n)
theorem ej_min2 {p q : Pos} {n m : Int} (hc : X.calm = true) (hm : X.mg "min" = none) (ha : EJ X N ρ M a (dI n) M1) (hb : EJ X N ρ M1 b (dI m) M2) (hg : Gl X "min" := by rfl) (he : starEach [a, b] X.env = (false, eval a X.env) :: starEach [b] X.env := by rfl) (he2 : starEach [b] X.env = (false, eval b X.env) :: starEach [] X.env := by rfl) (hpl : (backTo q (starEach [b] X.env)).any (·.1) = false := by rfl) :
    EJ X N ρ M (.Call (.Name "min" p) [a, b] [] q) (dI (if m < n then m else n)) M2 := ej_callB (call_min2 hc) hm (by decide +kernel) (aj_cons ha (aj_cons hb aj_nil he2) he) (fun vs H P h rr Q k => by
  obtain ⟨x, y, rfl, r1, r2⟩ := ri2 rr
  cases ri_int r1
  cases ri_int r2
  exact ⟨n, m, rfl, k _ H P (Ex.refl P) h (.int _)⟩) hg (by decide) (by decide) he hpl
theorem ej_lenS {p q : Pos} {x0 : It} {ds : List PyData} (hm : X.mg "len" = none) (ha : EJ X N ρ M a x0 M1) (src : ∀ v P, RepI P v x0 → ∃ a xs, v = .ref a ∧ SqL X.K P a xs ∧ DnAll P xs ds) (hg : Gl X "len" := by rfl) (he : starEach [a] X.env = [(false, eval a X.env)] := by rfl) (hpl : (backTo q (starEach ([] : List Expr) X.env)).any (·.1) = false := by rfl) :
    EJ X N ρ M (.Call (.Name "len" p) [a] [] q) (dI (ds.length : Int)) M1 :=
  ej_len hm ha (fun v H P h r => by
    obtain ⟨a, xs, rfl, h1, h2⟩ := src v P r
    exact ⟨a, xs, rfl, .inl (exw_l h.exw h1), dnAll_len h2⟩) hg he hpl
theorem iw_range2 {tg : Expr} {p rp : Pos} {i j : Int} (hmr : X.mg "range" = none) (ha : EJ X N ρ M a (dI i) M1) (hb : EJ X N ρ M1 b (dI j) M2) (h1 : -(2 ^ 62) ≤ i ∧ i < 2 ^ 62) (h2 : -(2 ^ 62) ≤ j ∧ j < 2 ^ 62) (hg : Gl X "range" := by rfl) (hs : starEach [a, b] X.env = (false, eval a X.env) :: starEach [b] X.env := by rfl) (hs2 : starEach [b] X.env = (false, eval b X.env) :: starEach [] X.env := by rfl) (hpl : (backTo rp (starEach [b] X.env)).any (·.1) = false := by rfl) :
    IW X N ρ M tg (.Call (.Name "range" p) [a, b] [] rp) ((List.range (j - i).toNat).map fun k : Nat => .int (i + (k : Int))) M2 := by
  refine ⟨_, pi_range2 hg hmr pa_w (by rw [hs, hs2]; rfl) (by rw [hs2]; rfl), fun σ H P hh g R q => ?_⟩
  refine aj_cons ha (aj_cons hb aj_nil hs2) hs σ H P hh g _ fun vs H1 P1 e1 h3 r1 => ?_
  obtain ⟨x, y, rfl, r2, r3⟩ := ri2 r1
  cases ri_int r2
  cases ri_int r3
  have zl : ((List.range (j - i).toNat).map fun k : Nat => PyData.int (i + (k : Int))).length = (j - i).toNat := by simp
  refine ⟨i, j, rfl, ⟨h1.1, h1.2, h2.1, h2.2⟩, q _ H1 P1 e1 h3 ⟨fun n H P' M' hi h2 e2 _ => ?_, fun H P' M' h2 e2 _ => ?_, fun n H v H' P' M' hi h2 e2 _ y => ?_⟩⟩
  · rw [zl] at hi
    exact hi
  · rw [zl]
    exact Nat.le_refl _
  · obtain ⟨rfl, rfl⟩ := y
    rw [zl] at hi
    exact ⟨P', _, by rw [List.getElem?_map, List.getElem?_range hi]; rfl, Ex.refl _, h2, .int _⟩
theorem wj_orF {b2 : Expr} {u : Bool} {es : List Expr} (h : TJ X N ρ M a false M1) (h2 : WJ X N ρ M1 (.BoolOp .Or (b2 :: es) pos) u M2) : WJ X N ρ M (.BoolOp .Or (a :: b2 :: es) pos) u M2 := fun σ H P hh g Q q =>
  w_of (pw_or pt_w pw_w) (h σ H P hh g _ fun H1 P1 e1 h1 => iteF (h2 σ H1 P1 h1 (g.ex e1) Q fun H2 P2 e2 h3 => q H2 P2 (e1.trans e2) h3))
end
end Kt

/-! Kty: defs handed as parameters; slices of lists of one's own; bit_length, divmod, more comparisons as values. -/
namespace Kt
open PySem PySem.Spec PyProof PyProof.Rows L2
section
variable {X : Cx} {N : Ent} {ρ ρ' : Rho} {M M1 M2 M3 Mc Mc' Mr : Mem} {a b c e iter : Expr} {es : List Expr} {pos p : Pos} {i j k : It} {is : List It} {Z : Post} {rest : List Stmt} {scope : Scope} {cnd elt : Expr}
theorem ej_gtV {n m : Int} (ha : EJ X N ρ M a (dI n) M1) (hb : EJ X N ρ M1 b (dI m) M2) : EJ X N ρ M (.Compare a [.Gt] [b] pos) (dB (decide (m < n))) M2 := ej_cmp op_gt (nomark _) ha hb rj_B0
theorem ej_leV {n m : Int} (ha : EJ X N ρ M a (dI n) M1) (hb : EJ X N ρ M1 b (dI m) M2) : EJ X N ρ M (.Compare a [.LtE] [b] pos) (dB (decide (n ≤ m))) M2 := ej_cmp op_le (nomark _) ha hb rj_B0
theorem ej_neV {n m : Int} (ha : EJ X N ρ M a (dI n) M1) (hb : EJ X N ρ M1 b (dI m) M2) : EJ X N ρ M (.Compare a [.NotEq] [b] pos) (dB (!decide (n = m))) M2 := ej_cmp op_ne (nomark _) ha hb rj_neI
theorem ej_bits {apos : Pos} {n : Int} (ha : EJ X N ρ M a (dI n) M1) (hbase : attributeBase a "bit_length" X.env (eval a X.env) = eval a X.env := by rfl) (hline : (apos.endLine == pos.line) = true := by rfl) :
    EJ X N ρ M (.Call (.Attribute a "bit_length" apos) [] [] pos) (dI (Builtin.Int.intBits n : Nat)) M1 := fun σ H P hh g Q q =>
  e_of (pe_bits pe_w hbase hline) (ha σ H P hh g _ fun v H1 P1 e1 h1 r1 => ⟨n, ri_int r1, q _ H1 P1 e1 h1 (.int _)⟩)
theorem ej_divmod {q : Pos} {n m : Int} (hm : X.mg "divmod" = none) (ha : EJ X N ρ M a (dI n) M1) (hb : EJ X N ρ M1 b (dI m) M2) (hc : CDivP n m) (hg : Gl X "divmod" := by rfl) (he : starEach [a, b] X.env = (false, eval a X.env) :: starEach [b] X.env := by rfl) (he2 : starEach [b] X.env = (false, eval b X.env) :: starEach [] X.env := by rfl) (hpl : (backTo q (starEach [b] X.env)).any (·.1) = false := by rfl) :
    EJ X N ρ M (.Call (.Name "divmod" p) [a, b] [] q) (.d (.tuple [.int (n / m), .int (n % m)])) M2 := ej_callB call_divmodW hm (by decide +kernel) (aj_cons ha (aj_cons hb aj_nil he2) he) (fun vs H P h rr Q k => by
  obtain ⟨x, y, rfl, r1, r2⟩ := ri2 rr
  cases ri_int r1
  cases ri_int r2
  refine ⟨n, m, rfl, hc, fun p hp => ?_⟩
  obtain ⟨h', e'⟩ := h.pers (o := .tup [.int (n / m), .int (n % m)]) hp
  exact k _ _ _ e' h' (.tup (by simp [upd]) (.cons (.int _) (.cons (.int _) .nil)))) hg (by decide) (by decide) he hpl
/-! slices of a list of one's own -/
theorem RepIs.to_d {P : Hp} {vs : List V} {ds : List PyData} (h : RepIs P vs (ds.map It.d)) : DnAll P vs ds := RepIs.to_all h
theorem el_slO {o : Addr} {ds : List PyData} {lo hi : Option Expr} {l h : Option Int} {tl th : TO} {p2 : Pos} (ha : EJ X N ρ M a (.v (.ref o)) M1) (hm : (o, ds.map It.d) ∈ M1) (pl : PO X lo tl) (ph : PO X hi th) (el : ∀ σ H Q, Q l H → tl σ H Q) (eh : ∀ σ H Q, Q h H → th σ H Q) :
    EL X N ρ M (.Subscript a (.Slice lo hi none p2) pos) ((cutD ds l h).map It.d) M1 := fun σ H P hh g Q q =>
  e_of (pe_slice sl_list pe_w pl ph) (ha σ H P hh g _ fun x H1 P1 e1 h1 r1 => el _ _ _ (eh _ _ _ (by
    cases r1
    obtain ⟨xs, h3, h4⟩ := h1.cell hm
    exact ⟨o, xs, rfl, .inl (.inl h3), fun p hp => q p _ P1 e1 (h1.newF hp) (h1.own hp (RepIs.of_all ((RepIs.to_all h4).cut l h)))⟩)))
theorem el_slOfrom {o : Addr} {ds : List PyData} {lo : Expr} {l : Int} {p2 : Pos} (ha : EJ X N ρ M a (.v (.ref o)) M1) (hl : EJ X N ρ M1 lo (dI l) M2) (hm : (o, ds.map It.d) ∈ M2) :
    EL X N ρ M (.Subscript a (.Slice (some lo) none none p2) pos) ((cutD ds (some l) none).map It.d) M2 := fun σ H P hd g Q q => by
  refine e_of (pe_slice sl_list pe_w (po_some pe_w) po_none) (ha σ H P hd g _ fun x H1 P1 e1 h1 r1 => ?_)
  refine hl σ H1 P1 h1 (g.ex e1) _ fun v2 H2 P2 e2 h2 r2 => ⟨l, ri_int r2, ?_⟩
  cases r1
  obtain ⟨xs, h4, h5⟩ := h2.cell hm
  exact ⟨o, xs, rfl, .inl (.inl h4), fun p hp => q p _ P2 (e1.trans e2) (h2.newF hp) (h2.own hp (RepIs.of_all ((RepIs.to_all h5).cut (some l) none)))⟩
theorem el_slOto {o : Addr} {ds : List PyData} {hi : Expr} {l : Int} {p2 : Pos} (ha : EJ X N ρ M a (.v (.ref o)) M1) (hl : EJ X N ρ M1 hi (dI l) M2) (hm : (o, ds.map It.d) ∈ M2) :
    EL X N ρ M (.Subscript a (.Slice none (some hi) none p2) pos) ((cutD ds none (some l)).map It.d) M2 := fun σ H P hd g Q q => by
  refine e_of (pe_slice sl_list pe_w po_none (po_some pe_w)) (ha σ H P hd g _ fun x H1 P1 e1 h1 r1 => ?_)
  refine hl σ H1 P1 h1 (g.ex e1) _ fun v2 H2 P2 e2 h2 r2 => ⟨l, ri_int r2, ?_⟩
  cases r1
  obtain ⟨xs, h4, h5⟩ := h2.cell hm
  exact ⟨o, xs, rfl, .inl (.inl h4), fun p hp => q p _ P2 (e1.trans e2) (h2.newF hp) (h2.own hp (RepIs.of_all ((RepIs.to_all h5).cut none (some l))))⟩
theorem el_slLfrom {ds : List PyData} {lo : Expr} {l : Int} {p2 : Pos} (ha : EJ X N ρ M a (.d (.list ds)) M1) (hl : EJ X N ρ M1 lo (dI l) M2) :
    EL X N ρ M (.Subscript a (.Slice (some lo) none none p2) pos) ((cutD ds (some l) none).map It.d) M2 := fun σ H P hd g Q q => by
  refine e_of (pe_slice sl_list pe_w (po_some pe_w) po_none) (ha σ H P hd g _ fun x H1 P1 e1 h1 r1 => ?_)
  refine hl σ H1 P1 h1 (g.ex e1) _ fun v2 H2 P2 e2 h2 r2 => ⟨l, ri_int r2, ?_⟩
  obtain ⟨a, xs, rfl, h4, h5⟩ := ri_lst (r1.ex e2)
  exact ⟨a, xs, rfl, .inl (.inl (h2.ex _ _ h4)), fun p hp => q p _ P2 (e1.trans e2) (h2.newF hp) (h2.own hp (RepIs.of_all (h5.cut (some l) none)))⟩
theorem el_slLto {ds : List PyData} {hi : Expr} {l : Int} {p2 : Pos} (ha : EJ X N ρ M a (.d (.list ds)) M1) (hl : EJ X N ρ M1 hi (dI l) M2) :
    EL X N ρ M (.Subscript a (.Slice none (some hi) none p2) pos) ((cutD ds none (some l)).map It.d) M2 := fun σ H P hd g Q q => by
  refine e_of (pe_slice sl_list pe_w po_none (po_some pe_w)) (ha σ H P hd g _ fun x H1 P1 e1 h1 r1 => ?_)
  refine hl σ H1 P1 h1 (g.ex e1) _ fun v2 H2 P2 e2 h2 r2 => ⟨l, ri_int r2, ?_⟩
  obtain ⟨a, xs, rfl, h4, h5⟩ := ri_lst (r1.ex e2)
  exact ⟨a, xs, rfl, .inl (.inl (h2.ex _ _ h4)), fun p hp => q p _ P2 (e1.trans e2) (h2.newF hp) (h2.own hp (RepIs.of_all (h5.cut none (some l))))⟩
theorem cut_to {ds : List PyData} {n : Nat} (h : n ≤ ds.length) : cutD ds none (some (n : Int)) = ds.take n := by
  unfold cutD
  rw [HT.sIx_none, HT.sIx_nat, List.drop_zero, Nat.sub_zero, Nat.min_eq_left h]
theorem cut_from {ds : List PyData} {n : Nat} (h : n ≤ ds.length) : cutD ds (some (n : Int)) none = ds.drop n := by
  unfold cutD
  rw [HT.sIx_none, HT.sIx_nat, Nat.min_eq_left h, List.take_of_length_le (by simp)]
/-! a list of one's own, copied -/
theorem el_listO {p q : Pos} {o : Addr} {ds : List PyData} (hm : X.mg "list" = none) (ha : EJ X N ρ M a (.v (.ref o)) M1) (hM : (o, ds.map It.d) ∈ M1) (hg : Gl X "list" := by rfl) (he : starEach [a] X.env = [(false, eval a X.env)] := by rfl) (hpl : (backTo q (starEach ([] : List Expr) X.env)).any (·.1) = false := by rfl) :
    EL X N ρ M (.Call (.Name "list" p) [a] [] q) (ds.map It.d) M1 := fun σ H P hh g Q k =>
  e_of (pe_callTy call_list_of hg hm (by decide +kernel) pa_w (by decide) (by decide) he hpl) (aj_cons ha aj_nil he σ H P hh g _ fun vs H1 P1 e1 h1 r1 => by
    obtain ⟨x, rfl, r2⟩ := ri1 r1
    cases r2
    obtain ⟨xs, h3, h4⟩ := h1.cell hM
    exact ⟨o, xs, rfl, .inl (.inl (.inl h3)), fun l hl => k l _ P1 e1 (h1.newF hl) (h1.own hl h4)⟩)
/-! a def as a value, and a call of a name that holds one -/
theorem ej_fn {x : Str} {f : Addr} (hm : X.mg x = some (.ref f)) (hg : Gl X x := by rfl) (hd : (x == ("__debug__" : Str)) = false := by decide) : EJ X N ρ M (.Name x pos) (.v (.ref f)) M := fun σ H P hh g Q q =>
  e_of (pe_glob (v := .ref f) hg hm rfl hd) (q _ H P (Ex.refl P) hh rfl)
structure HoldX (P : Program) (w : World) (K : PySem.W.Frag) (mg : Str → Option Value) (base : Heap) (f : Addr) (k : Nat) (C : Co) (R : Ro) : Prop where
  ex : ∃ fd ps, FnOk P w K mg base (L2.CX P w) k f fd ps (spX mg C R) ∧ PySem.W.keepIn K (.ref f) = true ∧ Binds K fd ps []
theorem DefX.hold {P : Program} {w : World} {K : PySem.W.Frag} {mg : Str → Option Value} {base : Heap} {x : Str} {k : Nat} {C : Co} {R : Ro} (F : DefX P w K mg base x k C R) : ∃ f, mg x = some (.ref f) ∧ HoldX P w K mg base f k C R := by
  obtain ⟨f, fd, ps, h1, h2, h3, h4⟩ := F.ex
  exact ⟨f, h2, fd, ps, h1, h3, h4⟩
theorem ej_callXL (n : Nat) {x : Str} {f : Addr} {l : Nat} {C : Co} {R : Ro} (F : HoldX X.prog X.w X.K X.mg X.base f l C R) (hr : Room l X.A) (hρ : ρ[n]? = some (some (.v (.ref f)))) (ha : AJ X N ρ M (e :: es) is M1) (hM : M1 = Mc ++ Mr) (hC : C is Mc i Mc') (hM2 : M2 = Mc' ++ Mr)
    (hN : X.N[n]? = some x := by rfl) (hv : Vis X.env.scope x := by first | exact Or.inl rfl | exact Or.inr (Or.inl rfl) | exact Or.inr (Or.inr rfl)) (hdb : (x == ("__debug__" : Str)) = false := by decide) (hcd : (x == ("__classdict__" : Str)) = false := by decide)
    (he : starEach (e :: es) X.env = (false, eval e X.env) :: starEach es X.env := by rfl) (hpl : (backTo pos (starEach es X.env)).any (·.1) = false := by rfl) :
    EJ X N ρ M (.Call (.Name x p) (e :: es) [] pos) i M2 := fun σ H P hh g Q q => by
  obtain ⟨fd, ps, F1, hk, hb⟩ := F.ex
  obtain ⟨v, h0, h00⟩ := g.2 n _ hρ
  cases h00
  refine e_of (pe_callL (i := n) (f := f) F1 hr hN hv hk hb .nil passL pa_w hdb hcd he hpl) ⟨h0, ha σ H P hh g _ fun vs H1 P1 e1 h1 r1 => ?_⟩
  subst hM hM2
  refine ⟨P1, is, Mc, h1.enter, ?_, .inl ⟨i, Mc', hC, fun v H' P' h' r' => ?_⟩⟩
  · rw [List.append_nil]; exact r1
  · exact q v H' P' (e1.trans h'.ex0) (h1.leave h') r'
end
section
variable {X : Cx} {CX : CXT} {k i : Nat} {f : Addr} {fd : FuncData} {ps : List Str} {sp : Sp} {E : L2.St → XK} {x : Str} {p pos : Pos} {e : Expr} {es : List Expr} {t : TA}
def tCallLS (i : Nat) (f : Addr) (sp : Sp) (E : L2.St → XK) (t : TA) : TE := fun σ H Q => σ[i]? = some (some (.ref f)) ∧ t σ H fun vs H1 => sp vs H1 Q (E σ)
theorem pe_callLS (F : FnOk X.prog X.w X.K X.mg X.base CX k f fd ps sp) (hr : Room k X.A) (hN : X.N[i]? = some x) (hv : Vis X.env.scope x) (hk : PySem.W.keepIn X.K (.ref f) = true) (hb : Binds X.K fd ps []) (hx : ∀ σ, PassesAt CX X σ (E σ)) (ha : PA X (e :: es) t)
    (hdb : (x == ("__debug__" : Str)) = false := by decide) (hcd : (x == ("__classdict__" : Str)) = false := by decide)
    (he : starEach (e :: es) X.env = (false, eval e X.env) :: starEach es X.env := by rfl) (hpl : (backTo pos (starEach es X.env)).any (·.1) = false := by rfl) : PE X (.Call (.Name x p) (e :: es) [] pos) (tCallLS i f sp E t) := by
  refine ⟨fun pins s σ H Q I h => ?_⟩
  obtain ⟨hs, ht⟩ := h
  refine wpAny_Call_Name_kw (thn ((pe_var (pos := p) hN hv hdb hcd).run pins s σ H (fun v H1 => v = .ref f ∧ H1 = H) I ⟨.ref f, hs, rfl, rfl⟩) fun u s1 ⟨v, H1, I1, r1, q1⟩ => ?_)
  obtain ⟨rfl, rfl⟩ := q1
  cases r1
  refine PySem.W.callWith_K (h₀ := X.base) I.ok.mod.kin hk (thn (ha.run pos pins s1 σ _ _ I1 ht) fun us s2 ⟨vs, H2, I2, r, q⟩ => ⟨I2.kIn, ?_⟩) he hpl
  exact run_fnS F hr hb (hx σ) I2 r q
end
section
variable {X : Cx} {N : Ent} {ρ ρ' : Rho} {M M1 M2 M3 Mc Mc' Mr : Mem} {a b c e iter : Expr} {es : List Expr} {pos p : Pos} {i j k : It} {is : List It}
theorem xj_callXL (n : Nat) {x z : Str} {f : Addr} {l : Nat} {C : Co} {R : Ro} (F : HoldX X.prog X.w X.K X.mg X.base f l C R) (hr : Room l X.A) (hρ : ρ[n]? = some (some (.v (.ref f)))) (ha : AJ X N ρ M (e :: es) is M) (hR : R is [] z)
    (hN : X.N[n]? = some x := by rfl) (hv : Vis X.env.scope x := by first | exact Or.inl rfl | exact Or.inr (Or.inl rfl) | exact Or.inr (Or.inr rfl)) (hdb : (x == ("__debug__" : Str)) = false := by decide) (hcd : (x == ("__classdict__" : Str)) = false := by decide)
    (he : starEach (e :: es) X.env = (false, eval e X.env) :: starEach es X.env := by rfl) (hpl : (backTo pos (starEach es X.env)).any (·.1) = false := by rfl) :
    XJ X N ρ M (.Call (.Name x p) (e :: es) [] pos) z := fun σ H P hh g E tk er Q => by
  obtain ⟨fd, ps, F1, hk, hb⟩ := F.ex
  obtain ⟨v, h0, h00⟩ := g.2 n _ hρ
  cases h00
  refine e_of (pe_callLS (i := n) (f := f) F1 hr hN hv hk hb (fun σ => passAt tk σ) pa_w hdb hcd he hpl) ⟨h0, ha σ H P hh g _ fun vs H1 P1 e1 h1 r1 => ?_⟩
  have h2 : Holds N P1 H1 ([] ++ M) := h1
  refine ⟨P1, is, [], h2.enter, r1, .inr ⟨z, hR, fun d H' P' Cs gs h' x' => ?_⟩⟩
  exact er d H' P' Cs gs (e1.trans h'.ex0) (h2.leave h') x'
end
end Kt

/-! Ktz: tests whose second part changes cells; y = [comp with a test]; == of lists of ints. -/
namespace Kt
open PySem PySem.Spec PyProof PyProof.Rows L2
section
variable {X : Cx} {N : Ent} {ρ ρ' : Rho} {M M1 M2 M3 Mc Mc' Mr : Mem} {a b c e iter : Expr} {es : List Expr} {pos p : Pos} {i j k : It} {is : List It} {Z : Post} {rest : List Stmt} {scope : Scope} {cnd elt : Expr} {t u : Bool}
theorem ej_andT {es : List Expr} (h : EJ X N ρ M a (dB true) M1) (h2 : EJ X N ρ M1 (.BoolOp .And (b :: es) pos) i M2) : EJ X N ρ M (.BoolOp .And (a :: b :: es) pos) i M2 := fun σ H P hh g Q q =>
  e_of (pe_and pe_w pe_w) (h σ H P hh g _ fun v H1 P1 e1 h1 r1 => ⟨true, ri_bl r1, iteT (h2 σ H1 P1 h1 (g.ex e1) Q fun v2 H2 P2 e2 h3 r => q v2 H2 P2 (e1.trans e2) h3 r)⟩)
theorem wj_andT {es : List Expr} (h : TJ X N ρ M a true M1) (h2 : WJ X N ρ M1 (.BoolOp .And (b :: es) pos) u M2) : WJ X N ρ M (.BoolOp .And (a :: b :: es) pos) u M2 := fun σ H P hh g Q q =>
  w_of (pw_and pt_w pw_w) (h σ H P hh g _ fun H1 P1 e1 h1 => iteT (h2 σ H1 P1 h1 (g.ex e1) Q fun H2 P2 e2 h3 => q H2 P2 (e1.trans e2) h3))
theorem sj_setW1F {φ : Mem → Prop} (n' : Nat) {nm : Str} {py spos : Pos} {x : Str} {p : Pos} (n : Nat) {ds : List PyData} (A : Nat → List It) (Mi : Nat → Mem) (hc : X.calm = true) (hN : X.N.Nodup) (hi : IWQ φ X N ρ M (.Name x p) iter ds M1)
    (hφ : ∀ m c, φ (Mi m ++ [c])) (hA0 : A 0 = []) (hM0 : Mi 0 = M1) (hz : ds.length ≤ 100000)
    (step : ∀ (m : Nat) d, ds[m]? = some d → ∃ t Mm, (∀ N' s H C cl fp, TJ (X.blk s H scope (compEnvC scope cl C X.env) fp) N' (ρ.set n (some (.d d))) (Mi m) cnd t Mm) ∧ (A m).length ≤ m ∧
      (t = true → ∃ j, A (m + 1) = A m ++ [j] ∧ ∀ N' s H C cl fp, EJ (X.blk s H scope (compEnvC scope cl C X.env) fp) N' (ρ.set n (some (.d d))) Mm elt j (Mi (m + 1))) ∧ (t = false → A (m + 1) = A m ∧ Mi (m + 1) = Mm))
    (hr : ∀ p, p ∉ N.F → SJ X N (ρ.set n' (some (.v (.ref p)))) (Mi ds.length ++ [(p, A ds.length)]) rest Z)
    (hy : X.N[n']? = some nm := by rfl) (hyl : X.env.scope.names.lookup nm = some .local := by rfl)
    (hsw : swapsWith (.ListComp elt [⟨.Name x p, iter, [cnd], 0⟩] scope pos) (some (.Name nm py)) spos.line X.env = pure true := by exact sw_true rfl rfl rfl (by kernel_rfl))
    (ok : BlkOk X.N X.env.scope scope [(x, n)] := by exact blkOk_by (by kernel_rfl))
    (hgn : ∀ (s : Shared) (H : Hp) (C : Addr) (cl : List (Str × Addr)) (fp : List Addr), PG (X.blk s H scope (compEnvC scope cl C X.env) fp) (.Name x p) (gName n) := by exact fun _ _ _ _ _ => pg_name (by assumption) rfl (Or.inl rfl))
    (hf : ∀ x, foldedSetIterable iter X.env x = pure x := by intro _; rfl) : SJ X N ρ M (.Assign [.Name nm py] (.ListComp elt [⟨.Name x p, iter, [cnd], 0⟩] scope pos) spos :: rest) Z := by
  obtain ⟨ti, pi, hi⟩ := hi
  exact sj_lc n' (lj_compQ [n] (gName n) A Mi hi hφ hA0 hM0 hz fun m d hd => by obtain ⟨t, Mm, a, b, c⟩ := step m d hd; exact ⟨_, t, Mm, tgc1 n, a, b, c⟩) (ps_setLc (i := n') (y := nm) (py := py) (spos := spos) hc hN hy hyl hsw pi ok hgn (tt := wBT X scope cnd) (fun s H C cl fp => pts_one ⟨fun pins s1 σ1 H1 Q1 I1 h1 => h1 s H C cl fp pins s1 I1⟩) (te := wBE X scope elt) (fun s H C cl fp => ⟨fun pins s1 σ1 H1 Q1 I1 h1 => h1 s H C cl fp pins s1 I1⟩) hf) hr
theorem sj_setW1 {φ : Mem → Prop} (n' : Nat) {nm : Str} {py spos : Pos} {x : Str} {p : Pos} (n : Nat) {ds : List PyData} (A : Nat → List It) (Mi : Nat → Mem) (hc : X.calm = true) (hN : X.N.Nodup) (hi : IWQ φ X N ρ M (.Name x p) iter ds M1)
    (hφ : ∀ m c, φ (Mi m ++ [c])) (hA0 : A 0 = []) (hM0 : Mi 0 = M1) (hz : ds.length ≤ 100000)
    (step : ∀ (m : Nat) d, ds[m]? = some d → ∃ j, A (m + 1) = A m ++ [j] ∧ (A m).length ≤ m ∧ ∀ N' s H C cl fp, EJ (X.blk s H scope (compEnvC scope cl C X.env) fp) N' (ρ.set n (some (.d d))) (Mi m) elt j (Mi (m + 1)))
    (hr : ∀ p, p ∉ N.F → SJ X N (ρ.set n' (some (.v (.ref p)))) (Mi ds.length ++ [(p, A ds.length)]) rest Z)
    (hy : X.N[n']? = some nm := by rfl) (hyl : X.env.scope.names.lookup nm = some .local := by rfl)
    (hsw : swapsWith (.ListComp elt [⟨.Name x p, iter, [], 0⟩] scope pos) (some (.Name nm py)) spos.line X.env = pure true := by exact sw_true rfl rfl rfl (by kernel_rfl))
    (ok : BlkOk X.N X.env.scope scope [(x, n)] := by exact blkOk_by (by kernel_rfl))
    (hgn : ∀ (s : Shared) (H : Hp) (C : Addr) (cl : List (Str × Addr)) (fp : List Addr), PG (X.blk s H scope (compEnvC scope cl C X.env) fp) (.Name x p) (gName n) := by exact fun _ _ _ _ _ => pg_name (by assumption) rfl (Or.inl rfl))
    (hf : ∀ x, foldedSetIterable iter X.env x = pure x := by intro _; rfl) : SJ X N ρ M (.Assign [.Name nm py] (.ListComp elt [⟨.Name x p, iter, [], 0⟩] scope pos) spos :: rest) Z := by
  obtain ⟨ti, pi, hi⟩ := hi
  exact sj_lc n' (lj_compW [n] (gName n) A Mi hi hφ hA0 hM0 hz fun m d hd => by obtain ⟨j, a, b, c⟩ := step m d hd; exact ⟨_, j, tgc1 n, a, b, c⟩) (ps_setLc (i := n') (y := nm) (py := py) (spos := spos) hc hN hy hyl hsw pi ok hgn (fun _ _ _ _ _ => pts_nil) (te := wBE X scope elt) (fun s H C cl fp => ⟨fun pins s1 σ1 H1 Q1 I1 h1 => h1 s H C cl fp pins s1 I1⟩) hf) hr
theorem eqvAll_ints : ∀ (a b : List Int), PyData.eqvAll (a.map .int) (b.map .int) = decide (a = b)
  | [], [] => by simp [PyData.eqvAll]
  | [], _ :: _ => by simp [PyData.eqvAll]
  | _ :: _, [] => by simp [PyData.eqvAll]
  | x :: xs, y :: ys => by
    have ih := eqvAll_ints xs ys
    show (PyData.eqv (.int x) (.int y) && PyData.eqvAll (xs.map .int) (ys.map .int)) = _
    rw [ih]
    show ((x == y) && _) = _
    by_cases e : x = y <;> by_cases e2 : xs = ys <;> simp [e, e2]
theorem eqv_ints (a b : List Int) : PyData.eqv (.list (a.map .int)) (.list (b.map .int)) = decide (a = b) := eqvAll_ints a b
end
section
variable {X : Cx} {N : Ent} {ρ ρ' : Rho} {M M1 M2 Mc Mc' Mr : Mem} {e : Expr} {es : List Expr} {pos p p2 p3 : Pos} {is : List It} {Z : Post} {rest Ab : List Stmt}
/-- if not f(..): A, where f gives True and changes cells of its own -/
theorem sj_ifNotN {y : Str} {l : Nat} {A : Pre} {B : Co} (F : DefN X.prog X.w X.K X.mg X.base y l A B) (hr : Room l X.A) (ha : AJ X N ρ M (e :: es) is M1) (hM : M1 = Mc ++ Mr) (hA : A is Mc)
    (hk : ∀ i Mc', B is Mc i Mc' → i = dB true ∧ SJ X N ρ (Mc' ++ Mr) rest Z)
    (hg : Gl X y := by rfl) (hdb : (y == ("__debug__" : Str)) = false := by decide) (he : starEach (e :: es) X.env = (false, eval e X.env) :: starEach es X.env := by rfl) (hpl : (backTo pos (starEach es X.env)).any (·.1) = false := by rfl)
    (hv : ∀ whole, isTrue (.Call (.Name y p) (e :: es) [] pos) X.env whole = (do let v ← whole; standAt (Expr.Call (.Name y p) (e :: es) [] pos).pos; holding [v] (truthy v)) := by intro _; rfl) :
    SJ X N ρ M (.If (.UnaryOp .Not (.Call (.Name y p) (e :: es) [] pos) p2) Ab [] p3 :: rest) Z := sj_cons fun σ H P hh g D E tk z => by
  obtain ⟨f, fd, ps, F1, hm, hkp, hb⟩ := F.ex
  refine s_of (ps_if (pt_not (pt_val (pe_call F1 hr hg hm hkp hb .nil pass0 pa_w hdb he hpl) hv)) pss_w pss_w) (ha σ H P hh g _ fun vs H1 P1 e1 h1 r1 => ?_)
  subst hM
  refine ⟨P1, is, Mc, h1.enter, ?_, hA, fun i M' v H' P' hB h' r' => ?_⟩
  · rw [List.append_nil]; exact r1
  · obtain ⟨rfl, hs⟩ := hk i M' hB
    refine ⟨true, ri_bl r', ?_⟩
    have h2 := h1.leave h'
    exact iteF (sj_nil (Z := { Z with nx := fun ρ' M' => SJ X N ρ' M' rest Z }) hs σ H' P' h2 (g.ex (e1.trans h'.ex0)) D E tk (z.ex (e1.trans h'.ex0)))
end
end Kt

/-! Kua: comprehensions over two ranges; xs[i] op= e; max of a list of one's own; str of an int; x, y = e with other shapes. -/
namespace Kt
open PySem PySem.Spec PyProof PyProof.Rows L2
def wBA (X : Cx) (scope : Scope) (es : List Expr) : TA := fun σ H Q => ∀ s H0 C cl fp, wA (X.blk s H0 scope (compEnvC scope cl C X.env) fp) es σ H Q
def rrD (f : Nat → Nat → PyData) (m n : Nat) : List PyData := (List.range m).flatMap fun i => (List.range n).map (f i)
theorem rrD_succ (f : Nat → Nat → PyData) (m n : Nat) : rrD f (m + 1) n = rrD f m n ++ (List.range n).map (f m) := by
  unfold rrD
  rw [List.range_succ, List.flatMap_append]
  simp
theorem rrD_len (f : Nat → Nat → PyData) (n : Nat) : ∀ m, (rrD f m n).length = m * n
  | 0 => by simp [rrD]
  | m + 1 => by
    rw [rrD_succ, List.length_append, rrD_len f n m, List.length_map, List.length_range, Nat.succ_mul]
section
variable {X : Cx} {N : Ent} {ρ ρ' : Rho} {M M1 M2 M3 M' Mc Mr Mc' : Mem} {a b c e elt iter iter1 : Expr} {pos p pos' : Pos} {i j k : It} {t u : Bool} {scope : Scope} {Z : Post} {rest : List Stmt}
/-- [elt for x in range(a) for y in range(b)] -/
theorem el_comp2R {x y : Str} {px py p1 p2 p3 p4 : Pos} (n1 n2 : Nat) {z1 z2 : Int} (f : Nat → Nat → PyData) (hc : X.calm = true) (hmr : X.mg "range" = none) (hN : X.N.Nodup) (ne : n1 ≠ n2) (hi : EJ X N ρ M a (dI z1) M1)
    (h1 : -(2 ^ 62) ≤ z1 ∧ z1 < 2 ^ 62) (h2 : -(2 ^ 62) ≤ z2 ∧ z2 < 2 ^ 62) (hz : z1.toNat * z2.toNat ≤ 100000)
    (src : ∀ i < z1.toNat, ∀ N' s H C cl fp, EJ (X.blk s H scope (compEnvC scope cl C X.env) fp) N' ((ρ.set n2 none).set n1 (some (dI (i : Int)))) M1 b (dI z2) M1)
    (step : ∀ i < z1.toNat, ∀ j < z2.toNat, ∀ N' s H C cl fp, EJ (X.blk s H scope (compEnvC scope cl C X.env) fp) N' (((ρ.set n2 none).set n1 (some (dI (i : Int)))).set n2 (some (dI (j : Int)))) M1 elt (.d (f i j)) M1)
    (ok : BlkOk X.N X.env.scope scope [(x, n1), (y, n2)] := by exact blkOk_by (by kernel_rfl))
    (hg1 : ∀ (s : Shared) (H : Hp) (C : Addr) (cl : List (Str × Addr)) (fp : List Addr), PG (X.blk s H scope (compEnvC scope cl C X.env) fp) (.Name x px) (gName n1) := by exact fun _ _ _ _ _ => pg_name (by assumption) rfl (Or.inl rfl))
    (hg2 : ∀ (s : Shared) (H : Hp) (C : Addr) (cl : List (Str × Addr)) (fp : List Addr), PG (X.blk s H scope (compEnvC scope cl C X.env) fp) (.Name y py) (gName n2) := by exact fun _ _ _ _ _ => pg_name (by assumption) rfl (Or.inl rfl))
    (hgr : Gl X "range" := by rfl) (hgr1 : ∀ (s : Shared) (H : Hp) (C : Addr) (cl : List (Str × Addr)) (fp : List Addr), Gl (X.blk s H scope (compEnvC scope cl C X.env) fp) "range" := by exact fun _ _ _ _ _ => rfl)
    (hs : starEach [a] X.env = [(false, eval a X.env)] := by rfl) (hs1 : ∀ (cl : List (Str × Addr)) (C : Addr), starEach [b] (compEnvC scope cl C X.env) = [(false, eval b (compEnvC scope cl C X.env))] := by exact fun _ _ => rfl)
    (hf : ∀ x, foldedSetIterable (.Call (.Name "range" p1) [a] [] p2) X.env x = pure x := by intro _; rfl) (hf1 : ∀ env x, foldedSetIterable (.Call (.Name "range" p3) [b] [] p4) env x = pure x := by intro _ _; rfl) :
    EL X N ρ M (.ListComp elt [⟨.Name x px, .Call (.Name "range" p1) [a] [] p2, [], 0⟩, ⟨.Name y py, .Call (.Name "range" p3) [b] [] p4, [], 0⟩] scope pos) ((rrD f z1.toNat z2.toNat).map It.d) M1 := fun σ H P hh g Q q => by
  have pi1 : ∀ (s : Shared) (H : Hp) (C : Addr) (cl : List (Str × Addr)) (fp : List Addr), PI (X.blk s H scope (compEnvC scope cl C X.env) fp) (.Name y py) (.Call (.Name "range" p3) [b] [] p4) (iRng1 (wBA X scope [b])) := fun s H C cl fp =>
    pi_range1 (X := X.blk s H scope (compEnvC scope cl C X.env) fp) (hgr1 s H C cl fp) hmr ⟨fun pos pins s1 σ1 H1 Q1 I1 h1 => h1 s H C cl fp pos pins s1 I1⟩ (hs1 cl C)
  refine e_of (pe_lc2 (vs1 := [n2]) (te := wBE X scope elt) hc hN (pi_range1 hgr hmr pa_w hs) ok (by simp) hg1 (fun _ _ _ _ _ => pts_nil) pi1 hg2 (fun _ _ _ _ _ => pts_nil) (fun s H C cl fp => ⟨fun pins s1 σ1 H1 Q1 I1 h1 => h1 s H C cl fp pins s1 I1⟩) hf hf1) (aj_cons hi aj_nil hs σ H P hh g _ fun vs H1 P1 e1 h1' r1 => ?_)
  obtain ⟨v, rfl, r2⟩ := ri1 r1
  cases ri_int r2
  refine ⟨z1, rfl, h1.1, h1.2, fun D hD => ?_⟩
  refine ⟨fun i m H => m = z1.toNat - i ∧ i ≤ z1.toNat ∧ ∃ P', Holds N P' H (M1 ++ [(D, (rrD f i z2.toNat).map It.d)]) ∧ Ex P1 P', ⟨z1.toNat, by simp, Nat.zero_le _, P1, h1'.own hD (its := []) trivial, Ex.refl _⟩, ?_⟩
  rintro i m H2 ⟨rfl, hil, P2, h2', e2⟩
  by_cases hlt : i < z1.toNat
  · refine .inr ⟨hlt, fun H' => ∃ P', Holds N P' H' (M1 ++ [(D, (rrD f (i + 1) z2.toNat).map It.d)]) ∧ Ex P1 P', fun H' p' => ⟨z1.toNat - (i + 1), by omega, rfl, hlt, p'⟩, fun x' H' yl => ?_⟩
    obtain ⟨rfl, rfl⟩ := yl
    refine ⟨wipe_first ne, ?_⟩
    unfold tYes
    dsimp only
    rw [if_pos rfl]
    have g2 : Slots P2 ((wipe σ [n1, n2]).set n1 (some (.int ((0 : Int) + (i : Nat))))) ((ρ.set n2 none).set n1 (some (dI (i : Int)))) := by
      have e : (wipe σ [n1, n2]).set n1 (some (V.int ((0 : Int) + (i : Nat)))) = (σ.set n2 none).set n1 (some (V.int ((0 : Int) + (i : Nat)))) := by
        show ((σ.set n2 none).set n1 none).set n1 (some _) = _
        rw [List.set_set]
      rw [e, Int.zero_add]
      exact ((g.ex (e1.trans e2)).unset n2 none).set (it := dI (i : Int)) (.int _) n1
    have ajb : ∀ s H0 C cl fp, AJ (X.blk s H0 scope (compEnvC scope cl C X.env) fp) (inner P2 H' M1) ((ρ.set n2 none).set n1 (some (dI (i : Int)))) M1 [b] [dI z2] M1 := fun s H0 C cl fp => aj_cons (src i hlt (inner P2 H' M1) s H0 C cl fp) aj_nil (hs1 cl C)
    intro s H0 C cl fp
    refine ajb s H0 C cl fp _ H' P2 h2'.enter g2 _ fun ws H4 P4 e4 h4 r4 => ?_
    have h5 := h2'.leave h4
    obtain ⟨w, rfl, r5⟩ := ri1 r4
    cases ri_int r5
    refine ⟨z2, rfl, h2.1, h2.2, ?_⟩
    refine ⟨fun j k H => k = z2.toNat - j ∧ j ≤ z2.toNat ∧ ∃ P', Holds N P' H (M1 ++ [(D, (rrD f i z2.toNat ++ (List.range j).map (f i)).map It.d)]) ∧ Ex P4 P', ⟨z2.toNat, by simp, Nat.zero_le _, P4, by simpa using h5, Ex.refl _⟩, ?_⟩
    rintro j k H6 ⟨rfl, hjl, P6, h6, e6⟩
    by_cases hjt : j < z2.toNat
    · refine .inr ⟨hjt, fun H' => ∃ P', Holds N P' H' (M1 ++ [(D, (rrD f i z2.toNat ++ (List.range (j + 1)).map (f i)).map It.d)]) ∧ Ex P4 P', fun H' p' => ⟨z2.toNat - (j + 1), by omega, rfl, hjt, p'⟩, fun x7 H7 yl7 => ?_⟩
      obtain ⟨rfl, rfl⟩ := yl7
      refine ⟨wipe_comp n2, ?_⟩
      dsimp only
      rw [if_pos rfl]
      intro s H0 C cl fp
      have g7 : Slots P6 _ (((ρ.set n2 none).set n1 (some (dI (i : Int)))).set n2 (some (dI (j : Int)))) := slots_comp (v := .int ((0 : Int) + (j : Nat))) (g2.ex (e4.trans e6)) n2 (i := dI (j : Int)) (by rw [Int.zero_add]; exact .int _)
      refine step i hlt j hjt (inner P6 H7 M1) s H0 C cl fp _ H7 P6 h6.enter g7 _ fun y8 H8 P8 e8 h8 r8 => ?_
      have h9 := h6.leave h8
      obtain ⟨acc, ea, ra⟩ := h9.cell (a := D) (its := (rrD f i z2.toNat ++ (List.range j).map (f i)).map It.d) (List.mem_append_right _ (List.mem_singleton.mpr rfl))
      refine ⟨acc, ea, ?_, P8, ?_, e6.trans e8⟩
      · rw [ra.len]
        refine Nat.lt_of_lt_of_le (m := 100000) ?_ (by decide)
        rw [List.length_map, List.length_append, rrD_len, List.length_map, List.length_range]
        have : (i + 1) * z2.toNat ≤ z1.toNat * z2.toNat := Nat.mul_le_mul_right _ hlt
        rw [Nat.succ_mul] at this
        omega
      · have h10 := h9.write (a := D) (its := (rrD f i z2.toNat ++ (List.range j).map (f i)).map It.d) (its' := (rrD f i z2.toNat ++ (List.range (j + 1)).map (f i)).map It.d) (List.mem_append_right _ (List.mem_singleton.mpr rfl)) (xs' := acc ++ [y8]) (by
          have e11 : (rrD f i z2.toNat ++ (List.range (j + 1)).map (f i)).map It.d = (rrD f i z2.toNat ++ (List.range j).map (f i)).map It.d ++ [It.d (f i j)] := by
            rw [List.range_succ, List.map_append, List.map_append, List.map_append, List.map_append, List.append_assoc]
            rfl
          rw [e11]
          exact ra.app ⟨r8, trivial⟩)
        rw [put_last h9.nd] at h10
        exact h10
    · have ej : j = z2.toNat := by omega
      subst ej
      refine .inl ⟨Nat.le_refl _, P6, ?_, (e2.trans e4).trans e6⟩
      rw [rrD_succ]
      exact h6
  · have ei : i = z1.toNat := by omega
    subst ei
    exact .inl ⟨Nat.le_refl _, q D H2 P2 (e1.trans e2) (h1'.newF hD) h2'⟩
/-! xs[i] op= e -/
def rGetN : V → V → Hp → VK → Prop := fun o i H Q => ∃ p xs k v, o = .ref p ∧ i = .int k ∧ H p = some (.lst xs) ∧ 0 ≤ k ∧ xs[k.toNat]? = some v ∧ Q v H
theorem get_listN : PGet X rGetN := by
  intro pins s σ H o i ov iv Q I ro ri h
  obtain ⟨p, xs, k, v, rfl, rfl, hp, h0, hv, q⟩ := h
  cases ro
  obtain ⟨t, rfl⟩ := ri
  obtain ⟨its, r, pl, hz⟩ := I.list (show SqL X.K H p xs from .inl (.inl hp))
  obtain ⟨w, ew, rw'⟩ := r.get hv
  have hl := r.length
  have hn := line63
  have kl : k.toNat < xs.length := (List.getElem?_eq_some_iff.mp hv).1
  exact wpAny_getItem_list pl.isList h0 (by omega) (by simpa using ew) ⟨v, H, I, rw', q⟩
theorem sj_augO {o x : Expr} {tpos : Pos} {op : Operator} {g : Int → Int → Int} {p : Addr} {is : List It} {n : Nat} {z1 z2 : Int} (hp : PIp X op (ipI g)) (ho : EJ X N ρ M o (.v (.ref p)) M) (hx : EJ X N ρ M x (dI (n : Int)) M) (he : EJ X N ρ M e (dI z2) M) (hm : (p, is) ∈ M) (hn : is[n]? = some (dI z1)) (hr : SJ X N ρ (M.put p (is.set n (dI (g z1 z2)))) rest Z)
    (ha : ∀ ov iv new, augStore x ov iv new = (do holding [new, ov, iv] (setItem ov iv new); release [new, ov, iv] []; pure .next) := by intros; rfl) : SJ X N ρ M (.AugAssign (.Subscript o x tpos) op e pos :: rest) Z := sj_cons fun σ H P hh g0 D E tk z => by
  refine s_of (ps_augS pe_w pe_w get_listN pe_w hp set_list ha) (ho σ H P hh g0 _ fun ov H1 P1 e1 h1 r1 => hx σ H1 P1 h1 (g0.ex e1) _ fun iv H2 P2 e2 h2 r2 => ?_)
  cases r1
  cases ri_int r2
  obtain ⟨xs, e4, r4⟩ := h2.cell hm
  obtain ⟨v, ev, rv⟩ := r4.get hn
  cases ri_int rv
  refine ⟨p, xs, (n : Int), .int z1, rfl, rfl, e4, by omega, ev, he σ H2 P2 h2 (g0.ex (e1.trans e2)) _ fun w H3 P3 e3 h3 r3 => ?_⟩
  cases ri_int r3
  obtain ⟨xs3, e5, r5⟩ := h3.cell hm
  have z4 := r5.len
  have nl : n < is.length := (List.getElem?_eq_some_iff.mp hn).1
  refine ⟨z1, z2, rfl, rfl, p, xs3, (n : Int), n, rfl, rfl, e5, ?_, ?_⟩
  · unfold ixN
    rw [if_pos (by omega), if_pos (by omega)]
    simp
  · exact z.nx ρ _ σ _ P3 hr ((e1.trans e2).trans e3) (h3.write hm (r5.set (show RepI P3 (.int (g z1 z2)) (dI (g z1 z2)) from Dn.int _) n)) (g0.ex ((e1.trans e2).trans e3))
/-- max of a list of one's own -/
theorem ej_maxO {p q : Pos} {o : Addr} {ns : List Int} {m : Int} (hc : X.calm = true) (hm : X.mg "max" = none) (ha : EJ X N ρ M a (.v (.ref o)) M1) (hM : (o, ns.map dI) ∈ M1) (h1 : m ∈ ns) (h2 : ∀ y ∈ ns, y ≤ m) (hg : Gl X "max" := by rfl) (he : starEach [a] X.env = [(false, eval a X.env)] := by rfl) (hpl : (backTo q (starEach ([] : List Expr) X.env)).any (·.1) = false := by rfl) :
    EJ X N ρ M (.Call (.Name "max" p) [a] [] q) (dI m) M1 := ej_callB (cr_max hc) hm (by decide +kernel) (aj_cons ha aj_nil he) (fun vs H P h rr Q q => by
  obtain ⟨x, rfl, r⟩ := ri1 rr
  cases r
  obtain ⟨ys, h3, h4⟩ := h.cell hM
  have h5 : DnAll P ys (ns.map PyData.int) := RepIs.to_all (by rw [List.map_map]; exact h4)
  cases h5.ints
  refine ⟨o, ns, rfl, .inl (.inl h3), List.length_pos_of_mem h1, fun m' hm' hy => ?_⟩
  have e : m' = m := by have := hy m h1; have := h2 m' hm'; omega
  exact q _ H P (Ex.refl P) h (e ▸ .int _)) hg (by decide) (by decide) he hpl
/-- str of an int -/
theorem ej_strI {p q : Pos} {n : Int} (hm : X.mg "str" = none) (ha : EJ X N ρ M a (dI n) M1) (hz : n.natAbs.log2 < 1920) (hg : Gl X "str" := by rfl) (he : starEach [a] X.env = [(false, eval a X.env)] := by rfl) (hpl : (backTo q (starEach ([] : List Expr) X.env)).any (·.1) = false := by rfl) :
    EJ X N ρ M (.Call (.Name "str" p) [a] [] q) (.d (.str (toString n))) M1 := ej_callTy call_str_int hm (by decide +kernel) (aj_cons ha aj_nil he) (fun vs H P h rr Q k => by
  obtain ⟨x, rfl, r⟩ := ri1 rr
  cases ri_int r
  exact ⟨n, rfl, hz, k _ H P (Ex.refl P) h (.str _)⟩) hg (by decide) (by decide) he hpl
end
end Kt

/-! Kub: min with default=None, list.index, xs[::-1], sum of a list of one's own, x = [a new list]. -/
namespace Kt
open PySem PySem.Spec PyProof PyProof.Rows L2
def oD : Option Nat → PyData
  | none => .none
  | some v => .int (v : Int)
def oV : Option Nat → V
  | none => .non
  | some v => .int (v : Int)
theorem dn_opt {H : Hp} : ∀ {vs : List V} {l : List (Option Nat)}, DnAll H vs (l.map oD) → vs = l.map oV
  | [], [], _ => rfl
  | [], _ :: _, h => by cases h
  | _ :: _, [], h => by cases h
  | v :: vs, o :: l, h => by
    cases h with
    | cons a b =>
      have e := dn_opt b
      subst e
      cases o with
      | none => cases a; rfl
      | some x => cases a; rfl
theorem foldmin_ok : ∀ (r : List Int) (n : Int), r.foldl min n ∈ n :: r ∧ ∀ y ∈ n :: r, r.foldl min n ≤ y
  | [], n => ⟨List.mem_cons_self, fun y hy => by rw [List.mem_singleton.mp hy]; exact Int.le_refl _⟩
  | k :: r, n => by
    obtain ⟨a, b⟩ := foldmin_ok r (min n k)
    show r.foldl min (min n k) ∈ _ ∧ ∀ y ∈ _, r.foldl min (min n k) ≤ y
    refine ⟨?_, fun y hy => ?_⟩
    · rcases List.mem_cons.mp a with e | e
      · rw [e]
        rcases Int.le_total n k with c | c
        · rw [Int.min_eq_left c]
          exact List.mem_cons_self
        · rw [Int.min_eq_right c]
          exact List.mem_cons_of_mem _ List.mem_cons_self
      · exact List.mem_cons_of_mem _ (List.mem_cons_of_mem _ e)
    · have m0 := b (min n k) List.mem_cons_self
      rcases List.mem_cons.mp hy with rfl | hy
      · omega
      · rcases List.mem_cons.mp hy with rfl | hy
        · omega
        · exact b y (List.mem_cons_of_mem _ hy)
theorem depth_ints : ∀ ns : List Int, PyData.depthAll (ns.map PyData.int) ≤ 0
  | [] => Nat.le_refl _
  | n :: ns => by
    show max (PyData.depth (.int n)) (PyData.depthAll (ns.map PyData.int)) ≤ 0
    have := depth_ints ns
    have e : PyData.depth (.int n) = 0 := rfl
    omega
theorem alike_ints (ns : List Int) : PySem.W.AlikeAll (ns.map PyData.int) := by
  refine ⟨fun x hx y hy => ?_, fun x hx => ?_⟩
  · obtain ⟨a, _, rfl⟩ := List.mem_map.mp hx
    obtain ⟨b, _, rfl⟩ := List.mem_map.mp hy
    simp only [PySem.W.alike]
  · obtain ⟨a, _, rfl⟩ := List.mem_map.mp hx
    exact fun h => by cases h
def rMinDf (K : PySem.W.Frag) : List V → List V → Hp → VK → Prop := fun xs zs H Q => ∃ (a : Addr) (ns : List Int), xs = [.ref a] ∧ zs = [.non] ∧ SqL K H a (ns.map V.int) ∧ (ns = [] → Q .non H) ∧ ∀ m, m ∈ ns → (∀ y, y ∈ ns → m ≤ y) → Q (.int m) H
theorem cr_minDf {X : Cx} (hc : X.calm = true) (hu : X.A.units + 64 < cLine) : CallRK X (.builtin "min") ["default"] (rMinDf X.K) := by
  intro pins s σ H xs zs us ws Q I rx rz h
  obtain ⟨a, ns, rfl, rfl, hs, q0, q⟩ := h
  obtain ⟨its, rv, hl, _⟩ := I.list hs
  rw [Vals.ref1 rx]
  have ew : ws = [.none] := by
    cases rz with
    | cons r t => cases t; cases r; rfl
  subst ew
  have hI : IntsAre its ns := rv.ints
  have hr : ReadsAll s.heap its.toArray.toList (ns.map .int) [] := by simpa using hI.reads s.heap
  have hd := depth_ints ns
  refine PySem.W.min_list_default (d := .none) (I.ok.hd hc) hl.isList hr (alike_ints ns) (by omega) (fun e h' tk hk => ?_) (fun y ys i v h' tk bs e hv rd hk => ?_)
  · have : ns = [] := by simpa using e
    exact ⟨.non, H, I.kept hk, rfl, q0 this⟩
  · cases ns with
    | nil => cases e
    | cons n r =>
      injection e with e1 e2
      subst e1 e2
      rw [PySem.W.minD_ints] at rd
      obtain ⟨m1, m2⟩ := foldmin_ok r n
      cases rd
      exact ⟨.int _, H, I.kept hk, ⟨_, rfl⟩, q _ m1 m2⟩
section
variable {X : Cx} {N : Ent} {ρ ρ' : Rho} {M M1 M2 M3 : Mem} {a b c e : Expr} {pos p : Pos} {i j k : It} {Z : Post} {rest : List Stmt}
theorem ej_minDf {q kp kp2 : Pos} {kk : Nat} {ns : List Int} {d : PyData} (hc : X.calm = true) (hu : X.A.units + 64 < cLine) (hm : X.mg "min" = none) (ha : EJ X N ρ M a (.d (.list (ns.map .int))) M1) (h0 : ns = [] → d = .none) (h1 : ∀ m, m ∈ ns → (∀ y ∈ ns, m ≤ y) → d = .int m)
    (hg : Gl X "min" := by rfl) (hst : starEach [a] X.env = [(false, eval a X.env)] := by rfl) (he : backTo q (starEach [a] X.env) = (false, eval a X.env) :: backTo q (starEach [] X.env) := by rfl) (hpl : (backTo q (starEach [a] X.env)).any (·.1) = false := by rfl)
    (hall : (backToKw q (keywordEach [⟨some "default", .Constant .none kk kp, kp2⟩] X.env)).all (·.1.isSome) = true := by rfl) (hnone : (backToKw q (keywordEach [⟨some "default", .Constant .none kk kp, kp2⟩] X.env)).any (·.1.isNone) = false := by rfl) (hks : (backToKw q (keywordEach [⟨some "default", .Constant .none kk kp, kp2⟩] X.env)).filterMap (·.1) = ([("default" : Str)] : List Str) := by rfl) :
    EJ X N ρ M (.Call (.Name "min" p) [a] [⟨some "default", .Constant .none kk kp, kp2⟩] q) (.d d) M1 := fun σ H P hh g Q k =>
  e_of (pe_callBK (cr_minDf hc hu) hg hm (by decide +kernel) pa_w (pk_cons pe_w pk_nil) (by decide) (by decide) he hpl hall hnone hks) (aj_cons ha aj_nil hst σ H P hh g _ fun vs H1 P1 e1 h1' r1 => by
    obtain ⟨x, rfl, r⟩ := ri1 r1
    obtain ⟨y, ys, rfl, x1, x2⟩ := ri_lst r
    cases x2.ints
    refine ej_non (X := X) (N := N) (ρ := ρ) (M := M1) σ H1 P1 h1' (g.ex e1) _ fun v H2 P2 e2 h2 r2 => ?_
    cases ri_non r2
    refine ⟨y, ns, rfl, rfl, .inl (.inl (h2.ex _ _ (e2 _ _ x1))), fun e0 => ?_, fun m hm hy => ?_⟩
    · refine k _ H2 P2 (e1.trans e2) h2 ?_
      rw [h0 e0]
      exact .non
    · refine k _ H2 P2 (e1.trans e2) h2 ?_
      rw [h1 m hm hy]
      exact .int _)
theorem ej_minL {p q : Pos} {ns : List Int} {m : Int} (hc : X.calm = true) (hm : X.mg "min" = none) (ha : EJ X N ρ M a (.d (.list (ns.map PyData.int))) M1) (h1 : m ∈ ns) (h2 : ∀ y ∈ ns, m ≤ y) (hg : Gl X "min" := by rfl) (he : starEach [a] X.env = [(false, eval a X.env)] := by rfl) (hpl : (backTo q (starEach ([] : List Expr) X.env)).any (·.1) = false := by rfl) :
    EJ X N ρ M (.Call (.Name "min" p) [a] [] q) (dI m) M1 := ej_callB (cr_min hc) hm (by decide +kernel) (aj_cons ha aj_nil he) (fun vs H P h rr Q q => by
  obtain ⟨x, rfl, r⟩ := ri1 rr
  obtain ⟨y, ys, rfl, h3, h4⟩ := ri_lst r
  cases h4.ints
  refine ⟨y, ns, rfl, .inl (.inl (h.ex _ _ h3)), List.length_pos_of_mem h1, fun m' hm' hy => ?_⟩
  have e : m' = m := by have := hy m h1; have := h2 m' hm'; omega
  exact q _ H P (Ex.refl P) h (e ▸ .int _)) hg (by decide) (by decide) he hpl
/-- sum of a list of one's own -/
theorem ej_sumO {p q : Pos} {o : Addr} {ns : List Int} (hc : X.calm = true) (hm : X.mg "sum" = none) (ha : EJ X N ρ M a (.v (.ref o)) M1) (hM : (o, ns.map dI) ∈ M1) (hg : Gl X "sum" := by rfl) (he : starEach [a] X.env = [(false, eval a X.env)] := by rfl) (hpl : (backTo q (starEach ([] : List Expr) X.env)).any (·.1) = false := by rfl) :
    EJ X N ρ M (.Call (.Name "sum" p) [a] [] q) (dI ns.sum) M1 := ej_callB (cr_sum hc) hm (by decide +kernel) (aj_cons ha aj_nil he) (fun vs H P h rr Q q => by
  obtain ⟨x, rfl, r⟩ := ri1 rr
  cases r
  obtain ⟨ys, h3, h4⟩ := h.cell hM
  have h5 : DnAll P ys (ns.map PyData.int) := RepIs.to_all (by rw [List.map_map]; exact h4)
  cases h5.ints
  exact ⟨o, ns, rfl, .inl (.inl h3), q _ H P (Ex.refl P) h (.int _)⟩) hg (by decide) (by decide) he hpl
theorem DnAll.rev {P : Hp} : ∀ {xs : List V} {ds : List PyData}, DnAll P xs ds → DnAll P xs.reverse ds.reverse
  | _, _, .nil => .nil
  | _, _, .cons a b => by
    rw [List.reverse_cons, List.reverse_cons]
    exact (DnAll.rev b).app (.cons a .nil)
/-- xs[::-1] -/
theorem el_rev {ds : List PyData} {kk : Nat} {p1 p2 p3 : Pos} (ha : EJ X N ρ M a (.d (.list ds)) M1) : EL X N ρ M (.Subscript a (.Slice none none (some (.UnaryOp .USub (.Constant (.int 1) kk p1) p2)) p3) pos) (ds.reverse.map It.d) M1 := fun σ H P hh g Q q =>
  e_of (pe_revL pe_w) (ha σ H P hh g _ fun x H1 P1 e1 h1 r1 => by
    obtain ⟨a, xs, rfl, h3, h4⟩ := ri_lst r1
    exact ⟨a, xs, rfl, .inl (.inl (h1.ex _ _ h3)), fun p hp => q p _ P1 e1 (h1.newF hp) (h1.own hp (RepIs.of_all h4.rev))⟩)
/-- xs.index(v), of whole numbers and None -/
theorem ej_index {ap epos : Pos} {l : List (Option Nat)} {v j : Nat} (ho : EJ X N ρ M a (.d (.list (l.map oD))) M1) (he : EJ X N ρ M1 e (dI (v : Int)) M2) (hj : l[j]? = some (some v)) (hf : ∀ m < j, l[m]? ≠ some (some v))
    (hst : starEach [e] X.env = [(false, eval e X.env)] := by rfl) (ps : PE X (.Call (.Attribute a "index" ap) [e] [] epos) (tBM X.K "list" (rIndex X.K) (wE X a) (wA X [e])) := by exact pe_bm PySem.F.plainAttrs_list PySem.F.slot_list_index PySem.F.type_list_index mt_index pe_w pa_w) :
    EJ X N ρ M (.Call (.Attribute a "index" ap) [e] [] epos) (dI (j : Int)) M2 := fun σ H P hh g Q q =>
  e_of ps (ho σ H P hh g _ fun x H1 P1 e1 h1 r1 => by
    obtain ⟨y, ys, rfl, h3, h4⟩ := ri_lst r1
    have e0 := dn_opt h4
    subst e0
    refine ⟨.inl ⟨rfl, _, .inl (.inl (h1.ex _ _ h3))⟩, ?_⟩
    refine aj_cons he aj_nil hst σ H1 P1 h1 (g.ex e1) _ fun vs H2 P2 e2 h2 r2 => ?_
    obtain ⟨z, rfl, r3⟩ := ri1 r2
    cases ri_int r3
    refine ⟨y, l.map oV, .int (v : Int), j, .int (v : Int), rfl, rfl, .inl (.inl (h2.ex _ _ (e2 _ _ h3))), rfl, ?_, ?_, ?_, fun m z' hm hz => ?_, q _ H2 P2 (e1.trans e2) h2 (.int _)⟩
    · rw [List.all_eq_true]
      intro w hw
      obtain ⟨o, _, rfl⟩ := List.mem_map.mp hw
      cases o <;> rfl
    · rw [List.getElem?_map, hj]
      rfl
    · show ((v : Int) == (v : Int)) = true
      simp
    · rw [List.getElem?_map] at hz
      cases hl : l[m]? with
      | none => rw [hl] at hz; cases hz
      | some o =>
        rw [hl] at hz
        have hz := Option.some.inj hz
        subst hz
        cases o with
        | none => rfl
        | some u =>
          show ((u : Int) == (v : Int)) = false
          have : u ≠ v := fun e => hf m hm (by rw [hl, e])
          simp
          omega)
/-- x = [a new list] -/
theorem sj_ownLL (n : Nat) {x : Str} {pos' lp : Pos} {is : List It} (hN : X.N.Nodup) (he : EL X N ρ M e is M1) (hr : ∀ q o, q ∉ N.F → o ∉ N.F → SJ X N (ρ.set n (some (.v (.ref o)))) (M1 ++ [(q, is)] ++ [(o, [.v (.ref q)])]) rest Z) (hi : X.N[n]? = some x := by rfl) (hx : Loc X.env.scope x := by first | exact .inl rfl | exact .inr rfl) (hs : swapsWith (.List [e] lp) (some (.Name x pos')) pos.line X.env = pure false := by rfl) (hf : X.fn x = true ∨ X.env.scope.names.lookup x = some .local := by first | exact .inl rfl | exact .inr rfl)
    (hst : starEach [e] X.env = (false, eval e X.env) :: starEach [] X.env := by rfl) :
    SJ X N ρ M (.Assign [.Name x pos'] (.List [e] lp) pos :: rest) Z := sj_cons fun σ H P hh g D E tk z =>
  s_of (ps_set (i := n) hN hi hx (pe_lst (pa_cons pe_w pa_nil hst)) hs hf) (he σ H P hh g _ fun p H1 P1 e1 hp h1 => ⟨(by show 1 ≤ sizeLine; decide), fun q hq => z.nx _ _ _ _ P1 (hr p q hp (h1.newF hq)) e1 (h1.own hq ⟨rfl, trivial⟩) ((g.ex e1).set (it := .v (.ref q)) rfl n)⟩)
theorem Holds.retype {P H : Hp} {its its' : List It} {o : Addr} (h : Holds N P H (M ++ [(o, its)])) (r : ∀ xs, RepIs P xs its → RepIs P xs its') : Holds N P H (M ++ [(o, its')]) := by
  have e : (M ++ [(o, its')]).map Prod.fst = (M ++ [(o, its)]).map Prod.fst := by simp
  refine { exw := h.exw, ex0 := h.ex0, fr := h.fr, nw := h.nw, mem := fun c hc => ?_, nd := by rw [e]; exact h.nd, mf := fun a ha => by rw [e]; exact h.mf a ha, fs := fun c hc => ?_, uf := h.uf, pf := h.pf }
  · rcases List.mem_append.mp hc with hc | hc
    · exact h.mem c (List.mem_append_left _ hc)
    · rw [List.mem_singleton.mp hc]
      obtain ⟨a, xs, b, d⟩ := h.mem (o, its) (List.mem_append_right _ (List.mem_singleton.mpr rfl))
      exact ⟨a, xs, b, r xs d⟩
  · rcases List.mem_append.mp hc with hc | hc
    · exact h.fs c (List.mem_append_left _ hc)
    · rw [List.mem_singleton.mp hc]
      exact h.fs (o, its) (List.mem_append_right _ (List.mem_singleton.mpr rfl))
/-- the only item of a list of one's own becomes data -/
theorem sj_freezeIn {q o : Addr} {ds : List PyData} {sts : List Stmt} (hq : q ∉ N.F) (hr : SJ X N ρ (M ++ [(o, [.d (.list ds)])]) sts Z) : SJ X N ρ (M ++ [(q, ds.map It.d)] ++ [(o, [.v (.ref q)])]) sts Z := fun σ H P hh g D E tk z => by
  obtain ⟨P', e, dn, h'⟩ := hh.freeze (a := q) (ds := ds) (by simp) hq
  have nd := hh.nd
  have ef : ((M ++ [(q, ds.map It.d)] ++ [(o, [It.v (.ref q)])]).filter fun c => decide (c.1 ≠ q)) = M ++ [(o, [.v (.ref q)])] := by
    simp only [List.map_append, List.map_cons, List.map_nil, List.append_assoc, List.nodup_append] at nd
    have n1 : ∀ c ∈ M, c.1 ≠ q := fun c hc => nd.2.2 c.1 (List.mem_map_of_mem hc) q (by simp)
    have n2 : q ≠ o := nd.2.1.2.2 q (by simp) o (by simp)
    rw [List.filter_append, List.filter_append]
    have f1 : M.filter (fun c => decide (c.1 ≠ q)) = M := by
      rw [List.filter_eq_self]
      intro c hc
      simpa using n1 c hc
    rw [f1]
    simp [n2.symm]
  rw [ef] at h'
  have h2 := h'.retype (its' := [.d (.list ds)]) fun xs hx => by
    match xs, hx with
    | [x], ⟨hx, _⟩ =>
      cases hx
      exact ⟨dn, trivial⟩
  exact hr σ H P' h2 (g.ex e) D E tk (z.ex e)
end
end Kt

/-! Kuc: lists of one's own within a list (comps of new lists, freezing them), sorted of data. -/
namespace Kt
open PySem PySem.Spec PyProof PyProof.Rows L2
def rowsM : List Addr → List (List It) → Mem
  | q :: qs, r :: rs => (q, r) :: rowsM qs rs
  | _, _ => []
def refsI (qs : List Addr) : List It := qs.map fun q => .v (.ref q)
theorem rowsM_snoc : ∀ {qs : List Addr} {rs : List (List It)} (q : Addr) (r : List It), qs.length = rs.length → rowsM (qs ++ [q]) (rs ++ [r]) = rowsM qs rs ++ [(q, r)]
  | [], [], _, _, _ => rfl
  | [], _ :: _, _, _, h => by simp at h
  | _ :: _, [], _, _, h => by simp at h
  | a :: qs, b :: rs, q, r, h => by
    show (a, b) :: rowsM (qs ++ [q]) (rs ++ [r]) = (a, b) :: (rowsM qs rs ++ [(q, r)])
    rw [rowsM_snoc q r (by simpa using h)]
section
variable {X : Cx} {N : Ent} {ρ : Rho} {M M1 M2 : Mem}
def LJL (X : Cx) (N : Ent) (ρ : Rho) (M : Mem) (te : TE) (rs : List (List It)) (M' : Mem) : Prop :=
  ∀ σ H P, Holds N P H M → Slots P σ ρ → ∀ Q : VK, (∀ qs p H' P', Ex P P' → qs.length = rs.length → (∀ q ∈ qs, q ∉ N.F) → p ∉ N.F → Holds N P' H' (M' ++ rowsM qs rs ++ [(p, refsI qs)]) → Q (.ref p) H') → te σ H Q
theorem sj_lcL (n : Nat) {te : TE} {rs : List (List It)} {st : Stmt} {Z : Post} {rest : List Stmt} (h : LJL X N ρ M te rs M1) (ps : PS X st (tAsg te (gName n)))
    (hr : ∀ qs p, qs.length = rs.length → (∀ q ∈ qs, q ∉ N.F) → p ∉ N.F → SJ X N (ρ.set n (some (.v (.ref p)))) (M1 ++ rowsM qs rs ++ [(p, refsI qs)]) rest Z) : SJ X N ρ M (st :: rest) Z := sj_cons fun σ H P hh g D E tk z =>
  s_of ps (h σ H P hh g _ fun qs p H1 P1 e1 l1 hq hp h1 => z.nx _ _ _ _ P1 (hr qs p l1 hq hp) e1 h1 ((g.ex e1).set (it := .v (.ref p)) rfl n))
theorem lj_compWL {scope : Scope} {elt : Expr} {ti : TI} (vs : List Nat) (tgt : TG) {ds : List PyData} (rs : List (List It))
    (hi : ∀ σ H P, Holds N P H M → Slots P σ ρ → ∀ R, (∀ J H1 P1, Ex P P1 → Holds N P1 H1 M1 → WalkQ anyM N P1 J ds → R J H1) → ti σ H R)
    (hl : rs.length = ds.length) (hz : ds.length ≤ 100000)
    (step : ∀ (m : Nat) d, ds[m]? = some d → ∃ ρ2 r, TgC N ρ vs tgt d ρ2 ∧ rs[m]? = some r ∧ ∀ N' s H C cl fp M, EL (X.blk s H scope (compEnvC scope cl C X.env) fp) N' ρ2 M elt r M)
    : LJL X N ρ M (tLc ti tgt tYes (wBE X scope elt) vs) rs M1 := fun σ H P hh g Q q => by
  refine hi σ H P hh g _ fun J H1 P1 e1 h1 W D hD => ?_
  have WK : Walk J ds.length (fun H => ∃ P' M', Holds N P' H M' ∧ Ex P1 P' ∧ anyM M') (fun i H x H' => i < ds.length ∧ ∀ P' M', Holds N P' H M' → Ex P1 P' → anyM M' → ∃ P'' d, ds[i]? = some d ∧ Ex P' P'' ∧ Holds N P'' H' M' ∧ RepI P'' x (.d d)) :=
    ⟨fun i H hi ⟨P', M', a, b, c⟩ => W.go i H P' M' hi a b c, fun H ⟨P', M', a, b, c⟩ => W.stop H P' M' a b c, fun i H x H' hi _ y => ⟨hi, fun P' M' a b c => W.yld i H x H' P' M' hi a b c y⟩⟩
  refine lc_it WK (fun m H' => ∃ P' qs, qs.length = m ∧ (∀ q ∈ qs, q ∉ N.F) ∧ Holds N P' H' (M1 ++ rowsM qs (rs.take m) ++ [(D, refsI qs)]) ∧ Ex P1 P') ⟨P1, [], rfl, fun _ h => absurd h List.not_mem_nil, by
    show Holds N P1 _ (M1 ++ [] ++ [(D, [])])
    rw [List.append_nil]
    exact h1.own hD (its := []) trivial, Ex.refl _⟩ (fun m H' _ ⟨P', qs, _, _, a, b⟩ => ⟨P', _, a, b, trivial⟩) (fun m x' H' H2 hn hw hy => ?_) (fun H' hw => ?_)
  · obtain ⟨P', qs, ql, qF, h2', e2'⟩ := hw
    obtain ⟨P2, d, ed, e3', h2, r3⟩ := hy.2 P' _ h2' e2' trivial
    have e2 := e2'.trans e3'
    obtain ⟨ρ2, r, G, er, S⟩ := step m d ed
    refine G x' σ H2 P2 _ h2 (g.ex (e1.trans e2)) r3 _ fun σ2 gs hw2 => ⟨hw2, ?_⟩
    unfold tYes
    dsimp only
    rw [if_pos rfl]
    intro s H0 C cl fp
    refine S (inner P2 H2 (M1 ++ rowsM qs (rs.take m))) s H0 C cl fp _ _ H2 P2 h2.enter gs _ fun y H4 P4 e4 hy4 h4 => ?_
    have h5 := h2.leave h4
    have hne : y ∉ N.F := fun hf => by
      have nd := h5.nd
      have m1 := h2.mf y hf
      rw [List.map_append, List.map_append] at nd
      rw [List.map_append] at m1
      rcases List.mem_append.mp m1 with k | k
      · have := (List.nodup_append.mp (List.nodup_append.mp nd).1).2.2 y k y (by simp)
        exact this rfl
      · have kD : y = D := by simpa using k
        have := (List.nodup_append.mp nd).2.2 y (by simp) D (by simp)
        exact this kD
    obtain ⟨acc, ea, ra⟩ := h5.cell (a := D) (its := refsI qs) (List.mem_append_right _ (List.mem_singleton.mpr rfl))
    refine ⟨acc, ea, by rw [ra.len]; unfold refsI; rw [List.length_map, ql]; exact Nat.lt_of_lt_of_le (Nat.lt_of_lt_of_le hn hz) (by decide), P4, qs ++ [y], by rw [List.length_append, ql]; rfl, ?_, ?_, e2.trans e4⟩
    · intro q hq
      rcases List.mem_append.mp hq with k | k
      · exact qF q k
      · rw [List.mem_singleton.mp k]
        exact hne
    · have h6 := h5.write (a := D) (its := refsI qs) (its' := refsI (qs ++ [y])) (List.mem_append_right _ (List.mem_singleton.mpr rfl)) (xs' := acc ++ [.ref y]) (by
        unfold refsI
        rw [List.map_append]
        exact ra.app ⟨rfl, trivial⟩)
      rw [put_last h5.nd, List.append_assoc M1] at h6
      have tl : rs.take (m + 1) = rs.take m ++ [r] := by rw [List.take_add_one, er]; rfl
      rw [tl, rowsM_snoc y r (by rw [ql, List.length_take]; omega)]
      exact h6
  · obtain ⟨P', qs, ql, qF, h2, e2⟩ := hw
    rw [List.take_of_length_le (by omega)] at h2
    exact q qs D H' P' (e1.trans e2) (by omega) qF (h1.newF hD) h2
/-- x = [new list for y in walk] -/
theorem sj_setW1L {rest : List Stmt} {Z : Post} {iter elt : Expr} {scope : Scope} {pos : Pos} (n' : Nat) {nm : Str} {py spos : Pos} {x : Str} {p : Pos} (n : Nat) {ds : List PyData} (rs : List (List It)) (hc : X.calm = true) (hN : X.N.Nodup) (hi : IW X N ρ M (.Name x p) iter ds M1)
    (hl : rs.length = ds.length) (hz : ds.length ≤ 100000)
    (step : ∀ (m : Nat) d, ds[m]? = some d → ∃ r, rs[m]? = some r ∧ ∀ N' s H C cl fp M, EL (X.blk s H scope (compEnvC scope cl C X.env) fp) N' (ρ.set n (some (.d d))) M elt r M)
    (hr : ∀ qs p, qs.length = rs.length → (∀ q ∈ qs, q ∉ N.F) → p ∉ N.F → SJ X N (ρ.set n' (some (.v (.ref p)))) (M1 ++ rowsM qs rs ++ [(p, refsI qs)]) rest Z)
    (hy : X.N[n']? = some nm := by rfl) (hyl : X.env.scope.names.lookup nm = some .local := by rfl)
    (hsw : swapsWith (.ListComp elt [⟨.Name x p, iter, [], 0⟩] scope pos) (some (.Name nm py)) spos.line X.env = pure true := by exact sw_true rfl rfl rfl (by kernel_rfl))
    (ok : BlkOk X.N X.env.scope scope [(x, n)] := by exact blkOk_by (by kernel_rfl))
    (hgn : ∀ (s : Shared) (H : Hp) (C : Addr) (cl : List (Str × Addr)) (fp : List Addr), PG (X.blk s H scope (compEnvC scope cl C X.env) fp) (.Name x p) (gName n) := by exact fun _ _ _ _ _ => pg_name (by assumption) rfl (Or.inl rfl))
    (hf : ∀ x, foldedSetIterable iter X.env x = pure x := by intro _; rfl) : SJ X N ρ M (.Assign [.Name nm py] (.ListComp elt [⟨.Name x p, iter, [], 0⟩] scope pos) spos :: rest) Z := by
  obtain ⟨ti, pi, hi⟩ := hi
  exact sj_lcL n' (lj_compWL [n] (gName n) rs hi hl hz fun m d hd => by obtain ⟨r, a, b⟩ := step m d hd; exact ⟨_, r, tgc1 n, a, b⟩) (ps_setLc (i := n') (y := nm) (py := py) (spos := spos) hc hN hy hyl hsw pi ok hgn (fun _ _ _ _ _ => pts_nil) (te := wBE X scope elt) (fun s H C cl fp => ⟨fun pins s1 σ1 H1 Q1 I1 h1 => h1 s H C cl fp pins s1 I1⟩) hf) hr
/-- the lists within become data -/
theorem RepIs.mid {P : Hp} {q : Addr} {ds : List PyData} (dn : Dn P (.ref q) (.list ds)) : ∀ {A B : List It} {xs : List V}, RepIs P xs (A ++ .v (.ref q) :: B) → RepIs P xs (A ++ .d (.list ds) :: B)
  | [], B, [], h => h.elim
  | [], B, x :: xs, h => ⟨by have := h.1; cases this; exact dn, h.2⟩
  | a :: A, B, [], h => h.elim
  | a :: A, B, x :: xs, h => ⟨h.1, RepIs.mid dn h.2⟩
theorem Holds.freezeRows {H : Hp} {o : Addr} : ∀ {qs : List Addr} {dss : List (List PyData)} (A : List It) {P : Hp}, qs.length = dss.length → (∀ q ∈ qs, q ∉ N.F) → Holds N P H (M ++ rowsM qs (dss.map fun ds => ds.map It.d) ++ [(o, A ++ refsI qs)]) →
    ∃ P', Ex P P' ∧ Holds N P' H (M ++ [(o, A ++ dss.map fun ds => It.d (.list ds))])
  | [], [], A, P, _, _, h => ⟨P, Ex.refl P, by
    have h : Holds N P H (M ++ [] ++ [(o, A ++ [])]) := h
    rw [List.append_nil] at h
    exact h⟩
  | [], _ :: _, _, _, hl, _, _ => by simp at hl
  | _ :: _, [], _, _, hl, _, _ => by simp at hl
  | q :: qs, ds :: dss, A, P, hl, hq, h => by
    have h : Holds N P H (M ++ (q, ds.map It.d) :: rowsM qs (dss.map fun ds => ds.map It.d) ++ [(o, A ++ .v (.ref q) :: refsI qs)]) := h
    obtain ⟨P', e, dn, h'⟩ := h.freeze (a := q) (ds := ds) (by simp) (hq q List.mem_cons_self)
    have nd := h.nd
    have ef : ((M ++ (q, ds.map It.d) :: rowsM qs (dss.map fun ds => ds.map It.d) ++ [(o, A ++ .v (.ref q) :: refsI qs)]).filter fun c => decide (c.1 ≠ q)) = M ++ rowsM qs (dss.map fun ds => ds.map It.d) ++ [(o, A ++ .v (.ref q) :: refsI qs)] := by
      rw [List.append_assoc, List.cons_append, List.map_append, List.map_cons, List.nodup_append] at nd
      have n1 : ∀ c ∈ M, c.1 ≠ q := fun c hc => nd.2.2 c.1 (List.mem_map_of_mem hc) q (by simp)
      have n2 := (List.nodup_cons.mp nd.2.1).1
      rw [List.append_assoc, List.cons_append, List.filter_append, List.filter_cons_of_neg (by simp)]
      have f1 : M.filter (fun c => decide (c.1 ≠ q)) = M := by
        rw [List.filter_eq_self]
        intro c hc
        simpa using n1 c hc
      rw [f1, List.append_assoc]
      congr 1
      rw [List.filter_eq_self]
      intro c hc
      have : c.1 ≠ q := fun e => n2 (by have k := List.mem_map_of_mem (f := Prod.fst) hc; rw [e] at k; exact k)
      simpa using this
    rw [ef] at h'
    have h2 := h'.retype (its' := A ++ .d (.list ds) :: refsI qs) fun xs hx => RepIs.mid dn hx
    obtain ⟨P2, e2, h3⟩ := Holds.freezeRows (A ++ [.d (.list ds)]) (qs := qs) (dss := dss) (by simpa using hl) (fun q' hq' => hq q' (List.mem_cons_of_mem _ hq')) (by rw [List.append_assoc A]; exact h2)
    refine ⟨P2, e.trans e2, ?_⟩
    rw [List.append_assoc A] at h3
    exact h3
theorem sj_freezeRows {qs : List Addr} {o : Addr} {dss : List (List PyData)} {sts : List Stmt} {Z : Post} (hl : qs.length = dss.length) (hq : ∀ q ∈ qs, q ∉ N.F) (hr : SJ X N ρ (M ++ [(o, (dss.map .list).map It.d)]) sts Z) : SJ X N ρ (M ++ rowsM qs (dss.map fun ds => ds.map It.d) ++ [(o, refsI qs)]) sts Z := fun σ H P hh g D E tk z => by
  obtain ⟨P', e, h'⟩ := Holds.freezeRows (N := N) (M := M) [] hl hq hh
  have h' : Holds N P' H (M ++ [(o, dss.map fun ds => It.d (.list ds))]) := h'
  rw [show (dss.map fun ds => It.d (.list ds)) = (dss.map PyData.list).map It.d by rw [List.map_map]; rfl] at h'
  exact hr σ H P' h' (g.ex e) D E tk (z.ex e)
end
end Kt

/-! Kud: sorted of data of one kind. -/
namespace Kt
open PySem PySem.Spec PyProof PyProof.Rows L2
mutual
theorem dn_reads {P : Program} {w : World} {H : Hp} {h : Heap} (hok : HOk P w H h) : ∀ (d : PyData) (v : V) (u : Value), noDict d = true → Dn H v d → RelV v u → ∃ as, Reads h u d as
  | .none, _, u, _, hd, r => by
    cases hd
    cases (show u = Value.none from r)
    exact ⟨[], .none⟩
  | .bool b, _, u, _, hd, r => by
    cases hd
    cases (show u = Value.bool b from r)
    exact ⟨[], .bool b⟩
  | .int i, _, u, _, hd, r => by
    cases hd
    obtain ⟨t, rfl⟩ := (show ∃ t, u = Value.int i t from r)
    exact ⟨[], .int i t⟩
  | .str x, _, u, _, hd, r => by
    cases hd
    obtain ⟨t, rfl⟩ := (show ∃ t, u = Value.str x t from r)
    exact ⟨[], .str x t⟩
  | .list ds, _, u, n, hd, r => by
    cases hd with
    | @lst a xs _ hs ha =>
      cases (show u = Value.ref a from r)
      obtain ⟨_, its, m, rv, e⟩ := (show ObjOk P w H h a (.lst xs) from hok a _ hs)
      obtain ⟨as, ra⟩ := dn_readsAll hok ds xs its n ha rv
      exact ⟨_, .list e rfl rfl (by simpa using ra)⟩
  | .tuple ds, _, u, n, hd, r => by
    cases hd with
    | @tup a xs _ hs ha =>
      cases (show u = Value.ref a from r)
      obtain ⟨_, its, rv, o, h1, h2, m, h3⟩ := (show ObjOk P w H h a (.tup xs) from hok a _ hs)
      obtain ⟨as, ra⟩ := dn_readsAll hok ds xs its n ha rv
      exact ⟨_, .tuple h1 h2 h3 (by simpa using ra)⟩
  | .dict es, _, u, n, _, _ => by cases n
theorem dn_readsAll {P : Program} {w : World} {H : Hp} {h : Heap} (hok : HOk P w H h) : ∀ (ds : List PyData) (vs : List V) (us : List Value), noDicts ds = true → DnAll H vs ds → Vals vs us → ∃ as, ReadsAll h us ds as
  | [], _, us, _, hd, r => by
    cases hd
    cases r
    exact ⟨[], .nil⟩
  | d :: ds, _, us, n, hd, r => by
    cases hd with
    | cons h1 h2 =>
      cases r with
      | cons r1 r2 =>
        have n := Bool.and_eq_true_iff.mp n
        obtain ⟨as, a⟩ := dn_reads hok d _ _ n.1 h1 r1
        obtain ⟨bs, b⟩ := dn_readsAll hok ds _ _ n.2 h2 r2
        exact ⟨_, .cons a b⟩
end
def srtD (ds : List PyData) : List PyData := ds.mergeSort (PySem.W.dataLe false id)
def rSortedD (K : PySem.W.Frag) : List V → Hp → VK → Prop := fun vs H Q => ∃ (a : Addr) (xs : List V) (ds : List PyData) (P : Hp), vs = [.ref a] ∧ SqL K H a xs ∧ ExW P H ∧ DnAll P xs ds ∧ noDicts ds = true ∧ PySem.W.AllAlike ds ∧ PySem.W.Sortable ds ∧ (∀ d ∈ ds, d.depth ≤ 60) ∧
  ∀ ys p, DnAll P ys (srtD ds) → H p = none → Q (.ref p) (upd H p (.lst ys))
theorem each_of {X : Cx} {P H : Hp} {h : Heap} (hok : HOk X.prog X.w H h) (e : ExW P H) : ∀ {xs : List V} {its : List Value} {ds : List PyData}, noDicts ds = true → DnAll P xs ds → Vals xs its →
    PySem.W.EachIs (fun (v : Value) (b : V × PyData) => RelV b.1 v ∧ Dn P b.1 b.2) its (xs.zip ds) ∧ PySem.W.EachIs (fun (v : Value) (b : V × PyData) => ∃ as, Reads h v b.2 as) its (xs.zip ds)
  | [], _, _, _, hd, r => by
    cases r
    exact ⟨.nil, .nil⟩
  | x :: xs, _, _, n, hd, r => by
    cases hd with
    | cons h1 h2 =>
      cases r with
      | cons r1 r2 =>
        have n := Bool.and_eq_true_iff.mp n
        have ih := each_of hok e n.2 h2 r2
        exact ⟨.cons ⟨r1, h1⟩ ih.1, .cons (dn_reads hok _ _ _ n.1 (dnw_ex e _ _ h1) r1) ih.2⟩
theorem each_back {H : Hp} : ∀ {out : List Value} {bs : List (V × PyData)}, PySem.W.EachIs (fun (v : Value) (b : V × PyData) => RelV b.1 v ∧ Dn H b.1 b.2) out bs → Vals (bs.map Prod.fst) out ∧ DnAll H (bs.map Prod.fst) (bs.map Prod.snd)
  | _, _, .nil => ⟨.nil, .nil⟩
  | _, _, .cons a b => ⟨.cons a.1 (each_back b).1, .cons a.2 (each_back b).2⟩
theorem cr_sortedD {X : Cx} (hu : X.A.units + 64 < cLine) : CallR X (.builtin "sorted") (rSortedD X.K) := by
  intro pins s σ H vs us Q I r h
  obtain ⟨a, xs, ds, P, rfl, hs, hP, hd, hn, hal, hk, hdp, q⟩ := h
  obtain ⟨its, rv, hl, hz⟩ := I.list hs
  obtain ⟨u, rfl, ru⟩ := vals1 r
  obtain rfl : u = Value.ref a := ru
  have ll := dnAll_len hd
  have em : (xs.zip ds).map Prod.snd = ds := List.map_snd_zip (by omega)
  obtain ⟨e1, e2⟩ := each_of (X := X) I.hok hP hn hd rv
  refine PySem.W.sorted_data (R := fun (v : Value) (b : V × PyData) => RelV b.1 v ∧ Dn P b.1 b.2) (enc := Prod.snd) (bs := xs.zip ds) hl.isList e1 e2 (by rw [em]; exact hal) (by rw [em]; exact hk) (by rw [List.length_zip]; omega) (fun b hb => ?_) fun out lo eo => ?_
  · have := hdp b.2 (List.of_mem_zip hb).2
    omega
  · obtain ⟨v1, d1⟩ := each_back eo
    have es : ((xs.zip ds).mergeSort (PySem.W.dataLe false Prod.snd)).map Prod.snd = srtD ds := by
      unfold srtD
      have mm := List.map_mergeSort (r := PySem.W.dataLe false Prod.snd) (s := PySem.W.dataLe false id) (f := Prod.snd) (l := xs.zip ds) (fun _ _ _ _ => rfl)
      rw [mm, em]
    rw [es] at d1
    obtain ⟨n, hnn⟩ := sortedAll_at s.heap its out.toArray
    refine ⟨.ref (s.heap.objs.size + 1), upd H (s.heap.objs.size + 1) (.lst _), I.laid (t' := s.toks) (fun b o e => sortedAll_old e) (Nat.le_succ _) ⟨?_, out, n, v1, hnn⟩, rfl, q _ _ d1 (I.hok.fresh (Nat.le_succ _))⟩
    rw [List.length_map, List.length_mergeSort, List.length_zip]
    omega
theorem srtD_perm (ds : List PyData) : (srtD ds).Perm ds := List.mergeSort_perm _ _
section
variable {X : Cx} {N : Ent} {ρ : Rho} {M M1 : Mem} {a : Expr}
theorem el_sorted {p q : Pos} {ds : List PyData} (hu : X.A.units + 64 < cLine) (hm : X.mg "sorted" = none) (ha : EJ X N ρ M a (.d (.list ds)) M1) (hn : noDicts ds = true) (hal : PySem.W.AllAlike ds) (hk : PySem.W.Sortable ds) (hdp : ∀ d ∈ ds, d.depth ≤ 60)
    (hg : Gl X "sorted" := by rfl) (he : starEach [a] X.env = [(false, eval a X.env)] := by rfl) (hpl : (backTo q (starEach ([] : List Expr) X.env)).any (·.1) = false := by rfl) :
    EL X N ρ M (.Call (.Name "sorted" p) [a] [] q) ((srtD ds).map It.d) M1 := fun σ H P hh g Q k =>
  e_of (pe_callB (cr_sortedD hu) hg hm (by decide +kernel) pa_w (by decide) (by decide) he hpl) (aj_cons ha aj_nil he σ H P hh g _ fun vs H1 P1 e1 h1 r1 => by
    obtain ⟨x, rfl, r2⟩ := ri1 r1
    obtain ⟨y, ys, rfl, h3, h4⟩ := ri_lst r2
    exact ⟨y, ys, ds, P1, rfl, .inl (.inl (h1.ex _ _ h3)), h1.exw, h4, hn, hal, hk, hdp, fun zs l hz hl => k l _ P1 e1 (h1.newF hl) (h1.own hl (RepIs.of_all hz))⟩)
end
end Kt

/-! Kue: instances of own classes: their fields, their methods, how they are made. -/
namespace Kt
open PySem PySem.Spec PyProof PyProof.Rows L2
abbrev Flds := List (Str × PyData)
/-- at a stands an instance of C with these fields -/
def InsP (C a : Addr) (fs : Flds) (P : Hp) : Prop := ∃ dx vs, P a = some (.ins C dx vs) ∧ vs.map Prod.fst = fs.map Prod.fst ∧ DnAll P (vs.map Prod.snd) (fs.map Prod.snd)
theorem InsP.ex {C a : Addr} {fs : Flds} : ∀ P P', Ex P P' → InsP C a fs P → InsP C a fs P' := fun P P' e ⟨dx, vs, h1, h2, h3⟩ => ⟨dx, vs, e _ _ h1, h2, dnAll_ex e _ _ h3⟩
def insI (C a : Addr) (fs : Flds) : It := .m (.ref a) (InsP C a fs) InsP.ex
theorem lookup_ins {P : Hp} {f : Str} {d : PyData} : ∀ {vs : List (Str × V)} {fs : Flds}, vs.map Prod.fst = fs.map Prod.fst → DnAll P (vs.map Prod.snd) (fs.map Prod.snd) → fs.lookup f = some d → ∃ v, vs.lookup f = some v ∧ Dn P v d
  | [], [], _, _, h => by cases h
  | [], _ :: _, h, _, _ => by cases h
  | _ :: _, [], h, _, _ => by cases h
  | (k, v) :: vs, (k', d') :: fs, h1, h2, h => by
    cases h2 with
    | cons a b =>
      injection h1 with e1 e2
      have e1 : k = k' := e1
      subst e1
      rw [List.lookup_cons] at h ⊢
      cases q : f == k with
      | true =>
        rw [q] at h
        cases h
        exact ⟨v, rfl, a⟩
      | false =>
        rw [q] at h
        exact lookup_ins e2 b h
theorem lookup_no {f : Str} : ∀ {vs : List (Str × V)} {fs : Flds}, vs.map Prod.fst = fs.map Prod.fst → fs.lookup f = none → vs.lookup f = none
  | [], _, _, _ => rfl
  | _ :: _, [], h, _ => by cases h
  | (k, v) :: vs, (k', d') :: fs, h1, h => by
    injection h1 with e1 e2
    have e1 : k = k' := e1
    subst e1
    rw [List.lookup_cons] at h ⊢
    cases q : f == k with
    | true => rw [q] at h; cases h
    | false =>
      rw [q] at h
      exact lookup_no e2 h
section
variable {X : Cx} {N : Ent} {ρ ρ' : Rho} {M M1 M2 M3 Mc Mr Mc' : Mem} {a b c e o : Expr} {i j k : It} {pos apos : Pos}
/-- o.f -/
theorem ej_fld {Cl x : Addr} {fs : Flds} {f : Str} {d : PyData} (he : EJ X N ρ M e (insI Cl x fs) M1) (c : Cls X.K Cl) (n : NoAttr X.K Cl f) (l : fs.lookup f = some d) (hb : attributeBase e f X.env (eval e X.env) = eval e X.env := by rfl) :
    EJ X N ρ M (.Attribute e f pos) (.d d) M1 := fun σ H P hh g Q q =>
  e_of (pe_fld pe_w hb) (he σ H P hh g _ fun u H1 P1 e1 h1 r1 => by
    obtain ⟨rfl, dx, vs, hp, k1, k2⟩ := r1
    obtain ⟨v, lv, dv⟩ := lookup_ins k1 k2 l
    exact ⟨x, Cl, dx, vs, v, rfl, h1.ex _ _ hp, c, n, lv, q v H1 P1 e1 h1 dv⟩)
end
/-- a def at an address -/
structure Hold (P : Program) (w : World) (K : PySem.W.Frag) (mg : Str → Option Value) (base : Heap) (f : Addr) (k : Nat) (C : Co) : Prop where
  ex : ∃ fd ps, FnOk P w K mg base CX0 k f fd ps (spC C) ∧ PySem.W.keepIn K (.ref f) = true ∧ Binds K fd ps []
theorem hold_ok {P : Program} {w : World} {K : PySem.W.Frag} {mg : Str → Option Value} {base : Heap} {x qual : Str} {st : Stmt} {f : Addr} {fd : FuncData} {NN ps : List Str} {l : Nat} {C : Co} (F : Fun K x qual st f fd) (S : FnScope NN ps (defScope st))
    (hb : Binds K fd ps []) (len : ∀ is M i M', C is M i M' → is.length = ps.length ∧ M'.map Prod.fst = M.map Prod.fst)
    (body : ∀ X : Cx, (∃ cdv A outer s H E, X = (cxOf CX0 P w K mg base NN qual (defScope st) f cdv A outer s H E).nox ∧ Room l X.A) → ∀ N is M i M', N.F = M.map Prod.fst → C is M i M' → SJ X N (rho NN is) M (defBody st) (retZ i M')) : Hold P w K mg base f (l + 1) C := by
  refine ⟨fd, ps, F.ok S (fun vs H Q E h => ?_) (fun cdv A outer s H vs Q E hr h => ?_), F.kp, hb⟩
  · obtain ⟨P0, is, M, i, M', _, r, hC, _⟩ := h
    rw [r.len]
    exact (len _ _ _ _ hC).1
  · obtain ⟨P0, is, M, i, M', h0, r, hC, q⟩ := h
    have back : ∀ {P' H' M'' L}, M'' = M' ++ L → Holds (inner P0 H M) P' H' M'' → Holds (inner P0 H M) P' H' M' := fun {P' H' M'' L} e hh => by
      subst e
      refine hh.sub (fun c hc => List.mem_append_left _ hc) ?_ fun a ha => ?_
      · have := hh.nd
        rw [List.map_append] at this
        exact (List.nodup_append.mp this).1
      · rw [(len _ _ _ _ hC).2]
        exact ha
    refine ⟨_, pss_w, ?_⟩
    have es : L2.start NN vs = vs.map some ++ List.replicate (NN.length - is.length) none := by
      unfold L2.start
      rw [r.len]
    rw [es]
    refine body _ ⟨cdv, A, outer, s, H, E, rfl, hr⟩ (inner P0 H M) is M i M' rfl hC _ H P0 h0 (slots_start _ r) _ E0 takes0 ⟨fun ρ' M'' σ' H' P' a e hh g => ?_, fun i' M'' v H' P' a e hh rr => ?_, fun _ _ _ _ _ a => a.elim, fun _ _ _ _ _ a => a.elim, fun _ _ _ _ _ _ _ a => a.elim⟩
    · obtain ⟨rfl, L, eL⟩ := a
      exact q _ H' P' (back eL hh) .non
    · obtain ⟨rfl, L, eL⟩ := a
      exact q _ H' P' (back eL hh) rr
section
variable {X : Cx} {N : Ent} {ρ ρ' : Rho} {M M1 M2 M3 Mc Mr Mc' : Mem} {a b c e o : Expr} {i j k : It} {pos apos : Pos}
/-- o.m(e, ..) -/
theorem ej_meth {pl : Sem Bool} {Cl x f : Addr} {fs : Flds} {m : Str} {l : Nat} {C : Co} {es : List Expr} {is : List It} (F : Hold X.prog X.w X.K X.mg X.base f l C) (hr : Room l X.A) (cl : Cls X.K Cl) (hm : Meth X.K Cl m f) (ho : EJ X N ρ M o (insI Cl x fs) M1) (hl : fs.lookup m = none) (ha : AJ X N ρ M1 (e :: es) is M2) (hM : M2 = Mc ++ Mr) (hC : C (insI Cl x fs :: is) Mc i Mc') (hM2 : M3 = Mc' ++ Mr)
    (hst : starEach (e :: es) X.env = (false, eval e X.env) :: starEach es X.env := by rfl) (hpl : (backTo pos (starEach es X.env)).any (·.1) = false := by rfl)
    (ht : eval (.Call (.Attribute o m apos) (e :: es) [] pos) X.env = (do
      let ov ← eval o X.env
      standAt apos.atName
      let (f, first) ← holding [ov] (getMethod ov m pl)
      callWith pos f first (backTo pos (starEach (e :: es) X.env)) (backToKw pos (keywordEach [] X.env))) := by rfl) :
    EJ X N ρ M (.Call (.Attribute o m apos) (e :: es) [] pos) i M3 := fun σ H P hh g Q q => by
  obtain ⟨fd, ps, F1, hk, hb⟩ := F.ex
  refine e_of (pe_meth (pl := pl) pe_w cl hm F1 hr hb .nil pass0 pa_w hst hpl ht) (ho σ H P hh g _ fun u H1 P1 e1 h1 r1 => ?_)
  obtain ⟨rfl, dx, vs, hp, k1, k2⟩ := r1
  refine ⟨x, dx, vs, rfl, h1.ex _ _ hp, lookup_no k1 hl, ha σ H1 P1 h1 (g.ex e1) _ fun ws H2 P2 e2 h2 r2 => ?_⟩
  subst hM hM2
  refine ⟨P2, insI Cl x fs :: is, Mc, i, Mc', h2.enter, ?_, hC, fun v H' P' h' r' => q v H' P' ((e1.trans e2).trans h'.ex0) (h2.leave h') r'⟩
  rw [List.append_nil]
  exact ⟨⟨rfl, InsP.ex _ _ e2 ⟨dx, vs, hp, k1, k2⟩⟩, r2⟩
end
end Kt

/-! Kuf: an instance under construction: the statements of __init__. -/
namespace Kt
open PySem PySem.Spec PyProof PyProof.Rows L2
structure OOk (N : Ent) (P H : Hp) (M : Mem) (x C dx : Addr) (fs : Flds) : Prop where
  px : P x = none
  pd : P dx = none
  nx : N.H0 x = none
  nd : N.H0 dx = none
  mx : x ∉ M.map Prod.fst
  md : dx ∉ M.map Prod.fst
  ob : ∃ vs, H x = some (.ins C dx vs) ∧ vs.map Prod.fst = fs.map Prod.fst ∧ DnAll P (vs.map Prod.snd) (fs.map Prod.snd)
  od : H dx = some (.own x)
  ne : dx ≠ x
/-- what an inner point knows of it -/
def KnO (N : Ent) (x C dx : Addr) (fs : Flds) : Prop := x ∉ N.F ∧ ∃ vs, N.H0 x = some (.ins C dx vs) ∧ vs.map Prod.fst = fs.map Prod.fst ∧ DnAll N.P0 (vs.map Prod.snd) (fs.map Prod.snd)
section
variable {N : Ent} {P P' H H' : Hp} {M M' : Mem} {x C dx : Addr} {fs : Flds}
theorem OOk.kn (d : OOk N P H M x C dx fs) : KnO (inner P H M) x C dx fs := ⟨d.mx, d.ob⟩
theorem enter2 (h : Holds N P H M) : Holds (inner P H M) P H M := Holds.enter (Mr := []) (by rw [List.append_nil]; exact h)
theorem leave2 (h : Holds N P H M) (h' : Holds (inner P H M) P' H' M') : Holds N P' H' M' := by
  have := Holds.leave (Mr := []) (by rw [List.append_nil]; exact h) h'
  rw [List.append_nil] at this
  exact this
theorem away {a : Addr} {o : HO} (e : H a = some o) (pn : P a = none) (mn : a ∉ M.map Prod.fst) (h' : Holds (inner P H M) P' H' M') : P' a = none ∧ a ∉ M'.map Prod.fst ∧ H' a = some o := by
  refine ⟨?_, fun q => ?_, h'.fr a _ e mn⟩
  · cases q : P' a with
    | none => rfl
    | some u =>
      have := h'.nw a pn (by rw [q]; exact Option.some_ne_none u)
      rw [show (inner P H M).H0 = H from rfl, e] at this
      cases this
  · obtain ⟨c2, hc2, e2⟩ := List.mem_map.mp q
    rcases h'.fs c2 hc2 with k | k
    · exact mn (e2 ▸ k)
    · rw [show (inner P H M).H0 = H from rfl, e2, e] at k
      cases k
theorem OOk.leave (d : OOk N P H M x C dx fs) (h' : Holds (inner P H M) P' H' M') : OOk N P' H' M' x C dx fs := by
  obtain ⟨vs, e, k1, k2⟩ := d.ob
  obtain ⟨a1, a2, a3⟩ := away e d.px d.mx h'
  obtain ⟨b1, b2, b3⟩ := away d.od d.pd d.md h'
  exact ⟨a1, b1, d.nx, d.nd, a2, b2, ⟨vs, a3, k1, dnAll_ex h'.ex0 _ _ k2⟩, b3, d.ne⟩
/-- a field is set -/
theorem putF_new {f : Str} {v : V} : ∀ {vs : List (Str × V)}, vs.lookup f = none → putF f v vs = vs ++ [(f, v)]
  | [], _ => rfl
  | (k, y) :: r, h => by
    rw [List.lookup_cons] at h
    have hk : k ≠ f := fun e => by
      subst e
      rw [beq_self_eq_true] at h
      cases h
    have hb : (f == k) = false := beq_eq_false_iff_ne.mpr fun e => hk e.symm
    rw [hb] at h
    rw [show putF f v ((k, y) :: r) = (if k = f then (k, v) :: r else (k, y) :: putF f v r) from rfl, if_neg hk, putF_new h]
    rfl
theorem Holds.oput (h : Holds N P H M) (d : OOk N P H M x C dx fs) {o : HO} (nf : ∀ od kvs, o ≠ .frz od (.dK kvs) := by intro _ _ h; cases h) : Holds N P (upd H x o) M := by
  refine ⟨fun a u e => ?_, h.ex0, fun b u e f => ?_, h.nw, fun c hc => ?_, h.nd, h.mf, h.fs, h.ufu nf, h.pf⟩
  · rw [upd_ne (ne_of_none e d.px)]
    exact h.exw a u e
  · rw [upd_ne (ne_of_none e d.nx)]
    exact h.fr b u e f
  · obtain ⟨a1, xs, a2, a3⟩ := h.mem c hc
    refine ⟨a1, xs, ?_, a3⟩
    rw [upd_ne fun e => d.mx (List.mem_map.mpr ⟨c, hc, e⟩)]
    exact a2
theorem OOk.put (d : OOk N P H M x C dx fs) {vs : List (Str × V)} {f : Str} {v : V} {y : PyData} (k1 : vs.map Prod.fst = fs.map Prod.fst) (k2 : DnAll P (vs.map Prod.snd) (fs.map Prod.snd)) (r : Dn P v y) (l : fs.lookup f = none) :
    OOk N P (upd H x (.ins C dx (putF f v vs))) M x C dx (fs ++ [(f, y)]) := by
  refine ⟨d.px, d.pd, d.nx, d.nd, d.mx, d.md, ⟨vs ++ [(f, v)], by rw [upd_same, putF_new (lookup_no k1 l)], ?_, ?_⟩, by rw [upd_ne d.ne]; exact d.od, d.ne⟩
  · rw [List.map_append, List.map_append, k1]
    rfl
  · rw [List.map_append, List.map_append]
    exact k2.app (.cons r .nil)
/-- it becomes persistent -/
theorem Holds.ofreeze (h : Holds N P H M) (d : OOk N P H M x C dx fs) : ∃ P', Ex P P' ∧ InsP C x fs P' ∧ Holds N P' H M := by
  obtain ⟨vs, e, k1, k2⟩ := d.ob
  have q : Ex P (upd P x (.ins C dx vs)) := Ex.new d.px
  refine ⟨upd P x (.ins C dx vs), q, ⟨dx, vs, upd_same, k1, dnAll_ex q _ _ k2⟩, ⟨fun b u z => ?_, h.ex0.trans q, h.fr, fun b z f => ?_, fun c hc => ?_, h.nd, h.mf, h.fs, h.uf, h.pf.new (o := .ins C dx vs) (fun _ _ h => by cases h)⟩⟩
  · by_cases eb : b = x
    · subst eb
      rw [upd_same] at z
      rw [← z]
      exact .inl e
    · rw [upd_ne eb] at z
      exact h.exw b u z
  · by_cases eb : b = x
    · subst eb
      exact d.nx
    · rw [upd_ne eb] at f
      exact h.nw b z f
  · obtain ⟨a1, ys, a2, a3⟩ := h.mem c hc
    have ne : c.1 ≠ x := fun e => d.mx (List.mem_map.mpr ⟨c, hc, e⟩)
    exact ⟨by rw [upd_ne ne]; exact a1, ys, a2, a3.ex q⟩
end
section
variable {X : Cx} {N : Ent} {ρ ρ' : Rho} {M M1 M2 M3 : Mem} {a b c e o : Expr} {i j k : It} {pos apos : Pos} {x C dx : Addr} {fs : Flds} {rest : List Stmt} {Zn : Rho → Mem → Flds → Prop} {Ze : Str → Mem → Prop}
structure ZO (mg : Str → Option Value) (N : Ent) (P : Hp) (x C dx : Addr) (Zn : Rho → Mem → Flds → Prop) (Ze : Str → Mem → Prop) (D : Ends) (E : XK) : Prop where
  nx : ∀ ρ' M' fs' σ' H' P', Zn ρ' M' fs' → Ex P P' → Holds N P' H' M' → OOk N P' H' M' x C dx fs' → Slots P' σ' ρ' → D.nx σ' H'
  er : ∀ z M' d H' P' Cs, mg "ShapeError" = some (.ref Cs) → Ze z M' → Ex P P' → Holds N P' H' M' → H' d = some (XD z) → E (.ref Cs) (some d) H'
theorem ZO.ex {mg : Str → Option Value} {P P' : Hp} {D : Ends} {E : XK} (e : Ex P P') (z : ZO mg N P x C dx Zn Ze D E) : ZO mg N P' x C dx Zn Ze D E :=
  ⟨fun ρ' M' fs' σ' H' P'' a b => z.nx ρ' M' fs' σ' H' P'' a (e.trans b), fun w M' d H' P'' Cs c a b => z.er w M' d H' P'' Cs c a (e.trans b)⟩
def BJ (X : Cx) (N : Ent) (ρ : Rho) (M : Mem) (x C dx : Addr) (fs : Flds) (sts : List Stmt) (Zn : Rho → Mem → Flds → Prop) (Ze : Str → Mem → Prop) : Prop :=
  ∀ σ H P, Holds N P H M → OOk N P H M x C dx fs → Slots P σ ρ → ∀ (D : Ends) (E : XK), Takes X (fun c d _ H => E c d H) → ZO X.mg N P x C dx Zn Ze D E → wSs X sts D σ H
theorem bj_nil (h : Zn ρ M fs) : BJ X N ρ M x C dx fs [] Zn Ze := fun σ H P hh d g D E tk z => ss_of pss_nil (z.nx ρ M fs σ H P h (Ex.refl P) hh d g)
theorem bj_cons {st : Stmt} (h : ∀ σ H P, Holds N P H M → OOk N P H M x C dx fs → Slots P σ ρ → ∀ (D : Ends) (E : XK), Takes X (fun c d _ H => E c d H) → ZO X.mg N P x C dx (fun ρ' M' fs' => BJ X N ρ' M' x C dx fs' rest Zn Ze) Ze D E → wS X st D σ H) : BJ X N ρ M x C dx fs (st :: rest) Zn Ze := fun σ H P hh d g D E tk z =>
  ss_of (pss_cons ps_w pss_w) (h σ H P hh d g _ E tk ⟨fun ρ' M' fs' σ' H' P' a e hh' d' g' => a σ' H' P' hh' d' g' D E tk (z.ex e), z.er⟩)
/-- statements that change nothing of it, by their own rules at an inner point -/
theorem bj_sj {sts : List Stmt} (h : ∀ N', KnO N' x C dx fs → SJ X N' ρ M sts { nx := fun ρ' M' => Zn ρ' M' fs, rt := fun _ _ => False, er := Ze }) : BJ X N ρ M x C dx fs sts Zn Ze := fun σ H P hh d g D E tk z =>
  h (inner P H M) d.kn σ H P (enter2 hh) g D E tk ⟨fun ρ' M' σ' H' P' a e h' g' => z.nx ρ' M' fs σ' H' P' a e (leave2 hh h') (d.leave h') g', fun _ _ _ _ _ a => a.elim, fun _ _ _ _ _ a => a.elim, fun _ _ _ _ _ a => a.elim, fun w M' dd H' P' Cs c a e h' q => z.er w M' dd H' P' Cs c a e (leave2 hh h') q⟩
theorem bj_if {A B : List Stmt} {t : Bool} (hc : ∀ N', KnO N' x C dx fs → TJ X N' ρ M c t M1) (h1 : t = true → BJ X N ρ M1 x C dx fs A (fun ρ' M' fs' => BJ X N ρ' M' x C dx fs' rest Zn Ze) Ze) (h2 : t = false → BJ X N ρ M1 x C dx fs B (fun ρ' M' fs' => BJ X N ρ' M' x C dx fs' rest Zn Ze) Ze) : BJ X N ρ M x C dx fs (.If c A B pos :: rest) Zn Ze := bj_cons fun σ H P hh d g D E tk z =>
  s_of (ps_if pt_w pss_w pss_w) (hc _ d.kn σ H P (enter2 hh) g _ fun H1 P1 e1 h1' => by
    have hh1 := leave2 hh h1'
    have d1 := d.leave h1'
    cases t with
    | true => exact iteT (h1 rfl σ H1 P1 hh1 d1 (g.ex e1) D E tk (z.ex e1))
    | false => exact iteF (h2 rfl σ H1 P1 hh1 d1 (g.ex e1) D E tk (z.ex e1)))
/-- self.f = e -/
theorem bj_fld {f : Str} {y : PyData} {apos : Pos} (cl : Cls X.K C) (na : NoAttr X.K C f) (lf : fs.lookup f = none) (hz : fs.length < 1000) (he : ∀ N', KnO N' x C dx fs → EJ X N' ρ M e (.d y) M1) (ho : ∀ N', KnO N' x C dx fs → EJ X N' ρ M1 o (.v (.ref x)) M2)
    (hr : BJ X N ρ M2 x C dx (fs ++ [(f, y)]) rest Zn Ze) (hs : swapsWith e (some (.Attribute o f apos)) pos.line X.env = pure false := by rfl) : BJ X N ρ M x C dx fs (.Assign [.Attribute o f apos] e pos :: rest) Zn Ze := bj_cons fun σ H P hh d g D E tk z => by
  refine s_of (ps_fld pe_w pe_w hs) (he _ d.kn σ H P (enter2 hh) g _ fun v1 H1 P1 e1 h1 r1 => ?_)
  have hh1 := leave2 hh h1
  have d1 := d.leave h1
  refine ho _ d1.kn σ H1 P1 (enter2 hh1) (g.ex e1) _ fun v2 H2 P2 e2 h2 r2 => ?_
  have hh2 := leave2 hh1 h2
  have d2 := d1.leave h2
  cases (show v2 = .ref x from r2)
  obtain ⟨vs, ex, k1, k2⟩ := d2.ob
  refine ⟨x, C, dx, vs, rfl, ex, cl, na, ?_, ?_⟩
  · have := congrArg List.length k1
    rw [List.length_map, List.length_map] at this
    omega
  · exact z.nx ρ M2 _ σ _ P2 hr (e1.trans e2) (hh2.oput d2) (d2.put k1 k2 (dn_ex e2 _ _ r1) lf) ((g.ex e1).ex e2)
/-- self.f, of the instance under construction -/
theorem ej_fldO {f : Str} {y : PyData} (kn : KnO N x C dx fs) (cl : Cls X.K C) (na : NoAttr X.K C f) (l : fs.lookup f = some y) (ho : EJ X N ρ M o (.v (.ref x)) M1) (hb : attributeBase o f X.env (eval o X.env) = eval o X.env := by rfl) : EJ X N ρ M (.Attribute o f pos) (.d y) M1 := fun σ H P hh g Q q =>
  e_of (pe_fld pe_w hb) (ho σ H P hh g _ fun u H1 P1 e1 h1 r1 => by
    cases (show u = .ref x from r1)
    obtain ⟨nf, vs, e0, k1, k2⟩ := kn
    obtain ⟨v, lv, dv⟩ := lookup_ins k1 k2 l
    exact ⟨x, C, dx, vs, v, rfl, h1.fr x _ e0 nf, cl, na, lv, q v H1 P1 e1 h1 (dn_ex h1.ex0 _ _ dv)⟩)
end
/-! ### the contract of __init__, and the call of the class -/
abbrev Ic := List It → Flds → Prop
abbrev Ir := List It → Str → Prop
def spI (mg : Str → Option Value) (C : Addr) (IC : Ic) (IR : Ir) : Sp := fun vs H Q E => ∃ (P : Hp) (is : List It) (x dx : Addr) (H1 : Hp) (ws : List V), vs = .ref x :: ws ∧ H = upd (upd H1 dx (.own x)) x (.ins C dx []) ∧ H1 x = none ∧ H1 dx = none ∧ dx ≠ x ∧ Holds (inner P H1 []) P H1 [] ∧ RepIs P ws is ∧
  ((∃ fs, IC is fs ∧ ∀ H' P', Holds (inner P H1 []) P' H' [] → InsP C x fs P' → Q .non H') ∨
    (∃ z, IR is z ∧ ∀ d H' P' Cs, mg "ShapeError" = some (.ref Cs) → Holds (inner P H1 []) P' H' [] → H' d = some (XD z) → E (.ref Cs) (some d) H'))
structure HoldI (P : Program) (w : World) (K : PySem.W.Frag) (mg : Str → Option Value) (base : Heap) (f C : Addr) (k : Nat) (IC : Ic) (IR : Ir) : Prop where
  ex : ∃ fd ps, FnOk P w K mg base (L2.CX P w) k f fd ps (spI mg C IC IR) ∧ PySem.W.keepIn K (.ref f) = true ∧ Binds K fd ps []
theorem holdI_ok {P : Program} {w : World} {K : PySem.W.Frag} {mg : Str → Option Value} {base : Heap} {nm qual : Str} {st : Stmt} {f C : Addr} {fd : FuncData} {NN ps : List Str} {l : Nat} {IC : Ic} {IR : Ir} (F : Fun K nm qual st f fd) (S : FnScope NN ps (defScope st))
    (hb : Binds K fd ps []) (len : ∀ is fs, IC is fs → is.length + 1 = ps.length) (len2 : ∀ is z, IR is z → is.length + 1 = ps.length)
    (body : ∀ X : Cx, (∃ cdv A outer s H E, X = cxOf (L2.CX P w) P w K mg base NN qual (defScope st) f cdv A outer s H E ∧ Room l X.A) → ∀ N is x dx, N.F = [] →
      (∀ fs, IC is fs → BJ X N (rho NN (.v (.ref x) :: is)) [] x C dx [] (defBody st) (fun _ M' fs' => M' = [] ∧ fs' = fs) (fun _ _ => False)) ∧
      (∀ z, IR is z → BJ X N (rho NN (.v (.ref x) :: is)) [] x C dx [] (defBody st) (fun _ _ _ => False) (fun z' M' => z' = z ∧ M' = []))) : HoldI P w K mg base f C (l + 1) IC IR := by
  refine ⟨fd, ps, F.okX S (fun vs H Q E h => ?_) (fun cdv A outer s H vs Q E hr h => ?_), F.kp, hb⟩
  · obtain ⟨P0, is, x, dx, H1, ws, rfl, _, _, _, _, _, r, ⟨fs, hC, _⟩ | ⟨z, hR, _⟩⟩ := h
    · rw [List.length_cons, r.len]
      exact len _ _ hC
    · rw [List.length_cons, r.len]
      exact len2 _ _ hR
  · obtain ⟨P0, is, x, dx, H1, ws, rfl, rfl, nx, nd, ne, h0, r, hq⟩ := h
    refine ⟨_, pss_w, ?_⟩
    have r1 : RepIs P0 (.ref x :: ws) (.v (.ref x) :: is) := ⟨rfl, r⟩
    have es : L2.start NN (.ref x :: ws) = (V.ref x :: ws).map some ++ List.replicate (NN.length - (It.v (.ref x) :: is).length) none := by
      unfold L2.start
      rw [r1.len]
    rw [es]
    have hd : Holds (inner P0 H1 []) P0 (upd (upd H1 dx (.own x)) x (.ins C dx [])) [] := (h0.junk nd).junk (by rw [upd_ne ne.symm]; exact nx)
    have od : OOk (inner P0 H1 []) P0 (upd (upd H1 dx (.own x)) x (.ins C dx [])) [] x C dx [] := ⟨h0.no nx, h0.no nd, nx, nd, by simp, by simp, ⟨[], upd_same, rfl, .nil⟩, by rw [upd_ne ne, upd_same], ne⟩
    have B := body _ ⟨cdv, A, outer, s, upd (upd H1 dx (.own x)) x (.ins C dx []), E, rfl, hr⟩ (inner P0 H1 []) is x dx rfl
    rcases hq with ⟨fs, hC, q⟩ | ⟨z, hR, q⟩
    · refine B.1 fs hC _ _ P0 hd od (slots_start _ r1) _ E0 takes0 ⟨fun ρ' M' fs' σ' H' P' a e hh d g => ?_, fun _ _ _ _ _ _ _ a => a.elim⟩
      obtain ⟨rfl, rfl⟩ := a
      obtain ⟨P2, e2, ip, h2⟩ := hh.ofreeze d
      exact q H' P2 h2 ip
    · refine B.2 z hR _ _ P0 hd od (slots_start _ r1) _ E (takes_of rfl rfl rfl rfl) ⟨fun _ _ _ _ _ _ a => a.elim, fun z' M' d H' P' Cs gs a e hh q' => ?_⟩
      obtain ⟨rfl, rfl⟩ := a
      exact q d H' P' Cs gs hh q'
section
variable {X : Cx} {N : Ent} {ρ : Rho} {M M1 : Mem} {e : Expr} {p pos : Pos} {rest : List Stmt} {Z : Post}
/-- y = C(e, ..) -/
theorem sj_make (n : Nat) {y nm : Str} {py spos : Pos} {f C : Addr} {l : Nat} {IC : Ic} {IR : Ir} {es : List Expr} {is : List It} {fs : Flds} (F : HoldI X.prog X.w X.K X.mg X.base f C l IC IR) (mk : Mk X.K C f) (hN : X.N.Nodup) (hr : Room (l + 1) X.A) (hm : X.mg nm = some (.ref C)) (ha : AJ X N ρ M (e :: es) is M1) (hC : IC is fs)
    (hk : ∀ a, SJ X N (ρ.set n (some (insI C a fs))) M1 rest Z)
    (hg : Gl X nm := by rfl) (hdb : (nm == ("__debug__" : Str)) = false := by decide) (he : starEach (e :: es) X.env = (false, eval e X.env) :: starEach es X.env := by rfl) (hpl : (backTo pos (starEach es X.env)).any (·.1) = false := by rfl)
    (hi : X.N[n]? = some y := by rfl) (hx : Loc X.env.scope y := by first | exact .inl rfl | exact .inr rfl) (hs : swapsWith (.Call (.Name nm p) (e :: es) [] pos) (some (.Name y py)) spos.line X.env = pure false := by rfl) (hf : X.fn y = true ∨ X.env.scope.names.lookup y = some .local := by first | exact .inl rfl | exact .inr rfl) :
    SJ X N ρ M (.Assign [.Name y py] (.Call (.Name nm p) (e :: es) [] pos) spos :: rest) Z := sj_cons fun σ H P hh g D E tk z => by
  obtain ⟨fd, ps, F1, hkp, hb⟩ := F.ex
  refine s_of (ps_set (i := n) hN hi hx (pe_make mk F1 hr hg hm hb .nil passL pa_w hdb he hpl) hs hf) (ha σ H P hh g _ fun vs H1 P1 e1 h1 r1 => fun x dx nx nd ne => ?_)
  rw [List.append_nil]
  refine ⟨P1, is, x, dx, H1, vs, rfl, rfl, nx, nd, ne, Holds.enter (Mc := []) (Mr := M1) h1, r1, .inl ⟨fs, hC, fun H' P' h' ip => ⟨rfl, ?_⟩⟩⟩
  have h2 := Holds.leave (Mc := []) (Mc' := []) (Mr := M1) h1 h'
  exact z.nx _ _ _ _ P' (hk x) (e1.trans h'.ex0) h2 (((g.ex e1).ex h'.ex0).set (it := insI C x fs) ⟨rfl, ip⟩ n)
/-- C(e, ..) that raises -/
theorem xj_make {nm z : Str} {f C : Addr} {l : Nat} {IC : Ic} {IR : Ir} {es : List Expr} {is : List It} (F : HoldI X.prog X.w X.K X.mg X.base f C l IC IR) (mk : Mk X.K C f) (hr : Room (l + 1) X.A) (hm : X.mg nm = some (.ref C)) (ha : AJ X N ρ M (e :: es) is M) (hR : IR is z)
    (hg : Gl X nm := by rfl) (hdb : (nm == ("__debug__" : Str)) = false := by decide) (he : starEach (e :: es) X.env = (false, eval e X.env) :: starEach es X.env := by rfl) (hpl : (backTo pos (starEach es X.env)).any (·.1) = false := by rfl) :
    XJ X N ρ M (.Call (.Name nm p) (e :: es) [] pos) z := fun σ H P hh g E tk er Q => by
  obtain ⟨fd, ps, F1, hkp, hb⟩ := F.ex
  refine e_of (pe_make mk F1 hr hg hm hb .nil (fun pins σ' H' s e' s' I c => passAt (W := fun c d _ H => E c d H) tk σ' pins H' s e' s' I c) pa_w hdb he hpl) (ha σ H P hh g _ fun vs H1 P1 e1 h1 r1 => fun x dx nx nd ne => ?_)
  rw [List.append_nil]
  refine ⟨P1, is, x, dx, H1, vs, rfl, rfl, nx, nd, ne, Holds.enter (Mc := []) (Mr := M) h1, r1, .inr ⟨z, hR, fun d H' P' Cs gs h' x' => ?_⟩⟩
  exact er d H' P' Cs gs (e1.trans h'.ex0) (Holds.leave (Mc := []) (Mc' := []) (Mr := M) h1 h') x'
end
end Kt

/-! Ktr: dicts of one's own (keys: ints and texts; values: data), beside the lists of one's own. -/
namespace Kt
open PySem PySem.Spec PyProof PyProof.Rows L2

theorem sem_bp {α : Type} : ∀ m : Sem α, (m >>= pure) = m := by
  intro m
  induction m with
  | pure a => rfl
  | raise => rfl
  | unsupported => rfl
  | finish => rfl
  | _ =>
    rename_i ih
    first
    | exact congrArg _ (funext fun x => ih x)
    | exact congrArg₂ _ rfl (funext fun x => ih x)
theorem exs_one (st : Stmt) (env : Env) : execs [st] env = exec st env := by
  rw [PySem.execs.eq_2]
  refine (congrArg (exec st env >>= ·) (funext fun f => ?_)).trans (sem_bp _)
  cases f
  · exact PySem.execs.eq_1 env
  all_goals rfl
theorem s_one {X : Cx} {st : Stmt} {D : Ends} {σ : L2.St} {H : Hp} (h : wSs X [st] D σ H) : wS X st D σ H := fun pins s I => by
  have := h pins s I
  rw [exs_one] at this
  exact this

/-! ### contents -/
abbrev DC := List (Key × PyData)
abbrev Ds := List (Addr × DC)
def KV (P : Hp) : List (Key × V) → DC → Prop
  | [], [] => True
  | (k, v) :: r, (j, d) :: s => k = j ∧ Dn P v d ∧ KV P r s
  | _, _ => False
def valD (es : DC) (k : Key) : Option PyData := (es.find? fun kv => decide (kv.1 = k)).map (·.2)
def putD (es : DC) (k : Key) (d : PyData) : DC := if (es.any fun kv => decide (kv.1 = k)) = true then es.map fun kv => if kv.1 = k then (kv.1, d) else kv else es ++ [(k, d)]
def kD : Key → PyData
  | .inl i => .int i
  | .inr x => .str x
def esD (es : DC) : List (PyData × PyData) := es.map fun kv => (kD kv.1, kv.2)
section
variable {P P' : Hp}
theorem KV.ex (e : Ex P P') : ∀ {kvs : List (Key × V)} {es : DC}, KV P kvs es → KV P' kvs es
  | [], [], _ => trivial
  | (k, v) :: r, (j, d) :: s, h => ⟨h.1, dn_ex e _ _ h.2.1, KV.ex e h.2.2⟩
  | [], _ :: _, h => h.elim
  | _ :: _, [], h => h.elim
theorem KV.len : ∀ {kvs : List (Key × V)} {es : DC}, KV P kvs es → kvs.length = es.length
  | [], [], _ => rfl
  | (k, v) :: r, (j, d) :: s, h => by rw [List.length_cons, List.length_cons, KV.len h.2.2]
  | [], _ :: _, h => h.elim
  | _ :: _, [], h => h.elim
theorem KV.any (k0 : Key) : ∀ {kvs : List (Key × V)} {es : DC}, KV P kvs es → (kvs.any fun kv => decide (kv.1 = k0)) = (es.any fun kv => decide (kv.1 = k0))
  | [], [], _ => rfl
  | (k, v) :: r, (j, d) :: s, h => by
    rw [List.any_cons, List.any_cons, KV.any k0 h.2.2]
    cases h.1
    rfl
  | [], _ :: _, h => h.elim
  | _ :: _, [], h => h.elim
theorem KV.map (k0 : Key) {v0 : V} {d0 : PyData} (h0 : Dn P v0 d0) : ∀ {kvs : List (Key × V)} {es : DC}, KV P kvs es → KV P (kvs.map fun kv => if kv.1 = k0 then (kv.1, v0) else kv) (es.map fun kv => if kv.1 = k0 then (kv.1, d0) else kv)
  | [], [], _ => trivial
  | (k, v) :: r, (j, d) :: s, h => by
    cases h.1
    rw [List.map_cons, List.map_cons]
    by_cases e : k = k0
    · rw [if_pos (show ((k, v) : Key × V).1 = k0 from e), if_pos (show ((k, d) : Key × PyData).1 = k0 from e)]
      exact ⟨rfl, h0, KV.map k0 h0 h.2.2⟩
    · rw [if_neg (show ¬ ((k, v) : Key × V).1 = k0 from e), if_neg (show ¬ ((k, d) : Key × PyData).1 = k0 from e)]
      exact ⟨rfl, h.2.1, KV.map k0 h0 h.2.2⟩
  | [], _ :: _, h => h.elim
  | _ :: _, [], h => h.elim
theorem KV.snoc {k0 : Key} {v0 : V} {d0 : PyData} (h0 : Dn P v0 d0) : ∀ {kvs : List (Key × V)} {es : DC}, KV P kvs es → KV P (kvs ++ [(k0, v0)]) (es ++ [(k0, d0)])
  | [], [], _ => ⟨rfl, h0, trivial⟩
  | (k, v) :: r, (j, d) :: s, h => ⟨h.1, h.2.1, KV.snoc h0 h.2.2⟩
  | [], _ :: _, h => h.elim
  | _ :: _, [], h => h.elim
theorem KV.put {k0 : Key} {v0 : V} {d0 : PyData} (h0 : Dn P v0 d0) {kvs : List (Key × V)} {es : DC} (h : KV P kvs es) : KV P (putK kvs k0 v0) (putD es k0 d0) := by
  unfold putK putD
  rw [h.any k0]
  by_cases e : (es.any fun kv => decide (kv.1 = k0)) = true
  · rw [if_pos e, if_pos e]
    exact h.map k0 h0
  · rw [if_neg e, if_neg e]
    exact h.snoc h0
theorem KV.val (k0 : Key) : ∀ {kvs : List (Key × V)} {es : DC}, KV P kvs es → (valV kvs k0 = none ∧ valD es k0 = none) ∨ ∃ v d, valV kvs k0 = some v ∧ valD es k0 = some d ∧ Dn P v d
  | [], [], _ => .inl ⟨rfl, rfl⟩
  | (k, v) :: r, (j, d) :: s, h => by
    cases h.1
    by_cases e : k = k0
    · refine .inr ⟨v, d, valV_pos (p := (k, v)) e, ?_, h.2.1⟩
      unfold valD
      rw [List.find?_cons_of_pos (by exact decide_eq_true e)]
      rfl
    · have a : valV ((k, v) :: r) k0 = valV r k0 := valV_neg (p := (k, v)) e
      have b : valD ((k, d) :: s) k0 = valD s k0 := by
        unfold valD
        rw [List.find?_cons_of_neg (by simpa using e)]
      rw [a, b]
      exact KV.val k0 h.2.2
  | [], _ :: _, h => h.elim
  | _ :: _, [], h => h.elim
theorem KV.kv : ∀ {kvs : List (Key × V)} {es : DC}, KV P kvs es → DnKV P kvs (esD es)
  | [], [], _ => .nil
  | (.inl i, v) :: r, (j, d) :: s, h => by
    cases h.1
    exact .inl h.2.1 (KV.kv h.2.2)
  | (.inr i, v) :: r, (j, d) :: s, h => by
    cases h.1
    exact .inr h.2.1 (KV.kv h.2.2)
  | [], _ :: _, h => h.elim
  | _ :: _, [], h => h.elim
theorem putD_len (es : DC) (k : Key) (d : PyData) : (putD es k d).length ≤ es.length + 1 := by
  unfold putD
  by_cases e : (es.any fun kv => decide (kv.1 = k)) = true
  · rw [if_pos e]; simp
  · rw [if_neg e]; simp
end

/-! ### the dicts that stand -/
structure DOk (N : Ent) (P H : Hp) (M : Mem) (Δ : Ds) : Prop where
  pn : ∀ c ∈ Δ, P c.1 = none
  n0 : ∀ c ∈ Δ, N.H0 c.1 = none
  nm : ∀ c ∈ Δ, c.1 ∉ M.map Prod.fst
  ob : ∀ c ∈ Δ, ∃ kvs, H c.1 = some (.dK kvs) ∧ KV P kvs c.2
  nd : (Δ.map Prod.fst).Nodup
/-- what an inner point knows of them -/
def Kn (N : Ent) (Δ : Ds) : Prop := ∀ c ∈ Δ, c.1 ∉ N.F ∧ ∃ kvs, N.H0 c.1 = some (.dK kvs) ∧ KV N.P0 kvs c.2
section
variable {N : Ent} {P P' H H' : Hp} {M M' : Mem} {Δ Δ' : Ds}
theorem DOk.nil : DOk N P H M [] := ⟨nofun, nofun, nofun, nofun, List.nodup_nil⟩
theorem DOk.kn (h : DOk N P H M Δ) : Kn (inner P H M) Δ := fun c hc => ⟨h.nm c hc, h.ob c hc⟩
theorem Holds.enter1 (h : Holds N P H M) : Holds (inner P H M) P H M := Holds.enter (Mr := []) (by rw [List.append_nil]; exact h)
theorem Holds.leave1 (h : Holds N P H M) (h' : Holds (inner P H M) P' H' M') : Holds N P' H' M' := by
  have := Holds.leave (Mr := []) (by rw [List.append_nil]; exact h) h'
  rw [List.append_nil] at this
  exact this
theorem DOk.leave (d : DOk N P H M Δ) (h' : Holds (inner P H M) P' H' M') : DOk N P' H' M' Δ := by
  refine ⟨fun c hc => ?_, d.n0, fun c hc q => ?_, fun c hc => ?_, d.nd⟩
  · obtain ⟨kvs, e, _⟩ := d.ob c hc
    cases q : P' c.1 with
    | none => rfl
    | some u =>
      have := h'.nw c.1 (d.pn c hc) (by rw [q]; exact Option.some_ne_none u)
      rw [show (inner P H M).H0 = H from rfl, e] at this
      cases this
  · obtain ⟨kvs, e, _⟩ := d.ob c hc
    obtain ⟨c2, hc2, e2⟩ := List.mem_map.mp q
    rcases h'.fs c2 hc2 with k | k
    · exact d.nm c hc (e2 ▸ k)
    · rw [show (inner P H M).H0 = H from rfl, e2, e] at k
      cases k
  · obtain ⟨kvs, e, r⟩ := d.ob c hc
    exact ⟨kvs, h'.fr c.1 _ e (d.nm c hc), r.ex h'.ex0⟩
/-- a new dict -/
theorem Holds.dnew (h : Holds N P H M) {p : Addr} {o : HO} (hp : H p = none) (nf : ∀ od kvs, o ≠ .frz od (.dK kvs) := by intro _ _ h; cases h) : Holds N P (upd H p o) M := by
  have pn : P p = none := h.no hp
  refine ⟨fun a u e => ?_, h.ex0, fun b u e f => ?_, h.nw, fun c hc => ?_, h.nd, h.mf, h.fs, h.ufu nf, h.pf⟩
  · rw [upd_ne (ne_of_none e pn)]
    exact h.exw a u e
  · have := h.fr b u e f
    rw [upd_ne (ne_of_none this hp)]
    exact this
  · obtain ⟨a1, xs, a2, a3⟩ := h.mem c hc
    exact ⟨a1, xs, by rw [upd_ne (ne_of_none a2 hp)]; exact a2, a3⟩
theorem DOk.dnew (d : DOk N P H M Δ) (h : Holds N P H M) {p : Addr} (hp : H p = none) : DOk N P (upd H p (.dK [])) M (Δ ++ [(p, [])]) := by
  have pn : P p = none := h.no hp
  have nm : p ∉ M.map Prod.fst := fun q => by
    obtain ⟨c2, hc2, e2⟩ := List.mem_map.mp q
    obtain ⟨xs, a, _⟩ := (h.mem c2 hc2).2
    rw [e2, hp] at a
    cases a
  have nD : p ∉ Δ.map Prod.fst := fun q => by
    obtain ⟨c2, hc2, e2⟩ := List.mem_map.mp q
    obtain ⟨xs, a, _⟩ := d.ob c2 hc2
    rw [e2, hp] at a
    cases a
  refine ⟨fun c hc => ?_, fun c hc => ?_, fun c hc => ?_, fun c hc => ?_, ?_⟩
  · rcases List.mem_append.mp hc with k | k
    · exact d.pn c k
    · cases List.mem_singleton.mp k; exact pn
  · rcases List.mem_append.mp hc with k | k
    · exact d.n0 c k
    · cases List.mem_singleton.mp k; exact h.h0_none hp
  · rcases List.mem_append.mp hc with k | k
    · exact d.nm c k
    · cases List.mem_singleton.mp k; exact nm
  · rcases List.mem_append.mp hc with k | k
    · obtain ⟨kvs, a, b⟩ := d.ob c k
      exact ⟨kvs, by rw [upd_ne (ne_of_none a hp)]; exact a, b⟩
    · cases List.mem_singleton.mp k; exact ⟨[], upd_same, trivial⟩
  · rw [List.map_append]
    refine List.nodup_append.mpr ⟨d.nd, by simp, fun a ha b hb e => ?_⟩
    simp at hb
    subst hb
    exact nD (e ▸ ha)
def Ds.put (Δ : Ds) (p : Addr) (es : DC) : Ds := Δ.map fun c => if c.1 = p then (p, es) else c
theorem dsput_fst (Δ : Ds) (p : Addr) (es : DC) : (Δ.put p es).map Prod.fst = Δ.map Prod.fst := by
  unfold Ds.put
  rw [List.map_map]
  refine List.map_congr_left fun c _ => ?_
  show (if c.1 = p then (p, es) else c).1 = c.1
  by_cases e : c.1 = p
  · rw [if_pos e]; exact e.symm
  · rw [if_neg e]
theorem Holds.dput (h : Holds N P H M) (d : DOk N P H M Δ) {p : Addr} {es : DC} (hp : (p, es) ∈ Δ) {o : HO} (nf : ∀ od kvs, o ≠ .frz od (.dK kvs) := by intro _ _ h; cases h) : Holds N P (upd H p o) M := by
  have pn := d.pn _ hp
  refine ⟨fun a u e => ?_, h.ex0, fun b u e f => ?_, h.nw, fun c hc => ?_, h.nd, h.mf, h.fs, h.ufu nf, h.pf⟩
  · rw [upd_ne (ne_of_none e pn)]
    exact h.exw a u e
  · have n0 := d.n0 _ hp
    rw [upd_ne (ne_of_none e n0)]
    exact h.fr b u e f
  · obtain ⟨a1, xs, a2, a3⟩ := h.mem c hc
    refine ⟨a1, xs, ?_, a3⟩
    rw [upd_ne fun e => d.nm _ hp (List.mem_map.mpr ⟨c, hc, e⟩)]
    exact a2
theorem DOk.dput (d : DOk N P H M Δ) {p : Addr} {es es' : DC} {kvs : List (Key × V)} (hp : (p, es) ∈ Δ) (r : KV P kvs es') : DOk N P (upd H p (.dK kvs)) M (Δ.put p es') := by
  have mm : ∀ c ∈ Δ.put p es', ∃ c0 ∈ Δ, c0.1 = c.1 ∧ ((c.1 = p ∧ c.2 = es') ∨ (c.1 ≠ p ∧ c = c0)) := fun c hc => by
    obtain ⟨c0, h0, e⟩ := List.mem_map.mp hc
    by_cases q : c0.1 = p
    · rw [if_pos q] at e
      subst e
      exact ⟨c0, h0, q, .inl ⟨rfl, rfl⟩⟩
    · rw [if_neg q] at e
      subst e
      exact ⟨c0, h0, rfl, .inr ⟨q, rfl⟩⟩
  refine ⟨fun c hc => ?_, fun c hc => ?_, fun c hc => ?_, fun c hc => ?_, by rw [dsput_fst]; exact d.nd⟩
  · obtain ⟨c0, h0, e, _⟩ := mm c hc
    rw [← e]; exact d.pn c0 h0
  · obtain ⟨c0, h0, e, _⟩ := mm c hc
    rw [← e]; exact d.n0 c0 h0
  · obtain ⟨c0, h0, e, _⟩ := mm c hc
    rw [← e]; exact d.nm c0 h0
  · obtain ⟨c0, h0, e, k | k⟩ := mm c hc
    · rw [k.1, k.2]
      exact ⟨kvs, upd_same, r⟩
    · obtain ⟨ks, a, b⟩ := d.ob c0 h0
      rw [k.2]
      rw [k.2] at k
      exact ⟨ks, by rw [upd_ne k.1]; exact a, b⟩
/-- a dict of one's own becomes persistent -/
theorem Holds.dfreeze (h : Holds N P H M) (d : DOk N P H M Δ) {p : Addr} {es : DC} (hp : (p, es) ∈ Δ) :
    ∃ P', Ex P P' ∧ Dn P' (.ref p) (.dict (esD es)) ∧ Holds N P' H M ∧ DOk N P' H M (Δ.filter fun c => decide (c.1 ≠ p)) := by
  obtain ⟨kvs, e, r⟩ := d.ob _ hp
  have pn := d.pn _ hp
  have q : Ex P (upd P p (.dK kvs)) := Ex.new pn
  refine ⟨upd P p (.dK kvs), q, .dic (.inl upd_same) (r.ex q).kv, ⟨fun b u z => ?_, h.ex0.trans q, h.fr, fun b z f => ?_, fun c hc => ?_, h.nd, h.mf, h.fs, h.uf, h.pf.new (o := .dK kvs) (fun _ _ h => by cases h)⟩, ⟨fun c hc => ?_, fun c hc => d.n0 c (List.mem_filter.mp hc).1, fun c hc => d.nm c (List.mem_filter.mp hc).1, fun c hc => ?_, d.nd.sublist ((List.filter_sublist (l := Δ)).map _)⟩⟩
  · by_cases eb : b = p
    · subst eb
      rw [upd_same] at z
      rw [← z]
      exact .inl e
    · rw [upd_ne eb] at z
      exact h.exw b u z
  · by_cases eb : b = p
    · subst eb
      exact d.n0 _ hp
    · rw [upd_ne eb] at f
      exact h.nw b z f
  · obtain ⟨a1, ys, a2, a3⟩ := h.mem c hc
    refine ⟨?_, ys, a2, a3.ex q⟩
    rw [upd_ne fun e => d.nm _ hp (List.mem_map.mpr ⟨c, hc, e⟩)]
    exact a1
  · obtain ⟨hc, ne⟩ := List.mem_filter.mp hc
    have ne : c.1 ≠ p := of_decide_eq_true ne
    rw [upd_ne ne]
    exact d.pn c hc
  · obtain ⟨ks, a, b⟩ := d.ob c (List.mem_filter.mp hc).1
    exact ⟨ks, a, b.ex q⟩
end
end Kt

/-! Kts: statements while dicts of one's own stand (DJ), beside SJ. -/
namespace Kt
open PySem PySem.Spec PyProof PyProof.Rows L2

structure PostD where
  nx : Rho → Mem → Ds → Prop
  rt : It → Mem → Prop
  bk : Rho → Mem → Ds → Prop := fun _ _ _ => False
  ct : Rho → Mem → Ds → Prop := fun _ _ _ => False
  er : Str → Mem → Prop := fun _ _ => False
structure ZE (mg : Str → Option Value) (N : Ent) (P : Hp) (Z : PostD) (D : Ends) (E : XK) : Prop where
  nx : ∀ ρ' M' Δ' σ' H' P', Z.nx ρ' M' Δ' → Ex P P' → Holds N P' H' M' → DOk N P' H' M' Δ' → Slots P' σ' ρ' → D.nx σ' H'
  rt : ∀ i M' v H' P', Z.rt i M' → Ex P P' → Holds N P' H' M' → RepI P' v i → D.rt v H'
  bk : ∀ ρ' M' Δ' σ' H' P', Z.bk ρ' M' Δ' → Ex P P' → Holds N P' H' M' → DOk N P' H' M' Δ' → Slots P' σ' ρ' → D.bk σ' H'
  ct : ∀ ρ' M' Δ' σ' H' P', Z.ct ρ' M' Δ' → Ex P P' → Holds N P' H' M' → DOk N P' H' M' Δ' → Slots P' σ' ρ' → D.ct σ' H'
  er : ∀ z M' d H' P' C, mg "ShapeError" = some (.ref C) → Z.er z M' → Ex P P' → Holds N P' H' M' → H' d = some (XD z) → E (.ref C) (some d) H'
section
variable {X : Cx} {N : Ent} {ρ ρ' : Rho} {M M1 M2 M3 : Mem} {Δ Δ' : Ds} {a b c e tg iter : Expr} {i j k : It} {pos : Pos} {Z : PostD} {body rest : List Stmt} {st : Stmt}
theorem ZE.ex {mg : Str → Option Value} {P P' : Hp} {D : Ends} {E : XK} (e : Ex P P') (z : ZE mg N P Z D E) : ZE mg N P' Z D E :=
  ⟨fun ρ' M' Δ' σ' H' P'' a b => z.nx ρ' M' Δ' σ' H' P'' a (e.trans b), fun i M' v H' P'' a b => z.rt i M' v H' P'' a (e.trans b), fun ρ' M' Δ' σ' H' P'' a b => z.bk ρ' M' Δ' σ' H' P'' a (e.trans b), fun ρ' M' Δ' σ' H' P'' a b => z.ct ρ' M' Δ' σ' H' P'' a (e.trans b), fun w M' d H' P'' C c a b => z.er w M' d H' P'' C c a (e.trans b)⟩
def DJ (X : Cx) (N : Ent) (ρ : Rho) (M : Mem) (Δ : Ds) (sts : List Stmt) (Z : PostD) : Prop :=
  ∀ σ H P, Holds N P H M → DOk N P H M Δ → Slots P σ ρ → ∀ (D : Ends) (E : XK), Takes X (fun c d _ H => E c d H) → ZE X.mg N P Z D E → wSs X sts D σ H
theorem dj_nil (h : Z.nx ρ M Δ) : DJ X N ρ M Δ [] Z := fun σ H P hh d g D E tk z => ss_of pss_nil (z.nx ρ M Δ σ H P h (Ex.refl P) hh d g)
theorem dj_cons (h : ∀ σ H P, Holds N P H M → DOk N P H M Δ → Slots P σ ρ → ∀ (D : Ends) (E : XK), Takes X (fun c d _ H => E c d H) → ZE X.mg N P { Z with nx := fun ρ' M' Δ' => DJ X N ρ' M' Δ' rest Z } D E → wS X st D σ H) : DJ X N ρ M Δ (st :: rest) Z := fun σ H P hh d g D E tk z =>
  ss_of (pss_cons ps_w pss_w) (h σ H P hh d g _ E tk ⟨fun ρ' M' Δ' σ' H' P' a e hh' d' g' => a σ' H' P' hh' d' g' D E tk (z.ex e), z.rt, z.bk, z.ct, z.er⟩)
/-- the end of the statements, with the dicts that stand -/
abbrev ndZ (X : Cx) (N : Ent) (Δ : Ds) (rest : List Stmt) (Z : PostD) : Post := { nx := fun ρ' M' => DJ X N ρ' M' Δ rest Z, rt := Z.rt, bk := fun ρ' M' => Z.bk ρ' M' Δ, ct := fun ρ' M' => Z.ct ρ' M' Δ, er := Z.er }
/-- a statement that changes no dict: by its own rule at an inner point, that knows the dicts -/
theorem dj_st (h : ∀ N', Kn N' Δ → SJ X N' ρ M [st] (ndZ X N Δ rest Z)) : DJ X N ρ M Δ (st :: rest) Z := dj_cons fun σ H P hh d g D E tk z =>
  s_one (h (inner P H M) d.kn σ H P hh.enter1 g D E tk ⟨fun ρ' M' σ' H' P' a e h' g' => z.nx ρ' M' Δ σ' H' P' a e (hh.leave1 h') (d.leave h') g', fun i M' v H' P' a e h' r => z.rt i M' v H' P' a e (hh.leave1 h') r, fun ρ' M' σ' H' P' a e h' g' => z.bk ρ' M' Δ σ' H' P' a e (hh.leave1 h') (d.leave h') g', fun ρ' M' σ' H' P' a e h' g' => z.ct ρ' M' Δ σ' H' P' a e (hh.leave1 h') (d.leave h') g', fun w M' x H' P' C c a e h' r => z.er w M' x H' P' C c a e (hh.leave1 h') r⟩)
/-- from SJ, and back to it -/
abbrev Post.toD (Z : Post) : PostD := { nx := fun ρ' M' _ => Z.nx ρ' M', rt := Z.rt, bk := fun ρ' M' _ => Z.bk ρ' M', ct := fun ρ' M' _ => Z.ct ρ' M', er := Z.er }
theorem sj_dj {sts : List Stmt} {Z : Post} (h : DJ X N ρ M [] sts Z.toD) : SJ X N ρ M sts Z := fun σ H P hh g D E tk z =>
  h σ H P hh DOk.nil g D E tk ⟨fun ρ' M' _ σ' H' P' a e h' _ g' => z.nx ρ' M' σ' H' P' a e h' g', z.rt, fun ρ' M' _ σ' H' P' a e h' _ g' => z.bk ρ' M' σ' H' P' a e h' g', fun ρ' M' _ σ' H' P' a e h' _ g' => z.ct ρ' M' σ' H' P' a e h' g', z.er⟩
theorem dj_sj {sts : List Stmt} (h : SJ X N ρ M sts { nx := fun ρ' M' => Z.nx ρ' M' [], rt := Z.rt, bk := fun ρ' M' => Z.bk ρ' M' [], ct := fun ρ' M' => Z.ct ρ' M' [], er := Z.er }) : DJ X N ρ M Δ sts Z := fun σ H P hh d g D E tk z =>
  h σ H P hh g D E tk ⟨fun ρ' M' σ' H' P' a e h' g' => z.nx ρ' M' [] σ' H' P' a e h' DOk.nil g', z.rt, fun ρ' M' σ' H' P' a e h' g' => z.bk ρ' M' [] σ' H' P' a e h' DOk.nil g', fun ρ' M' σ' H' P' a e h' g' => z.ct ρ' M' [] σ' H' P' a e h' DOk.nil g', z.er⟩
/-- x = {} -/
theorem dj_new (n : Nat) {x : Str} {pos' dp : Pos} (hN : X.N.Nodup) (hr : ∀ p, DJ X N (ρ.set n (some (.v (.ref p)))) M (Δ ++ [(p, [])]) rest Z) (hi : X.N[n]? = some x := by rfl) (hx : Loc X.env.scope x := by first | exact .inl rfl | exact .inr rfl) (hs : swapsWith (.Dict [] [] dp) (some (.Name x pos')) pos.line X.env = pure false := by rfl) (hf : X.fn x = true ∨ X.env.scope.names.lookup x = some .local := by first | exact .inl rfl | exact .inr rfl) :
    DJ X N ρ M Δ (.Assign [.Name x pos'] (.Dict [] [] dp) pos :: rest) Z := dj_cons fun σ H P hh d g D E tk z =>
  s_of (ps_set (i := n) hN hi hx pe_dnewK hs hf) fun p hp => z.nx _ _ _ _ _ P (hr p) (Ex.refl P) (hh.dnew hp) (d.dnew hh hp) (g.set (it := .v (.ref p)) rfl n)
/-- keys as items -/
def kI (k : Key) : It := .d (kD k)
theorem ri_key {P : Hp} {v : V} {k : Key} (h : RepI P v (kI k)) : v = kV k := by
  cases k with
  | inl n => exact ri_int h
  | inr x => exact ri_str h
/-- d[k] = e -/
theorem dj_put {o x : Expr} {spos : Pos} {p : Addr} {es : DC} {k : Key} {v : PyData} (hu : X.A.units + 1 < cLine) (hm : (p, es) ∈ Δ) (hl : es.length < 1000000)
    (he : ∀ N', Kn N' Δ → EJ X N' ρ M e (.d v) M1) (ho : ∀ N', Kn N' Δ → EJ X N' ρ M1 o (.v (.ref p)) M2) (hx : ∀ N', Kn N' Δ → EJ X N' ρ M2 x (kI k) M3)
    (hr : DJ X N ρ M3 (Δ.put p (putD es k v)) rest Z) (hs : swapsWith e (some (.Subscript o x spos)) pos.line X.env = pure false := by rfl) :
    DJ X N ρ M Δ (.Assign [.Subscript o x spos] e pos :: rest) Z := dj_cons fun σ H P hh d g D E tk z => by
  refine s_of (ps_dput hu pe_w pe_w pe_w hs) (he _ d.kn σ H P hh.enter1 g _ fun v1 H1 P1 e1 h1 r1 => ?_)
  refine ho _ d.kn σ H1 P1 h1 (g.ex e1) _ fun v2 H2 P2 e2 h2 r2 => ?_
  refine hx _ d.kn σ H2 P2 h2 ((g.ex e1).ex e2) _ fun v3 H3 P3 e3 h3 r3 => ?_
  cases (show v2 = .ref p from r2)
  have d3 := d.leave h3
  have hh3 := hh.leave1 h3
  obtain ⟨kvs, ek, rk⟩ := d3.ob _ hm
  refine ⟨p, _, rfl, .inl ⟨kvs, k, ek, ri_key r3, by rw [rk.len]; exact Nat.lt_trans hl (by rw [sizeLine_eq]; decide), rfl⟩, ?_⟩
  exact z.nx ρ M3 _ σ _ P3 hr ((e1.trans e2).trans e3) (hh3.dput d3 hm) (d3.dput hm (rk.put (dn_ex (e2.trans e3) _ _ r1))) (((g.ex e1).ex e2).ex e3)
/-- a dict of one's own becomes data, at a slot -/
theorem dj_freeze (n : Nat) {p : Addr} {es : DC} {sts : List Stmt} (hρ : ρ[n]? = some (some (.v (.ref p)))) (hm : (p, es) ∈ Δ) (hr : DJ X N (ρ.set n (some (.d (.dict (esD es))))) M (Δ.filter fun c => decide (c.1 ≠ p)) sts Z) : DJ X N ρ M Δ sts Z := fun σ H P hh d g D E tk z => by
  obtain ⟨P', e, dn, h', d'⟩ := hh.dfreeze d hm
  obtain ⟨v, ev, rv⟩ := g.2 n _ hρ
  cases (show v = .ref p from rv)
  have es : σ.set n (some (.ref p)) = σ := by
    refine List.ext_getElem? fun m => ?_
    by_cases q : n = m
    · subst q
      have l : n < σ.length := (List.getElem?_eq_some_iff.mp ev).1
      rw [List.getElem?_set_self l, ev]
    · rw [List.getElem?_set_ne q]
  have g' := (g.ex e).set (it := .d (.dict _)) (v := .ref p) dn n
  rw [es] at g'
  exact hr σ H P' h' d' g' D E tk (z.ex e)
theorem dj_weak {sts : List Stmt} (h : DJ X N ρ' M1 Δ' sts Z) (hl : ρ'.length = ρ.length) (w : ∀ (n : Nat) (it : It), ρ'[n]? = some (some it) → ρ[n]? = some (some it)) (s : ∀ c ∈ M1, c ∈ M) (nd : (M.map Prod.fst).Nodup → (M1.map Prod.fst).Nodup) (mf : ∀ a ∈ N.F, a ∈ M1.map Prod.fst) (sd : List.Sublist Δ' Δ) : DJ X N ρ M Δ sts Z :=
  fun σ H P hh d g D E tk z => h σ H P (hh.sub s (nd hh.nd) mf) ⟨fun c hc => d.pn c (sd.mem hc), fun c hc => d.n0 c (sd.mem hc), fun c hc q => d.nm c (sd.mem hc) (by
    obtain ⟨c2, a, b⟩ := List.mem_map.mp q
    exact List.mem_map.mpr ⟨c2, s c2 a, b⟩), fun c hc => d.ob c (sd.mem hc), d.nd.sublist (sd.map _)⟩ (g.weak hl w) D E tk z
theorem dj_is {sts : List Stmt} (h : DJ X N ρ' M1 Δ' sts Z) (e1 : ρ = ρ') (e2 : M = M1) (e3 : Δ = Δ') : DJ X N ρ M Δ sts Z := by
  subst e1; subst e2; subst e3; exact h
theorem dj_if {A B : List Stmt} {t : Bool} (hc : ∀ N', Kn N' Δ → TJ X N' ρ M c t M1) (h1 : t = true → DJ X N ρ M1 Δ A { Z with nx := fun ρ' M' Δ' => DJ X N ρ' M' Δ' rest Z }) (h2 : t = false → DJ X N ρ M1 Δ B { Z with nx := fun ρ' M' Δ' => DJ X N ρ' M' Δ' rest Z }) : DJ X N ρ M Δ (.If c A B pos :: rest) Z := dj_cons fun σ H P hh d g D E tk z =>
  s_of (ps_if pt_w pss_w pss_w) (hc _ d.kn σ H P hh.enter1 g _ fun H1 P1 e1 h1' => by
    have hh1 := hh.leave1 h1'
    have d1 := d.leave h1'
    cases t with
    | true => exact iteT (h1 rfl σ H1 P1 hh1 d1 (g.ex e1) D E tk (z.ex e1))
    | false => exact iteF (h2 rfl σ H1 P1 hh1 d1 (g.ex e1) D E tk (z.ex e1)))
theorem dj_while (n0 : Nat) (Inv : Nat → Rho → Mem → Ds → Prop) (h0 : Inv n0 ρ M Δ)
    (step : ∀ m ρ' M' Δ', Inv m ρ' M' Δ' → ∃ t M2, (∀ N', Kn N' Δ' → TJ X N' ρ' M' c t M2) ∧ (t = true → DJ X N ρ' M2 Δ' body { nx := fun ρ2 M3 Δ3 => ∃ m', m' < m ∧ Inv m' ρ2 M3 Δ3, ct := fun ρ2 M3 Δ3 => ∃ m', m' < m ∧ Inv m' ρ2 M3 Δ3, bk := fun ρ' M' Δ' => DJ X N ρ' M' Δ' rest Z, rt := Z.rt, er := Z.er }) ∧ (t = false → DJ X N ρ' M2 Δ' rest Z))
    (hp : PassesOwn (model X.prog X.w) X.A X.env X.xe := by exact PassesOwn.never) : DJ X N ρ M Δ (.While c body [] pos :: rest) Z := dj_cons fun σ H P hh d g D E tk z => by
  refine s_of (ps_while hp pt_w pss_w) ⟨fun m σ' H' => ∃ ρ' M' Δ' P', Inv m ρ' M' Δ' ∧ Holds N P' H' M' ∧ DOk N P' H' M' Δ' ∧ Slots P' σ' ρ' ∧ Ex P P', ⟨n0, ρ, M, Δ, P, h0, hh, d, g, Ex.refl P⟩, fun m σ' H' hw => ?_⟩
  obtain ⟨ρ', M', Δ', P', w, h2, d2, g2, e2⟩ := hw
  obtain ⟨t, M2, T, S1, S2⟩ := step m ρ' M' Δ' w
  refine T _ d2.kn σ' H' P' h2.enter1 g2 _ fun H3 P3 e3 h3' => ?_
  have h3 := h2.leave1 h3'
  have d3 := d2.leave h3'
  cases t with
  | true =>
    refine iteT ⟨fun σ4 H4 => ∃ m', m' < m ∧ ∃ ρ' M' Δ' P', Inv m' ρ' M' Δ' ∧ Holds N P' H4 M' ∧ DOk N P' H4 M' Δ' ∧ Slots P' σ4 ρ' ∧ Ex P P', fun σ4 H4 ⟨m', l, w'⟩ => ⟨m', l, w'⟩, ?_⟩
    refine S1 rfl σ' H3 P3 h3 d3 (g2.ex e3) _ E tk ⟨fun ρ4 M4 Δ4 σ4 H4 P4 ⟨m', l, w'⟩ e h d g => ⟨m', l, ρ4, M4, Δ4, P4, w', h, d, g, (e2.trans e3).trans e⟩, fun i M4 v H4 P4 a e h r => z.rt i M4 v H4 P4 a ((e2.trans e3).trans e) h r, fun ρ4 M4 Δ4 σ4 H4 P4 a e h d g => z.nx ρ4 M4 Δ4 σ4 H4 P4 a ((e2.trans e3).trans e) h d g, fun ρ4 M4 Δ4 σ4 H4 P4 ⟨m', l, w'⟩ e h d g => ⟨m', l, ρ4, M4, Δ4, P4, w', h, d, g, (e2.trans e3).trans e⟩, fun w M4 x H4 P4 C c a e h r => z.er w M4 x H4 P4 C c a ((e2.trans e3).trans e) h r⟩
  | false => exact iteF (z.nx ρ' M2 Δ' σ' H3 P3 (S2 rfl) (e2.trans e3) h3 d3 (g2.ex e3))
/-! ### loops over a walk of data -/
/-- a walk that changes nothing but what is new, seen from any point -/
structure WalkA (P1 : Hp) (J : L2.It) (ds : List PyData) : Prop where
  go : ∀ i N H P' M', i < ds.length → Holds N P' H M' → Ex P1 P' → J.go i H
  stop : ∀ N H P' M', Holds N P' H M' → Ex P1 P' → J.stop ds.length H
  yld : ∀ i N H x H' P' M', i < ds.length → Holds N P' H M' → Ex P1 P' → J.yld i H x H' → ∃ P'' d, ds[i]? = some d ∧ Ex P' P'' ∧ Holds N P'' H' M' ∧ RepI P'' x (.d d)
def IA (X : Cx) (N : Ent) (ρ : Rho) (M : Mem) (tg iter : Expr) (ds : List PyData) (M1 : Mem) : Prop :=
  ∃ ti : TI, PI X tg iter ti ∧ ∀ σ H P, Holds N P H M → Slots P σ ρ → ∀ R, (∀ J H1 P1, Ex P P1 → Holds N P1 H1 M1 → WalkA P1 J ds → R J H1) → ti σ H R
/-- as IA, with the dicts known to the expression that is walked -/
def IAK (X : Cx) (ρ : Rho) (M : Mem) (Δ : Ds) (tg iter : Expr) (ds : List PyData) (M1 : Mem) : Prop :=
  ∃ ti : TI, PI X tg iter ti ∧ ∀ N, Kn N Δ → ∀ σ H P, Holds N P H M → Slots P σ ρ → ∀ R, (∀ J H1 P1, Ex P P1 → Holds N P1 H1 M1 → WalkA P1 J ds → R J H1) → ti σ H R
theorem ia_list {ds : List PyData} (ha : ∀ N, Kn N Δ → EJ X N ρ M iter (.d (.list ds)) M1) : IAK X ρ M Δ tg iter ds M1 := by
  refine ⟨_, pi_list pe_w, fun N kn σ H P hh g R q => ?_⟩
  refine ha N kn σ H P hh g _ fun v H1 P1 e1 h1 r1 => ?_
  obtain ⟨t, xs, rfl, x1, x2⟩ := ri_lst r1
  have xl := dnAll_len x2
  refine ⟨t, rfl, ⟨xs, .inl (.inl (h1.ex _ _ x1))⟩, q _ H1 P1 e1 h1 ⟨fun i N H P' M' hi h2 e2 => ?_, fun N H P' M' h2 e2 => ?_, fun i N H v H' P' M' hi h2 e2 y => ?_⟩⟩
  · rw [← xl] at hi
    exact ⟨xs, _, .inl (.inl (h2.ex _ _ (e2 _ _ x1))), List.getElem?_eq_getElem hi⟩
  · exact ⟨xs, .inl (.inl (h2.ex _ _ (e2 _ _ x1))), by rw [xl]; exact Nat.le_refl _⟩
  · obtain ⟨rfl, hx⟩ := y
    have hx := hx xs (.inl (.inl (h2.ex _ _ (e2 _ _ x1))))
    obtain ⟨v', ev, dv⟩ := dnAll_get x2 (List.getElem?_eq_getElem hi)
    rw [hx] at ev
    cases Option.some.inj ev
    exact ⟨P', _, List.getElem?_eq_getElem hi, Ex.refl _, h2, dn_ex e2 _ _ dv⟩
theorem ia_tup {ds : List PyData} (ha : ∀ N, Kn N Δ → EJ X N ρ M iter (.d (.tuple ds)) M1) : IAK X ρ M Δ tg iter ds M1 := by
  refine ⟨_, pi_tup pe_w, fun N kn σ H P hh g R q => ?_⟩
  refine ha N kn σ H P hh g _ fun v H1 P1 e1 h1 r1 => ?_
  obtain ⟨t, xs, rfl, x1, x2⟩ := ri_tup r1
  have xl := dnAll_len x2
  refine ⟨t, rfl, ⟨xs, .inl (.inl (h1.ex _ _ x1))⟩, q _ H1 P1 e1 h1 ⟨fun i N H P' M' hi h2 e2 => ?_, fun N H P' M' h2 e2 => ?_, fun i N H v H' P' M' hi h2 e2 y => ?_⟩⟩
  · rw [← xl] at hi
    exact ⟨xs, _, .inl (.inl (h2.ex _ _ (e2 _ _ x1))), List.getElem?_eq_getElem hi⟩
  · exact ⟨xs, .inl (.inl (h2.ex _ _ (e2 _ _ x1))), by rw [xl]; exact Nat.le_refl _⟩
  · obtain ⟨rfl, hx⟩ := y
    have hx := hx xs (.inl (.inl (h2.ex _ _ (e2 _ _ x1))))
    obtain ⟨v', ev, dv⟩ := dnAll_get x2 (List.getElem?_eq_getElem hi)
    rw [hx] at ev
    cases Option.some.inj ev
    exact ⟨P', _, List.getElem?_eq_getElem hi, Ex.refl _, h2, dn_ex e2 _ _ dv⟩
theorem ia_enumT {p : Pos} {elts : List Expr} {kk : Nat} {tpos : Pos} {ds : List PyData} (hm : X.mg "enumerate" = none) (ha : ∀ N, Kn N Δ → EJ X N ρ M a (.d (.tuple ds)) M1) (hg : Gl X "enumerate" := by rfl) (hs : starEach [a] X.env = [(false, eval a X.env)] := by rfl) :
    IAK X ρ M Δ (.Tuple elts kk tpos) (.Call (.Name "enumerate" p) [a] [] pos) (enumD ds) M1 := by
  refine ⟨_, pi_enumT hg hm pa_w hs, fun N kn σ H P hh g R q => ?_⟩
  refine aj_cons (ha N kn) aj_nil hs σ H P hh g _ fun vs H1 P1 e1 h1 r1 => ?_
  obtain ⟨x, rfl, r2⟩ := ri1 r1
  obtain ⟨t, xs, rfl, x1, x2⟩ := ri_tup r2
  have xl := dnAll_len x2
  refine ⟨t, xs, rfl, .inl (.inl (h1.ex _ _ x1)), q _ H1 P1 e1 h1 ⟨fun i N H P' M' hi h2 e2 => ?_, fun N H P' M' h2 e2 => ?_, fun i N H v H' P' M' hi h2 e2 y => ?_⟩⟩
  · rw [enumD_len, ← xl] at hi
    exact ⟨xs, _, .inl (.inl (h2.ex _ _ (e2 _ _ x1))), List.getElem?_eq_getElem hi⟩
  · exact ⟨xs, .inl (.inl (h2.ex _ _ (e2 _ _ x1))), by rw [enumD_len, xl]⟩
  · obtain ⟨T, u, rfl, hT, rfl, hx⟩ := y
    have hx := hx xs (.inl (.inl (h2.ex _ _ (e2 _ _ x1))))
    rw [enumD_len] at hi
    obtain ⟨v', ev, dv⟩ := dnAll_get x2 (List.getElem?_eq_getElem hi)
    rw [hx] at ev
    cases Option.some.inj ev
    obtain ⟨h5, e5⟩ := h2.pers (o := .tup [.int (i : Nat), u]) hT
    exact ⟨_, _, enumD_get (List.getElem?_eq_getElem hi), e5, h5, .tup upd_same (.cons (.int _) (.cons (dn_ex e5 _ _ (dn_ex e2 _ _ dv)) .nil))⟩
theorem dj_for {ds : List PyData} (hc : X.calm = true) (hi : IAK X ρ M Δ tg iter ds M1) (Inv : Nat → Rho → Mem → Ds → Prop) (h0 : Inv 0 ρ M1 Δ)
    (step : ∀ n d ρ' M' Δ', ds[n]? = some d → Inv n ρ' M' Δ' → ∃ ρ2, GJ X N tg (.d d) ρ' ρ2 ∧ DJ X N ρ2 M' Δ' body { nx := Inv (n + 1), ct := Inv (n + 1), bk := fun ρ' M' Δ' => DJ X N ρ' M' Δ' rest Z, rt := Z.rt, er := Z.er })
    (done : ∀ ρ' M' Δ', Inv ds.length ρ' M' Δ' → DJ X N ρ' M' Δ' rest Z) (hp : PassesOwn (model X.prog X.w) X.A X.env X.xe := by exact PassesOwn.never) (hf : ∀ x, foldedSetIterable iter X.env x = pure x := by intro _; rfl) : DJ X N ρ M Δ (.For tg iter body [] pos :: rest) Z := dj_cons fun σ H P hh d g D E tk z => by
  obtain ⟨ti, pi, hi⟩ := hi
  refine s_of (ps_for hp hc pi pg_w pss_w hf) (hi _ d.kn σ H P hh.enter1 g _ fun J H1 P1 e1 h1' W => ?_)
  have h1 := hh.leave1 h1'
  have d1 := d.leave h1'
  have WK : Walk J ds.length (fun H => ∃ P' M' Δ', Holds N P' H M' ∧ DOk N P' H M' Δ' ∧ Ex P1 P') (fun i H x H' => ∀ P' M' Δ', Holds N P' H M' → DOk N P' H M' Δ' → Ex P1 P' → ∃ P'' d, ds[i]? = some d ∧ Ex P' P'' ∧ Holds N P'' H' M' ∧ DOk N P'' H' M' Δ' ∧ RepI P'' x (.d d)) :=
    ⟨fun i H hi ⟨P', M', Δ', a, _, b⟩ => W.go i N H P' M' hi a b, fun H ⟨P', M', Δ', a, _, b⟩ => W.stop N H P' M' a b, fun i H x H' hi _ y P' M' Δ' a dd b => by
      obtain ⟨P'', d, q1, q2, q3, q4⟩ := W.yld i _ H x H' P' M' hi a.enter1 b y
      exact ⟨P'', d, q1, q2, a.leave1 q3, dd.leave q3, q4⟩⟩
  refine for_it WK (fun n σ' H' => ∃ ρ' M' Δ' P', Inv n ρ' M' Δ' ∧ Holds N P' H' M' ∧ DOk N P' H' M' Δ' ∧ Slots P' σ' ρ' ∧ Ex P1 P') ⟨ρ, M1, Δ, P1, h0, h1, d1, g.ex e1, Ex.refl _⟩ (fun i σ' H' _ ⟨ρ', M', Δ', P', iv, a, dd, _, b⟩ => ⟨P', M', Δ', a, dd, b⟩) (fun n x σ' H' H2 hn hw hy => ?_) (fun σ' H' hw => ?_)
  · obtain ⟨ρ', M', Δ', P', w, h2, d2, g2, e2⟩ := hw
    obtain ⟨P2, dd, ed, e3, h3, d3, r3⟩ := hy P' M' Δ' h2 d2 e2
    obtain ⟨ρ2, G, S⟩ := step n dd ρ' M' Δ' ed w
    refine G x σ' H2 P2 M' h3 (g2.ex e3) r3 _ fun σ2 g3 => ?_
    refine S σ2 H2 P2 h3 d3 g3 _ E tk ⟨fun ρ4 M4 Δ4 σ4 H4 P4 a e h d g => ⟨ρ4, M4, Δ4, P4, a, h, d, g, (e2.trans e3).trans e⟩, fun i M4 v H4 P4 a e h r => z.rt i M4 v H4 P4 a ((e1.trans (e2.trans e3)).trans e) h r, fun ρ4 M4 Δ4 σ4 H4 P4 a e h d g => z.nx ρ4 M4 Δ4 σ4 H4 P4 a ((e1.trans (e2.trans e3)).trans e) h d g, fun ρ4 M4 Δ4 σ4 H4 P4 a e h d g => ⟨ρ4, M4, Δ4, P4, a, h, d, g, (e2.trans e3).trans e⟩, fun w M4 x H4 P4 C c a e h r => z.er w M4 x H4 P4 C c a ((e1.trans (e2.trans e3)).trans e) h r⟩
  · obtain ⟨ρ', M', Δ', P', w, h2, d2, g2, e2⟩ := hw
    exact z.nx ρ' M' Δ' σ' H' P' (done ρ' M' Δ' w) (e1.trans e2) h2 d2 g2
/-! ### reading: dicts of one's own at an inner point, and dicts that are data -/
theorem DGet.kn {N : Ent} {P H : Hp} {p : Addr} {es : DC} (kn : Kn N Δ) (hh : Holds N P H M) (hm : (p, es) ∈ Δ) (k : Key) : (valD es k = none ∧ DGet H p (kV k) none) ∨ ∃ v d, valD es k = some d ∧ DGet H p (kV k) (some v) ∧ Dn P v d := by
  obtain ⟨nf, kvs, e, r⟩ := kn _ hm
  have eH := hh.fr _ _ e nf
  rcases r.val k with ⟨q1, q2⟩ | ⟨v, d, q1, q2, q3⟩
  · exact .inl ⟨q2, by rw [← q1]; exact DGet.k eH⟩
  · exact .inr ⟨v, d, q2, by rw [← q1]; exact DGet.k eH, dn_ex hh.ex0 _ _ q3⟩
end
end Kt

/-! Ktu: reading dicts: of one's own at an inner point (K), and dicts that are data (D). -/
namespace Kt
open PySem PySem.Spec PyProof PyProof.Rows L2
theorem kD_inj {a b : Key} (h : kD a = kD b) : a = b := by
  cases a with
  | inl x => cases b with
    | inl y => cases h; rfl
    | inr y => cases h
  | inr x => cases b with
    | inl y => cases h
    | inr y => cases h; rfl
theorem KV.of {P : Hp} : ∀ {kvs : List (Key × V)} {es : DC}, DnKV P kvs (esD es) → KV P kvs es
  | kvs, [], h => by
    cases h
    trivial
  | kvs, (.inl i, d) :: s, h => by
    cases h with
    | inl a b => exact ⟨rfl, a, KV.of b⟩
  | kvs, (.inr i, d) :: s, h => by
    cases h with
    | inr a b => exact ⟨rfl, a, KV.of b⟩
theorem ri_dic {P : Hp} {v : V} {es : DC} (h : RepI P v (.d (.dict (esD es)))) : ∃ a kvs, v = .ref a ∧ Rd P a (.dK kvs) ∧ KV P kvs es := by
  cases (show Dn P v (.dict (esD es)) from h) with
  | dic a b => exact ⟨_, _, rfl, a, KV.of b⟩
section
variable {X : Cx} {N : Ent} {ρ : Rho} {M M1 M2 : Mem} {Δ : Ds} {o x : Expr} {pos : Pos}
/-- what may be read as a dict with these contents -/
inductive Rdd (N : Ent) (M : Mem) : It → DC → Prop
  | k {Δ : Ds} {p : Addr} {es : DC} : Kn N Δ → (p, es) ∈ Δ → Rdd N M (.v (.ref p)) es
  | d {es : DC} : Rdd N M (.d (.dict (esD es))) es
theorem Rdd.get {i : It} {es : DC} (r : Rdd N M i es) {P H : Hp} {v : V} (hh : Holds N P H M1) (h : RepI P v i) (k : Key) : ∃ p, v = .ref p ∧ ((valD es k = none ∧ DGet H p (kV k) none) ∨ ∃ v d, valD es k = some d ∧ DGet H p (kV k) (some v) ∧ Dn P v d) := by
  cases r with
  | k kn hm => exact ⟨_, h, DGet.kn kn hh hm k⟩
  | d =>
    obtain ⟨a, kvs, rfl, e, r⟩ := ri_dic h
    have eH := hh.exw.rd e
    refine ⟨a, rfl, ?_⟩
    rcases r.val k with ⟨q1, q2⟩ | ⟨v, d, q1, q2, q3⟩
    · exact .inl ⟨q2, by rw [← q1]; exact .inl ⟨_, k, eH, rfl, rfl⟩⟩
    · exact .inr ⟨v, d, q2, by rw [← q1]; exact .inl ⟨_, k, eH, rfl, rfl⟩, q3⟩
theorem ej_dget {i : It} {es : DC} {k : Key} {d : PyData} (hu : X.A.units + 1 < cLine) (r : Rdd N M2 i es) (hv : valD es k = some d) (ho : EJ X N ρ M o i M1) (hx : EJ X N ρ M1 x (kI k) M2) (hs : NoSl x := by intro _ _; rfl) : EJ X N ρ M (.Subscript o x pos) (.d d) M2 := fun σ H P h g Q q =>
  e_of (pe_dget hu pe_w pe_w hs) (ho σ H P h g _ fun v1 H1 P1 e1 h1 r1 => hx σ H1 P1 h1 (g.ex e1) _ fun v2 H2 P2 e2 h2 r2 => by
    obtain ⟨p, rfl, q1 | ⟨v, d', q1, q2, q3⟩⟩ := r.get h2 (r1.ex e2) k
    · rw [q1.1] at hv; cases hv
    · rw [hv] at q1
      cases q1
      cases ri_key r2
      exact ⟨p, v, rfl, q2, q v H2 P2 (e1.trans e2) h2 q3⟩)
theorem tj_din {i : It} {es : DC} {k : Key} (hu : X.A.units + 1 < cLine) (r : Rdd N M2 i es) (hx : EJ X N ρ M x (kI k) M1) (ho : EJ X N ρ M1 o i M2) (hm : behindInMarks .In o = false := by rfl) : TJ X N ρ M (.Compare x [.In] [o] pos) (valD es k).isSome M2 := fun σ H P h g Q q =>
  t_of (pt_cmp (pc_din hu pe_w pe_w) hm) (hx σ H P h g _ fun v1 H1 P1 e1 h1 r1 => ho σ H1 P1 h1 (g.ex e1) _ fun v2 H2 P2 e2 h2 r2 => by
    cases ri_key r1
    obtain ⟨p, rfl, q1 | ⟨v, d', q1, q2, q3⟩⟩ := r.get h2 r2 k
    · exact ⟨p, none, rfl, q1.2, _, rfl, by have := q H2 P2 (e1.trans e2) h2; rw [q1.1] at this; exact this⟩
    · exact ⟨p, some v, rfl, q2, _, rfl, by have := q H2 P2 (e1.trans e2) h2; rw [q1] at this; exact this⟩)
theorem tj_dnin {i : It} {es : DC} {k : Key} (hu : X.A.units + 1 < cLine) (r : Rdd N M2 i es) (hx : EJ X N ρ M x (kI k) M1) (ho : EJ X N ρ M1 o i M2) (hm : behindInMarks .NotIn o = false := by rfl) : TJ X N ρ M (.Compare x [.NotIn] [o] pos) (!(valD es k).isSome) M2 := fun σ H P h g Q q =>
  t_of (pt_cmp (pc_dnotin hu pe_w pe_w) hm) (hx σ H P h g _ fun v1 H1 P1 e1 h1 r1 => ho σ H1 P1 h1 (g.ex e1) _ fun v2 H2 P2 e2 h2 r2 => by
    cases ri_key r1
    obtain ⟨p, rfl, q1 | ⟨v, d', q1, q2, q3⟩⟩ := r.get h2 r2 k
    · exact ⟨p, none, rfl, q1.2, _, rfl, by have := q H2 P2 (e1.trans e2) h2; rw [q1.1] at this; exact this⟩
    · exact ⟨p, some v, rfl, q2, _, rfl, by have := q H2 P2 (e1.trans e2) h2; rw [q1] at this; exact this⟩)
/-! ### what a store does to the contents -/
theorem valD_put (es : DC) (k j : Key) (d : PyData) : valD (putD es k d) j = if j = k then some d else valD es j := by
  have nn : ∀ (es : DC), valD es k = none → valD (es ++ [(k, d)]) j = if j = k then some d else valD es j := fun es => by
    induction es with
    | nil =>
      intro _
      by_cases e : k = j
      · rw [if_pos e.symm]
        unfold valD
        rw [List.nil_append, List.find?_cons_of_pos (by exact decide_eq_true e)]
        rfl
      · rw [if_neg (fun q => e q.symm)]
        unfold valD
        rw [List.nil_append, List.find?_cons_of_neg (by simpa using e)]
    | cons c s ih =>
      intro h
      by_cases e : c.1 = j
      · have ne : ¬ j = k := fun q => by
          unfold valD at h
          rw [List.find?_cons_of_pos (by exact decide_eq_true (e.trans q))] at h
          cases h
        rw [if_neg ne]
        unfold valD
        rw [List.cons_append, List.find?_cons_of_pos (by exact decide_eq_true e), List.find?_cons_of_pos (by exact decide_eq_true e)]
      · have h' : valD s k = none := by
          unfold valD at h ⊢
          by_cases e2 : c.1 = k
          · rw [List.find?_cons_of_pos (by exact decide_eq_true e2)] at h; cases h
          · rw [List.find?_cons_of_neg (by simpa using e2)] at h; exact h
        have a : valD ((c :: s) ++ [(k, d)]) j = valD (s ++ [(k, d)]) j := by
          unfold valD
          rw [List.cons_append, List.find?_cons_of_neg (by simpa using e)]
        have b : valD (c :: s) j = valD s j := by
          unfold valD
          rw [List.find?_cons_of_neg (by simpa using e)]
        rw [a, b]
        exact ih h'
  have mm : ∀ (es : DC), valD (es.map fun kv => if kv.1 = k then (kv.1, d) else kv) j = if j = k then (valD es j).map (fun _ => d) else valD es j := fun es => by
    induction es with
    | nil => simp [valD]
    | cons c s ih =>
      by_cases e2 : c.1 = k
      · rw [List.map_cons, if_pos e2]
        by_cases e : c.1 = j
        · rw [if_pos (e.symm.trans e2)]
          unfold valD
          rw [List.find?_cons_of_pos (by exact decide_eq_true e), List.find?_cons_of_pos (by exact decide_eq_true e)]
          rfl
        · rw [if_neg (fun q => e (e2.trans q.symm))]
          rw [if_neg (fun q => e (e2.trans q.symm))] at ih
          unfold valD at ih ⊢
          rw [List.find?_cons_of_neg (by simpa using e), List.find?_cons_of_neg (by simpa using e)]
          exact ih
      · rw [List.map_cons, if_neg e2]
        by_cases e : c.1 = j
        · rw [if_neg (fun q => e2 (e.trans q))]
          unfold valD
          rw [List.find?_cons_of_pos (by exact decide_eq_true e), List.find?_cons_of_pos (by exact decide_eq_true e)]
        · unfold valD at ih ⊢
          rw [List.find?_cons_of_neg (by simpa using e), List.find?_cons_of_neg (by simpa using e)]
          exact ih
  have ay : (es.any fun kv => decide (kv.1 = k)) = (valD es k).isSome := by
    unfold valD
    rw [Option.isSome_map, Bool.eq_iff_iff, List.find?_isSome, List.any_eq_true]
  unfold putD
  by_cases e : (es.any fun kv => decide (kv.1 = k)) = true
  · rw [if_pos e, mm]
    by_cases q : j = k
    · rw [if_pos q, if_pos q, q]
      rw [ay] at e
      obtain ⟨y, hy⟩ := Option.isSome_iff_exists.mp e
      rw [hy]
      rfl
    · rw [if_neg q, if_neg q]
  · rw [if_neg e]
    refine nn es ?_
    rw [ay] at e
    cases h : valD es k with
    | none => rfl
    | some y => rw [h] at e; exact absurd rfl e
theorem putD_new {es : DC} {k : Key} (d : PyData) (h : valD es k = none) : putD es k d = es ++ [(k, d)] := by
  have ay : ¬ (es.any fun kv => decide (kv.1 = k)) = true := fun q => by
    obtain ⟨c, hc, e⟩ := List.any_eq_true.mp q
    unfold valD at h
    rw [Option.map_eq_none_iff] at h
    exact (List.find?_eq_none.mp h c hc) e
  unfold putD
  rw [if_neg ay]
theorem dsput_last {Δ : Ds} {p : Addr} {es es' : DC} (nd : ((Δ ++ [(p, es)]).map Prod.fst).Nodup) : (Δ ++ [(p, es)]).put p es' = Δ ++ [(p, es')] := by
  unfold Ds.put
  rw [List.map_append]
  rw [List.map_append] at nd
  congr 1
  · have : (Δ.map fun c => if c.1 = p then (p, es') else c) = Δ.map id := List.map_congr_left fun c hc => if_neg fun e => (List.nodup_append.mp nd).2.2 c.1 (List.mem_map.mpr ⟨c, hc, rfl⟩) p (by simp) e
    rw [this, List.map_id]
  · simp
theorem dsput_one {p : Addr} {es es' : DC} : Ds.put [(p, es)] p es' = [(p, es')] := by
  simp [Ds.put]
end
end Kt

/-! Ktv: a dict that is data, under a lock while it is walked. -/
namespace Kt
open PySem PySem.Spec PyProof PyProof.Rows L2
section
variable {N : Ent} {P P' H H' : Hp} {M M' : Mem} {d : Addr} {kvs : List (Key × V)} {od : Obj}
theorem Holds.plain (h : Holds N P H M) (f : NzD N.H0) (hd : Rd P d (.dK kvs)) : P d = some (.dK kvs) ∧ H d = some (.dK kvs) := by
  have hp : P d = some (.dK kvs) := by
    rcases hd with k | ⟨o, k⟩
    · exact k
    · exact absurd k (h.pf d o kvs)
  rcases h.exw d _ hp with k | ⟨_, od, k⟩
  · exact ⟨hp, k⟩
  · exact absurd (h.uf d od kvs k) (f d od kvs)
theorem Holds.lock (h : Holds N P H M) (hp : P d = some (.dK kvs)) : Holds (inner P (upd H d (.frz od (.dK kvs))) M) P (upd H d (.frz od (.dK kvs))) M := by
  have nd : ∀ c ∈ M, c.1 ≠ d := fun c hc e => by
    have := (h.mem c hc).1
    rw [e, hp] at this
    cases this
  refine ⟨fun a u e => ?_, Ex.refl P, fun _ _ e _ => e, fun b e f => absurd e f, fun c hc => ?_, h.nd, fun a ha => ha, fun c hc => .inl (List.mem_map.mpr ⟨c, hc, rfl⟩), fun _ _ _ e => e, h.pf⟩
  · by_cases ea : a = d
    · subst ea
      rw [hp] at e
      cases Option.some.inj e
      exact .inr ⟨⟨_, rfl⟩, od, upd_same⟩
    · rw [upd_ne ea]
      exact h.exw a u e
  · obtain ⟨a1, xs, a2, a3⟩ := h.mem c hc
    exact ⟨a1, xs, by rw [upd_ne (nd c hc)]; exact a2, a3⟩
theorem Holds.locked (h : Holds N P H M) (hp : P d = some (.dK kvs)) (h' : Holds (inner P (upd H d (.frz od (.dK kvs))) M) P' H' M') : H' d = some (.frz od (.dK kvs)) := by
  refine h'.fr d _ upd_same fun q => ?_
  obtain ⟨c, hc, e⟩ := List.mem_map.mp q
  have := (h.mem c hc).1
  rw [e, hp] at this
  cases this
theorem Holds.unlock (h : Holds N P H M) (hp : P d = some (.dK kvs)) (hH : H d = some (.dK kvs)) (h' : Holds (inner P (upd H d (.frz od (.dK kvs))) M) P' H' M') : Holds N P' (upd H' d (.dK kvs)) M' := by
  have hp' : P' d = some (.dK kvs) := h'.ex0 _ _ hp
  have nM : ∀ c ∈ M, c.1 ≠ d := fun c hc e => by
    have := (h.mem c hc).1
    rw [e, hp] at this
    cases this
  have nM' : ∀ c ∈ M', c.1 ≠ d := fun c hc e => by
    have := (h'.mem c hc).1
    rw [e, hp'] at this
    cases this
  have h1 : ∀ b, upd H d (.frz od (.dK kvs)) b = none → H b = none := fun b e => by
    by_cases eb : b = d
    · subst eb
      rw [upd_same] at e
      cases e
    · rw [upd_ne eb] at e
      exact e
  refine ⟨fun a u e => ?_, h.ex0.trans h'.ex0, fun b o e f => ?_, fun b e f => ?_, fun c hc => ?_, h'.nd, fun a ha => h'.mf a (h.mf a ha), fun c hc => ?_, fun a o ks e => ?_, h'.pf⟩
  · by_cases ea : a = d
    · subst ea
      rw [hp'] at e
      rw [← e]
      exact .inl upd_same
    · rw [upd_ne ea]
      exact h'.exw a u e
  · by_cases eb : b = d
    · subst eb
      have := h.fr b o e f
      rw [hH] at this
      rw [← this]
      exact upd_same
    · rw [upd_ne eb]
      refine h'.fr b o (by show upd H d _ b = some o; rw [upd_ne eb]; exact h.fr b o e f) fun q => ?_
      obtain ⟨c, hc, ec⟩ := List.mem_map.mp q
      rcases h.fs c hc with k | k
      · exact f (ec ▸ k)
      · rw [ec, e] at k; cases k
  · cases q : P b with
    | some u => exact h.nw b e (by rw [q]; exact Option.some_ne_none u)
    | none => exact h.h0_none (h1 b (h'.nw b q f))
  · obtain ⟨a1, xs, a2, a3⟩ := h'.mem c hc
    exact ⟨a1, xs, by rw [upd_ne (nM' c hc)]; exact a2, a3⟩
  · rcases h'.fs c hc with k | k
    · obtain ⟨c2, hc2, e2⟩ := List.mem_map.mp k
      have := h.fs c2 hc2
      rw [e2] at this
      exact this
    · exact .inr (h.h0_none (h1 _ k))
  · by_cases ea : a = d
    · subst ea
      rw [upd_same] at e
      cases e
    · rw [upd_ne ea] at e
      have := h'.uf a o ks e
      rw [show (inner P (upd H d (.frz od (.dK kvs))) M).H0 = upd H d (.frz od (.dK kvs)) from rfl, upd_ne ea] at this
      exact h.uf a o ks this
end
theorem KV.get {P : Hp} {i : Nat} {k : Key} {v : V} : ∀ {kvs : List (Key × V)} {es : DC}, KV P kvs es → kvs[i]? = some (k, v) → ∃ d, es[i]? = some (k, d) := fun {kvs es} h => by
  induction kvs generalizing es i with
  | nil => intro e; simp at e
  | cons c r ih =>
    intro e
    match c, es, h with
    | (k0, v0), (j0, d0) :: s, h =>
      cases i with
      | zero =>
        cases Option.some.inj e
        cases h.1
        exact ⟨d0, rfl⟩
      | succ i => exact ih (es := s) (i := i) h.2.2 e
theorem ri_kI {P : Hp} (k : Key) : RepI P (kV k) (kI k) := by
  cases k with
  | inl n => exact .int n
  | inr x => exact .str x
section
variable {X : Cx} {N : Ent} {ρ : Rho} {M : Mem} {tg : Expr} {pos : Pos} {Z : Post} {body rest : List Stmt}
/-- for k in d: a dict that is data, by name; no dict is under a lock at the entry; nothing is raised within -/
theorem sj_forK (n : Nat) {x : Str} {p : Pos} {es : DC} (F0 : NzD N.H0) (hc : X.calm = true) (hρ : ρ[n]? = some (some (.d (.dict (esD es))))) (Inv : Nat → Rho → Mem → Prop) (h0 : Inv 0 ρ M)
    (step : ∀ m k d ρ' M', es[m]? = some (k, d) → Inv m ρ' M' → ∃ ρ2, (∀ N', GJ X N' tg (kI k) ρ' ρ2) ∧ ∀ N', SJ X N' ρ2 M' body { nx := Inv (m + 1), ct := Inv (m + 1), bk := fun ρ' M' => SJ X N ρ' M' rest Z, rt := Z.rt })
    (done : ∀ ρ' M', Inv es.length ρ' M' → SJ X N ρ' M' rest Z) (hN : X.N[n]? = some x := by rfl) (hv : Vis X.env.scope x := by first | exact Or.inl rfl | exact Or.inr (Or.inl rfl) | exact Or.inr (Or.inr rfl)) (hd : (x == ("__debug__" : Str)) = false := by decide)
    (hcd : (x == ("__classdict__" : Str)) = false := by decide) (hp : PassesOwn (model X.prog X.w) X.A X.env X.xe := by exact PassesOwn.never) (hf : ∀ y, foldedSetIterable (.Name x p) X.env y = pure y := by intro _; rfl) : SJ X N ρ M (.For tg (.Name x p) body [] pos :: rest) Z := sj_cons fun σ H P hh g D E tk z => by
  obtain ⟨v, ev, rv⟩ := g.2 n _ hρ
  obtain ⟨d, kvs, rfl, rd, kv⟩ := ri_dic rv
  obtain ⟨hP, hH⟩ := hh.plain F0 rd
  refine s_of (ps_lock (ps_for hp hc (pi_keys (pe_var (i := n) hN hv hd hcd)) pg_w pss_w hf)) ⟨d, _, hH, trivial, fun od => ?_⟩
  refine ⟨.ref d, ev, d, od, rfl, .inl ⟨kvs, upd_same, ?_⟩⟩
  have h1 := hh.lock (od := od) hP
  have WK : Walk (Itk d od kvs) es.length (fun H' => H' d = some (.frz od (.dK kvs))) (fun i H x H' => H' = H ∧ ∃ k v, kvs[i]? = some (k, v) ∧ x = kV k) := ⟨fun i H hi h => ⟨h, by rw [kv.len]; exact hi⟩, fun H h => ⟨h, by rw [kv.len]; exact Nat.le_refl _⟩, fun i H x H' hi _ y => y⟩
  refine for_it WK (fun m σ' H' => ∃ ρ' M' P', Inv m ρ' M' ∧ Holds (inner P (upd H d (.frz od (.dK kvs))) M) P' H' M' ∧ Slots P' σ' ρ' ∧ Ex P P') ⟨ρ, M, P, h0, h1, g, Ex.refl _⟩ (fun i σ' H' _ ⟨ρ', M', P', iv, a, _, b⟩ => hh.locked hP a) (fun m x σ' H' H2 hn hw hy => ?_) (fun σ' H' hw => ?_)
  · obtain ⟨ρ', M', P', w, h2, g2, e2⟩ := hw
    obtain ⟨rfl, k, v, ek, rfl⟩ := hy
    obtain ⟨dd, ed⟩ := kv.get ek
    obtain ⟨ρ2, G, S⟩ := step m k dd ρ' M' ed w
    refine G _ (kV k) σ' H2 P' M' h2 g2 (ri_kI k) _ fun σ2 g3 => ?_
    exact S _ σ2 H2 P' h2 g3 _ E tk ⟨fun ρ4 M4 σ4 H4 P4 a e h g => ⟨ρ4, M4, P4, a, h, g, e2.trans e⟩, fun i M4 v H4 P4 a e h r => ⟨hh.locked hP h, z.rt i M4 v _ P4 a (e2.trans e) (hh.unlock hP hH h) r⟩, fun ρ4 M4 σ4 H4 P4 a e h g => ⟨hh.locked hP h, z.nx ρ4 M4 σ4 _ P4 a (e2.trans e) (hh.unlock hP hH h) g⟩, fun ρ4 M4 σ4 H4 P4 a e h g => ⟨ρ4, M4, P4, a, h, g, e2.trans e⟩, fun _ _ _ _ _ _ _ a => a.elim⟩
  · obtain ⟨ρ', M', P', w, h2, g2, e2⟩ := hw
    exact ⟨hh.locked hP h2, z.nx ρ' M' σ' _ P' (done ρ' M' w) e2 (hh.unlock hP hH h2) g2⟩
end
end Kt

/-! Ktw: contracts of defs that walk dicts: no dict is under a lock where they are called. -/
namespace Kt
open PySem PySem.Spec PyProof.Rows L2
theorem Holds.nzd {N : Ent} {P H : Hp} {M : Mem} (h : Holds N P H M) (f : NzD N.H0) : NzD H := fun a od kvs e => f a od kvs (h.uf a od kvs e)
def spL (C : Co) : Sp := fun vs H Q _ => ∃ (P : Hp) (is : List It) (M : Mem) (i : It) (M' : Mem), Holds (inner P H M) P H M ∧ NzD H ∧ RepIs P vs is ∧ C is M i M' ∧ ∀ v H' P', Holds (inner P H M) P' H' M' → RepI P' v i → Q v H'
structure DefL (P : Program) (w : World) (K : PySem.W.Frag) (mg : Str → Option Value) (base : Heap) (x : Str) (k : Nat) (C : Co) : Prop where
  ex : ∃ f fd ps, FnOk P w K mg base CX0 k f fd ps (spL C) ∧ mg x = some (.ref f) ∧ PySem.W.keepIn K (.ref f) = true ∧ Binds K fd ps []
section
variable {X : Cx} {N : Ent} {ρ ρ' : Rho} {M M1 M2 M3 M' Mc Mr Mc' : Mem} {a b c e : Expr} {pos : Pos} {i j k : It} {t u : Bool}
theorem ej_callLk {x : Str} {l : Nat} {C : Co} {p : Pos} {es : List Expr} {is : List It} (F : DefL X.prog X.w X.K X.mg X.base x l C) (F0 : NzD N.H0) (hr : Room l X.A) (ha : AJ X N ρ M (e :: es) is M1) (hM : M1 = Mc ++ Mr) (hC : C is Mc i Mc') (hM2 : M2 = Mc' ++ Mr)
    (hg : Gl X x := by rfl) (hdb : (x == ("__debug__" : Str)) = false := by decide) (he : starEach (e :: es) X.env = (false, eval e X.env) :: starEach es X.env := by rfl) (hpl : (backTo pos (starEach es X.env)).any (·.1) = false := by rfl) :
    EJ X N ρ M (.Call (.Name x p) (e :: es) [] pos) i M2 := fun σ H P hh g Q q => by
  obtain ⟨f, fd, ps, F1, hm, hk, hb⟩ := F.ex
  refine e_of (pe_call F1 hr hg hm hk hb .nil pass0 pa_w hdb he hpl) (ha σ H P hh g _ fun vs H1 P1 e1 h1 r1 => ?_)
  subst hM hM2
  refine ⟨P1, is, Mc, i, Mc', h1.enter, h1.nzd F0, ?_, hC, fun v H' P' h' r' => ?_⟩
  · rw [List.append_nil]; exact r1
  · exact q v H' P' (e1.trans h'.ex0) (h1.leave h') r'
theorem ej_callLP {x : Str} {l : Nat} {C : Co} {p : Pos} {es : List Expr} {is : List It} (F : DefL X.prog X.w X.K X.mg X.base x l C) (F0 : NzD N.H0) (hr : Room l X.A) (ha : AJ X N ρ M (e :: es) is M1) (hC : C is [] i [])
    (hg : Gl X x := by rfl) (hdb : (x == ("__debug__" : Str)) = false := by decide) (he : starEach (e :: es) X.env = (false, eval e X.env) :: starEach es X.env := by rfl) (hpl : (backTo pos (starEach es X.env)).any (·.1) = false := by rfl) :
    EJ X N ρ M (.Call (.Name x p) (e :: es) [] pos) i M1 := ej_callLk F F0 hr ha (Mc := []) (Mr := M1) rfl hC rfl hg hdb he hpl
end
theorem defL_ok {P : Program} {w : World} {K : PySem.W.Frag} {mg : Str → Option Value} {base : Heap} {x qual : Str} {st : Stmt} {f : Addr} {fd : FuncData} {NN ps : List Str} {l : Nat} {C : Co} (F : Fun K x qual st f fd) (S : FnScope NN ps (defScope st))
    (hm : mg x = some (.ref f)) (hb : Binds K fd ps []) (len : ∀ is M i M', C is M i M' → is.length = ps.length ∧ M'.map Prod.fst = M.map Prod.fst)
    (body : ∀ X : Cx, (∃ cdv A outer s H E, X = (cxOf CX0 P w K mg base NN qual (defScope st) f cdv A outer s H E).nox ∧ Room l X.A) → ∀ N is M i M', N.F = M.map Prod.fst → NzD N.H0 → C is M i M' → SJ X N (rho NN is) M (defBody st) (retZ i M')) : DefL P w K mg base x (l + 1) C := by
  refine ⟨f, fd, ps, F.ok S (fun vs H Q E h => ?_) (fun cdv A outer s H vs Q E hr h => ?_), hm, F.kp, hb⟩
  · obtain ⟨P0, is, M, i, M', _, _, r, hC, _⟩ := h
    rw [r.len]
    exact (len _ _ _ _ hC).1
  · obtain ⟨P0, is, M, i, M', h0, nz, r, hC, q⟩ := h
    have back : ∀ {P' H' M'' L}, M'' = M' ++ L → Holds (inner P0 H M) P' H' M'' → Holds (inner P0 H M) P' H' M' := fun {P' H' M'' L} e hh => by
      subst e
      refine hh.sub (fun c hc => List.mem_append_left _ hc) ?_ fun a ha => ?_
      · have := hh.nd
        rw [List.map_append] at this
        exact (List.nodup_append.mp this).1
      · rw [(len _ _ _ _ hC).2]
        exact ha
    refine ⟨_, pss_w, ?_⟩
    have es : L2.start NN vs = vs.map some ++ List.replicate (NN.length - is.length) none := by
      unfold L2.start
      rw [r.len]
    rw [es]
    refine body _ ⟨cdv, A, outer, s, H, E, rfl, hr⟩ (inner P0 H M) is M i M' rfl nz hC _ H P0 h0 (slots_start _ r) _ E0 takes0 ⟨fun ρ' M'' σ' H' P' a e hh g => ?_, fun i' M'' v H' P' a e hh rr => ?_, fun _ _ _ _ _ a => a.elim, fun _ _ _ _ _ a => a.elim, fun _ _ _ _ _ _ _ a => a.elim⟩
    · obtain ⟨rfl, L, eL⟩ := a
      exact q _ H' P' (back eL hh) .non
    · obtain ⟨rfl, L, eL⟩ := a
      exact q _ H' P' (back eL hh) rr
/-- the law, where it walks dicts or calls what does -/
theorem lawL_ok {P : Program} {w : World} {K : PySem.W.Frag} {mg : Str → Option Value} {base : Heap} {st : Stmt} {f : Addr} {fd : FuncData} {NN : List Str} {l : Nat} (F : Fun K "law" "law" st f fd) (S : FnScope NN ["script"] (defScope st))
    (body : ∀ X : Cx, (∃ cdv A outer s H E, X = (cxOf CX0 P w K mg base NN "law" (defScope st) f cdv A outer s H E).nox ∧ Room l X.A) → ∀ N a ns, N.F = [] → NzD N.H0 → ns.length ≤ 63 → SJ X N (rho NN [scr K a ns]) [] (defBody st) { nx := fun _ _ => False, rt := fun i _ => i = dB true }) : FnOk P w K mg base CX0 (l + 1) f fd ["script"] (spLaw K) := by
  refine F.ok S (fun vs H Q E h => ?_) (fun cdv A outer s H vs Q E hr h => ?_)
  · obtain ⟨a, ns, rfl, _⟩ := h
    rfl
  · obtain ⟨a, ns, rfl, hS, hl, nz, q⟩ := h
    refine ⟨_, pss_w, ?_⟩
    have h0 : Holds (inner H H []) H H [] := ⟨(Ex.refl H).w, Ex.refl H, fun _ _ e _ => e, fun _ e f => absurd e f, fun _ hc => absurd hc (List.not_mem_nil), List.nodup_nil, fun _ ha => ha, fun _ hc => absurd hc (List.not_mem_nil), fun _ _ _ e => e, nz⟩
    have es : L2.start NN [V.ref a] = ([V.ref a] : List V).map some ++ List.replicate (NN.length - ([scr K a ns] : List It).length) none := rfl
    rw [es]
    refine body _ ⟨cdv, A, outer, s, H, E, rfl, hr⟩ (inner H H []) a ns rfl nz hl _ H H h0 (slots_start (vs := [V.ref a]) (is := [scr K a ns]) _ ⟨⟨rfl, hS⟩, trivial⟩) _ E0 takes0 ⟨fun _ _ _ _ _ a => a.elim, fun i' M'' v H' P' e _ hh rr => ?_, fun _ _ _ _ _ a => a.elim, fun _ _ _ _ _ a => a.elim, fun _ _ _ _ _ _ _ a => a.elim⟩
    subst e
    rw [ri_bl rr]
    exact q H'
end Kt

/-! Ktx: the lock at the same point (dicts of one's own stay as they are). -/
namespace Kt
open PySem PySem.Spec PyProof PyProof.Rows L2
section
variable {N : Ent} {P P' H H' : Hp} {M M' : Mem} {Δ Δ' : Ds} {d : Addr} {kvs : List (Key × V)} {od : Obj}
/-- the point, with d under a lock -/
def Ent.lk (N : Ent) (d : Addr) (kvs : List (Key × V)) (od : Obj) : Ent := ⟨upd N.P0 d (.dK kvs), upd N.H0 d (.frz od (.dK kvs)), N.F⟩
theorem Holds.nd1 (h : Holds N P H M) (hp : P d = some (.dK kvs)) : ∀ c ∈ M, c.1 ≠ d := fun c hc e => by
  have := (h.mem c hc).1
  rw [e, hp] at this
  cases this
theorem Holds.lk (h : Holds N P H M) (hp : P d = some (.dK kvs)) : Holds (N.lk d kvs od) P (upd H d (.frz od (.dK kvs))) M := by
  have nd := h.nd1 hp
  refine ⟨fun a u e => ?_, fun a u e => ?_, fun b o e f => ?_, fun b e f => ?_, fun c hc => ?_, h.nd, h.mf, fun c hc => ?_, fun a o ks e => ?_, h.pf⟩
  · by_cases ea : a = d
    · subst ea
      rw [hp] at e
      cases Option.some.inj e
      exact .inr ⟨⟨_, rfl⟩, od, upd_same⟩
    · rw [upd_ne ea]
      exact h.exw a u e
  · by_cases ea : a = d
    · subst ea
      rw [show (N.lk a kvs od).P0 a = some (.dK kvs) from upd_same] at e
      rw [← e]
      exact hp
    · rw [show (N.lk d kvs od).P0 a = N.P0 a from upd_ne ea] at e
      exact h.ex0 a u e
  · by_cases eb : b = d
    · subst eb
      rw [show (N.lk b kvs od).H0 b = some (.frz od (.dK kvs)) from upd_same] at e
      rw [← e]
      exact upd_same
    · rw [show (N.lk d kvs od).H0 b = N.H0 b from upd_ne eb] at e
      rw [upd_ne eb]
      exact h.fr b o e f
  · by_cases eb : b = d
    · subst eb
      rw [show (N.lk b kvs od).P0 b = some (.dK kvs) from upd_same] at e
      cases e
    · rw [show (N.lk d kvs od).P0 b = N.P0 b from upd_ne eb] at e
      rw [show (N.lk d kvs od).H0 b = N.H0 b from upd_ne eb]
      exact h.nw b e f
  · obtain ⟨a1, xs, a2, a3⟩ := h.mem c hc
    exact ⟨a1, xs, by rw [upd_ne (nd c hc)]; exact a2, a3⟩
  · rw [show (N.lk d kvs od).H0 c.1 = N.H0 c.1 from upd_ne (nd c hc)]
    exact h.fs c hc
  · by_cases ea : a = d
    · subst ea
      rw [← e]
      exact upd_same.trans upd_same.symm
    · rw [upd_ne ea] at e
      rw [show (N.lk d kvs od).H0 a = N.H0 a from upd_ne ea]
      exact h.uf a o ks e
theorem DOk.lk (k : DOk N P H M Δ) (hp : P d = some (.dK kvs)) : DOk (N.lk d kvs od) P (upd H d (.frz od (.dK kvs))) M Δ := by
  have nd : ∀ c ∈ Δ, c.1 ≠ d := fun c hc e => by
    have := k.pn c hc
    rw [e, hp] at this
    cases this
  refine ⟨k.pn, fun c hc => ?_, k.nm, fun c hc => ?_, k.nd⟩
  · rw [show (N.lk d kvs od).H0 c.1 = N.H0 c.1 from upd_ne (nd c hc)]
    exact k.n0 c hc
  · obtain ⟨ks, a, b⟩ := k.ob c hc
    exact ⟨ks, by rw [upd_ne (nd c hc)]; exact a, b⟩
theorem Holds.lked (h : Holds N P H M) (hp : P d = some (.dK kvs)) (h' : Holds (N.lk d kvs od) P' H' M') : H' d = some (.frz od (.dK kvs)) := by
  refine h'.fr d _ upd_same fun q => ?_
  obtain ⟨c, hc, e⟩ := List.mem_map.mp (h.mf d q)
  exact h.nd1 hp c hc e
theorem Holds.unlk (h : Holds N P H M) (hp : P d = some (.dK kvs)) (hH : H d = some (.dK kvs)) (h' : Holds (N.lk d kvs od) P' H' M') : Holds N P' (upd H' d (.dK kvs)) M' := by
  have hp' : P' d = some (.dK kvs) := h'.ex0 d _ upd_same
  have nd := h'.nd1 hp'
  have nF : d ∉ N.F := fun q => by
    obtain ⟨c, hc, e⟩ := List.mem_map.mp (h.mf d q)
    exact h.nd1 hp c hc e
  refine ⟨fun a u e => ?_, fun a u e => ?_, fun b o e f => ?_, fun b e f => ?_, fun c hc => ?_, h'.nd, h'.mf, fun c hc => ?_, fun a o ks e => ?_, h'.pf⟩
  · by_cases ea : a = d
    · subst ea
      rw [hp'] at e
      rw [← e]
      exact .inl upd_same
    · rw [upd_ne ea]
      exact h'.exw a u e
  · by_cases ea : a = d
    · subst ea
      have := h.ex0 a u e
      rw [hp] at this
      rw [← this]
      exact hp'
    · exact h'.ex0 a u (by rw [show (N.lk d kvs od).P0 a = N.P0 a from upd_ne ea]; exact e)
  · by_cases eb : b = d
    · subst eb
      have := h.fr b o e f
      rw [hH] at this
      rw [← this]
      exact upd_same
    · rw [upd_ne eb]
      exact h'.fr b o (by rw [show (N.lk d kvs od).H0 b = N.H0 b from upd_ne eb]; exact e) f
  · by_cases eb : b = d
    · subst eb
      exact h.nw b e (by rw [hp]; exact Option.some_ne_none _)
    · have := h'.nw b (by rw [show (N.lk d kvs od).P0 b = N.P0 b from upd_ne eb]; exact e) f
      rw [show (N.lk d kvs od).H0 b = N.H0 b from upd_ne eb] at this
      exact this
  · obtain ⟨a1, xs, a2, a3⟩ := h'.mem c hc
    exact ⟨a1, xs, by rw [upd_ne (nd c hc)]; exact a2, a3⟩
  · have := h'.fs c hc
    rw [show (N.lk d kvs od).H0 c.1 = N.H0 c.1 from upd_ne (nd c hc)] at this
    exact this
  · by_cases ea : a = d
    · subst ea
      rw [upd_same] at e
      cases e
    · rw [upd_ne ea] at e
      have := h'.uf a o ks e
      rw [show (N.lk d kvs od).H0 a = N.H0 a from upd_ne ea] at this
      exact this
theorem DOk.unlk (hp' : P' d = some (.dK kvs)) (k : DOk (N.lk d kvs od) P' H' M' Δ) : DOk N P' (upd H' d (.dK kvs)) M' Δ := by
  have nd : ∀ c ∈ Δ, c.1 ≠ d := fun c hc e => by
    have := k.pn c hc
    rw [e, hp'] at this
    cases this
  refine ⟨k.pn, fun c hc => ?_, k.nm, fun c hc => ?_, k.nd⟩
  · have := k.n0 c hc
    rw [show (N.lk d kvs od).H0 c.1 = N.H0 c.1 from upd_ne (nd c hc)] at this
    exact this
  · obtain ⟨ks, a, b⟩ := k.ob c hc
    exact ⟨ks, by rw [upd_ne (nd c hc)]; exact a, b⟩
end
section
variable {X : Cx} {N : Ent} {ρ : Rho} {M : Mem} {Δ : Ds} {tg : Expr} {pos : Pos} {Z : PostD} {body rest : List Stmt}
/-- for k in d, d data, by name, while dicts of one's own stand -/
theorem dj_forK (n : Nat) {x : Str} {p : Pos} {es : DC} (F0 : NzD N.H0) (hc : X.calm = true) (hρ : ρ[n]? = some (some (.d (.dict (esD es))))) (Inv : Nat → Rho → Mem → Ds → Prop) (h0 : Inv 0 ρ M Δ)
    (step : ∀ m k d ρ' M' Δ', es[m]? = some (k, d) → Inv m ρ' M' Δ' → ∃ ρ2, (∀ N', GJ X N' tg (kI k) ρ' ρ2) ∧ ∀ N', DJ X N' ρ2 M' Δ' body { nx := Inv (m + 1), ct := Inv (m + 1), bk := fun ρ' M' Δ' => DJ X N ρ' M' Δ' rest Z, rt := Z.rt })
    (done : ∀ ρ' M' Δ', Inv es.length ρ' M' Δ' → DJ X N ρ' M' Δ' rest Z) (hN : X.N[n]? = some x := by rfl) (hv : Vis X.env.scope x := by first | exact Or.inl rfl | exact Or.inr (Or.inl rfl) | exact Or.inr (Or.inr rfl)) (hd : (x == ("__debug__" : Str)) = false := by decide)
    (hcd : (x == ("__classdict__" : Str)) = false := by decide) (hp : PassesOwn (model X.prog X.w) X.A X.env X.xe := by exact PassesOwn.never) (hf : ∀ y, foldedSetIterable (.Name x p) X.env y = pure y := by intro _; rfl) : DJ X N ρ M Δ (.For tg (.Name x p) body [] pos :: rest) Z := dj_cons fun σ H P hh dd g D E tk z => by
  obtain ⟨v, ev, rv⟩ := g.2 n _ hρ
  obtain ⟨d, kvs, rfl, rd, kv⟩ := ri_dic rv
  obtain ⟨hP, hH⟩ := hh.plain F0 rd
  refine s_of (ps_lock (ps_for hp hc (pi_keys (pe_var (i := n) hN hv hd hcd)) pg_w pss_w hf)) ⟨d, _, hH, trivial, fun od => ?_⟩
  refine ⟨.ref d, ev, d, od, rfl, .inl ⟨kvs, upd_same, ?_⟩⟩
  have h1 := hh.lk (od := od) hP
  have d1 := dd.lk (od := od) hP
  have WK : Walk (Itk d od kvs) es.length (fun H' => H' d = some (.frz od (.dK kvs))) (fun i H x H' => H' = H ∧ ∃ k v, kvs[i]? = some (k, v) ∧ x = kV k) := ⟨fun i H hi h => ⟨h, by rw [kv.len]; exact hi⟩, fun H h => ⟨h, by rw [kv.len]; exact Nat.le_refl _⟩, fun i H x H' hi _ y => y⟩
  refine for_it WK (fun m σ' H' => ∃ ρ' M' Δ' P', Inv m ρ' M' Δ' ∧ Holds (N.lk d kvs od) P' H' M' ∧ DOk (N.lk d kvs od) P' H' M' Δ' ∧ Slots P' σ' ρ' ∧ Ex P P') ⟨ρ, M, Δ, P, h0, h1, d1, g, Ex.refl _⟩ (fun i σ' H' _ ⟨ρ', M', Δ', P', iv, a, _, _, b⟩ => hh.lked hP a) (fun m x σ' H' H2 hn hw hy => ?_) (fun σ' H' hw => ?_)
  · obtain ⟨ρ', M', Δ', P', w, h2, d2, g2, e2⟩ := hw
    obtain ⟨rfl, k, v, ek, rfl⟩ := hy
    obtain ⟨dk, ed⟩ := kv.get ek
    obtain ⟨ρ2, G, S⟩ := step m k dk ρ' M' Δ' ed w
    refine G _ (kV k) σ' H2 P' M' h2 g2 (ri_kI k) _ fun σ2 g3 => ?_
    exact S _ σ2 H2 P' h2 d2 g3 _ E tk ⟨fun ρ4 M4 Δ4 σ4 H4 P4 a e h k g => ⟨ρ4, M4, Δ4, P4, a, h, k, g, e2.trans e⟩, fun i M4 v H4 P4 a e h r => ⟨hh.lked hP h, z.rt i M4 v _ P4 a (e2.trans e) (hh.unlk hP hH h) r⟩, fun ρ4 M4 Δ4 σ4 H4 P4 a e h k g => ⟨hh.lked hP h, z.nx ρ4 M4 Δ4 σ4 _ P4 a (e2.trans e) (hh.unlk hP hH h) (DOk.unlk ((e2.trans e) _ _ hP) k) g⟩, fun ρ4 M4 Δ4 σ4 H4 P4 a e h k g => ⟨ρ4, M4, Δ4, P4, a, h, k, g, e2.trans e⟩, fun _ _ _ _ _ _ _ a => a.elim⟩
  · obtain ⟨ρ', M', Δ', P', w, h2, d2, g2, e2⟩ := hw
    exact ⟨hh.lked hP h2, z.nx ρ' M' Δ' σ' _ P' (done ρ' M' Δ' w) e2 (hh.unlk hP hH h2) (DOk.unlk (e2 _ _ hP) d2) g2⟩
end
end Kt

/-! Kug: {k: v for x, y in a walk of data}. -/
namespace Kt
open PySem PySem.Spec PyProof PyProof.Rows L2
section
variable {X : Cx} {N : Ent} {ρ ρ' : Rho} {M M1 M2 : Mem} {a b e tg iter : Expr} {pos : Pos}
theorem ia_enumL {p : Pos} {elts : List Expr} {kk : Nat} {tpos : Pos} {ds : List PyData} (hm : X.mg "enumerate" = none) (ha : EJ X N ρ M a (.d (.list ds)) M1) (hg : Gl X "enumerate" := by rfl) (hs : starEach [a] X.env = [(false, eval a X.env)] := by rfl) :
    IA X N ρ M (.Tuple elts kk tpos) (.Call (.Name "enumerate" p) [a] [] pos) (enumD ds) M1 := by
  refine ⟨_, pi_enum hg hm pa_w hs, fun σ H P hh g R q => ?_⟩
  refine aj_cons ha aj_nil hs σ H P hh g _ fun vs H1 P1 e1 h1 r1 => ?_
  obtain ⟨x, rfl, r2⟩ := ri1 r1
  obtain ⟨t, xs, rfl, x1, x2⟩ := ri_lst r2
  have xl := dnAll_len x2
  refine ⟨t, xs, rfl, .inl (.inl (h1.ex _ _ x1)), q _ H1 P1 e1 h1 ⟨fun i N H P' M' hi h2 e2 => ?_, fun N H P' M' h2 e2 => ?_, fun i N H v H' P' M' hi h2 e2 y => ?_⟩⟩
  · rw [enumD_len, ← xl] at hi
    exact ⟨xs, _, .inl (.inl (h2.ex _ _ (e2 _ _ x1))), List.getElem?_eq_getElem hi⟩
  · exact ⟨xs, .inl (.inl (h2.ex _ _ (e2 _ _ x1))), by rw [enumD_len, xl]; exact Nat.le_refl _⟩
  · obtain ⟨T, u, rfl, hT, rfl, hx⟩ := y
    have hx := hx xs (.inl (.inl (h2.ex _ _ (e2 _ _ x1))))
    rw [enumD_len] at hi
    obtain ⟨v', ev, dv⟩ := dnAll_get x2 (List.getElem?_eq_getElem hi)
    rw [hx] at ev
    cases Option.some.inj ev
    obtain ⟨h5, e5⟩ := h2.pers (o := .tup [.int (i : Nat), u]) hT
    exact ⟨_, _, enumD_get (List.getElem?_eq_getElem hi), e5, h5, .tup upd_same (.cons (.int _) (.cons (dn_ex e5 _ _ (dn_ex e2 _ _ dv)) .nil))⟩
theorem rj_key {P : Hp} {v : V} {k : Key} (h : RepI P v (.d (kD k))) : v = kV k := by
  cases k with
  | inl n => exact ri_int h
  | inr x => exact ri_str h
/-- {k: v for x, y in walk} -/
theorem ej_dc2 {kx vx : Expr} {scope : Scope} {x y : Str} {px py tp : Pos} {tk : Nat} (n1 n2 : Nat) {ds : List PyData} (A : Nat → DC) (hc : X.calm = true) (hN : X.N.Nodup) (ne : n1 ≠ n2) (hi : IA X N ρ M (.Tuple [.Name x px, .Name y py] tk tp) iter ds M1)
    (hA0 : A 0 = []) (hz : ds.length ≤ 100000)
    (step : ∀ (m : Nat) d, ds[m]? = some d → ∃ u v k z, d = .tuple [u, v] ∧ A (m + 1) = putD (A m) k z ∧ (A m).length ≤ m ∧
      (∀ N' s H C cl fp, EJ (X.blk s H scope (compEnvC scope cl C X.env) fp) N' ((ρ.set n1 (some (.d u))).set n2 (some (.d v))) M1 kx (.d (kD k)) M1) ∧ (∀ N' s H C cl fp, EJ (X.blk s H scope (compEnvC scope cl C X.env) fp) N' ((ρ.set n1 (some (.d u))).set n2 (some (.d v))) M1 vx (.d z) M1))
    (ok : BlkOk X.N X.env.scope scope [(x, n1), (y, n2)] := by exact blkOk_by (by kernel_rfl))
    (hgn : ∀ (s : Shared) (H : Hp) (C : Addr) (cl : List (Str × Addr)) (fp : List Addr), PG (X.blk s H scope (compEnvC scope cl C X.env) fp) (.Tuple [.Name x px, .Name y py] tk tp) (gTup X.K 2 (gCons (gName n1) (gCons (gName n2) gNil))) := by exact fun _ _ _ _ _ => pg_tup (by rfl) (pgs_cons (pg_name (by assumption) rfl (Or.inl rfl)) (pgs_cons (pg_name (by assumption) rfl (Or.inl rfl)) pgs_nil)))
    (hf : ∀ x, foldedSetIterable iter X.env x = pure x := by intro _; rfl) : EJ X N ρ M (.DictComp kx vx [⟨.Tuple [.Name x px, .Name y py] tk tp, iter, [], 0⟩] scope pos) (.d (.dict (esD (A ds.length)))) M1 := fun σ H P hh g Q q => by
  obtain ⟨ti, pi, hi⟩ := hi
  refine e_of (pe_dc hc hN pi ok hgn (fun _ _ _ _ _ => pts_nil) (tk := wBE X scope kx) (fun s H C cl fp => ⟨fun pins s1 σ1 H1 Q1 I1 h1 => h1 s H C cl fp pins s1 I1⟩) (tv := wBE X scope vx) (fun s H C cl fp => ⟨fun pins s1 σ1 H1 Q1 I1 h1 => h1 s H C cl fp pins s1 I1⟩) hf) ?_
  refine hi σ H P hh g _ fun J H1 P1 e1 h1 W D hD => ?_
  refine ⟨fun i m H' => m = ds.length - i ∧ i ≤ ds.length ∧ ∃ P', Holds N P' H' M1 ∧ DOk N P' H' M1 [(D, A i)] ∧ Ex P1 P', ⟨ds.length, by simp, Nat.zero_le _, P1, h1.dnew hD, by rw [hA0]; exact DOk.nil.dnew h1 hD, Ex.refl _⟩, ?_⟩
  rintro i m H' ⟨rfl, hil, P', h2', d2', e2'⟩
  by_cases hlt : i < ds.length
  · refine .inr ⟨W.go i N H' P' M1 hlt h2' e2', fun H' => i + 1 ≤ ds.length ∧ ∃ P', Holds N P' H' M1 ∧ DOk N P' H' M1 [(D, A (i + 1))] ∧ Ex P1 P', fun H'' p' => ⟨ds.length - (i + 1), by omega, rfl, p'.1, p'.2⟩, fun x' H'' hy => ?_⟩
    obtain ⟨P2, d, ed, e3', h2i, r3⟩ := W.yld i (inner P' H' M1) H' x' H'' P' M1 hlt (enter2 h2') e2' hy
    have h2 := leave2 h2' h2i
    have dd := d2'.leave h2i
    have e2 := e2'.trans e3'
    obtain ⟨u, v, k, z, rfl, eA, lA, S1, S2⟩ := step i d ed
    refine tgc2 n1 n2 ne x' σ H'' P2 _ h2 (g.ex (e1.trans e2)) r3 _ fun σ2 gs hw2 => ⟨hw2, ?_⟩
    unfold tYes
    dsimp only
    rw [if_pos rfl]
    intro s H0 C cl fp
    refine S1 (inner P2 H'' M1) s H0 C cl fp _ H'' P2 (enter2 h2) gs _ fun yk H4 P4 e4 h4i r4 => ?_
    have h4 := leave2 h2 h4i
    have d4 := dd.leave h4i
    intro s H0 C cl fp
    refine S2 (inner P4 H4 M1) s H0 C cl fp _ H4 P4 (enter2 h4) (gs.ex e4) _ fun zv H5 P5 e5 h5i r5 => ?_
    have h5 := leave2 h4 h5i
    have d5 := d4.leave h5i
    obtain ⟨kvs, ek, rk⟩ := d5.ob (D, A i) (List.mem_singleton.mpr rfl)
    refine ⟨kvs, k, rj_key r4, ek, by rw [rk.len]; exact Nat.lt_of_lt_of_le (Nat.lt_of_le_of_lt lA (Nat.lt_of_lt_of_le hlt hz)) (by decide), hlt, P5, h5.dput d5 (List.mem_singleton.mpr rfl), ?_, (e2.trans e4).trans e5⟩
    have d6 := d5.dput (List.mem_singleton.mpr rfl) (rk.put (k0 := k) r5)
    rw [eA]
    have ep : Ds.put [(D, A i)] D (putD (A i) k z) = [(D, putD (A i) k z)] := by
      unfold Ds.put
      simp
    rw [ep] at d6
    exact d6
  · have ei : i = ds.length := by omega
    subst ei
    refine .inl ⟨W.stop N H' P' M1 h2' e2', ?_⟩
    obtain ⟨P3, e3, dn, h3, _⟩ := h2'.dfreeze d2' (List.mem_singleton.mpr rfl)
    exact q (.ref D) H' P3 ((e1.trans e2').trans e3) h3 dn
end
end Kt

/-! Kuh: reversed(xs) of data -/
namespace Kt
open PySem PySem.Spec PyProof PyProof.Rows L2
section
variable {X : Cx} {N : Ent} {ρ ρ' : Rho} {M M1 M2 : Mem} {a b e tg iter : Expr} {pos : Pos}
theorem rev_get {ds : List PyData} {i : Nat} {d : PyData} (hi : i < ds.length) (h : ds[ds.length - 1 - i]? = some d) : ds.reverse[i]? = some d := by
  rw [List.getElem?_reverse hi]
  exact h
theorem iw_rev {p : Pos} {ds : List PyData} (hm : X.mg "reversed" = none) (ha : EJ X N ρ M a (.d (.list ds)) M1) (hg : Gl X "reversed" := by rfl) (hs : starEach [a] X.env = [(false, eval a X.env)] := by rfl) :
    IW X N ρ M tg (.Call (.Name "reversed" p) [a] [] pos) ds.reverse M1 := by
  refine ⟨_, pi_reversed hg hm pa_w hs, fun σ H P hh g R q => ?_⟩
  refine aj_cons ha aj_nil hs σ H P hh g _ fun vs H1 P1 e1 h1 r1 => ?_
  obtain ⟨x, rfl, r2⟩ := ri1 r1
  obtain ⟨t, xs, rfl, x1, x2⟩ := ri_lst r2
  have xl := dnAll_len x2
  refine ⟨t, xs, rfl, .inl (.inl (h1.ex _ _ x1)), q _ H1 P1 e1 h1 ⟨fun i H P' M' hi h2 e2 _ => ?_, fun H P' M' h2 e2 _ => ?_, fun i H v H' P' M' hi h2 e2 _ y => ?_⟩⟩
  · rw [List.length_reverse, ← xl] at hi
    exact ⟨hi, xs, _, .inl (.inl (h2.ex _ _ (e2 _ _ x1))), List.getElem?_eq_getElem (show xs.length - 1 - i < xs.length by omega)⟩
  · show xs.length ≤ ds.reverse.length
    rw [List.length_reverse, xl]
    exact Nat.le_refl _
  · obtain ⟨rfl, hx⟩ := y
    have hx := hx xs (.inl (.inl (h2.ex _ _ (e2 _ _ x1))))
    rw [List.length_reverse] at hi
    have lt : ds.length - 1 - i < ds.length := by omega
    obtain ⟨v', ev, dv⟩ := dnAll_get x2 (List.getElem?_eq_getElem lt)
    rw [xl, ev] at hx
    cases Option.some.inj hx
    exact ⟨P', _, rev_get hi (List.getElem?_eq_getElem lt), Ex.refl _, h2, dn_ex e2 _ _ dv⟩
end
end Kt

/-! Kui: xs.pop() -/
namespace Kt
open PySem PySem.Spec PyProof PyProof.Rows L2
section
variable {X : Cx} {N : Ent} {ρ ρ' : Rho} {M M1 M2 : Mem} {a b e tg iter : Expr} {pos : Pos} {rest : List Stmt} {Z : Post}
theorem erase_last {α : Type} (l : List α) : l.eraseIdx (l.length - 1) = l.dropLast := by
  rw [List.eraseIdx_eq_take_drop_succ, List.dropLast_eq_take]
  by_cases h : l.length = 0
  · rw [List.length_eq_zero_iff.mp h]
    rfl
  · rw [List.drop_eq_nil_of_le (by omega), List.append_nil]
theorem sj_pop {ap epos : Pos} {p : Addr} {is : List It} (ho : EJ X N ρ M a (.v (.ref p)) M) (hm : (p, is) ∈ M) (hn : is ≠ []) (hr : SJ X N ρ (M.put p is.dropLast) rest Z) (hs : swapsWith (.Call (.Attribute a "pop" ap) [] [] pos) none epos.line X.env = pure false := by rfl)
    (ps : PE X (.Call (.Attribute a "pop" ap) [] [] pos) (tBM0 X.K "list" rPop (wE X a)) := by exact pe_bm0 PySem.F.plainAttrs_list PySem.F.slot_list_pop PySem.F.type_list_pop mt_pop pe_w) : SJ X N ρ M (.Expr (.Call (.Attribute a "pop" ap) [] [] pos) epos :: rest) Z := sj_cons fun σ H P hh g D E tk z => by
  refine s_of (ps_expr ps hs) (ho σ H P hh g _ fun v H1 P1 e1 h1 r1 => ?_)
  cases (show v = .ref p from r1)
  obtain ⟨ys, ey, _⟩ := h1.cell hm
  refine ⟨.inl ⟨rfl, ys, .inl (.inl ey)⟩, ?_⟩
  obtain ⟨xs, e3, r4⟩ := h1.cell hm
  have z4 := r4.len
  have p4 : 0 < is.length := List.length_pos_iff.mpr hn
  have hx : xs.length - 1 < xs.length := by omega
  refine ⟨p, xs, xs[xs.length - 1], rfl, rfl, e3, List.getElem?_eq_getElem hx, ?_⟩
  have k := r4.erase (is.length - 1)
  rw [erase_last, ← z4, erase_last] at k
  exact z.nx ρ _ σ _ P1 hr e1 (h1.write hm k) (g.ex e1)
end
end Kt

/-! Kuj: x not in xs, xs a list of numbers of one's own -/
namespace Kt
open PySem PySem.Spec PyProof PyProof.Rows L2
section
variable {X : Cx} {N : Ent} {ρ ρ' : Rho} {M M1 M2 : Mem} {a b e tg iter : Expr} {pos : Pos} {rest : List Stmt} {Z : Post}
theorem tj_ninO {n : Int} {ns : List Int} {p : Addr} (ha : EJ X N ρ M a (dI n) M1) (hb : EJ X N ρ M1 b (.v (.ref p)) M2) (hM : (p, (ns.map PyData.int).map It.d) ∈ M2) (hm : behindInMarks .NotIn b = false := by rfl) : TJ X N ρ M (.Compare a [.NotIn] [b] pos) (!inI n ns) M2 := tj_cmp op_notIn_seq hm ha hb fun x y H P h rx ry Q q => by
  cases ri_int rx
  cases (show y = .ref p from ry)
  obtain ⟨xs, e3, r4⟩ := h.cell hM
  have h2 := r4.to_all
  have e := DnAll.ints h2
  subst e
  refine ⟨p, _, rfl, .inl (.inl (.inl e3)), rfl, flat_ints ns, ?_⟩
  rw [if_pos rfl, inV_int]
  exact q _ H P (Ex.refl P) h (.bl _)
theorem ej_notNo {d : PyData} (ha : EJ X N ρ M a (.d d) M1) (hb : EJ X N ρ M1 b (.d .none) M2) : EJ X N ρ M (.Compare a [.IsNot] [b] pos) (dB (!decide (tyD d = "NoneType"))) M2 := ej_cmp op_notN (nomark _) ha hb fun x y H P h rx ry Q q => by
  cases ri_non ry
  refine ⟨rfl, ?_⟩
  have e : decide (x = V.non) = decide (tyD d = "NoneType") := by
    cases (show Dn P x d from rx) <;> rfl
  rw [e]
  exact q _ H P (Ex.refl P) h (.bl _)
end
end Kt

/-! Kuk: instances as values of expressions (their address told by no name) -/
namespace Kt
open PySem PySem.Spec PyProof PyProof.Rows L2
def insE (C : Addr) (fs : Flds) : It := .w (fun v P => ∃ a, v = .ref a ∧ InsP C a fs P) fun v P P' e ⟨a, h1, h2⟩ => ⟨a, h1, InsP.ex P P' e h2⟩
section
variable {X : Cx} {N : Ent} {ρ ρ' : Rho} {M M1 M2 M3 Mc Mc' Mr : Mem} {a b e tg iter : Expr} {i : It} {pos p : Pos} {rest : List Stmt} {Z : Post}
/-- C(e, ..) as a value -/
theorem ej_make {nm : Str} {f C : Addr} {l : Nat} {IC : Ic} {IR : Ir} {es : List Expr} {is : List It} {fs : Flds} (F : HoldI X.prog X.w X.K X.mg X.base f C l IC IR) (mk : Mk X.K C f) (hr : Room (l + 1) X.A) (hm : X.mg nm = some (.ref C)) (ha : AJ X N ρ M (e :: es) is M1) (hC : IC is fs)
    (hg : Gl X nm := by rfl) (hdb : (nm == ("__debug__" : Str)) = false := by decide) (he : starEach (e :: es) X.env = (false, eval e X.env) :: starEach es X.env := by rfl) (hpl : (backTo pos (starEach es X.env)).any (·.1) = false := by rfl) :
    EJ X N ρ M (.Call (.Name nm p) (e :: es) [] pos) (insE C fs) M1 := fun σ H P hh g Q q => by
  obtain ⟨fd, ps, F1, hkp, hb⟩ := F.ex
  refine e_of (pe_make mk F1 hr hg hm hb .nil passL pa_w hdb he hpl) (ha σ H P hh g _ fun vs H1 P1 e1 h1 r1 => fun x dx nx nd ne => ?_)
  rw [List.append_nil]
  refine ⟨P1, is, x, dx, H1, vs, rfl, rfl, nx, nd, ne, Holds.enter (Mc := []) (Mr := M1) h1, r1, .inl ⟨fs, hC, fun H' P' h' ip => ⟨rfl, ?_⟩⟩⟩
  have h2 := Holds.leave (Mc := []) (Mc' := []) (Mr := M1) h1 h'
  exact q _ _ P' (e1.trans h'.ex0) h2 ⟨x, rfl, ip⟩
/-- a call whose first argument is such an instance -/
theorem ej_callE {x : Str} {l : Nat} {C : Co} {Cl : Addr} {fs : Flds} {es : List Expr} {is : List It} (F : Def X.prog X.w X.K X.mg X.base x l C) (hr : Room l X.A) (ha : AJ X N ρ M (e :: es) (insE Cl fs :: is) M1) (hM : M1 = Mc ++ Mr) (hC : ∀ a, C (insI Cl a fs :: is) Mc i Mc') (hM2 : M2 = Mc' ++ Mr)
    (hg : Gl X x := by rfl) (hdb : (x == ("__debug__" : Str)) = false := by decide) (he : starEach (e :: es) X.env = (false, eval e X.env) :: starEach es X.env := by rfl) (hpl : (backTo pos (starEach es X.env)).any (·.1) = false := by rfl) :
    EJ X N ρ M (.Call (.Name x p) (e :: es) [] pos) i M2 := fun σ H P hh g Q q => by
  obtain ⟨f, fd, ps, F1, hm, hk, hb⟩ := F.ex
  refine e_of (pe_call F1 hr hg hm hk hb .nil pass0 pa_w hdb he hpl) (ha σ H P hh g _ fun vs H1 P1 e1 h1 r1 => ?_)
  subst hM hM2
  match vs, r1 with
  | v :: vs, ⟨⟨a, hv, ip⟩, r2⟩ =>
    subst hv
    refine ⟨P1, insI Cl a fs :: is, Mc, i, Mc', h1.enter, ?_, hC a, fun v H' P' h' r' => ?_⟩
    · rw [List.append_nil]
      exact ⟨⟨rfl, ip⟩, r2⟩
    · exact q v H' P' (e1.trans h'.ex0) (h1.leave h') r'
/-- from here on its address has a name -/
theorem sj_openE (n : Nat) {Cl : Addr} {fs : Flds} {sts : List Stmt} (hρ : ρ[n]? = some (some (insE Cl fs))) (hr : ∀ a, SJ X N (ρ.set n (some (insI Cl a fs))) M sts Z) : SJ X N ρ M sts Z := fun σ H P hh g D E tk z => by
  obtain ⟨v, ev, rv⟩ := g.2 n _ hρ
  obtain ⟨a, rfl, ip⟩ := rv
  have es : σ.set n (some (.ref a)) = σ := by
    refine List.ext_getElem? fun m => ?_
    by_cases q : n = m
    · subst q
      have l : n < σ.length := (List.getElem?_eq_some_iff.mp ev).1
      rw [List.getElem?_set_self l, ev]
    · rw [List.getElem?_set_ne q]
  have g' := g.set (it := insI Cl a fs) (v := .ref a) ⟨rfl, ip⟩ n
  rw [es] at g'
  exact hr a σ H P hh g' D E tk z
/-- a def whose global name is another one than its own -/
theorem def_okA {P : Program} {w : World} {K : PySem.W.Frag} {mg : Str → Option Value} {base : Heap} {x y qual : Str} {st : Stmt} {f : Addr} {fd : FuncData} {NN ps : List Str} {l : Nat} {C : Co} (F : Fun K y qual st f fd) (S : FnScope NN ps (defScope st))
    (hm : mg x = some (.ref f)) (hb : Binds K fd ps []) (len : ∀ is M i M', C is M i M' → is.length = ps.length ∧ M'.map Prod.fst = M.map Prod.fst)
    (body : ∀ X : Cx, (∃ cdv A outer s H E, X = (cxOf CX0 P w K mg base NN qual (defScope st) f cdv A outer s H E).nox ∧ Room l X.A) → ∀ N is M i M', N.F = M.map Prod.fst → C is M i M' → SJ X N (rho NN is) M (defBody st) (retZ i M')) : Def P w K mg base x (l + 1) C := by
  refine ⟨f, fd, ps, F.ok S (fun vs H Q E h => ?_) (fun cdv A outer s H vs Q E hr h => ?_), hm, F.kp, hb⟩
  · obtain ⟨P0, is, M, i, M', _, r, hC, _⟩ := h
    rw [r.len]
    exact (len _ _ _ _ hC).1
  · obtain ⟨P0, is, M, i, M', h0, r, hC, q⟩ := h
    have back : ∀ {P' H' M'' L}, M'' = M' ++ L → Holds (inner P0 H M) P' H' M'' → Holds (inner P0 H M) P' H' M' := fun {P' H' M'' L} e hh => by
      subst e
      refine hh.sub (fun c hc => List.mem_append_left _ hc) ?_ fun a ha => ?_
      · have := hh.nd
        rw [List.map_append] at this
        exact (List.nodup_append.mp this).1
      · rw [(len _ _ _ _ hC).2]
        exact ha
    refine ⟨_, pss_w, ?_⟩
    have es : L2.start NN vs = vs.map some ++ List.replicate (NN.length - is.length) none := by
      unfold L2.start
      rw [r.len]
    rw [es]
    refine body _ ⟨cdv, A, outer, s, H, E, rfl, hr⟩ (inner P0 H M) is M i M' rfl hC _ H P0 h0 (slots_start _ r) _ E0 takes0 ⟨fun ρ' M'' σ' H' P' a e hh g => ?_, fun i' M'' v H' P' a e hh rr => ?_, fun _ _ _ _ _ a => a.elim, fun _ _ _ _ _ a => a.elim, fun _ _ _ _ _ _ _ a => a.elim⟩
    · obtain ⟨rfl, L, eL⟩ := a
      exact q _ H' P' (back eL hh) .non
    · obtain ⟨rfl, L, eL⟩ := a
      exact q _ H' P' (back eL hh) rr
end
end Kt

/-! Kul: any(xs) of numbers -/
namespace Kt
open PySem PySem.Spec PyProof PyProof.Rows L2
def rAnyI (K : PySem.W.Frag) : List V → Hp → VK → Prop := fun vs H Q => ∃ (a : Addr) (ns : List Int), vs = [V.ref a] ∧ SqL K H a (ns.map V.int) ∧ Q (.bl (ns.any fun n => !decide (n = 0))) H
theorem any_ints (ns : List Int) : (ns.map PyData.int).any PyData.truthy = ns.any fun n => !decide (n = 0) := by
  induction ns with
  | nil => rfl
  | cons n ns ih =>
    rw [List.map_cons, List.any_cons, List.any_cons, ih]
    congr 1
theorem cr_anyI {X : Cx} (hc : X.calm = true) : CallR X (.builtin "any") (rAnyI X.K) := by
  intro pins s σ H vs us Q I r h
  obtain ⟨a, ns, rfl, hs, q⟩ := h
  obtain ⟨its, rv, hl, _⟩ := I.list hs
  rw [Vals.ref1 r]
  have hI : IntsAre its ns := rv.ints
  have hr : ReadsAll s.heap its.toArray.toList (ns.map .int) [] := by simpa using hI.reads s.heap
  refine PySem.W.any_list_data (I.ok.hd hc) hl.isList hr (by
    have : ∀ ns : List Int, PyData.plainAll (ns.map .int) = true := fun ns => by
      induction ns with
      | nil => rfl
      | cons n ns ih => exact ih
    exact this ns) (fun x hx => by
    obtain ⟨n, _, rfl⟩ := List.mem_map.mp hx
    trivial) fun h' tk hk => ?_
  refine ⟨.bl _, H, I.kept hk, ?_, q⟩
  show Value.bool _ = Value.bool _
  rw [any_ints]
section
variable {X : Cx} {N : Ent} {ρ ρ' : Rho} {M M1 M2 : Mem} {a b e : Expr} {pos : Pos}
theorem ej_anyI {p q : Pos} {ns : List Int} (hc : X.calm = true) (hm : X.mg "any" = none) (ha : EJ X N ρ M a (.d (.list (ns.map PyData.int))) M1) (hg : Gl X "any" := by rfl) (he : starEach [a] X.env = [(false, eval a X.env)] := by rfl) (hpl : (backTo q (starEach ([] : List Expr) X.env)).any (·.1) = false := by rfl) :
    EJ X N ρ M (.Call (.Name "any" p) [a] [] q) (dB (ns.any fun n => !decide (n = 0))) M1 := ej_callB (cr_anyI hc) hm (by decide +kernel) (aj_cons ha aj_nil he) (fun vs H P h rr Q q => by
  obtain ⟨x, rfl, r⟩ := ri1 rr
  obtain ⟨y, ys, rfl, h1, h2⟩ := ri_lst r
  have e := DnAll.ints h2
  subst e
  exact ⟨y, ns, rfl, .inl (.inl (h.ex _ _ h1)), q _ H P (Ex.refl P) h (.bl _)⟩) hg (by decide) (by decide) he hpl
end
end Kt

/-! Kum: a, b = f(..) where f hands back something of which a relation tells; {} as data -/
namespace Kt
open PySem PySem.Spec PyProof PyProof.Rows L2
section
variable {X : Cx} {N : Ent} {ρ : Rho} {M M1 Mc Mr : Mem} {e : Expr} {es : List Expr} {is : List It} {p pos : Pos} {rest : List Stmt} {Z : Post}
theorem sj_asgN {tg : Expr} {y : Str} {l : Nat} {A : Pre} {B : Co} (F : DefN X.prog X.w X.K X.mg X.base y l A B) (hr : Room l X.A) (ha : AJ X N ρ M (e :: es) is M1) (hM : M1 = Mc ++ Mr) (hA : A is Mc)
    (hk : ∀ i Mc', B is Mc i Mc' → ∃ ρ', GJ X N tg i ρ ρ' ∧ SJ X N ρ' (Mc' ++ Mr) rest Z)
    (hg : Gl X y := by rfl) (hdb : (y == ("__debug__" : Str)) = false := by decide) (he : starEach (e :: es) X.env = (false, eval e X.env) :: starEach es X.env := by rfl) (hpl : (backTo pos (starEach es X.env)).any (·.1) = false := by rfl) {spos : Pos}
    (hs : swapsWithSole [tg] (.Call (.Name y p) (e :: es) [] pos) spos.line X.env = pure false := by rfl) (hw : swappedStores [tg] (.Call (.Name y p) (e :: es) [] pos) X.env = pure none := by rfl)
    (h1 : (assignEach [tg] X.env).map (·.2) = [assign tg X.env] := by rfl) :
    SJ X N ρ M (.Assign [tg] (.Call (.Name y p) (e :: es) [] pos) spos :: rest) Z := sj_cons fun σ H P hh g D E tk z => by
  obtain ⟨f, fd, ps, F1, hm, hkp, hb⟩ := F.ex
  refine s_of (ps_asg (pe_call F1 hr hg hm hkp hb .nil pass0 pa_w hdb he hpl) pg_w hs hw h1) (ha σ H P hh g _ fun vs H1 P1 e1 h1 r1 => ?_)
  subst hM
  refine ⟨P1, is, Mc, h1.enter, ?_, hA, fun i M' v H' P' hB h' r' => ?_⟩
  · rw [List.append_nil]; exact r1
  · obtain ⟨ρ', hgj, hsj⟩ := hk i M' hB
    exact hgj v σ H' P' (M' ++ Mr) (h1.leave h') (g.ex (e1.trans h'.ex0)) r' _ fun σ' g' => z.nx ρ' (M' ++ Mr) σ' H' P' hsj (e1.trans h'.ex0) (h1.leave h') g'
theorem ej_dict0 : EJ X N ρ M (.Dict [] [] pos) (.d (.dict [])) M := fun σ H P hh g Q q =>
  e_of pe_dnewK fun p hp => by
    obtain ⟨h2, e2⟩ := hh.pers (o := .dK []) hp
    exact q _ _ _ e2 h2 (.dic (.inl upd_same) .nil)
theorem gj_lst {ρ' : Rho} {ds : List PyData} {kk : Nat} (hc : X.calm = true) (h : GsJ X N es ds ρ ρ') (hl : es.length = ds.length := by rfl)
    (hn : (assignEach es X.env).length = es.length := by rfl) (hst : (assignEach es X.env).findIdx? (·.1) = none := by rfl) : GJ X N (.Tuple es kk pos) (.d (.list ds)) ρ ρ' := fun v σ H P M hh g r Q q => by
  obtain ⟨t, pt, ht⟩ := h
  obtain ⟨a, xs, rfl, h1, h2⟩ := ri_lst r
  exact g_of (pg_unl hc pt hn hst) ⟨a, xs, rfl, .inl (.inl (hh.ex _ _ h1)), by rw [dnAll_len h2, hl], ht xs σ H P M hh g h2 Q q⟩
end
end Kt

/-! Kun: objects of one's own of any kind (OD), beside the lists of one's own: TOk, UJ, as Kts does it for dicts; dicts with tuple keys. -/
namespace Kt
open PySem PySem.Spec PyProof PyProof.Rows L2

structure OD where
  rep : Hp → HO → Prop
  ex : ∀ {P P' : Hp} {o : HO}, Ex P P' → rep P o → rep P' o
  nf : ∀ {P : Hp} {o : HO}, rep P o → ∀ od kvs, o ≠ .frz od (.dK kvs)
  nd : ∀ {P : Hp} {o : HO}, rep P o → ∀ kvs, o ≠ .lst kvs
abbrev Os := List (Addr × OD)
structure TOk (N : Ent) (P H : Hp) (M : Mem) (Θ : Os) : Prop where
  pn : ∀ c ∈ Θ, P c.1 = none
  n0 : ∀ c ∈ Θ, N.H0 c.1 = none
  nm : ∀ c ∈ Θ, c.1 ∉ M.map Prod.fst
  ob : ∀ c ∈ Θ, ∃ o, H c.1 = some o ∧ c.2.rep P o
  nd : (Θ.map Prod.fst).Nodup
/-- what an inner point knows of them -/
def KnT (N : Ent) (Θ : Os) : Prop := ∀ c ∈ Θ, c.1 ∉ N.F ∧ ∃ o, N.H0 c.1 = some o ∧ c.2.rep N.P0 o
section
variable {N : Ent} {P P' H H' : Hp} {M M' : Mem} {Θ Θ' : Os}
theorem TOk.nil : TOk N P H M [] := ⟨nofun, nofun, nofun, nofun, List.nodup_nil⟩
theorem TOk.kn (h : TOk N P H M Θ) : KnT (inner P H M) Θ := fun c hc => ⟨h.nm c hc, h.ob c hc⟩
theorem TOk.leave (d : TOk N P H M Θ) (h' : Holds (inner P H M) P' H' M') : TOk N P' H' M' Θ := by
  refine ⟨fun c hc => ?_, d.n0, fun c hc q => ?_, fun c hc => ?_, d.nd⟩
  · obtain ⟨o, e, _⟩ := d.ob c hc
    cases q : P' c.1 with
    | none => rfl
    | some u =>
      have := h'.nw c.1 (d.pn c hc) (by rw [q]; exact Option.some_ne_none u)
      rw [show (inner P H M).H0 = H from rfl, e] at this
      cases this
  · obtain ⟨o, e, _⟩ := d.ob c hc
    obtain ⟨c2, hc2, e2⟩ := List.mem_map.mp q
    rcases h'.fs c2 hc2 with k | k
    · exact d.nm c hc (e2 ▸ k)
    · rw [show (inner P H M).H0 = H from rfl, e2, e] at k
      cases k
  · obtain ⟨o, e, r⟩ := d.ob c hc
    exact ⟨o, h'.fr c.1 _ e (d.nm c hc), c.2.ex h'.ex0 r⟩
theorem TOk.new (d : TOk N P H M Θ) (h : Holds N P H M) {p : Addr} {o : HO} {k : OD} (hp : H p = none) (r : k.rep P o) : TOk N P (upd H p o) M (Θ ++ [(p, k)]) := by
  have pn : P p = none := h.no hp
  have nm : p ∉ M.map Prod.fst := fun q => by
    obtain ⟨c2, hc2, e2⟩ := List.mem_map.mp q
    obtain ⟨xs, a, _⟩ := (h.mem c2 hc2).2
    rw [e2, hp] at a
    cases a
  have nD : p ∉ Θ.map Prod.fst := fun q => by
    obtain ⟨c2, hc2, e2⟩ := List.mem_map.mp q
    obtain ⟨xs, a, _⟩ := d.ob c2 hc2
    rw [e2, hp] at a
    cases a
  refine ⟨fun c hc => ?_, fun c hc => ?_, fun c hc => ?_, fun c hc => ?_, ?_⟩
  · rcases List.mem_append.mp hc with k | k
    · exact d.pn c k
    · cases List.mem_singleton.mp k; exact pn
  · rcases List.mem_append.mp hc with k | k
    · exact d.n0 c k
    · cases List.mem_singleton.mp k; exact h.h0_none hp
  · rcases List.mem_append.mp hc with k | k
    · exact d.nm c k
    · cases List.mem_singleton.mp k; exact nm
  · rcases List.mem_append.mp hc with k | k
    · obtain ⟨kvs, a, b⟩ := d.ob c k
      exact ⟨kvs, by rw [upd_ne (ne_of_none a hp)]; exact a, b⟩
    · cases List.mem_singleton.mp k; exact ⟨o, upd_same, r⟩
  · rw [List.map_append]
    refine List.nodup_append.mpr ⟨d.nd, by simp, fun a ha b hb e => ?_⟩
    simp at hb
    subst hb
    exact nD (e ▸ ha)
def Os.put (Θ : Os) (p : Addr) (k : OD) : Os := Θ.map fun c => if c.1 = p then (p, k) else c
theorem osput_fst (Θ : Os) (p : Addr) (k : OD) : (Θ.put p k).map Prod.fst = Θ.map Prod.fst := by
  unfold Os.put
  rw [List.map_map]
  refine List.map_congr_left fun c _ => ?_
  show (if c.1 = p then (p, k) else c).1 = c.1
  by_cases e : c.1 = p
  · rw [if_pos e]; exact e.symm
  · rw [if_neg e]
theorem osput_one {p : Addr} {k k' : OD} : Os.put [(p, k)] p k' = [(p, k')] := by simp [Os.put]
theorem Holds.tput (h : Holds N P H M) (d : TOk N P H M Θ) {p : Addr} {k : OD} (hp : (p, k) ∈ Θ) {o : HO} (nf : ∀ od kvs, o ≠ .frz od (.dK kvs)) : Holds N P (upd H p o) M := by
  have pn := d.pn _ hp
  refine ⟨fun a u e => ?_, h.ex0, fun b u e f => ?_, h.nw, fun c hc => ?_, h.nd, h.mf, h.fs, h.ufu nf, h.pf⟩
  · rw [upd_ne (ne_of_none e pn)]
    exact h.exw a u e
  · have n0 := d.n0 _ hp
    rw [upd_ne (ne_of_none e n0)]
    exact h.fr b u e f
  · obtain ⟨a1, xs, a2, a3⟩ := h.mem c hc
    refine ⟨a1, xs, ?_, a3⟩
    rw [upd_ne fun e => d.nm _ hp (List.mem_map.mpr ⟨c, hc, e⟩)]
    exact a2
theorem TOk.put (d : TOk N P H M Θ) {p : Addr} {k k' : OD} {o : HO} (hp : (p, k) ∈ Θ) (r : k'.rep P o) : TOk N P (upd H p o) M (Θ.put p k') := by
  have mm : ∀ c ∈ Θ.put p k', ∃ c0 ∈ Θ, c0.1 = c.1 ∧ ((c.1 = p ∧ c.2 = k') ∨ (c.1 ≠ p ∧ c = c0)) := fun c hc => by
    obtain ⟨c0, h0, e⟩ := List.mem_map.mp hc
    by_cases q : c0.1 = p
    · rw [if_pos q] at e
      subst e
      exact ⟨c0, h0, q, .inl ⟨rfl, rfl⟩⟩
    · rw [if_neg q] at e
      subst e
      exact ⟨c0, h0, rfl, .inr ⟨q, rfl⟩⟩
  refine ⟨fun c hc => ?_, fun c hc => ?_, fun c hc => ?_, fun c hc => ?_, by rw [osput_fst]; exact d.nd⟩
  · obtain ⟨c0, h0, e, _⟩ := mm c hc
    rw [← e]; exact d.pn c0 h0
  · obtain ⟨c0, h0, e, _⟩ := mm c hc
    rw [← e]; exact d.n0 c0 h0
  · obtain ⟨c0, h0, e, _⟩ := mm c hc
    rw [← e]; exact d.nm c0 h0
  · obtain ⟨c0, h0, e, q | q⟩ := mm c hc
    · rw [q.1, q.2]
      exact ⟨o, upd_same, r⟩
    · obtain ⟨ks, a, b⟩ := d.ob c0 h0
      rw [q.2]
      rw [q.2] at q
      exact ⟨ks, by rw [upd_ne q.1]; exact a, b⟩
/-- an object of one's own becomes persistent -/
theorem Holds.tfreeze (h : Holds N P H M) (d : TOk N P H M Θ) {p : Addr} {k : OD} (hp : (p, k) ∈ Θ) :
    ∃ P' o, Ex P P' ∧ P' p = some o ∧ k.rep P' o ∧ Holds N P' H M ∧ TOk N P' H M (Θ.filter fun c => decide (c.1 ≠ p)) := by
  obtain ⟨o, e, r⟩ := d.ob _ hp
  have pn := d.pn _ hp
  have q : Ex P (upd P p o) := Ex.new pn
  refine ⟨upd P p o, o, q, upd_same, k.ex q r, ⟨fun b u z => ?_, h.ex0.trans q, h.fr, fun b z f => ?_, fun c hc => ?_, h.nd, h.mf, h.fs, h.uf, h.pf.new (o := o) (k.nf r)⟩, ⟨fun c hc => ?_, fun c hc => d.n0 c (List.mem_filter.mp hc).1, fun c hc => d.nm c (List.mem_filter.mp hc).1, fun c hc => ?_, d.nd.sublist ((List.filter_sublist (l := Θ)).map _)⟩⟩
  · by_cases eb : b = p
    · subst eb
      rw [upd_same] at z
      rw [← z]
      exact .inl e
    · rw [upd_ne eb] at z
      exact h.exw b u z
  · by_cases eb : b = p
    · subst eb
      exact d.n0 _ hp
    · rw [upd_ne eb] at f
      exact h.nw b z f
  · obtain ⟨a1, ys, a2, a3⟩ := h.mem c hc
    refine ⟨?_, ys, a2, a3.ex q⟩
    rw [upd_ne fun e => d.nm _ hp (List.mem_map.mpr ⟨c, hc, e⟩)]
    exact a1
  · obtain ⟨hc, ne⟩ := List.mem_filter.mp hc
    have ne : c.1 ≠ p := of_decide_eq_true ne
    rw [upd_ne ne]
    exact d.pn c hc
  · obtain ⟨ks, a, b⟩ := d.ob c (List.mem_filter.mp hc).1
    exact ⟨ks, a, c.2.ex q b⟩
end

structure PostO where
  nx : Rho → Mem → Os → Prop
  rt : It → Mem → Prop
  bk : Rho → Mem → Os → Prop := fun _ _ _ => False
  ct : Rho → Mem → Os → Prop := fun _ _ _ => False
  er : Str → Mem → Prop := fun _ _ => False
structure ZF (mg : Str → Option Value) (N : Ent) (P : Hp) (Z : PostO) (D : Ends) (E : XK) : Prop where
  nx : ∀ ρ' M' Θ' σ' H' P', Z.nx ρ' M' Θ' → Ex P P' → Holds N P' H' M' → TOk N P' H' M' Θ' → Slots P' σ' ρ' → D.nx σ' H'
  rt : ∀ i M' v H' P', Z.rt i M' → Ex P P' → Holds N P' H' M' → RepI P' v i → D.rt v H'
  bk : ∀ ρ' M' Θ' σ' H' P', Z.bk ρ' M' Θ' → Ex P P' → Holds N P' H' M' → TOk N P' H' M' Θ' → Slots P' σ' ρ' → D.bk σ' H'
  ct : ∀ ρ' M' Θ' σ' H' P', Z.ct ρ' M' Θ' → Ex P P' → Holds N P' H' M' → TOk N P' H' M' Θ' → Slots P' σ' ρ' → D.ct σ' H'
  er : ∀ z M' d H' P' C, mg "ShapeError" = some (.ref C) → Z.er z M' → Ex P P' → Holds N P' H' M' → H' d = some (XD z) → E (.ref C) (some d) H'
section
variable {X : Cx} {N : Ent} {ρ ρ' : Rho} {M M1 M2 M3 : Mem} {Θ Θ' : Os} {a b c e tg iter : Expr} {i j k : It} {pos : Pos} {Z : PostO} {body rest : List Stmt} {st : Stmt}
theorem ZF.ex {mg : Str → Option Value} {P P' : Hp} {D : Ends} {E : XK} (e : Ex P P') (z : ZF mg N P Z D E) : ZF mg N P' Z D E :=
  ⟨fun ρ' M' Θ' σ' H' P'' a b => z.nx ρ' M' Θ' σ' H' P'' a (e.trans b), fun i M' v H' P'' a b => z.rt i M' v H' P'' a (e.trans b), fun ρ' M' Θ' σ' H' P'' a b => z.bk ρ' M' Θ' σ' H' P'' a (e.trans b), fun ρ' M' Θ' σ' H' P'' a b => z.ct ρ' M' Θ' σ' H' P'' a (e.trans b), fun w M' d H' P'' C c a b => z.er w M' d H' P'' C c a (e.trans b)⟩
def UJ (X : Cx) (N : Ent) (ρ : Rho) (M : Mem) (Θ : Os) (sts : List Stmt) (Z : PostO) : Prop :=
  ∀ σ H P, Holds N P H M → TOk N P H M Θ → Slots P σ ρ → ∀ (D : Ends) (E : XK), Takes X (fun c d _ H => E c d H) → ZF X.mg N P Z D E → wSs X sts D σ H
theorem uj_nil (h : Z.nx ρ M Θ) : UJ X N ρ M Θ [] Z := fun σ H P hh d g D E tk z => ss_of pss_nil (z.nx ρ M Θ σ H P h (Ex.refl P) hh d g)
theorem uj_cons (h : ∀ σ H P, Holds N P H M → TOk N P H M Θ → Slots P σ ρ → ∀ (D : Ends) (E : XK), Takes X (fun c d _ H => E c d H) → ZF X.mg N P { Z with nx := fun ρ' M' Θ' => UJ X N ρ' M' Θ' rest Z } D E → wS X st D σ H) : UJ X N ρ M Θ (st :: rest) Z := fun σ H P hh d g D E tk z =>
  ss_of (pss_cons ps_w pss_w) (h σ H P hh d g _ E tk ⟨fun ρ' M' Θ' σ' H' P' a e hh' d' g' => a σ' H' P' hh' d' g' D E tk (z.ex e), z.rt, z.bk, z.ct, z.er⟩)
/-- the end of the statements, with the dicts that stand -/
abbrev ntZ (X : Cx) (N : Ent) (Θ : Os) (rest : List Stmt) (Z : PostO) : Post := { nx := fun ρ' M' => UJ X N ρ' M' Θ rest Z, rt := Z.rt, bk := fun ρ' M' => Z.bk ρ' M' Θ, ct := fun ρ' M' => Z.ct ρ' M' Θ, er := Z.er }
/-- a statement that changes no dict: by its own rule at an inner point, that knows the dicts -/
theorem uj_st (h : ∀ N', KnT N' Θ → SJ X N' ρ M [st] (ntZ X N Θ rest Z)) : UJ X N ρ M Θ (st :: rest) Z := uj_cons fun σ H P hh d g D E tk z =>
  s_one (h (inner P H M) d.kn σ H P hh.enter1 g D E tk ⟨fun ρ' M' σ' H' P' a e h' g' => z.nx ρ' M' Θ σ' H' P' a e (hh.leave1 h') (d.leave h') g', fun i M' v H' P' a e h' r => z.rt i M' v H' P' a e (hh.leave1 h') r, fun ρ' M' σ' H' P' a e h' g' => z.bk ρ' M' Θ σ' H' P' a e (hh.leave1 h') (d.leave h') g', fun ρ' M' σ' H' P' a e h' g' => z.ct ρ' M' Θ σ' H' P' a e (hh.leave1 h') (d.leave h') g', fun w M' x H' P' C c a e h' r => z.er w M' x H' P' C c a e (hh.leave1 h') r⟩)
/-- from SJ, and back to it -/
abbrev Post.toO (Z : Post) : PostO := { nx := fun ρ' M' _ => Z.nx ρ' M', rt := Z.rt, bk := fun ρ' M' _ => Z.bk ρ' M', ct := fun ρ' M' _ => Z.ct ρ' M', er := Z.er }
theorem sj_uj {sts : List Stmt} {Z : Post} (h : UJ X N ρ M [] sts Z.toO) : SJ X N ρ M sts Z := fun σ H P hh g D E tk z =>
  h σ H P hh TOk.nil g D E tk ⟨fun ρ' M' _ σ' H' P' a e h' _ g' => z.nx ρ' M' σ' H' P' a e h' g', z.rt, fun ρ' M' _ σ' H' P' a e h' _ g' => z.bk ρ' M' σ' H' P' a e h' g', fun ρ' M' _ σ' H' P' a e h' _ g' => z.ct ρ' M' σ' H' P' a e h' g', z.er⟩
theorem uj_sj {sts : List Stmt} (h : SJ X N ρ M sts { nx := fun ρ' M' => Z.nx ρ' M' [], rt := Z.rt, bk := fun ρ' M' => Z.bk ρ' M' [], ct := fun ρ' M' => Z.ct ρ' M' [], er := Z.er }) : UJ X N ρ M Θ sts Z := fun σ H P hh d g D E tk z =>
  h σ H P hh g D E tk ⟨fun ρ' M' σ' H' P' a e h' g' => z.nx ρ' M' [] σ' H' P' a e h' TOk.nil g', z.rt, fun ρ' M' σ' H' P' a e h' g' => z.bk ρ' M' [] σ' H' P' a e h' TOk.nil g', fun ρ' M' σ' H' P' a e h' g' => z.ct ρ' M' [] σ' H' P' a e h' TOk.nil g', z.er⟩
theorem uj_weak {sts : List Stmt} (h : UJ X N ρ' M1 Θ' sts Z) (hl : ρ'.length = ρ.length) (w : ∀ (n : Nat) (it : It), ρ'[n]? = some (some it) → ρ[n]? = some (some it)) (s : ∀ c ∈ M1, c ∈ M) (nd : (M.map Prod.fst).Nodup → (M1.map Prod.fst).Nodup) (mf : ∀ a ∈ N.F, a ∈ M1.map Prod.fst) (sd : List.Sublist Θ' Θ) : UJ X N ρ M Θ sts Z :=
  fun σ H P hh d g D E tk z => h σ H P (hh.sub s (nd hh.nd) mf) ⟨fun c hc => d.pn c (sd.mem hc), fun c hc => d.n0 c (sd.mem hc), fun c hc q => d.nm c (sd.mem hc) (by
    obtain ⟨c2, a, b⟩ := List.mem_map.mp q
    exact List.mem_map.mpr ⟨c2, s c2 a, b⟩), fun c hc => d.ob c (sd.mem hc), d.nd.sublist (sd.map _)⟩ (g.weak hl w) D E tk z
theorem uj_is {sts : List Stmt} (h : UJ X N ρ' M1 Θ' sts Z) (e1 : ρ = ρ') (e2 : M = M1) (e3 : Θ = Θ') : UJ X N ρ M Θ sts Z := by
  subst e1; subst e2; subst e3; exact h
theorem uj_if {A B : List Stmt} {t : Bool} (hc : ∀ N', KnT N' Θ → TJ X N' ρ M c t M1) (h1 : t = true → UJ X N ρ M1 Θ A { Z with nx := fun ρ' M' Θ' => UJ X N ρ' M' Θ' rest Z }) (h2 : t = false → UJ X N ρ M1 Θ B { Z with nx := fun ρ' M' Θ' => UJ X N ρ' M' Θ' rest Z }) : UJ X N ρ M Θ (.If c A B pos :: rest) Z := uj_cons fun σ H P hh d g D E tk z =>
  s_of (ps_if pt_w pss_w pss_w) (hc _ d.kn σ H P hh.enter1 g _ fun H1 P1 e1 h1' => by
    have hh1 := hh.leave1 h1'
    have d1 := d.leave h1'
    cases t with
    | true => exact iteT (h1 rfl σ H1 P1 hh1 d1 (g.ex e1) D E tk (z.ex e1))
    | false => exact iteF (h2 rfl σ H1 P1 hh1 d1 (g.ex e1) D E tk (z.ex e1)))
theorem uj_while (n0 : Nat) (Inv : Nat → Rho → Mem → Os → Prop) (h0 : Inv n0 ρ M Θ)
    (step : ∀ m ρ' M' Θ', Inv m ρ' M' Θ' → ∃ t M2, (∀ N', KnT N' Θ' → TJ X N' ρ' M' c t M2) ∧ (t = true → UJ X N ρ' M2 Θ' body { nx := fun ρ2 M3 Θ3 => ∃ m', m' < m ∧ Inv m' ρ2 M3 Θ3, ct := fun ρ2 M3 Θ3 => ∃ m', m' < m ∧ Inv m' ρ2 M3 Θ3, bk := fun ρ' M' Θ' => UJ X N ρ' M' Θ' rest Z, rt := Z.rt, er := Z.er }) ∧ (t = false → UJ X N ρ' M2 Θ' rest Z))
    (hp : PassesOwn (model X.prog X.w) X.A X.env X.xe := by exact PassesOwn.never) : UJ X N ρ M Θ (.While c body [] pos :: rest) Z := uj_cons fun σ H P hh d g D E tk z => by
  refine s_of (ps_while hp pt_w pss_w) ⟨fun m σ' H' => ∃ ρ' M' Θ' P', Inv m ρ' M' Θ' ∧ Holds N P' H' M' ∧ TOk N P' H' M' Θ' ∧ Slots P' σ' ρ' ∧ Ex P P', ⟨n0, ρ, M, Θ, P, h0, hh, d, g, Ex.refl P⟩, fun m σ' H' hw => ?_⟩
  obtain ⟨ρ', M', Θ', P', w, h2, d2, g2, e2⟩ := hw
  obtain ⟨t, M2, T, S1, S2⟩ := step m ρ' M' Θ' w
  refine T _ d2.kn σ' H' P' h2.enter1 g2 _ fun H3 P3 e3 h3' => ?_
  have h3 := h2.leave1 h3'
  have d3 := d2.leave h3'
  cases t with
  | true =>
    refine iteT ⟨fun σ4 H4 => ∃ m', m' < m ∧ ∃ ρ' M' Θ' P', Inv m' ρ' M' Θ' ∧ Holds N P' H4 M' ∧ TOk N P' H4 M' Θ' ∧ Slots P' σ4 ρ' ∧ Ex P P', fun σ4 H4 ⟨m', l, w'⟩ => ⟨m', l, w'⟩, ?_⟩
    refine S1 rfl σ' H3 P3 h3 d3 (g2.ex e3) _ E tk ⟨fun ρ4 M4 Θ4 σ4 H4 P4 ⟨m', l, w'⟩ e h d g => ⟨m', l, ρ4, M4, Θ4, P4, w', h, d, g, (e2.trans e3).trans e⟩, fun i M4 v H4 P4 a e h r => z.rt i M4 v H4 P4 a ((e2.trans e3).trans e) h r, fun ρ4 M4 Θ4 σ4 H4 P4 a e h d g => z.nx ρ4 M4 Θ4 σ4 H4 P4 a ((e2.trans e3).trans e) h d g, fun ρ4 M4 Θ4 σ4 H4 P4 ⟨m', l, w'⟩ e h d g => ⟨m', l, ρ4, M4, Θ4, P4, w', h, d, g, (e2.trans e3).trans e⟩, fun w M4 x H4 P4 C c a e h r => z.er w M4 x H4 P4 C c a ((e2.trans e3).trans e) h r⟩
  | false => exact iteF (z.nx ρ' M2 Θ' σ' H3 P3 (S2 rfl) (e2.trans e3) h3 d3 (g2.ex e3))
/-- as IA, with the dicts known to the expression that is walked -/
def IAO (X : Cx) (ρ : Rho) (M : Mem) (Θ : Os) (tg iter : Expr) (ds : List PyData) (M1 : Mem) : Prop :=
  ∃ ti : TI, PI X tg iter ti ∧ ∀ N, KnT N Θ → ∀ σ H P, Holds N P H M → Slots P σ ρ → ∀ R, (∀ J H1 P1, Ex P P1 → Holds N P1 H1 M1 → WalkA P1 J ds → R J H1) → ti σ H R
theorem io_list {ds : List PyData} (ha : ∀ N, KnT N Θ → EJ X N ρ M iter (.d (.list ds)) M1) : IAO X ρ M Θ tg iter ds M1 := by
  refine ⟨_, pi_list pe_w, fun N kn σ H P hh g R q => ?_⟩
  refine ha N kn σ H P hh g _ fun v H1 P1 e1 h1 r1 => ?_
  obtain ⟨t, xs, rfl, x1, x2⟩ := ri_lst r1
  have xl := dnAll_len x2
  refine ⟨t, rfl, ⟨xs, .inl (.inl (h1.ex _ _ x1))⟩, q _ H1 P1 e1 h1 ⟨fun i N H P' M' hi h2 e2 => ?_, fun N H P' M' h2 e2 => ?_, fun i N H v H' P' M' hi h2 e2 y => ?_⟩⟩
  · rw [← xl] at hi
    exact ⟨xs, _, .inl (.inl (h2.ex _ _ (e2 _ _ x1))), List.getElem?_eq_getElem hi⟩
  · exact ⟨xs, .inl (.inl (h2.ex _ _ (e2 _ _ x1))), by rw [xl]; exact Nat.le_refl _⟩
  · obtain ⟨rfl, hx⟩ := y
    have hx := hx xs (.inl (.inl (h2.ex _ _ (e2 _ _ x1))))
    obtain ⟨v', ev, dv⟩ := dnAll_get x2 (List.getElem?_eq_getElem hi)
    rw [hx] at ev
    cases Option.some.inj ev
    exact ⟨P', _, List.getElem?_eq_getElem hi, Ex.refl _, h2, dn_ex e2 _ _ dv⟩
theorem io_tup {ds : List PyData} (ha : ∀ N, KnT N Θ → EJ X N ρ M iter (.d (.tuple ds)) M1) : IAO X ρ M Θ tg iter ds M1 := by
  refine ⟨_, pi_tup pe_w, fun N kn σ H P hh g R q => ?_⟩
  refine ha N kn σ H P hh g _ fun v H1 P1 e1 h1 r1 => ?_
  obtain ⟨t, xs, rfl, x1, x2⟩ := ri_tup r1
  have xl := dnAll_len x2
  refine ⟨t, rfl, ⟨xs, .inl (.inl (h1.ex _ _ x1))⟩, q _ H1 P1 e1 h1 ⟨fun i N H P' M' hi h2 e2 => ?_, fun N H P' M' h2 e2 => ?_, fun i N H v H' P' M' hi h2 e2 y => ?_⟩⟩
  · rw [← xl] at hi
    exact ⟨xs, _, .inl (.inl (h2.ex _ _ (e2 _ _ x1))), List.getElem?_eq_getElem hi⟩
  · exact ⟨xs, .inl (.inl (h2.ex _ _ (e2 _ _ x1))), by rw [xl]; exact Nat.le_refl _⟩
  · obtain ⟨rfl, hx⟩ := y
    have hx := hx xs (.inl (.inl (h2.ex _ _ (e2 _ _ x1))))
    obtain ⟨v', ev, dv⟩ := dnAll_get x2 (List.getElem?_eq_getElem hi)
    rw [hx] at ev
    cases Option.some.inj ev
    exact ⟨P', _, List.getElem?_eq_getElem hi, Ex.refl _, h2, dn_ex e2 _ _ dv⟩
theorem io_enumT {p : Pos} {elts : List Expr} {kk : Nat} {tpos : Pos} {ds : List PyData} (hm : X.mg "enumerate" = none) (ha : ∀ N, KnT N Θ → EJ X N ρ M a (.d (.tuple ds)) M1) (hg : Gl X "enumerate" := by rfl) (hs : starEach [a] X.env = [(false, eval a X.env)] := by rfl) :
    IAO X ρ M Θ (.Tuple elts kk tpos) (.Call (.Name "enumerate" p) [a] [] pos) (enumD ds) M1 := by
  refine ⟨_, pi_enumT hg hm pa_w hs, fun N kn σ H P hh g R q => ?_⟩
  refine aj_cons (ha N kn) aj_nil hs σ H P hh g _ fun vs H1 P1 e1 h1 r1 => ?_
  obtain ⟨x, rfl, r2⟩ := ri1 r1
  obtain ⟨t, xs, rfl, x1, x2⟩ := ri_tup r2
  have xl := dnAll_len x2
  refine ⟨t, xs, rfl, .inl (.inl (h1.ex _ _ x1)), q _ H1 P1 e1 h1 ⟨fun i N H P' M' hi h2 e2 => ?_, fun N H P' M' h2 e2 => ?_, fun i N H v H' P' M' hi h2 e2 y => ?_⟩⟩
  · rw [enumD_len, ← xl] at hi
    exact ⟨xs, _, .inl (.inl (h2.ex _ _ (e2 _ _ x1))), List.getElem?_eq_getElem hi⟩
  · exact ⟨xs, .inl (.inl (h2.ex _ _ (e2 _ _ x1))), by rw [enumD_len, xl]⟩
  · obtain ⟨T, u, rfl, hT, rfl, hx⟩ := y
    have hx := hx xs (.inl (.inl (h2.ex _ _ (e2 _ _ x1))))
    rw [enumD_len] at hi
    obtain ⟨v', ev, dv⟩ := dnAll_get x2 (List.getElem?_eq_getElem hi)
    rw [hx] at ev
    cases Option.some.inj ev
    obtain ⟨h5, e5⟩ := h2.pers (o := .tup [.int (i : Nat), u]) hT
    exact ⟨_, _, enumD_get (List.getElem?_eq_getElem hi), e5, h5, .tup upd_same (.cons (.int _) (.cons (dn_ex e5 _ _ (dn_ex e2 _ _ dv)) .nil))⟩
theorem uj_for {ds : List PyData} (hc : X.calm = true) (hi : IAO X ρ M Θ tg iter ds M1) (Inv : Nat → Rho → Mem → Os → Prop) (h0 : Inv 0 ρ M1 Θ)
    (step : ∀ n d ρ' M' Θ', ds[n]? = some d → Inv n ρ' M' Θ' → ∃ ρ2, GJ X N tg (.d d) ρ' ρ2 ∧ UJ X N ρ2 M' Θ' body { nx := Inv (n + 1), ct := Inv (n + 1), bk := fun ρ' M' Θ' => UJ X N ρ' M' Θ' rest Z, rt := Z.rt, er := Z.er })
    (done : ∀ ρ' M' Θ', Inv ds.length ρ' M' Θ' → UJ X N ρ' M' Θ' rest Z) (hp : PassesOwn (model X.prog X.w) X.A X.env X.xe := by exact PassesOwn.never) (hf : ∀ x, foldedSetIterable iter X.env x = pure x := by intro _; rfl) : UJ X N ρ M Θ (.For tg iter body [] pos :: rest) Z := uj_cons fun σ H P hh d g D E tk z => by
  obtain ⟨ti, pi, hi⟩ := hi
  refine s_of (ps_for hp hc pi pg_w pss_w hf) (hi _ d.kn σ H P hh.enter1 g _ fun J H1 P1 e1 h1' W => ?_)
  have h1 := hh.leave1 h1'
  have d1 := d.leave h1'
  have WK : Walk J ds.length (fun H => ∃ P' M' Θ', Holds N P' H M' ∧ TOk N P' H M' Θ' ∧ Ex P1 P') (fun i H x H' => ∀ P' M' Θ', Holds N P' H M' → TOk N P' H M' Θ' → Ex P1 P' → ∃ P'' d, ds[i]? = some d ∧ Ex P' P'' ∧ Holds N P'' H' M' ∧ TOk N P'' H' M' Θ' ∧ RepI P'' x (.d d)) :=
    ⟨fun i H hi ⟨P', M', Θ', a, _, b⟩ => W.go i N H P' M' hi a b, fun H ⟨P', M', Θ', a, _, b⟩ => W.stop N H P' M' a b, fun i H x H' hi _ y P' M' Θ' a dd b => by
      obtain ⟨P'', d, q1, q2, q3, q4⟩ := W.yld i _ H x H' P' M' hi a.enter1 b y
      exact ⟨P'', d, q1, q2, a.leave1 q3, dd.leave q3, q4⟩⟩
  refine for_it WK (fun n σ' H' => ∃ ρ' M' Θ' P', Inv n ρ' M' Θ' ∧ Holds N P' H' M' ∧ TOk N P' H' M' Θ' ∧ Slots P' σ' ρ' ∧ Ex P1 P') ⟨ρ, M1, Θ, P1, h0, h1, d1, g.ex e1, Ex.refl _⟩ (fun i σ' H' _ ⟨ρ', M', Θ', P', iv, a, dd, _, b⟩ => ⟨P', M', Θ', a, dd, b⟩) (fun n x σ' H' H2 hn hw hy => ?_) (fun σ' H' hw => ?_)
  · obtain ⟨ρ', M', Θ', P', w, h2, d2, g2, e2⟩ := hw
    obtain ⟨P2, dd, ed, e3, h3, d3, r3⟩ := hy P' M' Θ' h2 d2 e2
    obtain ⟨ρ2, G, S⟩ := step n dd ρ' M' Θ' ed w
    refine G x σ' H2 P2 M' h3 (g2.ex e3) r3 _ fun σ2 g3 => ?_
    refine S σ2 H2 P2 h3 d3 g3 _ E tk ⟨fun ρ4 M4 Θ4 σ4 H4 P4 a e h d g => ⟨ρ4, M4, Θ4, P4, a, h, d, g, (e2.trans e3).trans e⟩, fun i M4 v H4 P4 a e h r => z.rt i M4 v H4 P4 a ((e1.trans (e2.trans e3)).trans e) h r, fun ρ4 M4 Θ4 σ4 H4 P4 a e h d g => z.nx ρ4 M4 Θ4 σ4 H4 P4 a ((e1.trans (e2.trans e3)).trans e) h d g, fun ρ4 M4 Θ4 σ4 H4 P4 a e h d g => ⟨ρ4, M4, Θ4, P4, a, h, d, g, (e2.trans e3).trans e⟩, fun w M4 x H4 P4 C c a e h r => z.er w M4 x H4 P4 C c a ((e1.trans (e2.trans e3)).trans e) h r⟩
  · obtain ⟨ρ', M', Θ', P', w, h2, d2, g2, e2⟩ := hw
    exact z.nx ρ' M' Θ' σ' H' P' (done ρ' M' Θ' w) (e1.trans e2) h2 d2 g2
end

/-! ### dicts with tuple keys -/
abbrev DT' := List (List Key × PyData)
def KVT (P : Hp) : List (List Key × V) → DT' → Prop
  | [], [] => True
  | (k, v) :: r, (j, d) :: s => k = j ∧ Dn P v d ∧ KVT P r s
  | _, _ => False
def valT (es : DT') (k : List Key) : Option PyData := (es.find? fun kv => decide (kv.1 = k)).map (·.2)
def putT (es : DT') (k : List Key) (d : PyData) : DT' := if (es.any fun kv => decide (kv.1 = k)) = true then es.map fun kv => if kv.1 = k then (kv.1, d) else kv else es ++ [(k, d)]
section
variable {P P' : Hp}
theorem KVT.ex (e : Ex P P') : ∀ {kvs : List (List Key × V)} {es : DT'}, KVT P kvs es → KVT P' kvs es
  | [], [], _ => trivial
  | (k, v) :: r, (j, d) :: s, h => ⟨h.1, dn_ex e _ _ h.2.1, KVT.ex e h.2.2⟩
  | [], _ :: _, h => h.elim
  | _ :: _, [], h => h.elim
theorem KVT.len : ∀ {kvs : List (List Key × V)} {es : DT'}, KVT P kvs es → kvs.length = es.length
  | [], [], _ => rfl
  | (k, v) :: r, (j, d) :: s, h => by rw [List.length_cons, List.length_cons, KVT.len h.2.2]
  | [], _ :: _, h => h.elim
  | _ :: _, [], h => h.elim
theorem KVT.any (k0 : List Key) : ∀ {kvs : List (List Key × V)} {es : DT'}, KVT P kvs es → (kvs.any fun kv => decide (kv.1 = k0)) = (es.any fun kv => decide (kv.1 = k0))
  | [], [], _ => rfl
  | (k, v) :: r, (j, d) :: s, h => by
    rw [List.any_cons, List.any_cons, KVT.any k0 h.2.2]
    cases h.1
    rfl
  | [], _ :: _, h => h.elim
  | _ :: _, [], h => h.elim
theorem KVT.map (k0 : List Key) {v0 : V} {d0 : PyData} (h0 : Dn P v0 d0) : ∀ {kvs : List (List Key × V)} {es : DT'}, KVT P kvs es → KVT P (kvs.map fun kv => if kv.1 = k0 then (kv.1, v0) else kv) (es.map fun kv => if kv.1 = k0 then (kv.1, d0) else kv)
  | [], [], _ => trivial
  | (k, v) :: r, (j, d) :: s, h => by
    cases h.1
    rw [List.map_cons, List.map_cons]
    by_cases e : k = k0
    · rw [if_pos (show ((k, v) : List Key × V).1 = k0 from e), if_pos (show ((k, d) : List Key × PyData).1 = k0 from e)]
      exact ⟨rfl, h0, KVT.map k0 h0 h.2.2⟩
    · rw [if_neg (show ¬ ((k, v) : List Key × V).1 = k0 from e), if_neg (show ¬ ((k, d) : List Key × PyData).1 = k0 from e)]
      exact ⟨rfl, h.2.1, KVT.map k0 h0 h.2.2⟩
  | [], _ :: _, h => h.elim
  | _ :: _, [], h => h.elim
theorem KVT.snoc {k0 : List Key} {v0 : V} {d0 : PyData} (h0 : Dn P v0 d0) : ∀ {kvs : List (List Key × V)} {es : DT'}, KVT P kvs es → KVT P (kvs ++ [(k0, v0)]) (es ++ [(k0, d0)])
  | [], [], _ => ⟨rfl, h0, trivial⟩
  | (k, v) :: r, (j, d) :: s, h => ⟨h.1, h.2.1, KVT.snoc h0 h.2.2⟩
  | [], _ :: _, h => h.elim
  | _ :: _, [], h => h.elim
theorem KVT.put {k0 : List Key} {v0 : V} {d0 : PyData} (h0 : Dn P v0 d0) {kvs : List (List Key × V)} {es : DT'} (h : KVT P kvs es) : KVT P (putK kvs k0 v0) (putT es k0 d0) := by
  unfold putK putT
  rw [h.any k0]
  by_cases e : (es.any fun kv => decide (kv.1 = k0)) = true
  · rw [if_pos e, if_pos e]
    exact h.map k0 h0
  · rw [if_neg e, if_neg e]
    exact h.snoc h0
theorem KVT.val (k0 : List Key) : ∀ {kvs : List (List Key × V)} {es : DT'}, KVT P kvs es → (valV kvs k0 = none ∧ valT es k0 = none) ∨ ∃ v d, valV kvs k0 = some v ∧ valT es k0 = some d ∧ Dn P v d
  | [], [], _ => .inl ⟨rfl, rfl⟩
  | (k, v) :: r, (j, d) :: s, h => by
    cases h.1
    by_cases e : k = k0
    · refine .inr ⟨v, d, valV_pos (p := (k, v)) e, ?_, h.2.1⟩
      unfold valT
      rw [List.find?_cons_of_pos (by exact decide_eq_true e)]
      rfl
    · have a : valV ((k, v) :: r) k0 = valV r k0 := valV_neg (p := (k, v)) e
      have b : valT ((k, d) :: s) k0 = valT s k0 := by
        unfold valT
        rw [List.find?_cons_of_neg (by simpa using e)]
      rw [a, b]
      exact KVT.val k0 h.2.2
  | [], _ :: _, h => h.elim
  | _ :: _, [], h => h.elim
theorem putT_len (es : DT') (k : List Key) (d : PyData) : (putT es k d).length ≤ es.length + 1 := by
  unfold putT
  by_cases e : (es.any fun kv => decide (kv.1 = k)) = true
  · rw [if_pos e]; simp
  · rw [if_neg e]; simp
end
def dtO (es : DT') : OD := ⟨fun P o => ∃ kvs, o = .dT kvs ∧ KVT P kvs es, fun e ⟨kvs, h1, h2⟩ => ⟨kvs, h1, h2.ex e⟩, fun ⟨kvs, h1, _⟩ od u h => (by rw [h1] at h; cases h), fun ⟨kvs, h1, _⟩ u h => (by rw [h1] at h; cases h)⟩
def TD (a : Addr) (es : DT') (P : Hp) : Prop := ∃ kvs, P a = some (.dT kvs) ∧ KVT P kvs es
theorem TD.ex {a : Addr} {es : DT'} (P P' : Hp) (e : Ex P P') (h : TD a es P) : TD a es P' := by
  obtain ⟨kvs, h1, h2⟩ := h
  exact ⟨kvs, e _ _ h1, h2.ex e⟩
/-- a dict with tuple keys that stands -/
def tdE (es : DT') : It := .w (fun v P => ∃ a, v = .ref a ∧ TD a es P) fun v P P' e ⟨a, h1, h2⟩ => ⟨a, h1, TD.ex P P' e h2⟩
def tkD (k : List Key) : PyData := .tuple (k.map kD)
theorem dn_key {P : Hp} : ∀ {k : Key} {v : V}, Dn P v (kD k) → v = kV k
  | .inl i, _, h => by cases h; rfl
  | .inr x, _, h => by cases h; rfl
theorem dnAll_keys {P : Hp} : ∀ {k : List Key} {vs : List V}, DnAll P vs (k.map kD) → vs = k.map kV
  | [], _, h => by cases h; rfl
  | x :: k, _, h => by
    cases h with
    | cons h1 h2 => rw [dn_key h1, dnAll_keys h2]; rfl
section
variable {X : Cx} {N : Ent} {ρ : Rho} {M M1 M2 M3 : Mem} {Θ : Os} {e o x : Expr} {pos : Pos} {Z : PostO} {rest : List Stmt}
theorem uj_newT (n : Nat) {y : Str} {pos' dp : Pos} (hN : X.N.Nodup) (hr : ∀ p, UJ X N (ρ.set n (some (.v (.ref p)))) M (Θ ++ [(p, dtO [])]) rest Z) (hi : X.N[n]? = some y := by rfl) (hx : Loc X.env.scope y := by first | exact .inl rfl | exact .inr rfl) (hs : swapsWith (.Dict [] [] dp) (some (.Name y pos')) pos.line X.env = pure false := by rfl) (hf : X.fn y = true ∨ X.env.scope.names.lookup y = some .local := by first | exact .inl rfl | exact .inr rfl) :
    UJ X N ρ M Θ (.Assign [.Name y pos'] (.Dict [] [] dp) pos :: rest) Z := uj_cons fun σ H P hh d g D E tk z =>
  s_of (ps_set (i := n) hN hi hx pe_dnewT hs hf) fun p hp => z.nx _ _ _ _ _ P (hr p) (Ex.refl P) (hh.dnew hp) (d.new hh hp (k := dtO []) ⟨[], rfl, trivial⟩) (g.set (it := .v (.ref p)) rfl n)
/-- d[(..)] = e -/
theorem uj_putT {spos : Pos} {p : Addr} {es : DT'} {k : List Key} {v : PyData} (hu : X.A.units + 1 < cLine) (hm : (p, dtO es) ∈ Θ) (hl : es.length < 1000000)
    (he : ∀ N', KnT N' Θ → EJ X N' ρ M e (.d v) M1) (ho : ∀ N', KnT N' Θ → EJ X N' ρ M1 o (.v (.ref p)) M2) (hx : ∀ N', KnT N' Θ → EJ X N' ρ M2 x (.d (tkD k)) M3)
    (hr : UJ X N ρ M3 (Θ.put p (dtO (putT es k v))) rest Z) (hs : swapsWith e (some (.Subscript o x spos)) pos.line X.env = pure false := by rfl) :
    UJ X N ρ M Θ (.Assign [.Subscript o x spos] e pos :: rest) Z := uj_cons fun σ H P hh d g D E tk z => by
  refine s_of (ps_dput hu pe_w pe_w pe_w hs) (he _ d.kn σ H P hh.enter1 g _ fun v1 H1 P1 e1 h1 r1 => ?_)
  refine ho _ d.kn σ H1 P1 h1 (g.ex e1) _ fun v2 H2 P2 e2 h2 r2 => ?_
  refine hx _ d.kn σ H2 P2 h2 ((g.ex e1).ex e2) _ fun v3 H3 P3 e3 h3 r3 => ?_
  cases (show v2 = .ref p from r2)
  have d3 := d.leave h3
  have hh3 := hh.leave1 h3
  obtain ⟨o3, ek, kvs, rfl, rk⟩ := d3.ob _ hm
  obtain ⟨b, xs, rfl, h4, h5⟩ := ri_tup r3
  have ex := dnAll_keys h5
  subst ex
  refine ⟨p, _, rfl, DPut.t ek (hh3.ex _ _ h4) (by rw [rk.len]; exact Nat.lt_trans hl (by rw [sizeLine_eq]; decide)), ?_⟩
  have rp : (dtO (putT es k v)).rep P3 (.dT (putK kvs k v1)) := ⟨_, rfl, rk.put (dn_ex (e2.trans e3) _ _ r1)⟩
  exact z.nx ρ M3 _ σ _ P3 hr ((e1.trans e2).trans e3) (hh3.tput d3 hm ((dtO (putT es k v)).nf rp)) (d3.put hm rp) (((g.ex e1).ex e2).ex e3)
/-- a dict with tuple keys becomes persistent, at a slot -/
theorem uj_freezeT (n : Nat) {p : Addr} {es : DT'} {sts : List Stmt} (hρ : ρ[n]? = some (some (.v (.ref p)))) (hm : (p, dtO es) ∈ Θ) (hr : UJ X N (ρ.set n (some (tdE es))) M (Θ.filter fun c => decide (c.1 ≠ p)) sts Z) : UJ X N ρ M Θ sts Z := fun σ H P hh d g D E tk z => by
  obtain ⟨P', o', e, h1, ⟨kvs, rfl, h2⟩, h', d'⟩ := hh.tfreeze d hm
  obtain ⟨v, ev, rv⟩ := g.2 n _ hρ
  cases (show v = .ref p from rv)
  have es' : σ.set n (some (.ref p)) = σ := by
    refine List.ext_getElem? fun m => ?_
    by_cases q : n = m
    · subst q
      have l : n < σ.length := (List.getElem?_eq_some_iff.mp ev).1
      rw [List.getElem?_set_self l, ev]
    · rw [List.getElem?_set_ne q]
  have g' := (g.ex e).set (it := tdE es) (v := .ref p) ⟨p, rfl, kvs, h1, h2⟩ n
  rw [es'] at g'
  exact hr σ H P' h' d' g' D E tk (z.ex e)
/-- d[(..)] of a dict that stands -/
theorem ej_tget {es : DT'} {k : List Key} {d : PyData} (hu : X.A.units + 1 < cLine) (hv : valT es k = some d) (ho : EJ X N ρ M o (tdE es) M1) (hx : EJ X N ρ M1 x (.d (tkD k)) M2) (hs : NoSl x := by intro _ _; rfl) : EJ X N ρ M (.Subscript o x pos) (.d d) M2 := fun σ H P h g Q q =>
  e_of (pe_dget hu pe_w pe_w hs) (ho σ H P h g _ fun v1 H1 P1 e1 h1 r1 => hx σ H1 P1 h1 (g.ex e1) _ fun v2 H2 P2 e2 h2 r2 => by
    obtain ⟨p, rfl, kvs, h3, h4⟩ := (show ∃ a, v1 = .ref a ∧ TD a es P2 from (RepI.ex e2 r1 : RepI P2 v1 (tdE es)))
    obtain ⟨b, xs, rfl, h5, h6⟩ := ri_tup r2
    have ex := dnAll_keys h6
    subst ex
    rcases h4.val k with ⟨q1, q2⟩ | ⟨v, d', q1, q2, q3⟩
    · rw [q2] at hv; cases hv
    · rw [hv] at q2
      cases q2
      have dg := DGet.t (h2.ex _ _ h3) (h2.ex _ _ h5)
      rw [q1] at dg
      exact ⟨p, v, rfl, dg, q v H2 P2 (e1.trans e2) h2 q3⟩)
end
end Kt

/-! Kuo: xs.count(data), xs.extend(list), min of data -/
namespace Kt
open PySem PySem.Spec PyProof PyProof.Rows L2
def rCountD (K : PySem.W.Frag) : V → List V → Hp → VK → Prop := fun x xs H Q => ∃ (a : Addr) (y : V) (d : PyData) (ds : List PyData), x = V.ref a ∧ xs = [y] ∧ Dp K H (V.ref a) (.list ds) ∧ Dp K H y d ∧
  SeqAt.shaped (.list ds) = true ∧ SeqAt.shaped d = true ∧ Q (.int (ds.countP fun z => PyData.eqv z d : Nat)) H
section
variable {X : Cx}
theorem mt_countD (hu : X.A.units + 65 < cLine) : MtR X "list.count" (rCountD X.K) := by
  intro pins s σ H x xs v us Q I rx rxs h
  obtain ⟨a, y, d, ds, rfl, rfl, hl, hy, sl, sd, q⟩ := h
  cases rx
  cases rxs with
  | cons ry rt =>
    rename_i uy ut
    cases rt
    obtain ⟨bs, r1⟩ := Dp.reads I d y uy hy ry
    have hxs : PyData.canLayAll0 ds = true := SeqAt.canLay_of_shaped sl
    have hroom : X.A.units + 1 + min (PyData.depthAll ds) d.depth < cLine := room_in_shaped sd hu
    cases hl with
    | lst hs ha =>
      obtain ⟨its, rv, ⟨⟨cls, dd, data, sls⟩, n, ho, hc, hdn, hdt⟩, hlen⟩ := I.list hs
      simp only at hc hdt
      subst hc hdt
      obtain ⟨as, h4⟩ := Dp.readsAll I ds _ its ha rv
      have hmap : its.map (SeqAt.readOf s.heap) = ds := SeqAt.readsAll_map ds its as hxs h4
      have ec : its.toArray.toList.countP (fun u => PyData.eqv (SeqAt.readOf s.heap u) d) = ds.countP fun z => PyData.eqv z d := by
        rw [← hmap, List.countP_map]
        rfl
      refine call_meets PySem.F.slot_list_count ⟨_, ho, rfl⟩ PySem.F.entry_list_count (PySem.F.args_list_count_2 _ _)
        (SeqAt.list_countAt a its.toArray n dd sls uy (fun u => PyData.eqv (SeqAt.readOf s.heap u) d)) ⟨ho, SeqAt.items_eqAt (vs := its.toArray) (show ReadsAll s.heap its.toArray.toList ds as from h4) r1 hxs (SeqAt.canLay_of_shaped sd) hroom, ?_⟩
      refine ⟨.int (ds.countP fun z => PyData.eqv z d : Nat), H, I.tok _, ⟨s.toks, ?_⟩, q⟩
      show Value.int ((its.toArray.toList.countP _ : Nat) : Int) s.toks = _
      rw [ec]
end
def rMinD (K : PySem.W.Frag) : List V → Hp → VK → Prop := fun vs H Q => ∃ (a : Addr) (xs : List V) (d : PyData) (ds : List PyData) (P : Hp), vs = [.ref a] ∧ SqL K H a xs ∧ ExW P H ∧ DnAll P xs (d :: ds) ∧ noDicts (d :: ds) = true ∧ PySem.W.AlikeAll (d :: ds) ∧ SeqAt.shaped (.list (d :: ds)) = true ∧ PyData.depthAll (d :: ds) ≤ 60 ∧
  ∀ v, Dn P v (PySem.W.minD d ds) → Q v H
theorem min_mem (d : PyData) : ∀ ds : List PyData, PySem.W.minD d ds ∈ d :: ds := by
  intro ds
  unfold PySem.W.minD
  induction ds generalizing d with
  | nil => exact List.mem_cons_self
  | cons x r ih =>
    rw [List.foldl_cons]
    have := ih (if PySem.W.dataLt x d = true then x else d)
    rcases List.mem_cons.mp this with e | e
    · rw [e]
      split
      · exact List.mem_cons_of_mem _ List.mem_cons_self
      · exact List.mem_cons_self
    · exact List.mem_cons_of_mem _ (List.mem_cons_of_mem _ e)
theorem lay_mem {d : PyData} : ∀ {ds : List PyData}, PyData.canLayAll0 ds = true → d ∈ ds → d.canLay0 = true
  | [], _, h => absurd h List.not_mem_nil
  | x :: r, h, hd => by
    have h2 := Bool.and_eq_true_iff.mp (show (x.canLay0 && PyData.canLayAll0 r) = true from h)
    rcases List.mem_cons.mp hd with e | e
    · rw [e]; exact h2.1
    · exact lay_mem h2.2 e
theorem cr_minD {X : Cx} (hc : X.calm = true) (hu : X.A.units + 64 < cLine) : CallR X (.builtin "min") (rMinD X.K) := by
  intro pins s σ H vs us Q I rv h
  obtain ⟨a, xs, d, ds, P, rfl, hs, ew, hd, hn, hal, hsh, hdp, q⟩ := h
  rw [Vals.ref1 rv]
  obtain ⟨its, rv2, hl, _⟩ := I.list hs
  have hp : DpAll X.K H xs (d :: ds) := dpAll_of _ _ hn (dnwAll_ex ew _ _ hd)
  obtain ⟨as, rd⟩ := Dp.readsAll I (d :: ds) xs its hp rv2
  have hxs : PyData.canLayAll0 (d :: ds) = true := SeqAt.canLay_of_shaped hsh
  refine PySem.W.min_list_data (I.ok.hd hc) hl.isList (vs := its.toArray) (by simpa using rd) hal (by omega) fun i v h' tk bs hv r hk => ?_
  have hmap : its.map (SeqAt.readOf s.heap) = d :: ds := SeqAt.readsAll_map (d :: ds) its as hxs rd
  have hv2 : its[i]? = some v := by simpa using hv
  have il : i < its.length := (List.getElem?_eq_some_iff.mp hv2).1
  have e2 : (d :: ds)[i]? = some (SeqAt.readOf s.heap v) := by
    rw [← hmap, List.getElem?_map, hv2]
    rfl
  obtain ⟨bs2, r2⟩ : ∃ bs, Reads s.heap v (SeqAt.readOf s.heap v) bs := by
    obtain ⟨bs, r3, b1, b2, b3⟩ := PySem.W.readsAll_at rd i v hv2
    rw [List.getD_eq_getElem?_getD, e2] at r3
    exact ⟨bs, r3⟩
  have e3 : SeqAt.readOf s.heap v = PySem.W.minD d ds := by
    have c1 : (SeqAt.readOf s.heap v).canLay0 = true := lay_mem hxs (List.mem_of_getElem? e2)
    have c2 : (PySem.W.minD d ds).canLay0 = true := lay_mem hxs (min_mem d ds)
    have r4 : Reads h' v (SeqAt.readOf s.heap v) bs2 := PySem.W.reads_keeps hk r2
    rw [← SeqAt.readOf_eq c1 r4, SeqAt.readOf_eq c2 r]
  rw [e3] at e2
  obtain ⟨w, hw1, hw2⟩ := dnAll_get hd e2
  obtain ⟨u, hu1, hu2⟩ := Vals.get rv2 hw1
  rw [hv2] at hu1
  cases Option.some.inj hu1
  exact ⟨w, H, I.kept hk, hu2, q w hw2⟩
section
variable {X : Cx} {N : Ent} {ρ ρ' : Rho} {M M1 M2 M3 : Mem} {a b c e : Expr} {pos p : Pos} {i j k : It} {Z : Post} {rest : List Stmt}
/-- xs.count(y), xs one's own -/
theorem ej_countO {ap epos : Pos} {o : Addr} {ds : List PyData} {d : PyData} (hu : X.A.units + 65 < cLine) (ho : EJ X N ρ M a (.v (.ref o)) M1) (hm1 : (o, ds.map It.d) ∈ M1) (he : EJ X N ρ M1 e (.d d) M2) (hm : (o, ds.map It.d) ∈ M2) (s1 : plainD (.list ds) = true) (s2 : plainD d = true)
    (hst : starEach [e] X.env = [(false, eval e X.env)] := by rfl) (ps : PE X (.Call (.Attribute a "count" ap) [e] [] epos) (tBM X.K "list" (rCountD X.K) (wE X a) (wA X [e])) := by exact pe_bm PySem.F.plainAttrs_list PySem.F.slot_list_count PySem.F.type_list_count (mt_countD (by assumption)) pe_w pa_w) :
    EJ X N ρ M (.Call (.Attribute a "count" ap) [e] [] epos) (dI ((ds.countP fun z => PyData.eqv z d : Nat) : Int)) M2 := fun σ H P hh g Q q =>
  e_of ps (ho σ H P hh g _ fun x H1 P1 e1 h1 r1 => by
    cases (show x = .ref o from r1)
    obtain ⟨ys, e3, _⟩ := h1.cell hm1
    refine ⟨.inl ⟨rfl, ys, .inl (.inl e3)⟩, ?_⟩
    refine aj_cons he aj_nil hst σ H1 P1 h1 (g.ex e1) _ fun vs H2 P2 e2 h2 r2 => ?_
    obtain ⟨z, rfl, r3⟩ := ri1 r2
    have k1 := Bool.and_eq_true_iff.mp s1
    have k2 := Bool.and_eq_true_iff.mp s2
    have d1 : Dn H2 (.ref o) (.list ds) := Rd1.dn h2 (i := .v (.ref o)) rfl (.own hm)
    exact ⟨o, z, d, ds, rfl, rfl, dp_of _ _ k1.1 d1, dp_of _ _ k2.1 (dnw_ex h2.exw _ _ r3), k1.2, k2.2, q _ H2 P2 (e1.trans e2) h2 (.int _)⟩)
/-- xs.extend(ys), xs one's own, ys data -/
theorem sj_extL {ap epos : Pos} {p : Addr} {is is0 : List It} {ds : List PyData} (ho : EJ X N ρ M a (.v (.ref p)) M) (hm0 : (p, is0) ∈ M) (he : EJ X N ρ M e (.d (.list ds)) M1) (hm : (p, is) ∈ M1) (hz : is.length + ds.length ≤ 100000) (hr : SJ X N ρ (M1.put p (is ++ ds.map It.d)) rest Z) (hs : swapsWith (.Call (.Attribute a "extend" ap) [e] [] pos) none epos.line X.env = pure false := by rfl)
    (hst : starEach [e] X.env = [(false, eval e X.env)] := by rfl) (ps : PE X (.Call (.Attribute a "extend" ap) [e] [] pos) (tBM X.K "list" rExtend (wE X a) (wA X [e])) := by exact pe_bm PySem.F.plainAttrs_list PySem.F.slot_list_extend PySem.F.type_list_extend mt_extend pe_w pa_w) : SJ X N ρ M (.Expr (.Call (.Attribute a "extend" ap) [e] [] pos) epos :: rest) Z := sj_cons fun σ H P hh g D E tk z => by
  refine s_of (ps_expr ps hs) (ho σ H P hh g _ fun v H1 P1 e1 h1 r1 => ?_)
  cases (show v = .ref p from r1)
  obtain ⟨ys, ey, _⟩ := h1.cell hm0
  refine ⟨.inl ⟨rfl, ys, .inl (.inl ey)⟩, ?_⟩
  refine aj_cons he aj_nil hst σ H1 P1 h1 (g.ex e1) _ fun vs H2 P2 e2 h2 r2 => ?_
  obtain ⟨y, rfl, r3⟩ := ri1 r2
  obtain ⟨xs, e3, r4⟩ := h2.cell hm
  obtain ⟨b, zs, rfl, h5, h6⟩ := ri_lst r3
  refine ⟨p, b, xs, zs, rfl, rfl, e3, h2.ex _ _ h5, by rw [r4.len, dnAll_len h6]; exact Nat.le_trans hz (by decide), ?_⟩
  exact z.nx ρ _ σ _ P2 hr (e1.trans e2) (h2.write hm (r4.app (RepIs.of_all h6))) (g.ex (e1.trans e2))
/-- min of a list of one's own -/
theorem ej_minOD {p q : Pos} {o : Addr} {d : PyData} {ds : List PyData} (hc : X.calm = true) (hu : X.A.units + 64 < cLine) (hm : X.mg "min" = none) (ha : EJ X N ρ M a (.v (.ref o)) M1) (hM : (o, (d :: ds).map It.d) ∈ M1) (s1 : plainD (.list (d :: ds)) = true) (hal : PySem.W.AlikeAll (d :: ds)) (hdp : PyData.depthAll (d :: ds) ≤ 60)
    (hg : Gl X "min" := by rfl) (he : starEach [a] X.env = [(false, eval a X.env)] := by rfl) (hpl : (backTo q (starEach ([] : List Expr) X.env)).any (·.1) = false := by rfl) :
    EJ X N ρ M (.Call (.Name "min" p) [a] [] q) (.d (PySem.W.minD d ds)) M1 := ej_callB (cr_minD hc hu) hm (by decide +kernel) (aj_cons ha aj_nil he) (fun vs H P h rr Q q => by
  obtain ⟨x, rfl, r⟩ := ri1 rr
  cases (show x = .ref o from r)
  obtain ⟨ys, h3, h4⟩ := h.cell hM
  have k1 := Bool.and_eq_true_iff.mp s1
  exact ⟨o, ys, d, ds, P, rfl, .inl (.inl h3), h.exw, h4.to_all, k1.1, hal, k1.2, hdp, fun v hv => q _ H P (Ex.refl P) h hv⟩) hg (by decide) (by decide) he hpl
end
end Kt

/-! Kup: xs[k] = e with any whole k -/
namespace Kt
open PySem PySem.Spec PyProof PyProof.Rows L2
section
variable {X : Cx} {N : Ent} {ρ : Rho} {M M1 M2 : Mem} {e : Expr} {i : It} {pos : Pos} {Z : Post} {rest : List Stmt}
theorem sj_setZ {o x : Expr} {spos : Pos} {p : Addr} {is : List It} {n : Nat} {z : Int} (he : EJ X N ρ M e i M1) (ho : EJ X N ρ M1 o (.v (.ref p)) M1) (hx : EJ X N ρ M1 x (dI z) M2) (hm : (p, is) ∈ M2) (hn : ixN is.length z = some n) (hr : SJ X N ρ (M2.put p (is.set n i)) rest Z)
    (ha : ∀ v, assign (.Subscript o x spos) X.env v = (do
      let ov ← holding [v] (eval o X.env)
      let iv ← holding [v, ov] (eval x X.env)
      standAt spos
      holding [v, ov, iv] (setItem ov iv v)
      release [v, ov, iv] []) := by intro _; rfl)
    (hs : swapsWithSole [.Subscript o x spos] e pos.line X.env = pure false := by rfl) (hw : swappedStores [.Subscript o x spos] e X.env = pure none := by rfl)
    (h1 : (assignEach [.Subscript o x spos] X.env).map (·.2) = [assign (.Subscript o x spos) X.env] := by rfl) : SJ X N ρ M (.Assign [.Subscript o x spos] e pos :: rest) Z := sj_cons fun σ H P hh g D E tk z0 => by
  refine s_of (ps_asg pe_w (pg_sub pe_w pe_w set_list ha) hs hw h1) (he σ H P hh g _ fun v H1 P1 e1 h1 r1 => ho σ H1 P1 h1 (g.ex e1) _ fun ov H2 P2 e2 h2 r2 => hx σ H2 P2 h2 (g.ex (e1.trans e2)) _ fun iv H3 P3 e3 h3 r3 => ?_)
  obtain ⟨xs, e4, r4⟩ := h3.cell hm
  have z4 := r4.len
  refine ⟨p, xs, z, n, r2, ri_int r3, e4, by rw [z4]; exact hn, ?_⟩
  exact z0.nx ρ _ σ _ P3 hr ((e1.trans e2).trans e3) (h3.write hm (r4.set ((r1.ex e2).ex e3) n)) (g.ex ((e1.trans e2).trans e3))
end
end Kt
namespace Kt
open PySem PySem.Spec PyProof PyProof.Rows L2
section
variable {X : Cx} {ρ : Rho} {M M1 : Mem} {Θ : Os} {a tg : Expr}
theorem io_range {p rp : Pos} {m : Int} (hmr : X.mg "range" = none) (ha : ∀ N, KnT N Θ → EJ X N ρ M a (dI m) M1) (hb : -(2 ^ 62) ≤ m ∧ m < 2 ^ 62) (hg : Gl X "range" := by rfl) (hs : starEach [a] X.env = [(false, eval a X.env)] := by rfl) :
    IAO X ρ M Θ tg (.Call (.Name "range" p) [a] [] rp) ((List.range m.toNat).map fun k : Nat => .int (k : Int)) M1 := by
  refine ⟨_, pi_range1 hg hmr pa_w hs, fun N kn σ H P hh g R q => ?_⟩
  refine aj_cons (ha N kn) aj_nil hs σ H P hh g _ fun vs H1 P1 e1 h3 r1 => ?_
  obtain ⟨x, rfl, r2⟩ := ri1 r1
  cases ri_int r2
  have zl : ((List.range m.toNat).map fun k : Nat => PyData.int (k : Int)).length = m.toNat := by simp
  refine ⟨m, rfl, hb.1, hb.2, q _ H1 P1 e1 h3 ⟨fun n N H P' M' hi h2 e2 => ?_, fun N H P' M' h2 e2 => ?_, fun n N H v H' P' M' hi h2 e2 y => ?_⟩⟩
  · rw [zl] at hi
    have : m - 0 = m := by omega
    first | exact hi | (simp; omega)
  · rw [zl]
    first | exact Nat.le_refl _ | (simp)
  · rw [zl] at hi
    obtain ⟨rfl, rfl⟩ := y
    refine ⟨P', _, by rw [List.getElem?_map, List.getElem?_range hi]; rfl, Ex.refl _, h2, ?_⟩
    have : (0 : Int) + (n : Int) = (n : Int) := by omega
    rw [this]
    exact .int _
end
end Kt

/-! Kuq: the law where the caller calls it: nothing is under repr there; repr of data -/
namespace Kt
open PySem PySem.Spec PyProof PyProof.Rows L2
/-- what the def does when the caller calls it -/
def RunAt (P : Program) (w : World) (K : PySem.W.Frag) (mg : Str → Option Value) (base : Heap) (f : Addr) (fd : FuncData) (ps : List Str) (sp : Sp) : Prop :=
  ∀ (s : Shared) (H : Hp) (args : Args) (us : List Value) (vs : List V) (Q : VK) (E : XK), Env0 P w K mg base callerA [] s H → BindsTo s fd args (ps.zip us) → Vals vs us → sp vs H Q E →
    codeAny (model P w) callerA (.call (.ref f) args) (CR CX0 [] P w H s Q E) s
theorem room_c {k : Nat} (hk : k ≤ 40) : Room k callerA := by
  have h : Room 40 callerA := ⟨rfl, by decide, by decide⟩
  exact h.mono hk
theorem run_at {P : Program} {w : World} {K : PySem.W.Frag} {mg : Str → Option Value} {base : Heap} {x qual : Str} {st : Stmt} {f : Addr} {fd : FuncData} {NN ps : List Str} {k : Nat} {sp : Sp} (hk : k + 1 ≤ 40) (F : Fun K x qual st f fd) (S : FnScope NN ps (defScope st)) (len : ∀ vs H Q E, sp vs H Q E → vs.length = ps.length)
    (body : ∀ (cdv : Value) (s : Shared) (H : Hp) (vs : List V) (Q : VK) (E : XK), Room k (callerA.deeper (envOfC qual (defScope st) s.heap.objs.size f cdv)) → sp vs H Q E →
      ∃ t, PSs (cxOf CX0 P w K mg base NN qual (defScope st) f cdv callerA [] s H E).nox (defBody st) t ∧ t { nx := fun _ H' => Q .non H', rt := Q } (start NN vs) H) : RunAt P w K mg base f fd ps sp := by
  intro s H args us vs Q E e0 hb rv hsp
  obtain ⟨oc, od, kV, doc, pm, an, cdv, ct, osl, rfl, lk, hcd⟩ := F.ex
  have R1 : Room (k + 1) callerA := room_c hk
  have up : ∀ b o, base.get? b = some o → s.heap.get? b = some o := fun b o q => (e0.bs b o q).1
  have kin := e0.mod.kin.keeps up
  have nol := e0.mod.nolimit.keeps up
  have kinds : ∀ y ∈ ps.zip us, (defScope st).names.lookup y.1 = some .local ∨ ((defScope st).names.lookup y.1 = some .cell ∧ ((cellsFrom (s.heap.objs.size + 1) (defScope st).names []).lookup y.1).isSome = true) := by
    intro y hy
    obtain ⟨n, v⟩ := y
    rcases S.par n (List.of_mem_zip hy).1 with a | a
    · exact Or.inl a
    · exact Or.inr ⟨a, PySem.W.cellsFrom_some _ _ _ (Or.inl a)⟩
  refine codeAny_call_function (R1.depth) (kin _ _ lk) rfl S.co S.gen rfl (PySem.W.codeRec_of kin hcd) (hb _ _ _ _ ?_)
  refine wpAny_newFunctionEnv_cells S.kind kinds ?_
  intro env he s1 y
  subst he
  refine ⟨nol.keeps y.toInCall.keep, ?_⟩
  refine codeAny_func ?_
  obtain ⟨t, T0, q⟩ := body cdv s H vs Q E (R1.deeper _) hsp
  have T := T0.nox
  have J0 := inv_start S R1.hd e0 (len _ _ _ _ hsp) rv y (E := E) (CX := CX0)
  refine wpAny_mono (T.run [] s1 _ H _ J0 q) ?_ fun _ _ a => a
  intro fl s2 hs
  have close : ∀ {σ' : L2.St} {H' : Hp} {v : V} {u : Value}, Inv (cxOf CX0 P w K mg base NN qual (defScope st) f cdv callerA [] s H E) [] σ' H' s2 → RelV v u → Q v H' → CE [] P w H s Q u s2 := by
    intro σ' H' v u J a b
    exact ⟨v, H', J.os, J.bare, J.base, J.hok, a, b⟩
  match fl, hs with
  | .ret u, ⟨v, σ', H', J, a, b⟩ => exact close J a b
  | .next, ⟨σ', H', J, b⟩ => exact close (v := V.non) (u := Value.none) J rfl b
  | .brk, ⟨_, _, _, b⟩ => exact absurd b id
  | .cont, ⟨_, _, _, b⟩ => exact absurd b id
end Kt
namespace Kt
open PySem PySem.Spec PyProof PyProof.Rows L2
section
variable {P : Program} {w : World} {K : PySem.W.Frag} {mg mb : Str → Option Value} {fa a : Addr} {fd : FuncData} {x : Str} {sp : Sp} {s1 : Shared} {vs : List Value} {ns : List Int}
/-- over a heap in which at most the script is tracked -/
theorem law_over {H : Hp} (hO : Only H) (hS : SqL K H a (ns.map V.int)) (hok : HOk P w H s1.heap) (one : ∀ b, H b ≠ none → b = a) (own : H a ≠ none → K.lookup a = none)
    (kin : K.In s1.heap) (gl : s1.heap.Ns mainGlobals mg) (bt : s1.heap.Ns builtinsNs mb) (bb : ∀ x : Str, x ≠ "__name__" → mb x = bootBuiltins x) (nl : s1.heap.NoLimit) (gn : s1.gens = #[])
    (ho : s1.heap.get? a = some { cls := .type "list", data := .seq vs.toArray })
    (F : ∀ base : Heap, K.In base → base.Ns mainGlobals mg → RunAt P w K mg base fa fd [x] sp) (bind : ∀ (s : Shared) (u : Value), BindsTo s fd ⟨[u], []⟩ [(x, u)])
    (hsp : sp [.ref a] H (fun v _ => v = .bl true) fun _ _ _ => False) :
    codeAny (model P w) callerA (.call (.ref fa) ⟨[.ref a], []⟩) (fun r s2 => r = .ok (.ret (.bool true)) ∧ OldK s1.heap s2.heap ∧ s2.os = s1.os ∧ AllBare s2.gens) s1 := by
  have hid : ∀ {b : Addr} {o : Obj}, s1.heap.get? b = some o → (b = a → H a = none) → (hidT s1.heap H).get? b = some o := fun {b o} e n => hidT_get e (by
    cases q : H b with
    | none => rfl
    | some u =>
      have e2 : b = a := one b (by rw [q]; exact Option.some_ne_none u)
      rw [e2, n e2] at q
      cases q)
  have dct : ∀ {b : Addr} {m : Str → Option Value}, s1.heap.Ns b m → (hidT s1.heap H).Ns b m := by
    rintro b m ⟨o, es, ep, e, d, r⟩
    refine ⟨o, es, ep, hid e fun e2 => ?_, d, r⟩
    subst e2
    rw [ho] at e
    cases e
    exact absurd (show Data.seq vs.toArray _ = Data.dict es ep from d) (fun k => by cases k)
  have kin2 : K.In (hidT s1.heap H) := fun b o e => hid (kin b o e) fun e2 => by
    subst e2
    cases q : H b with
    | none => rfl
    | some u =>
      rw [own (by rw [q]; exact Option.some_ne_none u)] at e
      cases e
  have md : Mod K mg (hidT s1.heap H) := by
    obtain ⟨mc, l1, l2⟩ := nl
    exact ⟨kin2, dct gl, ⟨mb, dct bt, bb⟩, ⟨mc, dct l1, l2⟩⟩
  have e0 : Env0 P w K mg (hidT s1.heap H) callerA [] s1 H := by
    refine ⟨rfl, md, fun b o e => of_hidT e, Nat.le_of_eq (hidT_size _ _), trivial, fun b hb => ?_, hok, .of_eq gn⟩
    exact absurd hb List.not_mem_nil
  refine codeAny_mono (F _ kin2 (dct gl) s1 H ⟨[.ref a], []⟩ [.ref a] [.ref a] _ _ e0 (bind s1 (.ref a)) (.cons rfl .nil) hsp) ?_
  intro r s2 h
  match r, h with
  | .error e, h => exact absurd h (by
      intro k
      exact k)
  | .ok .next, h => exact absurd h id
  | .ok .brk, h => exact absurd h id
  | .ok .cont, h => exact absurd h id
  | .ok (.ret u), h =>
    obtain ⟨v, H2, os, bare, un, hok2, rv, hv⟩ := h
    have hv : v = .bl true := hv
    subst hv
    obtain rfl : u = Value.bool true := rv
    refine ⟨rfl, OldK.of_keep ?_, os, bare⟩
    intro b o e
    cases q : H b with
    | none => exact un.keep b o e q (by intro z; exact absurd z List.not_mem_nil) (by simp)
    | some t =>
      rcases hO b with z | ⟨ob, xs, z⟩
      · rw [z] at q
        cases q
      · obtain ⟨g1, _⟩ := hok b _ z
        obtain ⟨g2, _⟩ := hok2 b _ (un.frzs b ob _ z)
        rw [e] at g1
        cases g1
        exact g2
theorem law_at (kin : K.In s1.heap) (gl : s1.heap.Ns mainGlobals mg) (bt : s1.heap.Ns builtinsNs mb) (bb : ∀ x : Str, x ≠ "__name__" → mb x = bootBuiltins x) (nl : s1.heap.NoLimit) (gn : s1.gens = #[])
    (ho : s1.heap.get? a = some { cls := .type "list", data := .seq vs.toArray }) (hi : IntsAre vs ns) (hl : ns.length ≤ sizeLine)
    (F : ∀ base : Heap, K.In base → base.Ns mainGlobals mg → RunAt P w K mg base fa fd [x] sp) (bind : ∀ (s : Shared) (u : Value), BindsTo s fd ⟨[u], []⟩ [(x, u)])
    (hsp : ∀ H : Hp, Only H → SqL K H a (ns.map V.int) → sp [.ref a] H (fun v _ => v = .bl true) fun _ _ _ => False) :
    codeAny (model P w) callerA (.call (.ref fa) ⟨[.ref a], []⟩) (fun r s2 => r = .ok (.ret (.bool true)) ∧ OldK s1.heap s2.heap ∧ s2.os = s1.os ∧ AllBare s2.gens) s1 := by
  have rv := vals_ints hi
  cases hk : K.lookup a with
  | some o =>
    have e := kin a o hk
    rw [ho] at e
    cases e
    have S : SqL K (fun _ => none) a (ns.map V.int) := .inr ⟨_, vs.toArray, _, hk, rfl, rfl, rfl, by rw [List.size_toArray, hi.length]; exact hl, by simpa using rv⟩
    exact law_over (H := fun _ => none) (fun _ => .inl rfl) S (fun b u z => absurd z (by simp)) (fun b z => absurd rfl z) (fun z => absurd rfl z) kin gl bt bb nl gn ho F bind (hsp _ (fun _ => .inl rfl) S)
  | none =>
    obtain ⟨T, hT⟩ : ∃ T : HO, T = .frz { cls := .type "list", data := .seq vs.toArray } (.lst (ns.map V.int)) := ⟨_, rfl⟩
    have O : Only (fun b => if b = a then some T else none) := fun b => by
      by_cases e : b = a
      · exact .inr ⟨_, _, (if_pos e).trans (congrArg some hT)⟩
      · exact .inl (if_neg e)
    have S : SqL K (fun b => if b = a then some T else none) a (ns.map V.int) := .inl (.inr ⟨_, (if_pos rfl).trans (congrArg some hT)⟩)
    refine law_over (H := fun b => if b = a then some T else none) O S (fun b u z => ?_) (fun b z => ?_) (fun _ => hk) kin gl bt bb nl gn ho F bind (hsp _ O S)
    · by_cases e : b = a
      · have z : some T = some u := (if_pos e).symm.trans z
        cases z
        subst e
        rw [hT]
        exact ⟨ho, by rw [List.length_map]; exact hl, vs, _, rv, ho⟩
      · have z : none = some u := (if_neg e).symm.trans z
        cases z
    · by_cases e : b = a
      · exact e
      · exact absurd (if_neg e) z
end
theorem walk_at {l : PySem.W.OpenLaw} {n : Nat} {q : Program} {loose : List Str} {XP : (Str → Option Value) → Heap → Prop} {YP : World → Heap → Prop} {d : DefRec} {K : Params → PySem.W.Frag} {sp : World → Sp} {x : Str}
    (hn : l.most = some n) (hn2 : n ≤ sizeLine) (hdf : d.params.defaults = [])
    (hY : ∀ (w : World) (h : Heap), YP w h → (K w.params).In h)
    (F : ∀ (w : World) (mg : Str → Option Value) (fa : Addr) (h : Heap), (K w.params).In h → h.Ns mainGlobals mg → mg d.name = some (.ref fa) →
      ∃ fd : FuncData, (∀ (s : Shared) (u : Value), BindsTo s fd ⟨[u], []⟩ [(x, u)]) ∧ ∀ base : Heap, (K w.params).In base → base.Ns mainGlobals mg → RunAt l.prog w (K w.params) mg base fa fd [x] (sp w))
    (hsp : ∀ (w : World) (H : Hp) (a : Addr) (ns : List Int), ns.length ≤ n → Only H → SqL (K w.params) H a (ns.map V.int) → sp w [.ref a] H (fun v _ => v = .bl true) fun _ _ _ => False) :
    PySem.W.WalkO q loose XP YP l.row.toRowW d [] (fun f vs => PySem.call f vs) := by
  refine Att.attach_call hn hdf ?_
  intro w s₀ s₁ mg mb fa o pm cd doc a vs ns G Y _ _ _ hmg hobj hints hlen hg
  obtain ⟨fd, bind, R⟩ := F w mg fa _ (hY w _ Y) G.T.g hmg
  exact law_at (hY w _ Y) G.T.g G.T.b G.T.builtins G.T.nolimit hg hobj hints (Nat.le_trans hlen hn2) R bind fun H hO hS => hsp w H a ns hlen hO hS
/-- the law, at its call: nothing is under repr -/
theorem lawG_ok {P : Program} {w : World} {K : PySem.W.Frag} {mg : Str → Option Value} {base : Heap} {st : Stmt} {f : Addr} {fd : FuncData} {NN : List Str} {l : Nat} (hk : l + 1 ≤ 40) (F : Fun K "law" "law" st f fd) (S : FnScope NN ["script"] (defScope st))
    (body : ∀ X : Cx, (∃ cdv A outer s H E, X = (cxOf CX0 P w K mg base NN "law" (defScope st) f cdv A outer s H E).nox ∧ Room l X.A ∧ X.A.guards = some []) → ∀ N a ns, N.F = [] → ns.length ≤ 63 → SJ X N (rho NN [scr K a ns]) [] (defBody st) { nx := fun _ _ => False, rt := fun i _ => i = dB true }) : RunAt P w K mg base f fd ["script"] (spLaw K) := by
  refine run_at hk F S (fun vs H Q E h => ?_) (fun cdv s H vs Q E hr h => ?_)
  · obtain ⟨a, ns, rfl, _⟩ := h
    rfl
  · obtain ⟨a, ns, rfl, hS, hl, nz, q⟩ := h
    refine ⟨_, pss_w, ?_⟩
    have h0 : Holds (inner H H []) H H [] := ⟨(Ex.refl H).w, Ex.refl H, fun _ _ e _ => e, fun _ e f => absurd e f, fun _ hc => absurd hc (List.not_mem_nil), List.nodup_nil, fun _ ha => ha, fun _ hc => absurd hc (List.not_mem_nil), fun _ _ _ e => e, nz⟩
    have es : L2.start NN [V.ref a] = ([V.ref a] : List V).map some ++ List.replicate (NN.length - ([scr K a ns] : List It).length) none := rfl
    rw [es]
    refine body _ ⟨cdv, callerA, [], s, H, E, rfl, hr, rfl⟩ (inner H H []) a ns rfl hl _ H H h0 (slots_start (vs := [V.ref a]) (is := [scr K a ns]) _ ⟨⟨rfl, hS⟩, trivial⟩) _ E0 takes0 ⟨fun _ _ _ _ _ a => a.elim, fun i' M'' v H' P' e _ hh rr => ?_, fun _ _ _ _ _ a => a.elim, fun _ _ _ _ _ a => a.elim, fun _ _ _ _ _ _ _ a => a.elim⟩
    subst e
    rw [ri_bl rr]
    exact q H'
end Kt
namespace Kt
open PySem PySem.Spec PyProof PyProof.Rows L2
/-- data that repr can write: depth, bulk -/
inductive PR : Nat → Nat → PyData → Prop
  | non {n W : Nat} : PR n W .none
  | bl {n W : Nat} (b : Bool) : PR n W (.bool b)
  | int {n W : Nat} (i : Int) (h : i.natAbs < 10 ^ 39) : PR n W (.int i)
  | str {n W : Nat} (x : Str) (h : ∀ c ∈ x.cps.toList, c < 16 ^ 8) (hl : x.cps.size ≤ W) : PR n W (.str x)
  | lst {n W L Z : Nat} (l : List PyData) (hl : l.length ≤ L) (h : ∀ x ∈ l, PR n W x) (hz : L * (W + 1) ≤ Z) : PR (n + 1) Z (.list l)
  | tup {n W L Z : Nat} (l : List PyData) (hl : l.length ≤ L) (h : ∀ x ∈ l, PR n W x) (hz : L * (W + 1) ≤ Z) : PR (n + 1) Z (.tuple l)
structure PROk (n W : Nat) (d : PyData) : Prop where
  sh : d.showable = true
  nd : d.hasDict = false
  no : noDict d = true
  ls : PyData.leavesShort 40 d = true
  wt : d.bulk ≤ W
  dp : d.depth ≤ n
structure PRAll (n W : Nat) (l : List PyData) : Prop where
  sh : PyData.showableAll l = true
  nd : PyData.hasDictAll l = false
  no : noDicts l = true
  ls : PyData.leavesShortAll 40 l = true
  wt : PyData.bulkAll l ≤ l.length * (W + 1)
  dp : PyData.depthAll l ≤ n
theorem pr_all {n W : Nat} : ∀ {l : List PyData}, (∀ x ∈ l, PROk n W x) → PRAll n W l
  | [], _ => ⟨rfl, rfl, rfl, rfl, Nat.zero_le _, Nat.zero_le _⟩
  | x :: l, h => by
    have a := h x List.mem_cons_self
    have b := pr_all (l := l) fun y hy => h y (List.mem_cons_of_mem _ hy)
    refine ⟨?_, ?_, ?_, ?_, ?_, ?_⟩
    · show (x.showable && PyData.showableAll l) = true
      rw [a.sh, b.sh]
      rfl
    · show (x.hasDict || PyData.hasDictAll l) = false
      rw [a.nd, b.nd]
      rfl
    · show (noDict x && noDicts l) = true
      rw [a.no, b.no]
      rfl
    · show (PyData.leavesShort 40 x && PyData.leavesShortAll 40 l) = true
      rw [a.ls, b.ls]
      rfl
    · show x.bulk + 1 + PyData.bulkAll l ≤ (l.length + 1) * (W + 1)
      have := a.wt
      have := b.wt
      rw [Nat.succ_mul]
      omega
    · show max x.depth (PyData.depthAll l) ≤ n
      have := a.dp
      have := b.dp
      omega
theorem int_short {i : Int} (h : i.natAbs < 10 ^ 39) : (PyData.shown (.int i)).length ≤ 40 := by
  have := int_text_length_le10 (k := 39) (by decide) h
  have e : (PyData.shown (.int i)) = Str.ofString (toString i) := by simp only [PyData.shown]
  rw [e, PySem.ofString_length]
  exact this
theorem log_short {i : Int} (h : i.natAbs < 10 ^ 39) : i.natAbs.log2 < 1920 := by
  by_cases z : i.natAbs = 0
  · rw [z]; decide
  · have h1 : (10 : Nat) ^ 39 ≤ 2 ^ 130 := by decide +kernel
    exact Nat.lt_of_lt_of_le ((Nat.log2_lt z).mpr (Nat.lt_of_lt_of_le h h1)) (by decide)
theorem pr_ok {n W : Nat} {d : PyData} (h : PR n W d) : PROk n W d := by
  induction h with
  | non => exact ⟨rfl, rfl, rfl, rfl, Nat.zero_le _, Nat.zero_le _⟩
  | bl b => exact ⟨rfl, rfl, rfl, rfl, Nat.zero_le _, Nat.zero_le _⟩
  | int i hi => exact ⟨decide_eq_true (log_short hi), rfl, rfl, decide_eq_true (int_short hi), Nat.zero_le _, Nat.zero_le _⟩
  | str x h hl => exact ⟨rfl, rfl, rfl, List.all_eq_true.mpr fun c hc => decide_eq_true (h c hc), hl, Nat.zero_le _⟩
  | lst l hl _ hz ih =>
    have a := pr_all ih
    exact ⟨a.sh, a.nd, a.no, a.ls, Nat.le_trans a.wt (Nat.le_trans (Nat.mul_le_mul_right _ hl) hz), by show PyData.depthAll l + 1 ≤ _; have := a.dp; omega⟩
  | tup l hl _ hz ih =>
    have a := pr_all ih
    exact ⟨a.sh, a.nd, a.no, a.ls, Nat.le_trans a.wt (Nat.le_trans (Nat.mul_le_mul_right _ hl) hz), by show PyData.depthAll l + 1 ≤ _; have := a.dp; omega⟩
def rRepr (K : PySem.W.Frag) : List V → Hp → VK → Prop := fun vs H Q => ∃ (a : Addr) (d : PyData) (W : Nat), vs = [.ref a] ∧ Dp K H (.ref a) d ∧ PROk 60 W d ∧ W ≤ 300000 ∧ Q (.str d.shown) H
theorem cr_repr {X : Cx} (hg : X.A.guards = some []) (hu : X.A.units + 64 < cLine) : CallR X (.builtin "repr") (rRepr X.K) := by
  intro pins s σ H vs us Q I rv h
  obtain ⟨a, d, W, rfl, hd, ok, hW, q⟩ := h
  rw [Vals.ref1 rv]
  obtain ⟨as, r⟩ := Dp.reads I d (.ref a) (.ref a) hd rfl
  have sz : d.shown.length ≤ sizeLine := by
    have h1 := PyData.shown_le_bulk 40 (by decide) d ok.ls
    have h2 := ok.wt
    rw [sizeLine_eq]
    omega
  have dp := ok.dp
  refine repr_of_reads' (s := s) (h₀ := s.heap) r ok.sh (fun e => by rw [ok.nd] at e; cases e) hg (by omega) (fun _ _ e => e) (fun h' u tk hk => ?_) sz
  exact ⟨.str d.shown, H, I.kept hk, ⟨u, rfl⟩, q⟩
section
variable {X : Cx} {N : Ent} {ρ : Rho} {M M1 M2 : Mem} {a b : Expr} {pos : Pos}
theorem ej_repr {p q : Pos} {d : PyData} {W : Nat} (hg0 : X.A.guards = some []) (hu : X.A.units + 64 < cLine) (hm : X.mg "repr" = none) (ha : EJ X N ρ M a (.d d) M1) (ok : PROk 60 W d) (hW : W ≤ 300000) (hl : (∃ l, d = .list l) ∨ ∃ l, d = .tuple l)
    (hg : Gl X "repr" := by rfl) (he : starEach [a] X.env = [(false, eval a X.env)] := by rfl) (hpl : (backTo q (starEach ([] : List Expr) X.env)).any (·.1) = false := by rfl) :
    EJ X N ρ M (.Call (.Name "repr" p) [a] [] q) (.d (.str d.shown)) M1 := ej_callB (cr_repr hg0 hu) hm (by decide +kernel) (aj_cons ha aj_nil he) (fun vs H P h rr Q k => by
  obtain ⟨x, rfl, r⟩ := ri1 rr
  have dn : Dn H x d := dnw_ex h.exw _ _ r
  obtain ⟨y, rfl⟩ : ∃ y, x = .ref y := by
    rcases hl with ⟨l, rfl⟩ | ⟨l, rfl⟩
    · cases dn; exact ⟨_, rfl⟩
    · cases dn; exact ⟨_, rfl⟩
  exact ⟨y, d, W, rfl, dp_of _ _ ok.no dn, ok, hW, k _ H P (Ex.refl P) h (.str _)⟩) hg (by decide) (by decide) he hpl
end
section
variable {X : Cx} {N : Ent} {ρ : Rho} {M M1 M2 : Mem} {a b : Expr} {pos : Pos}
theorem rj_neS {s t : Str} : RJ N rNe M (.d (.str s)) (.d (.str t)) (dB (!decide (s = t))) M := fun x y H P h rx ry Q q => by
  cases ri_str rx
  cases ri_str ry
  refine ⟨rfl, q _ H P (Ex.refl P) h ?_⟩
  have e : decide (V.str s = V.str t) = decide (s = t) := by
    by_cases z : s = t
    · subst z; simp
    · simp [z]
  rw [e]
  exact .bl _
theorem tj_neS {s t : Str} (ha : EJ X N ρ M a (.d (.str s)) M1) (hb : EJ X N ρ M1 b (.d (.str t)) M2) : TJ X N ρ M (.Compare a [.NotEq] [b] pos) (!decide (s = t)) M2 := tj_cmp op_ne (nomark _) ha hb rj_neS
end
end Kt

/-! Kur: comprehensions of three clauses, clause by clause -/
namespace Kt
open PySem PySem.Spec PyProof PyProof.Rows L2
abbrev TB := L2.St → Hp → (Hp → Prop) → Prop
/-- what a clause's turn does behind its store, then k -/
structure PB (Y : Cx) (K : Sem Fin → Sem Fin) (vs : List Nat) (b : TB) : Prop where
  run : ∀ (pins : List (Addr × Obj)) (σ : L2.St) (H : Hp) (s : Shared) (N : Hp → Prop) (k : Sem Fin) (R : Fin → Shared → Prop), Inv Y pins σ H s → b σ H N →
    (∀ σ' H' s', Inv Y pins σ' H' s' → σ'.length = σ.length → (∀ (j : Nat) v, (wipe σ vs)[j]? = some (some v) → σ'[j]? = some (some v)) → N H' → wpAny (model Y.prog Y.w) Y.A k R (fun _ _ => False) s') →
    wpAny (model Y.prog Y.w) Y.A (K k) R (fun _ _ => False) s
/-- a clause's loop: its turns, by measure -/
def LV (vs : List Nat) (g : TG) (b : TB) (J : L2.It) (σ : L2.St) (Stop : Hp → Prop) (W : Nat → Nat → Hp → Prop) : Prop := ∀ i m H, W i m H →
  (J.stop i H ∧ Stop H) ∨ (J.go i H ∧ ∃ Nx : Hp → Prop, (∀ H', Nx H' → ∃ m', m' < m ∧ W (i + 1) m' H') ∧ ∀ x H', J.yld i H x H' → g x (wipe σ vs) H' fun σ2 H2 => wipe σ2 vs = wipe σ vs ∧ b σ2 H2 Nx)
section
variable {Y : Cx} {elt : Expr} {gens : List Comprehension} {scope : Scope} {pos : Pos} {t i : Expr} {c : Nat} {it : Addr} {acc : Value} {K : Sem Fin → Sem Fin} {vs vs1 : List Nat} {g : TG} {b : TB} {J : L2.It} {fp : List Addr} {tn : Nat → Heap → Prop} {pins : List (Addr × Obj)} {σ : L2.St} {Stop : Hp → Prop} {W : Nat → Nat → Hp → Prop} {m0 : Nat} {H0 : Hp} {s0 : Shared} {R : Result → Shared → Prop}
theorem wipe_sub {σ8 : L2.St} (hw : wipe σ8 vs = wipe σ vs) (hv : ∀ i ∈ vs1, i ∈ vs) {j : Nat} {v : V} (e : (wipe σ vs)[j]? = some (some v)) : (wipe σ8 vs1)[j]? = some (some v) := by
  rw [← hw] at e
  obtain ⟨e1, e2⟩ := wipe_some e
  rw [wipe_out fun z => e2 (hv j z)]
  exact e1
theorem loop_lvl (hc : Y.calm = true) (hx : Y.xe = fun _ _ => False)
    (eq : compTurn (.ListComp elt gens scope pos) c (.ref it) acc Y.env = (do
      standAt i.pos
      match ← pyNext (.ref it) with
      | none => pure (.done .next)
      | some v =>
        letOwnedTupleGo t (.ref it) v
        assign t Y.env v
        K (again (.compLoop (.ListComp elt gens scope pos) c (.ref it) acc Y.env))))
    (T : Turn Y.prog Y.w Y.K t J fp it tn) (pg : PG Y t g) (pb : PB Y K vs1 b) (hv : ∀ i ∈ vs1, i ∈ vs)
    (stat : ∀ {σ' : L2.St} {H' : Hp} {s' : Shared}, Inv Y pins σ' H' s' → (∀ b ∈ fp, H' b = none) → ∀ b ∈ fp, FpOk Y pins H' b)
    (I0 : Inv Y pins (wipe σ vs) H0 s0) (st0 : tn 0 s0.heap) (n0 : ∀ b ∈ fp, H0 b = none) (w0 : W 0 m0 H0) (turn : LV vs g b J σ Stop W)
    (hR : ∀ s' H', Inv Y pins (wipe σ vs) H' s' → Stop H' → R (.ok .next) s') : codeAny (model Y.prog Y.w) Y.A (.compLoop (.ListComp elt gens scope pos) c (.ref it) acc Y.env) R s0 := by
  refine codeAny_loop rfl (fun n s' => ∃ i H', Inv Y pins (wipe σ vs) H' s' ∧ tn i s'.heap ∧ (∀ b ∈ fp, H' b = none) ∧ W i n H') (fun n s5 hI => ?_) m0 ⟨0, H0, I0, st0, n0, w0⟩
  obtain ⟨i, H5, I5, st5, n5, w5⟩ := hI
  show wpAny _ Y.A ((compTurn (.ListComp elt gens scope pos) c (.ref it) acc Y.env).onRaise (fun x => do noteFrame x Y.env; theTreesLotGoes x)) _ _ s5
  refine wpAny_noted ?_
  rw [eq]
  refine wpAny_bind (wpAny_standAt (wpAny_bind ?_))
  rcases turn i n H5 w5 with ⟨stop, qq⟩ | ⟨go, Nx, hNx, step⟩
  · refine thnF (T.done Y rfl rfl rfl hc i pins s5 _ H5 (fun _ _ => False) I5 (stat I5 n5) st5 stop) fun r s6 ⟨hr, I6⟩ => ?_
    subst hr
    exact wpAny_pure (hR s6 H5 I6 qq)
  · refine thnF (T.item Y rfl rfl rfl hc i pins s5 _ H5 (fun _ _ => False) I5 (stat I5 n5) st5 go) fun r s6 ⟨u, hr, h6⟩ => ?_
    subst hr
    refine wpAny_bind (thnF h6 fun _ s7 ⟨x, H7, I7, r7, y7, st7, n7⟩ => ?_)
    have I7' := I7.pinned (stat I7 n7) (T.obj _ _ st7)
    have pr := pg.run _ s7 _ H7 x u _ I7' r7 (step x H7 y7)
    rw [hx] at pr
    refine wpAny_bind (thnF pr fun _ s8 ⟨σ8, H8, I8, hw8, q8⟩ => ?_)
    refine thnF (pb.run _ σ8 H8 s8 Nx _ _ I8 q8 fun σ9 H9 s9 I9 hl hk nx => wpAny_pure ⟨rfl, ?_⟩) fun _ _ z => z
    obtain ⟨m', hm, w'⟩ := hNx H9 nx
    have pin' : ∀ b ∈ fp, ∀ o, s7.heap.get? b = some o → s9.heap.get? b = some o ∧ H9 b = none := fun b hb o e =>
      let z := I9.pin (b, o) (List.mem_append_right _ (List.mem_append_right _ (mem_pinsAt hb e)))
      ⟨z.1, z.2.1⟩
    refine ⟨m', hm, i + 1, H9, I9.unpinned.weak ?_ (fun j v e => hk j v (wipe_sub hw8 hv e)), T.keep _ _ _ st7 fun b hb o e => (pin' b hb o e).1, fun b hb => ?_, w'⟩
    · rw [hl, ← hw8, wipe_length]
    · obtain ⟨o, e, _⟩ := T.obj _ _ st7 b hb
      exact (pin' b hb o e).2
end
section
variable {Y : Cx}
/-- the element, put behind the list -/
theorem pb_app {elt : Expr} {te : TE} {D : Addr} (hx : Y.xe = fun _ _ => False) (pe : PE Y elt te) : PB Y (fun k => do
      (do let _ ← call (.builtin "list.append") [.ref D, ← eval elt Y.env])
      k) [] (fun σ H N => te σ H fun y H7 => ∃ acc, H7 D = some (.lst acc) ∧ acc.length < sizeLine ∧ N (upd H7 D (.lst (acc ++ [y])))) := by
  refine ⟨fun pins σ H s N k R I h hk => ?_⟩
  have pr := pe.run _ s σ H _ I h
  rw [hx] at pr
  refine wpAny_bind (wpAny_bind (thnF pr fun z s1 ⟨yv, H1, I1, r1, acc, hD, hz, nx⟩ => ?_))
  refine wpAny_bind (app_ok I1 hD hz r1 fun s2 I2 => wpAny_pure (hk σ _ s2 I2 rfl (fun j v e => e) nx))
/-- the next clause, over its own source -/
theorem pb_down {elt : Expr} {gens : List Comprehension} {scope : Scope} {pos : Pos} {i : Expr} {c : Nat} {t : Expr} {acc : Value} {K : Sem Fin → Sem Fin} {vs vs1 : List Nat} {wi : TI} {g : TG} {b : TB} (hc : Y.calm = true) (hx : Y.xe = fun _ _ => False)
    (eq : ∀ it : Addr, compTurn (.ListComp elt gens scope pos) c (.ref it) acc Y.env = (do
      standAt i.pos
      match ← pyNext (.ref it) with
      | none => pure (.done .next)
      | some v =>
        letOwnedTupleGo t (.ref it) v
        assign t Y.env v
        K (again (.compLoop (.ListComp elt gens scope pos) c (.ref it) acc Y.env))))
    (start : ∀ (it : Addr) (s : Shared) (R : Result → Shared → Prop), codeAny (model Y.prog Y.w) Y.A (.compLoop (.ListComp elt gens scope pos) c (.ref it) acc Y.env) R s → wpAny (model Y.prog Y.w) Y.A (pyIter (.ref it)) (fun it' s' => codeAny (model Y.prog Y.w) Y.A (.compLoop (.ListComp elt gens scope pos) c it' acc Y.env) R s') (notedBy (model Y.prog Y.w) Y.A Y.env fun x s' => R (.error x) s') s → codeAny (model Y.prog Y.w) Y.A (.compStart (.ListComp elt gens scope pos) c (.ref it) acc Y.env) R s)
    (hs : ∀ x, foldedSetIterable i Y.env x = pure x) (pi : PI Y t i wi) (pg : PG Y t g) (pb : PB Y K vs1 b) (hv : ∀ i ∈ vs1, i ∈ vs) :
    PB Y (fun k => do
      let x ← eval i Y.env
      standAt i.pos
      let x ← foldedSetIterable i Y.env x
      let _ ← runOwn (.compStart (.ListComp elt gens scope pos) c (← holding [x] (pyIter x)) acc Y.env) Y.env
      k) vs (fun σ H N => wi σ H fun J H1 => ∃ W : Nat → Nat → Hp → Prop, (∃ m, W 0 m H1) ∧ LV vs g b J σ N W) := by
  refine ⟨fun pins σ H s N k R I h hk => ?_⟩
  have pr := pi.run pins s σ H _ I h
  rw [hx] at pr
  refine wpAny_bind (thnF pr fun xv s1 h1 => ?_)
  refine wpAny_bind (wpAny_standAt (wpAny_bind (wpAny_of_eq (hs xv) (wpAny_bind (wpAny_holding (thnF h1 fun itv s2 h2 => ?_))))))
  obtain ⟨it, fp, tn, J, H2, e2, I2, T, st2, f2, W, ⟨m0, w0⟩, turn⟩ := h2
  subst e2
  refine wpAny_bind (wpAny_runOwn ?_)
  rw [Around.mark_none]
  have loop : codeAny (model Y.prog Y.w) Y.A (.compLoop (.ListComp elt gens scope pos) c (.ref it) acc Y.env) (fun r s' => match r with
      | .ok _ => wpAny (model Y.prog Y.w) Y.A k R (fun _ _ => False) s'
      | .error _ => False) s2 := loop_lvl hc hx (eq it) T pg pb hv (fun I' hn b hb => ⟨hn b hb, (f2 b hb).2⟩) (I2.weak (wipe_length _ _) fun j v e => (wipe_some e).1) st2 (fun b hb => (f2 b hb).1) w0 turn fun s' H' I' st => hk (wipe σ vs) H' s' I' (wipe_length _ _) (fun j v e => e) st
  refine codeAny_mono (start it s2 _ loop (T.self Y.A 0 _ _ _ st2 loop)) fun r s' hr => ?_
  cases r with
  | ok f => exact hr
  | error x => exact hr.elim
end
section
variable (elt t0 i0 t1 i1 t2 i2 : Expr) (scope : Scope) (pos : Pos)
abbrev lc3 : Expr := .ListComp elt [⟨t0, i0, [], 0⟩, ⟨t1, i1, [], 0⟩, ⟨t2, i2, [], 0⟩] scope pos
/-- down to clause c, whose source is i -/
abbrev goK (e i : Expr) (c : Nat) (acc : Value) (env : Env) : Sem Fin → Sem Fin := fun k => do
  let x ← eval i env
  standAt i.pos
  let x ← foldedSetIterable i env x
  let _ ← runOwn (.compStart e c (← holding [x] (pyIter x)) acc env) env
  k
abbrev appK (elt : Expr) (D : Addr) (env : Env) : Sem Fin → Sem Fin := fun k => do
  (do let _ ← call (.builtin "list.append") [.ref D, ← eval elt env])
  k
theorem turn3_0 (it : Addr) (acc : Value) (env : Env) : compTurn (lc3 elt t0 i0 t1 i1 t2 i2 scope pos) 0 (.ref it) acc env = (do
      standAt i0.pos
      match ← pyNext (.ref it) with
      | none => pure (.done .next)
      | some v =>
        letOwnedTupleGo t0 (.ref it) v
        assign t0 env v
        goK (lc3 elt t0 i0 t1 i1 t2 i2 scope pos) i1 1 acc env (again (.compLoop (lc3 elt t0 i0 t1 i1 t2 i2 scope pos) 0 (.ref it) acc env))) := by rfl
theorem turn3_1 (it : Addr) (acc : Value) (env : Env) : compTurn (lc3 elt t0 i0 t1 i1 t2 i2 scope pos) 1 (.ref it) acc env = (do
      standAt i1.pos
      match ← pyNext (.ref it) with
      | none => pure (.done .next)
      | some v =>
        letOwnedTupleGo t1 (.ref it) v
        assign t1 env v
        goK (lc3 elt t0 i0 t1 i1 t2 i2 scope pos) i2 2 acc env (again (.compLoop (lc3 elt t0 i0 t1 i1 t2 i2 scope pos) 1 (.ref it) acc env))) := by rfl
theorem turn3_2 (it D : Addr) (env : Env) : compTurn (lc3 elt t0 i0 t1 i1 t2 i2 scope pos) 2 (.ref it) (.ref D) env = (do
      standAt i2.pos
      match ← pyNext (.ref it) with
      | none => pure (.done .next)
      | some v =>
        letOwnedTupleGo t2 (.ref it) v
        assign t2 env v
        appK elt D env (again (.compLoop (lc3 elt t0 i0 t1 i1 t2 i2 scope pos) 2 (.ref it) (.ref D) env))) := by rfl
end
section
variable {prog : Program} {w : World} {A : Around} {R : Result → Shared → Prop} {s : Shared} {elt t0 i0 t1 i1 t2 i2 : Expr} {scope : Scope} {pos : Pos} {it acc : Value} {env : Env}
theorem start3 {c : Nat} (hcc : c = 1 ∨ c = 2) (h0 : codeAny (model prog w) A (.compLoop (lc3 elt t0 i0 t1 i1 t2 i2 scope pos) c it acc env) R s)
    (h : wpAny (model prog w) A (pyIter it) (fun it' s' => codeAny (model prog w) A (.compLoop (lc3 elt t0 i0 t1 i1 t2 i2 scope pos) c it' acc env) R s') (notedBy (model prog w) A env fun x s' => R (.error x) s') s) :
    codeAny (model prog w) A (.compStart (lc3 elt t0 i0 t1 i1 t2 i2 scope pos) c it acc env) R s := by
  refine codeAny_of_tree ?_
  rcases hcc with rfl | rfl
  all_goals
    refine wpAny_notedAt ?_
    unfold compStart
    show wpAny _ _ (ask >>= _) _ _ s
    refine wpAny_bind (wpAny_askSetting (wpAny_ite ?_))
    split
    · first
        | exact wpAny_bind (wpAny_pure (wpAny_pure (And.intro rfl h0)))
        | exact wpAny_pure (And.intro rfl h0)
    · refine wpAny_bind (wpAny_rule ?_)
      refine wpAny_bind (wpAny_standAt (wpAny_bind (wpAny_mono h (fun it' s' h' => wpAny_pure (And.intro rfl h')) fun _ _ x => x)))
end
def B3 (te : TE) (D : Addr) : TB := fun σ H N => te σ H fun y H7 => ∃ acc, H7 D = some (.lst acc) ∧ acc.length < sizeLine ∧ N (upd H7 D (.lst (acc ++ [y])))
def BD (wi : TI) (g : TG) (vs : List Nat) (b : TB) : TB := fun σ H N => wi σ H fun J H1 => ∃ W : Nat → Nat → Hp → Prop, (∃ m, W 0 m H1) ∧ LV vs g b J σ N W
def tLc3 (wi : TI) (g : TG) (wi1 : TI) (g1 : TG) (wi2 : TI) (g2 : TG) (te : TE) (vs vs1 vs2 : List Nat) : TE := fun σ H Q => wi σ H fun J H1 => ∀ D, H1 D = none → ∃ W : Nat → Nat → Hp → Prop, (∃ m, W 0 m (upd H1 D (.lst []))) ∧ LV vs g (BD wi1 g1 vs1 (BD wi2 g2 vs2 (B3 te D))) J σ (Q (.ref D)) W
section
variable {X : Cx}
theorem pe_lc3 {elt t0 i0 t1 i1 t2 i2 : Expr} {scope : Scope} {own : List (Str × Nat)} {vs1 vs2 : List Nat} {pos : Pos} {wi wi1 wi2 : TI} {g g1 g2 : TG} {te : TE} (hc : X.calm = true) (hN : X.N.Nodup) (hi : PI X t0 i0 wi) (ok : BlkOk X.N X.env.scope scope own) (hv1 : ∀ i ∈ vs1, i ∈ own.map (·.2)) (hv2 : ∀ i ∈ vs2, i ∈ vs1)
    (hg : ∀ (s : Shared) (H : Hp) (C : Addr) (cl : List (Str × Addr)) (fp : List Addr), PG (X.blk s H scope (compEnvC scope cl C X.env) fp) t0 g)
    (hi1 : ∀ (s : Shared) (H : Hp) (C : Addr) (cl : List (Str × Addr)) (fp : List Addr), PI (X.blk s H scope (compEnvC scope cl C X.env) fp) t1 i1 wi1)
    (hg1 : ∀ (s : Shared) (H : Hp) (C : Addr) (cl : List (Str × Addr)) (fp : List Addr), PG (X.blk s H scope (compEnvC scope cl C X.env) fp) t1 g1)
    (hi2 : ∀ (s : Shared) (H : Hp) (C : Addr) (cl : List (Str × Addr)) (fp : List Addr), PI (X.blk s H scope (compEnvC scope cl C X.env) fp) t2 i2 wi2)
    (hg2 : ∀ (s : Shared) (H : Hp) (C : Addr) (cl : List (Str × Addr)) (fp : List Addr), PG (X.blk s H scope (compEnvC scope cl C X.env) fp) t2 g2)
    (he : ∀ (s : Shared) (H : Hp) (C : Addr) (cl : List (Str × Addr)) (fp : List Addr), PE (X.blk s H scope (compEnvC scope cl C X.env) fp) elt te)
    (hs : ∀ x, foldedSetIterable i0 X.env x = pure x := by intro _; rfl) (hs1 : ∀ env x, foldedSetIterable i1 env x = pure x := by intro _ _; rfl) (hs2 : ∀ env x, foldedSetIterable i2 env x = pure x := by intro _ _; rfl) :
    PE X (lc3 elt t0 i0 t1 i1 t2 i2 scope pos) (tLc3 wi g wi1 g1 wi2 g2 te (own.map (·.2)) vs1 vs2) := by
  refine ⟨fun pins s σ H Q I h => ?_⟩
  rw [eval_ListComp]
  have hfree : ∀ y ∈ scope.names, y.2 = .free → ∃ c, X.env.cells.lookup y.1 = some c := fun y hy e => (ok.free y hy e).elim (fun k => I.ok.has _ (.inl k)) fun k => I.ok.has _ (.inr k)
  refine wpAny_comprehension_free rfl hs (closure_ok hfree) ok.kind (fun y hy e => by rw [ok.uniq y hy, e])
    (thn (hi.run pins s σ H _ I h) fun xv s1 hx => thn hx fun itv s2 h2 => ?_)
  obtain ⟨it, fp, tn, J, H2, e, I2, T, st2, f2, q⟩ := h2
  subst e
  refine wpAny_newObj_type (newEnv_comp ?_) (by show 0 ≤ sizeLine; decide)
  obtain ⟨D, hD⟩ : ∃ D, s2.heap.objs.size = D := ⟨_, rfl⟩
  obtain ⟨W, ⟨m0, w0⟩, turn⟩ := q D (I2.hok.fresh (Nat.le_of_eq hD))
  obtain ⟨s3, hs3⟩ : ∃ s3 : Shared, s3 = { s2 with heap := s2.heap.push { cls := .type "list", data := .seq ([] : List Value).toArray } } := ⟨_, rfl⟩
  have h3 : s3.heap = s2.heap.push { cls := .type "list", data := .seq ([] : List Value).toArray } := by rw [hs3]
  have I3 : Inv X pins σ (upd H2 D (.lst [])) s3 := by
    rw [hs3]
    refine I2.laid (t' := s2.toks) (fun b o e => Heap.get?_push_of_some _ e) (Nat.le_of_eq hD) ⟨Nat.zero_le _, [], 0, .nil, ?_⟩
    rw [← hD]
    exact Heap.get?_push_size _ rfl
  have f3 : ∀ b ∈ fp, FpOk X pins (upd H2 D (.lst [])) b ∧ b < s3.heap.objs.size := fun b hb => by
    obtain ⟨o, e, _⟩ := T.obj _ _ st2 b hb
    have hlt := Heap.lt_size e
    refine ⟨⟨?_, (f2 b hb).2⟩, by rw [h3, Heap.size_push]; exact Nat.lt_succ_of_lt hlt⟩
    rw [upd_ne (by rw [← hD]; exact Nat.ne_of_lt hlt)]
    exact (f2 b hb).1
  have I4 := block_start I3 ok hN f3
  have st4 : tn 0 (pushCells (s3.heap.push { cls := .type "dict", data := .dict #[] }) scope.names) := T.keep _ _ _ st2 fun b _ o e => pushCells_keeps _ _ _ _ (Heap.get?_push_of_some _ (by rw [h3]; exact Heap.get?_push_of_some _ e))
  obtain ⟨cl, hcl⟩ : ∃ cl, cellsFrom (s3.heap.objs.size + 1) scope.names (cloFrom X.env.cells scope.names []) = cl := ⟨_, rfl⟩
  obtain ⟨H3, hH3⟩ : ∃ H3, upd H2 D (.lst []) = H3 := ⟨_, rfl⟩
  have e3 : ({ s2 with heap := s2.heap.push { cls := .type "list", data := .seq ([] : List Value).toArray } } : Shared) = s3 := hs3.symm
  rw [hcl, hH3] at I4
  rw [hH3] at I3 f3 w0
  show codeAny _ _ (.compStart (lc3 elt t0 i0 t1 i1 t2 i2 scope pos) 0 (.ref it) (.ref s2.heap.objs.size) (compEnvC scope (cellsFrom (({ s2 with heap := s2.heap.push { cls := .type "list", data := .seq ([] : List Value).toArray } } : Shared).heap.objs.size + 1) scope.names (cloFrom X.env.cells scope.names [])) ({ s2 with heap := s2.heap.push { cls := .type "list", data := .seq ([] : List Value).toArray } } : Shared).heap.objs.size X.env)) _ { ({ s2 with heap := s2.heap.push { cls := .type "list", data := .seq ([] : List Value).toArray } } : Shared) with heap := pushCells (({ s2 with heap := s2.heap.push { cls := .type "list", data := .seq ([] : List Value).toArray } } : Shared).heap.push { cls := .type "dict", data := .dict #[] }) scope.names }
  rw [e3, hD, hcl]
  have pb3 : PB (X.blk s3 H3 scope (compEnvC scope cl s3.heap.objs.size X.env) fp) (appK elt D (compEnvC scope cl s3.heap.objs.size X.env)) [] (B3 te D) := pb_app rfl (he s3 H3 s3.heap.objs.size cl fp)
  have pb2 : PB (X.blk s3 H3 scope (compEnvC scope cl s3.heap.objs.size X.env) fp) (goK (lc3 elt t0 i0 t1 i1 t2 i2 scope pos) i2 2 (.ref D) (compEnvC scope cl s3.heap.objs.size X.env)) vs2 (BD wi2 g2 vs2 (B3 te D)) := pb_down hc rfl (fun it => turn3_2 elt t0 i0 t1 i1 t2 i2 scope pos it D _) (fun it s R h0 h => start3 (.inr rfl) h0 h) (hs2 _) (hi2 s3 H3 s3.heap.objs.size cl fp) (hg2 s3 H3 s3.heap.objs.size cl fp) pb3 (fun i hi => absurd hi List.not_mem_nil)
  have pb1 : PB (X.blk s3 H3 scope (compEnvC scope cl s3.heap.objs.size X.env) fp) (goK (lc3 elt t0 i0 t1 i1 t2 i2 scope pos) i1 1 (.ref D) (compEnvC scope cl s3.heap.objs.size X.env)) vs1 (BD wi1 g1 vs1 (BD wi2 g2 vs2 (B3 te D))) := pb_down hc rfl (fun it => turn3_1 elt t0 i0 t1 i1 t2 i2 scope pos it (.ref D) _) (fun it s R h0 h => start3 (.inl rfl) h0 h) (hs1 _) (hi1 s3 H3 s3.heap.objs.size cl fp) (hg1 s3 H3 s3.heap.objs.size cl fp) pb2 hv2
  have loop := loop_lvl (Y := X.blk s3 H3 scope (compEnvC scope cl s3.heap.objs.size X.env) fp) (R := compPost (model X.prog X.w) X.A X.xe none (EP X pins σ Q) (.ref D) s3.heap.objs.size) hc rfl (turn3_0 elt t0 i0 t1 i1 t2 i2 scope pos it (.ref D) _) T (hg s3 H3 s3.heap.objs.size cl fp) pb1 hv1 (fun {σ' H' s'} I' hn b hb => ⟨hn b hb, (I'.ok.exf b hb).1, I'.ok.exfs b hb, .inl hb, fun x c e => (I'.ok.exf b hb).2 x c e, fun p hp => absurd (show p ∈ ([] : List (Addr × Obj)) ++ [] from hp) (by simp)⟩) I4 st4 (fun b hb => (f3 b hb).1.1) w0 turn fun s6 H5 I6 qq => by
    have I7 : Inv X pins σ H5 s6 := I3.call' (ch := fp) I6.os I6.base I6.hok I6.bare fun b hb => ⟨(f3 b hb).1.2.2.2.1, (f3 b hb).1.2.1, (f3 b hb).1.2.2.2.2.1, (f3 b hb).1.2.2.2.2.2⟩
    have nC : H5 s3.heap.objs.size = none := I6.free
    obtain ⟨m, hn, _⟩ := I6.loc
    obtain ⟨_, f1, f2', f3', f4, f5⟩ := I3.fpOk (Nat.le_refl _) nC
    exact ⟨m, hn, fun h'' sb => ⟨.ref D, H5, I7.turned (t' := s6.toks) (fun b o hb e => (sb.2 b hb).trans e) nC f1 f3' f4 f5, rfl, qq⟩⟩
  exact codeAny_compStart_list loop (T.self X.A 0 _ _ _ st4 loop)
end
end Kt

/-! Kus: [elt for .. for .. for ..], data walked -/
namespace Kt
open PySem PySem.Spec PyProof PyProof.Rows L2
theorem wipe_get (σ : L2.St) (i : Nat) : ∀ vs : List Nat, (wipe σ vs)[i]? = if i ∈ vs then (σ[i]?).map fun _ => none else σ[i]?
  | [] => by rw [if_neg List.not_mem_nil]; rfl
  | v :: vs => by
    unfold wipe
    rw [List.getElem?_set, wipe_length]
    have ih := wipe_get σ i vs
    by_cases e : v = i
    · subst e
      rw [if_pos rfl, if_pos List.mem_cons_self]
      by_cases l : v < σ.length
      · rw [if_pos l, List.getElem?_eq_getElem l]
        rfl
      · rw [if_neg l, List.getElem?_eq_none (by omega)]
        rfl
    · rw [if_neg e, ih]
      by_cases m : i ∈ vs
      · rw [if_pos m, if_pos (List.mem_cons_of_mem _ m)]
      · rw [if_neg m, if_neg (fun k => (List.mem_cons.mp k).elim (fun z => e z.symm) m)]
theorem wipe_same {σ τ : L2.St} {vs : List Nat} (hl : τ.length = σ.length) (h : ∀ i, i ∉ vs → τ[i]? = σ[i]?) : wipe τ vs = wipe σ vs := by
  refine List.ext_getElem? fun i => ?_
  rw [wipe_get, wipe_get]
  by_cases m : i ∈ vs
  · rw [if_pos m, if_pos m]
    by_cases l : i < σ.length
    · rw [List.getElem?_eq_getElem l, List.getElem?_eq_getElem (by omega)]
      rfl
    · rw [List.getElem?_eq_none (by omega), List.getElem?_eq_none (by omega)]
  · rw [if_neg m, if_neg m, h i m]
def rw_ (ρ : Rho) : List Nat → Rho
  | [] => ρ
  | v :: vs => (rw_ ρ vs).set v none
section
variable {N : Ent} {ρ : Rho} {P : Hp} {σ : L2.St}
theorem slots_wipe (g : Slots P σ ρ) : ∀ vs : List Nat, Slots P (wipe σ vs) (rw_ ρ vs)
  | [] => g
  | v :: vs => (slots_wipe g vs).unset v none
theorem tgV1 (n : Nat) (vs : List Nat) {d : PyData} : TgC N ρ (n :: vs) (gName n) d ((rw_ ρ (n :: vs)).set n (some (.d d))) := fun v σ H P M hh g r Q q => q _ ((slots_wipe g _).set (it := .d d) r n) (wipe_same (by rw [List.length_set, wipe_length]) fun i hi => by
  have h1 : n ≠ i := fun e => hi (by rw [e]; exact List.mem_cons_self)
  rw [List.getElem?_set_ne h1, wipe_get, if_neg hi])
theorem tgV2 {K : PySem.W.Frag} (n1 n2 : Nat) (vs : List Nat) {x y : PyData} : TgC N ρ (n1 :: n2 :: vs) (gTup K 2 (gCons (gName n1) (gCons (gName n2) gNil))) (.tuple [x, y]) (((rw_ ρ (n1 :: n2 :: vs)).set n1 (some (.d x))).set n2 (some (.d y))) := fun v σ H P M hh g r Q q => by
  obtain ⟨ta, ts, rfl, t1, t2⟩ := ri_tup r
  cases t2 with
  | cons k1 kr =>
    cases kr with
    | cons k2 kn =>
      cases kn
      refine ⟨ta, _, rfl, .inl (.inl (hh.ex _ _ t1)), rfl, _, _, rfl, _, _, rfl, rfl, q _ (((slots_wipe g _).set (it := .d x) k1 n1).set (it := .d y) k2 n2) (wipe_same (by rw [List.length_set, List.length_set, wipe_length]) fun i hi => ?_)⟩
      have h1 : n1 ≠ i := fun e => hi (by rw [e]; exact List.mem_cons_self)
      have h2 : n2 ≠ i := fun e => hi (by rw [e]; exact List.mem_cons_of_mem _ List.mem_cons_self)
      rw [List.getElem?_set_ne h2, List.getElem?_set_ne h1, wipe_get, if_neg hi]
end
/-- a turn's end, as it changes the list D -/
def TBJ (N : Ent) (D : Addr) (ρ : Rho) (M : Mem) (A A' : List It) (b : TB) : Prop :=
  ∀ σ H P, Holds N P H (M ++ [(D, A)]) → Slots P σ ρ → ∀ Nx : Hp → Prop, (∀ H' P', Ex P P' → Holds N P' H' (M ++ [(D, A')]) → Nx H') → b σ H Nx
/-- what a block's source asks -/
def wBI (X : Cx) (scope : Scope) (tg iter : Expr) : TI := fun σ H R => ∀ s0 H0 C cl fp pins s, Inv (X.blk s0 H0 scope (compEnvC scope cl C X.env) fp) pins σ H s →
  wpAny (model X.prog X.w) X.A (eval iter (compEnvC scope cl C X.env)) (fun v s1 => wpAny (model X.prog X.w) X.A (pyIter v) (PIE (X.blk s0 H0 scope (compEnvC scope cl C X.env) fp) pins σ tg R) (fun _ _ => False) s1) (fun _ _ => False) s
theorem pi_wBI {X : Cx} {scope : Scope} {tg iter : Expr} (s0 : Shared) (H0 : Hp) (C : Addr) (cl : List (Str × Addr)) (fp : List Addr) : PI (X.blk s0 H0 scope (compEnvC scope cl C X.env) fp) tg iter (wBI X scope tg iter) := ⟨fun pins s σ H R I h => h s0 H0 C cl fp pins s I⟩
section
variable {X : Cx} {N : Ent} {D : Addr} {ρ : Rho} {M M1 : Mem} {elt tg iter : Expr} {scope : Scope} {b : TB} {g : TG}
theorem tbj_app {A : List It} {j : It} (hA : A.length < 100000) (h : ∀ N' s H C cl fp, EJ (X.blk s H scope (compEnvC scope cl C X.env) fp) N' ρ M elt j M) : TBJ N D ρ M A (A ++ [j]) (B3 (wBE X scope elt) D) := fun σ H P hh gs Nx q => by
  intro s H0 C cl fp
  refine h (inner P H M) s H0 C cl fp _ H P hh.enter gs _ fun y H4 P4 e4 h4 r4 => ?_
  have h5 := hh.leave h4
  obtain ⟨acc, ea, ra⟩ := h5.cell (a := D) (its := A) (List.mem_append_right _ (List.mem_singleton.mpr rfl))
  refine ⟨acc, ea, by rw [ra.len]; exact Nat.lt_of_lt_of_le hA (by decide), q _ P4 e4 ?_⟩
  have h6 := h5.write (a := D) (its := A) (its' := A ++ [j]) (List.mem_append_right _ (List.mem_singleton.mpr rfl)) (xs' := acc ++ [y]) (ra.app ⟨r4, trivial⟩)
  rw [put_last h5.nd] at h6
  exact h6
theorem lv_data {vs : List Nat} {ds : List PyData} {J : L2.It} {P1 : Hp} {σ : L2.St} {Stop : Hp → Prop} {P0 : Hp} (A : Nat → List It) (W : WalkA P1 J ds) (gs : Slots P0 σ ρ) (e0 : Ex P0 P1)
    (step : ∀ m d, ds[m]? = some d → ∃ ρ2, TgC N ρ vs g d ρ2 ∧ TBJ N D ρ2 M (A m) (A (m + 1)) b)
    (stop : ∀ H' P', Ex P1 P' → Holds N P' H' (M ++ [(D, A ds.length)]) → Stop H') :
    LV vs g b J σ Stop fun i m H => m = ds.length - i ∧ i ≤ ds.length ∧ ∃ P', Holds N P' H (M ++ [(D, A i)]) ∧ Ex P1 P' := by
  rintro i m H ⟨rfl, hil, P2, h2, e2⟩
  by_cases hlt : i < ds.length
  · refine .inr ⟨W.go i N H P2 _ hlt h2 e2, fun H' => ∃ P', Holds N P' H' (M ++ [(D, A (i + 1))]) ∧ Ex P1 P', fun H' p' => ⟨ds.length - (i + 1), by omega, rfl, hlt, p'⟩, fun x H' yl => ?_⟩
    obtain ⟨P3, d, ed, e3, h3, r3⟩ := W.yld i N H x H' P2 _ hlt h2 e2 yl
    obtain ⟨ρ2, G, S⟩ := step i d ed
    refine G x σ H' P3 _ h3 (gs.ex ((e0.trans e2).trans e3)) r3 _ fun σ2 gs2 hw => ⟨hw, ?_⟩
    exact S σ2 H' P3 h3 gs2 _ fun H4 P4 e4 h4 => ⟨P4, h4, (e2.trans e3).trans e4⟩
  · have hi : i = ds.length := by omega
    subst hi
    exact .inl ⟨W.stop N H P2 _ h2 e2, stop H P2 e2 h2⟩
theorem tbj_walk {vs : List Nat} {ds : List PyData} (A : Nat → List It) (src : ∀ N' s H C cl fp, IA (X.blk s H scope (compEnvC scope cl C X.env) fp) N' ρ M tg iter ds M)
    (step : ∀ m d, ds[m]? = some d → ∃ ρ2, TgC N ρ vs g d ρ2 ∧ TBJ N D ρ2 M (A m) (A (m + 1)) b) : TBJ N D ρ M (A 0) (A ds.length) (BD (wBI X scope tg iter) g vs b) := fun σ H P hh gs Nx q => by
  intro s0 H0 C cl fp pins s I
  obtain ⟨ti, pi, hi⟩ := src (inner P H M) s0 H0 C cl fp
  refine pi.run pins s σ H _ I (hi σ H P hh.enter gs _ fun J H1 P1 e1 h1 W => ?_)
  exact ⟨_, ⟨ds.length, by simp, Nat.zero_le _, P1, hh.leave h1, Ex.refl _⟩, lv_data A W gs e1 step fun H' P' e' h' => q H' P' (e1.trans e') h'⟩
/-- [elt for .. for .. for ..] -/
theorem el_comp3 {t0 i0 t1 i1 t2 i2 : Expr} {pos : Pos} {own : List (Str × Nat)} {vs1 vs2 : List Nat} {g1 g2 : TG} {ds : List PyData} (A : Nat → List It) (hc : X.calm = true) (hN : X.N.Nodup) (hi : IA X N ρ M t0 i0 ds M1) (hA0 : A 0 = [])
    (hv1 : ∀ i ∈ vs1, i ∈ own.map (·.2)) (hv2 : ∀ i ∈ vs2, i ∈ vs1)
    (step : ∀ N' D m d, ds[m]? = some d → ∃ ρ2, TgC N' ρ (own.map (·.2)) g d ρ2 ∧ TBJ N' D ρ2 M1 (A m) (A (m + 1)) (BD (wBI X scope t1 i1) g1 vs1 (BD (wBI X scope t2 i2) g2 vs2 (B3 (wBE X scope elt) D))))
    (ok : BlkOk X.N X.env.scope scope own)
    (hg : ∀ (s : Shared) (H : Hp) (C : Addr) (cl : List (Str × Addr)) (fp : List Addr), PG (X.blk s H scope (compEnvC scope cl C X.env) fp) t0 g)
    (hg1 : ∀ (s : Shared) (H : Hp) (C : Addr) (cl : List (Str × Addr)) (fp : List Addr), PG (X.blk s H scope (compEnvC scope cl C X.env) fp) t1 g1)
    (hg2 : ∀ (s : Shared) (H : Hp) (C : Addr) (cl : List (Str × Addr)) (fp : List Addr), PG (X.blk s H scope (compEnvC scope cl C X.env) fp) t2 g2)
    (hs : ∀ x, foldedSetIterable i0 X.env x = pure x := by intro _; rfl) (hs1 : ∀ env x, foldedSetIterable i1 env x = pure x := by intro _ _; rfl) (hs2 : ∀ env x, foldedSetIterable i2 env x = pure x := by intro _ _; rfl) :
    EL X N ρ M (.ListComp elt [⟨t0, i0, [], 0⟩, ⟨t1, i1, [], 0⟩, ⟨t2, i2, [], 0⟩] scope pos) (A ds.length) M1 := fun σ H P hh gs Q q => by
  obtain ⟨ti, pi, hti⟩ := hi
  refine e_of (pe_lc3 (te := wBE X scope elt) hc hN pi ok hv1 hv2 hg (fun s H C cl fp => pi_wBI s H C cl fp) hg1 (fun s H C cl fp => pi_wBI s H C cl fp) hg2 (fun s H C cl fp => ⟨fun pins s1 σ1 H1 Q1 I1 h1 => h1 s H C cl fp pins s1 I1⟩) hs hs1 hs2) (hti σ H P hh gs _ fun J H1 P1 e1 h1 W D hD => ?_)
  refine ⟨_, ⟨ds.length, by simp, Nat.zero_le _, P1, by rw [hA0]; exact h1.own hD (its := []) trivial, Ex.refl _⟩, lv_data A W gs e1 (fun m d hd => step N D m d hd) fun H' P' e' h' => q D H' P' (e1.trans e') (h1.newF hD) h'⟩
end
section
variable {X : Cx} {N : Ent} {ρ : Rho} {M M1 M2 : Mem} {a b elt iter : Expr} {scope : Scope} {pos : Pos}
theorem ia_range2 {tg : Expr} {p rp : Pos} {i j : Int} (hmr : X.mg "range" = none) (ha : EJ X N ρ M a (dI i) M1) (hb : EJ X N ρ M1 b (dI j) M2) (h1 : -(2 ^ 62) ≤ i ∧ i < 2 ^ 62) (h2 : -(2 ^ 62) ≤ j ∧ j < 2 ^ 62) (hg : Gl X "range" := by rfl) (hs : starEach [a, b] X.env = (false, eval a X.env) :: starEach [b] X.env := by rfl) (hs2 : starEach [b] X.env = (false, eval b X.env) :: starEach [] X.env := by rfl) :
    IA X N ρ M tg (.Call (.Name "range" p) [a, b] [] rp) ((List.range (j - i).toNat).map fun k : Nat => .int (i + (k : Int))) M2 := by
  refine ⟨_, pi_range2 hg hmr pa_w (by rw [hs, hs2]; rfl) (by rw [hs2]; rfl), fun σ H P hh g R q => ?_⟩
  refine aj_cons ha (aj_cons hb aj_nil hs2) hs σ H P hh g _ fun vs H1 P1 e1 h3 r1 => ?_
  obtain ⟨x, y, rfl, r2, r3⟩ := ri2 r1
  cases ri_int r2
  cases ri_int r3
  have zl : ((List.range (j - i).toNat).map fun k : Nat => PyData.int (i + (k : Int))).length = (j - i).toNat := by simp
  refine ⟨i, j, rfl, ⟨h1.1, h1.2, h2.1, h2.2⟩, q _ H1 P1 e1 h3 ⟨fun n N' H P' M' hi h2 e2 => ?_, fun N' H P' M' h2 e2 => ?_, fun n N' H v H' P' M' hi h2 e2 y => ?_⟩⟩
  · rw [zl] at hi
    exact hi
  · rw [zl]
    exact Nat.le_refl _
  · obtain ⟨rfl, rfl⟩ := y
    rw [zl] at hi
    exact ⟨P', _, by rw [List.getElem?_map, List.getElem?_range hi]; rfl, Ex.refl _, h2, .int _⟩
theorem tgV22 {K : PySem.W.Frag} (n1 n2 n3 n4 : Nat) {u v x y : PyData} : TgC N ρ [n1, n2, n3, n4] (gTup K 2 (gCons (gTup K 2 (gCons (gName n1) (gCons (gName n2) gNil))) (gCons (gTup K 2 (gCons (gName n3) (gCons (gName n4) gNil))) gNil))) (.tuple [.tuple [u, v], .tuple [x, y]]) (((((rw_ ρ [n1, n2, n3, n4]).set n1 (some (.d u))).set n2 (some (.d v))).set n3 (some (.d x))).set n4 (some (.d y))) := fun z σ H P M hh g r Q q => by
  obtain ⟨ta, ts, rfl, t1, t2⟩ := ri_tup r
  cases t2 with
  | cons k1 kr =>
    cases kr with
    | cons k2 kn =>
      cases kn
      obtain ⟨tb, bs, rfl, b1, b2⟩ := ri_tup k1
      obtain ⟨tc, cs, rfl, c1, c2⟩ := ri_tup k2
      cases b2 with
      | cons b3 b4 =>
        cases b4 with
        | cons b5 b6 =>
          cases b6
          cases c2 with
          | cons c3 c4 =>
            cases c4 with
            | cons c5 c6 =>
              cases c6
              refine ⟨ta, _, rfl, .inl (.inl (hh.ex _ _ t1)), rfl, _, _, rfl, ⟨tb, _, rfl, .inl (.inl (hh.ex _ _ b1)), rfl, _, _, rfl, _, _, rfl, rfl, _, _, rfl, ⟨tc, _, rfl, .inl (.inl (hh.ex _ _ c1)), rfl, _, _, rfl, _, _, rfl, rfl, rfl, q _ (((((slots_wipe g _).set (it := .d u) b3 n1).set (it := .d v) b5 n2).set (it := .d x) c3 n3).set (it := .d y) c5 n4) (wipe_same (by simp only [List.length_set, wipe_length]) fun i hi => ?_)⟩⟩⟩
              simp only [List.mem_cons, List.not_mem_nil, or_false, not_or] at hi
              rw [List.getElem?_set_ne (fun e => hi.2.2.2 e.symm), List.getElem?_set_ne (fun e => hi.2.2.1 e.symm), List.getElem?_set_ne (fun e => hi.2.1 e.symm), List.getElem?_set_ne (fun e => hi.1 e.symm), wipe_get, if_neg (by simp only [List.mem_cons, List.not_mem_nil, or_false, not_or]; exact hi)]
/-- [e for (a, b), (c, d) in walk] -/
theorem el_compW22 {φ : Mem → Prop} {x1 x2 x3 x4 : Str} {p1 p2 p3 p4 q1 q2 q3 : Pos} {k1 k2 k3 : Nat} (n1 n2 n3 n4 : Nat) {ds : List PyData} (A : Nat → List It) (Mi : Nat → Mem) (hc : X.calm = true) (hN : X.N.Nodup) (hi : IWQ φ X N ρ M (.Tuple [.Tuple [.Name x1 p1, .Name x2 p2] k1 q1, .Tuple [.Name x3 p3, .Name x4 p4] k2 q2] k3 q3) iter ds M1)
    (hφ : ∀ m c, φ (Mi m ++ [c])) (hA0 : A 0 = []) (hM0 : Mi 0 = M1) (hz : ds.length ≤ 100000)
    (step : ∀ (m : Nat) d, ds[m]? = some d → ∃ u v x y j, d = .tuple [.tuple [u, v], .tuple [x, y]] ∧ A (m + 1) = A m ++ [j] ∧ (A m).length ≤ m ∧ ∀ N' s H C cl fp, EJ (X.blk s H scope (compEnvC scope cl C X.env) fp) N' (((((rw_ ρ [n1, n2, n3, n4]).set n1 (some (.d u))).set n2 (some (.d v))).set n3 (some (.d x))).set n4 (some (.d y))) (Mi m) elt j (Mi (m + 1)))
    (ok : BlkOk X.N X.env.scope scope [(x1, n1), (x2, n2), (x3, n3), (x4, n4)] := by exact blkOk_by (by kernel_rfl))
    (hgn : ∀ (s : Shared) (H : Hp) (C : Addr) (cl : List (Str × Addr)) (fp : List Addr), PG (X.blk s H scope (compEnvC scope cl C X.env) fp) (.Tuple [.Tuple [.Name x1 p1, .Name x2 p2] k1 q1, .Tuple [.Name x3 p3, .Name x4 p4] k2 q2] k3 q3) (gTup X.K 2 (gCons (gTup X.K 2 (gCons (gName n1) (gCons (gName n2) gNil))) (gCons (gTup X.K 2 (gCons (gName n3) (gCons (gName n4) gNil))) gNil))) := by exact fun _ _ _ _ _ => pg_tup (by rfl) (pgs_cons (pg_tup (by rfl) (pgs_cons (pg_name (by assumption) rfl (Or.inl rfl)) (pgs_cons (pg_name (by assumption) rfl (Or.inl rfl)) pgs_nil))) (pgs_cons (pg_tup (by rfl) (pgs_cons (pg_name (by assumption) rfl (Or.inl rfl)) (pgs_cons (pg_name (by assumption) rfl (Or.inl rfl)) pgs_nil))) pgs_nil)))
    (hf : ∀ x, foldedSetIterable iter X.env x = pure x := by intro _; rfl) : EL X N ρ M (.ListComp elt [⟨.Tuple [.Tuple [.Name x1 p1, .Name x2 p2] k1 q1, .Tuple [.Name x3 p3, .Name x4 p4] k2 q2] k3 q3, iter, [], 0⟩] scope pos) (A ds.length) (Mi ds.length) := by
  obtain ⟨ti, pi, hi⟩ := hi
  exact el_lc (lj_compW [n1, n2, n3, n4] _ A Mi hi hφ hA0 hM0 hz fun m d hd => by obtain ⟨u, v, x, y, j, rfl, a, b, c⟩ := step m d hd; exact ⟨_, j, tgV22 n1 n2 n3 n4, a, b, c⟩) (pe_lc hc hN pi ok hgn (fun _ _ _ _ _ => pts_nil) (te := wBE X scope elt) (fun s H C cl fp => ⟨fun pins s1 σ1 H1 Q1 I1 h1 => h1 s H C cl fp pins s1 I1⟩) hf)
end
end Kt

/-! Kut: min of two tuples, <= of data, a bool less a bool -/
namespace Kt
open PySem PySem.Spec PyProof PyProof.Rows L2
section
variable {prog : Program} {w : World} {A : Around} {E : Value → Shared → Prop} {s : Shared}
theorem min_two_data {a b : Value} {da db : PyData} {as bs : List Addr} {Q : Value → Shared → Prop} (hh : A.handled = none) (ra : Reads s.heap a da as) (rb : Reads s.heap b db bs) (hal : PySem.W.AlikeAll [da, db]) (hu : A.units + 1 + PyData.depthAll [da, db] < cLine)
    (h : ∀ h' tk, (∀ c o, s.heap.get? c = some o → h'.get? c = some o) → Q (if PySem.W.dataLt db da = true then b else a) { s with heap := h', toks := tk }) : wpAny (model prog w) A (call (.builtin "min") [a, b]) Q E s := by
  have hname : (toString "min" ++ toString ".loop" : String) = "min.loop" := by decide
  refine call_function_tree F.kind_min F.plain_min F.entry_min (F.args_min2 _ _) ?_
  show wpAny _ A.in1 (Builtin.Builtins.bindParams "min" ["key", "default"] 0 ⟨[], []⟩ >>= _) _ _ s
  refine wpAny_bind (wpAny_of_eq (show Builtin.Builtins.bindParams "min" ["key", "default"] 0 ⟨[], []⟩ = pure [none, none] from rfl) ?_)
  show wpAny _ A.in1 (newTuple [a, b] >>= _) _ _ s
  refine wpAny_bind (wpAny_newObj_type ?_)
  have hT : (s.heap.push { cls := .type "tuple", data := .seq #[a, b] }).IsTuple s.heap.objs.size #[a, b] := ⟨_, Heap.get?_push_size _ rfl, rfl, 0, rfl⟩
  have k0 : ∀ c o, s.heap.get? c = some o → (s.heap.push { cls := .type "tuple", data := .seq #[a, b] }).get? c = some o := fun c o e => Heap.get?_push_of_some _ e
  have hr : ReadsAll (s.heap.push { cls := .type "tuple", data := .seq #[a, b] }) #[a, b].toList [da, db] (as ++ (bs ++ [])) := ReadsAll.cons (Reads.keeps k0 ra) (ReadsAll.cons (Reads.keeps k0 rb) .nil)
  refine wpAny_bind (PySem.W.iter_tupleW (A := A.in1) hh hT fun s₂ e W st hfp hw hk => ?_)
  refine wpAny_bind (wpAny_newObj_type ?_)
  have hSf : s₂.heap.objs.size ∉ [(s.heap.push { cls := .type "tuple", data := .seq #[a, b] }).objs.size, s.heap.objs.size] := fun hm => Nat.lt_irrefl _ (hfp _ hm)
  rw [hname]
  refine wpAny_pure ⟨plainId_quiet F.plain_min_loop _, PySem.codeAny_min_loop_firstH W _ hw _ (PySem.W.cmpIn_lt (A := A.in1) (s := { s with heap := s.heap.push { cls := .type "tuple", data := .seq #[a, b] } }) hr hal (by show A.units + 1 + _ < _; exact hu)) s₂.heap.objs.size hSf (PySem.fresh_in hk) _ (show 0 < 2 from Nat.zero_lt_succ 1) (fun b o e => Heap.get?_push_of_some _ (hk b o e)) (W.frame 0 s₂ _ s₂.toks st (Nat.le_refl _) fun b _ o e => Heap.get?_push_of_some _ e) (Heap.get?_push_size _ rfl) fun v s' hP hm => ?_⟩
  obtain ⟨h', tk, rfl, hk'⟩ := PySem.W.moved_old (s := { s with heap := s.heap.push { cls := .type "tuple", data := .seq #[a, b] } }) e rfl (PySem.Moved.drop_new (tk := s₂.toks) hm (Nat.le_refl _))
  have hv : v = if PySem.W.dataLt db da = true then b else a := by
    have hP : (#[a, b] : Array Value)[if PySem.W.dataLt db da = true then 1 else 0]? = some v := hP
    by_cases c : PySem.W.dataLt db da = true
    · rw [if_pos c] at hP ⊢
      exact (Option.some.inj hP).symm
    · rw [if_neg c] at hP ⊢
      exact (Option.some.inj hP).symm
  rw [hv]
  exact h h' tk fun c o e => hk' c o (k0 c o e)
end
def rMin2D (K : PySem.W.Frag) : List V → Hp → VK → Prop := fun vs H Q => ∃ (x y : V) (d e : PyData), vs = [x, y] ∧ Dp K H x d ∧ Dp K H y e ∧ PySem.W.AlikeAll [d, e] ∧ PyData.depthAll [d, e] ≤ 60 ∧ Q (if PySem.W.dataLt e d = true then y else x) H
theorem cr_min2D {X : Cx} (hc : X.calm = true) (hu : X.A.units + 64 < cLine) : CallR X (.builtin "min") (rMin2D X.K) := by
  intro pins s σ H vs us Q I rv h
  obtain ⟨x, y, d, e, rfl, hd, he, hal, hdp, q⟩ := h
  cases rv with
  | cons r1 r2 =>
    cases r2 with
    | cons r3 r4 =>
      cases r4
      obtain ⟨as, ra⟩ := Dp.reads I d _ _ hd r1
      obtain ⟨bs, rb⟩ := Dp.reads I e _ _ he r3
      refine min_two_data (I.ok.hd hc) ra rb hal (by omega) fun h' tk hk => ?_
      refine ⟨_, H, I.kept hk, ?_, q⟩
      split
      · exact r3
      · exact r1
theorem op_leD {X : Cx} (hu : X.A.units + 64 < cLine) : OpR X (compareOp .LtE) (fun x y H Q => ∃ d e, Dp X.K H x d ∧ Dp X.K H y e ∧ PySem.W.alike d e = true ∧ d ≠ .none ∧ d.depth ≤ 60 ∧ Q (.bl (!PySem.W.dataLt e d)) H) := by
  intro pins s σ H x y v u Q I rx ry h
  obtain ⟨d, e, hd, he, hal, hn, hdp, q⟩ := h
  obtain ⟨as, r1⟩ := Dp.reads I d x v hd rx
  obtain ⟨bs, r2⟩ := Dp.reads I e y u he ry
  refine PySem.W.le_data r1 r2 hal hn ?_ ⟨.bl _, H, I, rfl, q⟩
  have := Nat.min_le_left d.depth e.depth
  omega
theorem op_subB {X : Cx} : OpR X (binaryOp .Sub) (fun x y H Q => ∃ a b : Bool, x = .bl a ∧ y = .bl b ∧ Q (.int (PyProof.Rows.b2i a - PyProof.Rows.b2i b)) H) := by
  intro pins s σ H x y v u Q I rx ry h
  obtain ⟨a, b, rfl, rfl, q⟩ := h
  cases rx
  cases ry
  exact PyProof.Rows.sub_bool ⟨.int _, H, I.tok _, ⟨_, rfl⟩, q⟩
section
variable {X : Cx} {N : Ent} {ρ : Rho} {M M1 M2 : Mem} {a b : Expr} {pos : Pos}
/-- min of two data without a dict in them -/
theorem ej_min2D {p q : Pos} {d e : PyData} (hc : X.calm = true) (hu : X.A.units + 64 < cLine) (hm : X.mg "min" = none) (ha : EJ X N ρ M a (.d d) M1) (hb : EJ X N ρ M1 b (.d e) M2) (n1 : noDict d = true) (n2 : noDict e = true) (hal : PySem.W.AlikeAll [d, e]) (hdp : PyData.depthAll [d, e] ≤ 60)
    (hg : Gl X "min" := by rfl) (he : starEach [a, b] X.env = (false, eval a X.env) :: starEach [b] X.env := by rfl) (he2 : starEach [b] X.env = (false, eval b X.env) :: starEach [] X.env := by rfl) (hpl : (backTo q (starEach [b] X.env)).any (·.1) = false := by rfl) :
    EJ X N ρ M (.Call (.Name "min" p) [a, b] [] q) (.d (if PySem.W.dataLt e d = true then e else d)) M2 := ej_callB (cr_min2D hc hu) hm (by decide +kernel) (aj_cons ha (aj_cons hb aj_nil he2) he) (fun vs H P h rr Q k => by
  obtain ⟨x, y, rfl, r1, r2⟩ := ri2 rr
  have d1 := dnw_ex h.exw _ _ r1
  have d2 := dnw_ex h.exw _ _ r2
  refine ⟨x, y, d, e, rfl, dp_of _ _ n1 d1, dp_of _ _ n2 d2, hal, hdp, k _ H P (Ex.refl P) h ?_⟩
  split
  · exact r2
  · exact r1) hg (by decide) (by decide) he hpl
theorem tj_leD {d e : PyData} (hu : X.A.units + 64 < cLine) (ha : EJ X N ρ M a (.d d) M1) (hb : EJ X N ρ M1 b (.d e) M2) (n1 : noDict d = true) (n2 : noDict e = true) (hal : PySem.W.alike d e = true) (hn : d ≠ .none) (hdp : d.depth ≤ 60) : EJ X N ρ M (.Compare a [.LtE] [b] pos) (dB (!PySem.W.dataLt e d)) M2 := ej_cmp (op_leD hu) (nomark _) ha hb fun x y H P h rx ry Q q => by
  have d1 := dnw_ex h.exw _ _ rx
  have d2 := dnw_ex h.exw _ _ ry
  exact ⟨d, e, dp_of _ _ n1 d1, dp_of _ _ n2 d2, hal, hn, hdp, q _ H P (Ex.refl P) h (.bl _)⟩
end
section
variable {X : Cx} {N : Ent} {ρ : Rho} {M M1 M2 : Mem} {a b : Expr} {pos : Pos}
theorem ej_subB {t u : Bool} (ha : EJ X N ρ M a (dB t) M1) (hb : EJ X N ρ M1 b (dB u) M2) : EJ X N ρ M (.BinOp a .Sub b pos) (dI (PyProof.Rows.b2i t - PyProof.Rows.b2i u)) M2 := ej_op op_subB ha hb fun x y H P h rx ry Q q => ⟨_, _, ri_bl rx, ri_bl ry, q _ H P (Ex.refl P) h (.int _)⟩
end
end Kt

/-! Kuv: xs.insert(n, e), a walk of a list or a tuple -/
namespace Kt
open PySem PySem.Spec PyProof PyProof.Rows L2
theorem RepIs.take {P : Hp} : ∀ {xs : List V} {is : List Kt.It} (n : Nat), RepIs P xs is → RepIs P (xs.take n) (is.take n)
  | [], [], n, h => by rw [List.take_nil, List.take_nil]; exact h
  | x :: xs, i :: is, 0, h => trivial
  | x :: xs, i :: is, n + 1, h => ⟨h.1, RepIs.take n h.2⟩
theorem RepIs.drop {P : Hp} : ∀ {xs : List V} {is : List Kt.It} (n : Nat), RepIs P xs is → RepIs P (xs.drop n) (is.drop n)
  | xs, is, 0, h => h
  | [], [], n + 1, h => trivial
  | x :: xs, i :: is, n + 1, h => RepIs.drop n h.2
section
variable {X : Cx} {N : Ent} {ρ : Rho} {M M1 M2 : Mem} {a e1 e2 : Expr} {pos : Pos} {i : Kt.It} {Z : Post} {rest : List Stmt}
theorem sj_insert {ap epos : Pos} {p : Addr} {is is0 : List Kt.It} {n : Nat} (ho : EJ X N ρ M a (.v (.ref p)) M) (hm0 : (p, is0) ∈ M) (h1 : EJ X N ρ M e1 (dI (n : Int)) M1) (h2 : EJ X N ρ M1 e2 i M2) (hm : (p, is) ∈ M2) (hz : is.length < 100000) (hn : n ≤ 100000) (hr : SJ X N ρ (M2.put p (is.take n ++ [i] ++ is.drop n)) rest Z) (hs : swapsWith (.Call (.Attribute a "insert" ap) [e1, e2] [] pos) none epos.line X.env = pure false := by rfl)
    (hst : starEach [e1, e2] X.env = (false, eval e1 X.env) :: starEach [e2] X.env := by rfl) (hst2 : starEach [e2] X.env = [(false, eval e2 X.env)] := by rfl) (ps : PE X (.Call (.Attribute a "insert" ap) [e1, e2] [] pos) (tBM X.K "list" (fun x vs H Q => ∃ (l : Addr) (xs : List V) (i : Int) (y : V), x = .ref l ∧ vs = [.int i, y] ∧ H l = some (.lst xs) ∧ xs.length < sizeLine ∧ 0 ≤ i ∧ i < 2 ^ 63 ∧ Q .non (upd H l (.lst (xs.take i.toNat ++ [y] ++ xs.drop i.toNat)))) (wE X a) (wA X [e1, e2])) := by exact pe_bm PySem.F.plainAttrs_list PySem.F.slot_list_insert PySem.F.type_list_insert mt_insert pe_w pa_w) : SJ X N ρ M (.Expr (.Call (.Attribute a "insert" ap) [e1, e2] [] pos) epos :: rest) Z := sj_cons fun σ H P hh g D E tk z => by
  refine s_of (ps_expr ps hs) (ho σ H P hh g _ fun v H1 P1 x1 g1 r1 => ?_)
  cases (show v = .ref p from r1)
  obtain ⟨ys, ey, _⟩ := g1.cell hm0
  refine ⟨.inl ⟨rfl, ys, .inl (.inl ey)⟩, ?_⟩
  refine aj_cons h1 (aj_cons h2 aj_nil hst2) hst σ H1 P1 g1 (g.ex x1) _ fun vs H2 P2 x2 g2 r2 => ?_
  obtain ⟨u, y, rfl, r3, r4⟩ := ri2 r2
  cases ri_int r3
  obtain ⟨xs, e3, r5⟩ := g2.cell hm
  refine ⟨p, xs, (n : Int), y, rfl, rfl, e3, by rw [r5.len]; exact Nat.lt_trans hz (by decide), by omega, by omega, ?_⟩
  rw [Int.toNat_natCast]
  exact z.nx ρ _ σ _ P2 hr (x1.trans x2) (g2.write hm (RepIs.app (RepIs.app (RepIs.take n r5) (show RepIs P2 [y] [i] from ⟨r4, trivial⟩)) (RepIs.drop n r5))) (g.ex (x1.trans x2))
end
end Kt

/-! Kuw: a comprehension whose items are lists of one's own -/
namespace Kt
open PySem PySem.Spec PyProof PyProof.Rows L2
theorem Holds.perm {N : Ent} {P H : Hp} {M M' : Mem} (h : Holds N P H M) (p : M.Perm M') : Holds N P H M' :=
  ⟨h.exw, h.ex0, h.fr, h.nw, fun c hc => h.mem c (p.mem_iff.mpr hc), (p.map _).nodup_iff.mp h.nd, fun a ha => (p.map _).mem_iff.mp (h.mf a ha), fun c hc => h.fs c (p.mem_iff.mpr hc), h.uf, h.pf⟩
abbrev refI (r : Addr) : Kt.It := .v (.ref r)
section
variable {X : Cx} {N : Ent} {ρ : Rho} {M M1 : Mem} {elt : Expr} {scope : Scope}
theorem lj_nest {ti : TI} (vs : List Nat) (tgt : TG) {ds : List PyData} (cts : List (List Kt.It))
    (hi : ∀ σ H P, Holds N P H M → Slots P σ ρ → ∀ R, (∀ J H1 P1, Ex P P1 → Holds N P1 H1 M1 → WalkQ anyM N P1 J ds → R J H1) → ti σ H R)
    (hz : ds.length ≤ 100000) (hl : cts.length = ds.length)
    (step : ∀ (m : Nat) d, ds[m]? = some d → ∃ ρ2 ct, TgC N ρ vs tgt d ρ2 ∧ cts[m]? = some ct ∧ ∀ N' s H C cl fp, EL (X.blk s H scope (compEnvC scope cl C X.env) fp) N' ρ2 M1 elt ct M1) :
    ∀ σ H P, Holds N P H M → Slots P σ ρ → ∀ Q : VK, (∀ (p : Addr) (rs : List Addr) (H' P' : Hp), Ex P P' → p ∉ N.F → (∀ r ∈ rs, r ∉ N.F) → rs.length = cts.length → Holds N P' H' (M1 ++ rs.zip cts ++ [(p, rs.map refI)]) → Q (.ref p) H') → tLc ti tgt tYes (wBE X scope elt) vs σ H Q := fun σ H P hh g Q q => by
  refine hi σ H P hh g _ fun J H1 P1 e1 h1 W D hD => ?_
  have WK : Walk J ds.length (fun H => ∃ P' M', Holds N P' H M' ∧ Ex P1 P' ∧ anyM M') (fun i H x H' => i < ds.length ∧ ∀ P' M', Holds N P' H M' → Ex P1 P' → anyM M' → ∃ P'' d, ds[i]? = some d ∧ Ex P' P'' ∧ Holds N P'' H' M' ∧ RepI P'' x (.d d)) :=
    ⟨fun i H hi ⟨P', M', a, b, c⟩ => W.go i H P' M' hi a b c, fun H ⟨P', M', a, b, c⟩ => W.stop H P' M' a b c, fun i H x H' hi _ y => ⟨hi, fun P' M' a b c => W.yld i H x H' P' M' hi a b c y⟩⟩
  refine lc_it WK (fun m H' => ∃ P' rs, Holds N P' H' (M1 ++ List.zip rs (cts.take m) ++ [(D, rs.map refI)]) ∧ Ex P1 P' ∧ rs.length = m ∧ ∀ r ∈ rs, r ∉ N.F) ⟨P1, [], by rw [List.zip_nil_left, List.append_nil]; exact h1.own hD (its := []) trivial, Ex.refl _, rfl, fun r hr => absurd hr List.not_mem_nil⟩ (fun m H' _ ⟨P', rs, a, b, _, _⟩ => ⟨P', _, a, b, trivial⟩) (fun m x' H' H2 hn hw hy => ?_) (fun H' hw => ?_)
  · obtain ⟨P', rs, h2', e2', lrs, frs⟩ := hw
    obtain ⟨P2, d, ed, e3', h2, r3⟩ := hy.2 P' _ h2' e2' trivial
    have e2 := e2'.trans e3'
    obtain ⟨ρ2, ct, G, ec, S⟩ := step m d ed
    refine G x' σ H2 P2 _ h2 (g.ex (e1.trans e2)) r3 _ fun σ2 gs hw2 => ⟨hw2, ?_⟩
    unfold tYes
    dsimp only
    rw [if_pos rfl]
    intro s H0 C cl fp
    rw [List.append_assoc] at h2
    refine S (inner P2 H2 M1) s H0 C cl fp _ H2 P2 h2.enter gs _ fun r H4 P4 e4 fr h4 => ?_
    have h5 := h2.leave h4
    obtain ⟨acc, ea, ra⟩ := h5.cell (a := D) (its := rs.map refI) (List.mem_append_right _ (List.mem_append_right _ (List.mem_singleton.mpr rfl)))
    have h6 := h5.write (a := D) (its := rs.map refI) (its' := (rs ++ [r]).map refI) (List.mem_append_right _ (List.mem_append_right _ (List.mem_singleton.mpr rfl))) (xs' := acc ++ [.ref r]) (by rw [List.map_append]; exact ra.app ⟨rfl, trivial⟩)
    have e5 : M1 ++ [(r, ct)] ++ (List.zip rs (cts.take m) ++ [(D, rs.map refI)]) = (M1 ++ [(r, ct)] ++ List.zip rs (cts.take m)) ++ [(D, rs.map refI)] := by simp only [List.append_assoc]
    have nd5 := h5.nd
    rw [e5] at h6 nd5
    rw [put_last nd5] at h6
    refine ⟨acc, ea, by rw [ra.len, List.length_map, lrs]; exact Nat.lt_of_lt_of_le (Nat.lt_of_lt_of_le hn hz) (by decide), P4, rs ++ [r], ?_, e2.trans e4, by rw [List.length_append, lrs]; rfl, fun z hz => ?_⟩
    · have e6 : List.zip (rs ++ [r]) (cts.take (m + 1)) = List.zip rs (cts.take m) ++ [(r, ct)] := by
        have tk : cts.take (m + 1) = cts.take m ++ [ct] := by
          rw [List.take_add_one, ec]
          rfl
        have lm : m < cts.length := (List.getElem?_eq_some_iff.mp ec).1
        rw [tk, List.zip_append (by rw [lrs, List.length_take]; omega)]
        rfl
      rw [e6]
      refine h6.perm ?_
      refine List.Perm.append_right _ ?_
      rw [List.append_assoc]
      exact List.Perm.append_left _ List.perm_append_comm
    · rcases List.mem_append.mp hz with h | h
      · exact frs z h
      · rw [List.mem_singleton.mp h]
        intro hf
        have := h1.mf r hf
        have nd := h5.nd
        rw [List.map_append, List.map_append] at nd
        have n1 := (List.nodup_append.mp nd).1
        exact (List.nodup_append.mp n1).2.2 r this r (List.mem_singleton.mpr rfl) rfl
  · obtain ⟨P', rs, h2, e2, lrs, frs⟩ := hw
    rw [List.take_of_length_le (by omega)] at h2
    exact q D rs H' P' (e1.trans e2) (h1.newF hD) frs (by omega) h2
/-- [e for x in walk], e lists of one's own, as x = .. for a name that an inner block reads (no swap) -/
theorem sj_ownNest (n' : Nat) {y : Str} {pos' spos pos : Pos} {Z : Post} {rest : List Stmt} {x : Str} {p : Pos} {iter : Expr} (n : Nat) {ds : List PyData} (cts : List (List Kt.It)) (hc : X.calm = true) (hN : X.N.Nodup) (hi : IW X N ρ M (.Name x p) iter ds M1) (hz : ds.length ≤ 100000) (hl : cts.length = ds.length)
    (step : ∀ (m : Nat) d, ds[m]? = some d → ∃ ct, cts[m]? = some ct ∧ ∀ N' s H C cl fp, EL (X.blk s H scope (compEnvC scope cl C X.env) fp) N' (ρ.set n (some (.d d))) M1 elt ct M1)
    (hr : ∀ (p : Addr) (rs : List Addr), p ∉ N.F → (∀ r ∈ rs, r ∉ N.F) → rs.length = cts.length → SJ X N (ρ.set n' (some (.v (.ref p)))) (M1 ++ rs.zip cts ++ [(p, rs.map refI)]) rest Z)
    (hy : X.N[n']? = some y := by rfl) (hyl : X.env.scope.names.lookup y = some .local := by rfl)
    (hsw : swapsWith (.ListComp elt [⟨.Name x p, iter, [], 0⟩] scope pos) (some (.Name y pos')) spos.line X.env = pure true := by exact sw_true rfl rfl rfl (by kernel_rfl))
    (ok : BlkOk X.N X.env.scope scope [(x, n)] := by exact blkOk_by (by kernel_rfl))
    (hgn : ∀ (s : Shared) (H : Hp) (C : Addr) (cl : List (Str × Addr)) (fp : List Addr), PG (X.blk s H scope (compEnvC scope cl C X.env) fp) (.Name x p) (gName n) := by exact fun _ _ _ _ _ => pg_name (by assumption) rfl (Or.inl rfl))
    (hf : ∀ x, foldedSetIterable iter X.env x = pure x := by intro _; rfl) : SJ X N ρ M (.Assign [.Name y pos'] (.ListComp elt [⟨.Name x p, iter, [], 0⟩] scope pos) spos :: rest) Z := sj_cons fun σ H P hh g D E tk z => by
  obtain ⟨ti, pi, hi⟩ := hi
  refine s_of (ps_setLc (i := n') (y := y) (py := pos') (spos := spos) hc hN hy hyl hsw pi ok hgn (fun _ _ _ _ _ => pts_nil) (te := wBE X scope elt) (fun s H C cl fp => ⟨fun pins s1 σ1 H1 Q1 I1 h1 => h1 s H C cl fp pins s1 I1⟩) hf) ?_
  refine lj_nest [n] (gName n) cts hi hz hl (fun m d hd => by
    obtain ⟨ct, a, b⟩ := step m d hd
    exact ⟨_, ct, tgc1 n, a, b⟩) σ H P hh g _ fun p rs H1 P1 e1 hp hrs lrs h1 => ?_
  exact z.nx _ _ _ _ P1 (hr p rs hp hrs lrs) e1 h1 ((g.ex e1).set (it := .v (.ref p)) rfl n')
end
end Kt

/-! Kux: dict comprehensions over any walk, over d.items(); the law at its call, no dict under a lock. -/
namespace Kt
open PySem PySem.Spec PyProof PyProof.Rows L2
/-- a walk that changes nothing but what is new, seen from any point at which Φ holds -/
structure WalkF (Φ : Ent → Prop) (P1 : Hp) (J : L2.It) (ds : List PyData) : Prop where
  go : ∀ i N H P' M', Φ N → i < ds.length → Holds N P' H M' → Ex P1 P' → J.go i H
  stop : ∀ N H P' M', Φ N → Holds N P' H M' → Ex P1 P' → J.stop ds.length H
  yld : ∀ i N H x H' P' M', Φ N → i < ds.length → Holds N P' H M' → Ex P1 P' → J.yld i H x H' → ∃ P'' d, ds[i]? = some d ∧ Ex P' P'' ∧ Holds N P'' H' M' ∧ RepI P'' x (.d d)
  inn : ∀ N H P' M', Φ N → Holds N P' H M' → Φ (inner P' H M')
theorem WalkA.f {P1 : Hp} {J : L2.It} {ds : List PyData} (W : WalkA P1 J ds) : WalkF (fun _ => True) P1 J ds :=
  ⟨fun i N H P' M' _ => W.go i N H P' M', fun N H P' M' _ => W.stop N H P' M', fun i N H x H' P' M' _ => W.yld i N H x H' P' M', fun _ _ _ _ _ _ => trivial⟩
/-- d is under a lock at this point -/
def lkAt (d : Addr) (od : Obj) (kvs : List (Key × V)) (N : Ent) : Prop := N.H0 d = some (.frz od (.dK kvs)) ∧ d ∉ N.F
theorem lkAt.at {d : Addr} {od : Obj} {kvs : List (Key × V)} {N : Ent} {P H : Hp} {M : Mem} (φ : lkAt d od kvs N) (h : Holds N P H M) : H d = some (.frz od (.dK kvs)) := h.fr d _ φ.1 φ.2
theorem lkAt.inn {d : Addr} {od : Obj} {kvs : List (Key × V)} {N : Ent} {P H : Hp} {M : Mem} (φ : lkAt d od kvs N) (h : Holds N P H M) : lkAt d od kvs (inner P H M) := ⟨φ.at h, fun m => by
  obtain ⟨c, hc, e⟩ := List.mem_map.mp m
  obtain ⟨xs, e1, _⟩ := (h.mem c hc).2
  rw [e, φ.at h] at e1
  cases e1⟩
def itmD (es : DC) : List PyData := es.map fun kv => .tuple [kD kv.1, kv.2]
def valsD (es : DC) : List PyData := es.map (·.2)
theorem KV.get2 {P : Hp} : ∀ {i : Nat} {k : Key} {v : V} {kvs : List (Key × V)} {es : DC}, KV P kvs es → kvs[i]? = some (k, v) → ∃ d, es[i]? = some (k, d) ∧ Dn P v d := fun {i k v kvs es} h => by
  induction kvs generalizing es i with
  | nil => intro e; simp at e
  | cons c r ih =>
    intro e
    match c, es, h with
    | (k0, v0), (j0, d0) :: s, h =>
      cases i with
      | zero =>
        cases Option.some.inj e
        cases h.1
        exact ⟨d0, rfl, h.2.1⟩
      | succ i => exact ih (es := s) (i := i) h.2.2 e
theorem walk_itm {d : Addr} {od : Obj} {kvs : List (Key × V)} {es : DC} {P1 : Hp} (kv : KV P1 kvs es) : WalkF (lkAt d od kvs) P1 (Iti d od kvs) (itmD es) := by
  have ll : (itmD es).length = kvs.length := by unfold itmD; rw [List.length_map, kv.len]
  refine ⟨fun i N H P' M' φ hi h e => ⟨φ.at h, by omega⟩, fun N H P' M' φ h e => ⟨φ.at h, by omega⟩, fun i N H x H' P' M' φ hi h e y => ?_, fun N H P' M' φ h => φ.inn h⟩
  obtain ⟨T, k, v, ek, rfl, hT, rfl⟩ := y
  obtain ⟨dd, e1, e2⟩ := kv.get2 ek
  obtain ⟨h5, e5⟩ := h.pers (o := .tup [kV k, v]) hT
  exact ⟨_, .tuple [kD k, dd], by unfold itmD; rw [List.getElem?_map, e1]; rfl, e5, h5, .tup upd_same (.cons (ri_kI k) (.cons (dn_ex e5 _ _ (dn_ex e _ _ e2)) .nil))⟩
theorem walk_val {d : Addr} {od : Obj} {kvs : List (Key × V)} {es : DC} {P1 : Hp} (kv : KV P1 kvs es) : WalkF (lkAt d od kvs) P1 (Itd d od kvs) (valsD es) := by
  have ll : (valsD es).length = kvs.length := by unfold valsD; rw [List.length_map, kv.len]
  refine ⟨fun i N H P' M' φ hi h e => ⟨φ.at h, by omega⟩, fun N H P' M' φ h e => ⟨φ.at h, by omega⟩, fun i N H x H' P' M' φ hi h e y => ?_, fun N H P' M' φ h => φ.inn h⟩
  obtain ⟨rfl, k, ek⟩ := y
  obtain ⟨dd, e1, e2⟩ := kv.get2 ek
  exact ⟨P', dd, by unfold valsD; rw [List.getElem?_map, e1]; rfl, Ex.refl _, h, dn_ex e _ _ e2⟩
section
variable {X : Cx} {N : Ent} {ρ ρ' : Rho} {M M1 M2 : Mem} {a b e tg iter kx vx : Expr} {pos p : Pos} {scope : Scope} {Φ : Ent → Prop}
theorem dc_w {P0 P1 H1 : Hp} {σ : L2.St} {J : L2.It} {ds : List PyData} {vs : List Nat} {tgt : TG} {D : Addr} {Qd : Hp → Prop} (A : Nat → DC) (h1 : Holds N P1 H1 M1) (φ : Φ N) (W : WalkF Φ P1 J ds) (g : Slots P0 σ ρ) (e1 : Ex P0 P1) (hD : H1 D = none) (hA0 : A 0 = []) (hz : ds.length ≤ 100000)
    (step : ∀ (m : Nat) d, ds[m]? = some d → ∃ ρ2 k z, (∀ N', TgC N' ρ vs tgt d ρ2) ∧ A (m + 1) = putD (A m) k z ∧ (A m).length ≤ m ∧
      (∀ N' s H C cl fp, EJ (X.blk s H scope (compEnvC scope cl C X.env) fp) N' ρ2 M1 kx (.d (kD k)) M1) ∧ (∀ N' s H C cl fp, EJ (X.blk s H scope (compEnvC scope cl C X.env) fp) N' ρ2 M1 vx (.d z) M1))
    (q : ∀ H' P', Ex P1 P' → Holds N P' H' M1 → Dn P' (.ref D) (.dict (esD (A ds.length))) → Qd H') :
    ∃ Wm : Nat → Nat → Hp → Prop, (∃ m, Wm 0 m (upd H1 D (.dK []))) ∧ ∀ i m H, Wm i m H →
      (J.stop i H ∧ Qd H) ∨ (J.go i H ∧ ∃ Nx : Hp → Prop, (∀ H', Nx H' → ∃ m', m' < m ∧ Wm (i + 1) m' H') ∧ ∀ x H', J.yld i H x H' → tgt x (wipe σ vs) H' fun σ2 H2 => wipe σ2 vs = wipe σ vs ∧ tYes σ2 H2 fun b H3 =>
        if b = true then (wBE X scope kx) σ2 H3 fun y H4 => (wBE X scope vx) σ2 H4 fun z H5 => ∃ kvs k, y = kV k ∧ H5 D = some (.dK kvs) ∧ kvs.length < sizeLine ∧ Nx (upd H5 D (.dK (putK kvs k z))) else Nx H3) := by
  refine ⟨fun i m H' => m = ds.length - i ∧ i ≤ ds.length ∧ ∃ P', Holds N P' H' M1 ∧ DOk N P' H' M1 [(D, A i)] ∧ Ex P1 P', ⟨ds.length, by simp, Nat.zero_le _, P1, h1.dnew hD, by rw [hA0]; exact DOk.nil.dnew h1 hD, Ex.refl _⟩, ?_⟩
  rintro i m H' ⟨rfl, hil, P', h2', d2', e2'⟩
  by_cases hlt : i < ds.length
  · refine .inr ⟨W.go i N H' P' M1 φ hlt h2' e2', fun H' => i + 1 ≤ ds.length ∧ ∃ P', Holds N P' H' M1 ∧ DOk N P' H' M1 [(D, A (i + 1))] ∧ Ex P1 P', fun H'' p' => ⟨ds.length - (i + 1), by omega, rfl, p'.1, p'.2⟩, fun x' H'' hy => ?_⟩
    obtain ⟨P2, d, ed, e3', h2i, r3⟩ := W.yld i (inner P' H' M1) H' x' H'' P' M1 (W.inn N H' P' M1 φ h2') hlt (enter2 h2') e2' hy
    have h2 := leave2 h2' h2i
    have dd := d2'.leave h2i
    have e2 := e2'.trans e3'
    obtain ⟨ρ2, k, z, T, eA, lA, S1, S2⟩ := step i d ed
    refine T N x' σ H'' P2 _ h2 (g.ex (e1.trans e2)) r3 _ fun σ2 gs hw2 => ⟨hw2, ?_⟩
    unfold tYes
    dsimp only
    rw [if_pos rfl]
    intro s H0 C cl fp
    refine S1 (inner P2 H'' M1) s H0 C cl fp _ H'' P2 (enter2 h2) gs _ fun yk H4 P4 e4 h4i r4 => ?_
    have h4 := leave2 h2 h4i
    have d4 := dd.leave h4i
    intro s H0 C cl fp
    refine S2 (inner P4 H4 M1) s H0 C cl fp _ H4 P4 (enter2 h4) (gs.ex e4) _ fun zv H5 P5 e5 h5i r5 => ?_
    have h5 := leave2 h4 h5i
    have d5 := d4.leave h5i
    obtain ⟨kvs, ek, rk⟩ := d5.ob (D, A i) (List.mem_singleton.mpr rfl)
    refine ⟨kvs, k, rj_key r4, ek, by rw [rk.len]; exact Nat.lt_of_lt_of_le (Nat.lt_of_le_of_lt lA (Nat.lt_of_lt_of_le hlt hz)) (by decide), hlt, P5, h5.dput d5 (List.mem_singleton.mpr rfl), ?_, (e2.trans e4).trans e5⟩
    have d6 := d5.dput (List.mem_singleton.mpr rfl) (rk.put (k0 := k) r5)
    rw [eA]
    have ep : Ds.put [(D, A i)] D (putD (A i) k z) = [(D, putD (A i) k z)] := by
      unfold Ds.put
      simp
    rw [ep] at d6
    exact d6
  · have ei : i = ds.length := by omega
    subst ei
    refine .inl ⟨W.stop N H' P' M1 φ h2' e2', ?_⟩
    obtain ⟨P3, e3, dn, h3, _⟩ := h2'.dfreeze d2' (List.mem_singleton.mpr rfl)
    exact q H' P3 (e2'.trans e3) h3 dn
/-- {k: v for tg in walk} -/
theorem ej_dcA {own : List (Str × Nat)} {g : TG} {ds : List PyData} (A : Nat → DC) (hc : X.calm = true) (hN : X.N.Nodup) (hi : IA X N ρ M tg iter ds M1) (hA0 : A 0 = []) (hz : ds.length ≤ 100000)
    (step : ∀ (m : Nat) d, ds[m]? = some d → ∃ ρ2 k z, (∀ N', TgC N' ρ (own.map (·.2)) g d ρ2) ∧ A (m + 1) = putD (A m) k z ∧ (A m).length ≤ m ∧
      (∀ N' s H C cl fp, EJ (X.blk s H scope (compEnvC scope cl C X.env) fp) N' ρ2 M1 kx (.d (kD k)) M1) ∧ (∀ N' s H C cl fp, EJ (X.blk s H scope (compEnvC scope cl C X.env) fp) N' ρ2 M1 vx (.d z) M1))
    (ok : BlkOk X.N X.env.scope scope own)
    (hgn : ∀ (s : Shared) (H : Hp) (C : Addr) (cl : List (Str × Addr)) (fp : List Addr), PG (X.blk s H scope (compEnvC scope cl C X.env) fp) tg g)
    (hf : ∀ x, foldedSetIterable iter X.env x = pure x := by intro _; rfl) : EJ X N ρ M (.DictComp kx vx [⟨tg, iter, [], 0⟩] scope pos) (.d (.dict (esD (A ds.length)))) M1 := fun σ H P hh gs Q q => by
  obtain ⟨ti, pi, hi⟩ := hi
  refine e_of (pe_dc hc hN pi ok hgn (fun _ _ _ _ _ => pts_nil) (tk := wBE X scope kx) (fun s H C cl fp => ⟨fun pins s1 σ1 H1 Q1 I1 h1 => h1 s H C cl fp pins s1 I1⟩) (tv := wBE X scope vx) (fun s H C cl fp => ⟨fun pins s1 σ1 H1 Q1 I1 h1 => h1 s H C cl fp pins s1 I1⟩) hf) ?_
  refine hi σ H P hh gs _ fun J H1 P1 e1 h1 W D hD => ?_
  exact dc_w A h1 trivial W.f gs e1 hD hA0 hz step fun H' P' e2 h2 dn => q (.ref D) H' P' (e1.trans e2) h2 dn
/-- {k: v for tg in x.items()}, x a dict that is data; no dict is under a lock at the entry -/
theorem ej_dcI {own : List (Str × Nat)} {g : TG} {elts : List Expr} {kk : Nat} {tpos np apos cpos : Pos} {es : DC} (n : Nat) {x : Str} (A : Nat → DC) (F0 : NzD N.H0) (hc : X.calm = true) (hN : X.N.Nodup) (hρ : ρ[n]? = some (some (.d (.dict (esD es))))) (hA0 : A 0 = []) (hz : es.length ≤ 100000)
    (step : ∀ (m : Nat) d, (itmD es)[m]? = some d → ∃ ρ2 k z, (∀ N', TgC N' ρ (own.map (·.2)) g d ρ2) ∧ A (m + 1) = putD (A m) k z ∧ (A m).length ≤ m ∧
      (∀ N' s H C cl fp, EJ (X.blk s H scope (compEnvC scope cl C X.env) fp) N' ρ2 M kx (.d (kD k)) M) ∧ (∀ N' s H C cl fp, EJ (X.blk s H scope (compEnvC scope cl C X.env) fp) N' ρ2 M vx (.d z) M))
    (ok : BlkOk X.N X.env.scope scope own)
    (hgn : ∀ (s : Shared) (H : Hp) (C : Addr) (cl : List (Str × Addr)) (fp : List Addr), PG (X.blk s H scope (compEnvC scope cl C X.env) fp) (.Tuple elts kk tpos) g)
    (hn : X.N[n]? = some x := by rfl) (hv : Vis X.env.scope x := by first | exact Or.inl rfl | exact Or.inr (Or.inl rfl) | exact Or.inr (Or.inr rfl)) (hd : (x == ("__debug__" : Str)) = false := by decide) (hcd : (x == ("__classdict__" : Str)) = false := by decide)
    (hbase : attributeBase (.Name x np) "items" X.env (eval (.Name x np) X.env) = eval (.Name x np) X.env := by rfl) (hline : (apos.endLine == cpos.line) = true := by rfl)
    (hf : ∀ y, foldedSetIterable (.Call (.Attribute (.Name x np) "items" apos) [] [] cpos) X.env y = pure y := by intro _; rfl) :
    EJ X N ρ M (.DictComp kx vx [⟨.Tuple elts kk tpos, .Call (.Attribute (.Name x np) "items" apos) [] [] cpos, [], 0⟩] scope pos) (.d (.dict (esD (A es.length)))) M := fun σ H P hh gs Q q => by
  obtain ⟨v, ev, rv⟩ := gs.2 n _ hρ
  obtain ⟨d, kvs, rfl, rd, kv⟩ := ri_dic rv
  obtain ⟨hP, hH⟩ := hh.plain F0 rd
  refine e_of (pe_lock (pe_dc hc hN (pi_items (pe_var (i := n) hn hv hd hcd) hbase hline) ok hgn (fun _ _ _ _ _ => pts_nil) (tk := wBE X scope kx) (fun s H C cl fp => ⟨fun pins s1 σ1 H1 Q1 I1 h1 => h1 s H C cl fp pins s1 I1⟩) (tv := wBE X scope vx) (fun s H C cl fp => ⟨fun pins s1 σ1 H1 Q1 I1 h1 => h1 s H C cl fp pins s1 I1⟩) hf)) ⟨d, _, hH, trivial, fun od => ?_⟩
  refine ⟨.ref d, ev, d, od, kvs, rfl, upd_same, fun D hD => ?_⟩
  have h1 := hh.lock (od := od) hP
  have φ : lkAt d od kvs (inner P (upd H d (.frz od (.dK kvs))) M) := ⟨upd_same, fun m => by
    obtain ⟨c, hc, e⟩ := List.mem_map.mp m
    have := (hh.mem c hc).1
    rw [e, hP] at this
    cases this⟩
  have el : es.length = (itmD es).length := by unfold itmD; rw [List.length_map]
  refine dc_w (ds := itmD es) A h1 φ (walk_itm kv) gs (Ex.refl P) hD hA0 (by omega) step fun H' P' e2 h2 dn => ⟨hh.locked hP h2, ?_⟩
  rw [← el] at dn
  exact q (.ref D) _ P' e2 (hh.unlock hP hH h2) dn
theorem sw_trueD {kx vx : Expr} {gs : List Comprehension} {scope : Scope} {pos py : Pos} {y : Str} {l : Nat} {env : Env} (hk : env.scope.kind = .function) (hy : env.scope.names.lookup y = some .local) (hl : (py.line == pos.line) = true)
    (ha : (scope.names.any fun (n, k) => n == y && (k == .local || k == .cell)) = false) : swapsWith (.DictComp kx vx gs scope pos) (some (.Name y py)) l env = pure true := by
  have ky : env.kindOf y = some .local := hy
  have hb : env.blockKind = .function := by unfold Env.blockKind; rw [hk]; rfl
  unfold swapsWith
  simp only [hb, ky, ha, Expr.pos, hl]
  rfl
/-- name = {..} on one line, the name a local -/
theorem ps_setDc {i : Nat} {y : Str} {py : Pos} {kx vx tg iter : Expr} {ifs : List Expr} {scope : Scope} {own : List (Str × Nat)} {pos spos : Pos} {wi : TI} {g : TG} {tt : TT} {tk tv : TE} (hc : X.calm = true) (hN : X.N.Nodup) (hy : X.N[i]? = some y) (hyl : X.env.scope.names.lookup y = some .local)
    (hsw : swapsWith (.DictComp kx vx [⟨tg, iter, ifs, 0⟩] scope pos) (some (.Name y py)) spos.line X.env = pure true) (hi : PI X tg iter wi) (ok : BlkOk X.N X.env.scope scope own)
    (hg : ∀ (s : Shared) (H : Hp) (C : Addr) (cl : List (Str × Addr)) (fp : List Addr), PG (X.blk s H scope (compEnvC scope cl C X.env) fp) tg g) (ht : ∀ (s : Shared) (H : Hp) (C : Addr) (cl : List (Str × Addr)) (fp : List Addr), PTs (X.blk s H scope (compEnvC scope cl C X.env) fp) ifs tt)
    (hk : ∀ (s : Shared) (H : Hp) (C : Addr) (cl : List (Str × Addr)) (fp : List Addr), PE (X.blk s H scope (compEnvC scope cl C X.env) fp) kx tk)
    (he : ∀ (s : Shared) (H : Hp) (C : Addr) (cl : List (Str × Addr)) (fp : List Addr), PE (X.blk s H scope (compEnvC scope cl C X.env) fp) vx tv) (hs : ∀ x, foldedSetIterable iter X.env x = pure x := by intro _; rfl) :
    PS X (.Assign [.Name y py] (.DictComp kx vx [⟨tg, iter, ifs, 0⟩] scope pos) spos) (tAsg (tDc wi g tt tk tv (own.map (·.2))) (gName i)) := by
  refine ⟨fun pins s σ H D I h => ?_⟩
  rw [exec_Assign_Name_used _ _ _ _ hsw]
  refine wpAny_bind (wpAny_standAt (wpAny_bind ?_))
  show wpAny _ X.A (do let _ ← comprehension (.DictComp kx vx [⟨tg, iter, ifs, 0⟩] scope pos) scope X.env (firstIterPos [⟨tg, iter, ifs, 0⟩] pos) newDict false (eval iter X.env) (some (assign (.Name y py) X.env))) _ _ s
  have h : tDc wi g tt tk tv (own.map (·.2)) σ H (fun x H1 => gName i x σ H1 D.nx) := h
  refine wpAny_bind (thn (L2.dc_core (Qf := fun _ s' => SP X pins D .next s') hc hN I hi ok hg ht hk he hs h fun L C s' m H' I' q hn f => ?_) fun _ s' hq => wpAny_pure (wpAny_pure hq))
  show wpAny _ _ (assign (.Name y py) X.env (.ref L)) _ _ _
  refine wpAny_assign_Name (store_ok2 (v := V.ref L) I' hN hy (.inl hyl) rfl (fun s2 I2 ⟨a, sb, ha⟩ => ?_) (.inr hyl))
  obtain ⟨f0, f1, f2, f3, f4, f5⟩ := f
  have haC : C ≠ a := by
    rcases ha with z | z
    · rw [z]; exact f1
    · exact fun e => f4 y a z e.symm
  refine ⟨m, hn.sameBut sb haC, fun h3 sb3 => ?_⟩
  exact ⟨_, H', I2.turned (t' := s2.toks) (fun b o hb e => (sb3.2 b hb).trans e) f0 f1 f3 f4 f5, q⟩
/-- y = {k: v for tg in walk} -/
theorem sj_setDcA {Z : Post} {rest : List Stmt} {own : List (Str × Nat)} {g : TG} {ds : List PyData} (n' : Nat) {y : Str} {py spos : Pos} (A : Nat → DC) (hc : X.calm = true) (hN : X.N.Nodup) (hi : IA X N ρ M tg iter ds M1) (hA0 : A 0 = []) (hz : ds.length ≤ 100000)
    (step : ∀ (m : Nat) d, ds[m]? = some d → ∃ ρ2 k z, (∀ N', TgC N' ρ (own.map (·.2)) g d ρ2) ∧ A (m + 1) = putD (A m) k z ∧ (A m).length ≤ m ∧
      (∀ N' s H C cl fp, EJ (X.blk s H scope (compEnvC scope cl C X.env) fp) N' ρ2 M1 kx (.d (kD k)) M1) ∧ (∀ N' s H C cl fp, EJ (X.blk s H scope (compEnvC scope cl C X.env) fp) N' ρ2 M1 vx (.d z) M1))
    (ok : BlkOk X.N X.env.scope scope own)
    (hgn : ∀ (s : Shared) (H : Hp) (C : Addr) (cl : List (Str × Addr)) (fp : List Addr), PG (X.blk s H scope (compEnvC scope cl C X.env) fp) tg g)
    (hr : SJ X N (ρ.set n' (some (.d (.dict (esD (A ds.length)))))) M1 rest Z)
    (hy : X.N[n']? = some y := by rfl) (hyl : X.env.scope.names.lookup y = some .local := by rfl)
    (hsw : swapsWith (.DictComp kx vx [⟨tg, iter, [], 0⟩] scope pos) (some (.Name y py)) spos.line X.env = pure true := by exact sw_trueD rfl rfl rfl (by kernel_rfl))
    (hf : ∀ x, foldedSetIterable iter X.env x = pure x := by intro _; rfl) : SJ X N ρ M (.Assign [.Name y py] (.DictComp kx vx [⟨tg, iter, [], 0⟩] scope pos) spos :: rest) Z := sj_cons fun σ H P hh gs D E tk z => by
  obtain ⟨ti, pi, hi⟩ := hi
  refine s_of (ps_setDc (i := n') hc hN hy hyl hsw pi ok hgn (fun _ _ _ _ _ => pts_nil) (tk := wBE X scope kx) (fun s H C cl fp => ⟨fun pins s1 σ1 H1 Q1 I1 h1 => h1 s H C cl fp pins s1 I1⟩) (tv := wBE X scope vx) (fun s H C cl fp => ⟨fun pins s1 σ1 H1 Q1 I1 h1 => h1 s H C cl fp pins s1 I1⟩) hf) ?_
  refine hi σ H P hh gs _ fun J H1 P1 e1 h1 W D0 hD => ?_
  exact dc_w A h1 trivial W.f gs e1 hD hA0 hz step fun H' P' e2 h2 dn => z.nx _ _ _ _ P' hr (e1.trans e2) h2 ((gs.ex (e1.trans e2)).set (it := .d _) dn n')
/-- y = {k: v for tg in x.items()} -/
theorem sj_setDcI {Z : Post} {rest : List Stmt} {own : List (Str × Nat)} {g : TG} {elts : List Expr} {kk : Nat} {tpos np apos cpos : Pos} {es : DC} (n' : Nat) {y : Str} {py spos : Pos} (n : Nat) {x : Str} (A : Nat → DC) (F0 : NzD N.H0) (hc : X.calm = true) (hN : X.N.Nodup) (hρ : ρ[n]? = some (some (.d (.dict (esD es))))) (hA0 : A 0 = []) (hz : es.length ≤ 100000)
    (step : ∀ (m : Nat) d, (itmD es)[m]? = some d → ∃ ρ2 k z, (∀ N', TgC N' ρ (own.map (·.2)) g d ρ2) ∧ A (m + 1) = putD (A m) k z ∧ (A m).length ≤ m ∧
      (∀ N' s H C cl fp, EJ (X.blk s H scope (compEnvC scope cl C X.env) fp) N' ρ2 M kx (.d (kD k)) M) ∧ (∀ N' s H C cl fp, EJ (X.blk s H scope (compEnvC scope cl C X.env) fp) N' ρ2 M vx (.d z) M))
    (ok : BlkOk X.N X.env.scope scope own)
    (hgn : ∀ (s : Shared) (H : Hp) (C : Addr) (cl : List (Str × Addr)) (fp : List Addr), PG (X.blk s H scope (compEnvC scope cl C X.env) fp) (.Tuple elts kk tpos) g)
    (hr : SJ X N (ρ.set n' (some (.d (.dict (esD (A es.length)))))) M rest Z)
    (hy : X.N[n']? = some y := by rfl) (hyl : X.env.scope.names.lookup y = some .local := by rfl)
    (hsw : swapsWith (.DictComp kx vx [⟨.Tuple elts kk tpos, .Call (.Attribute (.Name x np) "items" apos) [] [] cpos, [], 0⟩] scope pos) (some (.Name y py)) spos.line X.env = pure true := by exact sw_trueD rfl rfl rfl (by kernel_rfl))
    (hn : X.N[n]? = some x := by rfl) (hv : Vis X.env.scope x := by first | exact Or.inl rfl | exact Or.inr (Or.inl rfl) | exact Or.inr (Or.inr rfl)) (hd : (x == ("__debug__" : Str)) = false := by decide) (hcd : (x == ("__classdict__" : Str)) = false := by decide)
    (hbase : attributeBase (.Name x np) "items" X.env (eval (.Name x np) X.env) = eval (.Name x np) X.env := by rfl) (hline : (apos.endLine == cpos.line) = true := by rfl)
    (hf : ∀ y, foldedSetIterable (.Call (.Attribute (.Name x np) "items" apos) [] [] cpos) X.env y = pure y := by intro _; rfl) :
    SJ X N ρ M (.Assign [.Name y py] (.DictComp kx vx [⟨.Tuple elts kk tpos, .Call (.Attribute (.Name x np) "items" apos) [] [] cpos, [], 0⟩] scope pos) spos :: rest) Z := sj_cons fun σ H P hh gs D E tk z => by
  obtain ⟨v, ev, rv⟩ := gs.2 n _ hρ
  obtain ⟨d, kvs, rfl, rd, kv⟩ := ri_dic rv
  obtain ⟨hP, hH⟩ := hh.plain F0 rd
  refine s_of (ps_lock (ps_setDc (i := n') hc hN hy hyl hsw (pi_items (pe_var (i := n) hn hv hd hcd) hbase hline) ok hgn (fun _ _ _ _ _ => pts_nil) (tk := wBE X scope kx) (fun s H C cl fp => ⟨fun pins s1 σ1 H1 Q1 I1 h1 => h1 s H C cl fp pins s1 I1⟩) (tv := wBE X scope vx) (fun s H C cl fp => ⟨fun pins s1 σ1 H1 Q1 I1 h1 => h1 s H C cl fp pins s1 I1⟩) hf)) ⟨d, _, hH, trivial, fun od => ?_⟩
  refine ⟨.ref d, ev, d, od, kvs, rfl, upd_same, fun D0 hD => ?_⟩
  have h1 := hh.lock (od := od) hP
  have φ : lkAt d od kvs (inner P (upd H d (.frz od (.dK kvs))) M) := ⟨upd_same, fun m => by
    obtain ⟨c, hc, e⟩ := List.mem_map.mp m
    have := (hh.mem c hc).1
    rw [e, hP] at this
    cases this⟩
  have el : es.length = (itmD es).length := by unfold itmD; rw [List.length_map]
  refine dc_w (ds := itmD es) A h1 φ (walk_itm kv) gs (Ex.refl P) hD hA0 (by omega) step fun H' P' e2 h2 dn => ⟨hh.locked hP h2, ?_⟩
  rw [← el] at dn
  exact z.nx _ _ _ _ P' hr e2 (hh.unlock hP hH h2) ((gs.ex e2).set (it := .d _) dn n')
/-! targets, piece by piece -/
def TgP (N : Ent) (vs : List Nat) (g : TG) (d : PyData) (ρ ρ' : Rho) : Prop := ∀ v σ H P M, Holds N P H M → Slots P σ ρ → RepI P v (.d d) → ∀ Q : L2.St → Hp → Prop, (∀ σ2, Slots P σ2 ρ' → σ2.length = σ.length → (∀ i, i ∉ vs → σ2[i]? = σ[i]?) → Q σ2 H) → g v σ H Q
def TgPs (N : Ent) (vs : List Nat) (g : TGs) (ds : List PyData) (ρ ρ' : Rho) : Prop := ∀ us σ H P M, Holds N P H M → Slots P σ ρ → DnAll P us ds → ∀ Q : L2.St → Hp → Prop, (∀ σ2, Slots P σ2 ρ' → σ2.length = σ.length → (∀ i, i ∉ vs → σ2[i]? = σ[i]?) → Q σ2 H) → g us σ H Q
theorem tgp_name {vs : List Nat} (n : Nat) {d : PyData} {r : Rho} (hn : n ∈ vs := by decide) : TgP N vs (gName n) d r (r.set n (some (.d d))) := fun v σ H P M hh g rr Q q =>
  q _ (g.set (it := .d d) rr n) (by rw [List.length_set]) fun i hi => by rw [List.getElem?_set_ne (show n ≠ i from fun e => hi (by rw [← e]; exact hn))]
theorem tgp_tup {K : PySem.W.Frag} {vs : List Nat} {m : Nat} {g : TGs} {ds : List PyData} {r r' : Rho} (h : TgPs N vs g ds r r') (hl : ds.length = m := by rfl) : TgP N vs (gTup K m g) (.tuple ds) r r' := fun v σ H P M hh gs rr Q q => by
  obtain ⟨ta, ts, rfl, t1, t2⟩ := ri_tup rr
  exact ⟨ta, ts, rfl, .inl (.inl (hh.ex _ _ t1)), (dnAll_len t2).trans hl, h ts σ H P M hh gs t2 Q q⟩
theorem tgps_nil {vs : List Nat} {r : Rho} : TgPs N vs gNil [] r r := fun us σ H P M hh gs h Q q => by
  cases h
  exact ⟨rfl, q _ gs rfl fun _ _ => rfl⟩
theorem tgps_cons {vs : List Nat} {g : TG} {u : TGs} {d : PyData} {ds : List PyData} {r r1 r2 : Rho} (h : TgP N vs g d r r1) (h2 : TgPs N vs u ds r1 r2) : TgPs N vs (gCons g u) (d :: ds) r r2 := fun us σ H P M hh gs ha Q q => by
  cases ha with
  | cons a b =>
    refine ⟨_, _, rfl, h _ σ H P M hh gs a _ fun σ2 g2 l2 s2 => h2 _ σ2 H P M hh g2 b _ fun σ3 g3 l3 s3 => q σ3 g3 (l3.trans l2) fun i hi => (s3 i hi).trans (s2 i hi)⟩
theorem tgc_of {vs : List Nat} {g : TG} {d : PyData} {r : Rho} (h : TgP N vs g d (rw_ ρ vs) r) : TgC N ρ vs g d r := fun v σ H P M hh gs rr Q q => by
  refine h v (wipe σ vs) H P M hh (slots_wipe gs vs) rr _ fun σ2 g2 l2 s2 => q σ2 g2 (wipe_same (l2.trans (wipe_length ..)) fun i hi => ?_)
  rw [s2 i hi, wipe_get, if_neg hi]
/-- [e for tg in walk] -/
theorem el_compG {own : List (Str × Nat)} {g : TG} {elt : Expr} {φ : Mem → Prop} {ds : List PyData} (A : Nat → List It) (Mi : Nat → Mem) (hc : X.calm = true) (hN : X.N.Nodup) (hi : IWQ φ X N ρ M tg iter ds M1)
    (hφ : ∀ m c, φ (Mi m ++ [c])) (hA0 : A 0 = []) (hM0 : Mi 0 = M1) (hz : ds.length ≤ 100000)
    (step : ∀ (m : Nat) d, ds[m]? = some d → ∃ ρ2 j, TgC N ρ (own.map (·.2)) g d ρ2 ∧ A (m + 1) = A m ++ [j] ∧ (A m).length ≤ m ∧ ∀ N' s H C cl fp, EJ (X.blk s H scope (compEnvC scope cl C X.env) fp) N' ρ2 (Mi m) elt j (Mi (m + 1)))
    (ok : BlkOk X.N X.env.scope scope own)
    (hgn : ∀ (s : Shared) (H : Hp) (C : Addr) (cl : List (Str × Addr)) (fp : List Addr), PG (X.blk s H scope (compEnvC scope cl C X.env) fp) tg g)
    (hf : ∀ x, foldedSetIterable iter X.env x = pure x := by intro _; rfl) : EL X N ρ M (.ListComp elt [⟨tg, iter, [], 0⟩] scope pos) (A ds.length) (Mi ds.length) := by
  obtain ⟨ti, pi, hi⟩ := hi
  exact el_lc (lj_compW (own.map (·.2)) g A Mi hi hφ hA0 hM0 hz step) (pe_lc hc hN pi ok hgn (fun _ _ _ _ _ => pts_nil) (te := wBE X scope elt) (fun s H C cl fp => ⟨fun pins s1 σ1 H1 Q1 I1 h1 => h1 s H C cl fp pins s1 I1⟩) hf)
end
section
variable {P : Program} {w : World} {K : PySem.W.Frag} {mg : Str → Option Value} {base : Heap}
/-- the law, at its call: nothing is under repr, no dict under a lock -/
theorem lawGL_ok {st : Stmt} {f : Addr} {fd : FuncData} {NN : List Str} {l : Nat} (hk : l + 1 ≤ 40) (F : Fun K "law" "law" st f fd) (S : FnScope NN ["script"] (defScope st))
    (body : ∀ X : Cx, (∃ cdv A outer s H E, X = (cxOf CX0 P w K mg base NN "law" (defScope st) f cdv A outer s H E).nox ∧ Room l X.A ∧ X.A.guards = some []) → ∀ N a ns, N.F = [] → NzD N.H0 → ns.length ≤ 63 → SJ X N (rho NN [scr K a ns]) [] (defBody st) { nx := fun _ _ => False, rt := fun i _ => i = dB true }) : RunAt P w K mg base f fd ["script"] (spLaw K) := by
  refine run_at hk F S (fun vs H Q E h => ?_) (fun cdv s H vs Q E hr h => ?_)
  · obtain ⟨a, ns, rfl, _⟩ := h
    rfl
  · obtain ⟨a, ns, rfl, hS, hl, nz, q⟩ := h
    refine ⟨_, pss_w, ?_⟩
    have h0 : Holds (inner H H []) H H [] := ⟨(Ex.refl H).w, Ex.refl H, fun _ _ e _ => e, fun _ e f => absurd e f, fun _ hc => absurd hc (List.not_mem_nil), List.nodup_nil, fun _ ha => ha, fun _ hc => absurd hc (List.not_mem_nil), fun _ _ _ e => e, nz⟩
    have es : L2.start NN [V.ref a] = ([V.ref a] : List V).map some ++ List.replicate (NN.length - ([scr K a ns] : List It).length) none := rfl
    rw [es]
    refine body _ ⟨cdv, callerA, [], s, H, E, rfl, hr, rfl⟩ (inner H H []) a ns rfl nz hl _ H H h0 (slots_start (vs := [V.ref a]) (is := [scr K a ns]) _ ⟨⟨rfl, hS⟩, trivial⟩) _ E0 takes0 ⟨fun _ _ _ _ _ a => a.elim, fun i' M'' v H' P' e _ hh rr => ?_, fun _ _ _ _ _ a => a.elim, fun _ _ _ _ _ a => a.elim, fun _ _ _ _ _ _ _ a => a.elim⟩
    subst e
    rw [ri_bl rr]
    exact q H'
end
end Kt

/-! Kuy: in over tuples of ints; short names for arguments. -/
namespace Kt
open PySem PySem.Spec PyProof PyProof.Rows L2
section
variable {X : Cx} {N : Ent} {ρ ρ' : Rho} {M M1 M2 M3 M4 M5 : Mem} {a b c d e : Expr} {pos : Pos} {i j k l m : It}
theorem inI_mem {n : Int} {ns : List Int} : inI n ns = decide (n ∈ ns) := by
  unfold inI
  rw [Bool.eq_iff_iff, List.any_eq_true, decide_eq_true_iff]
  constructor
  · rintro ⟨x, hx, h⟩
    rw [of_decide_eq_true h]
    exact hx
  · intro h
    exact ⟨n, h, decide_eq_true rfl⟩
theorem tj_inT {n : Int} {ns : List Int} (ha : EJ X N ρ M a (dI n) M1) (hb : EJ X N ρ M1 b (.d (.tuple (ns.map .int))) M2) (hm : behindInMarks .In b = false := by rfl) : TJ X N ρ M (.Compare a [.In] [b] pos) (decide (n ∈ ns)) M2 := tj_cmp op_in_seq hm ha hb fun x y H P h rx ry Q q => by
  cases ri_int rx
  obtain ⟨p, xs, rfl, h1, h2⟩ := ri_tup ry
  have e := DnAll.ints h2
  subst e
  refine ⟨p, _, rfl, .inr (.inl (.inl (h.ex _ _ h1))), rfl, flat_ints ns, ?_⟩
  rw [if_neg (by decide), inV_int, inI_mem]
  exact q _ H P (Ex.refl P) h (.bl _)
theorem tj_ltT {ns ms : List Int} (hu : X.A.units < cLine) (ha : EJ X N ρ M a (.d (.tuple (ns.map .int))) M1) (hb : EJ X N ρ M1 b (.d (.tuple (ms.map .int))) M2) : TJ X N ρ M (.Compare a [.Lt] [b] pos) (HT.lexLt ns ms) M2 := tj_cmp (op_ltT hu) (nomark _) ha hb fun x y H P h rx ry Q q => by
  obtain ⟨p, xs, rfl, h1, h2⟩ := ri_tup rx
  obtain ⟨p', ys, rfl, h3, h4⟩ := ri_tup ry
  have e := DnAll.ints h2
  subst e
  have e := DnAll.ints h4
  subst e
  exact ⟨p, p', ns, ms, rfl, rfl, .inl (.inl (h.ex _ _ h1)), .inl (.inl (h.ex _ _ h3)), q _ H P (Ex.refl P) h (.bl _)⟩
theorem aj1 (h1 : EJ X N ρ M a i M1) (hs : starEach [a] X.env = (false, eval a X.env) :: starEach [] X.env := by rfl) : AJ X N ρ M [a] [i] M1 := aj_cons h1 aj_nil hs
theorem aj2 (h1 : EJ X N ρ M a i M1) (h2 : EJ X N ρ M1 b j M2) (hs : starEach [a, b] X.env = (false, eval a X.env) :: starEach [b] X.env := by rfl) (hs2 : starEach [b] X.env = (false, eval b X.env) :: starEach [] X.env := by rfl) : AJ X N ρ M [a, b] [i, j] M2 := aj_cons h1 (aj1 h2 hs2) hs
theorem aj3 (h1 : EJ X N ρ M a i M1) (h2 : EJ X N ρ M1 b j M2) (h3 : EJ X N ρ M2 c k M3) (hs : starEach [a, b, c] X.env = (false, eval a X.env) :: starEach [b, c] X.env := by rfl) (hs2 : starEach [b, c] X.env = (false, eval b X.env) :: starEach [c] X.env := by rfl) (hs3 : starEach [c] X.env = (false, eval c X.env) :: starEach [] X.env := by rfl) : AJ X N ρ M [a, b, c] [i, j, k] M3 := aj_cons h1 (aj2 h2 h3 hs2 hs3) hs
theorem aj4 (h1 : EJ X N ρ M a i M1) (h2 : EJ X N ρ M1 b j M2) (h3 : EJ X N ρ M2 c k M3) (h4 : EJ X N ρ M3 d l M4) (hs : starEach [a, b, c, d] X.env = (false, eval a X.env) :: starEach [b, c, d] X.env := by rfl) (hs2 : starEach [b, c, d] X.env = (false, eval b X.env) :: starEach [c, d] X.env := by rfl) (hs3 : starEach [c, d] X.env = (false, eval c X.env) :: starEach [d] X.env := by rfl) (hs4 : starEach [d] X.env = (false, eval d X.env) :: starEach [] X.env := by rfl) : AJ X N ρ M [a, b, c, d] [i, j, k, l] M4 := aj_cons h1 (aj3 h2 h3 h4 hs2 hs3 hs4) hs
variable {iter tg cnd elt : Expr} {scope : Scope}
/-- [e for tg in walk if c] -/
theorem el_compGF {own : List (Str × Nat)} {g : TG} {φ : Mem → Prop} {ds : List PyData} (A : Nat → List It) (Mi : Nat → Mem) (hc : X.calm = true) (hN : X.N.Nodup) (hi : IWQ φ X N ρ M tg iter ds M1)
    (hφ : ∀ m c, φ (Mi m ++ [c])) (hA0 : A 0 = []) (hM0 : Mi 0 = M1) (hz : ds.length ≤ 100000)
    (step : ∀ (m : Nat) d, ds[m]? = some d → ∃ ρ2 t Mm, TgC N ρ (own.map (·.2)) g d ρ2 ∧ (∀ N' s H C cl fp, TJ (X.blk s H scope (compEnvC scope cl C X.env) fp) N' ρ2 (Mi m) cnd t Mm) ∧ (A m).length ≤ m ∧
      (t = true → ∃ j, A (m + 1) = A m ++ [j] ∧ ∀ N' s H C cl fp, EJ (X.blk s H scope (compEnvC scope cl C X.env) fp) N' ρ2 Mm elt j (Mi (m + 1))) ∧ (t = false → A (m + 1) = A m ∧ Mi (m + 1) = Mm))
    (ok : BlkOk X.N X.env.scope scope own)
    (hgn : ∀ (s : Shared) (H : Hp) (C : Addr) (cl : List (Str × Addr)) (fp : List Addr), PG (X.blk s H scope (compEnvC scope cl C X.env) fp) tg g)
    (hf : ∀ x, foldedSetIterable iter X.env x = pure x := by intro _; rfl) : EL X N ρ M (.ListComp elt [⟨tg, iter, [cnd], 0⟩] scope pos) (A ds.length) (Mi ds.length) := by
  obtain ⟨ti, pi, hi⟩ := hi
  exact el_lc (lj_compQ (own.map (·.2)) g A Mi hi hφ hA0 hM0 hz step) (pe_lc hc hN pi ok hgn (tt := wBT X scope cnd) (fun s H C cl fp => pts_one ⟨fun pins s1 σ1 H1 Q1 I1 h1 => h1 s H C cl fp pins s1 I1⟩) (te := wBE X scope elt) (fun s H C cl fp => ⟨fun pins s1 σ1 H1 Q1 I1 h1 => h1 s H C cl fp pins s1 I1⟩) hf)
theorem cut_tk (ds : List PyData) (n : Nat) : cutD ds none (some (n : Int)) = ds.take n := by
  unfold cutD
  rw [HT.sIx_none, HT.sIx_nat, List.drop_zero, Nat.sub_zero]
  by_cases h : n ≤ ds.length
  · rw [Nat.min_eq_left h]
  · rw [Nat.min_eq_right (by omega), List.take_of_length_le (Nat.le_refl _), List.take_of_length_le (by omega)]
end
end Kt

/-! Kuz: zip over a list and a tuple. -/
namespace Kt
open PySem PySem.Spec PyProof PyProof.Rows L2
def ItzM (K : PySem.W.Frag) (a b : Addr) : L2.It :=
  { go := fun k H => ∃ us vs p q, SqL K H a us ∧ SqT K H b vs ∧ us[k]? = some p ∧ vs[k]? = some q
    yld := fun k H v H' => ∃ T p q, v = .ref T ∧ H T = none ∧ H' = upd H T (.tup [p, q]) ∧ (∀ us, SqL K H a us → us[k]? = some p) ∧ (∀ vs, SqT K H b vs → vs[k]? = some q)
    stop := fun k H => ∃ us vs, SqL K H a us ∧ SqT K H b vs ∧ k ≤ us.length ∧ k ≤ vs.length ∧ (k = us.length ∨ k = vs.length) }
def stM (z TI TO p q a b : Addr) (k : Nat) (h : Heap) : Prop := IsZip h z TI TO .none ∧ IsPair h TI (.ref p) (.ref q) ∧ (∃ c d, IsPair h TO c d) ∧ h.IsListIter p a k ∧ h.IsTupleIter q b k
theorem sepM {z TI TO p q a b : Addr} (D : ZipApart z TI TO p q a b) : ZipSep2 z TI TO p q [p, a] [q, b] :=
  { TIz := D.TIz, TOz := D.TOz, TITO := D.TITO, TIi1 := D.TIi1, mem1 := by simp, zf1 := by simp [D.i1z.symm, D.l1z.symm], Tf1 := by simp [D.TOi1, D.l1TO.symm]
    TIi2 := D.TIi2, mem2 := by simp, zf2 := by simp [D.i2z.symm, D.l2z.symm], Tf2 := by simp [D.TOi2, D.l2TO.symm], sep1_2 := by simp [D.i12, D.l2i1.symm], sep2_1 := by simp [D.i12.symm, D.l1i2.symm] }
theorem turn_zipM {P : Program} {w : World} {K : PySem.W.Frag} {es : List Expr} {n0 : Nat} {tp : Pos} {z TI TO p q a b : Addr} (D : ZipApart z TI TO p q a b) :
    Turn P w K (.Tuple es n0 tp) (ItzM K a b) [z, TI, TO, p, q] z (stM z TI TO p q a b) := by
  refine ⟨by simp, ?_, ?_, ?_, ?_, ?_⟩
  · rintro k h ⟨g1, g2, ⟨c, d, g3⟩, ⟨o4, g4, _, t4⟩, ⟨o5, g5, _, t5⟩⟩ x hx
    simp only [List.mem_cons, List.not_mem_nil, or_false] at hx
    rcases hx with rfl | rfl | rfl | rfl | rfl
    · exact ⟨_, g1, fun v e => by cases e⟩
    · exact ⟨_, g2, fun v e => by cases e⟩
    · exact ⟨_, g3, fun v e => by cases e⟩
    · exact ⟨o4, g4, fun v e => by rw [t4] at e; cases e⟩
    · exact ⟨o5, g5, fun v e => by rw [t5] at e; cases e⟩
  · rintro k h h' ⟨g1, g2, ⟨c, d, g3⟩, g4, g5⟩ keep
    exact ⟨keep z (by simp) _ g1, keep TI (by simp) _ g2, ⟨c, d, keep TO (by simp) _ g3⟩, g4.at fun o e => keep p (by simp) o e, g5.at fun o e => keep q (by simp) o e⟩
  · rintro X rfl rfl rfl hc k pins s σ H E I fp ⟨g1, g2, ⟨c, d, g3⟩, g4, g5⟩ ⟨us, vs, x, y, hu, hv, ex, ey⟩
    obtain ⟨its, ru, lu, _⟩ := I.list hu
    obtain ⟨jts, rv, lv, _⟩ := I.tuple hv
    obtain ⟨xv, exv, rx⟩ := ru.get ex
    obtain ⟨yv, eyv, ry⟩ := rv.get ey
    have DA := Draws.list (prog := X.prog) (w := X.w) (A := X.A.in1) (I.ok.hd hc) p a D.l1i1 its.toArray
    have DB := Draws.tuple (prog := X.prog) (w := X.w) (A := X.A.in1) (I.ok.hd hc) q b D.l2i2 jts.toArray
    have klt : k < its.length := (List.getElem?_eq_some_iff.mp exv).1
    have klt2 : k < jts.length := (List.getElem?_eq_some_iff.mp eyv).1
    have lzs : z < s.heap.objs.size := Heap.lt_size g1
    refine wpAny_pyNext_zipD2_item (sepM D) DA DB g1 g2 g3 ⟨g4, lu.isList⟩ ⟨g5, lv⟩ (by simpa using klt) (by simpa using klt2) fun m1 m2 h' tk e1 e2 z' to' sa sb tT hsz keep => ?_
    have f1 : m1 = xv := by
      have e1 : its.toArray[k]? = some m1 := e1
      simp only [List.getElem?_toArray] at e1
      rw [exv] at e1
      exact (Option.some.inj e1).symm
    have f2 : m2 = yv := by
      have e2 : jts.toArray[k]? = some m2 := e2
      simp only [List.getElem?_toArray] at e2
      rw [eyv] at e2
      exact (Option.some.inj e2).symm
    subst f1 f2
    refine ⟨_, rfl, wpAny_letOwnedTupleGo_zip (s := { s with heap := h', toks := tk }) z' fun h2 zz same => ?_⟩
    have ht2 : h2.get? s.heap.objs.size = some { cls := .type "tuple", data := .seq #[m1, m2] } := (same.2 _ (Nat.ne_of_gt lzs)).trans tT
    have fresh : H s.heap.objs.size = none := I.hok.fresh (Nat.le_refl _)
    have nu : ObjOk X.prog X.w (upd H s.heap.objs.size (.tup [x, y])) h2 s.heap.objs.size (.tup [x, y]) := ⟨show 2 ≤ sizeLine by decide, [m1, m2], .cons rx (.cons ry .nil), _, ht2, rfl, _, rfl⟩
    have other : ∀ g o, g ∉ [z, TI, TO, p, q] → s.heap.get? g = some o → h2.get? g = some o := fun g o hg e => by
      simp only [List.mem_cons, List.not_mem_nil, or_false, not_or] at hg
      exact (same.2 g hg.1).trans (keep g o hg.1 hg.2.2.1 hg.2.2.2.1 hg.2.2.2.2 e)
    refine ⟨.ref s.heap.objs.size, _, I.turnedNew (t' := tk) other fp (Nat.le_refl _) nu, rfl, ⟨_, x, y, rfl, fresh, rfl, fun l hl => ?_, fun l hl => ?_⟩, ⟨zz, ?_, ⟨m1, m2, ?_⟩, ?_, ?_⟩, fun g hg => ?_⟩
    · rw [I.list_inj hl hu]; exact ex
    · rw [I.tuple_inj hl hv]; exact ey
    · exact (same.2 _ D.TIz).trans (keep _ _ D.TIz D.TITO D.TIi1 D.TIi2 g2)
    · exact (same.2 _ D.TOz).trans to'
    · exact sa.1.at fun o e => (same.2 _ D.i1z).trans e
    · exact sb.1.at fun o e => (same.2 _ D.i2z).trans e
    · obtain ⟨n, hn⟩ : ∃ n, s.heap.get? g = some n := by
        simp only [List.mem_cons, List.not_mem_nil, or_false] at hg
        rcases hg with rfl | rfl | rfl | rfl | rfl
        · exact ⟨_, g1⟩
        · exact ⟨_, g2⟩
        · exact ⟨_, g3⟩
        · obtain ⟨o, e, _⟩ := g4; exact ⟨o, e⟩
        · obtain ⟨o, e, _⟩ := g5; exact ⟨o, e⟩
      rw [upd_ne (Nat.ne_of_lt (Heap.lt_size hn))]
      exact (fp g hg).1
  · rintro X rfl rfl rfl hc k pins s σ H E I fp ⟨g1, g2, ⟨c, d, g3⟩, g4, g5⟩ ⟨us, vs, hu, hv, lk, lk2, stop⟩
    obtain ⟨its, ru, lu, _⟩ := I.list hu
    obtain ⟨jts, rv, lv, _⟩ := I.tuple hv
    have e1 := ru.length
    have e2 := rv.length
    have DA := Draws.list (prog := X.prog) (w := X.w) (A := X.A.in1) (I.ok.hd hc) p a D.l1i1 its.toArray
    have DB := Draws.tuple (prog := X.prog) (w := X.w) (A := X.A.in1) (I.ok.hd hc) q b D.l2i2 jts.toArray
    refine wpAny_pyNext_zipD2_end (sepM D) DA DB g1 g2 g3 ⟨g4, lu.isList⟩ ⟨g5, lv⟩ (by simp; omega) (by simp; omega) (by simp; omega) fun h' tk keep => ⟨rfl, I.turnedL (t' := tk) (ch := [z, TI, TO, p, q]) (fun g o hg e => ?_) fp⟩
    simp only [List.mem_cons, List.not_mem_nil, or_false, not_or] at hg
    exact keep g o hg.1 hg.2.2.1 hg.2.2.2.1 hg.2.2.2.2 e
  · exact fun A k s Q E st q => wpAny_pyIter_zip st.1 q
def iZipM (K : PySem.W.Frag) (ta : TA) : TI := fun σ H R => ta σ H fun ws H1 => ∃ a b us vs, ws = [.ref a, .ref b] ∧ SqL K H1 a us ∧ SqT K H1 b vs ∧ R (ItzM K a b) H1
theorem pi_zipM {X : Cx} {e e2 : Expr} {ta : TA} {np pos tp : Pos} {es : List Expr} {n0 : Nat} (hg : Gl X "zip") (hm : X.mg "zip" = none) (ha : PA X [e, e2] ta)
    (hs : starEach [e, e2] X.env = (false, eval e X.env) :: starEach [e2] X.env := by rfl) (hpl : (backTo pos (starEach [e2] X.env)).any (·.1) = false := by rfl) :
    PI X (.Tuple es n0 tp) (.Call (.Name "zip" np) [e, e2] [] pos) (iZipM X.K ta) := by
  refine ⟨fun pins s σ H R I h => ?_⟩
  refine Call_ (ld_blt I hg hm boot_zip (PyProof.Rows.callWith_type1 (thn (ha.run pos pins s σ H _ I h) fun ws s1 hw => ?_) hs hpl))
  obtain ⟨wv, H1, I1, r1, a, b, us, vs, rfl, hu, hv, q⟩ := hw
  cases r1 with
  | cons ra rr =>
    cases rr with
    | cons rb rr =>
      cases rr
      cases ra
      cases rb
      obtain ⟨its, ru, lu, _⟩ := I1.list hu
      obtain ⟨jts, rv, lv, _⟩ := I1.tuple hv
      have la : a < s1.heap.objs.size := by obtain ⟨o, e, _⟩ := lu.isList; exact Heap.lt_size e
      have lb : b < s1.heap.objs.size := by obtain ⟨o, e, _⟩ := id lv; exact Heap.lt_size e
      refine zip_begins2 (begins_list a its.toArray) (begins_tuple b jts.toArray) lu.isList lv fun h' gz gT gO g1 g2 _ keep => wpAny_pyIter_zip gz ?_
      refine ⟨_, _, _, ItzM X.K a b, H1, rfl, I1.kept (t' := s1.toks) keep, turn_zipM (PySem.W.ktu_apart s1.heap.objs.size a b la lb), ⟨gz, gT, ⟨_, _, gO⟩, ⟨_, g1, rfl, rfl⟩, ⟨_, g2, rfl, rfl⟩⟩, fun g hg => ?_, q⟩
      simp only [List.mem_cons, List.not_mem_nil, or_false] at hg
      have le : s1.heap.objs.size ≤ g := by rcases hg with rfl | rfl | rfl | rfl | rfl <;> simp
      exact I1.fpOk le (I1.hok.fresh le)
section
variable {X : Cx} {N : Ent} {ρ : Rho} {M M1 M2 : Mem} {a b : Expr} {Δ : Ds}
theorem zipM_core {P1 P2 : Hp} {t u : Addr} {xs ys : List V} {ds es : List PyData} (x1 : P2 t = some (.lst xs)) (x2 : DnAll P2 xs ds) (y1 : P2 u = some (.tup ys)) (y2 : DnAll P2 ys es) :
    WalkA P2 (ItzM X.K t u) (List.zipWith (fun x y => .tuple [x, y]) ds es) := by
  have xl := dnAll_len x2
  have yl := dnAll_len y2
  have zl : (List.zipWith (fun x y => PyData.tuple [x, y]) ds es).length = min ds.length es.length := List.length_zipWith
  refine ⟨fun i N H P' M' hi h2 e2 => ?_, fun N H P' M' h2 e2 => ?_, fun i N H v H' P' M' hi h2 e2 y => ?_⟩
  · exact ⟨xs, ys, _, _, .inl (.inl (h2.ex _ _ (e2 _ _ x1))), .inl (.inl (h2.ex _ _ (e2 _ _ y1))), List.getElem?_eq_getElem (by omega), List.getElem?_eq_getElem (by omega)⟩
  · exact ⟨xs, ys, .inl (.inl (h2.ex _ _ (e2 _ _ x1))), .inl (.inl (h2.ex _ _ (e2 _ _ y1))), by omega, by omega, by omega⟩
  · obtain ⟨T, p, q, rfl, hT, rfl, k1, k2⟩ := y
    have k1 := k1 xs (.inl (.inl (h2.ex _ _ (e2 _ _ x1))))
    have k2 := k2 ys (.inl (.inl (h2.ex _ _ (e2 _ _ y1))))
    have hd := List.getElem?_eq_getElem (l := ds) (i := i) (by omega)
    have he := List.getElem?_eq_getElem (l := es) (i := i) (by omega)
    obtain ⟨v1, ev1, dv1⟩ := dnAll_get x2 hd
    obtain ⟨v2, ev2, dv2⟩ := dnAll_get y2 he
    rw [k1] at ev1
    rw [k2] at ev2
    cases Option.some.inj ev1
    cases Option.some.inj ev2
    obtain ⟨h5, e5⟩ := h2.pers (o := .tup [p, q]) hT
    exact ⟨_, .tuple [ds[i], es[i]], by rw [List.getElem?_zipWith, hd, he], e5, h5, .tup upd_same (.cons (dn_ex e5 _ _ (dn_ex e2 _ _ dv1)) (.cons (dn_ex e5 _ _ (dn_ex e2 _ _ dv2)) .nil))⟩
theorem ia_zipM {p tpos pos : Pos} {elts : List Expr} {kk : Nat} {ds es : List PyData} (hm : X.mg "zip" = none) (ha : EJ X N ρ M a (.d (.list ds)) M1) (hb : EJ X N ρ M1 b (.d (.tuple es)) M2) (hg : Gl X "zip" := by rfl) (hs : starEach [a, b] X.env = (false, eval a X.env) :: starEach [b] X.env := by rfl) (hs2 : starEach [b] X.env = (false, eval b X.env) :: starEach [] X.env := by rfl) (hpl : (backTo pos (starEach [b] X.env)).any (·.1) = false := by rfl) :
    IA X N ρ M (.Tuple elts kk tpos) (.Call (.Name "zip" p) [a, b] [] pos) (List.zipWith (fun x y => .tuple [x, y]) ds es) M2 := by
  refine ⟨_, pi_zipM hg hm pa_w hs hpl, fun σ H P hh g R q => ?_⟩
  refine aj_cons ha (aj_cons hb aj_nil hs2) hs σ H P hh g _ fun vs H1 P1 e1 h1 r1 => ?_
  obtain ⟨x, y, rfl, r2, r3⟩ := ri2 r1
  obtain ⟨t, xs, rfl, x1, x2⟩ := ri_lst r2
  obtain ⟨u, ys, rfl, y1, y2⟩ := ri_tup r3
  exact ⟨t, u, xs, ys, rfl, .inl (.inl (h1.ex _ _ x1)), .inl (.inl (h1.ex _ _ y1)), q _ H1 P1 e1 h1 (zipM_core (P1 := P1) x1 x2 y1 y2)⟩
theorem IA.iw {tg iter : Expr} {ds : List PyData} (h : IA X N ρ M tg iter ds M1) : IW X N ρ M tg iter ds M1 := by
  obtain ⟨ti, pi, k⟩ := h
  refine ⟨ti, pi, fun σ H P hh g R q => k σ H P hh g R fun J H1 P1 e1 h1 W => q J H1 P1 e1 h1 ⟨fun i H P' M' hi h2 e2 _ => W.go i N H P' M' hi h2 e2, fun H P' M' h2 e2 _ => W.stop N H P' M' h2 e2, fun i H x H' P' M' hi h2 e2 _ y => W.yld i N H x H' P' M' hi h2 e2 y⟩⟩
variable {pos : Pos} {c : Expr}
theorem tj_chainS {n m l : Int} (ha : EJ X N ρ M a (dI n) M) (hb : EJ X N ρ M b (dI m) M) (hc : EJ X N ρ M c (dI l) M) (hm : lastMarks [.Lt, .Lt] [b, c] = false := by with_unfolding_all rfl) : TJ X N ρ M (.Compare a [.Lt, .Lt] [b, c] pos) (decide (n < m) && decide (m < l)) M := fun σ H P h g Q q =>
  t_of (pt_chain op_lt op_lt pe_w pe_w pe_w hm) (ha σ H P h g _ fun x H1 P1 e1 h1 r1 => hb σ H1 P1 h1 (g.ex e1) _ fun y H2 P2 e2 h2 r2 => ⟨n, m, ri_int r1, ri_int r2, decide (n < m), rfl, by
    cases z : decide (n < m) with
    | false => exact iteF ⟨false, rfl, by rw [z] at q; exact q H2 P2 (e1.trans e2) h2⟩
    | true => exact iteT (hc σ H2 P2 h2 (g.ex (e1.trans e2)) _ fun w H3 P3 e3 h3 r3 => ⟨m, l, ri_int r2, ri_int r3, _, rfl, by rw [z, Bool.true_and] at q; exact q H3 P3 ((e1.trans e2).trans e3) h3⟩)⟩)
theorem ej_isNo {d : PyData} (ha : EJ X N ρ M a (.d d) M1) (hb : EJ X N ρ M1 b (.d .none) M2) : EJ X N ρ M (.Compare a [.Is] [b] pos) (dB (decide (tyD d = "NoneType"))) M2 := ej_cmp op_isN (nomark _) ha hb fun x y H P h rx ry Q q => by
  cases ri_non ry
  refine ⟨rfl, ?_⟩
  have e : decide (x = V.non) = decide (tyD d = "NoneType") := by
    cases (show Dn P x d from rx) <;> rfl
  rw [e]
  exact q _ H P (Ex.refl P) h (.bl _)
end
end Kt

namespace K14
open PySem PySem.Spec PyProof.Rows L2 Kt
def topS (i : Nat) : Stmt := PySem.Challenge.pw_heardtrue_k14_potentials.main.body.getD i (.Pass ⟨0, 0, 0, 0⟩)
abbrev s_is_integer : Stmt := topS 1
abbrev n_is_integer : List Str := ["thing"]
theorem sc_is_integer : FnScope n_is_integer ["thing"] (defScope s_is_integer) := ⟨rfl, rfl, rfl, by decide +kernel, rfl, by decide +kernel, by decide +kernel⟩
abbrev s_potentials_of : Stmt := topS 3
abbrev n_potentials_of : List Str := ["trellis", "_", "widths", "layers", "table", "layer", "width"]
theorem sc_potentials_of : FnScope n_potentials_of ["trellis"] (defScope s_potentials_of) := ⟨rfl, rfl, rfl, by decide +kernel, rfl, by decide +kernel, by decide +kernel⟩
abbrev s_row_behind : Stmt := topS 4
abbrev n_row_behind : List Str := ["row", "layer", "width", "behind", "room", "after", "_", "cost", "spent"]
theorem sc_row_behind : FnScope n_row_behind ["row", "layer", "width"] (defScope s_row_behind) := ⟨rfl, rfl, rfl, by decide +kernel, rfl, by decide +kernel, by decide +kernel⟩
abbrev s_are_right : Stmt := topS 5
abbrev n_are_right : List Str := ["trellis", "table", "_", "widths", "layers", "at", "layer"]
theorem sc_are_right : FnScope n_are_right ["trellis", "table"] (defScope s_are_right) := ⟨rfl, rfl, rfl, by decide +kernel, rfl, by decide +kernel, by decide +kernel⟩
abbrev s_is_table : Stmt := topS 6
abbrev n_is_table : List Str := ["thing", "widths", "row", "width"]
theorem sc_is_table : FnScope n_is_table ["thing", "widths"] (defScope s_is_table) := ⟨rfl, rfl, rfl, by decide +kernel, rfl, by decide +kernel, by decide +kernel⟩
abbrev s_is_row : Stmt := topS 7
abbrev n_is_row : List Str := ["thing", "width", "item"]
theorem sc_is_row : FnScope n_is_row ["thing", "width"] (defScope s_is_row) := ⟨rfl, rfl, rfl, by decide +kernel, rfl, by decide +kernel, by decide +kernel⟩
abbrev s_is_bounded : Stmt := topS 8
abbrev n_is_bounded : List Str := ["layer", "row", "behind", "room", "after", "_", "cost"]
theorem sc_is_bounded : FnScope n_is_bounded ["layer", "row", "behind"] (defScope s_is_bounded) := ⟨rfl, rfl, rfl, by decide +kernel, rfl, by decide +kernel, by decide +kernel⟩
abbrev s_least_end : Stmt := topS 9
abbrev n_least_end : List Str := ["trellis", "table", "last", "end"]
theorem sc_least_end : FnScope n_least_end ["trellis", "table"] (defScope s_least_end) := ⟨rfl, rfl, rfl, by decide +kernel, rfl, by decide +kernel, by decide +kernel⟩
abbrev s_law_state : Stmt := topS 11
abbrev n_law_state : List Str := ["script", "seed", "cell"]
theorem sc_law_state : FnScope n_law_state ["script"] (defScope s_law_state) := ⟨rfl, rfl, rfl, by decide +kernel, rfl, by decide +kernel, by decide +kernel⟩
abbrev s_law_draw : Stmt := topS 12
abbrev n_law_draw : List Str := ["state", "many", "cells", "value", "mixed"]
theorem sc_law_draw : FnScope n_law_draw ["state", "many"] (defScope s_law_draw) := ⟨rfl, rfl, rfl, by decide +kernel, rfl, by decide +kernel, by decide +kernel⟩
abbrev s_law_trellis : Stmt := topS 13
abbrev n_law_trellis : List Str := ["state", "many", "widths", "most", "layers", "t", "edges", "room", "label", "ends", "k"]
theorem sc_law_trellis : FnScope n_law_trellis ["state"] (defScope s_law_trellis) := ⟨rfl, rfl, rfl, by decide +kernel, rfl, by decide +kernel, by decide +kernel⟩
abbrev s_law_paths : Stmt := topS 14
abbrev n_law_paths : List Str := ["trellis", "rows", "layer", "more", "labels", "room", "cost", "edge"]
theorem sc_law_paths : FnScope n_law_paths ["trellis"] (defScope s_law_paths) := ⟨rfl, rfl, rfl, by decide +kernel, rfl, by decide +kernel, by decide +kernel⟩
abbrev s_law_greatest : Stmt := topS 15
abbrev n_law_greatest : List Str := ["trellis", "word", "widths", "layers", "ends", "made", "rows", "t", "later", "room", "cost", "costs", "row", "width", "edge", "pair"]
theorem sc_law_greatest : FnScope n_law_greatest ["trellis"] (defScope s_law_greatest) := ⟨rfl, rfl, rfl, by decide +kernel, rfl, by decide +kernel, by decide +kernel⟩
abbrev s_law_is_table : Stmt := topS 16
abbrev n_law_is_table : List Str := ["trellis", "table", "t", "one"]
theorem sc_law_is_table : FnScope n_law_is_table ["trellis", "table"] (defScope s_law_is_table) := ⟨rfl, rfl, rfl, by decide +kernel, rfl, by decide +kernel, by decide +kernel⟩
abbrev s_law_right : Stmt := topS 17
abbrev n_law_right : List Str := ["trellis", "table", "t", "room", "other", "label", "cost", "one", "two"]
theorem sc_law_right : FnScope n_law_right ["trellis", "table"] (defScope s_law_right) := ⟨rfl, rfl, rfl, by decide +kernel, rfl, by decide +kernel, by decide +kernel⟩
abbrev s_law_changed : Stmt := topS 18
abbrev n_law_changed : List Str := ["state", "table", "rows", "t", "row", "at", "kind"]
theorem sc_law_changed : FnScope n_law_changed ["state", "table"] (defScope s_law_changed) := ⟨rfl, rfl, rfl, by decide +kernel, rfl, by decide +kernel, by decide +kernel⟩
abbrev s_law : Stmt := topS 19
abbrev n_law : List Str := ["script", "state", "trellis", "best", "paths", "table", "turn", "told", "ends", "least", "end"]
theorem sc_law : FnScope n_law ["script"] (defScope s_law) := ⟨rfl, rfl, rfl, by decide +kernel, rfl, by decide +kernel, by decide +kernel⟩
structure Txt (K : PySem.W.Frag) (mg : Str → Option Value) : Prop where
  f_is_integer : ∃ f fd, Fun K "is_integer" "is_integer" s_is_integer f fd ∧ mg "is_integer" = some (.ref f) ∧ Binds K fd ["thing"] []
  f_potentials_of : ∃ f fd, Fun K "potentials_of" "potentials_of" s_potentials_of f fd ∧ mg "potentials_of" = some (.ref f) ∧ Binds K fd ["trellis"] []
  f_row_behind : ∃ f fd, Fun K "row_behind" "row_behind" s_row_behind f fd ∧ mg "row_behind" = some (.ref f) ∧ Binds K fd ["row", "layer", "width"] []
  f_are_right : ∃ f fd, Fun K "are_right" "are_right" s_are_right f fd ∧ mg "are_right" = some (.ref f) ∧ Binds K fd ["trellis", "table"] []
  f_is_table : ∃ f fd, Fun K "is_table" "is_table" s_is_table f fd ∧ mg "is_table" = some (.ref f) ∧ Binds K fd ["thing", "widths"] []
  f_is_row : ∃ f fd, Fun K "is_row" "is_row" s_is_row f fd ∧ mg "is_row" = some (.ref f) ∧ Binds K fd ["thing", "width"] []
  f_is_bounded : ∃ f fd, Fun K "is_bounded" "is_bounded" s_is_bounded f fd ∧ mg "is_bounded" = some (.ref f) ∧ Binds K fd ["layer", "row", "behind"] []
  f_least_end : ∃ f fd, Fun K "least_end" "least_end" s_least_end f fd ∧ mg "least_end" = some (.ref f) ∧ Binds K fd ["trellis", "table"] []
  f_law_state : ∃ f fd, Fun K "_law_state" "_law_state" s_law_state f fd ∧ mg "_law_state" = some (.ref f) ∧ Binds K fd ["script"] []
  f_law_draw : ∃ f fd, Fun K "_law_draw" "_law_draw" s_law_draw f fd ∧ mg "_law_draw" = some (.ref f) ∧ Binds K fd ["state", "many"] []
  f_law_trellis : ∃ f fd, Fun K "_law_trellis" "_law_trellis" s_law_trellis f fd ∧ mg "_law_trellis" = some (.ref f) ∧ Binds K fd ["state"] []
  f_law_paths : ∃ f fd, Fun K "_law_paths" "_law_paths" s_law_paths f fd ∧ mg "_law_paths" = some (.ref f) ∧ Binds K fd ["trellis"] []
  f_law_greatest : ∃ f fd, Fun K "_law_greatest" "_law_greatest" s_law_greatest f fd ∧ mg "_law_greatest" = some (.ref f) ∧ Binds K fd ["trellis"] []
  f_law_is_table : ∃ f fd, Fun K "_law_is_table" "_law_is_table" s_law_is_table f fd ∧ mg "_law_is_table" = some (.ref f) ∧ Binds K fd ["trellis", "table"] []
  f_law_right : ∃ f fd, Fun K "_law_right" "_law_right" s_law_right f fd ∧ mg "_law_right" = some (.ref f) ∧ Binds K fd ["trellis", "table"] []
  f_law_changed : ∃ f fd, Fun K "_law_changed" "_law_changed" s_law_changed f fd ∧ mg "_law_changed" = some (.ref f) ∧ Binds K fd ["state", "table"] []
  f_law : ∃ f fd, Fun K "law" "law" s_law f fd ∧ mg "law" = some (.ref f) ∧ Binds K fd ["script"] []
  b_abs : mg "abs" = none
  b_all : mg "all" = none
  b_bool : mg "bool" = none
  b_enumerate : mg "enumerate" = none
  b_int : mg "int" = none
  b_isinstance : mg "isinstance" = none
  b_len : mg "len" = none
  b_list : mg "list" = none
  b_min : mg "min" = none
  b_range : mg "range" = none
  b_sorted : mg "sorted" = none
  b_tuple : mg "tuple" = none
  b_zip : mg "zip" = none

/-! ### the law's draws -/
def dropZ : List Int → List Int
  | [] => []
  | v :: r => if v = 0 then dropZ r else v :: r
def drw (cs : List Int) (s many : Int) : Int × List Int × Int :=
  match dropZ cs with
  | [] => ((s * 48271 + 12345) % 2147483647 / 64 % many, [], (s * 48271 + 12345) % 2147483647)
  | v :: r => (v % many, (v / many) :: r, s)
theorem dropZ_len : ∀ l : List Int, (dropZ l).length ≤ l.length
  | [] => Nat.le_refl _
  | v :: r => by
    unfold dropZ
    split
    · exact Nat.le_succ_of_le (dropZ_len r)
    · exact Nat.le_refl _
theorem drw_len (cs : List Int) (s many : Int) : (drw cs s many).2.1.length ≤ cs.length := by
  have := dropZ_len cs
  unfold drw
  cases e : dropZ cs with
  | nil => exact Nat.zero_le _
  | cons v r => rw [e] at this; exact this
theorem drw_lo {many : Int} (cs : List Int) (s : Int) (h : 0 < many) : 0 ≤ (drw cs s many).1 := by
  unfold drw
  cases e : dropZ cs with
  | nil => exact Int.emod_nonneg _ (by omega)
  | cons v r => exact Int.emod_nonneg _ (by omega)
theorem drw_hi {many : Int} (cs : List Int) (s : Int) (h : 0 < many) : (drw cs s many).1 < many := by
  unfold drw
  cases e : dropZ cs with
  | nil => exact Int.emod_lt_of_pos _ h
  | cons v r => exact Int.emod_lt_of_pos _ h
def Stt (a c : Addr) (cs : List Int) (s : Int) : Mem := [(a, [.v (.ref c), dI s]), (c, cs.map dI)]
theorem put_c {a c : Addr} {cs ds : List Int} {s : Int} {its : List Kt.It} (ne : a ≠ c) (e : its = ds.map dI) : (Stt a c cs s).put c its = Stt a c ds s := by
  unfold Stt Mem.put
  simp [ne, e]
theorem put_a {a c : Addr} {cs : List Int} {s s' : Int} {its : List Kt.It} (ne : a ≠ c) (e : its = [.v (.ref c), dI s']) : (Stt a c cs s).put a its = Stt a c cs s' := by
  unfold Stt Mem.put
  simp [ne.symm, e]
theorem stt_a {a c : Addr} {cs : List Int} {s : Int} : (a, [Kt.It.v (.ref c), dI s]) ∈ Stt a c cs s := List.mem_cons_self
theorem stt_c {a c : Addr} {cs : List Int} {s : Int} : (c, cs.map dI) ∈ Stt a c cs s := List.mem_cons_of_mem _ List.mem_cons_self
theorem stt_ne {a c : Addr} {cs : List Int} {s : Int} (h : ((Stt a c cs s).map Prod.fst).Nodup) : a ≠ c := by
  have : a ≠ c ∧ True := by simpa [Stt] using h
  exact this.1
theorem at0 {α : Type} {x : α} {xs : List α} : atI (x :: xs) 0 = some x := atI_nat (j := 0) rfl
theorem wide_ok {m : Int} (h1 : 0 < m) (h2 : m < 18446744073709551616) : 0 < m ∧ m.natAbs.log2 < 9000 := by
  refine ⟨h1, ?_⟩
  have h : m.natAbs < 2 ^ 64 := by omega
  have h0 : m.natAbs ≠ 0 := by omega
  exact Nat.lt_trans ((Nat.log2_lt h0).mpr h) (by decide)
def CoDraw : Co := fun is M i M' => ∃ (a c : Addr) (cs : List Int) (s many : Int), is = [.v (.ref a), dI many] ∧ M = Stt a c cs s ∧ 0 < many ∧ many < 18446744073709551616 ∧ cs.length ≤ 63 ∧ i = dI (drw cs s many).1 ∧ M' = Stt a c (drw cs s many).2.1 (drw cs s many).2.2
section
variable {P : Program} {w : World} {K : PySem.W.Frag} {mg : Str → Option Value} {base : Heap}
theorem d_law_draw (T : Txt K mg) : Def P w K mg base "_law_draw" 1 CoDraw := by
  obtain ⟨f, fd, F, hm, hb⟩ := T.f_law_draw
  refine def_ok F sc_law_draw hm hb (fun is M i M' h => ?_) fun X hX N is M i M' hF hC => ?_
  · obtain ⟨a, c, cs, s, many, rfl, rfl, _, _, _, _, rfl⟩ := h
    exact ⟨rfl, rfl⟩
  · obtain ⟨cdv, A, outer, s, H, E, rfl, hr⟩ := hX
    obtain ⟨a, c, cs, s, many, rfl, rfl, h1, h2, h3, rfl, rfl⟩ := hC
    have nd := sc_law_draw.nd
    refine sj_nd fun hne => ?_
    have ne := stt_ne hne
    refine sj_set 2 nd (ej_ixO (ej_name 0) ej_int stt_a rfl) ?_
    refine sj_while cs.length (fun m ρ M => ∃ l : List Int, m = l.length ∧ l.length ≤ 63 ∧ dropZ l = dropZ cs ∧ ρ = [some (.v (.ref a)), some (dI many), some (.v (.ref c)), none, none] ∧ M = Stt a c l s) ⟨cs, rfl, h3, rfl, rfl, rfl⟩ fun m ρ M hI => ?_
    obtain ⟨l, rfl, hl, hz, rfl, rfl⟩ := hI
    cases l with
    | nil =>
      refine ⟨_, _, tj_w (wj_and (u := true) (tj_gt (ej_lenO T.b_len (ej_name 2) stt_c) ej_int) fun h => ?_), fun h => ?_, fun _ => ?_⟩
      · simp at h
      · simp at h
      · have hd2 : dropZ cs = [] := hz.symm
        have e : drw cs s many = ((s * 48271 + 12345) % 2147483647 / 64 % many, [], (s * 48271 + 12345) % 2147483647) := by unfold drw; rw [hd2]
        rw [e]
        refine sj_if (tj_gt (ej_lenO T.b_len (ej_name 2) stt_c) ej_int) (fun h => by simp at h) fun _ => sj_nil ?_
        refine sj_set 4 nd (ej_mod (ej_intc T.b_int (ej_add (ej_mul (n := s) (ej_ixO (ej_name 0) ej_int stt_a rfl) ej_int (.inr (by decide))) ej_int)) ej_int (by decide)) ?_
        refine sj_setO (n := 1) (ej_name 4) (ej_name 0) ej_int stt_a (by simp) ?_
        refine sj_is (sj_ret (ej_mod (ej_intc T.b_int (ej_fdiv (ej_name 4) ej_int (by decide))) (ej_name 1) h1) ⟨rfl, [], ?_⟩) rfl (put_a ne rfl)
        rw [List.append_nil]
    | cons v r =>
      refine ⟨_, _, tj_w (wj_and (tj_gt (ej_lenO T.b_len (ej_name 2) stt_c) ej_int) fun _ => wj_and1 (tj_eqI (n := v) (ej_ixO (ej_name 2) ej_int stt_c at0) ej_int)), fun h => ?_, fun h => ?_⟩
      · have hv : v = 0 := by simpa using h
        refine sj_popAt (n := 0) (ej_name 2) ej_int stt_c (by simp) (by simp; simp at hl; omega) (sj_nil ⟨r.length, by simp, r, rfl, by simp at hl; omega, ?_, rfl, put_c ne (by simp)⟩)
        rw [← hz]
        show dropZ r = if v = 0 then dropZ r else v :: r
        rw [if_pos hv]
      · have hv : v ≠ 0 := by simpa using h
        have hd2 : dropZ cs = v :: r := by
          rw [← hz]
          show (if v = 0 then dropZ r else v :: r) = _
          rw [if_neg hv]
        have e : drw cs s many = (v % many, (v / many) :: r, s) := by unfold drw; rw [hd2]
        rw [e]
        refine sj_if (tj_gt (ej_lenO T.b_len (ej_name 2) stt_c) ej_int) (fun _ => ?_) fun h => by simp at h
        refine sj_set 3 nd (ej_ixO (k := dI v) (ej_name 2) ej_int stt_c at0) ?_
        refine sj_setO (n := 0) (ej_fdivW (n := v) (ej_name 3) (ej_name 1) (wide_ok h1 h2)) (ej_name 2) ej_int stt_c (by simp) ?_
        refine sj_is (sj_ret (ej_mod (n := v) (ej_intc T.b_int (ej_name 3)) (ej_name 1) h1) ⟨rfl, [], ?_⟩) rfl (put_c (ds := (v / many) :: r) ne (by simp))
        rw [List.append_nil]
end

/-! ### the law's first state -/
def seedOf (ns : List Int) : Int := ns.foldl (fun s n => (s * 31 + n) % 1000003) 7
def absI (n : Int) : Int := if n < 0 then -n else n
def PreState (K : PySem.W.Frag) : Pre := fun is M => M = [] ∧ ∃ a ns, is = [scr K a ns] ∧ ns.length ≤ 63
def CoState (K : PySem.W.Frag) : Co := fun is _ i M' => ∃ a ns p c, is = [scr K a ns] ∧ i = .v (.ref p) ∧ M' = Stt p c (ns.map absI) (seedOf ns + 1) ∧ ns.length ≤ 63
section
variable {P : Program} {w : World} {K : PySem.W.Frag} {mg : Str → Option Value} {base : Heap}
theorem d_law_state (T : Txt K mg) : DefN P w K mg base "_law_state" 1 (PreState K) (CoState K) := by
  obtain ⟨f, fd, F, hm, hb⟩ := T.f_law_state
  refine defN_ok F sc_law_state hm hb (fun is M h => ?_) (fun is M i M' h _ a ha => ?_) fun X hX N is M hF hA => ?_
  · obtain ⟨rfl, a, ns, rfl, _⟩ := h
    rfl
  · obtain ⟨rfl, _⟩ := h
    exact absurd ha List.not_mem_nil
  · obtain ⟨cdv, A, outer, s, H, E, rfl, hr⟩ := hX
    obtain ⟨rfl, a, ns, rfl, hl⟩ := hA
    have nd := sc_law_state.nd
    refine sj_set 1 nd ej_int ?_
    refine sj_forS (ds := ns.map PyData.int) rfl (ej_name 0) scr_src (fun k ρ M => ∃ y, ρ = [some (scr K a ns), some (dI (seedOf (ns.take k))), y] ∧ M = []) ⟨none, rfl, rfl⟩ (fun k d ρ M hk hI => ?_) fun ρ M hI => ?_
    · obtain ⟨y, rfl, rfl⟩ := hI
      rw [List.getElem?_map] at hk
      obtain ⟨n, e1, rfl⟩ := Option.map_eq_some_iff.mp hk
      refine ⟨_, gj_name 2 nd, ?_⟩
      refine sj_set 1 nd (ej_mod (ej_intc T.b_int (ej_add (ej_mul (ej_name 1) ej_int (.inr (by decide))) (ej_name 2))) ej_int (by decide)) (sj_nil ⟨some (dI n), ?_, rfl⟩)
      have e2 : ns.take (k + 1) = ns.take k ++ [n] := by
        rw [List.take_add_one, e1]
        rfl
      have e3 : seedOf (ns.take (k + 1)) = (seedOf (ns.take k) * 31 + n) % 1000003 := by
        unfold seedOf
        rw [e2, List.foldl_append]
        rfl
      rw [e3]
      rfl
    · obtain ⟨y, rfl, rfl⟩ := hI
      rw [List.length_map, List.take_length]
      refine sj_retLL (el_compS 2 (ds := ns.map PyData.int) (fun m => (ns.take m).map fun n => dI (absI n)) (fun _ => []) rfl nd (ej_name 0) scr_src rfl rfl (by simp; omega) (fun m d hm => ?_)) (fun p => ej_add (ej_name 1) ej_int) fun p q => ?_
      · rw [List.getElem?_map] at hm
        obtain ⟨n, e1, rfl⟩ := Option.map_eq_some_iff.mp hm
        refine ⟨dI (absI n), ?_, ?_, fun N' s H C cl fp => ej_abs T.b_abs (ej_name 2)⟩
        · rw [List.take_add_one, e1, List.map_append]
          rfl
        · simp
          omega
      · refine ⟨Stt q p (ns.map absI) (seedOf ns + 1), ⟨a, ns, q, p, rfl, rfl, rfl, hl⟩, ?_, ?_⟩
        · intro c hc
          simp [Stt] at hc
          rcases hc with rfl | rfl
          · simp
          · simp [List.map_map, Function.comp_def]
        · intro h
          have : p ≠ q := by simpa using h
          simpa [Stt] using this.symm
end

/-! several draws -/
def drN (many : Int) : Nat → List Int → Int → List Int × List Int × Int
  | 0, cs, s => ([], cs, s)
  | m + 1, cs, s => ((drN many m cs s).1 ++ [(drw (drN many m cs s).2.1 (drN many m cs s).2.2 many).1], (drw (drN many m cs s).2.1 (drN many m cs s).2.2 many).2.1, (drw (drN many m cs s).2.1 (drN many m cs s).2.2 many).2.2)
theorem drN_ok {many : Int} (h : 0 < many) (cs : List Int) (s : Int) : ∀ m, (drN many m cs s).1.length = m ∧ (drN many m cs s).2.1.length ≤ cs.length ∧ ∀ v ∈ (drN many m cs s).1, 0 ≤ v ∧ v < many
  | 0 => ⟨rfl, Nat.le_refl _, fun v hv => absurd hv List.not_mem_nil⟩
  | m + 1 => by
    obtain ⟨a, b, c⟩ := drN_ok h cs s m
    refine ⟨?_, Nat.le_trans (drw_len _ _ _) b, fun v hv => ?_⟩
    · show (_ ++ [_]).length = _
      rw [List.length_append, a]
      rfl
    · rcases List.mem_append.mp hv with hv | hv
      · exact c v hv
      · rw [List.mem_singleton.mp hv]
        exact ⟨drw_lo _ _ h, drw_hi _ _ h⟩
section
variable {X : Cx} {N : Ent} {ρ : Rho} {M : Mem} {e1 e2 : Expr}
theorem ej_draw {p q : Pos} (F : Def X.prog X.w X.K X.mg X.base "_law_draw" 1 CoDraw) (hr : Room 1 X.A) {a c : Addr} {cs cs' : List Int} {s s' many : Int} {Mr : Mem} (h1 : EJ X N ρ (Stt a c cs s ++ Mr) e1 (.v (.ref a)) (Stt a c cs s ++ Mr)) (h2 : EJ X N ρ (Stt a c cs s ++ Mr) e2 (dI many) (Stt a c cs' s' ++ Mr)) (m0 : 0 < many) (m1 : many < 18446744073709551616) (hl : cs'.length ≤ 63)
    (hg : Gl X "_law_draw" := by rfl) (he : starEach [e1, e2] X.env = (false, eval e1 X.env) :: starEach [e2] X.env := by rfl) (he2 : starEach [e2] X.env = [(false, eval e2 X.env)] := by rfl) (hpl : (backTo q (starEach [e2] X.env)).any (·.1) = false := by rfl) :
    EJ X N ρ (Stt a c cs s ++ Mr) (.Call (.Name "_law_draw" p) [e1, e2] [] q) (dI (drw cs' s' many).1) (Stt a c (drw cs' s' many).2.1 (drw cs' s' many).2.2 ++ Mr) :=
  ej_call F hr (aj_cons h1 (aj_cons h2 aj_nil he2) he) (Mc := Stt a c cs' s') rfl ⟨a, c, cs', s', many, rfl, rfl, m0, m1, hl, rfl, rfl⟩ rfl hg (by decide) he hpl
end

theorem boot_int' : bootBuiltins "int" = some (.type "int") := by decide +kernel
theorem boot_bool' : bootBuiltins "bool" = some (.type "bool") := by decide +kernel
theorem boot_tuple' : bootBuiltins "tuple" = some (.type "tuple") := by decide +kernel
theorem boot_str' : bootBuiltins "str" = some (.type "str") := by decide +kernel
theorem boot_list' : bootBuiltins "list" = some (.type "list") := by decide +kernel
def CoIsInt : Co := fun is M i M' => M = [] ∧ M' = [] ∧ ∃ d, is = [.d d] ∧ i = dB (decide (tyD d = "int"))
theorem take_map_succ {α β : Type} {l : List α} {m : Nat} {x : α} (f : α → β) (h : l[m]? = some x) : (l.take (m + 1)).map f = (l.take m).map f ++ [f x] := by
  rw [List.take_add_one, h, List.map_append]
  rfl
section
variable {P : Program} {w : World} {K : PySem.W.Frag} {mg : Str → Option Value} {base : Heap}
theorem d_is_integer (T : Txt K mg) : Def P w K mg base "is_integer" 1 CoIsInt := by
  obtain ⟨f, fd, F, hm, hb⟩ := T.f_is_integer
  refine def_ok F sc_is_integer hm hb (fun is M i M' h => ?_) fun X hX N is M i M' hF hC => ?_
  · obtain ⟨rfl, rfl, d, rfl, _⟩ := h
    exact ⟨rfl, rfl⟩
  · obtain ⟨cdv, A, outer, s, H, E, rfl, hr⟩ := hX
    obtain ⟨rfl, rfl, d, rfl, rfl⟩ := hC
    refine sj_ret (ej_is (ej_andV (ej_isi T.b_isinstance (ej_name 0) (ej_ty T.b_int boot_int') (kit_int d)) fun _ => ej_one (ej_notV (ej_isi T.b_isinstance (ej_name 0) (ej_ty T.b_bool boot_bool') (kit_bool d)))) ?_) ⟨rfl, [], rfl⟩
    cases d <;> rfl
end

abbrev Ed := Int × Int × Int × Int
/-! ### dicts from whole numbers, with a type -/
abbrev AL (β : Type) := List (Int × β)
def alG {β : Type} (es : AL β) (r : Int) : Option β := (es.find? fun kv => decide (kv.1 = r)).map (·.2)
def alP {β : Type} (es : AL β) (r : Int) (b : β) : AL β := if (es.any fun kv => decide (kv.1 = r)) = true then es.map fun kv => if kv.1 = r then (kv.1, b) else kv else es ++ [(r, b)]
theorem alG_nil {β : Type} (r : Int) : alG ([] : AL β) r = none := rfl
theorem alG_cons {β : Type} (k : Int) (b : β) (es : AL β) (r : Int) : alG ((k, b) :: es) r = if k = r then some b else alG es r := by
  unfold alG
  rw [List.find?_cons]
  by_cases h : k = r
  · rw [if_pos h, decide_eq_true (show ((k, b) : Int × β).1 = r from h)]
    rfl
  · rw [if_neg h, decide_eq_false (show ¬ ((k, b) : Int × β).1 = r from h)]
theorem alG_any {β : Type} : ∀ (es : AL β) (r : Int), (es.any fun kv => decide (kv.1 = r)) = (alG es r).isSome
  | [], r => rfl
  | (k, b) :: es, r => by
    rw [alG_cons, List.any_cons, alG_any es r]
    by_cases h : k = r
    · rw [if_pos h, decide_eq_true (show ((k, b) : Int × β).1 = r from h)]
      rfl
    · rw [if_neg h, decide_eq_false (show ¬ ((k, b) : Int × β).1 = r from h)]
      rfl
theorem alG_app {β : Type} : ∀ (es : AL β) (k : Int) (b : β) (r : Int), alG (es ++ [(k, b)]) r = if (alG es r).isSome then alG es r else if k = r then some b else none
  | [], k, b, r => by rw [List.nil_append, alG_cons]; rfl
  | (k0, b0) :: es, k, b, r => by
    rw [List.cons_append, alG_cons, alG_cons, alG_app es k b r]
    by_cases h : k0 = r
    · rw [if_pos h, if_pos h]; rfl
    · rw [if_neg h, if_neg h]
theorem alG_map {β : Type} (k : Int) (b : β) : ∀ (es : AL β) (r : Int), alG (es.map fun kv => if kv.1 = k then (kv.1, b) else kv) r = if k = r then (alG es r).map fun _ => b else alG es r
  | [], r => by
    rw [List.map_nil, alG_nil]
    split <;> rfl
  | (k0, b0) :: es, r => by
    rw [List.map_cons, alG_cons]
    by_cases h : k0 = k
    · subst h
      rw [if_pos (show ((k0, b0) : Int × β).1 = k0 from rfl)]
      rw [alG_cons, alG_map k0 b es r]
      by_cases h2 : k0 = r
      · rw [if_pos h2, if_pos h2, if_pos h2]; rfl
      · rw [if_neg h2, if_neg h2, if_neg h2, if_neg h2]
    · rw [if_neg (show ¬ ((k0, b0) : Int × β).1 = k from h), alG_cons, alG_map k b es r]
      by_cases h2 : k0 = r
      · rw [if_pos h2, if_pos h2, if_neg (fun e => h (h2.trans e.symm))]
      · rw [if_neg h2, if_neg h2]
theorem alG_put {β : Type} (es : AL β) (k : Int) (b : β) (r : Int) : alG (alP es k b) r = if k = r then some b else alG es r := by
  unfold alP
  rw [alG_any]
  cases e : alG es k with
  | none =>
    rw [Option.isSome_none, if_neg (by decide), alG_app]
    by_cases h : k = r
    · subst h
      rw [e]
      rfl
    · rw [if_neg h, if_neg h]
      cases alG es r <;> rfl
  | some b0 =>
    rw [Option.isSome_some, if_pos rfl, alG_map]
    by_cases h : k = r
    · subst h
      rw [e]
      rfl
    · rw [if_neg h, if_neg h]
theorem alP_len {β : Type} (es : AL β) (k : Int) (b : β) : (alP es k b).length ≤ es.length + 1 := by
  unfold alP
  split
  · rw [List.length_map]; omega
  · rw [List.length_append]; exact Nat.le_refl _
theorem alP_keys {β : Type} (es : AL β) (k : Int) (b : β) : (alP es k b).map (·.1) = if (alG es k).isSome then es.map (·.1) else es.map (·.1) ++ [k] := by
  unfold alP
  rw [alG_any]
  cases e : alG es k with
  | none => rw [Option.isSome_none, if_neg (by decide), if_neg (by decide), List.map_append]; rfl
  | some b0 =>
    rw [Option.isSome_some, if_pos rfl, if_pos rfl, List.map_map]
    refine List.map_congr_left fun kv _ => ?_
    show (if kv.1 = k then (kv.1, b) else kv).1 = kv.1
    split <;> rfl
theorem alG_mem {β : Type} : ∀ {es : AL β} {r : Int}, (alG es r).isSome → r ∈ es.map (·.1)
  | (k, b) :: es, r, h => by
    rw [alG_cons] at h
    rw [List.map_cons]
    by_cases e : k = r
    · subst e
      exact List.mem_cons_self
    · rw [if_neg e] at h
      exact List.mem_cons_of_mem _ (alG_mem h)
theorem alG_none {β : Type} : ∀ {es : AL β} {r : Int}, alG es r = none → r ∉ es.map (·.1)
  | [], _, _ => List.not_mem_nil
  | (k, b) :: es, r, h => by
    rw [alG_cons] at h
    by_cases e : k = r
    · rw [if_pos e] at h; cases h
    · rw [if_neg e] at h
      rw [List.map_cons]
      intro m
      rcases List.mem_cons.mp m with m | m
      · exact e m.symm
      · exact alG_none h m
theorem alP_nodup {β : Type} {es : AL β} (k : Int) (b : β) (h : (es.map (·.1)).Nodup) : ((alP es k b).map (·.1)).Nodup := by
  rw [alP_keys]
  cases e : alG es k with
  | none =>
    rw [Option.isSome_none, if_neg (by decide)]
    refine List.nodup_append.mpr ⟨h, by simp, fun a ha c hc => ?_⟩
    rw [List.mem_singleton.mp hc]
    exact fun q => alG_none e (q ▸ ha)
  | some b0 => rw [Option.isSome_some, if_pos rfl]; exact h
/-! ### paths -/
def pth : List (List Ed) → List Int → Int → List (List Int × Int)
  | [], en, r => if r ∈ en then [([], 0)] else []
  | l :: ls, en, r => l.flatMap fun e => if e.1 = r then (pth ls en e.2.1).map fun p => (e.2.2.1 :: p.1, e.2.2.2 + p.2) else []
abbrev Rw := List Int × Int × Int
def fwd (rows : List Rw) (l : List Ed) : List Rw := rows.flatMap fun w => (l.filter fun e => decide (e.1 = w.2.1)).map fun e => (w.1 ++ [e.2.2.1], e.2.1, w.2.2 + e.2.2.2)
theorem fil_map {β γ : Type} (p : β → Bool) (f : β → List γ) : ∀ l : List β, (l.filter p).flatMap f = l.flatMap fun e => if p e = true then f e else []
  | [] => rfl
  | e :: l => by
    rw [List.filter_cons, List.flatMap_cons, ← fil_map p f l]
    cases p e with
    | true => rw [if_pos rfl, if_pos rfl, List.flatMap_cons]
    | false => rw [if_neg (by decide), if_neg (by decide), List.nil_append]
theorem fwd_pth (en : List Int) : ∀ (ls : List (List Ed)) (rows : List Rw), ((ls.foldl fwd rows).flatMap fun w => if w.2.1 ∈ en then [(w.1, w.2.2)] else []) = rows.flatMap fun w => (pth ls en w.2.1).map fun p => (w.1 ++ p.1, w.2.2 + p.2)
  | [], rows => by
    rw [List.foldl_nil]
    refine congrArg (fun f => rows.flatMap f) (funext fun w => ?_)
    unfold pth
    by_cases h : w.2.1 ∈ en
    · rw [if_pos h, if_pos h, List.map_cons, List.append_nil, Int.add_zero]; rfl
    · rw [if_neg h, if_neg h]; rfl
  | l :: ls, rows => by
    rw [List.foldl_cons, fwd_pth en ls]
    unfold fwd
    rw [List.flatMap_assoc]
    refine congrArg (fun f => rows.flatMap f) (funext fun w => ?_)
    rw [List.flatMap_map, fil_map]
    show _ = (l.flatMap fun e => if e.1 = w.2.1 then (pth ls en e.2.1).map fun p => (e.2.2.1 :: p.1, e.2.2.2 + p.2) else []).map _
    rw [List.map_flatMap]
    refine congrArg (fun f => l.flatMap f) (funext fun e => ?_)
    by_cases h : e.1 = w.2.1
    · rw [if_pos (decide_eq_true h), if_pos h, List.map_map]
      refine List.map_congr_left fun p _ => ?_
      show (w.1 ++ [e.2.2.1] ++ p.1, w.2.2 + e.2.2.2 + p.2) = (w.1 ++ (e.2.2.1 :: p.1), w.2.2 + (e.2.2.2 + p.2))
      rw [List.append_assoc, Int.add_assoc]
      rfl
    · rw [if_neg (by simpa using h), if_neg h]
      rfl
/-! ### the order of paths -/
def lxL : List Int → List Int → Bool
  | [], [] => false
  | [], _ :: _ => true
  | _ :: _, [] => false
  | x :: xs, y :: ys => if x = y then lxL xs ys else decide (x < y)
abbrev CP := Int × List Int
def ltQ (p q : CP) : Bool := if p.1 = q.1 then lxL p.2 q.2 else decide (p.1 < q.1)
def leQ (p q : CP) : Bool := !ltQ q p
theorem lxL_tri : ∀ xs ys : List Int, lxL xs ys = false → lxL ys xs = false → xs = ys
  | [], [], _, _ => rfl
  | [], _ :: _, h, _ => by cases h
  | _ :: _, [], _, h => by cases h
  | x :: xs, y :: ys, h, g => by
    unfold lxL at h g
    by_cases e : x = y
    · subst e
      rw [if_pos rfl] at h g
      rw [lxL_tri xs ys h g]
    · rw [if_neg e] at h
      rw [if_neg (Ne.symm e)] at g
      have := of_decide_eq_false h
      have := of_decide_eq_false g
      omega
theorem lxL_trans : ∀ {xs ys zs : List Int}, lxL xs ys = true → lxL ys zs = true → lxL xs zs = true
  | [], [], _, h, _ => by cases h
  | [], y :: ys, [], _, g => by cases g
  | [], y :: ys, z :: zs, _, _ => rfl
  | x :: xs, [], _, h, _ => by cases h
  | x :: xs, y :: ys, [], _, g => by cases g
  | x :: xs, y :: ys, z :: zs, h, g => by
    unfold lxL at h g ⊢
    by_cases e : x = y
    · subst e
      rw [if_pos rfl] at h
      by_cases e2 : x = z
      · subst e2
        rw [if_pos rfl] at g ⊢
        exact lxL_trans h g
      · rw [if_neg e2] at g ⊢
        exact g
    · rw [if_neg e] at h
      have h := of_decide_eq_true h
      by_cases e2 : y = z
      · subst e2
        rw [if_neg e]
        exact decide_eq_true h
      · rw [if_neg e2] at g
        have g := of_decide_eq_true g
        rw [if_neg (by omega)]
        exact decide_eq_true (by omega)
theorem lxL_irr : ∀ xs : List Int, lxL xs xs = false
  | [] => rfl
  | x :: xs => by
    unfold lxL
    rw [if_pos rfl, lxL_irr xs]
theorem ltQ_trans {p q r : CP} (h : ltQ p q = true) (g : ltQ q r = true) : ltQ p r = true := by
  unfold ltQ at h g ⊢
  by_cases e : p.1 = q.1
  · rw [if_pos e] at h
    by_cases e2 : q.1 = r.1
    · rw [if_pos e2] at g
      rw [if_pos (e.trans e2)]
      exact lxL_trans h g
    · rw [if_neg e2] at g
      rw [if_neg (fun z => e2 (e.symm.trans z)), e]
      exact g
  · rw [if_neg e] at h
    have h := of_decide_eq_true h
    by_cases e2 : q.1 = r.1
    · rw [if_neg (by omega)]
      exact decide_eq_true (by omega)
    · rw [if_neg e2] at g
      have g := of_decide_eq_true g
      rw [if_neg (by omega)]
      exact decide_eq_true (by omega)
theorem ltQ_irr (p : CP) : ltQ p p = false := by
  unfold ltQ
  rw [if_pos rfl, lxL_irr]
theorem ltQ_tri {p q : CP} (h : ltQ p q = false) (g : ltQ q p = false) : p = q := by
  unfold ltQ at h g
  by_cases e : p.1 = q.1
  · rw [if_pos e] at h
    rw [if_pos e.symm] at g
    exact Prod.ext e (lxL_tri _ _ h g)
  · rw [if_neg e] at h
    rw [if_neg (Ne.symm e)] at g
    have := of_decide_eq_false h
    have := of_decide_eq_false g
    omega
theorem leQ_anti {p q : CP} (h : leQ p q = true) (g : leQ q p = true) : p = q := by
  unfold leQ at h g
  exact ltQ_tri (by simpa using g) (by simpa using h)
theorem leQ_total (p q : CP) : (leQ p q || leQ q p) = true := by
  unfold leQ
  cases h : ltQ q p with
  | false => rfl
  | true =>
    cases g : ltQ p q with
    | false => rfl
    | true =>
      have := ltQ_trans h g
      rw [ltQ_irr] at this
      cases this
theorem leQ_trans {p q r : CP} (h : leQ p q = true) (g : leQ q r = true) : leQ p r = true := by
  unfold leQ at h g ⊢
  have h : ltQ q p = false := by simpa using h
  have g : ltQ r q = false := by simpa using g
  cases k : ltQ r p with
  | false => rfl
  | true =>
    cases k2 : ltQ p q with
    | true =>
      have := ltQ_trans k k2
      rw [g] at this
      cases this
    | false =>
      have := ltQ_tri k2 h
      subst this
      rw [g] at k
      cases k
theorem leQ_refl (p : CP) : leQ p p = true := by
  unfold leQ
  rw [ltQ_irr]
  rfl
theorem sorted_uniq : ∀ {a b : List CP}, a.Perm b → a.Pairwise (fun x y => leQ x y = true) → b.Pairwise (fun x y => leQ x y = true) → a = b
  | [], b, h, _, _ => (List.Perm.nil_eq h)
  | x :: a, [], h, _, _ => absurd h.length_eq (by simp)
  | x :: a, y :: b, h, ha, hb => by
    have hx : x ∈ y :: b := h.mem_iff.mp List.mem_cons_self
    have hy : y ∈ x :: a := h.mem_iff.mpr List.mem_cons_self
    have e : x = y := by
      rcases List.mem_cons.mp hx with e | hx
      · exact e
      · rcases List.mem_cons.mp hy with e | hy
        · exact e.symm
        · exact leQ_anti ((List.pairwise_cons.mp ha).1 y hy) ((List.pairwise_cons.mp hb).1 x hx)
    subst e
    rw [sorted_uniq (List.perm_cons x |>.mp h) (List.pairwise_cons.mp ha).2 (List.pairwise_cons.mp hb).2]
def srt (l : List CP) : List CP := l.mergeSort leQ
theorem srt_perm (l : List CP) : (srt l).Perm l := List.mergeSort_perm l leQ
theorem srt_pw (l : List CP) : (srt l).Pairwise (fun x y => leQ x y = true) := List.pairwise_mergeSort (le := leQ) (fun _ _ _ h g => leQ_trans h g) leQ_total l
theorem srt_filter (f : CP → Bool) (l : List CP) : srt (l.filter f) = (srt l).filter f :=
  sorted_uniq ((srt_perm _).trans ((srt_perm l).filter f).symm) (srt_pw _) ((srt_pw l).filter f)
theorem srt_head {l : List CP} {x : CP} (hx : x ∈ l) (h : ∀ y ∈ l, leQ x y = true) : (srt l)[0]? = some x := by
  cases e : srt l with
  | nil =>
    have := (srt_perm l).mem_iff.mpr hx
    rw [e] at this
    exact absurd this List.not_mem_nil
  | cons y r =>
    have p := srt_pw l
    have m := (srt_perm l).mem_iff.mpr hx
    rw [e] at p m
    have hy : y ∈ l := (srt_perm l).mem_iff.mp (by rw [e]; exact List.mem_cons_self)
    have : x = y := by
      rcases List.mem_cons.mp m with m | m
      · exact m
      · exact leQ_anti (h y hy) ((List.pairwise_cons.mp p).1 x m)
    rw [this]
    rfl
/-! ### best paths, backwards -/
def kyE (e : Ed) : Int × Int := (e.1, e.2.2.1)
def kLt (x y : Int × Int) : Prop := x.1 < y.1 ∨ (x.1 = y.1 ∧ x.2 < y.2)
theorem key_same {l : List Ed} (ha : (l.map kyE).Pairwise kLt) {a b : Ed} (h1 : a ∈ l) (h2 : b ∈ l) (h3 : a.1 = b.1) (h4 : a.2.2.1 = b.2.2.1) : a = b := by
  induction l with
  | nil => exact absurd h1 List.not_mem_nil
  | cons x l ih =>
    rw [List.map_cons] at ha
    obtain ⟨p1, p2⟩ := List.pairwise_cons.mp ha
    have no : ∀ y ∈ l, ¬ (x.1 = y.1 ∧ x.2.2.1 = y.2.2.1) := fun y hy ⟨e1, e2⟩ => by
      have := p1 _ (List.mem_map_of_mem hy)
      unfold kLt kyE at this
      dsimp only at this
      omega
    rcases List.mem_cons.mp h1 with e1 | m1
    · rcases List.mem_cons.mp h2 with e2 | m2
      · exact e1.trans e2.symm
      · subst e1; exact absurd ⟨h3, h4⟩ (no b m2)
    · rcases List.mem_cons.mp h2 with e2 | m2
      · subst e2; exact absurd ⟨h3.symm, h4.symm⟩ (no a m1)
      · exact ih p2 m1 m2
abbrev T3 := Int × Int × Int
def feS (cs : AL Int) (es : AL T3) (e : Ed) : AL T3 := match alG cs e.2.1 with
  | none => es
  | some c => match alG es e.1 with
    | none => alP es e.1 (e.2.2.2 + c, e.2.1, e.2.2.1)
    | some t => if e.2.2.2 + c < t.1 then alP es e.1 (e.2.2.2 + c, e.2.1, e.2.2.1) else es
def FeI (cs : AL Int) (l : List Ed) (r : Int) : Option T3 → Prop
  | none => ∀ e ∈ l, e.1 = r → alG cs e.2.1 = none
  | some t => ∃ e ∈ l, e.1 = r ∧ t.2 = (e.2.1, e.2.2.1) ∧ (∃ c, alG cs e.2.1 = some c ∧ t.1 = e.2.2.2 + c) ∧ ∀ e' ∈ l, e'.1 = r → ∀ c', alG cs e'.2.1 = some c' → t.1 < e'.2.2.2 + c' ∨ (t.1 = e'.2.2.2 + c' ∧ t.2.2 ≤ e'.2.2.1)
theorem fe_one {cs : AL Int} {l : List Ed} {es : AL T3} {e : Ed} (h : ∀ r, FeI cs l r (alG es r)) (ha : ∀ e' ∈ l, kLt (kyE e') (kyE e)) (r : Int) : FeI cs (l ++ [e]) r (alG (feS cs es e) r) := by
  have hr := h r
  -- nothing new of room r
  have same : (e.1 = r → alG cs e.2.1 = none) → FeI cs (l ++ [e]) r (alG es r) := fun q => by
    cases k : alG es r with
    | none =>
      rw [k] at hr
      intro e' he' er
      rcases List.mem_append.mp he' with m | m
      · exact hr e' m er
      · rw [List.mem_singleton.mp m] at er ⊢
        exact q er
    | some t =>
      rw [k] at hr
      obtain ⟨e0, m0, a1, a2, a3, a4⟩ := hr
      refine ⟨e0, List.mem_append_left _ m0, a1, a2, a3, fun e' he' er c' hc => ?_⟩
      rcases List.mem_append.mp he' with m | m
      · exact a4 e' m er c' hc
      · rw [List.mem_singleton.mp m] at er hc
        rw [q er] at hc
        cases hc
  unfold feS
  cases hc : alG cs e.2.1 with
  | none => exact same fun _ => hc
  | some c =>
    dsimp only
    have new : (∀ e' ∈ l, e'.1 = e.1 → ∀ c', alG cs e'.2.1 = some c' → e.2.2.2 + c < e'.2.2.2 + c') → FeI cs (l ++ [e]) r (alG (alP es e.1 (e.2.2.2 + c, e.2.1, e.2.2.1)) r) := fun q => by
      rw [alG_put]
      by_cases er : e.1 = r
      · rw [if_pos er]
        refine ⟨e, List.mem_append_right _ (List.mem_singleton.mpr rfl), er, rfl, ⟨c, hc, rfl⟩, fun e' he' er' c' hc' => ?_⟩
        rcases List.mem_append.mp he' with m | m
        · exact .inl (q e' m (er'.trans er.symm) c' hc')
        · rw [List.mem_singleton.mp m] at hc' ⊢
          rw [hc] at hc'
          cases Option.some.inj hc'
          exact .inr ⟨rfl, Int.le_refl _⟩
      · rw [if_neg er]
        exact same fun z => absurd z er
    have hk := h e.1
    cases ke : alG es e.1 with
    | none =>
      dsimp only
      rw [ke] at hk
      exact new fun e' m er c' hc' => by
        rw [hk e' m er] at hc'
        cases hc'
    | some t =>
      dsimp only
      rw [ke] at hk
      obtain ⟨e0, m0, a1, a2, a3, a4⟩ := hk
      by_cases lt : e.2.2.2 + c < t.1
      · rw [if_pos lt]
        exact new fun e' m er c' hc' => by
          have := a4 e' m er c' hc'
          omega
      · rw [if_neg lt]
        by_cases er : e.1 = r
        · subst er
          rw [ke]
          refine ⟨e0, List.mem_append_left _ m0, a1, a2, a3, fun e' he' er' c' hc' => ?_⟩
          rcases List.mem_append.mp he' with m | m
          · exact a4 e' m er' c' hc'
          · rw [List.mem_singleton.mp m] at hc' ⊢
            rw [hc] at hc'
            cases Option.some.inj hc'
            have k := ha e0 m0
            have k2 : t.2.2 = e0.2.2.1 := by rw [a2]
            unfold kLt kyE at k
            dsimp only at k
            by_cases z : t.1 = e.2.2.2 + c
            · exact .inr ⟨z, by omega⟩
            · exact .inl (by omega)
        · exact same fun z => absurd z er
theorem fe_all {cs : AL Int} : ∀ (l2 l1 : List Ed) (es : AL T3), (∀ r, FeI cs l1 r (alG es r)) → ((l1 ++ l2).map kyE).Pairwise kLt → ∀ r, FeI cs (l1 ++ l2) r (alG (l2.foldl (feS cs) es) r)
  | [], l1, es, h, _, r => by
    rw [List.append_nil]
    exact h r
  | e :: l2, l1, es, h, ha, r => by
    have e1 : l1 ++ e :: l2 = (l1 ++ [e]) ++ l2 := by rw [List.append_assoc]; rfl
    have hp : ∀ e' ∈ l1, kLt (kyE e') (kyE e) := fun e' m => by
      rw [List.map_append] at ha
      exact (List.pairwise_append.mp ha).2.2 _ (List.mem_map_of_mem m) _ (List.mem_map_of_mem List.mem_cons_self)
    rw [e1] at ha ⊢
    rw [List.foldl_cons]
    exact fe_all l2 (l1 ++ [e]) (feS cs es e) (fun r => fe_one h hp r) ha r
theorem fe_ok {cs : AL Int} {l : List Ed} (ha : (l.map kyE).Pairwise kLt) (r : Int) : FeI cs l r (alG (l.foldl (feS cs) []) r) :=
  fe_all l [] [] (fun _ _ m => absurd m List.not_mem_nil) ha r
theorem fe_len {cs : AL Int} : ∀ (l : List Ed) (es : AL T3), (l.foldl (feS cs) es).length ≤ es.length + l.length
  | [], es => Nat.le_refl _
  | e :: l, es => by
    have h : (feS cs es e).length ≤ es.length + 1 := by
      unfold feS
      split
      · omega
      · split
        · exact alP_len ..
        · split
          · exact alP_len ..
          · omega
    have := fe_len (cs := cs) l (feS cs es e)
    rw [List.foldl_cons, List.length_cons]
    omega
theorem fe_nodup {cs : AL Int} : ∀ (l : List Ed) (es : AL T3), (es.map (·.1)).Nodup → ((l.foldl (feS cs) es).map (·.1)).Nodup
  | [], es, h => h
  | e :: l, es, h => by
    rw [List.foldl_cons]
    refine fe_nodup l _ ?_
    unfold feS
    split
    · exact h
    · split
      · exact alP_nodup _ _ h
      · split
        · exact alP_nodup _ _ h
        · exact h
def walkL : List (AL T3) → Int → List Int
  | [], _ => []
  | f :: fs, r => match alG f r with
    | some t => t.2.2 :: walkL fs t.2.1
    | none => []
def wkOk : List (AL T3) → Int → Prop
  | [], _ => True
  | f :: fs, r => ∃ t, alG f r = some t ∧ wkOk fs t.2.1
def cs0 (en : List Int) : AL Int := en.foldl (fun d x => alP d x 0) []
def csF (f : AL T3) : AL Int := f.map fun kv => (kv.1, kv.2.1)
def back (en : List Int) : List (List Ed) → List (AL T3) × AL Int
  | [] => ([], cs0 en)
  | l :: ls => (l.foldl (feS (back en ls).2) [] :: (back en ls).1, csF (l.foldl (feS (back en ls).2) []))
theorem alG_csF (r : Int) : ∀ f : AL T3, alG (csF f) r = (alG f r).map (·.1)
  | [] => rfl
  | (k, t) :: f => by
    show alG ((k, t.1) :: csF f) r = _
    rw [alG_cons, alG_cons, alG_csF r f]
    split <;> rfl
theorem alG_cs0 (r : Int) : ∀ (en : List Int) (d : AL Int), alG (en.foldl (fun d x => alP d x 0) d) r = if r ∈ en then some 0 else alG d r
  | [], d => by rw [if_neg List.not_mem_nil]; rfl
  | x :: en, d => by
    rw [List.foldl_cons, alG_cs0 r en, alG_put]
    by_cases h : r ∈ en
    · rw [if_pos h, if_pos (List.mem_cons_of_mem _ h)]
    · rw [if_neg h]
      by_cases e : x = r
      · rw [if_pos e, if_pos (by rw [e]; exact List.mem_cons_self)]
      · rw [if_neg e, if_neg (fun m => by
          rcases List.mem_cons.mp m with m | m
          · exact e m.symm
          · exact h m)]
def BkI (ls : List (List Ed)) (en : List Int) (fs : List (AL T3)) (r : Int) : Option Int → Prop
  | none => pth ls en r = []
  | some s => wkOk fs r ∧ (walkL fs r, s) ∈ pth ls en r ∧ ∀ q ∈ pth ls en r, leQ (s, walkL fs r) (q.2, q.1) = true
theorem lxL_head {x : Int} {xs ys : List Int} (h : lxL ys xs = false) : lxL (x :: ys) (x :: xs) = false := by
  unfold lxL
  rw [if_pos rfl]
  exact h
theorem bk_ok (en : List Int) : ∀ (ls : List (List Ed)), (∀ l ∈ ls, (l.map kyE).Pairwise kLt) → ∀ r, BkI ls en (back en ls).1 r (alG (back en ls).2 r)
  | [], _, r => by
    show BkI [] en [] r (alG (en.foldl (fun d x => alP d x 0) []) r)
    rw [alG_cs0]
    by_cases h : r ∈ en
    · rw [if_pos h]
      refine ⟨trivial, ?_, fun q hq => ?_⟩
      · unfold pth
        rw [if_pos h]
        exact List.mem_singleton.mpr rfl
      · unfold pth at hq
        rw [if_pos h] at hq
        rw [List.mem_singleton.mp hq]
        exact leQ_refl _
    · rw [if_neg h]
      show pth [] en r = []
      unfold pth
      rw [if_neg h]
  | l :: ls, ha, r => by
    have ih := bk_ok en ls fun l' m => ha l' (List.mem_cons_of_mem _ m)
    have fe := fe_ok (cs := (back en ls).2) (ha l List.mem_cons_self) r
    show BkI (l :: ls) en (l.foldl (feS (back en ls).2) [] :: (back en ls).1) r (alG (csF (l.foldl (feS (back en ls).2) [])) r)
    rw [alG_csF]
    generalize hf : l.foldl (feS (back en ls).2) [] = f at fe ⊢
    cases k : alG f r with
    | none =>
      rw [k] at fe
      show (l.flatMap fun e => if e.1 = r then (pth ls en e.2.1).map fun p => (e.2.2.1 :: p.1, e.2.2.2 + p.2) else []) = []
      rw [List.flatMap_eq_nil_iff]
      intro e he
      by_cases er : e.1 = r
      · rw [if_pos er]
        have i := ih e.2.1
        rw [fe e he er] at i
        rw [show pth ls en e.2.1 = [] from i]
        rfl
      · rw [if_neg er]
    | some t =>
      rw [k] at fe
      obtain ⟨e, he, er, t2, ⟨c, hc, t1⟩, best⟩ := fe
      have i := ih e.2.1
      rw [hc] at i
      obtain ⟨i1, i2, i3⟩ := i
      have ew : walkL (f :: (back en ls).1) r = e.2.2.1 :: walkL (back en ls).1 e.2.1 := by
        show (match alG f r with | some t => t.2.2 :: walkL (back en ls).1 t.2.1 | none => []) = _
        rw [k]
        dsimp only
        rw [t2]
      show wkOk (f :: (back en ls).1) r ∧ (walkL (f :: (back en ls).1) r, t.1) ∈ pth (l :: ls) en r ∧ ∀ q ∈ pth (l :: ls) en r, leQ (t.1, walkL (f :: (back en ls).1) r) (q.2, q.1) = true
      refine ⟨⟨t, k, by rw [t2]; exact i1⟩, ?_, fun q hq => ?_⟩
      · rw [ew]
        refine List.mem_flatMap.mpr ⟨e, he, ?_⟩
        rw [if_pos er]
        exact List.mem_map.mpr ⟨_, i2, by rw [t1]⟩
      · rw [ew]
        obtain ⟨e', he', hq⟩ := List.mem_flatMap.mp hq
        by_cases er' : e'.1 = r
        · rw [if_pos er'] at hq
          obtain ⟨p, hp, rfl⟩ := List.mem_map.mp hq
          have i' := ih e'.2.1
          cases kc : alG (back en ls).2 e'.2.1 with
          | none =>
            rw [kc] at i'
            rw [show pth ls en e'.2.1 = [] from i'] at hp
            exact absurd hp List.not_mem_nil
          | some c' =>
            rw [kc] at i'
            obtain ⟨_, j2, j3⟩ := i'
            have j := j3 p hp
            have b := best e' he' er' c' kc
            -- c' <= p.2
            unfold leQ ltQ at j ⊢
            dsimp only at j ⊢
            have cp : c' ≤ p.2 := by
              by_cases z : p.2 = c'
              · omega
              · rw [if_neg z] at j
                have := of_decide_eq_false (by simpa using j : decide (p.2 < c') = false)
                omega
            by_cases z : e'.2.2.2 + p.2 = t.1
            · rw [if_pos z]
              have le : t.2.2 ≤ e'.2.2.1 ∧ p.2 = c' := by omega
              have el : t.2.2 = e.2.2.1 := by rw [t2]
              by_cases zl : e'.2.2.1 = e.2.2.1
              · -- the same edge
                have same : e' = e := key_same (ha l List.mem_cons_self) he' he (er'.trans er.symm) zl
                subst same
                rw [hc] at kc
                cases Option.some.inj kc
                rw [if_pos le.2] at j
                have j : lxL p.1 (walkL (back en ls).1 e'.2.1) = false := by simpa using j
                rw [lxL_head j]
                rfl
              · unfold lxL
                rw [if_neg zl]
                rw [decide_eq_false (by omega)]
                rfl
            · rw [if_neg z, decide_eq_false (by omega)]
              rfl
        · rw [if_neg er'] at hq
          exact absurd hq List.not_mem_nil
/-! ### sorted paths -/
def srtQ (ls : List (List Ed)) (en : List Int) : List CP := srt ((pth ls en 0).map fun p => (p.2, p.1))
theorem best_head {ls : List (List Ed)} {en : List Int} (ha : ∀ l ∈ ls, (l.map kyE).Pairwise kLt) : (alG (back en ls).2 0).map (fun s => (s, walkL (back en ls).1 0)) = (srtQ ls en)[0]? := by
  have b := bk_ok en ls ha 0
  cases k : alG (back en ls).2 0 with
  | none =>
    rw [k] at b
    unfold srtQ
    rw [show pth ls en 0 = [] from b]
    simp [srt]
  | some s =>
    rw [k] at b
    obtain ⟨_, b2, b3⟩ := b
    refine (srt_head (x := (s, walkL (back en ls).1 0)) (List.mem_map.mpr ⟨_, b2, rfl⟩) fun y hy => ?_).symm
    obtain ⟨q, hq, rfl⟩ := List.mem_map.mp hy
    exact b3 q hq
/-! ### one path by its labels -/
def edg (l : List Ed) (r b : Int) : Option Ed := l.find? fun e => decide (e.1 = r) && decide (e.2.2.1 = b)
theorem edg_some {l : List Ed} {r b : Int} {e : Ed} (h : edg l r b = some e) : e ∈ l ∧ e.1 = r ∧ e.2.2.1 = b := by
  unfold edg at h
  have h1 := List.mem_of_find?_eq_some h
  have h2 := List.find?_some h
  have h2 := Bool.and_eq_true_iff.mp h2
  exact ⟨h1, of_decide_eq_true h2.1, of_decide_eq_true h2.2⟩
theorem edg_none {l : List Ed} {r b : Int} (h : edg l r b = none) : ∀ e ∈ l, ¬ (e.1 = r ∧ e.2.2.1 = b) := fun e he ⟨h1, h2⟩ => by
  unfold edg at h
  have := List.find?_eq_none.mp h e he
  rw [decide_eq_true h1, decide_eq_true h2] at this
  exact this rfl
theorem edg_eq {l : List Ed} (ha : (l.map kyE).Pairwise kLt) {e : Ed} (he : e ∈ l) {r b : Int} (h1 : e.1 = r) (h2 : e.2.2.1 = b) : edg l r b = some e := by
  cases k : edg l r b with
  | none => exact absurd ⟨h1, h2⟩ (edg_none k e he)
  | some e' =>
    obtain ⟨m, e1, e2⟩ := edg_some k
    rw [key_same ha m he (e1.trans h1.symm) (e2.trans h2.symm)]
theorem flat_none {β γ : Type} {l : List β} {f : β → List γ} (h : ∀ e ∈ l, f e = []) : l.flatMap f = [] := List.flatMap_eq_nil_iff.mpr h
theorem flat_congr {β γ : Type} {l : List β} {f g : β → List γ} (h : ∀ e ∈ l, f e = g e) : l.flatMap f = l.flatMap g := by
  induction l with
  | nil => rfl
  | cons x l ih =>
    rw [List.flatMap_cons, List.flatMap_cons, h x List.mem_cons_self, ih fun e m => h e (List.mem_cons_of_mem _ m)]
theorem flat_one {γ : Type} {l : List Ed} (ha : (l.map kyE).Pairwise kLt) {r b : Int} {F : Ed → List γ} (h : ∀ e ∈ l, ¬ (e.1 = r ∧ e.2.2.1 = b) → F e = []) : l.flatMap F = match edg l r b with
    | none => []
    | some e => F e := by
  induction l with
  | nil => rfl
  | cons x l ih =>
    have ha2 := ha
    rw [List.map_cons] at ha
    obtain ⟨p1, p2⟩ := List.pairwise_cons.mp ha
    rw [List.flatMap_cons]
    by_cases k : x.1 = r ∧ x.2.2.1 = b
    · rw [edg_eq ha2 List.mem_cons_self k.1 k.2]
      dsimp only
      rw [flat_none fun e he => h e (List.mem_cons_of_mem _ he) fun ⟨e1, e2⟩ => by
        have := p1 _ (List.mem_map_of_mem he)
        unfold kLt kyE at this
        dsimp only at this
        omega, List.append_nil]
    · have : edg (x :: l) r b = edg l r b := by
        unfold edg
        rw [List.find?_cons]
        have : (decide (x.1 = r) && decide (x.2.2.1 = b)) = false := by
          rw [← Bool.not_eq_true, Bool.and_eq_true_iff, decide_eq_true_iff, decide_eq_true_iff]
          exact k
        rw [this]
      rw [this, h x List.mem_cons_self k, List.nil_append]
      exact ih p2 fun e he => h e (List.mem_cons_of_mem _ he)
def cst (en : List Int) : List (List Ed) → List Int → Int → Option Int
  | [], [], r => if r ∈ en then some 0 else none
  | l :: ls, b :: bs, r => match edg l r b with
    | none => none
    | some e => (cst en ls bs e.2.1).map (e.2.2.2 + ·)
  | _, _, _ => none
theorem cst_pth (en : List Int) : ∀ (ls : List (List Ed)) (bs : List Int) (r : Int), (∀ l ∈ ls, (l.map kyE).Pairwise kLt) → ((pth ls en r).filter fun p => decide (p.1 = bs)) = match cst en ls bs r with
    | none => []
    | some c => [(bs, c)]
  | [], [], r, _ => by
    unfold pth cst
    by_cases h : r ∈ en
    · rw [if_pos h, if_pos h]; rfl
    · rw [if_neg h, if_neg h]; rfl
  | [], b :: bs, r, _ => by
    unfold pth cst
    by_cases h : r ∈ en
    · rw [if_pos h]; rfl
    · rw [if_neg h]; rfl
  | l :: ls, [], r, _ => by
    unfold cst
    rw [List.filter_eq_nil_iff]
    intro p hp
    obtain ⟨e, _, hp⟩ := List.mem_flatMap.mp hp
    by_cases h : e.1 = r
    · rw [if_pos h] at hp
      obtain ⟨q, _, rfl⟩ := List.mem_map.mp hp
      simp
    · rw [if_neg h] at hp
      exact absurd hp List.not_mem_nil
  | l :: ls, b :: bs, r, ha => by
    have hl := ha l List.mem_cons_self
    have e1 : ((pth (l :: ls) en r).filter fun p => decide (p.1 = b :: bs)) = l.flatMap fun e => (if e.1 = r then (pth ls en e.2.1).map fun p => (e.2.2.1 :: p.1, e.2.2.2 + p.2) else []).filter fun p => decide (p.1 = b :: bs) := List.filter_flatMap ..
    rw [e1, flat_one (r := r) (b := b) hl fun e he h => ?_]
    · unfold cst
      cases k : edg l r b with
      | none => rfl
      | some e =>
        obtain ⟨_, r1, r2⟩ := edg_some k
        dsimp only
        have ih := cst_pth en ls bs e.2.1 fun l' m => ha l' (List.mem_cons_of_mem _ m)
        rw [if_pos r1, List.filter_map]
        have : ((fun p : List Int × Int => decide (p.1 = b :: bs)) ∘ fun p : List Int × Int => (e.2.2.1 :: p.1, e.2.2.2 + p.2)) = fun p => decide (p.1 = bs) := funext fun p => by
          show decide (e.2.2.1 :: p.1 = b :: bs) = _
          rw [r2]
          simp
        rw [this, ih]
        cases cst en ls bs e.2.1 with
        | none => rfl
        | some c =>
          show [(e.2.2.1 :: bs, e.2.2.2 + c)] = [(b :: bs, e.2.2.2 + c)]
          rw [r2]
    · rw [List.filter_eq_nil_iff]
      intro p hp
      by_cases e1 : e.1 = r
      · rw [if_pos e1] at hp
        obtain ⟨q, _, rfl⟩ := List.mem_map.mp hp
        have : ¬ e.2.2.1 = b := fun z => h ⟨e1, z⟩
        simp [this]
      · rw [if_neg e1] at hp
        exact absurd hp List.not_mem_nil
/-! ### all paths but one -/
def onw (l : List Ed) (r here there b : Int) : List Ed := (l.filter fun e => decide (e.1 = r)).map fun e => (here, if e.2.2.1 = b then there else e.2.1, e.2.2.1, e.2.2.2)
def nxt (l : List Ed) (r b : Int) : Int := match edg l r b with
  | some e => e.2.1
  | none => r
def aptL : List Int → List (List Ed) → List Int → Int → List (List Ed)
  | n :: m :: ns, l :: ls, b :: bs, r => (l ++ onw l r n m b) :: aptL (m :: ns) ls bs (nxt l r b)
  | _, _, _, _ => []
def apt : List Int → List (List Ed) → List Int → List (List Ed)
  | _ :: m :: ns, l :: ls, b :: bs => onw l 0 0 m b :: aptL (m :: ns) ls bs (nxt l 0 b)
  | _, _, _ => []
def wlk : List (List Ed) → List Int → Int → Prop
  | [], [], _ => True
  | l :: ls, b :: bs, r => ∃ e, edg l r b = some e ∧ wlk ls bs e.2.1
  | _, _, _ => False
structure WfE (n m : Int) (l : List Ed) : Prop where
  rng : ∀ e ∈ l, (0 ≤ e.1 ∧ e.1 < n) ∧ (0 ≤ e.2.1 ∧ e.2.1 < m) ∧ 0 ≤ e.2.2.1 ∧ 0 ≤ e.2.2.2
  asc : (l.map kyE).Pairwise kLt
def Wf (en : List Int) : List Int → List (List Ed) → Prop
  | [n], [] => 1 ≤ n ∧ ∀ x ∈ en, 0 ≤ x ∧ x < n
  | n :: m :: ns, l :: ls => 1 ≤ n ∧ WfE n m l ∧ Wf en (m :: ns) ls
  | _, _ => False
theorem Wf.asc {en : List Int} : ∀ {ns : List Int} {ls : List (List Ed)}, Wf en ns ls → ∀ l ∈ ls, (l.map kyE).Pairwise kLt
  | _, [], _, l, h => absurd h List.not_mem_nil
  | n :: m :: ns, l :: ls, ⟨_, w, h⟩, l', hl => by
    rcases List.mem_cons.mp hl with e | hl
    · rw [e]; exact w.asc
    · exact Wf.asc h l' hl
theorem cst_wlk {en : List Int} : ∀ {ls : List (List Ed)} {bs : List Int} {r c : Int}, cst en ls bs r = some c → wlk ls bs r
  | [], [], _, _, _ => trivial
  | [], _ :: _, _, _, h => by cases h
  | _ :: _, [], _, _, h => by cases h
  | l :: ls, b :: bs, r, c, h => by
    unfold cst at h
    cases k : edg l r b with
    | none => rw [k] at h; cases h
    | some e =>
      rw [k] at h
      obtain ⟨c', h1, _⟩ := Option.map_eq_some_iff.mp h
      exact ⟨e, k, cst_wlk h1⟩
theorem onw_fst {l : List Ed} {r here there b : Int} {e : Ed} (h : e ∈ onw l r here there b) : e.1 = here := by
  obtain ⟨e', _, rfl⟩ := List.mem_map.mp h
  rfl
theorem apt_old {en : List Int} : ∀ {ns : List Int} {n : Int} {ls : List (List Ed)} {bs : List Int} {r : Int}, Wf en (n :: ns) ls → wlk ls bs r → ∀ r', r' < n → pth (aptL (n :: ns) ls bs r) en r' = pth ls en r'
  | [], n, [], [], r, _, _, r', _ => rfl
  | m :: ns, n, l :: ls, b :: bs, r, ⟨_, w, h⟩, ⟨e0, k0, hw⟩, r', lt => by
    show ((l ++ onw l r n m b).flatMap fun e => if e.1 = r' then (pth (aptL (m :: ns) ls bs (nxt l r b)) en e.2.1).map fun p => (e.2.2.1 :: p.1, e.2.2.2 + p.2) else []) = l.flatMap fun e => if e.1 = r' then (pth ls en e.2.1).map fun p => (e.2.2.1 :: p.1, e.2.2.2 + p.2) else []
    have en' : nxt l r b = e0.2.1 := by unfold nxt; rw [k0]
    rw [List.flatMap_append, flat_none (l := onw l r n m b) fun e he => by rw [if_neg (by rw [onw_fst he]; omega)], List.append_nil]
    refine flat_congr fun e he => ?_
    rw [en', apt_old h hw e.2.1 (w.rng e he).2.1.2]
theorem apt_step {en : List Int} {ns : List Int} {m n : Int} {l : List Ed} {ls : List (List Ed)} {b : Int} {bs : List Int} {r : Int} {e0 : Ed} (w : WfE n m l) (k0 : edg l r b = some e0) (here : Int)
    (old : ∀ r', r' < m → pth (aptL (m :: ns) ls bs e0.2.1) en r' = pth ls en r') (new : pth (aptL (m :: ns) ls bs e0.2.1) en m = (pth ls en e0.2.1).filter fun p => decide (p.1 ≠ bs)) :
    ((onw l r here m b).flatMap fun e => if e.1 = here then (pth (aptL (m :: ns) ls bs e0.2.1) en e.2.1).map fun p => (e.2.2.1 :: p.1, e.2.2.2 + p.2) else []) = (pth (l :: ls) en r).filter fun p => decide (p.1 ≠ b :: bs) := by
  obtain ⟨m0, r1, r2⟩ := edg_some k0
  have e1 : ((pth (l :: ls) en r).filter fun p => decide (p.1 ≠ b :: bs)) = l.flatMap fun e => (if e.1 = r then (pth ls en e.2.1).map fun p => (e.2.2.1 :: p.1, e.2.2.2 + p.2) else []).filter fun p => decide (p.1 ≠ b :: bs) := List.filter_flatMap ..
  rw [e1]
  unfold onw
  rw [List.flatMap_map, fil_map]
  refine flat_congr fun e he => ?_
  by_cases er : e.1 = r
  · rw [if_pos (decide_eq_true er), if_pos er]
    dsimp only
    rw [if_pos rfl, List.filter_map]
    by_cases eb : e.2.2.1 = b
    · rw [if_pos eb, new]
      have : e = e0 := key_same w.asc he m0 (er.trans r1.symm) (eb.trans r2.symm)
      subst this
      congr 1
      refine congrArg (fun f => List.filter f _) (funext fun p => ?_)
      show decide (p.1 ≠ bs) = decide (e.2.2.1 :: p.1 ≠ b :: bs)
      rw [eb]
      simp
    · rw [if_neg eb, old e.2.1 (w.rng e he).2.1.2]
      congr 1
      refine (List.filter_eq_self.mpr fun p _ => ?_).symm
      show decide (e.2.2.1 :: p.1 ≠ b :: bs) = true
      simp [eb]
  · rw [if_neg (by simpa using er), if_neg er]
    rfl
theorem apt_new {en : List Int} : ∀ {ns : List Int} {n : Int} {ls : List (List Ed)} {bs : List Int} {r : Int}, Wf en (n :: ns) ls → wlk ls bs r → pth (aptL (n :: ns) ls bs r) en n = (pth ls en r).filter fun p => decide (p.1 ≠ bs)
  | [], n, [], [], r, ⟨_, h⟩, _ => by
    show pth [] en n = _
    unfold pth
    rw [if_neg (fun m => by have := h n m; omega)]
    by_cases k : r ∈ en
    · rw [if_pos k]; rfl
    · rw [if_neg k]; rfl
  | m :: ns, n, l :: ls, b :: bs, r, ⟨_, w, h⟩, ⟨e0, k0, hw⟩ => by
    show ((l ++ onw l r n m b).flatMap fun e => if e.1 = n then (pth (aptL (m :: ns) ls bs (nxt l r b)) en e.2.1).map fun p => (e.2.2.1 :: p.1, e.2.2.2 + p.2) else []) = _
    have en' : nxt l r b = e0.2.1 := by unfold nxt; rw [k0]
    rw [List.flatMap_append, flat_none (l := l) fun e he => by rw [if_neg (by have := (w.rng e he).1.2; omega)], List.nil_append, en']
    exact apt_step w k0 n (apt_old h hw) (apt_new h hw)
theorem apt_pth {en : List Int} {ns : List Int} {ls : List (List Ed)} {bs : List Int} (h : Wf en ns ls) (hw : wlk ls bs 0) : pth (apt ns ls bs) (if bs = [] then [] else en) 0 = (pth ls en 0).filter fun p => decide (p.1 ≠ bs) := by
  match ns, ls, bs, h, hw with
  | [n], [], [], h, _ =>
    rw [if_pos rfl]
    show pth [] [] 0 = _
    unfold pth
    rw [if_neg List.not_mem_nil]
    by_cases k : (0 : Int) ∈ en
    · rw [if_pos k]; rfl
    · rw [if_neg k]; rfl
  | n :: m :: ns, l :: ls, b :: bs, ⟨_, w, h⟩, ⟨e0, k0, hw⟩ =>
    rw [if_neg (by simp)]
    show ((onw l 0 0 m b).flatMap fun e => if e.1 = 0 then (pth (aptL (m :: ns) ls bs (nxt l 0 b)) en e.2.1).map fun p => (e.2.2.1 :: p.1, e.2.2.2 + p.2) else []) = _
    have en' : nxt l 0 b = e0.2.1 := by unfold nxt; rw [k0]
    rw [en']
    exact apt_step w k0 0 (apt_old h hw) (apt_new h hw)

/-! ### a drawn trellis -/
def encE (e : Ed) : PyData := .tuple [.int e.1, .int e.2.1, .int e.2.2.1, .int e.2.2.2]
def encL (es : List Ed) : PyData := .list (es.map encE)
structure EdOk (w b : Int) (es : List Ed) : Prop where
  rng : ∀ e ∈ es, (0 ≤ e.1 ∧ e.1 < w) ∧ (0 ≤ e.2.1 ∧ e.2.1 < b) ∧ 0 ≤ e.2.2.1 ∧ 0 ≤ e.2.2.2 ∧ e.2.2.2 < 18446744073709551616 ∧ e.2.2.1 < 100
  asc : (es.map kyE).Pairwise kLt
  len : es.length ≤ 9
def LsOk (ns : List Int) (lss : List (List Ed)) : Prop := ∀ i es, lss[i]? = some es → EdOk (ns.getD i 0) (ns.getD (i + 1) 0) es
structure TrOk (ns : List Int) (lss : List (List Ed)) (en : List Int) : Prop where
  nl : ns.length = lss.length + 1
  l4 : lss.length ≤ 4
  wd : ∀ n ∈ ns, 1 ≤ n ∧ n ≤ 3
  ls : LsOk ns lss
  er : ∀ x ∈ en, 0 ≤ x ∧ x < ns.getD lss.length 0
  ea : en.Pairwise (· < ·)
  el : en.length ≤ 100
def trE (ns : List Int) (lss : List (List Ed)) (en : List Int) : PyData := .tuple [.str "trellis", .tuple (ns.map .int), .list (lss.map encL), .tuple (en.map .int)]
theorem pw_snoc {α : Type} {R : α → α → Prop} {l : List α} {x : α} (h : l.Pairwise R) (hx : ∀ y ∈ l, R y x) : (l ++ [x]).Pairwise R := by
  rw [List.pairwise_append]
  exact ⟨h, List.pairwise_singleton R x, fun a ha b hb => by rw [List.mem_singleton.mp hb]; exact hx a ha⟩
theorem put_none {p : Addr} {X : List Kt.It} : ∀ {M : Mem}, p ∉ M.map Prod.fst → M.put p X = M
  | [], _ => rfl
  | c :: r, h => by
    have h1 : c.1 ≠ p := fun e => h (e ▸ List.mem_cons_self)
    have h2 := put_none (X := X) (M := r) fun e => h (List.mem_cons_of_mem _ e)
    unfold Mem.put at h2 ⊢
    rw [List.map_cons, h2, if_neg h1]
theorem put_mid {p : Addr} {A X : List Kt.It} {M1 M2 : Mem} (nd : ((M1 ++ (p, A) :: M2).map Prod.fst).Nodup) : Mem.put (M1 ++ (p, A) :: M2) p X = M1 ++ (p, X) :: M2 := by
  rw [List.map_append, List.map_cons] at nd
  have h1 : p ∉ M1.map Prod.fst := fun e => (List.nodup_append.mp nd).2.2 _ e _ List.mem_cons_self rfl
  have h2 : p ∉ M2.map Prod.fst := (List.nodup_cons.mp (List.nodup_append.mp nd).2.1).1
  have e1 := put_none (X := X) h1
  have e2 := put_none (X := X) h2
  unfold Mem.put at e1 e2 ⊢
  rw [List.map_append, List.map_cons, e1, e2, if_pos rfl]
def eF : Nat → List Int → Int → List Int × List Int × Int
  | 0, cs, s => ([], cs, s)
  | m + 1, cs, s => (if 0 < (drw (eF m cs s).2.1 (eF m cs s).2.2 4).1 then (eF m cs s).1 ++ [(m : Int)] else (eF m cs s).1, (drw (eF m cs s).2.1 (eF m cs s).2.2 4).2.1, (drw (eF m cs s).2.1 (eF m cs s).2.2 4).2.2)
theorem eF_ok (cs : List Int) (s : Int) : ∀ m, (eF m cs s).1.length ≤ m ∧ (eF m cs s).2.1.length ≤ cs.length ∧ (∀ x ∈ (eF m cs s).1, 0 ≤ x ∧ x < (m : Int)) ∧ (eF m cs s).1.Pairwise (· < ·)
  | 0 => ⟨Nat.le_refl _, Nat.le_refl _, fun x (h : x ∈ ([] : List Int)) => (List.not_mem_nil h).elim, List.Pairwise.nil⟩
  | m + 1 => by
    obtain ⟨a, b, c, d⟩ := eF_ok cs s m
    have hex : (eF (m + 1) cs s).1 = if 0 < (drw (eF m cs s).2.1 (eF m cs s).2.2 4).1 then (eF m cs s).1 ++ [(m : Int)] else (eF m cs s).1 := rfl
    refine ⟨?_, Nat.le_trans (drw_len _ _ _) b, ?_, ?_⟩
    · rw [hex]
      split
      · rw [List.length_append]
        show _ + 1 ≤ m + 1
        omega
      · omega
    · rw [hex]
      split
      · intro x hx
        rcases List.mem_append.mp hx with hx | hx
        · have := c x hx
          omega
        · rw [List.mem_singleton.mp hx]
          omega
      · intro x hx
        have := c x hx
        omega
    · rw [hex]
      split
      · exact pw_snoc d fun y hy => (c y hy).2
      · exact d
def PreLT : Pre := fun is M => ∃ (a c : Addr) (cs : List Int) (s : Int), is = [.v (.ref a)] ∧ M = Stt a c cs s ∧ cs.length ≤ 63
def CoLT : Co := fun is M i M' => ∃ (a c : Addr) (cs : List Int) (s : Int) (cs' : List Int) (s' : Int) (ns : List Int) (lss : List (List Ed)) (en : List Int), is = [.v (.ref a)] ∧ M = Stt a c cs s ∧ i = .d (trE ns lss en) ∧ M' = Stt a c cs' s' ∧ TrOk ns lss en ∧ cs'.length ≤ 63
theorem getD_at {ns : List Int} {i : Nat} (h : i < ns.length) : atI (ns.map PyData.int) (i : Int) = some (.int (ns.getD i 0)) := atI_nat (j := i) (by rw [List.getElem?_map, List.getD_eq_getElem?_getD, List.getElem?_eq_getElem h]; rfl)
theorem getD_mem {ns : List Int} {i : Nat} (h : i < ns.length) : ns.getD i 0 ∈ ns := by
  rw [List.getD_eq_getElem?_getD, List.getElem?_eq_getElem h]
  exact List.getElem_mem h
section
variable {P : Program} {w : World} {K : PySem.W.Frag} {mg : Str → Option Value} {base : Heap}
theorem d_law_trellis (T : Txt K mg) : DefN P w K mg base "_law_trellis" 2 PreLT CoLT := by
  obtain ⟨f, fd, F, hm, hb⟩ := T.f_law_trellis
  have GD := d_law_draw (P := P) (w := w) (base := base) T
  refine defN_ok F sc_law_trellis hm hb (fun is M h => ?_) (fun is M i M' h hB x hx => ?_) fun X hX N is M hF hA => ?_
  · obtain ⟨a, c, cs, s, rfl, _⟩ := h
    rfl
  · obtain ⟨a, c, cs, s, cs', s', ns, lss, en, rfl, rfl, rfl, rfl, _⟩ := hB
    exact hx
  · obtain ⟨cdv, A, outer, s0, H, E, rfl, hr⟩ := hX
    obtain ⟨a, c, cs, s, rfl, rfl, hl⟩ := hA
    have nd := sc_law_trellis.nd
    have hr1 : Room 1 (A.deeper (envOfC "_law_trellis" (defScope s_law_trellis) s0.heap.objs.size f cdv)) := hr
    have w1 := drw_lo (many := 5) cs s (by decide)
    have w2 := drw_hi (many := 5) cs s (by decide)
    have l1 := Nat.le_trans (drw_len cs s 5) hl
    refine sj_set 1 nd (ej_draw GD hr1 (Mr := []) (ej_name 0) ej_int (by decide) (by decide) hl) ?_
    generalize drw cs s 5 = q1 at w1 w2 l1 ⊢
    obtain ⟨m, hm⟩ : ∃ m : Nat, q1.1 = m := ⟨q1.1.toNat, by omega⟩
    rw [hm] at w2 ⊢
    generalize q1.2.1 = cs1 at l1 ⊢
    generalize q1.2.2 = s1
    have dk := drN_ok (many := 3) (by decide) cs1 s1
    refine sj_set (i := .d (.tuple (((drN 3 (m + 1) cs1 s1).1.map (1 + ·)).map .int))) (M1 := Stt a c (drN 3 (m + 1) cs1 s1).2.1 (drN 3 (m + 1) cs1 s1).2.2 ++ []) 2 nd (ej_tupleL T.b_tuple (ds := ((drN 3 (m + 1) cs1 s1).1.map (1 + ·)).map .int) (el_compR 10 (z := ((m : Int) + 1)) (M1 := Stt a c cs1 s1 ++ []) (fun n => ((drN 3 n cs1 s1).1.map (1 + ·)).map dI) (fun n => Stt a c (drN 3 n cs1 s1).2.1 (drN 3 n cs1 s1).2.2 ++ []) rfl T.b_range nd (ej_add (ej_name 1) ej_int) rfl rfl (by omega) fun n hn => ?_) ?_) ?_
    · refine ⟨_, by show ((_ ++ [_]).map _).map dI = _; rw [List.map_append, List.map_append]; rfl, by rw [List.length_map, List.length_map, (dk n).1]; exact Nat.le_refl _, fun N' s H C cl fp => ej_add ej_int (ej_draw GD hr1 (Mr := []) (ej_name 0) ej_int (by decide) (by decide) (Nat.le_trans (dk n).2.1 l1))⟩
    · show ((drN 3 ((m : Int) + 1).toNat cs1 s1).1.map (1 + ·)).map dI = _
      rw [show ((m : Int) + 1).toNat = m + 1 by omega, List.map_map, List.map_map, List.map_map]
      rfl
    obtain ⟨d1, d2, d3⟩ := dk (m + 1)
    generalize drN 3 (m + 1) cs1 s1 = q2 at d1 d2 d3 ⊢
    have l2 := Nat.le_trans d2 l1
    have nl : (q2.1.map (1 + ·)).length = m + 1 := by rw [List.length_map, d1]
    have nb : ∀ n ∈ q2.1.map (1 + ·), 1 ≤ n ∧ n ≤ 3 := fun n hn => by
      obtain ⟨x, hx, rfl⟩ := List.mem_map.mp hn
      have := d3 x hx
      omega
    generalize q2.1.map (1 + ·) = ns at nl nb ⊢
    generalize q2.2.1 = cs2 at l2 ⊢
    generalize q2.2.2 = s2
    have v1 := drw_lo (many := 3) cs2 s2 (by decide)
    have v2 := drw_hi (many := 3) cs2 s2 (by decide)
    have l3 := Nat.le_trans (drw_len cs2 s2 3) l2
    obtain ⟨mo, hmo, mo1, mo2⟩ : ∃ mo : Int, atI [PyData.int 2, .int 5, .int (10 ^ (12 : Int).toNat)] (drw cs2 s2 3).1 = some (.int mo) ∧ 0 < mo ∧ mo < 18446744073709551616 := by
      generalize (drw cs2 s2 3).1 = v at v1 v2
      have : v = 0 ∨ v = 1 ∨ v = 2 := by omega
      rcases this with rfl | rfl | rfl
      · exact ⟨2, atI_nat (j := 0) rfl, by decide, by decide⟩
      · exact ⟨5, atI_nat (j := 1) rfl, by decide, by decide⟩
      · exact ⟨10 ^ (12 : Int).toNat, atI_nat (j := 2) rfl, by decide, by decide⟩
    refine sj_set (i := dI mo) 3 nd (ej_ixL (ds := [.int 2, .int 5, .int (10 ^ (12 : Int).toNat)]) (ej_el (el_disp (aj_cons ej_int (aj_cons ej_int (aj_cons (ej_pow ej_int ej_int ⟨by decide, by decide, by decide⟩) aj_nil)))) rfl) (ej_draw GD hr1 (Mr := []) (ej_name 0) ej_int (by decide) (by decide) l2) hmo) ?_
    generalize (drw cs2 s2 3).2.1 = cs3 at l3 ⊢
    generalize (drw cs2 s2 3).2.2 = s3
    refine sj_own 4 nd (el_disp aj_nil) fun pn hpn => ?_
    refine sj_forR (m := (m : Int)) (M1 := Stt a c cs3 s3 ++ [(pn, [])]) rfl T.b_range (ej_name 1) (by omega) (fun t ρ M => ∃ y5 y6 y7 y8 cs s lss, ρ = [some (.v (.ref a)), some (dI (m : Int)), some (.d (.tuple (ns.map .int))), some (dI mo), some (.v (.ref pn)), y5, y6, y7, y8, none, none] ∧ M = Stt a c cs s ++ [(pn, ((lss : List (List Ed)).map encL).map It.d)] ∧ lss.length = t ∧ LsOk ns lss ∧ cs.length ≤ 63) ⟨none, none, none, none, cs3, s3, [], rfl, rfl, rfl, fun i es h => by simp at h, l3⟩ (fun t ρ M ht hI => ?_) fun ρ M hI => ?_
    · obtain ⟨y5, y6, y7, y8, cs, s, lss, rfl, rfl, hlt, hls, hl⟩ := hI
      have tm : t < m := by omega
      have nt1 := nb _ (getD_mem (i := t) (ns := ns) (by omega))
      have nt2 := nb _ (getD_mem (i := t + 1) (ns := ns) (by omega))
      refine ⟨_, gj_name 5 nd, ?_⟩
      refine sj_own 6 nd (el_disp aj_nil) fun pe hpe => ?_
      have eb : ((t : Int) + 1) = ((t + 1 : Nat) : Int) := by omega
      generalize hW : ns.getD t 0 = W at nt1
      generalize hB : ns.getD (t + 1) 0 = B at nt2
      have aW := getD_at (ns := ns) (i := t) (by omega)
      have aB := getD_at (ns := ns) (i := t + 1) (by omega)
      rw [hW] at aW
      rw [hB] at aB
      refine sj_forR (m := W) (M1 := Stt a c cs s ++ [(pn, (lss.map encL).map It.d), (pe, [])]) rfl T.b_range (ej_ixT (ds := ns.map .int) (ej_name 2) (ej_name 5) aW) (by omega) (fun r ρ M => ∃ y7 y8 cs s es, ρ = [some (.v (.ref a)), some (dI (m : Int)), some (.d (.tuple (ns.map .int))), some (dI mo), some (.v (.ref pn)), some (dI (t : Int)), some (.v (.ref pe)), y7, y8, none, none] ∧ M = Stt a c cs s ++ [(pn, (lss.map encL).map It.d), (pe, ((es : List Ed).map encE).map It.d)] ∧ EdOk W B es ∧ es.length ≤ 3 * r ∧ (∀ e ∈ es, e.1 < (r : Int)) ∧ cs.length ≤ 63) ⟨y7, y8, cs, s, [], rfl, by simp, ⟨fun e h => (List.not_mem_nil h).elim, List.Pairwise.nil, by decide⟩, Nat.le_refl _, fun e h => (List.not_mem_nil h).elim, hl⟩ (fun r ρ M hrr hI => ?_) fun ρ M hI => ?_
      · obtain ⟨y7, y8, cs, s, es, rfl, rfl, he, hes, her, hl⟩ := hI
        have rW : (r : Int) < W := by omega
        refine ⟨_, gj_name 7 nd, ?_⟩
        have u1 := drw_lo (many := 3) cs s (by decide)
        have u2 := drw_hi (many := 3) cs s (by decide)
        have l4 := Nat.le_trans (drw_len cs s 3) hl
        refine sj_forR (m := 1 + (drw cs s 3).1) rfl T.b_range (ej_add ej_int (ej_draw GD hr1 (Mr := [(pn, (lss.map encL).map It.d), (pe, (es.map encE).map It.d)]) (ej_name 0) ej_int (by decide) (by decide) hl)) (by omega) (fun u ρ M => ∃ y8 cs s es, ρ = [some (.v (.ref a)), some (dI (m : Int)), some (.d (.tuple (ns.map .int))), some (dI mo), some (.v (.ref pn)), some (dI (t : Int)), some (.v (.ref pe)), some (dI (r : Int)), y8, none, none] ∧ M = Stt a c cs s ++ [(pn, (lss.map encL).map It.d), (pe, ((es : List Ed).map encE).map It.d)] ∧ EdOk W B es ∧ es.length ≤ 3 * r + u ∧ (∀ e ∈ es, e.1 < (r : Int) ∨ (e.1 = (r : Int) ∧ e.2.2.1 < 2 * (u : Int))) ∧ cs.length ≤ 63) ⟨y8, _, _, es, rfl, rfl, he, hes, fun e h => .inl (her e h), l4⟩ (fun u ρ M hu hI => ?_) fun ρ M hI => ?_
        · obtain ⟨y8, cs, s, es, rfl, rfl, he, hes, her, hl⟩ := hI
          refine ⟨_, gj_name 8 nd, ?_⟩
          have l5 := Nat.le_trans (drw_len cs s 4) hl
          refine sj_if (tj_gt (ej_draw GD hr1 (Mr := [(pn, (lss.map encL).map It.d), (pe, (es.map encE).map It.d)]) (ej_name 0) ej_int (by decide) (by decide) hl) ej_int) (fun _ => ?_) fun _ => sj_nil (sj_nil ⟨_, _, _, es, rfl, rfl, he, by omega, fun e h => by have := her e h; omega, l5⟩)
          generalize (drw cs s 4).2.1 = cs5 at l5 ⊢
          generalize (drw cs s 4).2.2 = s5
          have b1 := drw_lo (many := B) cs5 s5 (by omega)
          have b2 := drw_hi (many := B) cs5 s5 (by omega)
          have l6 := Nat.le_trans (drw_len cs5 s5 B) l5
          have c1 := drw_lo (many := mo) (drw cs5 s5 B).2.1 (drw cs5 s5 B).2.2 mo1
          have c2 := drw_hi (many := mo) (drw cs5 s5 B).2.1 (drw cs5 s5 B).2.2 mo1
          have l7 := Nat.le_trans (drw_len (drw cs5 s5 B).2.1 (drw cs5 s5 B).2.2 mo) l6
          refine sj_nd fun ndm => ?_
          have ndm2 : ((Stt a c (drw (drw cs5 s5 B).2.1 (drw cs5 s5 B).2.2 mo).2.1 (drw (drw cs5 s5 B).2.1 (drw cs5 s5 B).2.2 mo).2.2 ++ [(pn, (lss.map encL).map It.d)] ++ (pe, (es.map encE).map It.d) :: []).map Prod.fst).Nodup := by
            simpa [Stt] using ndm
          refine sj_append (p := pe) (is0 := (es.map encE).map It.d) (is := (es.map encE).map It.d) (i := .d (encE ((r : Int), (drw cs5 s5 B).1, 2 * (u : Int), (drw (drw cs5 s5 B).2.1 (drw cs5 s5 B).2.2 mo).1))) (M1 := Stt a c (drw (drw cs5 s5 B).2.1 (drw cs5 s5 B).2.2 mo).2.1 (drw (drw cs5 s5 B).2.1 (drw cs5 s5 B).2.2 mo).2.2 ++ [(pn, (lss.map encL).map It.d), (pe, (es.map encE).map It.d)]) (ej_name 6) (by simp) (ej_tup (ds := [.int (r : Int), .int (drw cs5 s5 B).1, .int (2 * (u : Int)), .int (drw (drw cs5 s5 B).2.1 (drw cs5 s5 B).2.2 mo).1]) (aj_cons (ej_name 7) (aj_cons (ej_draw GD hr1 (Mr := [(pn, (lss.map encL).map It.d), (pe, (es.map encE).map It.d)]) (ej_name 0) (ej_ixT (ds := ns.map .int) (n := ((t + 1 : Nat) : Int)) (ej_name 2) (ej_is (ej_add (ej_name 5) ej_int) (by rw [eb])) aB) (by omega) (by omega) l5) (aj_cons (ej_mul ej_int (ej_name 8) (.inl (by decide))) (aj_cons (ej_draw GD hr1 (Mr := [(pn, (lss.map encL).map It.d), (pe, (es.map encE).map It.d)]) (ej_name 0) (ej_name 3) mo1 mo2 l6) aj_nil)))) rfl) (by simp) (by simp; omega) ?_
          refine sj_is (ρ' := _) ?_ rfl (put_mid (p := pe) (A := (es.map encE).map It.d) (M1 := Stt a c (drw (drw cs5 s5 B).2.1 (drw cs5 s5 B).2.2 mo).2.1 (drw (drw cs5 s5 B).2.1 (drw cs5 s5 B).2.2 mo).2.2 ++ [(pn, (lss.map encL).map It.d)]) (M2 := []) ndm2)
          refine sj_nil (sj_nil ⟨some (dI (u : Int)), (drw (drw cs5 s5 B).2.1 (drw cs5 s5 B).2.2 mo).2.1, (drw (drw cs5 s5 B).2.1 (drw cs5 s5 B).2.2 mo).2.2, es ++ [((r : Int), (drw cs5 s5 B).1, 2 * (u : Int), (drw (drw cs5 s5 B).2.1 (drw cs5 s5 B).2.2 mo).1)], rfl, by simp, ⟨fun e h => ?_, ?_, by rw [List.length_append]; show _ + 1 ≤ _; omega⟩, by rw [List.length_append]; show _ + 1 ≤ _; omega, fun e h => ?_, l7⟩)
          · rcases List.mem_append.mp h with h | h
            · exact he.rng e h
            · rw [List.mem_singleton.mp h]
              exact ⟨⟨by show (0 : Int) ≤ (r : Int); omega, rW⟩, ⟨b1, b2⟩, by show (0 : Int) ≤ 2 * (u : Int); omega, c1, by show (drw (drw cs5 s5 B).2.1 (drw cs5 s5 B).2.2 mo).1 < _; omega, by show 2 * (u : Int) < 100; omega⟩
          · rw [List.map_append]
            refine pw_snoc he.asc fun y hy => ?_
            obtain ⟨e, hee, rfl⟩ := List.mem_map.mp hy
            exact her e hee
          · rcases List.mem_append.mp h with h | h
            · have := her e h
              omega
            · rw [List.mem_singleton.mp h]
              refine .inr ⟨rfl, ?_⟩
              show 2 * (u : Int) < _
              omega
        · obtain ⟨y8, cs, s, es, rfl, rfl, he, hes, her, hl⟩ := hI
          exact sj_nil ⟨_, _, cs, s, es, rfl, rfl, he, by omega, fun e h => by have := her e h; omega, hl⟩
      · obtain ⟨y7, y8, cs, s, es, rfl, rfl, he, hes, her, hl⟩ := hI
        refine sj_nd fun ndm => ?_
        have hpe2 : (pe, (es.map encE).map It.d) ∈ Stt a c cs s ++ [(pn, (lss.map encL).map It.d), (pe, (es.map encE).map It.d)] := by simp
        have hfil : ((Stt a c cs s ++ [(pn, (lss.map encL).map It.d), (pe, (es.map encE).map It.d)]).filter fun c => decide (c.1 ≠ pe)) = Stt a c cs s ++ [(pn, (lss.map encL).map It.d)] := by
          have e1 : Stt a c cs s ++ [(pn, (lss.map encL).map It.d), (pe, (es.map encE).map It.d)] = (Stt a c cs s ++ [(pn, (lss.map encL).map It.d)]) ++ [(pe, (es.map encE).map It.d)] := by simp
          rw [e1] at ndm ⊢
          exact filter_last ndm
        refine sj_freeze 6 (p := pe) (ds := es.map encE) rfl hpe2 hpe ?_
        rw [hfil]
        refine sj_nd fun ndm => ?_
        refine sj_append (p := pn) (is0 := (lss.map encL).map It.d) (is := (lss.map encL).map It.d) (i := .d (encL es)) (ej_name 4) (by simp) (ej_name 6) (by simp) (by simp; omega) ?_
        refine sj_is (ρ' := _) ?_ rfl (put_mid (p := pn) (A := (lss.map encL).map It.d) (M1 := Stt a c cs s) (M2 := []) ndm)
        refine sj_nil ⟨_, _, _, _, cs, s, lss ++ [es], rfl, by simp, by rw [List.length_append, hlt]; rfl, fun i es' hi => ?_, hl⟩
        by_cases hlast : i < lss.length
        · rw [List.getElem?_append_left hlast] at hi
          exact hls i es' hi
        · have : i = lss.length := by
            have := (List.getElem?_eq_some_iff.mp hi).1
            rw [List.length_append] at this
            have : i < lss.length + 1 := this
            omega
          subst this
          rw [List.getElem?_append_right (Nat.le_refl _), Nat.sub_self] at hi
          cases Option.some.inj (hi : some es = some es')
          rw [hlt, hW, hB]
          exact he
    · obtain ⟨y5, y6, y7, y8, cs, s, lss, rfl, rfl, hlt, hls, hl⟩ := hI
      rw [Int.toNat_natCast] at hlt
      have nt1 := nb _ (getD_mem (i := m) (ns := ns) (by omega))
      have aW := getD_at (ns := ns) (i := m) (by omega)
      generalize hW : ns.getD m 0 = W at nt1 aW
      obtain ⟨x1, x2, x3, x4⟩ := eF_ok cs s W.toNat
      have ek := eF_ok cs s
      refine sj_set (i := .d (.tuple ((eF W.toNat cs s).1.map .int))) (M1 := Stt a c (eF W.toNat cs s).2.1 (eF W.toNat cs s).2.2 ++ [(pn, (lss.map encL).map It.d)]) 9 nd (ej_tupleL T.b_tuple (ds := (eF W.toNat cs s).1.map .int) (el_compRF 7 (z := W) (M1 := Stt a c cs s ++ [(pn, (lss.map encL).map It.d)]) (fun n => (eF n cs s).1.map dI) (fun n => Stt a c (eF n cs s).2.1 (eF n cs s).2.2 ++ [(pn, (lss.map encL).map It.d)]) rfl T.b_range nd (ej_ixT (ds := ns.map .int) (ej_name 2) (ej_name 1) aW) rfl rfl (by omega) fun n hn => ?_) ?_) ?_
      · refine ⟨decide (0 < (drw (eF n cs s).2.1 (eF n cs s).2.2 4).1), Stt a c (eF (n + 1) cs s).2.1 (eF (n + 1) cs s).2.2 ++ [(pn, (lss.map encL).map It.d)], fun N' s H C cl fp => tj_gt (ej_draw GD hr1 (Mr := [(pn, (lss.map encL).map It.d)]) (ej_name 0) ej_int (by decide) (by decide) (Nat.le_trans (ek n).2.1 hl)) ej_int, by rw [List.length_map]; exact (ek n).1, fun h => ⟨dI (n : Int), ?_, fun N' s H C cl fp => ej_name 7⟩, fun h => ⟨?_, rfl⟩⟩
        · show (if 0 < (drw (eF n cs s).2.1 (eF n cs s).2.2 4).1 then (eF n cs s).1 ++ [(n : Int)] else (eF n cs s).1).map dI = _
          rw [if_pos (of_decide_eq_true h), List.map_append]
          rfl
        · show (if 0 < (drw (eF n cs s).2.1 (eF n cs s).2.2 4).1 then (eF n cs s).1 ++ [(n : Int)] else (eF n cs s).1).map dI = _
          rw [if_neg (of_decide_eq_false h)]
      · rw [List.map_map]
        rfl
      generalize eF W.toNat cs s = q9 at x1 x2 x3 x4 ⊢
      refine sj_nd fun ndm => ?_
      refine sj_freeze 4 (p := pn) (ds := lss.map encL) rfl (by simp) hpn ?_
      have hfil : ((Stt a c q9.2.1 q9.2.2 ++ [(pn, (lss.map encL).map It.d)]).filter fun c => decide (c.1 ≠ pn)) = Stt a c q9.2.1 q9.2.2 := filter_last ndm
      rw [hfil]
      exact sj_ret (ej_tup (ds := [.str "trellis", .tuple (ns.map .int), .list (lss.map encL), .tuple (q9.1.map .int)]) (aj_cons ej_str (aj_cons (ej_name 2) (aj_cons (ej_name 4) (aj_cons (ej_name 9) aj_nil)))) rfl) ⟨Stt a c q9.2.1 q9.2.2, ⟨a, c, _, _, q9.2.1, q9.2.2, ns, lss, q9.1, rfl, rfl, rfl, rfl, ⟨by omega, by omega, nb, hls, fun x hx => by have := x3 x hx; rw [hlt, hW]; omega, x4, by omega⟩, Nat.le_trans x2 hl⟩, fun x hx => hx, fun h => h⟩
end


theorem mem1_put {o : Addr} {A B : List Kt.It} : Mem.put [(o, A)] o B = [(o, B)] := by simp [Mem.put]

theorem sj_frzT {X : Cx} {N : Ent} {ρ : Rho} {sts : List Stmt} {Z : Post} {Mb : Mem} {q : Addr} {ds : List PyData} (n : Nat) (hρ : ρ[n]? = some (some (.v (.ref q)))) (hF : q ∉ N.F) (hr : SJ X N (ρ.set n (some (.d (.list ds)))) Mb sts Z) : SJ X N ρ (Mb ++ [(q, ds.map It.d)]) sts Z :=
  sj_nd fun hne => sj_freeze n (p := q) (ds := ds) hρ (List.mem_append_right _ (List.mem_singleton.mpr rfl)) hF (by
    rw [filter_last hne]
    exact hr)

/-! ### potentials -/
abbrev OR := List (Option Int)
def rgD (row : OR) (r : Int) : Option Int := row.getD r.toNat none
def rbS (row : OR) (b : OR) (e : Ed) : OR := match rgD row e.1 with
  | none => b
  | some c => match rgD b e.2.1 with
    | none => b.set e.2.1.toNat (some (c + e.2.2.2))
    | some v => if c + e.2.2.2 < v then b.set e.2.1.toNat (some (c + e.2.2.2)) else b
def rbF (row : OR) (l : List Ed) (w : Int) : OR := l.foldl (rbS row) (List.replicate w.toNat none)
def ptl : OR → List Int → List (List Ed) → List OR
  | row, w :: ws, l :: ls => row :: ptl (rbF row l w) ws ls
  | row, _, _ => [row]
theorem rbS_len (row b : OR) (e : Ed) : (rbS row b e).length = b.length := by
  unfold rbS
  split
  · rfl
  · split
    · rw [List.length_set]
    · split
      · rw [List.length_set]
      · rfl
theorem rbL_len (row : OR) : ∀ (l : List Ed) (b : OR), (l.foldl (rbS row) b).length = b.length
  | [], b => rfl
  | e :: l, b => by rw [List.foldl_cons, rbL_len row l, rbS_len]
theorem rbF_len (row : OR) (l : List Ed) (w : Int) : (rbF row l w).length = w.toNat := by
  unfold rbF
  rw [rbL_len, List.length_replicate]
theorem rg_set {b : OR} {r x : Int} {v : Option Int} (h0 : 0 ≤ r) (h1 : r.toNat < b.length) (h2 : 0 ≤ x) : rgD (b.set r.toNat v) x = if r = x then v else rgD b x := by
  unfold rgD
  rw [List.getD_eq_getElem?_getD, List.getElem?_set]
  by_cases h : r = x
  · subst h
    rw [if_pos rfl, if_pos h1, if_pos rfl]
    rfl
  · rw [if_neg (by omega), if_neg h, List.getD_eq_getElem?_getD]
/-- the least of some numbers -/
def IsMin (S : Int → Prop) : Option Int → Prop
  | none => ∀ y, ¬ S y
  | some m => S m ∧ ∀ y, S y → m ≤ y
theorem IsMin.uniq {S : Int → Prop} : ∀ {a b : Option Int}, IsMin S a → IsMin S b → a = b
  | none, none, _, _ => rfl
  | none, some m, h, g => absurd g.1 (h m)
  | some m, none, h, g => absurd h.1 (g m)
  | some m, some k, h, g => by
    have := h.2 k g.1
    have := g.2 m h.1
    rw [show m = k by omega]
theorem IsMin.congr {S T : Int → Prop} {o : Option Int} (h : IsMin S o) (e : ∀ y, S y ↔ T y) : IsMin T o := by
  cases o with
  | none => exact fun y hy => h y ((e y).mpr hy)
  | some m => exact ⟨(e m).mp h.1, fun y hy => h.2 y ((e y).mpr hy)⟩
def rbSet (row : OR) (l : List Ed) (r : Int) (y : Int) : Prop := ∃ e ∈ l, e.2.1 = r ∧ ∃ c, rgD row e.1 = some c ∧ y = c + e.2.2.2
theorem rb_one {row b : OR} {l : List Ed} {e : Ed} (he : 0 ≤ e.2.1 ∧ e.2.1.toNat < b.length) (h : ∀ r, 0 ≤ r → r.toNat < b.length → IsMin (rbSet row l r) (rgD b r)) : ∀ r, 0 ≤ r → r.toNat < (rbS row b e).length → IsMin (rbSet row (l ++ [e]) r) (rgD (rbS row b e) r) := by
  intro r hr0 hr
  rw [rbS_len] at hr
  have hb := h r hr0 hr
  have split' : ∀ y, rbSet row (l ++ [e]) r y ↔ rbSet row l r y ∨ (e.2.1 = r ∧ ∃ c, rgD row e.1 = some c ∧ y = c + e.2.2.2) := fun y => by
    constructor
    · rintro ⟨e', m, h1, h2⟩
      rcases List.mem_append.mp m with m | m
      · exact .inl ⟨e', m, h1, h2⟩
      · rw [List.mem_singleton.mp m] at h1 h2
        exact .inr ⟨h1, h2⟩
    · rintro (⟨e', m, h1, h2⟩ | ⟨h1, h2⟩)
      · exact ⟨e', List.mem_append_left _ m, h1, h2⟩
      · exact ⟨e, List.mem_append_right _ (List.mem_singleton.mpr rfl), h1, h2⟩
  have same : (∀ y, ¬ (e.2.1 = r ∧ ∃ c, rgD row e.1 = some c ∧ y = c + e.2.2.2)) → IsMin (rbSet row (l ++ [e]) r) (rgD b r) := fun q => hb.congr fun y => by
    rw [split' y]
    exact ⟨.inl, fun k => k.elim id fun k => absurd k (q y)⟩
  unfold rbS
  cases hc : rgD row e.1 with
  | none => exact same fun y ⟨_, c, h1, _⟩ => by rw [hc] at h1; cases h1
  | some c =>
    dsimp only
    have one : ∀ y, (e.2.1 = r ∧ ∃ c', rgD row e.1 = some c' ∧ y = c' + e.2.2.2) ↔ (e.2.1 = r ∧ y = c + e.2.2.2) := fun y => by
      constructor
      · rintro ⟨h1, c', h2, h3⟩
        rw [hc] at h2
        cases Option.some.inj h2
        exact ⟨h1, h3⟩
      · rintro ⟨h1, h2⟩
        exact ⟨h1, c, hc, h2⟩
    by_cases er : e.2.1 = r
    · subst er
      cases hv : rgD b e.2.1 with
      | none =>
        dsimp only
        rw [rg_set he.1 he.2 hr0, if_pos rfl]
        rw [hv] at hb
        refine ⟨(split' _).mpr (.inr ((one _).mpr ⟨rfl, rfl⟩)), fun y hy => ?_⟩
        rcases (split' y).mp hy with k | k
        · exact absurd k (hb y)
        · rw [((one y).mp k).2]; exact Int.le_refl _
      | some v =>
        dsimp only
        rw [hv] at hb
        by_cases lt : c + e.2.2.2 < v
        · rw [if_pos lt, rg_set he.1 he.2 hr0, if_pos rfl]
          refine ⟨(split' _).mpr (.inr ((one _).mpr ⟨rfl, rfl⟩)), fun y hy => ?_⟩
          rcases (split' y).mp hy with k | k
          · have := hb.2 y k
            omega
          · rw [((one y).mp k).2]; exact Int.le_refl _
        · rw [if_neg lt, hv]
          refine ⟨(split' _).mpr (.inl hb.1), fun y hy => ?_⟩
          rcases (split' y).mp hy with k | k
          · exact hb.2 y k
          · have := ((one y).mp k).2
            omega
    · have q := same fun y k => er k.1
      cases hv : rgD b e.2.1 with
      | none =>
        dsimp only
        rw [rg_set he.1 he.2 hr0, if_neg er]
        exact q
      | some v =>
        dsimp only
        split
        · rw [rg_set he.1 he.2 hr0, if_neg er]
          exact q
        · exact q
theorem rb_all {row : OR} : ∀ (l2 l1 : List Ed) (b : OR), (∀ e ∈ l2, 0 ≤ e.2.1 ∧ e.2.1.toNat < b.length) → (∀ r, 0 ≤ r → r.toNat < b.length → IsMin (rbSet row l1 r) (rgD b r)) → ∀ r, 0 ≤ r → r.toNat < b.length → IsMin (rbSet row (l1 ++ l2) r) (rgD (l2.foldl (rbS row) b) r)
  | [], l1, b, _, h, r, h0, h1 => by rw [List.append_nil]; exact h r h0 h1
  | e :: l2, l1, b, hb, h, r, h0, h1 => by
    have e1 : l1 ++ e :: l2 = (l1 ++ [e]) ++ l2 := by rw [List.append_assoc]; rfl
    rw [e1, List.foldl_cons]
    refine rb_all l2 (l1 ++ [e]) (rbS row b e) (fun e' m => by rw [rbS_len]; exact hb e' (List.mem_cons_of_mem _ m)) (rb_one (hb e List.mem_cons_self) h) r h0 (by rw [rbS_len]; exact h1)
theorem rb_ok {row : OR} {l : List Ed} {w : Int} (hb : ∀ e ∈ l, 0 ≤ e.2.1 ∧ e.2.1 < w) {r : Int} (h0 : 0 ≤ r) (h1 : r < w) : IsMin (rbSet row l r) (rgD (rbF row l w) r) := by
  have := rb_all (row := row) l [] (List.replicate w.toNat none) (fun e m => ⟨(hb e m).1, by rw [List.length_replicate]; have := hb e m; omega⟩) (fun r h0 h1 => by
    have : rgD (List.replicate w.toNat none) r = none := by
      unfold rgD
      rw [List.getD_eq_getElem?_getD, List.getElem?_replicate]
      split <;> rfl
    rw [this]
    exact fun y ⟨e, m, _⟩ => absurd m List.not_mem_nil) r h0 (by rw [List.length_replicate]; omega)
  exact this
/-! right tables -/
def bndB (row behind : OR) (l : List Ed) : Bool := l.all fun e => match rgD row e.1 with
  | none => true
  | some c => match rgD behind e.2.1 with
    | none => false
    | some v => decide (v ≤ c + e.2.2.2)
def rgtL : List OR → List (List Ed) → Bool
  | row :: behind :: t, l :: ls => bndB row behind l && rgtL (behind :: t) ls
  | _, _ => true
def shpB : List Int → List OR → Bool
  | [], [] => true
  | w :: ws, row :: t => decide ((row.length : Int) = w) && shpB ws t
  | _, _ => false
def rgtB (ns : List Int) (lss : List (List Ed)) (t : List OR) : Bool := shpB ns t && (decide (rgD (t.headD []) 0 = some 0) && rgtL t lss)
def endV (t : List OR) (x : Int) : Option Int := rgD (t.getLastD []) x
def endS (t : List OR) (en : List Int) (y : Int) : Prop := ∃ x ∈ en, endV t x = some y
theorem bnd_edge {row behind : OR} {l : List Ed} (h : bndB row behind l = true) {e : Ed} (he : e ∈ l) {c : Int} (hc : rgD row e.1 = some c) : ∃ v, rgD behind e.2.1 = some v ∧ v ≤ c + e.2.2.2 := by
  have := List.all_eq_true.mp h e he
  rw [hc] at this
  dsimp only at this
  cases hv : rgD behind e.2.1 with
  | none => rw [hv] at this; cases this
  | some v =>
    rw [hv] at this
    exact ⟨v, rfl, of_decide_eq_true this⟩
theorem shp_len : ∀ {ns : List Int} {t : List OR}, shpB ns t = true → t.length = ns.length
  | [], [], _ => rfl
  | [], _ :: _, h => by cases h
  | _ :: _, [], h => by cases h
  | w :: ws, row :: t, h => by rw [List.length_cons, List.length_cons, shp_len (Bool.and_eq_true_iff.mp h).2]
/-- the ends of right potentials are not above the cost of any path -/
theorem weak_dual {en : List Int} : ∀ {ls : List (List Ed)} {row : OR} {t : List OR}, (row :: t).length = ls.length + 1 → rgtL (row :: t) ls = true → ∀ {r c : Int}, rgD row r = some c → ∀ p ∈ pth ls en r, ∃ y, endS (row :: t) en y ∧ y ≤ c + p.2
  | [], row, [], _, _, r, c, hc, p, hp => by
    unfold pth at hp
    split at hp
    · rename_i hr
      rw [List.mem_singleton.mp hp]
      exact ⟨c, ⟨r, hr, hc⟩, by show c ≤ c + 0; omega⟩
    · exact absurd hp List.not_mem_nil
  | l :: ls, row, [], hl, _, r, c, hc, p, hp => by
    exfalso
    rw [List.length_cons, List.length_cons] at hl
    simp at hl
  | l :: ls, row, b :: t, hl, h, r, c, hc, p, hp => by
    obtain ⟨h1, h2⟩ := Bool.and_eq_true_iff.mp (show (bndB row b l && rgtL (b :: t) ls) = true from h)
    obtain ⟨e, he, hp⟩ := List.mem_flatMap.mp hp
    by_cases er : e.1 = r
    · rw [if_pos er] at hp
      obtain ⟨q, hq, rfl⟩ := List.mem_map.mp hp
      obtain ⟨v, hv, lv⟩ := bnd_edge h1 he (by rw [er]; exact hc)
      obtain ⟨y, hy, ly⟩ := weak_dual (en := en) (row := b) (t := t) (by simpa using hl) h2 hv q hq
      refine ⟨y, ?_, by dsimp only; omega⟩
      obtain ⟨x, hx, k⟩ := hy
      exact ⟨x, hx, k⟩
    · rw [if_neg er] at hp
      exact absurd hp List.not_mem_nil
/-! the greatest ones -/
theorem ptl_cons (row : OR) (w : Int) (ws : List Int) (l : List Ed) (ls : List (List Ed)) : ptl row (w :: ws) (l :: ls) = row :: ptl (rbF row l w) ws ls := rfl
theorem ptl_ne (row : OR) (ws : List Int) (ls : List (List Ed)) : ∃ t, ptl row ws ls = row :: t := by
  match ws, ls with
  | [], _ => exact ⟨[], rfl⟩
  | _ :: _, [] => exact ⟨[], rfl⟩
  | w :: ws, l :: ls => exact ⟨_, rfl⟩
theorem ptl_shp {en : List Int} : ∀ {ns : List Int} {n : Int} {ls : List (List Ed)} {row : OR}, Wf en (n :: ns) ls → (row.length : Int) = n → shpB (n :: ns) (ptl row ns ls) = true
  | [], n, [], row, _, h => by
    show (decide ((row.length : Int) = n) && true) = true
    rw [decide_eq_true h]
    rfl
  | m :: ns, n, l :: ls, row, ⟨h0, w, h⟩, hr => by
    show (decide ((row.length : Int) = n) && shpB (m :: ns) (ptl (rbF row l m) ns ls)) = true
    have m1 : 1 ≤ m := by
      match ns, ls, h with
      | [], [], ⟨h, _⟩ => exact h
      | _ :: _, _ :: _, ⟨h, _⟩ => exact h
    rw [decide_eq_true hr, ptl_shp h (by rw [rbF_len]; omega)]
    rfl
theorem rb_bnd {row : OR} {l : List Ed} {n w : Int} (hw : WfE n w l) : bndB row (rbF row l w) l = true := by
  refine List.all_eq_true.mpr fun e he => ?_
  have hb := hw.rng e he
  cases hc : rgD row e.1 with
  | none => rfl
  | some c =>
    dsimp only
    have m := rb_ok (row := row) (l := l) (w := w) (fun e m => (hw.rng e m).2.1) hb.2.1.1 hb.2.1.2
    cases hv : rgD (rbF row l w) e.2.1 with
    | none =>
      rw [hv] at m
      exact absurd ⟨e, he, rfl, c, hc, rfl⟩ (m (c + e.2.2.2))
    | some v =>
      rw [hv] at m
      exact decide_eq_true (m.2 _ ⟨e, he, rfl, c, hc, rfl⟩)
theorem ptl_rgt {en : List Int} : ∀ {ns : List Int} {n : Int} {ls : List (List Ed)} {row : OR}, Wf en (n :: ns) ls → rgtL (ptl row ns ls) ls = true
  | [], n, [], row, _ => rfl
  | m :: ns, n, l :: ls, row, ⟨h0, w, h⟩ => by
    rw [ptl_cons]
    obtain ⟨t, ht⟩ := ptl_ne (rbF row l m) ns ls
    have ih := ptl_rgt (row := rbF row l m) h
    rw [ht] at ih ⊢
    show (bndB row (rbF row l m) l && rgtL (rbF row l m :: t) ls) = true
    rw [rb_bnd w, ih]
    rfl
theorem pth_one {en : List Int} : ∀ {ls : List (List Ed)} {r : Int} {p : List Int × Int}, p ∈ pth ls en r ↔ ∃ x ∈ en, p ∈ pth ls [x] r
  | [], r, p => by
    unfold pth
    constructor
    · intro h
      split at h
      · rename_i hr
        exact ⟨r, hr, by rw [if_pos (List.mem_singleton.mpr rfl)]; exact h⟩
      · exact absurd h List.not_mem_nil
    · rintro ⟨x, hx, h⟩
      split at h
      · rename_i hr
        rw [List.mem_singleton.mp hr, if_pos hx]
        exact h
      · exact absurd h List.not_mem_nil
  | l :: ls, r, p => by
    constructor
    · intro h
      obtain ⟨e, he, h⟩ := List.mem_flatMap.mp h
      by_cases er : e.1 = r
      · rw [if_pos er] at h
        obtain ⟨q, hq, rfl⟩ := List.mem_map.mp h
        obtain ⟨x, hx, k⟩ := pth_one.mp hq
        exact ⟨x, hx, List.mem_flatMap.mpr ⟨e, he, by rw [if_pos er]; exact List.mem_map.mpr ⟨q, k, rfl⟩⟩⟩
      · rw [if_neg er] at h
        exact absurd h List.not_mem_nil
    · rintro ⟨x, hx, h⟩
      obtain ⟨e, he, h⟩ := List.mem_flatMap.mp h
      by_cases er : e.1 = r
      · rw [if_pos er] at h
        obtain ⟨q, hq, rfl⟩ := List.mem_map.mp h
        exact List.mem_flatMap.mpr ⟨e, he, by rw [if_pos er]; exact List.mem_map.mpr ⟨q, pth_one.mpr ⟨x, hx, hq⟩, rfl⟩⟩
      · rw [if_neg er] at h
        exact absurd h List.not_mem_nil
/-- what stands at an end is what some way to it costs -/
theorem ptl_att {en : List Int} : ∀ {ns : List Int} {n : Int} {ls : List (List Ed)} {row : OR}, Wf en (n :: ns) ls → (row.length : Int) = n → ∀ x ∈ en, ∀ v, endV (ptl row ns ls) x = some v → ∃ r c p, rgD row r = some c ∧ 0 ≤ r ∧ r < n ∧ p ∈ pth ls [x] r ∧ v = c + p.2
  | [], n, [], row, ⟨_, hx⟩, hr, x, hx', v, hv => by
    have := hx x hx'
    refine ⟨x, v, ([], 0), hv, this.1, this.2, ?_, by show v = v + 0; omega⟩
    unfold pth
    rw [if_pos (List.mem_singleton.mpr rfl)]
    exact List.mem_singleton.mpr rfl
  | m :: ns, n, l :: ls, row, ⟨h0, w, h⟩, hr, x, hx, v, hv => by
    have m1 : 1 ≤ m := by
      match ns, ls, h with
      | [], [], ⟨h, _⟩ => exact h
      | _ :: _, _ :: _, ⟨h, _⟩ => exact h
    have hv : endV (ptl (rbF row l m) ns ls) x = some v := by
      rw [ptl_cons] at hv
      obtain ⟨t, ht⟩ := ptl_ne (rbF row l m) ns ls
      rw [ht] at hv ⊢
      exact hv
    obtain ⟨r', c', p', k1, k2, k3, k4, k5⟩ := ptl_att h (by rw [rbF_len]; omega) x hx v hv
    have mi := rb_ok (row := row) (l := l) (w := m) (fun e m => (w.rng e m).2.1) k2 k3
    rw [k1] at mi
    obtain ⟨e, he, e1, c0, e2, e3⟩ := mi.1
    have hb := w.rng e he
    refine ⟨e.1, c0, (e.2.2.1 :: p'.1, e.2.2.2 + p'.2), e2, hb.1.1, hb.1.2, ?_, by dsimp only; omega⟩
    refine List.mem_flatMap.mpr ⟨e, he, ?_⟩
    rw [if_pos rfl]
    exact List.mem_map.mpr ⟨p', by rw [e1]; exact k4, rfl⟩
def row0 (n : Int) : OR := some 0 :: List.replicate (n - 1).toNat none
def potT (ns : List Int) (lss : List (List Ed)) : List OR := ptl (row0 (ns.headD 0)) (ns.drop 1) lss
theorem row0_len {n : Int} (h : 1 ≤ n) : ((row0 n).length : Int) = n := by
  unfold row0
  rw [List.length_cons, List.length_replicate]
  omega
theorem row0_get {n r : Int} (h : 0 ≤ r) {c : Int} (k : rgD (row0 n) r = some c) : r = 0 ∧ c = 0 := by
  unfold rgD row0 at k
  by_cases z : r.toNat = 0
  · rw [z] at k
    exact ⟨by omega, (Option.some.inj k).symm⟩
  · obtain ⟨j, hj⟩ : ∃ j, r.toNat = j + 1 := ⟨r.toNat - 1, by omega⟩
    rw [hj, List.getD_cons_succ, List.getD_eq_getElem?_getD, List.getElem?_replicate] at k
    split at k <;> cases k
theorem potT_ok {en ns : List Int} {lss : List (List Ed)} (h : Wf en ns lss) : rgtB ns lss (potT ns lss) = true := by
  have hne : ∃ n r, ns = n :: r ∧ 1 ≤ n := by
    match ns, lss, h with
    | [n], [], ⟨h, _⟩ => exact ⟨n, [], rfl, h⟩
    | n :: m :: ns, l :: ls, ⟨h, _⟩ => exact ⟨n, _, rfl, h⟩
  obtain ⟨n, r, rfl, n1⟩ := hne
  unfold rgtB potT
  show (shpB (n :: r) (ptl (row0 n) r lss) && (decide (rgD ((ptl (row0 n) r lss).headD []) 0 = some 0) && rgtL (ptl (row0 n) r lss) lss)) = true
  rw [ptl_shp h (row0_len n1), ptl_rgt h]
  obtain ⟨t, ht⟩ := ptl_ne (row0 n) r lss
  rw [ht]
  rfl
theorem rgt_parts {ns : List Int} {lss : List (List Ed)} {t : List OR} (h : rgtB ns lss t = true) (hl : ns.length = lss.length + 1) : ∃ row r, t = row :: r ∧ t.length = lss.length + 1 ∧ rgD row 0 = some 0 ∧ rgtL t lss = true := by
  obtain ⟨h1, h2⟩ := Bool.and_eq_true_iff.mp h
  obtain ⟨h2, h3⟩ := Bool.and_eq_true_iff.mp h2
  have l := shp_len h1
  match t, l, h2 with
  | row :: r, l, h2 => exact ⟨row, r, rfl, by omega, of_decide_eq_true h2, h3⟩
  | [], l, _ => exact absurd l (by rw [hl]; simp)
theorem rgt_le {en ns : List Int} {lss : List (List Ed)} {t : List OR} (hl : ns.length = lss.length + 1) (h : rgtB ns lss t = true) : ∀ p ∈ pth lss en 0, ∃ y, endS t en y ∧ y ≤ p.2 := fun p hp => by
  obtain ⟨row, r, rfl, h1, h2, h3⟩ := rgt_parts h hl
  obtain ⟨y, a, b⟩ := weak_dual (en := en) h1 h3 h2 p hp
  exact ⟨y, a, by omega⟩
/-- the least end of the greatest potentials is the least cost -/
theorem pot_min {en ns : List Int} {lss : List (List Ed)} (h : Wf en ns lss) {o : Option Int} (ho : IsMin (endS (potT ns lss) en) o) : IsMin (fun y => ∃ p ∈ pth lss en 0, p.2 = y) o := by
  have hne : ∃ n r, ns = n :: r ∧ 1 ≤ n := by
    match ns, lss, h with
    | [n], [], ⟨h, _⟩ => exact ⟨n, [], rfl, h⟩
    | n :: m :: ns, l :: ls, ⟨h, _⟩ => exact ⟨n, _, rfl, h⟩
  have hl : ns.length = lss.length + 1 := by
    have : ∀ {ns : List Int} {ls : List (List Ed)}, Wf en ns ls → ns.length = ls.length + 1 := fun {ns ls} => by
      induction ls generalizing ns with
      | nil =>
        match ns with
        | [n] => intro _; rfl
        | [] => exact fun h => h.elim
        | _ :: _ :: _ => exact fun h => h.elim
      | cons l ls ih =>
        match ns with
        | n :: m :: ns =>
          rintro ⟨_, _, h⟩
          have := ih h
          rw [List.length_cons, this, List.length_cons]
        | [] => exact fun h => h.elim
        | [_] => exact fun h => h.elim
    exact this h
  have att : ∀ y, endS (potT ns lss) en y → ∃ p ∈ pth lss en 0, p.2 = y := fun y ⟨x, hx, hy⟩ => by
    obtain ⟨n, r, rfl, n1⟩ := hne
    obtain ⟨r0, c, p, k1, k2, k3, k4, k5⟩ := ptl_att h (row0_len n1) x hx y hy
    obtain ⟨rfl, rfl⟩ := row0_get k2 k1
    exact ⟨p, pth_one.mpr ⟨x, hx, k4⟩, by omega⟩
  have le := rgt_le (en := en) hl (potT_ok h)
  cases o with
  | none =>
    rintro y ⟨p, hp, _⟩
    obtain ⟨z, hz, _⟩ := le p hp
    exact ho z hz
  | some m =>
    refine ⟨att m ho.1, ?_⟩
    rintro y ⟨p, hp, rfl⟩
    obtain ⟨z, hz, lz⟩ := le p hp
    have := ho.2 z hz
    omega

theorem enc_at {l : List Ed} {k : Nat} {d : PyData} (h : (l.map encE)[k]? = some d) : ∃ e, l[k]? = some e ∧ d = encE e := by
  rw [List.getElem?_map] at h
  obtain ⟨e, h1, h2⟩ := Option.map_eq_some_iff.mp h
  exact ⟨e, h1, h2.symm⟩
def oI : Option Int → PyData
  | none => .none
  | some n => .int n

/-! ### tables, as data -/
def orD (row : OR) : PyData := .list (row.map oI)
def tbD (t : List OR) : PyData := .list (t.map orD)
def itemD : PyData → Option (Option Int)
  | .none => some none
  | .int i => some (some i)
  | _ => none
def deIs : List PyData → Option OR
  | [] => some []
  | d :: r => match itemD d with
    | none => none
    | some o => match deIs r with
      | none => none
      | some os => some (o :: os)
def deRow : PyData → Option OR
  | .list l => deIs l
  | _ => none
def deRows : List PyData → Option (List OR)
  | [] => some []
  | d :: r => match deRow d with
    | none => none
    | some o => match deRows r with
      | none => none
      | some os => some (o :: os)
def deTb : PyData → Option (List OR)
  | .list l => deRows l
  | _ => none
theorem itemD_eq {d : PyData} {o : Option Int} (h : itemD d = some o) : d = oI o := by
  cases d <;> first | (cases h; done) | (cases Option.some.inj h; rfl)
theorem deIs_eq : ∀ {l : List PyData} {r : OR}, deIs l = some r → l = r.map oI
  | [], r, h => by cases Option.some.inj h; rfl
  | d :: l, r, h => by
    unfold deIs at h
    cases e : itemD d with
    | none => rw [e] at h; cases h
    | some o =>
      rw [e] at h
      dsimp only at h
      cases e2 : deIs l with
      | none => rw [e2] at h; cases h
      | some os =>
        rw [e2] at h
        cases Option.some.inj h
        rw [itemD_eq e, deIs_eq e2]
        rfl
theorem deRow_eq {d : PyData} {r : OR} (h : deRow d = some r) : d = orD r := by
  cases d with
  | list l => rw [deIs_eq h]; rfl
  | _ => cases h
theorem deRows_eq : ∀ {l : List PyData} {t : List OR}, deRows l = some t → l = t.map orD
  | [], t, h => by cases Option.some.inj h; rfl
  | d :: l, t, h => by
    unfold deRows at h
    cases e : deRow d with
    | none => rw [e] at h; cases h
    | some o =>
      rw [e] at h
      dsimp only at h
      cases e2 : deRows l with
      | none => rw [e2] at h; cases h
      | some os =>
        rw [e2] at h
        cases Option.some.inj h
        rw [deRow_eq e, deRows_eq e2]
        rfl
theorem deTb_eq {d : PyData} {t : List OR} (h : deTb d = some t) : d = tbD t := by
  cases d with
  | list l => rw [deRows_eq h]; rfl
  | _ => cases h
theorem itemD_oI (o : Option Int) : itemD (oI o) = some o := by cases o <;> rfl
theorem deIs_oI : ∀ r : OR, deIs (r.map oI) = some r
  | [] => rfl
  | o :: r => by
    show (match itemD (oI o) with | none => none | some o => match deIs (r.map oI) with | none => none | some os => some (o :: os)) = _
    rw [itemD_oI, deIs_oI r]
theorem deRow_or (r : OR) : deRow (orD r) = some r := deIs_oI r
theorem deRows_or : ∀ t : List OR, deRows (t.map orD) = some t
  | [] => rfl
  | r :: t => by
    show (match deRow (orD r) with | none => none | some o => match deRows (t.map orD) with | none => none | some os => some (o :: os)) = _
    rw [deRow_or, deRows_or t]
theorem deTb_tb (t : List OR) : deTb (tbD t) = some t := deRows_or t
def isRowD (d : PyData) (w : Int) : Bool := match deRow d with
  | none => false
  | some r => decide ((r.length : Int) = w)
def isTbD (d : PyData) (ns : List Int) : Bool := match deTb d with
  | none => false
  | some t => shpB ns t
def rightD (ns : List Int) (lss : List (List Ed)) (d : PyData) : Bool := match deTb d with
  | none => false
  | some t => rgtB ns lss t
/-- a list, by its items -/
def okI (d : PyData) : Bool := (itemD d).isSome
theorem deIs_cons (d : PyData) (l : List PyData) : deIs (d :: l) = match itemD d with
    | none => none
    | some o => match deIs l with
      | none => none
      | some os => some (o :: os) := rfl
theorem deIs_all : ∀ l : List PyData, (deIs l).isSome = l.all okI
  | [] => rfl
  | d :: l => by
    rw [List.all_cons, ← deIs_all l, deIs_cons]
    unfold okI
    cases itemD d with
    | none => rfl
    | some o => cases deIs l <;> rfl
theorem isRow_list (l : List PyData) (w : Int) : isRowD (.list l) w = (decide ((l.length : Int) = w) && l.all okI) := by
  unfold isRowD
  show (match deIs l with | none => false | some r => decide ((r.length : Int) = w)) = _
  rw [← deIs_all]
  cases e : deIs l with
  | none => rw [Option.isSome_none, Bool.and_false]
  | some r =>
    rw [Option.isSome_some, Bool.and_true]
    dsimp only
    rw [deIs_eq e, List.length_map]
theorem isRow_no {d : PyData} {w : Int} (h : tyD d ≠ "list") : isRowD d w = false := by
  cases d <;> first | rfl | exact absurd rfl h
theorem isTb_no {d : PyData} {ns : List Int} (h : tyD d ≠ "list") : isTbD d ns = false := by
  cases d <;> first | rfl | exact absurd rfl h
theorem isTb_list : ∀ (l : List PyData) (ns : List Int), isTbD (.list l) ns = (decide (l.length = ns.length) && (List.zipWith (fun d w => isRowD d w) l ns).all id) := fun l ns => by
  have h : ∀ (l : List PyData) (ns : List Int), (match deRows l with | none => false | some t => shpB ns t) = (decide (l.length = ns.length) && (List.zipWith (fun d w => isRowD d w) l ns).all id) := fun l => by
    induction l with
    | nil =>
      intro ns
      cases ns with
      | nil => rfl
      | cons w ns =>
        show shpB (w :: ns) [] = _
        rw [decide_eq_false (by simp), Bool.false_and]
        rfl
    | cons d l ih =>
      intro ns
      cases ns with
      | nil =>
        rw [decide_eq_false (by simp), Bool.false_and]
        unfold deRows
        cases deRow d with
        | none => rfl
        | some r => cases deRows l <;> rfl
      | cons w ns =>
        have := ih ns
        rw [List.zipWith_cons_cons, List.all_cons]
        have e0 : decide ((d :: l).length = (w :: ns).length) = decide (l.length = ns.length) := by simp
        rw [e0]
        unfold deRows isRowD
        cases e1 : deRow d with
        | none => simp
        | some r =>
          dsimp only
          have e2 : ∀ b : Bool, (decide (l.length = ns.length) && (id b && (List.zipWith (fun d w => isRowD d w) l ns).all id)) = (b && (decide (l.length = ns.length) && (List.zipWith (fun d w => isRowD d w) l ns).all id)) := fun b => by
            cases b <;> simp
          have e3 := e2 (decide ((r.length : Int) = w))
          unfold isRowD at e3
          rw [e3]
          unfold isRowD at this
          rw [← this]
          cases deRows l with
          | none => simp
          | some t => rfl
  exact h l ns
theorem or_at {row : OR} {r : Int} (h0 : 0 ≤ r) (h1 : r.toNat < row.length) : atI (row.map oI) r = some (oI (rgD row r)) := at_of0 h0 (by
  rw [List.getElem?_map]
  unfold rgD
  rw [List.getD_eq_getElem?_getD, List.getElem?_eq_getElem h1]
  rfl)
theorem or_atI {row : OR} {r : Int} (h0 : 0 ≤ r) (h1 : r.toNat < row.length) : atI ((row.map oI).map It.d) r = some (.d (oI (rgD row r))) := at_of0 h0 (by
  rw [List.getElem?_map, List.getElem?_map]
  unfold rgD
  rw [List.getD_eq_getElem?_getD, List.getElem?_eq_getElem h1]
  rfl)
theorem oI_ty (o : Option Int) : decide (tyD (oI o) = "NoneType") = o.isNone := by cases o <;> rfl
def minO : List Int → Option Int
  | [] => none
  | x :: xs => match minO xs with
    | none => some x
    | some m => some (if x ≤ m then x else m)
theorem minO_ok : ∀ l : List Int, IsMin (fun y => y ∈ l) (minO l)
  | [] => fun y hy => absurd hy List.not_mem_nil
  | x :: xs => by
    have ih := minO_ok xs
    unfold minO
    cases e : minO xs with
    | none =>
      rw [e] at ih
      dsimp only
      refine ⟨List.mem_cons_self, fun y hy => ?_⟩
      rcases List.mem_cons.mp hy with rfl | hy
      · exact Int.le_refl _
      · exact absurd hy (ih y)
    | some m =>
      rw [e] at ih
      dsimp only
      by_cases c : x ≤ m
      · rw [if_pos c]
        refine ⟨List.mem_cons_self, fun y hy => ?_⟩
        rcases List.mem_cons.mp hy with rfl | hy
        · exact Int.le_refl _
        · have := ih.2 y hy
          omega
      · rw [if_neg c]
        refine ⟨List.mem_cons_of_mem _ ih.1, fun y hy => ?_⟩
        rcases List.mem_cons.mp hy with rfl | hy
        · omega
        · exact ih.2 y hy
def leV (t : List OR) (en : List Int) : Option Int := minO (en.filterMap (endV t))
theorem leV_ok (t : List OR) (en : List Int) : IsMin (endS t en) (leV t en) := (minO_ok _).congr fun y => by
  rw [List.mem_filterMap]
  rfl

/-! ### trellises of any size -/
structure TrW (ns : List Int) (lss : List (List Ed)) (en : List Int) : Prop where
  wf : Wf en ns lss
  ll : lss.length ≤ 100
  lz : ∀ l ∈ lss, l.length ≤ 500
  ea : en.Pairwise (· < ·)
  el : en.length ≤ 500
theorem Wf.len {en : List Int} : ∀ {ns : List Int} {ls : List (List Ed)}, Wf en ns ls → ns.length = ls.length + 1
  | [_], [], _ => rfl
  | n :: m :: ns, l :: ls, ⟨_, _, h⟩ => by
    have := Wf.len h
    rw [List.length_cons, this, List.length_cons]
theorem Wf.one {en : List Int} : ∀ {ns : List Int} {ls : List (List Ed)}, Wf en ns ls → ∀ n ∈ ns, 1 ≤ n
  | [n], [], ⟨h, _⟩, x, hx => by rw [List.mem_singleton.mp hx]; exact h
  | n :: m :: ns, l :: ls, ⟨h0, _, h⟩, x, hx => by
    rcases List.mem_cons.mp hx with e | hx
    · rw [e]; exact h0
    · exact Wf.one h x hx
theorem Wf.at {en : List Int} : ∀ {ns : List Int} {ls : List (List Ed)} {i : Nat} {l : List Ed}, Wf en ns ls → ls[i]? = some l → WfE (ns.getD i 0) (ns.getD (i + 1) 0) l
  | [n], [], i, l, _, e => by simp at e
  | n :: m :: ns, l0 :: ls, 0, l, ⟨_, w, _⟩, e => by
    cases Option.some.inj e
    exact w
  | n :: m :: ns, l0 :: ls, i + 1, l, ⟨_, _, h⟩, e => Wf.at (i := i) h e
theorem Wf.ends {en : List Int} : ∀ {ns : List Int} {ls : List (List Ed)}, Wf en ns ls → ∀ x ∈ en, 0 ≤ x ∧ x < ns.getD ls.length 0
  | [n], [], ⟨_, h⟩, x, hx => h x hx
  | n :: m :: ns, l :: ls, ⟨_, _, h⟩, x, hx => Wf.ends h x hx
theorem TrOk.wf {ns : List Int} {lss : List (List Ed)} {en : List Int} (h : TrOk ns lss en) : Wf en ns lss := by
  obtain ⟨nl, l4, wd, ls, er, _, _⟩ := h
  clear l4
  induction lss generalizing ns with
  | nil =>
    match ns, nl with
    | [n], _ => exact ⟨(wd n List.mem_cons_self).1, er⟩
  | cons l lss ih =>
    match ns, nl with
    | n :: m :: ns, nl =>
      refine ⟨(wd n List.mem_cons_self).1, ?_, ih (by simpa using nl) (fun n hn => wd n (List.mem_cons_of_mem _ hn)) (fun i es he => ls (i + 1) es he) er⟩
      have := ls 0 l rfl
      exact ⟨fun e he => by
        have := this.rng e he
        exact ⟨this.1, this.2.1, this.2.2.1, this.2.2.2.1⟩, this.asc⟩
theorem TrOk.w {ns : List Int} {lss : List (List Ed)} {en : List Int} (h : TrOk ns lss en) : TrW ns lss en :=
  ⟨h.wf, Nat.le_trans h.l4 (by decide), fun l hl => by
    obtain ⟨i, hi⟩ := List.mem_iff_getElem?.mp hl
    have := (h.ls i l hi).len
    omega, h.ea, Nat.le_trans h.el (by decide)⟩
/-! the trellis apart -/
def aptW (ns : List Int) : List Int := 1 :: (ns.drop 1).map (1 + ·)
def aptE (en bs : List Int) : List Int := if bs = [] then [] else en
theorem onw_mem {l : List Ed} {r here there b : Int} {e : Ed} (h : e ∈ onw l r here there b) : ∃ e' ∈ l, e'.1 = r ∧ e = (here, if e'.2.2.1 = b then there else e'.2.1, e'.2.2.1, e'.2.2.2) := by
  obtain ⟨e', h1, rfl⟩ := List.mem_map.mp h
  obtain ⟨h1, h2⟩ := List.mem_filter.mp h1
  exact ⟨e', h1, of_decide_eq_true h2, rfl⟩
theorem onw_asc {l : List Ed} {r here there b : Int} (ha : (l.map kyE).Pairwise kLt) : ((onw l r here there b).map kyE).Pairwise kLt := by
  unfold onw
  rw [List.map_map, List.pairwise_map]
  rw [List.pairwise_map] at ha
  refine ((ha.filter fun e => decide (e.1 = r))).imp_of_mem fun {x y} hx hy h => ?_
  have h1 := of_decide_eq_true (List.mem_filter.mp hx).2
  have h2 := of_decide_eq_true (List.mem_filter.mp hy).2
  unfold kLt kyE at h
  dsimp only at h
  exact .inr ⟨rfl, by show x.2.2.1 < y.2.2.1; omega⟩
theorem onw_wf {l : List Ed} {n m r here b : Int} (w : WfE n m l) (h0 : 0 ≤ here) : WfE (here + 1) (m + 1) (onw l r here m b) := by
  refine ⟨fun e he => ?_, onw_asc w.asc⟩
  obtain ⟨e', h1, h2, rfl⟩ := onw_mem he
  obtain ⟨a, c, d, g⟩ := w.rng e' h1
  dsimp only
  refine ⟨by omega, ?_, d, g⟩
  split <;> omega
theorem apl_wf {l : List Ed} {n m r b : Int} (h0 : 0 ≤ n) (w : WfE n m l) : WfE (n + 1) (m + 1) (l ++ onw l r n m b) := by
  have w2 := onw_wf (r := r) (b := b) w h0
  refine ⟨fun e he => ?_, ?_⟩
  · rcases List.mem_append.mp he with he | he
    · obtain ⟨a, c, d, g⟩ := w.rng e he
      exact ⟨by omega, by omega, d, g⟩
    · exact w2.rng e he
  · rw [List.map_append, List.pairwise_append]
    refine ⟨w.asc, w2.asc, fun x hx y hy => ?_⟩
    obtain ⟨e, he, rfl⟩ := List.mem_map.mp hx
    obtain ⟨e', he', rfl⟩ := List.mem_map.mp hy
    left
    show e.1 < e'.1
    rw [onw_fst he']
    exact (w.rng e he).1.2
theorem aptL_wf {en : List Int} : ∀ {ns : List Int} {n : Int} {ls : List (List Ed)} {bs : List Int} {r : Int}, Wf en (n :: ns) ls → wlk ls bs r → Wf en ((n :: ns).map (1 + ·)) (aptL (n :: ns) ls bs r)
  | [], n, [], [], r, ⟨h, h2⟩, _ => ⟨show 1 ≤ 1 + n by omega, fun x hx => by have := h2 x hx; show 0 ≤ x ∧ x < 1 + n; omega⟩
  | m :: ns, n, l :: ls, b :: bs, r, ⟨h0, w, h⟩, ⟨e0, k0, hw⟩ => by
    have en' : nxt l r b = e0.2.1 := by unfold nxt; rw [k0]
    refine ⟨show 1 ≤ 1 + n by omega, ?_, ?_⟩
    · have := apl_wf (r := r) (b := b) (by omega) w
      show WfE (1 + n) (1 + m) _
      rw [Int.add_comm 1 n, Int.add_comm 1 m]
      exact this
    · have := aptL_wf (r := nxt l r b) h (by rw [en']; exact hw)
      exact this
theorem apt_wf {en : List Int} {ns : List Int} {ls : List (List Ed)} {bs : List Int} (h : Wf en ns ls) (hw : wlk ls bs 0) : Wf (aptE en bs) (aptW ns) (apt ns ls bs) := by
  match ns, ls, bs, h, hw with
  | [n], [], [], h, _ => exact ⟨by decide, fun x hx => absurd hx List.not_mem_nil⟩
  | n :: m :: ns, l :: ls, b :: bs, ⟨_, w, h⟩, ⟨e0, k0, hw⟩ =>
    have en' : nxt l 0 b = e0.2.1 := by unfold nxt; rw [k0]
    have := aptL_wf (r := nxt l 0 b) h (by rw [en']; exact hw)
    unfold aptE
    rw [if_neg (by simp)]
    refine ⟨by decide, ?_, this⟩
    show WfE 1 (1 + m) _
    rw [Int.add_comm 1 m]
    exact onw_wf (here := 0) w (Int.le_refl 0)
theorem onw_len (l : List Ed) (r here there b : Int) : (onw l r here there b).length ≤ l.length := by
  unfold onw
  rw [List.length_map]
  exact List.length_filter_le _ _
theorem aptL_len {z : Nat} : ∀ {ns : List Int} {ls : List (List Ed)} {bs : List Int} {r : Int}, (∀ l ∈ ls, l.length ≤ z) → (aptL ns ls bs r).length ≤ ls.length ∧ ∀ l ∈ aptL ns ls bs r, l.length ≤ 2 * z
  | n :: m :: ns, l :: ls, b :: bs, r, h => by
    have ih := aptL_len (ns := m :: ns) (bs := bs) (r := nxt l r b) fun l' hl => h l' (List.mem_cons_of_mem _ hl)
    refine ⟨Nat.succ_le_succ ih.1, fun l' hl => ?_⟩
    rcases List.mem_cons.mp hl with e | hl
    · rw [e, List.length_append]
      have := onw_len l r n m b
      have := h l List.mem_cons_self
      omega
    · exact ih.2 l' hl
  | [], _, _, _, _ => ⟨Nat.zero_le _, fun l h => absurd h List.not_mem_nil⟩
  | [_], _, _, _, _ => ⟨Nat.zero_le _, fun l h => absurd h List.not_mem_nil⟩
  | _ :: _ :: _, [], _, _, _ => ⟨Nat.zero_le _, fun l h => absurd h List.not_mem_nil⟩
  | _ :: _ :: _, _ :: _, [], _, _ => ⟨Nat.zero_le _, fun l h => absurd h List.not_mem_nil⟩
theorem apt_len {z : Nat} {ns : List Int} {ls : List (List Ed)} {bs : List Int} (h : ∀ l ∈ ls, l.length ≤ z) : (apt ns ls bs).length ≤ ls.length ∧ ∀ l ∈ apt ns ls bs, l.length ≤ 2 * z := by
  match ns, ls, bs, h with
  | n :: m :: ns, l :: ls, b :: bs, h =>
    have ih := aptL_len (ns := m :: ns) (bs := bs) (r := nxt l 0 b) fun l' hl => h l' (List.mem_cons_of_mem _ hl)
    refine ⟨Nat.succ_le_succ ih.1, fun l' hl => ?_⟩
    rcases List.mem_cons.mp hl with e | hl
    · rw [e]
      have := onw_len l 0 0 m b
      have := h l List.mem_cons_self
      omega
    · exact ih.2 l' hl
  | [], _, _, _ => exact ⟨Nat.zero_le _, fun l h => absurd h List.not_mem_nil⟩
  | [_], _, _, _ => exact ⟨Nat.zero_le _, fun l h => absurd h List.not_mem_nil⟩
  | _ :: _ :: _, [], _, _ => exact ⟨Nat.zero_le _, fun l h => absurd h List.not_mem_nil⟩
  | _ :: _ :: _, _ :: _, [], _ => exact ⟨Nat.zero_le _, fun l h => absurd h List.not_mem_nil⟩
theorem TrW.apt {ns : List Int} {lss : List (List Ed)} {en bs : List Int} (h : TrW ns lss en) (h9 : ∀ l ∈ lss, l.length ≤ 250) (hw : wlk lss bs 0) : TrW (aptW ns) (apt ns lss bs) (aptE en bs) := by
  have a := apt_len (ns := ns) (bs := bs) h9
  refine ⟨apt_wf h.wf hw, Nat.le_trans a.1 h.ll, a.2, ?_, ?_⟩
  · unfold aptE
    split
    · exact List.Pairwise.nil
    · exact h.ea
  · unfold aptE
    split
    · exact Nat.zero_le _
    · exact h.el
/-! sorted paths of the trellis apart -/
theorem srtQ_apt {ns : List Int} {lss : List (List Ed)} {en bs : List Int} (h : Wf en ns lss) (hw : wlk lss bs 0) : srtQ (apt ns lss bs) (aptE en bs) = (srtQ lss en).filter fun q => decide (q.2 ≠ bs) := by
  unfold srtQ aptE
  rw [apt_pth h hw, ← srt_filter, List.filter_map]
  rfl
theorem srtQ_one {ls : List (List Ed)} {en bs : List Int} (ha : ∀ l ∈ ls, (l.map kyE).Pairwise kLt) : (srtQ ls en).filter (fun q => decide (q.2 = bs)) = match cst en ls bs 0 with
    | none => []
    | some c => [(c, bs)] := by
  unfold srtQ
  rw [← srt_filter, List.filter_map]
  have := cst_pth en ls bs 0 ha
  have e : ((fun q : CP => decide (q.2 = bs)) ∘ fun p : List Int × Int => (p.2, p.1)) = fun p => decide (p.1 = bs) := rfl
  rw [e, this]
  cases cst en ls bs 0 with
  | none => simp [srt]
  | some c => simp [srt]
theorem srtQ_mem {ls : List (List Ed)} {en : List Int} {q : CP} (ha : ∀ l ∈ ls, (l.map kyE).Pairwise kLt) (h : q ∈ srtQ ls en) : cst en ls q.2 0 = some q.1 := by
  have m : q ∈ (srtQ ls en).filter (fun x => decide (x.2 = q.2)) := List.mem_filter.mpr ⟨h, decide_eq_true rfl⟩
  rw [srtQ_one ha] at m
  cases k : cst en ls q.2 0 with
  | none => rw [k] at m; exact absurd m List.not_mem_nil
  | some c =>
    rw [k] at m
    rw [List.mem_singleton.mp m]
/-- behind the head of the sorted paths stand those of the trellis apart -/
theorem srtQ_tail {ls : List (List Ed)} {en : List Int} {q : CP} {r : List CP} (ha : ∀ l ∈ ls, (l.map kyE).Pairwise kLt) (h : srtQ ls en = q :: r) : (srtQ ls en).filter (fun x => decide (x.2 ≠ q.2)) = r := by
  have o := srtQ_one (bs := q.2) (en := en) ha
  rw [srtQ_mem ha (by rw [h]; exact List.mem_cons_self), h, List.filter_cons_of_pos (by simp)] at o
  have o : r.filter (fun x => decide (x.2 = q.2)) = [] := (List.cons.inj o).2
  rw [h, List.filter_cons_of_neg (by simp)]
  refine List.filter_eq_self.mpr fun x hx => ?_
  have := List.filter_eq_nil_iff.mp o x hx
  simpa using this


theorem drop_get {α : Type} {l : List α} {k : Nat} {x : α} (h : l[k]? = some x) : l.drop k = x :: l.drop (k + 1) := by
  obtain ⟨lt, e⟩ := List.getElem?_eq_some_iff.mp h
  rw [List.drop_eq_getElem_cons lt, e]

theorem take_snoc {α : Type} {l : List α} {m : Nat} {x : α} (h : l[m]? = some x) : l.take (m + 1) = l.take m ++ [x] := by
  rw [List.take_add_one, h]
  rfl
theorem ty_tuple {d : PyData} (h : tyD d = "tuple") : ∃ l, d = .tuple l := by
  cases d with
  | tuple l => exact ⟨l, rfl⟩
  | _ => simp [tyD] at h
theorem ty_list {d : PyData} (h : tyD d = "list") : ∃ l, d = .list l := by
  cases d with
  | list l => exact ⟨l, rfl⟩
  | _ => simp [tyD] at h
theorem ty_int {d : PyData} (h : tyD d = "int") : ∃ n, d = .int n := by
  cases d with
  | int l => exact ⟨l, rfl⟩
  | _ => simp [tyD] at h

/-! ### potentials: the program -/
def CoIrow : Co := fun is M i M' => M = [] ∧ M' = [] ∧ ∃ d w, is = [.d d, dI w] ∧ (∀ l, d = .list l → l.length ≤ 1000) ∧ i = dB (isRowD d w)
def CoItab : Co := fun is M i M' => M = [] ∧ M' = [] ∧ ∃ (d : PyData) (ns : List Int), is = [.d d, .d (.tuple (ns.map .int))] ∧ (∀ l, d = .list l → l.length ≤ 1000 ∧ ∀ x ∈ l, ∀ l2, x = .list l2 → l2.length ≤ 1000) ∧ ns.length ≤ 1000 ∧ i = dB (isTbD d ns)
def InR (row beh : OR) (l : List Ed) : Prop := ∀ e ∈ l, (0 ≤ e.1 ∧ e.1.toNat < row.length) ∧ (0 ≤ e.2.1 ∧ e.2.1.toNat < beh.length)
def CoIbnd : Co := fun is M i M' => M = [] ∧ M' = [] ∧ ∃ (l : List Ed) (row beh : OR), is = [.d (encL l), .d (orD row), .d (orD beh)] ∧ InR row beh l ∧ i = dB (bndB row beh l)
def tameT (d : PyData) : Prop := ∀ l, d = .list l → l.length ≤ 1000 ∧ ∀ x ∈ l, ∀ l2, x = .list l2 → l2.length ≤ 1000
def CoArt : Co := fun is M i M' => M = [] ∧ M' = [] ∧ ∃ (ns : List Int) (lss : List (List Ed)) (en : List Int) (d : PyData), is = [.d (trE ns lss en), .d d] ∧ TrW ns lss en ∧ tameT d ∧ i = dB (rightD ns lss d)
def CoRb : Co := fun is M i M' => M = [] ∧ M' = [] ∧ ∃ (row : OR) (l : List Ed) (w : Int), is = [.d (orD row), .d (encL l), dI w] ∧ 1 ≤ w ∧ w ≤ 1000 ∧ (∀ e ∈ l, (0 ≤ e.1 ∧ e.1.toNat < row.length) ∧ (0 ≤ e.2.1 ∧ e.2.1 < w)) ∧ i = .d (orD (rbF row l w))
def CoPot : Co := fun is M i M' => M = [] ∧ M' = [] ∧ ∃ (ns : List Int) (lss : List (List Ed)) (en : List Int), is = [.d (trE ns lss en)] ∧ TrW ns lss en ∧ (∀ n ∈ ns, n ≤ 1000) ∧ i = .d (tbD (potT ns lss))
def CoLe : Co := fun is M i M' => M = [] ∧ M' = [] ∧ ∃ (ns : List Int) (lss : List (List Ed)) (en : List Int) (t : List OR), is = [.d (trE ns lss en), .d (tbD t)] ∧ t ≠ [] ∧ en.length ≤ 500 ∧ (∀ x ∈ en, 0 ≤ x ∧ x.toNat < (t.getLastD []).length) ∧ i = .d (oI (leV t en))
theorem all_take {α : Type} (f : α → Bool) {l : List α} {k : Nat} {x : α} (h : l[k]? = some x) : (l.take (k + 1)).all f = ((l.take k).all f && f x) := by
  rw [List.take_add_one, h, List.all_append]
  simp
section
variable {P : Program} {w : World} {K : PySem.W.Frag} {mg : Str → Option Value} {base : Heap}
theorem d_is_row (T : Txt K mg) : Def P w K mg base "is_row" 2 CoIrow := by
  obtain ⟨f, fd, F, hm, hb⟩ := T.f_is_row
  have G := d_is_integer (P := P) (w := w) (base := base) T
  refine def_ok F sc_is_row hm hb (fun is M i M' h => ?_) fun X hX N is M i M' hF hC => ?_
  · obtain ⟨rfl, rfl, d, wd, rfl, _⟩ := h
    exact ⟨rfl, rfl⟩
  · obtain ⟨cdv, A, outer, sh, H, E, rfl, hr⟩ := hX
    obtain ⟨rfl, rfl, d, wd, rfl, ht, rfl⟩ := hC
    have nd := sc_is_row.nd
    by_cases hty : tyD d = "list"
    · obtain ⟨l, rfl⟩ : ∃ l, d = .list l := ty_list hty
      have hl := ht l rfl
      rw [isRow_list]
      refine sj_if (t := !decide ((l.length : Int) = wd)) (tj_w (wj_or (t := false) (tj_is (tj_not (tj_val (ej_isi T.b_isinstance (ej_name 0) (ej_ty T.b_list boot_list') (kit_list _)))) rfl) fun _ => wj_or1 (tj_neI (ej_lenL (ds := l) T.b_len (ej_name 0)) (ej_name 1)))) (fun h => ?_) fun h => sj_nil ?_
      · have h : decide ((l.length : Int) = wd) = false := by simpa using h
        refine sj_ret ej_bl ⟨?_, [], rfl⟩
        rw [h]
        rfl
      · have h : decide ((l.length : Int) = wd) = true := by simpa using h
        rw [h, Bool.true_and]
        refine sj_ret (ej_is (ej_all (bs := l.map okI) rfl T.b_all (ej_el (ds := (l.map okI).map .bool) (el_compW1 2 (ds := l) (fun k => (l.take k).map fun x => dB (okI x)) (fun _ => []) rfl nd (iw_list (ej_name 0)) (fun _ _ => trivial) rfl rfl (by omega) (fun k x hk => ⟨dB (okI x), take_map_succ _ hk, by rw [List.length_map, List.length_take]; omega, fun N' s H C cl fp => ej_is (ej_orV (t := decide (tyD x = "NoneType")) (u := decide (tyD x = "int")) (ej_isNo (ej_name 2) ej_non) fun _ => ej_one (ej_callP G (hr.mono (by decide)) (aj1 (ej_name (i := .d x) 2)) ⟨rfl, rfl, x, rfl, rfl⟩)) (by cases x <;> rfl)⟩)) (by rw [List.take_length, List.map_map, List.map_map]; rfl))) (by rw [List.all_map]; rfl)) ⟨rfl, [], rfl⟩
    · rw [isRow_no hty]
      refine sj_if (t := true) (tj_w (wj_or (t := true) (u := true) (tj_is (tj_not (tj_val (ej_isi T.b_isinstance (ej_name 0) (ej_ty T.b_list boot_list') (kit_list d)))) (by rw [decide_eq_false hty]; rfl)) fun h => nomatch h)) (fun _ => sj_ret ej_bl ⟨rfl, [], rfl⟩) fun h => nomatch h
theorem d_is_table (T : Txt K mg) : Def P w K mg base "is_table" 3 CoItab := by
  obtain ⟨f, fd, F, hm, hb⟩ := T.f_is_table
  have G := d_is_row (P := P) (w := w) (base := base) T
  refine def_ok F sc_is_table hm hb (fun is M i M' h => ?_) fun X hX N is M i M' hF hC => ?_
  · obtain ⟨rfl, rfl, d, ns, rfl, _⟩ := h
    exact ⟨rfl, rfl⟩
  · obtain ⟨cdv, A, outer, sh, H, E, rfl, hr⟩ := hX
    obtain ⟨rfl, rfl, d, ns, rfl, ht, hn, rfl⟩ := hC
    have nd := sc_is_table.nd
    have nl : (ns.map PyData.int).length = ns.length := List.length_map ..
    by_cases hty : tyD d = "list"
    · obtain ⟨l, rfl⟩ : ∃ l, d = .list l := ty_list hty
      obtain ⟨hl, hx⟩ := ht l rfl
      rw [isTb_list]
      refine sj_if (t := !decide ((l.length : Int) = (ns.length : Int))) (tj_w (wj_or (t := false) (tj_is (tj_not (tj_val (ej_isi T.b_isinstance (ej_name 0) (ej_ty T.b_list boot_list') (kit_list _)))) rfl) fun _ => wj_or1 (tj_neI (ej_lenL (ds := l) T.b_len (ej_name 0)) (ej_is (ej_lenT (ds := ns.map .int) T.b_len (ej_name 1)) (by rw [nl]))))) (fun h => ?_) fun h => sj_nil ?_
      · have h : decide ((l.length : Int) = (ns.length : Int)) = false := by simpa using h
        have h := of_decide_eq_false h
        refine sj_ret ej_bl ⟨?_, [], rfl⟩
        rw [decide_eq_false (show ¬ l.length = ns.length by omega)]
        rfl
      · have h : decide ((l.length : Int) = (ns.length : Int)) = true := by simpa using h
        have h := of_decide_eq_true h
        rw [decide_eq_true (show l.length = ns.length by omega), Bool.true_and]
        have zl : (List.zipWith (fun x y => PyData.tuple [x, y]) l (ns.map PyData.int)).length = l.length := by rw [List.length_zipWith, nl]; omega
        refine sj_ret (ej_is (ej_all (bs := List.zipWith (fun d w => isRowD d w) l ns) rfl T.b_all (ej_el (ds := (List.zipWith (fun d w => isRowD d w) l ns).map .bool) (el_compW2 2 3 (ds := List.zipWith (fun x y => PyData.tuple [x, y]) l (ns.map .int)) (fun k => ((List.zipWith (fun d w => isRowD d w) l ns).take k).map dB) (fun _ => []) rfl nd (by decide) (ia_zipM T.b_zip (ej_name 0) (ej_name 1)).iw (fun _ _ => trivial) rfl rfl (by rw [zl]; omega) (fun k d hk => ?_)) ?_)) rfl) ⟨rfl, [], rfl⟩
        · have kl : k < l.length := by rw [← zl]; exact (List.getElem?_eq_some_iff.mp hk).1
          obtain ⟨x, hxk⟩ : ∃ x, l[k]? = some x := ⟨l[k], List.getElem?_eq_getElem kl⟩
          obtain ⟨n, hnk⟩ : ∃ n, ns[k]? = some n := ⟨ns[k], List.getElem?_eq_getElem (by omega)⟩
          rw [List.getElem?_zipWith, hxk, List.getElem?_map, hnk] at hk
          have hk : some (PyData.tuple [x, .int n]) = some d := hk
          cases Option.some.inj hk
          have ez : (List.zipWith (fun d w => isRowD d w) l ns)[k]? = some (isRowD x n) := by rw [List.getElem?_zipWith, hxk, hnk]
          exact ⟨x, .int n, dB (isRowD x n), rfl, take_map_succ _ ez, by rw [List.length_map, List.length_take]; omega, fun N' s H C cl fp => ej_callP G hr (aj2 (ej_name (i := .d x) 2) (ej_name (i := dI n) 3)) ⟨rfl, rfl, x, n, rfl, fun l2 e => hx x (List.mem_of_getElem? hxk) l2 e, rfl⟩⟩
        · rw [zl, List.take_of_length_le (by rw [List.length_zipWith]; omega), List.map_map]
          rfl
    · rw [isTb_no hty]
      refine sj_if (t := true) (tj_w (wj_or (t := true) (u := true) (tj_is (tj_not (tj_val (ej_isi T.b_isinstance (ej_name 0) (ej_ty T.b_list boot_list') (kit_list d)))) (by rw [decide_eq_false hty]; rfl)) fun h => nomatch h)) (fun _ => sj_ret ej_bl ⟨rfl, [], rfl⟩) fun h => nomatch h
theorem d_is_bounded (T : Txt K mg) : Def P w K mg base "is_bounded" 1 CoIbnd := by
  obtain ⟨f, fd, F, hm, hb⟩ := T.f_is_bounded
  refine def_ok F sc_is_bounded hm hb (fun is M i M' h => ?_) fun X hX N is M i M' hF hC => ?_
  · obtain ⟨rfl, rfl, l, row, beh, rfl, _⟩ := h
    exact ⟨rfl, rfl⟩
  · obtain ⟨cdv, A, outer, sh, H, E, rfl, hr⟩ := hX
    obtain ⟨rfl, rfl, l, row, beh, rfl, hin, rfl⟩ := hC
    have nd := sc_is_bounded.nd
    refine sj_forW (ds := l.map encE) (M1 := []) rfl (iw_list (ej_name 0)) (fun k ρ M => ∃ y3 y4 y5 y6, (bndB row beh l = bndB row beh (l.drop k)) ∧ ρ = [some (.d (encL l)), some (.d (orD row)), some (.d (orD beh)), y3, y4, y5, y6] ∧ M = []) ⟨none, none, none, none, rfl, rfl, rfl⟩ (fun k d ρ M hk hI => ?_) fun ρ M hI => ?_
    · obtain ⟨y3, y4, y5, y6, hI, rfl, rfl⟩ := hI
      obtain ⟨e, he, rfl⟩ := enc_at hk
      obtain ⟨i1, i2⟩ := hin e (List.mem_of_getElem? he)
      have st : bndB row beh (l.drop k) = ((match rgD row e.1 with
        | none => true
        | some c => match rgD beh e.2.1 with
          | none => false
          | some v => decide (v ≤ c + e.2.2.2)) && bndB row beh (l.drop (k + 1))) := by
        rw [drop_get he]
        rfl
      rw [st] at hI
      refine ⟨_, gj_tup (ds := [.int e.1, .int e.2.1, .int e.2.2.1, .int e.2.2.2]) rfl (gs_cons 3 nd (gs_cons 4 nd (gs_cons 5 nd (gs_cons 6 nd gs_nil)))), ?_⟩
      have r1 := or_at (row := row) i1.1 i1.2
      have r2 := or_at (row := beh) i2.1 i2.2
      cases hc : rgD row e.1 with
      | none =>
        rw [hc] at hI r1
        refine sj_if (t := false) (tj_is (tj_notNo (ej_ixL (ds := row.map oI) (ej_name 1) (ej_name (i := dI e.1) 3) r1) ej_non) rfl) (fun h => nomatch h) fun _ => sj_nil (sj_nil ⟨_, _, _, _, hI, rfl, rfl⟩)
      | some c =>
        rw [hc] at hI r1
        refine sj_if (t := true) (tj_is (tj_notNo (ej_ixL (ds := row.map oI) (ej_name 1) (ej_name (i := dI e.1) 3) r1) ej_non) rfl) (fun _ => ?_) fun h => nomatch h
        cases hv : rgD beh e.2.1 with
        | none =>
          rw [hv] at hI r2
          refine sj_if (t := true) (tj_is (tj_w (wj_or (t := true) (u := true) (tj_is (tj_isN (ej_ixL (ds := beh.map oI) (ej_name 2) (ej_name (i := dI e.2.1) 4) r2) ej_non) rfl) fun h => nomatch h)) rfl) (fun _ => ?_) fun h => nomatch h
          exact sj_ret ej_bl ⟨by rw [hI]; rfl, [], rfl⟩
        | some v =>
          rw [hv] at hI r2
          refine sj_if (t := decide (c + e.2.2.2 < v)) (tj_is (tj_w (wj_or (t := false) (u := decide (c + e.2.2.2 < v)) (tj_is (tj_isN (ej_ixL (ds := beh.map oI) (ej_name 2) (ej_name (i := dI e.2.1) 4) r2) ej_non) rfl) fun _ => wj_or1 (tj_gt (n := v) (m := c + e.2.2.2) (ej_ixL (ds := beh.map oI) (ej_name 2) (ej_name (i := dI e.2.1) 4) r2) (ej_add (n := c) (m := e.2.2.2) (ej_ixL (ds := row.map oI) (ej_name 1) (ej_name (i := dI e.1) 3) r1) (ej_name 6))))) rfl) (fun h => ?_) fun h => ?_
          · have := of_decide_eq_true h
            refine sj_ret ej_bl ⟨?_, [], rfl⟩
            rw [hI]
            dsimp only
            rw [decide_eq_false (by omega)]
            rfl
          · have := of_decide_eq_false h
            dsimp only at hI
            rw [decide_eq_true (by omega), Bool.true_and] at hI
            exact sj_nil (sj_nil (sj_nil ⟨_, _, _, _, hI, rfl, rfl⟩))
    · obtain ⟨y3, y4, y5, y6, hI, rfl, rfl⟩ := hI
      rw [List.length_map, List.drop_length] at hI
      exact sj_ret ej_bl ⟨by rw [hI]; rfl, [], rfl⟩
end

theorem at_last {α : Type} {l : List α} {x : α} : atI (l ++ [x]) (-1) = some x := by
  unfold atI
  have e : ixN (l ++ [x]).length (-1) = some l.length := by
    rw [List.length_append]
    unfold ixN
    simp
    omega
  rw [e]
  show (l ++ [x])[l.length]? = some x
  simp
theorem at_neg1' {α : Type} {l : List α} {x : α} (h : l[l.length - 1]? = some x) (hn : 1 ≤ l.length) : atI l (-1) = some x := by
  have hne : l ≠ [] := fun e => by
    rw [e] at hn
    exact absurd (show 1 ≤ 0 from hn) (by decide)
  have e := List.dropLast_concat_getLast hne
  have : l.getLast hne = x := by
    rw [List.getLast_eq_getElem]
    exact (List.getElem?_eq_some_iff.mp h).2
  rw [← e, at_last, this]

theorem rgtL_all : ∀ {lss : List (List Ed)} {t : List OR}, t.length = lss.length + 1 → rgtL t lss = ((List.range lss.length).map fun k => bndB (t.getD k []) (t.getD (k + 1) []) (lss.getD k [])).all id
  | [], [row], _ => rfl
  | l :: lss, row :: b :: t, h => by
    have ih := rgtL_all (lss := lss) (t := b :: t) (by simpa using h)
    show (bndB row b l && rgtL (b :: t) lss) = _
    rw [ih, List.length_cons, List.range_succ_eq_map, List.map_cons, List.all_cons, List.map_map]
    rfl
  | [], _ :: _ :: _, h => by simp at h
  | _ :: _, [_], h => by simp at h
  | [], [], h => by simp at h
  | _ :: _, [], h => by simp at h
theorem shp_at : ∀ {ns : List Int} {t : List OR} {k : Nat}, shpB ns t = true → k < ns.length → ((t.getD k []).length : Int) = ns.getD k 0
  | w :: ws, row :: t, 0, h, _ => of_decide_eq_true (Bool.and_eq_true_iff.mp h).1
  | w :: ws, row :: t, k + 1, h, hk => by
    have := shp_at (k := k) (Bool.and_eq_true_iff.mp h).2 (by simpa using hk)
    exact this
  | [], [], k, _, hk => absurd hk (Nat.not_lt_zero _)
  | [], _ :: _, _, h, _ => by cases h
  | _ :: _, [], _, h, _ => by cases h
theorem getD_lt {α : Type} {l : List α} {k : Nat} {d : α} (h : k < l.length) : l[k]? = some (l.getD k d) := by
  rw [List.getD_eq_getElem?_getD, List.getElem?_eq_getElem h]
  rfl
theorem tb_at {t : List OR} {k : Nat} (h : k < t.length) : atI (t.map orD) (k : Int) = some (orD (t.getD k [])) := atI_nat (j := k) (by rw [List.getElem?_map, getD_lt (d := []) h]; rfl)
theorem wf_in {en ns : List Int} {lss : List (List Ed)} {t : List OR} {k : Nat} (wf : Wf en ns lss) (hs : shpB ns t = true) (hk : k < lss.length) : InR (t.getD k []) (t.getD (k + 1) []) (lss.getD k []) := fun e he => by
  have hl := wf.len
  have w := wf.at (getD_lt (d := []) hk)
  have r := w.rng e he
  have s1 := shp_at (k := k) hs (by omega)
  have s2 := shp_at (k := k + 1) hs (by omega)
  omega
section
variable {P : Program} {w : World} {K : PySem.W.Frag} {mg : Str → Option Value} {base : Heap}
theorem d_are_right (T : Txt K mg) : Def P w K mg base "are_right" 4 CoArt := by
  obtain ⟨f, fd, F, hm, hb⟩ := T.f_are_right
  have G1 := d_is_table (P := P) (w := w) (base := base) T
  have G2 := d_is_bounded (P := P) (w := w) (base := base) T
  refine def_ok F sc_are_right hm hb (fun is M i M' h => ?_) fun X hX N is M i M' hF hC => ?_
  · obtain ⟨rfl, rfl, ns, lss, en, d, rfl, _⟩ := h
    exact ⟨rfl, rfl⟩
  · obtain ⟨cdv, A, outer, sh, H, E, rfl, hr⟩ := hX
    obtain ⟨rfl, rfl, ns, lss, en, d, rfl, tw, ht, rfl⟩ := hC
    have nd := sc_are_right.nd
    have hl := tw.wf.len
    have hll := tw.ll
    have n1 := tw.wf.one
    refine sj_asgG (i := .d (trE ns lss en)) (ej_name 0) (gj_tup (ds := [.str "trellis", .tuple (ns.map .int), .list (lss.map encL), .tuple (en.map .int)]) rfl (gs_cons 2 nd (gs_cons 3 nd (gs_cons 4 nd (gs_cons 2 nd gs_nil))))) ?_
    cases ed : deTb d with
    | none =>
      have e1 : isTbD d ns = false := by unfold isTbD; rw [ed]
      have e2 : rightD ns lss d = false := by unfold rightD; rw [ed]
      rw [e2]
      refine sj_if (t := true) (tj_w (wj_or (t := true) (u := true) (tj_is (tj_not (tj_val (ej_callP G1 hr (aj2 (ej_name (i := .d d) 1) (ej_name 3)) ⟨rfl, rfl, d, ns, rfl, ht, by omega, rfl⟩))) (by rw [e1]; rfl)) fun h => nomatch h)) (fun _ => sj_ret ej_bl ⟨rfl, [], rfl⟩) fun h => nomatch h
    | some t =>
      have edt := deTb_eq ed
      subst edt
      have e1 : isTbD (tbD t) ns = shpB ns t := by unfold isTbD; rw [ed]
      have e2 : rightD ns lss (tbD t) = rgtB ns lss t := by unfold rightD; rw [ed]
      rw [e2]
      cases hs : shpB ns t with
      | false =>
        have e3 : rgtB ns lss t = false := by unfold rgtB; rw [hs]; rfl
        rw [e3]
        refine sj_if (t := true) (tj_w (wj_or (t := true) (u := true) (tj_is (tj_not (tj_val (ej_callP G1 hr (aj2 (ej_name (i := .d (tbD t)) 1) (ej_name 3)) ⟨rfl, rfl, tbD t, ns, rfl, ht, by omega, rfl⟩))) (by rw [e1, hs]; rfl)) fun h => nomatch h)) (fun _ => sj_ret ej_bl ⟨rfl, [], rfl⟩) fun h => nomatch h
      | true =>
        have tl := shp_len hs
        have t0 : t.headD [] = t.getD 0 [] := by cases t <;> rfl
        have s0 := shp_at (k := 0) hs (by omega)
        have w0 : 1 ≤ ns.getD 0 0 := n1 _ (by rw [List.getD_eq_getElem?_getD, List.getElem?_eq_getElem (by omega)]; exact List.getElem_mem _)
        have r00 := or_at (row := t.getD 0 []) (r := 0) (Int.le_refl 0) (by show 0 < _; omega)
        have e3 : rgtB ns lss t = (decide (rgD (t.getD 0 []) 0 = some 0) && ((List.range lss.length).map fun k => bndB (t.getD k []) (t.getD (k + 1) []) (lss.getD k [])).all id) := by
          unfold rgtB
          rw [hs, Bool.true_and, t0, rgtL_all (by omega)]
        rw [e3]
        have eqv0 : (!PyData.eqv (oI (rgD (t.getD 0 []) 0)) (.int 0)) = !decide (rgD (t.getD 0 []) 0 = some 0) := by
          congr 1
          cases rgD (t.getD 0 []) 0 with
          | none => rfl
          | some v =>
            have e : PyData.eqv (.int v) (.int 0) = decide (v = 0) := by simp only [PyData.eqv]; rfl
            show PyData.eqv (.int v) (.int 0) = _
            rw [e]
            refine decide_eq_decide.mpr ⟨fun h => by rw [h], fun h => Option.some.inj h⟩
        have pnI : ∀ o : Option Int, plainD (oI o) = true := fun o => by cases o <;> rfl
        refine sj_if (t := !decide (rgD (t.getD 0 []) 0 = some 0)) (tj_w (wj_or (t := false) (u := !decide (rgD (t.getD 0 []) 0 = some 0)) (tj_is (tj_not (tj_val (ej_callP G1 hr (aj2 (ej_name (i := .d (tbD t)) 1) (ej_name 3)) ⟨rfl, rfl, tbD t, ns, rfl, ht, by omega, rfl⟩))) (by rw [e1, hs]; rfl)) fun _ => wj_or1 (tj_is (tj_neD hr.units (d := oI (rgD (t.getD 0 []) 0)) (d' := .int 0) (ej_ixL (ds := (t.getD 0 []).map oI) (ej_ixL (ds := t.map orD) (n := ((0 : Nat) : Int)) (ej_name 1) (ej_is ej_int rfl) (tb_at (by omega))) ej_int r00) ej_int (.d _) (.d _) (pnI _) rfl) eqv0))) (fun h => ?_) fun h => sj_nil ?_
        · have h : decide (rgD (t.getD 0 []) 0 = some 0) = false := by simpa using h
          exact sj_ret ej_bl ⟨by rw [h]; rfl, [], rfl⟩
        · have h : decide (rgD (t.getD 0 []) 0 = some 0) = true := by simpa using h
          rw [h, Bool.true_and]
          have el : (enumD (lss.map encL)).length = lss.length := by rw [enumD_len, List.length_map]
          refine sj_ret (ej_all (bs := (List.range lss.length).map fun k => bndB (t.getD k []) (t.getD (k + 1) []) (lss.getD k [])) rfl T.b_all (ej_el (ds := ((List.range lss.length).map fun k => bndB (t.getD k []) (t.getD (k + 1) []) (lss.getD k [])).map .bool) (el_compW2 5 6 (ds := enumD (lss.map encL)) (fun k => (((List.range lss.length).map fun k => bndB (t.getD k []) (t.getD (k + 1) []) (lss.getD k [])).take k).map dB) (fun _ => []) rfl nd (by decide) (iw_enumL T.b_enumerate (ej_name 4)) (fun _ _ => trivial) rfl rfl (by rw [el]; omega) (fun k d hk => ?_)) ?_)) ⟨rfl, [], rfl⟩
          · have kl : k < lss.length := by rw [← el]; exact (List.getElem?_eq_some_iff.mp hk).1
            obtain ⟨x, hx, rfl⟩ := enumD_inv hk
            rw [List.getElem?_map, getD_lt (d := []) kl] at hx
            cases Option.some.inj hx
            have ez : ((List.range lss.length).map fun k => bndB (t.getD k []) (t.getD (k + 1) []) (lss.getD k []))[k]? = some (bndB (t.getD k []) (t.getD (k + 1) []) (lss.getD k [])) := by rw [List.getElem?_map, List.getElem?_range kl]; rfl
            exact ⟨.int (k : Int), encL (lss.getD k []), _, rfl, take_map_succ _ ez, by rw [List.length_map, List.length_take]; omega, fun N' s H C cl fp => ej_callP G2 (hr.mono (by decide)) (aj3 (ej_name (i := .d (encL (lss.getD k []))) 6) (ej_ixL (ds := t.map orD) (n := (k : Int)) (ej_name 1) (ej_name 5) (tb_at (by omega))) (ej_ixL (ds := t.map orD) (n := ((k + 1 : Nat) : Int)) (ej_name 1) (ej_is (ej_add (n := (k : Int)) (m := 1) (ej_name 5) ej_int) rfl) (tb_at (by omega)))) ⟨rfl, rfl, _, _, _, rfl, wf_in tw.wf hs kl, rfl⟩⟩
          · rw [el, List.take_of_length_le (by rw [List.length_map, List.length_range]; exact Nat.le_refl _)]
            simp only [List.map_map]
            rfl
theorem d_row_behind (T : Txt K mg) : Def P w K mg base "row_behind" 1 CoRb := by
  obtain ⟨f, fd, F, hm, hb⟩ := T.f_row_behind
  refine def_ok F sc_row_behind hm hb (fun is M i M' h => ?_) fun X hX N is M i M' hF hC => ?_
  · obtain ⟨rfl, rfl, row, l, wd, rfl, _⟩ := h
    exact ⟨rfl, rfl⟩
  · obtain ⟨cdv, A, outer, sh, H, E, rfl, hr⟩ := hX
    obtain ⟨rfl, rfl, row, l, wd, rfl, w1, w2, hin, rfl⟩ := hC
    have nd := sc_row_behind.nd
    refine sj_own 3 (is := ((List.replicate wd.toNat none).map oI).map It.d) (M1 := []) nd ?_ fun o ho => ?_
    · rw [show ((List.replicate wd.toNat none).map oI).map It.d = ((List.replicate wd.toNat [PyData.none]).flatten).map It.d by rw [List.flatten_replicate_singleton, List.map_replicate]; rfl]
      exact el_rep (ds := [.none]) (n := wd) (jl1 ej_non) (ej_name 2) (by omega) (by omega) (by show 1 * _ ≤ 100000; omega)
    refine sj_forW (ds := l.map encE) (M1 := [(o, ((List.replicate wd.toNat none).map oI).map It.d)]) rfl (iw_list (ej_name 1)) (fun k ρ M => ∃ y4 y5 y6 y7 y8, ρ = [some (.d (orD row)), some (.d (encL l)), some (dI wd), some (.v (.ref o)), y4, y5, y6, y7, y8] ∧ M = [(o, (((l.take k).foldl (rbS row) (List.replicate wd.toNat none)).map oI).map It.d)]) ⟨none, none, none, none, none, rfl, rfl⟩ (fun k d ρ M hk hI => ?_) fun ρ M hI => ?_
    · obtain ⟨y4, y5, y6, y7, y8, rfl, rfl⟩ := hI
      obtain ⟨e, he, rfl⟩ := enc_at hk
      obtain ⟨i1, i2⟩ := hin e (List.mem_of_getElem? he)
      have ef : (l.take (k + 1)).foldl (rbS row) (List.replicate wd.toNat none) = rbS row ((l.take k).foldl (rbS row) (List.replicate wd.toNat none)) e := by rw [List.take_add_one, he, List.foldl_append]; rfl
      have bl := rbL_len row (l.take k) (List.replicate wd.toNat none)
      rw [List.length_replicate] at bl
      rw [ef]
      generalize (l.take k).foldl (rbS row) (List.replicate wd.toNat none) = b at bl ⊢
      refine ⟨_, gj_tup (ds := [.int e.1, .int e.2.1, .int e.2.2.1, .int e.2.2.2]) rfl (gs_cons 4 nd (gs_cons 5 nd (gs_cons 6 nd (gs_cons 7 nd gs_nil)))), ?_⟩
      have r1 := or_at (row := row) i1.1 i1.2
      have i3 : e.2.1.toNat < b.length := by omega
      have r2 := or_atI (row := b) i2.1 i3
      have es : ((e.2.1.toNat : Nat) : Int) = e.2.1 := by omega
      cases hc : rgD row e.1 with
      | none =>
        rw [hc] at r1
        have eb : rbS row b e = b := by unfold rbS; rw [hc]
        rw [eb]
        refine sj_if (t := false) (M1 := [(o, (b.map oI).map It.d)]) (tj_is (tj_notNo (ej_ixL (ds := row.map oI) (ej_name 0) (ej_name (i := dI e.1) 4) r1) ej_non) rfl) (fun h => nomatch h) fun _ => sj_nil (sj_nil ⟨_, _, _, _, _, rfl, rfl⟩)
      | some c =>
        rw [hc] at r1
        refine sj_if (t := true) (M1 := [(o, (b.map oI).map It.d)]) (tj_is (tj_notNo (ej_ixL (ds := row.map oI) (ej_name 0) (ej_name (i := dI e.1) 4) r1) ej_non) rfl) (fun _ => ?_) fun h => nomatch h
        refine sj_set 8 (i := dI (c + e.2.2.2)) (M1 := [(o, (b.map oI).map It.d)]) nd (ej_add (n := c) (m := e.2.2.2) (ej_ixL (ds := row.map oI) (ej_name 0) (ej_name (i := dI e.1) 4) r1) (ej_name 7)) ?_
        have st : ((b.map oI).map It.d).set e.2.1.toNat (dI (c + e.2.2.2)) = ((b.set e.2.1.toNat (some (c + e.2.2.2))).map oI).map It.d := by rw [List.map_set, List.map_set]; rfl
        cases hv : rgD b e.2.1 with
        | none =>
          rw [hv] at r2
          have eb : rbS row b e = b.set e.2.1.toNat (some (c + e.2.2.2)) := by unfold rbS; rw [hc]; dsimp only; rw [hv]
          rw [eb]
          refine sj_if (t := true) (M1 := [(o, (b.map oI).map It.d)]) (tj_is (tj_w (wj_or (t := true) (u := true) (tj_is (tj_isN (ej_ixO (p := o) (is := (b.map oI).map It.d) (ej_name 3) (ej_name (i := dI e.2.1) 5) (List.mem_singleton.mpr rfl) r2) ej_non) rfl) fun h => nomatch h)) rfl) (fun _ => ?_) fun h => nomatch h
          refine sj_setO (p := o) (is := (b.map oI).map It.d) (n := e.2.1.toNat) (i := dI (c + e.2.2.2)) (M2 := [(o, (b.map oI).map It.d)]) (ej_name 8) (ej_name 3) (ej_is (ej_name (i := dI e.2.1) 5) (by rw [es])) (List.mem_singleton.mpr rfl) (by rw [List.length_map, List.length_map]; exact i3) ?_
          rw [mem1_put, st]
          exact sj_nil (sj_nil (sj_nil ⟨_, _, _, _, _, rfl, rfl⟩))
        | some v =>
          rw [hv] at r2
          refine sj_if (t := decide (c + e.2.2.2 < v)) (M1 := [(o, (b.map oI).map It.d)]) (tj_is (tj_w (wj_or (t := false) (u := decide (c + e.2.2.2 < v)) (tj_is (tj_isN (ej_ixO (p := o) (is := (b.map oI).map It.d) (ej_name 3) (ej_name (i := dI e.2.1) 5) (List.mem_singleton.mpr rfl) r2) ej_non) rfl) fun _ => wj_or1 (tj_lt (n := c + e.2.2.2) (m := v) (ej_name 8) (ej_ixO (p := o) (is := (b.map oI).map It.d) (ej_name 3) (ej_name (i := dI e.2.1) 5) (List.mem_singleton.mpr rfl) r2)))) rfl) (fun h => ?_) fun h => ?_
          · have eb : rbS row b e = b.set e.2.1.toNat (some (c + e.2.2.2)) := by unfold rbS; rw [hc]; dsimp only; rw [hv]; dsimp only; rw [if_pos (of_decide_eq_true h)]
            rw [eb]
            refine sj_setO (p := o) (is := (b.map oI).map It.d) (n := e.2.1.toNat) (i := dI (c + e.2.2.2)) (M2 := [(o, (b.map oI).map It.d)]) (ej_name 8) (ej_name 3) (ej_is (ej_name (i := dI e.2.1) 5) (by rw [es])) (List.mem_singleton.mpr rfl) (by rw [List.length_map, List.length_map]; exact i3) ?_
            rw [mem1_put, st]
            exact sj_nil (sj_nil (sj_nil ⟨_, _, _, _, _, rfl, rfl⟩))
          · have eb : rbS row b e = b := by unfold rbS; rw [hc]; dsimp only; rw [hv]; dsimp only; rw [if_neg (of_decide_eq_false h)]
            rw [eb]
            exact sj_nil (sj_nil (sj_nil ⟨_, _, _, _, _, rfl, rfl⟩))
    · obtain ⟨y4, y5, y6, y7, y8, rfl, rfl⟩ := hI
      rw [List.length_map, List.take_length]
      refine sj_frzT (Mb := []) 3 (ds := (rbF row l wd).map oI) rfl ho ?_
      exact sj_ret (ej_name 3) ⟨rfl, [], rfl⟩
theorem d_least_end (T : Txt K mg) : Def P w K mg base "least_end" 1 CoLe := by
  obtain ⟨f, fd, F, hm, hb⟩ := T.f_least_end
  refine def_ok F sc_least_end hm hb (fun is M i M' h => ?_) fun X hX N is M i M' hF hC => ?_
  · obtain ⟨rfl, rfl, ns, lss, en, t, rfl, _⟩ := h
    exact ⟨rfl, rfl⟩
  · obtain ⟨cdv, A, outer, sh, H, E, rfl, hr⟩ := hX
    obtain ⟨rfl, rfl, ns, lss, en, t, rfl, tn, hel, hin, rfl⟩ := hC
    have nd := sc_least_end.nd
    obtain ⟨row, hrow⟩ : ∃ row, t.getLastD [] = row := ⟨_, rfl⟩
    rw [hrow] at hin
    have tl : 1 ≤ t.length := List.length_pos_iff.mpr tn
    have last : atI (t.map orD) (-1) = some (orD row) := at_neg1' (by
      rw [List.length_map, List.getElem?_map, ← hrow, List.getLastD_eq_getLast?, List.getLast?_eq_getElem?]
      obtain ⟨x, hx⟩ : ∃ x, t[t.length - 1]? = some x := ⟨_, List.getElem?_eq_getElem (by omega)⟩
      rw [hx]
      rfl) (by rw [List.length_map]; exact tl)
    refine sj_set 2 (i := .d (orD row)) nd (ej_ixL (ds := t.map orD) (ej_name 1) (ej_neg ej_int) last) ?_
    have ev : ∀ x, endV t x = rgD row x := fun x => by unfold endV; rw [hrow]
    have e0 : leV t en = minO (en.filterMap fun x => rgD row x) := by
      unfold leV
      congr 1
      refine congrArg (fun f => List.filterMap f en) (funext ev)
    rw [e0]
    have ok := minO_ok (en.filterMap fun x => rgD row x)
    refine sj_ret (ej_minDf (ns := en.filterMap fun x => rgD row x) rfl hr.units T.b_min (ej_el (ds := (en.filterMap fun x => rgD row x).map .int) (el_compW1F 3 (ds := en.map .int) (fun k => (((en.take k).filterMap fun x => rgD row x).map .int).map It.d) (fun _ => []) rfl nd (iw_tup (ej_ixT (ds := [.str "trellis", .tuple (ns.map .int), .list (lss.map encL), .tuple (en.map .int)]) (ej_name 0) ej_int rfl)) (fun _ _ => trivial) rfl rfl (by rw [List.length_map]; omega) (fun k d hk => ?_)) (by rw [List.length_map, List.take_length])) (fun h => ?_) (fun m h1 h2 => ?_)) ⟨rfl, [], rfl⟩
    · rw [List.getElem?_map] at hk
      obtain ⟨x, hx, rfl⟩ := Option.map_eq_some_iff.mp hk
      obtain ⟨x0, x1⟩ := hin x (List.mem_of_getElem? hx)
      have r1 := or_at (row := row) x0 x1
      have sn : (en.take (k + 1)).filterMap (fun x => rgD row x) = (en.take k).filterMap (fun x => rgD row x) ++ (match rgD row x with | none => [] | some v => [v]) := by
        rw [List.take_add_one, hx, List.filterMap_append]
        congr 1
        show List.filterMap _ [x] = _
        rw [List.filterMap_cons]
        cases rgD row x <;> rfl
      have fl : ((en.take k).filterMap fun x => rgD row x).length ≤ k := Nat.le_trans (List.length_filterMap_le _ _) (by rw [List.length_take]; omega)
      rw [sn]
      refine ⟨(rgD row x).isSome, [], fun N' s H C cl fp => tj_is (tj_notNo (ej_ixL (ds := row.map oI) (ej_name 2) (ej_name (i := dI x) 3) r1) ej_non) (by cases rgD row x <;> rfl), by rw [List.length_map, List.length_map]; exact fl, fun h => ?_, fun h => ?_⟩
      · cases hv : rgD row x with
        | none => rw [hv] at h; cases h
        | some v =>
          rw [hv] at r1
          exact ⟨dI v, by dsimp only; rw [List.map_append, List.map_append]; rfl, fun N' s H C cl fp => ej_ixL (ds := row.map oI) (ej_name 2) (ej_name (i := dI x) 3) r1⟩
      · cases hv : rgD row x with
        | none => exact ⟨by dsimp only; rw [List.append_nil], rfl⟩
        | some v => rw [hv] at h; cases h
    · rw [h]
      rfl
    · have : minO (en.filterMap fun x => rgD row x) = some m := ok.uniq ⟨h1, h2⟩
      rw [this]
      rfl
end

section
variable {P : Program} {w : World} {K : PySem.W.Frag} {mg : Str → Option Value} {base : Heap}
theorem d_potentials_of (T : Txt K mg) : Def P w K mg base "potentials_of" 2 CoPot := by
  obtain ⟨f, fd, F, hm, hb⟩ := T.f_potentials_of
  have G := d_row_behind (P := P) (w := w) (base := base) T
  refine def_ok F sc_potentials_of hm hb (fun is M i M' h => ?_) fun X hX N is M i M' hF hC => ?_
  · obtain ⟨rfl, rfl, ns, lss, en, rfl, _⟩ := h
    exact ⟨rfl, rfl⟩
  · obtain ⟨cdv, A, outer, sh, H, E, rfl, hr⟩ := hX
    obtain ⟨rfl, rfl, ns, lss, en, rfl, tw, hn, rfl⟩ := hC
    have nd := sc_potentials_of.nd
    have hl := tw.wf.len
    have hll := tw.ll
    have n1 := tw.wf.one
    have nsl : (ns.map PyData.int).length = ns.length := List.length_map ..
    refine sj_asgG (i := .d (trE ns lss en)) (ej_name 0) (gj_tup (ds := [.str "trellis", .tuple (ns.map .int), .list (lss.map encL), .tuple (en.map .int)]) rfl (gs_cons 1 nd (gs_cons 2 nd (gs_cons 3 nd (gs_cons 1 nd gs_nil))))) ?_
    have g0 : ns.getD 0 0 = ns.headD 0 := by cases ns <;> rfl
    have m0 : ns.getD 0 0 ∈ ns := by rw [List.getD_eq_getElem?_getD, List.getElem?_eq_getElem (by omega)]; exact List.getElem_mem _
    have b0 := n1 _ m0
    have c0 := hn _ m0
    have r0 : orD (row0 (ns.headD 0)) = .list ([.int 0] ++ (List.replicate (ns.getD 0 0 - 1).toNat [PyData.none]).flatten) := by
      rw [← g0, List.flatten_replicate_singleton]
      unfold orD row0
      rw [List.map_cons, List.map_replicate]
      rfl
    refine sj_own 4 (is := [.d (orD (row0 (ns.headD 0)))]) (M1 := []) nd (el_disp (aj1 (ej_is (ej_el (ds := [.int 0] ++ (List.replicate (ns.getD 0 0 - 1).toNat [PyData.none]).flatten) (el_cat (ds := [.int 0]) (es := (List.replicate (ns.getD 0 0 - 1).toNat [PyData.none]).flatten) (jl1 ej_int) (ej_el (el_rep (ds := [.none]) (n := ns.getD 0 0 - 1) (jl1 ej_non) (ej_sub (n := ns.getD 0 0) (m := 1) (ej_ixT (ds := ns.map .int) (n := ((0 : Nat) : Int)) (ej_name 2) (ej_is ej_int rfl) (getD_at (by omega))) ej_int) (by omega) (by omega) (by show 1 * _ ≤ 100000; omega)) rfl) (by rw [List.flatten_replicate_singleton, List.length_replicate]; show 1 + _ ≤ _; omega)) rfl) (by rw [r0])))) fun o ho => ?_
    have zl : (List.zipWith (fun x y => PyData.tuple [x, y]) (lss.map encL) ((ns.drop 1).map PyData.int)).length = lss.length := by rw [List.length_zipWith, List.length_map, List.length_map, List.length_drop]; omega
    refine sj_forW (ds := List.zipWith (fun x y => PyData.tuple [x, y]) (lss.map encL) ((ns.drop 1).map .int)) (M1 := [(o, [.d (orD (row0 (ns.headD 0)))])]) rfl (ia_zipM T.b_zip (ej_name 3) (ej_is (ej_slTfrom (ds := ns.map .int) (h := 1) (ej_name 2) ej_int) (by rw [show (1 : Int) = ((1 : Nat) : Int) from rfl, cut_from (by rw [nsl]; omega), List.map_drop]))).iw (fun k ρ M => ∃ (pre : List OR) (row : OR) (y1 y5 y6 : Option Kt.It), pre.length = k ∧ ((row.length : Int) = ns.getD k 0) ∧ pre ++ ptl row ((ns.drop 1).drop k) (lss.drop k) = potT ns lss ∧ ρ = [some (.d (trE ns lss en)), y1, some (.d (.tuple (ns.map .int))), some (.d (.list (lss.map encL))), some (.v (.ref o)), y5, y6] ∧ M = [(o, ((pre ++ [row]).map orD).map It.d)]) ⟨[], row0 (ns.headD 0), _, none, none, rfl, by rw [← g0]; exact row0_len b0, rfl, rfl, rfl⟩ (fun k d ρ M hk hI => ?_) fun ρ M hI => ?_
    · obtain ⟨pre, row, y1, y5, y6, h1, h2, h3, rfl, rfl⟩ := hI
      have kl : k < lss.length := by rw [← zl]; exact (List.getElem?_eq_some_iff.mp hk).1
      have hlk := getD_lt (d := ([] : List Ed)) kl
      have hwk : (ns.drop 1)[k]? = some (ns.getD (k + 1) 0) := by rw [List.getElem?_drop, Nat.add_comm, getD_lt (d := 0) (by omega)]
      rw [List.getElem?_zipWith, List.getElem?_map, hlk, List.getElem?_map, hwk] at hk
      have hk : some (PyData.tuple [encL (lss.getD k []), .int (ns.getD (k + 1) 0)]) = some d := hk
      cases Option.some.inj hk
      rw [drop_get hwk, drop_get hlk, ptl_cons] at h3
      have wk := (tw.wf.at hlk).rng
      have m1 : ns.getD (k + 1) 0 ∈ ns := by rw [List.getD_eq_getElem?_getD, List.getElem?_eq_getElem (by omega)]; exact List.getElem_mem _
      have b1 := n1 _ m1
      have c1 := hn _ m1
      generalize lss.getD k [] = l at h3 wk ⊢
      generalize ns.getD (k + 1) 0 = wd at h3 wk b1 c1 ⊢
      refine ⟨_, gj_tup (ds := [encL l, .int wd]) rfl (gs_cons 5 nd (gs_cons 6 nd gs_nil)), ?_⟩
      have lt : atI (((pre ++ [row]).map orD).map It.d) (-1) = some (.d (orD row)) := by
        rw [List.map_append, List.map_append]
        exact at_last
      refine sj_append (p := o) (is := ((pre ++ [row]).map orD).map It.d) (i := .d (orD (rbF row l wd))) (M1 := [(o, ((pre ++ [row]).map orD).map It.d)]) (ej_name 4) (List.mem_singleton.mpr rfl) (ej_callP G hr (aj3 (ej_ixO (p := o) (is := ((pre ++ [row]).map orD).map It.d) (ej_name 4) (ej_neg ej_int) (List.mem_singleton.mpr rfl) lt) (ej_name (i := .d (encL l)) 5) (ej_name (i := dI wd) 6)) ⟨rfl, rfl, row, l, wd, rfl, b1, c1, fun e he => by have := wk e he; omega, rfl⟩) (List.mem_singleton.mpr rfl) (by rw [List.length_map, List.length_map, List.length_append]; show _ + 1 < _; omega) ?_
      rw [mem1_put]
      refine sj_nil ⟨pre ++ [row], rbF row l wd, _, _, _, by rw [List.length_append, h1]; rfl, by rw [rbF_len]; omega, ?_, rfl, by simp only [List.map_append, List.map_cons, List.map_nil]⟩
      rw [List.append_assoc]
      exact h3
    · obtain ⟨pre, row, y1, y5, y6, h1, h2, h3, rfl, rfl⟩ := hI
      rw [zl, List.drop_length] at h3
      have e3 : ptl row ((ns.drop 1).drop lss.length) [] = [row] := by
        match (ns.drop 1).drop lss.length with
        | [] => rfl
        | _ :: _ => rfl
      rw [e3] at h3
      rw [h3]
      refine sj_frzT (Mb := []) 4 (ds := (potT ns lss).map orD) rfl ho ?_
      exact sj_ret (ej_name 4) ⟨rfl, [], rfl⟩
end

/-! ### the law's greatest potentials: all ways -/
abbrev P2 := Int × Int
def gwF (l : List Ed) (w : P2) : List P2 := (l.filter fun e => decide (e.1 = w.1)).map fun e => (e.2.1, w.2 + e.2.2.2)
def gw2 (rows : List P2) (l : List Ed) : List P2 := rows.flatMap (gwF l)
theorem gw2_mem {rows : List P2} {l : List Ed} {q : P2} : q ∈ gw2 rows l ↔ ∃ w ∈ rows, ∃ e ∈ l, e.1 = w.1 ∧ q = (e.2.1, w.2 + e.2.2.2) := by
  unfold gw2 gwF
  rw [List.mem_flatMap]
  constructor
  · rintro ⟨w, hw, h⟩
    obtain ⟨e, he, rfl⟩ := List.mem_map.mp h
    obtain ⟨he, h2⟩ := List.mem_filter.mp he
    exact ⟨w, hw, e, he, of_decide_eq_true h2, rfl⟩
  · rintro ⟨w, hw, e, he, h1, rfl⟩
    exact ⟨w, hw, List.mem_map.mpr ⟨e, List.mem_filter.mpr ⟨he, decide_eq_true h1⟩, rfl⟩⟩
def MinRow (w : Int) (rows : List P2) (row : OR) : Prop := (∀ q ∈ rows, 0 ≤ q.1 ∧ q.1 < w) ∧ ∀ r, 0 ≤ r → r < w → IsMin (fun y => ∃ q ∈ rows, q.1 = r ∧ q.2 = y) (rgD row r)
theorem minrow_step {n m : Int} {rows : List P2} {row : OR} {l : List Ed} (h : MinRow n rows row) (w : WfE n m l) : MinRow m (gw2 rows l) (rbF row l m) := by
  refine ⟨fun q hq => ?_, fun r h0 h1 => ?_⟩
  · obtain ⟨w0, _, e, he, _, rfl⟩ := gw2_mem.mp hq
    exact (w.rng e he).2.1
  · have mi := rb_ok (row := row) (l := l) (w := m) (fun e he => (w.rng e he).2.1) h0 h1
    -- what stands behind comes from ways
    have low : ∀ {c : Int} {x : Int}, 0 ≤ x → x < n → rgD row x = some c → (∃ q ∈ rows, q.1 = x ∧ q.2 = c) ∧ ∀ q ∈ rows, q.1 = x → c ≤ q.2 := fun {c x} a b hc => by
      have := h.2 x a b
      rw [hc] at this
      exact ⟨this.1, fun q hq e => this.2 q.2 ⟨q, hq, e, rfl⟩⟩
    have up : ∀ {q : P2}, q ∈ rows → ∃ c, rgD row q.1 = some c ∧ c ≤ q.2 := fun {q} hq => by
      obtain ⟨a, b⟩ := h.1 q hq
      have := h.2 q.1 a b
      cases hc : rgD row q.1 with
      | none => rw [hc] at this; exact absurd ⟨q, hq, rfl, rfl⟩ (this q.2)
      | some c => rw [hc] at this; exact ⟨c, rfl, this.2 q.2 ⟨q, hq, rfl, rfl⟩⟩
    cases hv : rgD (rbF row l m) r with
    | none =>
      rw [hv] at mi
      rintro y ⟨q, hq, rfl, rfl⟩
      obtain ⟨w0, hw0, e, he, e1, rfl⟩ := gw2_mem.mp hq
      obtain ⟨c, hc, _⟩ := up hw0
      exact mi (c + e.2.2.2) ⟨e, he, rfl, c, by rw [e1]; exact hc, rfl⟩
    | some v =>
      rw [hv] at mi
      obtain ⟨⟨e, he, e1, c, hc, rfl⟩, best⟩ := mi
      have hb := (w.rng e he).1
      obtain ⟨⟨q, hq, q1, q2⟩, _⟩ := low hb.1 hb.2 hc
      refine ⟨⟨(e.2.1, q.2 + e.2.2.2), gw2_mem.mpr ⟨q, hq, e, he, q1.symm, rfl⟩, e1, by show q.2 + e.2.2.2 = c + e.2.2.2; rw [q2]⟩, ?_⟩
      rintro y ⟨q', hq', r1, rfl⟩
      obtain ⟨w0, hw0, e', he', e1', rfl⟩ := gw2_mem.mp hq'
      obtain ⟨c', hc', lc⟩ := up hw0
      have := best (c' + e'.2.2.2) ⟨e', he', r1, c', by rw [e1']; exact hc', rfl⟩
      show c + e.2.2.2 ≤ w0.2 + e'.2.2.2
      omega
theorem minrow0 {n : Int} (h : 1 ≤ n) : MinRow n [(0, 0)] (row0 n) := by
  refine ⟨fun q hq => by rw [List.mem_singleton.mp hq]; exact ⟨Int.le_refl _, by show (0 : Int) < n; omega⟩, fun r h0 h1 => ?_⟩
  cases hc : rgD (row0 n) r with
  | none =>
    rintro y ⟨q, hq, e1, _⟩
    rw [List.mem_singleton.mp hq] at e1
    have e1 : (0 : Int) = r := e1
    subst e1
    have : rgD (row0 n) 0 = some 0 := rfl
    rw [this] at hc
    cases hc
  | some c =>
    obtain ⟨rfl, rfl⟩ := row0_get h0 hc
    exact ⟨⟨(0, 0), List.mem_singleton.mpr rfl, rfl, rfl⟩, fun y ⟨q, hq, _, e2⟩ => by rw [List.mem_singleton.mp hq] at e2; rw [← e2]; exact Int.le_refl _⟩
theorem ptl_at : ∀ {ws : List Int} {ls : List (List Ed)} {row : OR} {k : Nat} {l : List Ed} {w : Int}, ls[k]? = some l → ws[k]? = some w → (ptl row ws ls).getD (k + 1) [] = rbF ((ptl row ws ls).getD k []) l w
  | w :: ws, l :: ls, row, 0, l', w', h1, h2 => by
    cases Option.some.inj h1
    cases Option.some.inj h2
    rw [ptl_cons]
    obtain ⟨t, ht⟩ := ptl_ne (rbF row l w) ws ls
    rw [ht]
    rfl
  | w :: ws, l :: ls, row, k + 1, l', w', h1, h2 => by
    rw [ptl_cons]
    exact ptl_at (k := k) h1 h2
  | [], _, _, k, _, _, _, h2 => by simp at h2
  | _ :: _, [], _, k, _, _, h1, _ => by simp at h1
theorem ptl_len : ∀ {ws : List Int} {ls : List (List Ed)} {row : OR}, ws.length = ls.length → (ptl row ws ls).length = ls.length + 1
  | [], [], row, _ => rfl
  | w :: ws, l :: ls, row, h => by
    rw [ptl_cons, List.length_cons, ptl_len (by simpa using h), List.length_cons]
  | [], _ :: _, _, h => by simp at h
  | _ :: _, [], _, h => by simp at h
theorem gw2_len {z : Nat} {rows : List P2} {l : List Ed} (h : ∀ r : Int, (l.filter fun e => decide (e.1 = r)).length ≤ z) : (gw2 rows l).length ≤ rows.length * z := by
  unfold gw2
  induction rows with
  | nil => exact Nat.zero_le _
  | cons w rows ih =>
    rw [List.flatMap_cons, List.length_append, List.length_cons, Nat.succ_mul]
    unfold gwF at ih ⊢
    rw [List.length_map]
    have := h w.1
    omega
theorem gws_len {z : Nat} (hz : 1 ≤ z) : ∀ (ls : List (List Ed)) (rows : List P2), (∀ l ∈ ls, ∀ r : Int, (l.filter fun e => decide (e.1 = r)).length ≤ z) → (ls.foldl gw2 rows).length ≤ rows.length * z ^ ls.length
  | [], rows, _ => by rw [List.foldl_nil]; simp
  | l :: ls, rows, h => by
    have i := gws_len hz ls (gw2 rows l) fun l' m => h l' (List.mem_cons_of_mem _ m)
    have a := gw2_len (rows := rows) (h l List.mem_cons_self)
    rw [List.foldl_cons, List.length_cons, Nat.pow_succ]
    calc _ ≤ (gw2 rows l).length * z ^ ls.length := i
      _ ≤ (rows.length * z) * z ^ ls.length := Nat.mul_le_mul_right _ a
      _ = rows.length * (z ^ ls.length * z) := by rw [Nat.mul_assoc, Nat.mul_comm z]
theorem gw2_take {rows : List P2} {l : List Ed} {k : Nat} {w : P2} (h : rows[k]? = some w) : gw2 (rows.take (k + 1)) l = gw2 (rows.take k) l ++ gwF l w := by
  unfold gw2
  rw [List.take_add_one, h, List.flatMap_append]
  congr 1
  show [w].flatMap _ = _
  rw [List.flatMap_cons, List.flatMap_nil, List.append_nil]

/-! ### memory with rows of one's own -/
theorem put_app (A B : Mem) (q : Addr) (r : List Kt.It) : Mem.put (A ++ B) q r = A.put q r ++ B.put q r := by
  unfold Mem.put
  rw [List.map_append]
theorem put_out {q : Addr} {r : List Kt.It} : ∀ {A : Mem}, q ∉ A.map Prod.fst → A.put q r = A
  | [], _ => rfl
  | c :: A, h => by
    have h1 : c.1 ≠ q := fun e => h (by rw [List.map_cons, e]; exact List.mem_cons_self)
    have h2 := put_out (r := r) (A := A) fun e => h (by rw [List.map_cons]; exact List.mem_cons_of_mem _ e)
    unfold Mem.put at h2 ⊢
    rw [List.map_cons, h2, if_neg h1]
theorem rowsM_fst : ∀ {qs : List Addr} {rs : List (List Kt.It)}, qs.length = rs.length → (rowsM qs rs).map Prod.fst = qs
  | [], [], _ => rfl
  | q :: qs, r :: rs, h => by
    show q :: (rowsM qs rs).map Prod.fst = q :: qs
    rw [rowsM_fst (by simpa using h)]
  | [], _ :: _, h => by simp at h
  | _ :: _, [], h => by simp at h
theorem rows_mem : ∀ {qs : List Addr} {rs : List (List Kt.It)} {t : Nat} {q : Addr} {r : List Kt.It}, qs[t]? = some q → rs[t]? = some r → (q, r) ∈ rowsM qs rs
  | q :: qs, r :: rs, 0, q', r', h1, h2 => by
    cases Option.some.inj h1
    cases Option.some.inj h2
    exact List.mem_cons_self
  | q :: qs, r :: rs, t + 1, q', r', h1, h2 => List.mem_cons_of_mem _ (rows_mem (t := t) h1 h2)
  | [], _, _, _, _, h, _ => by simp at h
  | _ :: _, [], _, _, _, _, h => by simp at h
theorem rows_put : ∀ {qs : List Addr} {rs : List (List Kt.It)} {t : Nat} {q : Addr} {r : List Kt.It}, qs.Nodup → qs.length = rs.length → qs[t]? = some q → (rowsM qs rs).put q r = rowsM qs (rs.set t r)
  | q :: qs, r0 :: rs, 0, q', r', hn, hl, h1 => by
    cases Option.some.inj h1
    obtain ⟨n1, n2⟩ := List.nodup_cons.mp hn
    show Mem.put ((q, r0) :: rowsM qs rs) q r' = (q, r') :: rowsM qs rs
    have e := put_out (q := q) (r := r') (A := rowsM qs rs) (by rw [rowsM_fst (by simpa using hl)]; exact n1)
    unfold Mem.put at e ⊢
    rw [List.map_cons, e, if_pos rfl]
  | q :: qs, r0 :: rs, t + 1, q', r', hn, hl, h1 => by
    obtain ⟨n1, n2⟩ := List.nodup_cons.mp hn
    have ne : q ≠ q' := fun e => n1 (by rw [e]; exact List.mem_of_getElem? h1)
    show Mem.put ((q, r0) :: rowsM qs rs) q' r' = (q, r0) :: rowsM qs (rs.set t r')
    have e := rows_put (t := t) (r := r') n2 (by simpa using hl) h1
    unfold Mem.put at e ⊢
    rw [List.map_cons, e, if_neg ne]
  | [], _, _, _, _, _, _, h => by simp at h
  | _ :: _, [], _, _, _, _, h, _ => by simp at h
theorem rows_putM {A B : Mem} {qs : List Addr} {rs : List (List Kt.It)} {t : Nat} {q : Addr} {r : List Kt.It} (hn : ((A ++ rowsM qs rs ++ B).map Prod.fst).Nodup) (hl : qs.length = rs.length) (h1 : qs[t]? = some q) : Mem.put (A ++ rowsM qs rs ++ B) q r = A ++ rowsM qs (rs.set t r) ++ B := by
  rw [List.map_append, List.map_append, rowsM_fst hl] at hn
  obtain ⟨n1, n2, n3⟩ := List.nodup_append.mp hn
  obtain ⟨n4, n5, n6⟩ := List.nodup_append.mp n1
  have qm := List.mem_of_getElem? h1
  rw [put_app, put_app, put_out (A := A) (fun m => n6 q m q qm rfl), put_out (A := B) (fun m => n3 q (List.mem_append_right _ qm) q m rfl), rows_put n5 hl h1]
theorem refs_at {qs : List Addr} {t : Nat} {q : Addr} (h : qs[t]? = some q) : atI (refsI qs) (t : Int) = some (.v (.ref q)) := atI_nat (j := t) (by
  unfold refsI
  rw [List.getElem?_map, h]
  rfl)

theorem fil_snoc {β γ : Type} (p : β → Bool) (f : β → γ) {l : List β} {k : Nat} {x : β} (h : l[k]? = some x) : ((l.take (k + 1)).filter p).map f = ((l.take k).filter p).map f ++ (if p x = true then [f x] else []) := by
  rw [List.take_add_one, h, List.filter_append, List.map_append]
  congr 1
  show ([x].filter p).map f = _
  cases e : p x with
  | true => rw [List.filter_cons_of_pos e]; rfl
  | false => rw [List.filter_cons_of_neg (by rw [e]; decide)]; rfl

/-! ### the law's greatest potentials -/
def encP (q : P2) : PyData := .tuple [.int q.1, .int q.2]
abbrev orI (row : OR) : List Kt.It := (row.map oI).map It.d
def blank (ns : List Int) : List OR := ns.map fun w => List.replicate w.toNat none
def CoLGr : Co := fun is M i M' => M = [] ∧ M' = [] ∧ ∃ (ns : List Int) (lss : List (List Ed)) (en : List Int), is = [.d (trE ns lss en)] ∧ TrW ns lss en ∧ (∀ n ∈ ns, n ≤ 1000) ∧ lss.length ≤ 4 ∧ (∀ l ∈ lss, ∀ r : Int, (l.filter fun e => decide (e.1 = r)).length ≤ 9) ∧ i = .d (tbD (potT ns lss))
theorem set_mid {α : Type} {A B : List α} {x y : α} {k : Nat} (h : A.length = k) : (A ++ x :: B).set k y = A ++ y :: B := by
  subst h
  rw [List.set_append_right _ _ (Nat.le_refl _), Nat.sub_self]
  rfl
/-- a row as the law fills it -/
def prR (B : OR) (r : Nat) : OR := B.take r ++ List.replicate (B.length - r) none
theorem prR_len (B : OR) {r : Nat} (h : r ≤ B.length) : (prR B r).length = B.length := by
  unfold prR
  rw [List.length_append, List.length_take, List.length_replicate]
  omega
theorem prR_step {B : OR} {r : Nat} {o : Option Int} (h : r < B.length) (e : B[r]? = some o) : prR B (r + 1) = (prR B r).set r o := by
  unfold prR
  rw [List.take_add_one, e, show B.length - r = (B.length - (r + 1)) + 1 by omega, List.replicate_succ, set_mid (by rw [List.length_take]; omega), List.append_assoc]
  rfl
theorem prR_none {B : OR} {r : Nat} (h : r < B.length) (e : B[r]? = some none) : prR B (r + 1) = prR B r := by
  rw [prR_step h e]
  unfold prR
  rw [show B.length - r = (B.length - (r + 1)) + 1 by omega, List.replicate_succ, set_mid (by rw [List.length_take]; omega)]
theorem map_orI {cts : List OR} {k : Nat} {r : OR} : (cts.map orI).set k (orI r) = (cts.set k r).map orI := by rw [List.map_set]
theorem p2_at {rows : List P2} {k : Nat} {d : PyData} (h : (rows.map encP)[k]? = some d) : ∃ q, rows[k]? = some q ∧ d = encP q := by
  rw [List.getElem?_map] at h
  obtain ⟨e, h1, h2⟩ := Option.map_eq_some_iff.mp h
  exact ⟨e, h1, h2.symm⟩
section
variable {P : Program} {w : World} {K : PySem.W.Frag} {mg : Str → Option Value} {base : Heap}
theorem d_law_greatest (T : Txt K mg) : Def P w K mg base "_law_greatest" 1 CoLGr := by
  obtain ⟨f, fd, F, hm, hb⟩ := T.f_law_greatest
  refine def_ok F sc_law_greatest hm hb (fun is M i M' h => ?_) fun X hX N is M i M' hF hC => ?_
  · obtain ⟨rfl, rfl, ns, lss, en, rfl, _⟩ := h
    exact ⟨rfl, rfl⟩
  · obtain ⟨cdv, A, outer, sh, H, E, rfl, hr⟩ := hX
    obtain ⟨rfl, rfl, ns, lss, en, rfl, tw, hn, h4, h9, rfl⟩ := hC
    have nd := sc_law_greatest.nd
    have hl := tw.wf.len
    have hll := tw.ll
    have n1 := tw.wf.one
    have nsl : (ns.map PyData.int).length = ns.length := List.length_map ..
    have g0 : ns.getD 0 0 = ns.headD 0 := by cases ns <;> rfl
    have m0 : ns.getD 0 0 ∈ ns := by rw [List.getD_eq_getElem?_getD, List.getElem?_eq_getElem (by omega)]; exact List.getElem_mem _
    have b0 := n1 _ m0
    rw [g0] at b0
    refine sj_asgG (i := .d (trE ns lss en)) (ej_name 0) (gj_tup (ds := [.str "trellis", .tuple (ns.map .int), .list (lss.map encL), .tuple (en.map .int)]) rfl (gs_cons 1 nd (gs_cons 2 nd (gs_cons 3 nd (gs_cons 4 nd gs_nil))))) ?_
    refine sj_setW1L 5 13 (ds := ns.map .int) (M1 := []) ((blank ns).map orI) rfl nd (iw_tup (ej_name 2)) (by unfold blank; rw [List.length_map, List.length_map, nsl]) (by rw [nsl]; omega) (fun k d hk => ?_) fun qs p hql hq hp => ?_
    · rw [List.getElem?_map] at hk
      obtain ⟨wd, hw, rfl⟩ := Option.map_eq_some_iff.mp hk
      have wm := List.mem_of_getElem? hw
      have := n1 wd wm
      have := hn wd wm
      refine ⟨orI (List.replicate wd.toNat none), by unfold blank; rw [List.getElem?_map, List.getElem?_map, hw]; rfl, fun N' s H C cl fp M => ?_⟩
      rw [show orI (List.replicate wd.toNat none) = ((List.replicate wd.toNat [PyData.none]).flatten).map It.d by rw [List.flatten_replicate_singleton]; unfold orI; rw [List.map_replicate]; rfl]
      exact el_rep (ds := [.none]) (n := wd) (jl1 ej_non) (ej_name 13) (by omega) (by omega) (by show 1 * _ ≤ 100000; omega)
    rw [List.length_map] at hql
    have bl : (blank ns).length = ns.length := by unfold blank; rw [List.length_map]
    rw [bl] at hql
    refine sj_set 6 (i := .d (.list ((((lss.take 0).foldl gw2 [(0, 0)] : List P2)).map encP))) (M1 := [] ++ rowsM qs ((blank ns).map orI) ++ [(p, refsI qs)]) nd (jl1 (A := encP (0, 0)) (jt2 (A := .int 0) (B := .int 0) ej_int ej_int)) ?_
    obtain ⟨q0, hq0⟩ : ∃ q0, qs[0]? = some q0 := ⟨qs[0]'(by omega), List.getElem?_eq_getElem (by omega)⟩
    have bk0 : (blank ns)[0]? = some (List.replicate (ns.headD 0).toNat none) := by
      unfold blank
      rw [List.getElem?_map, getD_lt (d := 0) (by omega), g0]
      rfl
    refine sj_nd fun hnd => ?_
    have pm : ∀ cts : List OR, (p, refsI qs) ∈ [] ++ rowsM qs (cts.map orI) ++ [(p, refsI qs)] := fun cts => List.mem_append_right _ (List.mem_singleton.mpr rfl)
    refine sj_setO (p := q0) (is := orI (List.replicate (ns.headD 0).toNat none)) (n := 0) (i := dI 0) (M1 := [] ++ rowsM qs ((blank ns).map orI) ++ [(p, refsI qs)]) (M2 := [] ++ rowsM qs ((blank ns).map orI) ++ [(p, refsI qs)]) ej_int (ej_ixO (p := p) (is := refsI qs) (ej_name 5) ej_int (pm _) (refs_at hq0)) (ej_is ej_int rfl) (List.mem_append_left _ (List.mem_append_right _ (rows_mem hq0 (by rw [List.getElem?_map, bk0]; rfl)))) (by rw [List.length_map, List.length_map, List.length_replicate]; omega) ?_
    rw [rows_putM (t := 0) hnd (by rw [List.length_map, bl]; exact hql) hq0]
    have e0 : ((blank ns).map orI).set 0 ((orI (List.replicate (ns.headD 0).toNat none)).set 0 (dI 0)) = (((potT ns lss).take 1 ++ (blank ns).drop 1)).map orI := by
      obtain ⟨t, ht⟩ := ptl_ne (row0 (ns.headD 0)) (ns.drop 1) lss
      have r0 : (List.replicate (ns.headD 0).toNat (none : Option Int)).set 0 (some 0) = row0 (ns.headD 0) := by
        unfold row0
        rw [show (ns.headD 0).toNat = (ns.headD 0 - 1).toNat + 1 by omega, List.replicate_succ]
        rfl
      have st : (orI (List.replicate (ns.headD 0).toNat none)).set 0 (dI 0) = orI (row0 (ns.headD 0)) := by
        rw [← r0]
        unfold orI
        rw [List.map_set, List.map_set]
        rfl
      rw [st, map_orI]
      congr 1
      unfold potT
      rw [ht]
      match blank ns, bk0 with
      | b :: bs, _ => rfl
    rw [e0]
    have pl : (potT ns lss).length = ns.length := by
      unfold potT
      rw [ptl_len (by rw [List.length_drop]; omega)]
      omega
    have rb : ∀ k, k ≤ lss.length → ((lss.take k).foldl gw2 [(0, 0)]).length ≤ 6561 := fun k hk => by
      have := gws_len (z := 9) (by decide) (lss.take k) [(0, 0)] fun l m => h9 l (List.mem_of_mem_take m)
      rw [List.length_take, Nat.min_eq_left hk] at this
      have h2 : 9 ^ k ≤ 9 ^ 4 := Nat.pow_le_pow_right (by decide) (by omega)
      have : ((lss.take k).foldl gw2 [(0, 0)]).length ≤ 1 * 9 ^ k := this
      omega
    refine sj_forR (m := (lss.length : Int)) (M1 := [] ++ rowsM qs (((potT ns lss).take 1 ++ (blank ns).drop 1).map orI) ++ [(p, refsI qs)]) rfl T.b_range (ej_is (ej_lenL (ds := lss.map encL) T.b_len (ej_name 3)) (by rw [List.length_map])) (by omega) (fun k ρ M => ∃ (y7 y8 y9 y10 y11 y12 y13 y14 y15 : Option Kt.It), MinRow (ns.getD k 0) ((lss.take k).foldl gw2 [(0, 0)]) ((potT ns lss).getD k []) ∧ ρ = [some (.d (trE ns lss en)), some (.d (.str "trellis")), some (.d (.tuple (ns.map .int))), some (.d (.list (lss.map encL))), some (.d (.tuple (en.map .int))), some (.v (.ref p)), some (.d (.list (((lss.take k).foldl gw2 [(0, 0)]).map encP))), y7, y8, y9, y10, y11, y12, y13, y14, y15] ∧ M = [] ++ rowsM qs (((potT ns lss).take (k + 1) ++ (blank ns).drop (k + 1)).map orI) ++ [(p, refsI qs)]) ⟨none, none, none, none, none, none, none, none, none, by
      obtain ⟨t, ht⟩ := ptl_ne (row0 (ns.headD 0)) (ns.drop 1) lss
      unfold potT
      rw [ht, g0]
      exact minrow0 b0, rfl, rfl⟩ (fun k ρ M hk hI => ?_) fun ρ M hI => ?_
    · obtain ⟨y7, y8, y9, y10, y11, y12, y13, y14, y15, hmin, rfl, rfl⟩ := hI
      have kl : k < lss.length := by omega
      have hlk := getD_lt (d := ([] : List Ed)) kl
      have wk := tw.wf.at hlk
      have lz := h9 _ (List.mem_of_getElem? hlk)
      have hwk : (ns.drop 1)[k]? = some (ns.getD (k + 1) 0) := by rw [List.getElem?_drop, Nat.add_comm, getD_lt (d := 0) (by omega)]
      have pk : (potT ns lss).getD (k + 1) [] = rbF ((potT ns lss).getD k []) (lss.getD k []) (ns.getD (k + 1) 0) := ptl_at hlk hwk
      have mr := minrow_step hmin wk
      rw [← pk] at mr
      have e1 : (lss.take (k + 1)).foldl gw2 [(0, 0)] = gw2 ((lss.take k).foldl gw2 [(0, 0)]) (lss.getD k []) := by rw [List.take_add_one, hlk, List.foldl_append]; rfl
      have b1 := rb (k + 1) (by omega)
      have b2 := rb k (by omega)
      rw [e1] at b1 ⊢
      have m1 : ns.getD (k + 1) 0 ∈ ns := by rw [List.getD_eq_getElem?_getD, List.getElem?_eq_getElem (by omega)]; exact List.getElem_mem _
      have wb := n1 _ m1
      have wc := hn _ m1
      obtain ⟨B, hB⟩ : ∃ B, (potT ns lss).getD (k + 1) [] = B := ⟨_, rfl⟩
      have Bl : (B.length : Int) = ns.getD (k + 1) 0 := by rw [← hB, pk, rbF_len]; omega
      have hpk1 : (potT ns lss)[k + 1]? = some B := by rw [getD_lt (d := ([] : OR)) (by omega), hB]
      have bk1 : (blank ns)[k + 1]? = some (List.replicate (ns.getD (k + 1) 0).toNat none) := by
        unfold blank
        rw [List.getElem?_map, getD_lt (d := 0) (by omega)]
        rfl
      rw [hB] at mr
      generalize lss.getD k [] = l at hlk lz b1 mr ⊢
      generalize (lss.take k).foldl gw2 [(0, 0)] = rows at b1 b2 mr ⊢
      refine ⟨_, gj_name 7 nd, ?_⟩
      obtain ⟨M0, hM0⟩ : ∃ M0, [] ++ rowsM qs (((potT ns lss).take (k + 1) ++ (blank ns).drop (k + 1)).map orI) ++ [(p, refsI qs)] = M0 := ⟨_, rfl⟩
      rw [hM0]
      have ixl : ∀ {ρ : Rho} {X : Cx} {N : Ent} {pos : Pos} {a b : Expr} {M : Mem}, EJ X N ρ M a (.d (.list (lss.map encL))) M → EJ X N ρ M b (dI (k : Int)) M → PlainIx b → EJ X N ρ M (.Subscript a b pos) (.d (encL l)) M := fun h1 h2 hp => ej_ixL (ds := lss.map encL) (n := (k : Int)) h1 h2 (atI_nat (j := k) (by rw [List.getElem?_map, hlk]; rfl)) hp
      refine sj_set 8 (i := .d (.list [])) (M1 := M0) nd jl0 ?_
      refine sj_forW (ds := rows.map encP) (M1 := M0) rfl (iw_list (ej_name 6)) (fun i ρ M => ∃ (y9 y10 : Option Kt.It), ρ = [some (.d (trE ns lss en)), some (.d (.str "trellis")), some (.d (.tuple (ns.map .int))), some (.d (.list (lss.map encL))), some (.d (.tuple (en.map .int))), some (.v (.ref p)), some (.d (.list (rows.map encP))), some (dI (k : Int)), some (.d (.list ((gw2 (rows.take i) l).map encP))), y9, y10, y11, y12, y13, y14, y15] ∧ M = M0) ⟨_, _, rfl, rfl⟩ (fun i d ρ M hi hI => ?_) fun ρ M hI => ?_
      · obtain ⟨y9, y10, rfl, rfl⟩ := hI
        obtain ⟨q, hq', rfl⟩ := p2_at hi
        have il := (List.getElem?_eq_some_iff.mp hq').1
        have fb : (gw2 (rows.take (i + 1)) l).length ≤ 60000 := by
          have := gw2_len (rows := rows.take (i + 1)) lz
          rw [List.length_take] at this
          omega
        rw [gw2_take hq'] at fb ⊢
        rw [List.length_append] at fb
        generalize gw2 (rows.take i) l = L at fb ⊢
        refine ⟨_, gj_tup (ds := [.int q.1, .int q.2]) rfl (gs_cons 9 nd (gs_cons 10 nd gs_nil)), ?_⟩
        have lz9 := lz q.1
        refine sj_set 8 (i := .d (.list ((L ++ gwF l q).map encP))) (M1 := M) nd (ej_is (ej_el (ds := L.map encP ++ (gwF l q).map encP) (el_cat (ds := L.map encP) (es := (gwF l q).map encP) (ej_name 8) (ej_el (ds := (gwF l q).map encP) (el_compW1F 14 (ds := l.map encE) (fun j => ((gwF (l.take j) q).map encP).map It.d) (fun _ => M) rfl nd (iw_list (ixl (ej_name 3) (ej_name 7) fun _ _ => rfl)) (fun _ _ => trivial) rfl rfl (by rw [List.length_map]; have := tw.lz l (List.mem_of_getElem? hlk); omega) (fun j d hj => ?_)) (by rw [List.length_map, List.take_length])) (by rw [List.length_map, List.length_map]; omega)) rfl) (by rw [List.map_append])) ?_
        · obtain ⟨e, he, rfl⟩ := enc_at hj
          have ix : ∀ {X : Cx} {N : Ent} {ρ : Rho} {M : Mem} {a c : Expr} {pos : Pos} (n : Nat) {v : Int}, EJ X N ρ M a (.d (encE e)) M → EJ X N ρ M c (dI (n : Int)) M → [e.1, e.2.1, e.2.2.1, e.2.2.2][n]? = some v → PlainIx c → EJ X N ρ M (.Subscript a c pos) (dI v) M := fun n v h1 h2 h3 hp => ej_ixT (ds := [e.1, e.2.1, e.2.2.1, e.2.2.2].map .int) h1 h2 (atI_nat (j := n) (by rw [List.getElem?_map, h3]; rfl)) hp
          have sn : gwF (l.take (j + 1)) q = gwF (l.take j) q ++ (if decide (e.1 = q.1) = true then [(e.2.1, q.2 + e.2.2.2)] else []) := fil_snoc (fun e : Ed => decide (e.1 = q.1)) (fun e => (e.2.1, q.2 + e.2.2.2)) he
          refine ⟨decide (e.1 = q.1), _, fun N' s H C cl fp => tj_eqI (n := e.1) (m := q.1) (ix 0 (ej_name 14) ej_int rfl fun _ _ => rfl) (ej_name 9), ?_, fun h => ⟨.d (encP (e.2.1, q.2 + e.2.2.2)), ?_, fun N' s H C cl fp => jt2 (A := .int e.2.1) (B := .int (q.2 + e.2.2.2)) (ix 1 (ej_name 14) ej_int rfl fun _ _ => rfl) (ej_add (ej_name 10) (ix 3 (ej_name 14) ej_int rfl fun _ _ => rfl))⟩, fun h => ⟨?_, rfl⟩⟩
          · rw [List.length_map, List.length_map]
            unfold gwF
            rw [List.length_map]
            exact Nat.le_trans (List.length_filter_le _ _) (by rw [List.length_take]; omega)
          · rw [sn, if_pos h, List.map_append, List.map_append]; rfl
          · rw [sn, if_neg (by rw [h]; decide), List.append_nil]
        exact sj_nil ⟨_, _, rfl, rfl⟩
      · obtain ⟨y9, y10, rfl, rfl⟩ := hI
        rw [List.length_map, List.take_length]
        generalize gw2 rows l = rows2 at b1 mr ⊢
        refine sj_set 6 (i := .d (.list (rows2.map encP))) (M1 := M) nd (ej_name 8) ?_
        rw [← hM0]
        obtain ⟨wd, hwd⟩ : ∃ wd, ns.getD (k + 1) 0 = wd := ⟨_, rfl⟩
        rw [hwd] at mr wb wc Bl bk1 hwk pk
        have tl1 : ((potT ns lss).take (k + 1)).length = k + 1 := by rw [List.length_take]; omega
        have mid : ∀ r : Nat, r ≤ B.length → ((potT ns lss).take (k + 1) ++ prR B r :: (blank ns).drop (k + 2)).length = ns.length := fun r hr => by
          rw [List.length_append, tl1, List.length_cons, List.length_drop, bl]
          omega
        have e2 : (potT ns lss).take (k + 1) ++ (blank ns).drop (k + 1) = (potT ns lss).take (k + 1) ++ prR B 0 :: (blank ns).drop (k + 2) := by
          rw [drop_get bk1]
          unfold prR
          rw [List.take_zero, Nat.sub_zero, show B.length = wd.toNat by omega]
          rfl
        have e3 : (potT ns lss).take (k + 2) ++ (blank ns).drop (k + 2) = (potT ns lss).take (k + 1) ++ prR B B.length :: (blank ns).drop (k + 2) := by
          rw [List.take_add_one (i := k + 1), hpk1]
          unfold prR
          rw [List.take_length, Nat.sub_self, List.append_assoc]
          show _ ++ (B :: _) = _ ++ ((B ++ []) :: _)
          rw [List.append_nil]
          rfl
        rw [e2]
        refine sj_forR (m := wd) (M1 := [] ++ rowsM qs (((potT ns lss).take (k + 1) ++ prR B 0 :: (blank ns).drop (k + 2)).map orI) ++ [(p, refsI qs)]) rfl T.b_range (ej_ixT (ds := ns.map .int) (n := ((k + 1 : Nat) : Int)) (ej_name 2) (ej_is (ej_add (n := (k : Int)) (m := 1) (ej_name 7) ej_int) rfl) (by rw [← hwd]; exact getD_at (by omega))) (by omega) (fun r ρ M => ∃ (y8 y9 y10 y11 y12 : Option Kt.It), ρ = [some (.d (trE ns lss en)), some (.d (.str "trellis")), some (.d (.tuple (ns.map .int))), some (.d (.list (lss.map encL))), some (.d (.tuple (en.map .int))), some (.v (.ref p)), some (.d (.list (rows2.map encP))), some (dI (k : Int)), y8, y9, y10, y11, y12, y13, y14, y15] ∧ M = [] ++ rowsM qs (((potT ns lss).take (k + 1) ++ prR B r :: (blank ns).drop (k + 2)).map orI) ++ [(p, refsI qs)]) ⟨_, _, _, _, _, rfl, rfl⟩ (fun r ρ M hr2 hI => ?_) fun ρ M hI => ?_
        · obtain ⟨y8, y9, y10, y11, y12, rfl, rfl⟩ := hI
          have rl : r < B.length := by omega
          have ml := mid r (by omega)
          obtain ⟨qk, hqk⟩ : ∃ qk, qs[k + 1]? = some qk := ⟨qs[k + 1]'(by omega), List.getElem?_eq_getElem (by omega)⟩
          have mm := mr.2 (r : Int) (by omega) (by omega)
          have bg : B[r]? = some (rgD B (r : Int)) := by
            unfold rgD
            rw [Int.toNat_natCast]
            exact getD_lt rl
          refine ⟨_, gj_name 9 nd, ?_⟩
          refine sj_setW1F 11 15 (ds := rows2.map encP) (M1 := [] ++ rowsM qs (((potT ns lss).take (k + 1) ++ prR B r :: (blank ns).drop (k + 2)).map orI) ++ [(p, refsI qs)]) (fun j => ((rows2.take j).filter fun q => decide (q.1 = (r : Int))).map fun q => dI q.2) (fun _ => [] ++ rowsM qs (((potT ns lss).take (k + 1) ++ prR B r :: (blank ns).drop (k + 2)).map orI) ++ [(p, refsI qs)]) rfl nd (iw_list (ej_name 6)) (fun _ _ => trivial) rfl rfl (by rw [List.length_map]; omega) (fun j d hj => ?_) fun o ho => ?_
          · obtain ⟨q, hq', rfl⟩ := p2_at hj
            have sn := fil_snoc (fun q : P2 => decide (q.1 = (r : Int))) (fun q : P2 => dI q.2) hq'
            have i0 : atI [PyData.int q.1, .int q.2] 0 = some (.int q.1) := atI_nat (j := 0) rfl
            have i1 : atI [PyData.int q.1, .int q.2] 1 = some (.int q.2) := atI_nat (j := 1) rfl
            refine ⟨decide (q.1 = (r : Int)), _, fun N' s H C cl fp => tj_eqI (n := q.1) (m := (r : Int)) (ej_ixT (ds := [.int q.1, .int q.2]) (ej_name 15) ej_int i0) (ej_name 9), ?_, fun h => ⟨dI q.2, ?_, fun N' s H C cl fp => ej_ixT (ds := [.int q.1, .int q.2]) (ej_name 15) ej_int i1⟩, fun h => ⟨?_, rfl⟩⟩
            · rw [List.length_map]
              exact Nat.le_trans (List.length_filter_le _ _) (by rw [List.length_take]; omega)
            · rw [sn, if_pos h]
            · rw [sn, if_neg (by rw [h]; decide), List.append_nil]
          rw [List.length_map, List.take_length]
          obtain ⟨cs, hcs⟩ : ∃ cs : List Int, ((rows2.filter fun q => decide (q.1 = (r : Int))).map fun q : P2 => q.2) = cs := ⟨_, rfl⟩
          have cm : ∀ y, y ∈ cs ↔ ∃ q ∈ rows2, q.1 = (r : Int) ∧ q.2 = y := fun y => by
            rw [← hcs, List.mem_map]
            constructor
            · rintro ⟨q, hq', rfl⟩
              obtain ⟨h1, h2⟩ := List.mem_filter.mp hq'
              exact ⟨q, h1, of_decide_eq_true h2, rfl⟩
            · rintro ⟨q, h1, h2, rfl⟩
              exact ⟨q, List.mem_filter.mpr ⟨h1, decide_eq_true h2⟩, rfl⟩
          have mm := mm.congr fun y => (cm y).symm
          have cl : cs.length ≤ 6561 := by
            rw [← hcs, List.length_map]
            exact Nat.le_trans (List.length_filter_le _ _) b1
          rw [show ((rows2.filter fun q => decide (q.1 = (r : Int))).map fun q : P2 => dI q.2) = (cs.map PyData.int).map It.d by rw [← hcs]; simp only [List.map_map]; rfl]
          refine sj_frzT (Mb := [] ++ rowsM qs (((potT ns lss).take (k + 1) ++ prR B r :: (blank ns).drop (k + 2)).map orI) ++ [(p, refsI qs)]) 11 (ds := cs.map .int) rfl ho ?_
          refine sj_if (t := decide ((0 : Int) < (cs.length : Int))) (M1 := [] ++ rowsM qs (((potT ns lss).take (k + 1) ++ prR B r :: (blank ns).drop (k + 2)).map orI) ++ [(p, refsI qs)]) (tj_gt (n := (cs.length : Int)) (m := 0) (ej_is (ej_lenL (ds := cs.map .int) T.b_len (ej_name 11)) (by rw [List.length_map])) ej_int) (fun h => ?_) fun h => ?_
          · have h := of_decide_eq_true h
            cases hv : rgD B (r : Int) with
            | none =>
              rw [hv] at mm
              obtain ⟨y, hy⟩ : ∃ y, y ∈ cs := List.exists_mem_of_length_pos (by omega)
              exact absurd hy (mm y)
            | some v =>
              rw [hv] at mm bg
              refine sj_set 12 (i := .v (.ref qk)) (M1 := [] ++ rowsM qs (((potT ns lss).take (k + 1) ++ prR B r :: (blank ns).drop (k + 2)).map orI) ++ [(p, refsI qs)]) nd (ej_ixO (p := p) (is := refsI qs) (n := ((k + 1 : Nat) : Int)) (ej_name 5) (ej_is (ej_add (n := (k : Int)) (m := 1) (ej_name 7) ej_int) rfl) (pm _) (refs_at hqk)) ?_
              refine sj_nd fun hnd => ?_
              refine sj_setO (p := qk) (is := orI (prR B r)) (n := r) (i := dI v) (M1 := [] ++ rowsM qs (((potT ns lss).take (k + 1) ++ prR B r :: (blank ns).drop (k + 2)).map orI) ++ [(p, refsI qs)]) (M2 := [] ++ rowsM qs (((potT ns lss).take (k + 1) ++ prR B r :: (blank ns).drop (k + 2)).map orI) ++ [(p, refsI qs)]) (ej_minL (ns := cs) rfl T.b_min (ej_name 11) mm.1 mm.2) (ej_name 12) (ej_name 9) (List.mem_append_left _ (List.mem_append_right _ (rows_mem hqk (by rw [List.getElem?_map, List.getElem?_append_right (by omega), tl1, Nat.sub_self]; rfl)))) (by unfold orI; rw [List.length_map, List.length_map, prR_len B (by omega)]; exact rl) ?_
              rw [rows_putM (t := k + 1) hnd (by rw [List.length_map, ml]; exact hql) hqk]
              have st : (orI (prR B r)).set r (dI v) = orI (prR B (r + 1)) := by
                rw [prR_step rl bg]
                unfold orI
                rw [List.map_set, List.map_set]
                rfl
              rw [st, map_orI, set_mid tl1]
              exact sj_nil (sj_nil ⟨_, _, _, _, _, rfl, rfl⟩)
          · have h := of_decide_eq_false h
            have c0 : cs = [] := List.length_eq_zero_iff.mp (by omega)
            cases hv : rgD B (r : Int) with
            | none =>
              rw [hv] at bg
              rw [← prR_none rl bg]
              exact sj_nil (sj_nil ⟨_, _, _, _, _, rfl, rfl⟩)
            | some v =>
              rw [hv] at mm
              rw [c0] at mm
              exact absurd mm.1 List.not_mem_nil
        · obtain ⟨y8, y9, y10, y11, y12, rfl, rfl⟩ := hI
          rw [show wd.toNat = B.length by omega, ← e3]
          exact sj_nil ⟨_, _, _, _, _, _, _, _, _, by rw [hwd, hB]; exact mr, rfl, rfl⟩
    · obtain ⟨y7, y8, y9, y10, y11, y12, y13, y14, y15, hmin, rfl, rfl⟩ := hI
      rw [Int.toNat_natCast, show lss.length + 1 = (potT ns lss).length by omega, List.take_length, List.take_length, List.drop_eq_nil_of_le (by rw [bl, pl]; exact Nat.le_refl _), List.append_nil]
      have em : (potT ns lss).map orI = (((potT ns lss).map fun r => r.map oI).map fun ds => ds.map It.d) := by rw [List.map_map]; rfl
      rw [em]
      refine sj_freezeRows (M := []) (by rw [List.length_map, pl]; exact hql) hq ?_
      rw [show (((potT ns lss).map fun r => r.map oI).map PyData.list).map It.d = ((potT ns lss).map orD).map It.d by rw [List.map_map (g := PyData.list)]; rfl]
      refine sj_frzT (Mb := []) 5 (ds := (potT ns lss).map orD) rfl hp ?_
      exact sj_ret (ej_name 5) ⟨rfl, [], rfl⟩
end

/-! ### the law's own look at tables, and its changes -/
def CoLTab : Co := fun is M i M' => M = [] ∧ M' = [] ∧ ∃ (ns : List Int) (lss : List (List Ed)) (en : List Int) (d : PyData), is = [.d (trE ns lss en), .d d] ∧ tameT d ∧ ns.length ≤ 1000 ∧ i = dB (isTbD d ns)
def CoLRt : Co := fun is M i M' => M = [] ∧ M' = [] ∧ ∃ (ns : List Int) (lss : List (List Ed)) (en : List Int) (d : PyData), is = [.d (trE ns lss en), .d d] ∧ TrW ns lss en ∧ tameT d ∧ i = dB (rightD ns lss d)
theorem tb_drop {l : List PyData} {ns : List Int} (h : l.length = ns.length) {k : Nat} (hk : k < l.length) : (List.zipWith (fun d w => isRowD d w) (l.drop k) (ns.drop k)).all id = (isRowD (l.getD k .none) (ns.getD k 0) && (List.zipWith (fun d w => isRowD d w) (l.drop (k + 1)) (ns.drop (k + 1))).all id) := by
  rw [drop_get (getD_lt (d := PyData.none) hk), drop_get (getD_lt (d := (0 : Int)) (by omega)), List.zipWith_cons_cons, List.all_cons]
  rfl
theorem okI_ty (d : PyData) : okI d = (decide (tyD d = "NoneType") || decide (tyD d = "int")) := by cases d <;> rfl
section
variable {P : Program} {w : World} {K : PySem.W.Frag} {mg : Str → Option Value} {base : Heap}
theorem d_law_is_table (T : Txt K mg) : Def P w K mg base "_law_is_table" 1 CoLTab := by
  obtain ⟨f, fd, F, hm, hb⟩ := T.f_law_is_table
  refine def_ok F sc_law_is_table hm hb (fun is M i M' h => ?_) fun X hX N is M i M' hF hC => ?_
  · obtain ⟨rfl, rfl, ns, lss, en, d, rfl, _⟩ := h
    exact ⟨rfl, rfl⟩
  · obtain ⟨cdv, A, outer, sh, H, E, rfl, hr⟩ := hX
    obtain ⟨rfl, rfl, ns, lss, en, d, rfl, ht, hn, rfl⟩ := hC
    have nd := sc_law_is_table.nd
    have nsl : (ns.map PyData.int).length = ns.length := List.length_map ..
    have tr1 : ∀ {X : Cx} {ρ : Rho} {M : Mem} {N : Ent} {a c : Expr} {pos : Pos}, EJ X N ρ M a (.d (trE ns lss en)) M → EJ X N ρ M c (dI 1) M → PlainIx c → EJ X N ρ M (.Subscript a c pos) (.d (.tuple (ns.map .int))) M := fun h1 h2 hp => ej_ixT (ds := [.str "trellis", .tuple (ns.map .int), .list (lss.map encL), .tuple (en.map .int)]) h1 h2 (atI_nat (j := 1) rfl) hp
    by_cases hty : tyD d = "list"
    · obtain ⟨l, rfl⟩ := ty_list hty
      obtain ⟨hl, hx⟩ := ht l rfl
      rw [isTb_list]
      refine sj_if (t := !decide ((l.length : Int) = (ns.length : Int))) (tj_w (wj_or (t := false) (tj_is (tj_not (tj_val (ej_isi T.b_isinstance (ej_name 1) (ej_ty T.b_list boot_list') (kit_list _)))) rfl) fun _ => wj_or1 (tj_neI (ej_lenL (ds := l) T.b_len (ej_name 1)) (ej_is (ej_lenT (ds := ns.map .int) T.b_len (tr1 (ej_name 0) ej_int fun _ _ => rfl)) (by rw [nsl]))))) (fun h => ?_) fun h => sj_nil ?_
      · have h : decide ((l.length : Int) = (ns.length : Int)) = false := by simpa using h
        have h := of_decide_eq_false h
        refine sj_ret ej_bl ⟨?_, [], rfl⟩
        rw [decide_eq_false (show ¬ l.length = ns.length by omega)]
        rfl
      · have h : decide ((l.length : Int) = (ns.length : Int)) = true := by simpa using h
        have h := of_decide_eq_true h
        have h : l.length = ns.length := by omega
        rw [decide_eq_true h, Bool.true_and]
        refine sj_forR (m := (l.length : Int)) (M1 := []) rfl T.b_range (ej_lenL (ds := l) T.b_len (ej_name 1)) (by omega) (fun k ρ M => ∃ y2 y3, (List.zipWith (fun d w => isRowD d w) l ns).all id = (List.zipWith (fun d w => isRowD d w) (l.drop k) (ns.drop k)).all id ∧ ρ = [some (.d (trE ns lss en)), some (.d (.list l)), y2, y3] ∧ M = []) ⟨none, none, rfl, rfl, rfl⟩ (fun k ρ M hk hI => ?_) fun ρ M hI => ?_
        · obtain ⟨y2, y3, hI, rfl, rfl⟩ := hI
          have kl : k < l.length := by omega
          rw [tb_drop h kl] at hI
          have hlk := getD_lt (d := PyData.none) kl
          obtain ⟨x, hxx⟩ : ∃ x, l.getD k .none = x := ⟨_, rfl⟩
          rw [hxx] at hI hlk
          have ixt : ∀ {X : Cx} {ρ : Rho} {M : Mem} {N : Ent} {a c : Expr} {pos : Pos}, EJ X N ρ M a (.d (.list l)) M → EJ X N ρ M c (dI (k : Int)) M → PlainIx c → EJ X N ρ M (.Subscript a c pos) (.d x) M := fun h1 h2 hp => ej_ixL (ds := l) h1 h2 (atI_nat (j := k) hlk) hp
          refine ⟨_, gj_name 2 nd, ?_⟩
          by_cases hty2 : tyD x = "list"
          · obtain ⟨l2, rfl⟩ := ty_list hty2
            have hl2 := hx _ (List.mem_of_getElem? hlk) l2 rfl
            rw [isRow_list] at hI
            refine sj_if (t := !decide ((l2.length : Int) = ns.getD k 0)) (M1 := []) (tj_w (wj_or (t := false) (tj_is (tj_not (tj_val (ej_isi T.b_isinstance (ixt (ej_name 1) (ej_name 2) fun _ _ => rfl) (ej_ty T.b_list boot_list') (kit_list _)))) rfl) fun _ => wj_or1 (tj_neI (ej_lenL (ds := l2) T.b_len (ixt (ej_name 1) (ej_name 2) fun _ _ => rfl)) (ej_ixT (ds := ns.map .int) (tr1 (ej_name 0) ej_int fun _ _ => rfl) (ej_name 2) (getD_at (by omega)))))) (fun h => ?_) fun h => sj_nil ?_
            · have h : decide ((l2.length : Int) = ns.getD k 0) = false := by simpa using h
              exact sj_ret ej_bl ⟨by rw [hI, h]; rfl, [], rfl⟩
            · have h : decide ((l2.length : Int) = ns.getD k 0) = true := by simpa using h
              rw [h, Bool.true_and] at hI
              refine sj_forW (ds := l2) (M1 := []) rfl (iw_list (ixt (ej_name 1) (ej_name 2) fun _ _ => rfl)) (fun j ρ M => ∃ y3, (List.zipWith (fun d w => isRowD d w) l ns).all id = ((l2.drop j).all okI && (List.zipWith (fun d w => isRowD d w) (l.drop (k + 1)) (ns.drop (k + 1))).all id) ∧ ρ = [some (.d (trE ns lss en)), some (.d (.list l)), some (dI (k : Int)), y3] ∧ M = []) ⟨_, hI, rfl, rfl⟩ (fun j o ρ M hj hI => ?_) fun ρ M hI => ?_
              · obtain ⟨y3, hI, rfl, rfl⟩ := hI
                rw [drop_get hj, List.all_cons, okI_ty] at hI
                refine ⟨_, gj_name 3 nd, ?_⟩
                refine sj_if (t := !decide (tyD o = "NoneType") && (!decide (tyD o = "int" ∨ tyD o = "bool") || decide (tyD o = "bool"))) (M1 := []) (tj_w (wj_and (t := !decide (tyD o = "NoneType")) (u := !decide (tyD o = "int" ∨ tyD o = "bool") || decide (tyD o = "bool")) (tj_notNo (ej_name (i := .d o) 3) ej_non) fun _ => wj_and1 (tj_w (wj_or (t := !decide (tyD o = "int" ∨ tyD o = "bool")) (u := decide (tyD o = "bool")) (tj_not (tj_val (ej_isi T.b_isinstance (ej_name (i := .d o) 3) (ej_ty T.b_int boot_int') (kit_int o)))) fun _ => wj_or1 (tj_val (ej_isi T.b_isinstance (ej_name (i := .d o) 3) (ej_ty T.b_bool boot_bool') (kit_bool o))))))) (fun h => ?_) fun h => ?_
                · refine sj_ret ej_bl ⟨?_, [], rfl⟩
                  rw [hI]
                  have : (decide (tyD o = "NoneType") || decide (tyD o = "int")) = false := by
                    cases o <;> first | rfl | (exfalso; revert h; decide) | (simp [tyD] at h)
                  rw [this]
                  rfl
                · have : (decide (tyD o = "NoneType") || decide (tyD o = "int")) = true := by
                    cases o <;> first | rfl | (simp [tyD] at h)
                  rw [this, Bool.true_and] at hI
                  exact sj_nil (sj_nil ⟨_, hI, rfl, rfl⟩)
              · obtain ⟨y3, hI, rfl, rfl⟩ := hI
                rw [List.drop_length] at hI
                exact sj_nil ⟨_, _, hI, rfl, rfl⟩
          · rw [isRow_no hty2] at hI
            refine sj_if (t := true) (M1 := []) (tj_w (wj_or (t := true) (u := true) (tj_is (tj_not (tj_val (ej_isi T.b_isinstance (ixt (ej_name 1) (ej_name 2) fun _ _ => rfl) (ej_ty T.b_list boot_list') (kit_list x)))) (by rw [decide_eq_false hty2]; rfl)) fun h => nomatch h)) (fun _ => sj_ret ej_bl ⟨by rw [hI]; rfl, [], rfl⟩) fun h => nomatch h
        · obtain ⟨y2, y3, hI, rfl, rfl⟩ := hI
          rw [Int.toNat_natCast, List.drop_length] at hI
          exact sj_ret ej_bl ⟨by rw [hI]; rfl, [], rfl⟩
    · rw [isTb_no hty]
      refine sj_if (t := true) (tj_w (wj_or (t := true) (u := true) (tj_is (tj_not (tj_val (ej_isi T.b_isinstance (ej_name 1) (ej_ty T.b_list boot_list') (kit_list d)))) (by rw [decide_eq_false hty]; rfl)) fun h => nomatch h)) (fun _ => sj_ret ej_bl ⟨rfl, [], rfl⟩) fun h => nomatch h
end

theorem eqv_oI0 (o : Option Int) : PyData.eqv (oI o) (.int 0) = decide (o = some 0) := by
  cases o with
  | none => rfl
  | some v =>
    have e : PyData.eqv (.int v) (.int 0) = decide (v = 0) := by simp only [PyData.eqv]; rfl
    show PyData.eqv (.int v) (.int 0) = _
    rw [e]
    exact decide_eq_decide.mpr ⟨fun h => by rw [h], fun h => Option.some.inj h⟩
section
variable {P : Program} {w : World} {K : PySem.W.Frag} {mg : Str → Option Value} {base : Heap}
theorem d_law_right (T : Txt K mg) : Def P w K mg base "_law_right" 2 CoLRt := by
  obtain ⟨f, fd, F, hm, hb⟩ := T.f_law_right
  have G1 := d_law_is_table (P := P) (w := w) (base := base) T
  refine def_ok F sc_law_right hm hb (fun is M i M' h => ?_) fun X hX N is M i M' hF hC => ?_
  · obtain ⟨rfl, rfl, ns, lss, en, d, rfl, _⟩ := h
    exact ⟨rfl, rfl⟩
  · obtain ⟨cdv, A, outer, sh, H, E, rfl, hr⟩ := hX
    obtain ⟨rfl, rfl, ns, lss, en, d, rfl, tw, ht, rfl⟩ := hC
    have nd := sc_law_right.nd
    have hl := tw.wf.len
    have hll := tw.ll
    have n1 := tw.wf.one
    cases ed : deTb d with
    | none =>
      have e1 : isTbD d ns = false := by unfold isTbD; rw [ed]
      have e2 : rightD ns lss d = false := by unfold rightD; rw [ed]
      rw [e2]
      refine sj_if (t := true) (tj_w (wj_or (t := true) (u := true) (tj_is (tj_not (tj_val (ej_callP G1 hr (aj2 (ej_name 0) (ej_name (i := .d d) 1)) ⟨rfl, rfl, ns, lss, en, d, rfl, ht, by omega, rfl⟩))) (by rw [e1]; rfl)) fun h => nomatch h)) (fun _ => sj_ret ej_bl ⟨rfl, [], rfl⟩) fun h => nomatch h
    | some t =>
      have edt := deTb_eq ed
      subst edt
      have e1 : isTbD (tbD t) ns = shpB ns t := by unfold isTbD; rw [ed]
      have e2 : rightD ns lss (tbD t) = rgtB ns lss t := by unfold rightD; rw [ed]
      rw [e2]
      cases hs : shpB ns t with
      | false =>
        have e3 : rgtB ns lss t = false := by unfold rgtB; rw [hs]; rfl
        rw [e3]
        refine sj_if (t := true) (tj_w (wj_or (t := true) (u := true) (tj_is (tj_not (tj_val (ej_callP G1 hr (aj2 (ej_name 0) (ej_name (i := .d (tbD t)) 1)) ⟨rfl, rfl, ns, lss, en, tbD t, rfl, ht, by omega, rfl⟩))) (by rw [e1, hs]; rfl)) fun h => nomatch h)) (fun _ => sj_ret ej_bl ⟨rfl, [], rfl⟩) fun h => nomatch h
      | true =>
        have tl := shp_len hs
        have t0 : t.headD [] = t.getD 0 [] := by cases t <;> rfl
        have s0 := shp_at (k := 0) hs (by omega)
        have w0 : 1 ≤ ns.getD 0 0 := n1 _ (by rw [List.getD_eq_getElem?_getD, List.getElem?_eq_getElem (by omega)]; exact List.getElem_mem _)
        have r00 := or_at (row := t.getD 0 []) (r := 0) (Int.le_refl 0) (by show 0 < _; omega)
        obtain ⟨bf, hbf⟩ : ∃ bf : Nat → Bool, (fun k => bndB (t.getD k []) (t.getD (k + 1) []) (lss.getD k [])) = bf := ⟨_, rfl⟩
        have e3 : rgtB ns lss t = (decide (rgD (t.getD 0 []) 0 = some 0) && ((List.range lss.length).map bf).all id) := by
          unfold rgtB
          rw [hs, Bool.true_and, t0, rgtL_all (by omega), hbf]
        rw [e3]
        have pnI : ∀ o : Option Int, plainD (oI o) = true := fun o => by cases o <;> rfl
        have fst : ∀ {X : Cx} {ρ : Rho} {M : Mem} {N : Ent} {a b c : Expr} {p1 p2 : Pos}, EJ X N ρ M a (.d (tbD t)) M → EJ X N ρ M b (dI 0) M → EJ X N ρ M c (dI 0) M → PlainIx b → PlainIx c → EJ X N ρ M (.Subscript (.Subscript a b p1) c p2) (.d (oI (rgD (t.getD 0 []) 0))) M := fun h1 h2 h3 p1 p2 => ej_ixL (ds := (t.getD 0 []).map oI) (ej_ixL (ds := t.map orD) (n := ((0 : Nat) : Int)) h1 (ej_is h2 rfl) (tb_at (by omega)) p1) h3 r00 p2
        refine sj_if (t := !decide (rgD (t.getD 0 []) 0 = some 0)) (tj_is (tj_w (wj_or (t := false) (u := decide (tyD (oI (rgD (t.getD 0 []) 0)) = "NoneType") || !decide (rgD (t.getD 0 []) 0 = some 0)) (tj_is (tj_not (tj_val (ej_callP G1 hr (aj2 (ej_name 0) (ej_name (i := .d (tbD t)) 1)) ⟨rfl, rfl, ns, lss, en, tbD t, rfl, ht, by omega, rfl⟩))) (by rw [e1, hs]; rfl)) fun _ => wj_or (t := decide (tyD (oI (rgD (t.getD 0 []) 0)) = "NoneType")) (u := !decide (rgD (t.getD 0 []) 0 = some 0)) (tj_isN (fst (ej_name 1) ej_int ej_int (fun _ _ => rfl) fun _ _ => rfl) ej_non) fun _ => wj_or1 (tj_is (tj_neD hr.units (d := oI (rgD (t.getD 0 []) 0)) (d' := .int 0) (fst (ej_name 1) ej_int ej_int (fun _ _ => rfl) fun _ _ => rfl) ej_int (.d _) (.d _) (pnI _) rfl) (by rw [eqv_oI0])))) (by
          cases z : rgD (t.getD 0 []) 0 with
          | none => rfl
          | some v => rfl)) (fun h => ?_) fun h => sj_nil ?_
        · have h : decide (rgD (t.getD 0 []) 0 = some 0) = false := by simpa using h
          exact sj_ret ej_bl ⟨by rw [h]; rfl, [], rfl⟩
        · have h : decide (rgD (t.getD 0 []) 0 = some 0) = true := by simpa using h
          rw [h, Bool.true_and]
          have tr2 : ∀ {X : Cx} {ρ : Rho} {M : Mem} {N : Ent} {a c : Expr} {pos : Pos}, EJ X N ρ M a (.d (trE ns lss en)) M → EJ X N ρ M c (dI 2) M → PlainIx c → EJ X N ρ M (.Subscript a c pos) (.d (.list (lss.map encL))) M := fun h1 h2 hp => ej_ixT (ds := [.str "trellis", .tuple (ns.map .int), .list (lss.map encL), .tuple (en.map .int)]) h1 h2 (atI_nat (j := 2) rfl) hp
          refine sj_forR (m := (lss.length : Int)) (M1 := []) rfl T.b_range (ej_is (ej_lenL (ds := lss.map encL) T.b_len (tr2 (ej_name 0) ej_int fun _ _ => rfl)) (by rw [List.length_map])) (by omega) (fun k ρ M => ∃ y2 y3 y4 y5 y6 y7 y8, ((List.range lss.length).map bf).all id = (((List.range lss.length).map bf).drop k).all id ∧ ρ = [some (.d (trE ns lss en)), some (.d (tbD t)), y2, y3, y4, y5, y6, y7, y8] ∧ M = []) ⟨none, none, none, none, none, none, none, rfl, rfl, rfl⟩ (fun k ρ M hk hI => ?_) fun ρ M hI => ?_
          · obtain ⟨y2, y3, y4, y5, y6, y7, y8, hI, rfl, rfl⟩ := hI
            have kl : k < lss.length := by omega
            have ez : ((List.range lss.length).map bf)[k]? = some (bf k) := by rw [List.getElem?_map, List.getElem?_range kl]; rfl
            rw [drop_get ez, List.all_cons] at hI
            have hin := wf_in (k := k) tw.wf hs kl
            have hbk : bf k = bndB (t.getD k []) (t.getD (k + 1) []) (lss.getD k []) := by rw [← hbf]
            have hlk := getD_lt (d := ([] : List Ed)) kl
            have tk := tb_at (t := t) (k := k) (by omega)
            have tk1 := tb_at (t := t) (k := k + 1) (by omega)
            rw [hbk] at hI
            generalize lss.getD k [] = l at hI hin hlk
            generalize t.getD k [] = row at hI hin tk
            generalize t.getD (k + 1) [] = beh at hI hin tk1
            obtain ⟨R, hR⟩ : ∃ R, (((List.range lss.length).map bf).drop (k + 1)).all id = R := ⟨_, rfl⟩
            rw [hR] at hI
            have hI : ((List.range lss.length).map bf).all id = (bndB row beh l && R) := hI
            refine ⟨_, gj_name 2 nd, ?_⟩
            have ixl : ∀ {ρ : Rho} {X : Cx} {N : Ent} {pos : Pos} {a b : Expr} {M : Mem}, EJ X N ρ M a (.d (.list (lss.map encL))) M → EJ X N ρ M b (dI (k : Int)) M → PlainIx b → EJ X N ρ M (.Subscript a b pos) (.d (encL l)) M := fun h1 h2 hp => ej_ixL (ds := lss.map encL) (n := (k : Int)) h1 h2 (atI_nat (j := k) (by rw [List.getElem?_map, hlk]; rfl)) hp
            refine sj_forW (ds := l.map encE) (M1 := []) rfl (iw_list (ixl (tr2 (ej_name 0) ej_int fun _ _ => rfl) (ej_name 2) fun _ _ => rfl)) (fun j ρ M => ∃ y3 y4 y5 y6 y7 y8, ((List.range lss.length).map bf).all id = (bndB row beh (l.drop j) && R) ∧ ρ = [some (.d (trE ns lss en)), some (.d (tbD t)), some (dI (k : Int)), y3, y4, y5, y6, y7, y8] ∧ M = []) ⟨_, _, _, _, _, _, hI, rfl, rfl⟩ (fun j d ρ M hj hI => ?_) fun ρ M hI => ?_
            · obtain ⟨y3, y4, y5, y6, y7, y8, hI, rfl, rfl⟩ := hI
              obtain ⟨e, he, rfl⟩ := enc_at hj
              obtain ⟨i1, i2⟩ := hin e (List.mem_of_getElem? he)
              have st : bndB row beh (l.drop j) = ((match rgD row e.1 with
                | none => true
                | some c => match rgD beh e.2.1 with
                  | none => false
                  | some v => decide (v ≤ c + e.2.2.2)) && bndB row beh (l.drop (j + 1))) := by
                rw [drop_get he]
                rfl
              rw [st] at hI
              have r1 := or_at (row := row) i1.1 i1.2
              have r2 := or_at (row := beh) i2.1 i2.2
              refine ⟨_, gj_tup (ds := [.int e.1, .int e.2.1, .int e.2.2.1, .int e.2.2.2]) rfl (gs_cons 3 nd (gs_cons 4 nd (gs_cons 5 nd (gs_cons 6 nd gs_nil)))), ?_⟩
              refine sj_set 7 (i := .d (oI (rgD row e.1))) (M1 := []) nd (ej_ixL (ds := row.map oI) (ej_ixL (ds := t.map orD) (n := (k : Int)) (ej_name 1) (ej_name 2) tk) (ej_name (i := dI e.1) 3) r1) ?_
              refine sj_set 8 (i := .d (oI (rgD beh e.2.1))) (M1 := []) nd (ej_ixL (ds := beh.map oI) (ej_ixL (ds := t.map orD) (n := ((k + 1 : Nat) : Int)) (ej_name 1) (ej_is (ej_add (n := (k : Int)) (m := 1) (ej_name 2) ej_int) rfl) tk1) (ej_name (i := dI e.2.1) 4) r2) ?_
              cases hc : rgD row e.1 with
              | none =>
                rw [hc] at hI
                refine sj_if (t := false) (M1 := []) (tj_is (tj_w (wj_and (t := false) (u := false) (tj_is (tj_notNo (d := .none) (ej_name 7) ej_non) rfl) fun h => nomatch h)) rfl) (fun h => nomatch h) fun _ => sj_nil (sj_nil ⟨_, _, _, _, _, _, hI, rfl, rfl⟩)
              | some c =>
                rw [hc] at hI
                cases hv : rgD beh e.2.1 with
                | none =>
                  rw [hv] at hI
                  refine sj_if (t := true) (M1 := []) (tj_is (tj_w (wj_and (t := true) (u := true) (tj_is (tj_notNo (d := .int c) (ej_name 7) ej_non) rfl) fun _ => wj_and1 (tj_w (wj_or (t := true) (u := true) (tj_is (tj_isN (d := .none) (ej_name 8) ej_non) rfl) fun h => nomatch h)))) rfl) (fun _ => sj_ret ej_bl ⟨by rw [hI]; rfl, [], rfl⟩) fun h => nomatch h
                | some v =>
                  rw [hv] at hI
                  dsimp only at hI
                  refine sj_if (t := decide (c + e.2.2.2 < v)) (M1 := []) (tj_is (tj_w (wj_and (t := true) (u := decide (c + e.2.2.2 < v)) (tj_is (tj_notNo (d := .int c) (ej_name 7) ej_non) rfl) fun _ => wj_and1 (tj_w (wj_or (t := false) (u := decide (c + e.2.2.2 < v)) (tj_is (tj_isN (d := .int v) (ej_name 8) ej_non) rfl) fun _ => wj_or1 (tj_gt (n := v) (m := c + e.2.2.2) (ej_name 8) (ej_add (n := c) (m := e.2.2.2) (ej_name 7) (ej_name 6))))))) rfl) (fun h => ?_) fun h => ?_
                  · have := of_decide_eq_true h
                    rw [decide_eq_false (by omega)] at hI
                    exact sj_ret ej_bl ⟨by rw [hI]; rfl, [], rfl⟩
                  · have := of_decide_eq_false h
                    rw [decide_eq_true (by omega), Bool.true_and] at hI
                    exact sj_nil (sj_nil ⟨_, _, _, _, _, _, hI, rfl, rfl⟩)
            · obtain ⟨y3, y4, y5, y6, y7, y8, hI, rfl, rfl⟩ := hI
              rw [List.length_map, List.drop_length] at hI
              refine sj_nil ⟨_, _, _, _, _, _, _, ?_, rfl, rfl⟩
              rw [hI, ← hR]
              rfl
          · obtain ⟨y2, y3, y4, y5, y6, y7, y8, hI, rfl, rfl⟩ := hI
            rw [Int.toNat_natCast, List.drop_eq_nil_of_le (by rw [List.length_map, List.length_range]; exact Nat.le_refl _)] at hI
            exact sj_ret ej_bl ⟨by rw [hI]; rfl, [], rfl⟩
end

/-! ### draws, with the state as one thing -/
abbrev DT := Int × List Int × Int
def trn (n : Int) (d : DT) : DT := drw d.2.1 d.2.2 n
def SttD (a c : Addr) (d : DT) : Mem := Stt a c d.2.1 d.2.2
theorem trn_ok {n : Int} (h : 0 < n) (d : DT) (hl : d.2.1.length ≤ 63) : 0 ≤ (trn n d).1 ∧ (trn n d).1 < n ∧ (trn n d).2.1.length ≤ 63 :=
  ⟨drw_lo _ _ h, drw_hi _ _ h, Nat.le_trans (drw_len _ _ _) hl⟩
theorem trn_nat {n : Int} (h : 0 < n) (d : DT) (hl : d.2.1.length ≤ 63) : ∃ x : Nat, (trn n d).1 = (x : Int) ∧ (x : Int) < n ∧ (trn n d).2.1.length ≤ 63 := by
  obtain ⟨h1, h2, h3⟩ := trn_ok h d hl
  obtain ⟨x, e⟩ := Int.eq_ofNat_of_zero_le h1
  exact ⟨x, e, by rw [← e]; exact h2, h3⟩
theorem trn_len (n : Int) (d : DT) (hl : d.2.1.length ≤ 63) : (trn n d).2.1.length ≤ 63 := Nat.le_trans (drw_len _ _ _) hl
theorem sttD_fst (a c : Addr) (d d' : DT) : (SttD a c d).map Prod.fst = (SttD a c d').map Prod.fst := rfl
section
variable {X : Cx} {N : Ent} {ρ : Rho} {e1 e2 : Expr} {p q : Pos} {a c : Addr} {d d0 : DT}
theorem ej_drawM (F : Def X.prog X.w X.K X.mg X.base "_law_draw" 1 CoDraw) (hr : Room 1 X.A) {many : Int} {Mr : Mem} (h1 : EJ X N ρ (SttD a c d0 ++ Mr) e1 (.v (.ref a)) (SttD a c d0 ++ Mr)) (h2 : EJ X N ρ (SttD a c d0 ++ Mr) e2 (dI many) (SttD a c d ++ Mr)) (m0 : 0 < many) (m1 : many < 18446744073709551616) (hl : d.2.1.length ≤ 63)
    (hg : Gl X "_law_draw" := by rfl) (he : starEach [e1, e2] X.env = (false, eval e1 X.env) :: starEach [e2] X.env := by rfl) (he2 : starEach [e2] X.env = [(false, eval e2 X.env)] := by rfl) (hpl : (backTo q (starEach [e2] X.env)).any (·.1) = false := by rfl) :
    EJ X N ρ (SttD a c d0 ++ Mr) (.Call (.Name "_law_draw" p) [e1, e2] [] q) (dI (trn many d).1) (SttD a c (trn many d) ++ Mr) :=
  ej_draw (p := p) (q := q) F hr (a := a) (c := c) (cs := d0.2.1) (s := d0.2.2) (cs' := d.2.1) (s' := d.2.2) h1 h2 m0 m1 hl hg he he2 hpl
theorem ej_drawD (F : Def X.prog X.w X.K X.mg X.base "_law_draw" 1 CoDraw) (hr : Room 1 X.A) {many : Int} (h1 : EJ X N ρ (SttD a c d0) e1 (.v (.ref a)) (SttD a c d0)) (h2 : EJ X N ρ (SttD a c d0) e2 (dI many) (SttD a c d)) (m0 : 0 < many) (m1 : many < 18446744073709551616) (hl : d.2.1.length ≤ 63)
    (hg : Gl X "_law_draw" := by rfl) (he : starEach [e1, e2] X.env = (false, eval e1 X.env) :: starEach [e2] X.env := by rfl) (he2 : starEach [e2] X.env = [(false, eval e2 X.env)] := by rfl) (hpl : (backTo q (starEach [e2] X.env)).any (·.1) = false := by rfl) :
    EJ X N ρ (SttD a c d0) (.Call (.Name "_law_draw" p) [e1, e2] [] q) (dI (trn many d).1) (SttD a c (trn many d)) := by
  have e := ej_drawM (p := p) (q := q) (Mr := []) F hr (a := a) (c := c) (d := d) (d0 := d0) (ej_m (by rw [List.append_nil]; exact h1) rfl) (ej_m (by rw [List.append_nil]; exact h2) (List.append_nil _).symm) m0 m1 hl hg he he2 hpl
  rw [List.append_nil, List.append_nil] at e
  exact e
end
theorem eqTT (n : Int) : dB (decide (n = n)) = dB true := by rw [decide_eq_true rfl]
theorem ab_name {n f : Str} {p : Pos} {env : Env} {w : Sem Value} : attributeBase (.Name n p) f env w = w := rfl
theorem st_l {es rest : List Expr} {p : Pos} {env : Env} : starEach (.List es p :: rest) env = (false, eval (.List es p) env) :: starEach rest env := rfl
theorem st_c {c : Const} {j : Nat} {rest : List Expr} {p : Pos} {env : Env} : starEach (.Constant c j p :: rest) env = (false, eval (.Constant c j p) env) :: starEach rest env := rfl


/-! ### the law's paths -/
def encR (w : Rw) : PyData := .tuple [.list (w.1.map .int), .int w.2.1, .int w.2.2]
def encQ (q : CP) : PyData := .tuple [.int q.1, .list (q.2.map .int)]
theorem lxL_eq : ∀ xs ys : List Int, PySem.W.listLt xs ys = lxL xs ys
  | [], [] => rfl
  | [], _ :: _ => rfl
  | _ :: _, [] => rfl
  | x :: xs, y :: ys => by
    unfold PySem.W.listLt lxL
    rw [lxL_eq xs ys]
    rfl
theorem ltQ_eq (p q : CP) : PySem.W.dataLt (encQ p) (encQ q) = ltQ p q := by
  have h := PySem.W.DatumOrd.lt_eq (α := Int × List Int) p q
  have e1 : (PySem.W.Datum.toD p : PyData) = encQ p := rfl
  have e2 : (PySem.W.Datum.toD q : PyData) = encQ q := rfl
  rw [e1, e2] at h
  rw [h]
  show (if p.1 = q.1 then PySem.W.listLt p.2 q.2 else decide (p.1 < q.1)) = ltQ p q
  unfold ltQ
  rw [lxL_eq]
theorem srt_enc (l : List CP) : srtD (l.map encQ) = (srt l).map encQ := by
  unfold srtD srt
  refine (List.map_mergeSort (f := encQ) (r := leQ) (s := PySem.W.dataLe false id) fun a _ b _ => ?_).symm
  show leQ a b = !PySem.W.dataLt (encQ b) (encQ a)
  rw [ltQ_eq]
  rfl
theorem q_alike (l : List CP) : PySem.W.AllAlike (l.map encQ) := fun d hd d' hd' => by
  obtain ⟨p, _, rfl⟩ := List.mem_map.mp hd
  obtain ⟨q, _, rfl⟩ := List.mem_map.mp hd'
  exact PySem.W.DatumOrd.alike (α := Int × List Int) p q
theorem q_sortable (l : List CP) : PySem.W.Sortable (l.map encQ) := .inl fun d hd => by
  obtain ⟨p, _, rfl⟩ := List.mem_map.mp hd
  exact ⟨_, _, rfl⟩
theorem nod_ints : ∀ l : List Int, noDicts (l.map .int) = true
  | [] => rfl
  | x :: l => by
    show (noDict (.int x) && noDicts (l.map .int)) = true
    rw [nod_ints l]
    rfl
theorem q_nod : ∀ l : List CP, noDicts (l.map encQ) = true
  | [] => rfl
  | q :: l => by
    have h : noDict (encQ q) = true := by
      show (true && (noDicts (q.2.map .int) && true)) = true
      rw [nod_ints]
      rfl
    show (noDict (encQ q) && noDicts (l.map encQ)) = true
    rw [q_nod l, h]
    rfl
theorem q_depth (l : List CP) : ∀ d ∈ l.map encQ, d.depth ≤ 60 := fun d hd => by
  obtain ⟨q, _, rfl⟩ := List.mem_map.mp hd
  have h := depth_ints q.2
  have e : (encQ q).depth = max 0 (max (PyData.depthAll (q.2.map .int) + 1) 0) + 1 := by
    simp [encQ, PyData.depth, PyData.depthAll]
  omega
def fwF (l : List Ed) (w : Rw) : List Rw := (l.filter fun e => decide (e.1 = w.2.1)).map fun e => (w.1 ++ [e.2.2.1], e.2.1, w.2.2 + e.2.2.2)
theorem fwd_take {rows : List Rw} {l : List Ed} {k : Nat} {w : Rw} (h : rows[k]? = some w) : fwd (rows.take (k + 1)) l = fwd (rows.take k) l ++ fwF l w := by
  unfold fwd
  rw [List.take_add_one, h, List.flatMap_append]
  congr 1
  show [w].flatMap _ = _
  rw [List.flatMap_cons, List.flatMap_nil, List.append_nil]
  rfl
theorem fwd_len {rows : List Rw} {l : List Ed} {z : Nat} (h : ∀ r : Int, (l.filter fun e => decide (e.1 = r)).length ≤ z) : (fwd rows l).length ≤ rows.length * z := by
  unfold fwd
  induction rows with
  | nil => exact Nat.zero_le _
  | cons w rows ih =>
    rw [List.flatMap_cons, List.length_append, List.length_map, List.length_cons, Nat.succ_mul]
    have := h w.2.1
    omega
theorem rows_len {z : Nat} (hz : 1 ≤ z) : ∀ (ls : List (List Ed)) (rows : List Rw), (∀ l ∈ ls, ∀ r : Int, (l.filter fun e => decide (e.1 = r)).length ≤ z) → (ls.foldl fwd rows).length ≤ rows.length * z ^ ls.length
  | [], rows, _ => by rw [List.foldl_nil]; simp
  | l :: ls, rows, h => by
    have i := rows_len hz ls (fwd rows l) fun l' m => h l' (List.mem_cons_of_mem _ m)
    have a := fwd_len (rows := rows) (h l List.mem_cons_self)
    rw [List.foldl_cons, List.length_cons, Nat.pow_succ]
    calc _ ≤ (fwd rows l).length * z ^ ls.length := i
      _ ≤ (rows.length * z) * z ^ ls.length := Nat.mul_le_mul_right _ a
      _ = rows.length * (z ^ ls.length * z) := by rw [Nat.mul_assoc, Nat.mul_comm z]
theorem rows_lab {z : Nat} : ∀ (ls : List (List Ed)) (rows : List Rw), (∀ w ∈ rows, w.1.length ≤ z) → ∀ w ∈ ls.foldl fwd rows, w.1.length ≤ z + ls.length
  | [], rows, h, w, hw => h w hw
  | l :: ls, rows, h, w, hw => by
    rw [List.foldl_cons] at hw
    have := rows_lab (z := z + 1) ls (fwd rows l) (fun w' hw' => by
      obtain ⟨w0, h0, hw'⟩ := List.mem_flatMap.mp hw'
      obtain ⟨e, _, rfl⟩ := List.mem_map.mp hw'
      have := h w0 h0
      show (w0.1 ++ [e.2.2.1]).length ≤ z + 1
      rw [List.length_append]
      show _ + 1 ≤ _
      omega) w hw
    rw [List.length_cons]
    omega
def CoLPa : Co := fun is M i M' => M = [] ∧ M' = [] ∧ ∃ (ns : List Int) (lss : List (List Ed)) (en : List Int), is = [.d (trE ns lss en)] ∧ lss.length ≤ 4 ∧ (∀ l ∈ lss, l.length ≤ 500 ∧ ∀ r : Int, (l.filter fun e => decide (e.1 = r)).length ≤ 9) ∧ i = .d (.list ((srtQ lss en).map encQ))
section
variable {P : Program} {w : World} {K : PySem.W.Frag} {mg : Str → Option Value} {base : Heap}
theorem d_law_paths (T : Txt K mg) : Def P w K mg base "_law_paths" 1 CoLPa := by
  obtain ⟨f, fd, F, hm, hb⟩ := T.f_law_paths
  refine def_ok F sc_law_paths hm hb (fun is M i M' h => ?_) fun X hX N is M i M' hF hC => ?_
  · obtain ⟨rfl, rfl, ns, lss, en, rfl, _⟩ := h
    exact ⟨rfl, rfl⟩
  · obtain ⟨cdv, A, outer, sh, H, E, rfl, hr⟩ := hX
    obtain ⟨rfl, rfl, ns, lss, en, rfl, h4, h9, rfl⟩ := hC
    have nd := sc_law_paths.nd
    have ll : (lss.map encL).length = lss.length := List.length_map ..
    have rb : ∀ k, k ≤ lss.length → ((lss.take k).foldl fwd [([], 0, 0)]).length ≤ 6561 := fun k hk => by
      have := rows_len (z := 9) (by decide) (lss.take k) [([], 0, 0)] fun l m => (h9 l (List.mem_of_mem_take m)).2
      rw [List.length_take, Nat.min_eq_left hk] at this
      have h2 : 9 ^ k ≤ 9 ^ 4 := Nat.pow_le_pow_right (by decide) (by omega)
      have : ((lss.take k).foldl fwd [([], 0, 0)]).length ≤ 1 * 9 ^ k := this
      omega
    refine sj_set 1 (i := .d (.list ((((lss.take 0).foldl fwd [([], 0, 0)]) : List Rw).map encR))) (M1 := []) nd (jl1 (A := encR ([], 0, 0)) (jt3 (A := .list []) (B := .int 0) (C := .int 0) jl0 ej_int ej_int)) ?_
    have tr2 : ∀ {X : Cx} {ρ : Rho} {M : Mem} {N : Ent} {a c : Expr} {pos : Pos} (n : Nat) {d : PyData}, EJ X N ρ M a (.d (trE ns lss en)) M → EJ X N ρ M c (dI (n : Int)) M → [PyData.str "trellis", .tuple (ns.map .int), .list (lss.map encL), .tuple (en.map .int)][n]? = some d → PlainIx c → EJ X N ρ M (.Subscript a c pos) (.d d) M := fun n d h1 h2 h3 hp => ej_ixT (ds := [.str "trellis", .tuple (ns.map .int), .list (lss.map encL), .tuple (en.map .int)]) h1 h2 (atI_nat (j := n) h3) hp
    refine sj_forW (ds := lss.map encL) (M1 := []) rfl (iw_list (tr2 2 (ej_name 0) ej_int rfl fun _ _ => rfl)) (fun k ρ M => ∃ y2 y3 y4 y5 y6 y7, ρ = [some (.d (trE ns lss en)), some (.d (.list (((lss.take k).foldl fwd [([], 0, 0)]).map encR))), y2, y3, y4, y5, y6, y7] ∧ M = []) ⟨_, _, _, _, _, _, rfl, rfl⟩ (fun k d ρ M hk hI => ?_) fun ρ M hI => ?_
    · obtain ⟨y2, y3, y4, y5, y6, y7, rfl, rfl⟩ := hI
      rw [List.getElem?_map] at hk
      obtain ⟨l, hl, rfl⟩ := Option.map_eq_some_iff.mp hk
      have kl := (List.getElem?_eq_some_iff.mp hl).1
      have lz := (h9 l (List.mem_of_getElem? hl)).2
      have e1 : (lss.take (k + 1)).foldl fwd [([], 0, 0)] = fwd ((lss.take k).foldl fwd [([], 0, 0)]) l := by rw [List.take_add_one, hl, List.foldl_append]; rfl
      have b1 := rb (k + 1) (by omega)
      have b0 := rb k (by omega)
      have hlab := rows_lab (z := 0) (lss.take k) [([], 0, 0)] fun w hw => by rw [List.mem_singleton.mp hw]; exact Nat.le_refl 0
      rw [e1] at b1 ⊢
      generalize (lss.take k).foldl fwd [([], 0, 0)] = rows at b0 b1 hlab ⊢
      have hlab : ∀ w ∈ rows, w.1.length ≤ 1000 := fun w hw => by
        have := hlab w hw
        rw [List.length_take] at this
        omega
      refine ⟨_, gj_name 2 nd, ?_⟩
      refine sj_own 3 (is := []) (M1 := []) nd (el_disp aj_nil) fun o ho => ?_
      refine sj_forW (ds := rows.map encR) (M1 := [(o, [])]) rfl (iw_list (ej_name 1)) (fun i ρ M => ∃ y4 y5 y6 y7, ρ = [some (.d (trE ns lss en)), some (.d (.list (rows.map encR))), some (.d (encL l)), some (.v (.ref o)), y4, y5, y6, y7] ∧ M = [(o, ((fwd (rows.take i) l).map encR).map It.d)]) ⟨_, _, _, _, rfl, rfl⟩ (fun i d ρ M hi hI => ?_) fun ρ M hI => ?_
      · obtain ⟨y4, y5, y6, y7, rfl, rfl⟩ := hI
        rw [List.getElem?_map] at hi
        obtain ⟨w, hw, rfl⟩ := Option.map_eq_some_iff.mp hi
        have il := (List.getElem?_eq_some_iff.mp hw).1
        have fb : (fwd (rows.take (i + 1)) l).length ≤ 60000 := by
          have := fwd_len (rows := rows.take (i + 1)) lz
          rw [List.length_take] at this
          omega
        rw [fwd_take hw] at fb ⊢
        rw [List.length_append] at fb
        generalize fwd (rows.take i) l = B at fb ⊢
        refine ⟨_, gj_tup (ds := [.list (w.1.map .int), .int w.2.1, .int w.2.2]) rfl (gs_cons 4 nd (gs_cons 5 nd (gs_cons 6 nd gs_nil))), ?_⟩
        refine sj_forW (ds := l.map encE) (M1 := [(o, (B.map encR).map It.d)]) rfl (iw_list (ej_name 2)) (fun j ρ M => ∃ y7, ρ = [some (.d (trE ns lss en)), some (.d (.list (rows.map encR))), some (.d (encL l)), some (.v (.ref o)), some (.d (.list (w.1.map .int))), some (dI w.2.1), some (dI w.2.2), y7] ∧ M = [(o, ((B ++ fwF (l.take j) w).map encR).map It.d)]) ⟨_, rfl, by show _ = [(o, ((B ++ []).map encR).map It.d)]; rw [List.append_nil]⟩ (fun j d ρ M hj hI => ?_) fun ρ M hI => ?_
        · obtain ⟨y7, rfl, rfl⟩ := hI
          obtain ⟨e, he, rfl⟩ := enc_at hj
          have sn : fwF (l.take (j + 1)) w = fwF (l.take j) w ++ (if decide (e.1 = w.2.1) = true then [(w.1 ++ [e.2.2.1], e.2.1, w.2.2 + e.2.2.2)] else []) := fil_snoc (fun e : Ed => decide (e.1 = w.2.1)) (fun e => (w.1 ++ [e.2.2.1], e.2.1, w.2.2 + e.2.2.2)) he
          have fj : (fwF (l.take j) w).length ≤ 9 := by
            unfold fwF
            rw [List.length_map]
            exact Nat.le_trans ((List.take_sublist j l).filter _).length_le (lz w.2.1)
          rw [sn]
          generalize fwF (l.take j) w = C at fj ⊢
          refine ⟨_, gj_name 7 nd, ?_⟩
          have ix : ∀ {X : Cx} {N : Ent} {ρ : Rho} {M : Mem} {a c : Expr} {pos : Pos} (n : Nat) {v : Int}, EJ X N ρ M a (.d (encE e)) M → EJ X N ρ M c (dI (n : Int)) M → [e.1, e.2.1, e.2.2.1, e.2.2.2][n]? = some v → PlainIx c → EJ X N ρ M (.Subscript a c pos) (dI v) M := fun n v h1 h2 h3 hp => ej_ixT (ds := [e.1, e.2.1, e.2.2.1, e.2.2.2].map .int) h1 h2 (atI_nat (j := n) (by rw [List.getElem?_map, h3]; rfl)) hp
          refine sj_if (t := decide (e.1 = w.2.1)) (M1 := [(o, ((B ++ C).map encR).map It.d)]) (tj_eqI (n := e.1) (m := w.2.1) (ix 0 (ej_name 7) ej_int rfl fun _ _ => rfl) (ej_name 5)) (fun h => ?_) fun h => ?_
          · rw [if_pos h]
            have wl : w.1.length ≤ 1000 := hlab w (List.mem_of_getElem? hw)
            refine sj_append (p := o) (is := ((B ++ C).map encR).map It.d) (i := .d (encR (w.1 ++ [e.2.2.1], e.2.1, w.2.2 + e.2.2.2))) (M1 := [(o, ((B ++ C).map encR).map It.d)]) (ej_name 3) (List.mem_singleton.mpr rfl) (jt3 (A := .list ((w.1 ++ [e.2.2.1]).map .int)) (B := .int e.2.1) (C := .int (w.2.2 + e.2.2.2)) (ej_is (jc_lr (A := .int e.2.2.1) (L := w.1.map .int) (ej_name 4) (jl1 (A := .int e.2.2.1) (ix 2 (ej_name 7) ej_int rfl fun _ _ => rfl)) (by rw [List.length_map]; exact wl)) (by rw [List.map_append]; rfl)) (ix 1 (ej_name 7) ej_int rfl fun _ _ => rfl) (ej_add (ej_name 6) (ix 3 (ej_name 7) ej_int rfl fun _ _ => rfl))) (List.mem_singleton.mpr rfl) (by rw [List.length_map, List.length_map, List.length_append]; omega) ?_
            rw [mem1_put]
            exact sj_nil (sj_nil ⟨_, rfl, by simp only [List.map_append, List.append_assoc, List.map_cons, List.map_nil]⟩)
          · rw [if_neg (by rw [h]; decide), List.append_nil]
            exact sj_nil (sj_nil ⟨_, rfl, rfl⟩)
        · obtain ⟨y7, rfl, rfl⟩ := hI
          rw [List.length_map, List.take_length]
          exact sj_nil ⟨_, _, _, _, rfl, rfl⟩
      · obtain ⟨y4, y5, y6, y7, rfl, rfl⟩ := hI
        rw [List.length_map, List.take_length]
        refine sj_frzT (Mb := []) 3 (ds := (fwd rows l).map encR) rfl ho ?_
        exact sj_set 1 (i := .d (.list ((fwd rows l).map encR))) (M1 := []) nd (ej_name 3) (sj_nil ⟨_, _, _, _, _, _, rfl, rfl⟩)
    · obtain ⟨y2, y3, y4, y5, y6, y7, rfl, rfl⟩ := hI
      have b1 := rb lss.length (Nat.le_refl _)
      rw [List.take_length] at b1
      rw [ll, List.take_length]
      have fin : ((lss.foldl fwd [([], 0, 0)]).flatMap fun w => if w.2.1 ∈ en then [(w.2.2, w.1)] else []) = (pth lss en 0).map fun p => (p.2, p.1) := by
        have := congrArg (List.map fun p : List Int × Int => (p.2, p.1)) (fwd_pth en lss [([], 0, 0)])
        rw [List.map_flatMap] at this
        have e2 : ((lss.foldl fwd [([], 0, 0)]).flatMap fun w => (if w.2.1 ∈ en then [(w.1, w.2.2)] else []).map fun p : List Int × Int => (p.2, p.1)) = ((lss.foldl fwd [([], 0, 0)]).flatMap fun w => if w.2.1 ∈ en then [(w.2.2, w.1)] else []) := by
          refine congrArg (fun f => (lss.foldl fwd [([], 0, 0)]).flatMap f) (funext fun w => ?_)
          split <;> rfl
        rw [e2] at this
        rw [this, List.flatMap_cons, List.flatMap_nil, List.append_nil, List.map_map]
        refine List.map_congr_left fun p _ => ?_
        show (0 + p.2, [] ++ p.1) = (p.2, p.1)
        rw [Int.zero_add]
        rfl
      generalize lss.foldl fwd [([], 0, 0)] = rows at b1 fin ⊢
      refine sj_ret (i := .d (.list ((srtQ lss en).map encQ))) (ej_el (ds := (srtQ lss en).map encQ) (el_sorted (ds := ((pth lss en 0).map fun p => (p.2, p.1)).map encQ) hr.units T.b_sorted (ej_el (ds := ((pth lss en 0).map fun p => (p.2, p.1)).map encQ) (el_compGF (g := gTup K 3 (gCons (gName 4) (gCons (gName 5) (gCons (gName 6) gNil)))) (own := [("labels", 4), ("room", 5), ("cost", 6)]) (ds := rows.map encR) (M1 := []) (fun k => (((rows.take k).flatMap fun w => if w.2.1 ∈ en then [(w.2.2, w.1)] else []).map encQ).map It.d) (fun _ => []) rfl nd (iw_list (ej_name 1)) (fun _ _ => trivial) rfl rfl (by rw [List.length_map]; omega) (fun k d hk => ?_) (blkOk_by (by kernel_rfl)) ?_) ?_) (q_nod _) (q_alike _) (q_sortable _) (q_depth _)) ?_) ⟨rfl, [], rfl⟩
      · rw [List.getElem?_map] at hk
        obtain ⟨w, hw, rfl⟩ := Option.map_eq_some_iff.mp hk
        have sn : (rows.take (k + 1)).flatMap (fun w : Rw => if w.2.1 ∈ en then [(w.2.2, w.1)] else []) = (rows.take k).flatMap (fun w : Rw => if w.2.1 ∈ en then [(w.2.2, w.1)] else []) ++ (if w.2.1 ∈ en then [(w.2.2, w.1)] else []) := by
          rw [List.take_add_one, hw, List.flatMap_append]
          congr 1
          show [w].flatMap _ = _
          rw [List.flatMap_cons, List.flatMap_nil, List.append_nil]
        have fl : ∀ rs : List Rw, (rs.flatMap fun w : Rw => if w.2.1 ∈ en then [(w.2.2, w.1)] else []).length ≤ rs.length := fun rs => by
          induction rs with
          | nil => exact Nat.le_refl _
          | cons x rs ih =>
            rw [List.flatMap_cons, List.length_append, List.length_cons]
            split
            · show 1 + _ ≤ _; omega
            · show 0 + _ ≤ _; omega
        have f2 := fl (rows.take k)
        rw [List.length_take] at f2
        rw [sn]
        refine ⟨_, decide (w.2.1 ∈ en), [], tgc_of (tgp_tup (ds := [.list (w.1.map .int), .int w.2.1, .int w.2.2]) (tgps_cons (tgp_name 4) (tgps_cons (tgp_name 5) (tgps_cons (tgp_name 6) tgps_nil)))), fun N' s H C cl fp => tj_inT (n := w.2.1) (ns := en) (ej_name 5) (tr2 3 (ej_name 0) ej_int rfl fun _ _ => rfl), by rw [List.length_map, List.length_map]; omega, fun h => ⟨.d (encQ (w.2.2, w.1)), ?_, fun N' s H C cl fp => jt2 (A := .int w.2.2) (B := .list (w.1.map .int)) (ej_name 6) (ej_name 4)⟩, fun h => ⟨?_, rfl⟩⟩
        · rw [if_pos (of_decide_eq_true h), List.map_append, List.map_append]
          rfl
        · rw [if_neg (of_decide_eq_false h), List.append_nil]
      · exact fun _ _ _ _ _ => pg_tup (by rfl) (pgs_cons (pg_name nd rfl (Or.inl rfl)) (pgs_cons (pg_name nd rfl (Or.inl rfl)) (pgs_cons (pg_name nd rfl (Or.inl rfl)) pgs_nil)))
      · rw [List.length_map, List.take_length, fin]
      · rw [srt_enc]
        rfl
end

/-! ### the law's changes -/
def bD (B : Int) (dss : List (List PyData)) : Prop := ∀ ds ∈ dss, ∀ v, PyData.int v ∈ ds → v ≤ B
def bX (B : Int) (x : PyData) : Prop := ∀ l, x = .list l → ∀ y ∈ l, ∀ r, y = .list r → ∀ v, PyData.int v ∈ r → v ≤ B
structure Gd (dss dss' : List (List PyData)) : Prop where
  l1 : dss'.length ≤ 900
  l2 : ∀ ds ∈ dss', ds.length ≤ 901
  bd : ∀ B, 0 ≤ B → bD B dss → bD (B + 1) dss'
def rwD (t : List OR) : List (List PyData) := t.map (·.map oI)
theorem tbD_rw (t : List OR) : tbD t = .list ((rwD t).map .list) := by
  unfold tbD rwD orD
  rw [List.map_map]
  rfl
theorem bX_list {B : Int} {dss : List (List PyData)} (h : bD B dss) : bX B (.list (dss.map .list)) := fun l hl y hy r hr v hv => by
  cases hl
  obtain ⟨ds, hd, e⟩ := List.mem_map.mp hy
  rw [hr] at e
  cases e
  exact h _ hd v hv
theorem bX_of {B : Int} {dss : List (List PyData)} (h : bX B (.list (dss.map .list))) : bD B dss := fun ds hd v hv => h _ rfl _ (List.mem_map_of_mem hd) _ rfl v hv
theorem gd_set {dss : List (List PyData)} {k : Nat} {ds ds' : List PyData} (h1 : dss.length ≤ 900) (h2 : ∀ ds ∈ dss, ds.length ≤ 900) (hk : dss[k]? = some ds) (hl : ds'.length ≤ ds.length + 1) (hb : ∀ B, 0 ≤ B → (∀ v, PyData.int v ∈ ds → v ≤ B) → ∀ v, PyData.int v ∈ ds' → v ≤ B + 1) : Gd dss (dss.set k ds') where
  l1 := by rw [List.length_set]; exact h1
  l2 := fun x hx => by
    rcases List.mem_or_eq_of_mem_set hx with m | rfl
    · have := h2 x m
      omega
    · have := h2 ds (List.mem_of_getElem? hk)
      omega
  bd := fun B b0 hB x hx v hv => by
    rcases List.mem_or_eq_of_mem_set hx with m | rfl
    · have := hB x m v hv
      omega
    · exact hb B b0 (hB ds (List.mem_of_getElem? hk)) v hv
theorem gd_put {dss : List (List PyData)} {k j : Nat} {ds : List PyData} {d : PyData} (h1 : dss.length ≤ 900) (h2 : ∀ ds ∈ dss, ds.length ≤ 900) (hk : dss[k]? = some ds) (hd : ∀ B, 0 ≤ B → (∀ v, PyData.int v ∈ ds → v ≤ B) → ∀ v, d = .int v → v ≤ B + 1) : Gd dss (dss.set k (ds.set j d)) := gd_set h1 h2 hk (by rw [List.length_set]; omega) fun B b0 hB v hv => by
  rcases List.mem_or_eq_of_mem_set hv with m | e
  · have := hB v m
    omega
  · exact hd B b0 hB v e.symm
theorem gd_self {dss : List (List PyData)} (h1 : dss.length ≤ 900) (h2 : ∀ ds ∈ dss, ds.length ≤ 900) : Gd dss dss where
  l1 := h1
  l2 := fun ds h => by have := h2 ds h; omega
  bd := fun B b0 hB x hx v hv => by have := hB x hx v hv; omega
theorem Gd.tame {dss dss' : List (List PyData)} (h : Gd dss dss') : tameT (.list (dss'.map .list)) := fun l hl => by
  cases hl
  refine ⟨by rw [List.length_map]; have := h.l1; omega, fun x hx l2 e => ?_⟩
  obtain ⟨ds, hd, rfl⟩ := List.mem_map.mp hx
  cases e
  have := h.l2 _ hd
  omega
def PreChg : Pre := fun is M => ∃ (a c : Addr) (d : DT) (t : List OR), is = [.v (.ref a), .d (tbD t)] ∧ M = SttD a c d ∧ d.2.1.length ≤ 63 ∧ t ≠ [] ∧ t.length ≤ 800 ∧ ∀ r ∈ t, r ≠ [] ∧ r.length ≤ 800
def CoChg : Co := fun is M i M' => ∃ (a c : Addr) (d d' : DT) (t : List OR) (x : PyData), is = [.v (.ref a), .d (tbD t)] ∧ M = SttD a c d ∧ i = .d x ∧ M' = SttD a c d' ∧ d'.2.1.length ≤ 63 ∧ tameT x ∧ ∀ B, 0 ≤ B → bX B (tbD t) → bX (B + 1) x
theorem sj_key {X : Cx} {N : Ent} {ρ ρ0 : Rho} {M0 : Mem} {A : Type} {st : Stmt} {rest : List Stmt} {Z : Post} (M : A → Mem) (good : A → Prop) (h2 : ∀ x, good x → SJ X N ρ (M x) rest Z) (h1 : (∀ x, good x → SJ X N ρ (M x) rest Z) → SJ X N ρ0 M0 (st :: rest) Z) : SJ X N ρ0 M0 (st :: rest) Z := h1 h2
theorem map_get {α β : Type} {f : α → β} {l : List α} {k : Nat} {x : α} (h : l[k]? = some x) : (l.map f)[k]? = some (f x) := by rw [List.getElem?_map, h]; rfl
section
variable {P : Program} {w : World} {K : PySem.W.Frag} {mg : Str → Option Value} {base : Heap}
theorem d_law_changed (T : Txt K mg) : DefN P w K mg base "_law_changed" 2 PreChg CoChg := by
  obtain ⟨f, fd, F, hm, hb⟩ := T.f_law_changed
  have GD := d_law_draw (P := P) (w := w) (base := base) T
  refine defN_ok F sc_law_changed hm hb (fun is M h => ?_) (fun is M i M' h hB x hx => ?_) fun X hX N is M hF hA => ?_
  · obtain ⟨a, c, d, t, rfl, _⟩ := h
    rfl
  · obtain ⟨a, c, d, d', t, x, rfl, rfl, rfl, rfl, _⟩ := hB
    exact hx
  · obtain ⟨cdv, A, outer, s0, H, E, rfl, hr⟩ := hX
    obtain ⟨a, c, d, t, rfl, rfl, hl, t0, tl, tr⟩ := hA
    have nd := sc_law_changed.nd
    have hr1 : Room 1 (A.deeper (envOfC "_law_changed" (defScope s_law_changed) s0.heap.objs.size f cdv)) := hr
    have trw := tbD_rw t
    obtain ⟨dss, hds⟩ : ∃ dss, rwD t = dss := ⟨_, rfl⟩
    rw [hds] at trw
    have dl : dss.length = t.length := by rw [← hds]; unfold rwD; rw [List.length_map]
    have d1 : dss.length ≤ 900 := by omega
    have d2 : ∀ ds ∈ dss, ds.length ≤ 900 := fun ds h => by
      rw [← hds] at h
      obtain ⟨r, hr, rfl⟩ := List.mem_map.mp h
      have := (tr r hr).2
      rw [List.length_map]
      omega
    have t1 : 0 < t.length := List.length_pos_iff.mpr t0
    rw [trw]
    refine sj_setW1L 2 4 (ds := dss.map .list) (M1 := SttD a c d) (dss.map fun ds => ds.map It.d) rfl nd (iw_list (ej_name 1)) (by rw [List.length_map, List.length_map]) (by rw [List.length_map]; omega) (fun k x hk => ?_) fun qs p hql hq hp => ?_
    · rw [List.getElem?_map] at hk
      obtain ⟨ds, hk2, rfl⟩ := Option.map_eq_some_iff.mp hk
      exact ⟨ds.map It.d, map_get hk2, fun N' s H C cl fp M => el_listL (ds := ds) T.b_list (ej_name 4)⟩
    rw [List.length_map] at hql
    rw [List.append_assoc]
    have lenO : (refsI qs).length = t.length := by unfold refsI; rw [List.length_map, hql, dl]
    have pm : ∀ (d : DT) (rs : List (List Kt.It)), (p, refsI qs) ∈ SttD a c d ++ (rowsM qs rs ++ [(p, refsI qs)]) := fun d rs => List.mem_append_right _ (List.mem_append_right _ (List.mem_singleton.mpr rfl))
    obtain ⟨k, ek, wk, lA⟩ := trn_nat (n := (t.length : Int)) (by omega) d hl
    obtain ⟨dA, hA⟩ : ∃ dA, trn (t.length : Int) d = dA := ⟨_, rfl⟩
    rw [hA] at ek lA
    have hR := getD_lt (d := ([] : OR)) (show k < t.length by omega)
    obtain ⟨r, hr'⟩ : ∃ r, t.getD k [] = r := ⟨_, rfl⟩
    rw [hr'] at hR
    obtain ⟨r0, r1⟩ := tr r (List.mem_of_getElem? hR)
    have rl : 0 < r.length := List.length_pos_iff.mpr r0
    have hds1 : dss[k]? = some (r.map oI) := by rw [← hds]; exact map_get hR
    obtain ⟨ds, hds2⟩ : ∃ ds, r.map oI = ds := ⟨_, rfl⟩
    have dsl : ds.length = r.length := by rw [← hds2, List.length_map]
    rw [hds2] at hds1
    obtain ⟨q, hq1⟩ : ∃ q, qs[k]? = some q := ⟨qs[k]'(by omega), List.getElem?_eq_getElem (by omega)⟩
    refine sj_nd fun hnd => ?_
    refine sj_set 3 (i := dI (k : Int)) (M1 := SttD a c dA ++ (rowsM qs (dss.map fun ds => ds.map It.d) ++ [(p, refsI qs)])) nd (ej_m (ej_is (ej_drawM GD hr1 (d := d) (ej_name 0) (ej_is (ej_lenO (o := p) (is := refsI qs) T.b_len (ej_name 2) (pm _ _)) (by rw [lenO])) (by omega) (by omega) hl) (by rw [hA, ek])) (by rw [hA])) ?_
    refine sj_set 4 (i := .v (.ref q)) (M1 := SttD a c dA ++ (rowsM qs (dss.map fun ds => ds.map It.d) ++ [(p, refsI qs)])) nd (ej_ixO (p := p) (is := refsI qs) (ej_name 2) (ej_name 3) (pm _ _) (refs_at hq1)) ?_
    have qm : ∀ d : DT, (q, ds.map It.d) ∈ SttD a c d ++ (rowsM qs (dss.map fun ds => ds.map It.d) ++ [(p, refsI qs)]) := fun d => List.mem_append_right _ (List.mem_append_left _ (rows_mem hq1 (map_get hds1)))
    obtain ⟨j, ej, wj, lB⟩ := trn_nat (n := (r.length : Int)) (by omega) dA lA
    obtain ⟨dB, hB⟩ : ∃ dB, trn (r.length : Int) dA = dB := ⟨_, rfl⟩
    rw [hB] at ej lB
    refine sj_set 5 (i := dI (j : Int)) (M1 := SttD a c dB ++ (rowsM qs (dss.map fun ds => ds.map It.d) ++ [(p, refsI qs)])) nd (ej_m (ej_is (ej_drawM GD hr1 (d := dA) (ej_name 0) (ej_is (ej_lenO (o := q) (is := ds.map It.d) T.b_len (ej_name 4) (qm _)) (by rw [List.length_map, dsl])) (by omega) (by omega) lA) (by rw [hB, ej])) (by rw [hB])) ?_
    obtain ⟨x, ex, wx, lC⟩ := trn_nat (n := 9) (by decide) dB lB
    obtain ⟨dC, hC⟩ : ∃ dC, trn 9 dB = dC := ⟨_, rfl⟩
    rw [hC] at ex lC
    refine sj_set 6 (i := dI (x : Int)) (M1 := SttD a c dC ++ (rowsM qs (dss.map fun ds => ds.map It.d) ++ [(p, refsI qs)])) nd (ej_m (ej_is (ej_drawM GD hr1 (d := dB) (ej_name 0) ej_int (by decide) (by decide) lB) (by rw [hC, ex])) (by rw [hC])) ?_
    have hro := getD_lt (d := (none : Option Int)) (show j < r.length by omega)
    obtain ⟨o, ho⟩ : ∃ o, r.getD j none = o := ⟨_, rfl⟩
    rw [ho] at hro
    have hdo : ds[j]? = some (oI o) := by rw [← hds2]; exact map_get hro
    have at1 : atI (ds.map It.d) (j : Int) = some (.d (oI o)) := atI_nat (j := j) (map_get hdo)
    have jn : j < (ds.map It.d).length := by rw [List.length_map]; omega
    have putE : ∀ (dZ : DT) (ds' : List PyData), Mem.put (SttD a c dZ ++ (rowsM qs (dss.map fun ds => ds.map It.d) ++ [(p, refsI qs)])) q (ds'.map It.d) = SttD a c dZ ++ (rowsM qs ((dss.set k ds').map fun ds => ds.map It.d) ++ [(p, refsI qs)]) := fun dZ ds' => by
      have hnd' : ((SttD a c dZ ++ rowsM qs (dss.map fun ds => ds.map It.d) ++ [(p, refsI qs)]).map Prod.fst).Nodup := by
        rw [List.append_assoc, List.map_append, sttD_fst a c dZ d, ← List.map_append]
        exact hnd
      rw [← List.append_assoc, rows_putM (t := k) hnd' (by rw [List.length_map]; exact hql) hq1, List.append_assoc, List.map_set]
    have setE : ∀ d : PyData, (ds.map It.d).set j (.d d) = (ds.set j d).map It.d := fun d => by rw [List.map_set]
    refine sj_key (A := DT × List (List PyData)) (ρ := [some (.v (.ref a)), some (.d (.list (dss.map .list))), some (.v (.ref p)), some (dI (k : Int)), some (.v (.ref q)), some (dI (j : Int)), some (dI (x : Int))]) (fun z => SttD a c z.1 ++ (rowsM qs (z.2.map fun ds => ds.map It.d) ++ [(p, refsI qs)])) (fun z => z.1.2.1.length ≤ 63 ∧ z.2.length = dss.length ∧ Gd dss z.2) (fun z hz => ?_) fun key0 => ?_
    · obtain ⟨dZ, dss'⟩ := z
      obtain ⟨hZ, el, hg⟩ := hz
      dsimp only at hZ el hg ⊢
      rw [← List.append_assoc]
      refine sj_freezeRows (by omega) hq ?_
      refine sj_frzT (Mb := SttD a c dZ) 2 (ds := dss'.map .list) rfl hp ?_
      refine sj_ret (i := .d (.list (dss'.map .list))) (M1 := SttD a c dZ) (ej_name 2) ?_
      refine ⟨SttD a c dZ, ⟨a, c, d, dZ, t, _, by rw [trw], rfl, rfl, rfl, hZ, hg.tame, fun B b0 hB => ?_⟩, fun x hx => hx, fun h => h⟩
      rw [trw] at hB
      exact bX_list (hg.bd B b0 (bX_of hB))
    · have key := fun (dZ : DT) (dss' : List (List PyData)) (h1 : dZ.2.1.length ≤ 63) (h2 : dss'.length = dss.length) (h3 : Gd dss dss') => key0 (dZ, dss') ⟨h1, h2, h3⟩
      refine sj_if (t := decide ((x : Int) < 4) && !decide (tyD (oI o) = "NoneType")) (M1 := SttD a c dC ++ (rowsM qs (dss.map fun ds => ds.map It.d) ++ [(p, refsI qs)])) (tj_w (wj_and (t := decide ((x : Int) < 4)) (u := !decide (tyD (oI o) = "NoneType")) (tj_lt (n := (x : Int)) (m := 4) (ej_name 6) ej_int) fun _ => wj_and1 (tj_notNo (d := oI o) (ej_ixO (p := q) (is := ds.map It.d) (ej_name 4) (ej_name 5) (qm _) at1) ej_non))) (fun h => ?_) fun h => ?_
      · cases o with
        | none => exact nomatch (Bool.and_eq_true_iff.mp h).2
        | some v =>
          have x4 := of_decide_eq_true (Bool.and_eq_true_iff.mp h).1
          obtain ⟨y, hy, y1⟩ : ∃ y : Int, atI [PyData.int 1, .int (-1), .int (-2), .int (-100)] (x : Int) = some (.int y) ∧ y ≤ 1 := by
            match x, x4 with
            | 0, _ => exact ⟨1, rfl, by decide⟩
            | 1, _ => exact ⟨-1, rfl, by decide⟩
            | 2, _ => exact ⟨-2, rfl, by decide⟩
            | 3, _ => exact ⟨-100, rfl, by decide⟩
            | n + 4, h => omega
          refine sj_setO (p := q) (is := ds.map It.d) (n := j) (i := dI (v + y)) (M1 := SttD a c dC ++ (rowsM qs (dss.map fun ds => ds.map It.d) ++ [(p, refsI qs)])) (M2 := SttD a c dC ++ (rowsM qs (dss.map fun ds => ds.map It.d) ++ [(p, refsI qs)])) (ej_add (n := v) (m := y) (ej_ixO (p := q) (is := ds.map It.d) (ej_name 4) (ej_name 5) (qm _) at1) (ej_ixL (ds := [.int 1, .int (-1), .int (-2), .int (-100)]) (jl4 (A := .int 1) (B := .int (-1)) (C := .int (-2)) (D := .int (-100)) ej_int (ej_neg ej_int) (ej_neg ej_int) (ej_neg ej_int)) (ej_name 6) hy)) (ej_name 4) (ej_name 5) (qm _) jn ?_
          rw [setE, putE]
          exact sj_nil (key dC _ lC (by rw [List.length_set]) (gd_put d1 d2 hds1 fun B b0 hB w hw => by
            cases hw
            have := hB v (List.mem_of_getElem? hdo)
            omega))
      · have nxt := fun (dss' : List (List PyData)) (e : dss'.length = dss.length) (g : Gd dss dss') => key dC dss' lC e g
        refine sj_if (t := decide ((3 : Int) < (x : Int)) && decide ((x : Int) < 6)) (M1 := SttD a c dC ++ (rowsM qs (dss.map fun ds => ds.map It.d) ++ [(p, refsI qs)])) (tj_chainS (n := 3) (m := (x : Int)) (l := 6) ej_int (ej_name 6) ej_int) (fun h => ?_) fun h => ?_
        · have x4 := of_decide_eq_true (Bool.and_eq_true_iff.mp h).1
          have x5 := of_decide_eq_true (Bool.and_eq_true_iff.mp h).2
          obtain ⟨y, hy, y1⟩ : ∃ y : PyData, atI [PyData.none, .int 0] ((x : Int) - 4) = some y ∧ ∀ v, y = .int v → v ≤ 0 := by
            rcases show x = 4 ∨ x = 5 by omega with rfl | rfl
            · exact ⟨.none, rfl, fun v e => nomatch e⟩
            · exact ⟨.int 0, rfl, fun v e => by cases e; exact Int.le_refl _⟩
          refine sj_setO (p := q) (is := ds.map It.d) (n := j) (i := .d y) (M1 := SttD a c dC ++ (rowsM qs (dss.map fun ds => ds.map It.d) ++ [(p, refsI qs)])) (M2 := SttD a c dC ++ (rowsM qs (dss.map fun ds => ds.map It.d) ++ [(p, refsI qs)])) (ej_ixL (ds := [.none, .int 0]) (n := (x : Int) - 4) (jl2 (A := .none) (B := .int 0) ej_non ej_int) (ej_sub (n := (x : Int)) (m := 4) (ej_name 6) ej_int) hy) (ej_name 4) (ej_name 5) (qm _) jn ?_
          rw [setE, putE]
          exact sj_nil (sj_nil (nxt _ (by rw [List.length_set]) (gd_put d1 d2 hds1 fun B b0 hB w hw => by
            have := y1 w hw
            omega)))
        · refine sj_if (t := decide ((x : Int) = 6)) (M1 := SttD a c dC ++ (rowsM qs (dss.map fun ds => ds.map It.d) ++ [(p, refsI qs)])) (tj_eqI (n := (x : Int)) (m := 6) (ej_name 6) ej_int) (fun h => ?_) fun h => ?_
          · refine sj_append (p := q) (is := ds.map It.d) (is0 := ds.map It.d) (i := dI 0) (M1 := SttD a c dC ++ (rowsM qs (dss.map fun ds => ds.map It.d) ++ [(p, refsI qs)])) (ej_name 4) (qm _) ej_int (qm _) (by rw [List.length_map]; omega) ?_
            rw [show ds.map It.d ++ [dI 0] = (ds ++ [PyData.int 0]).map It.d by rw [List.map_append]; rfl, putE]
            exact sj_nil (sj_nil (sj_nil (nxt _ (by rw [List.length_set]) (gd_set d1 d2 hds1 (by rw [List.length_append]; exact Nat.le_refl _) fun B b0 hB v hv => by
              rcases List.mem_append.mp hv with m | m
              · have := hB v m
                omega
              · cases List.mem_singleton.mp m
                omega))))
          · refine sj_if (t := decide ((x : Int) = 7)) (M1 := SttD a c dC ++ (rowsM qs (dss.map fun ds => ds.map It.d) ++ [(p, refsI qs)])) (tj_eqI (n := (x : Int)) (m := 7) (ej_name 6) ej_int) (fun h => ?_) fun h => ?_
            · obtain ⟨z, ez, wz, lD⟩ := trn_nat (n := 3) (by decide) dC lC
              obtain ⟨dD, hD⟩ : ∃ dD, trn 3 dC = dD := ⟨_, rfl⟩
              rw [hD] at ez lD
              obtain ⟨y, hy, y1⟩ : ∃ y : PyData, atI [PyData.bool false, .str "0", .tuple [.int 0]] (z : Int) = some y ∧ ∀ v, y ≠ .int v := by
                rcases show z = 0 ∨ z = 1 ∨ z = 2 by omega with rfl | rfl | rfl
                · exact ⟨_, rfl, fun v e => nomatch e⟩
                · exact ⟨_, rfl, fun v e => nomatch e⟩
                · exact ⟨_, rfl, fun v e => nomatch e⟩
              refine sj_setO (p := q) (is := ds.map It.d) (n := j) (i := .d y) (M1 := SttD a c dD ++ (rowsM qs (dss.map fun ds => ds.map It.d) ++ [(p, refsI qs)])) (M2 := SttD a c dD ++ (rowsM qs (dss.map fun ds => ds.map It.d) ++ [(p, refsI qs)])) (ej_ixL (ds := [.bool false, .str "0", .tuple [.int 0]]) (n := (z : Int)) (jr_list (S := [.bool false, .str "0", .tuple [.int 0]]) (jd_cons (A := .bool false) ej_bl (jd_cons (A := .str "0") ej_str (jd_cons (A := .tuple [.int 0]) (jt1 (A := .int 0) ej_int) jd_nil))) (by show 3 ≤ 1000; decide)) (ej_m (ej_is (ej_drawM GD hr1 (d := dC) (ej_name 0) ej_int (by decide) (by decide) lC) (by rw [hD, ez])) (by rw [hD])) hy) (ej_name 4) (ej_name 5) (qm _) jn ?_
              rw [setE, putE]
              exact sj_nil (sj_nil (sj_nil (sj_nil (key dD _ lD (by rw [List.length_set]) (gd_put d1 d2 hds1 fun B b0 hB w hw => absurd hw (y1 w))))))
            · refine sj_if (t := decide ((x : Int) = 8)) (M1 := SttD a c dC ++ (rowsM qs (dss.map fun ds => ds.map It.d) ++ [(p, refsI qs)])) (tj_eqI (n := (x : Int)) (m := 8) (ej_name 6) ej_int) (fun h => ?_) fun h => ?_
              · rw [← List.append_assoc]
                refine sj_freezeRows (by omega) hq ?_
                refine sj_frzT (Mb := SttD a c dC) 2 (ds := dss.map .list) rfl hp ?_
                obtain ⟨z, ez, wz, lD⟩ := trn_nat (n := 4) (by decide) dC lC
                obtain ⟨dD, hD⟩ : ∃ dD, trn 4 dC = dD := ⟨_, rfl⟩
                rw [hD] at ez lD
                obtain ⟨L, hL⟩ : ∃ L, dss.map PyData.list = L := ⟨_, rfl⟩
                have Ll : L.length = t.length := by rw [← hL, List.length_map, dl]
                have Lm : ∀ x ∈ L, ∀ l2, x = .list l2 → l2.length ≤ 900 := fun x hx l2 e => by
                  rw [← hL] at hx
                  obtain ⟨ds, hd, e2⟩ := List.mem_map.mp hx
                  rw [e] at e2
                  cases e2
                  exact d2 _ hd
                have Lb : ∀ B, bX B (tbD t) → bX B (.list L) := fun B h => by rw [trw, hL] at h; exact h
                rw [hL]
                obtain ⟨y, hy, y1, y2⟩ : ∃ y : PyData, atI [PyData.list (L ++ [.list [.int 0]]), .list (L.drop 1), .tuple L, .none] (z : Int) = some y ∧ tameT y ∧ ∀ B, 0 ≤ B → bX B (tbD t) → bX (B + 1) y := by
                  rcases show z = 0 ∨ z = 1 ∨ z = 2 ∨ z = 3 by omega with rfl | rfl | rfl | rfl
                  · refine ⟨_, rfl, fun l e => ?_, fun B b0 hB l e w hw r hr v hv => ?_⟩
                    · cases e
                      refine ⟨by rw [List.length_append]; show _ + 1 ≤ 1000; omega, fun x hx l2 e => ?_⟩
                      rcases List.mem_append.mp hx with m | m
                      · have := Lm x m l2 e
                        omega
                      · rw [List.mem_singleton.mp m] at e
                        cases e
                        decide
                    · cases e
                      rcases List.mem_append.mp hw with m | m
                      · have := Lb B hB L rfl w m r hr v hv
                        omega
                      · rw [List.mem_singleton.mp m] at hr
                        cases hr
                        cases List.mem_singleton.mp hv
                        omega
                  · refine ⟨_, rfl, fun l e => ?_, fun B b0 hB l e w hw r hr v hv => ?_⟩
                    · cases e
                      refine ⟨by rw [List.length_drop]; omega, fun x hx l2 e => ?_⟩
                      have := Lm x (List.mem_of_mem_drop hx) l2 e
                      omega
                    · cases e
                      have := Lb B hB L rfl w (List.mem_of_mem_drop hw) r hr v hv
                      omega
                  · exact ⟨_, rfl, (fun l e => nomatch e), (fun B b0 hB l e => nomatch e)⟩
                  · exact ⟨_, rfl, (fun l e => nomatch e), (fun B b0 hB l e => nomatch e)⟩
                refine sj_ret (i := .d y) (M1 := SttD a c dD) (ej_ixL (ds := [.list (L ++ [.list [.int 0]]), .list (L.drop 1), .tuple L, .none]) (n := (z : Int)) (jr_list (S := [.list (L ++ [.list [.int 0]]), .list (L.drop 1), .tuple L, .none]) (jd_cons (A := .list (L ++ [.list [.int 0]])) (jr_cat (R := L) (S := [.list [.int 0]]) (ej_name 2) (jd_cons (A := .list [.int 0]) (jl1 (A := .int 0) ej_int) jd_nil) (by show 1 ≤ 1000; decide) (by omega)) (jd_cons (A := .list (L.drop 1)) (ej_el (ds := L.drop 1) (el_slLfrom (ds := L) (l := ((1 : Nat) : Int)) (ej_name 2) (ej_is ej_int rfl)) (by rw [cut_from (by omega)])) (jd_cons (A := .tuple L) (ej_tupleD T.b_tuple (ds := L) (ej_name 2)) (jd_cons (A := .none) ej_non jd_nil)))) (by show 4 ≤ 1000; decide)) (ej_m (ej_is (ej_drawD GD hr1 (d := dC) (ej_name 0) ej_int (by decide) (by decide) lC) (by rw [hD, ez])) (by rw [hD])) hy) ?_
                exact ⟨SttD a c dD, ⟨a, c, d, dD, t, y, by rw [trw, hL], rfl, rfl, rfl, lD, y1, y2⟩, fun x hx => hx, fun h => h⟩
              · exact sj_nil (sj_nil (sj_nil (sj_nil (sj_nil (nxt _ rfl (gd_self d1 d2))))))
end

/-! ### what the law compares, and how large the values are -/
theorem eqvB (a b : Bool) : PyData.eqv (.bool a) (.bool b) = decide (a = b) := by cases a <;> cases b <;> rfl
theorem pn_oI {n : Nat} {o : Option Int} : PN n (oI o) := by
  cases o with
  | none => exact .non
  | some v => exact .int v
theorem pn_tb (t : List OR) : PN 2 (tbD t) := .lst _ fun x hx => by
  obtain ⟨r, _, rfl⟩ := List.mem_map.mp hx
  exact .lst _ fun y hy => by
    obtain ⟨o, _, rfl⟩ := List.mem_map.mp hy
    exact pn_oI
def bR (b : Int) (row : OR) : Prop := ∀ v, some v ∈ row → v ≤ b
theorem rgD_mem {row : OR} {r v : Int} (h : rgD row r = some v) : some v ∈ row := by
  unfold rgD at h
  rw [List.getD_eq_getElem?_getD] at h
  cases e : row[r.toNat]? with
  | none => rw [e] at h; cases h
  | some o =>
    rw [e] at h
    have h : o = some v := h
    rw [h] at e
    exact List.mem_of_getElem? e
theorem bR_set {b : Int} {row : OR} {k : Nat} {v : Int} (h : bR b row) (hv : v ≤ b) : bR b (row.set k (some v)) := fun x hx => by
  rcases List.mem_or_eq_of_mem_set hx with m | e
  · exact h x m
  · cases e
    exact hv
theorem rbS_bnd {b z : Int} {row beh : OR} {e : Ed} (hr : bR b row) (he : e.2.2.2 ≤ z) (hb : bR (b + z) beh) : bR (b + z) (rbS row beh e) := by
  unfold rbS
  cases h : rgD row e.1 with
  | none => exact hb
  | some c =>
    have := hr c (rgD_mem h)
    dsimp only
    cases h2 : rgD beh e.2.1 with
    | none => exact bR_set hb (by omega)
    | some v =>
      dsimp only
      by_cases h3 : c + e.2.2.2 < v
      · rw [if_pos h3]
        exact bR_set hb (by omega)
      · rw [if_neg h3]
        exact hb
theorem rbL_bnd {b z : Int} {row : OR} (hr : bR b row) : ∀ (l : List Ed) (beh : OR), (∀ e ∈ l, e.2.2.2 ≤ z) → bR (b + z) beh → bR (b + z) (l.foldl (rbS row) beh)
  | [], beh, _, hb => hb
  | e :: l, beh, he, hb => by
    rw [List.foldl_cons]
    exact rbL_bnd hr l _ (fun e' m => he e' (List.mem_cons_of_mem _ m)) (rbS_bnd hr (he e List.mem_cons_self) hb)
theorem ptl_bnd {z : Int} (z0 : 0 ≤ z) : ∀ (ls : List (List Ed)) (ws : List Int) (row : OR) (b : Int), (∀ l ∈ ls, ∀ e ∈ l, e.2.2.2 ≤ z) → bR b row → ∀ r ∈ ptl row ws ls, bR (b + ls.length * z) r
  | [], ws, row, b, _, hr, r, hm => by
    have e : ptl row ws [] = [row] := by cases ws <;> rfl
    rw [e] at hm
    rw [List.mem_singleton.mp hm]
    intro v hv
    have := hr v hv
    simp only [List.length_nil]
    omega
  | l :: ls, [], row, b, _, hr, r, hm => by
    rw [List.mem_singleton.mp hm]
    intro v hv
    have := hr v hv
    have : 0 ≤ ((l :: ls).length : Int) * z := Int.mul_nonneg (by omega) z0
    omega
  | l :: ls, w :: ws, row, b, he, hr, r, hm => by
    have e2 : ((l :: ls).length : Int) * z = (ls.length : Int) * z + z := by
      rw [List.length_cons, Int.natCast_add, Int.add_mul]
      omega
    rcases List.mem_cons.mp hm with rfl | hm
    · intro v hv
      have := hr v hv
      have : 0 ≤ (ls.length : Int) * z := Int.mul_nonneg (by omega) z0
      omega
    · have := ptl_bnd z0 ls ws (rbF row l w) (b + z) (fun l' m => he l' (List.mem_cons_of_mem _ m)) (rbL_bnd hr l _ (he l List.mem_cons_self) fun v hv => by
        cases (List.eq_of_mem_replicate hv)) r hm
      rw [e2]
      intro v hv
      have := this v hv
      omega
theorem potT_bnd {ns : List Int} {lss : List (List Ed)} {en : List Int} (h : TrOk ns lss en) : bX 73786976294838206464 (tbD (potT ns lss)) := by
  have hl : ∀ l ∈ lss, ∀ e ∈ l, e.2.2.2 ≤ 18446744073709551616 := fun l hl e he => by
    obtain ⟨i, hi⟩ := List.mem_iff_getElem?.mp hl
    have := (h.ls i l hi).rng e he
    omega
  have b0 : bR 0 (row0 (ns.headD 0)) := fun v hv => by
    rcases List.mem_cons.mp hv with e | m
    · cases e
      exact Int.le_refl _
    · cases List.eq_of_mem_replicate m
  have hp := ptl_bnd (by decide) lss (ns.drop 1) (row0 (ns.headD 0)) 0 hl b0
  have h4 := h.l4
  rw [tbD_rw]
  refine bX_list fun ds hd v hv => ?_
  obtain ⟨r, hr, rfl⟩ := List.mem_map.mp hd
  obtain ⟨o, ho, e⟩ := List.mem_map.mp hv
  cases o with
  | none => cases e
  | some u =>
    cases e
    have := hp r hr v ho
    omega
theorem bX_mono {a b : Int} {x : PyData} (h : bX a x) (l : a ≤ b) : bX b x := fun l1 e y hy r hr v hv => Int.le_trans (h l1 e y hy r hr v hv) l
theorem bX_end {B : Int} {t : List OR} (h : bX B (tbD t)) (t0 : t ≠ []) {x v : Int} (hv : endV t x = some v) : v ≤ B := by
  have m := rgD_mem hv
  have ml : t.getLastD [] ∈ t := by
    rw [List.getLastD_eq_getLast?, List.getLast?_eq_some_getLast t0]
    exact List.getLast_mem t0
  exact h _ rfl _ (List.mem_map_of_mem ml) _ rfl v (List.mem_map.mpr ⟨_, m, rfl⟩)
theorem minO_none : ∀ {l : List Int}, minO l = none → l = []
  | [], _ => rfl
  | x :: xs, h => by
    unfold minO at h
    cases e : minO xs with
    | none => rw [e] at h; cases h
    | some m => rw [e] at h; cases h
theorem shp_sz {b : Int} : ∀ {ns : List Int} {t : List OR}, shpB ns t = true → (∀ n ∈ ns, 1 ≤ n ∧ n ≤ b) → ∀ r ∈ t, r ≠ [] ∧ (r.length : Int) ≤ b
  | [], [], _, _, r, hr => absurd hr List.not_mem_nil
  | w :: ws, row :: t, h, hb, r, hr => by
    have h : (decide ((row.length : Int) = w) && shpB ws t) = true := h
    obtain ⟨h1, h2⟩ := Bool.and_eq_true_iff.mp h
    have h1 := of_decide_eq_true h1
    rcases List.mem_cons.mp hr with rfl | hr
    · have := hb w List.mem_cons_self
      exact ⟨fun e => by rw [e] at h1; simp at h1; omega, by omega⟩
    · exact shp_sz h2 (fun n m => hb n (List.mem_cons_of_mem _ m)) r hr
  | [], _ :: _, h, _, _, _ => by cases h
  | _ :: _, [], h, _, _, _ => by cases h
theorem right_some {ns : List Int} {lss : List (List Ed)} {x : PyData} (h : rightD ns lss x = true) : ∃ t, x = tbD t ∧ rgtB ns lss t = true := by
  unfold rightD at h
  cases e : deTb x with
  | none => rw [e] at h; cases h
  | some t => rw [e] at h; exact ⟨t, deTb_eq e, h⟩
theorem isTb_some {ns : List Int} {x : PyData} (h : isTbD x ns = true) : ∃ t, x = tbD t ∧ shpB ns t = true := by
  unfold isTbD at h
  cases e : deTb x with
  | none => rw [e] at h; cases h
  | some t => rw [e] at h; exact ⟨t, deTb_eq e, h⟩
theorem sj_keyR {X : Cx} {N : Ent} {ρ0 : Rho} {M0 : Mem} {A : Type} {st : Stmt} {rest : List Stmt} {Z : Post} (ρ : A → Rho) (M : A → Mem) (h2 : ∀ x, SJ X N (ρ x) (M x) rest Z) (h1 : (∀ x, SJ X N (ρ x) (M x) rest Z) → SJ X N ρ0 M0 (st :: rest) Z) : SJ X N ρ0 M0 (st :: rest) Z := h1 h2
theorem min_of (E : List Int) (o : Option Int) (c : Int) (h : minO E = o) (hb : ∀ y ∈ E, y ≤ c) : ∃ mm, mm ∈ E ++ [c] ∧ (∀ y ∈ E ++ [c], mm ≤ y) ∧ ((o = some mm ∧ 0 < E.length) ∨ (o = none ∧ E = [])) := by
  have k := minO_ok E
  rw [h] at k
  cases o with
  | none =>
    have e := minO_none h
    subst e
    exact ⟨c, List.mem_singleton.mpr rfl, fun y hy => by rw [List.mem_singleton.mp hy]; exact Int.le_refl _, .inr ⟨rfl, rfl⟩⟩
  | some m =>
    refine ⟨m, List.mem_append_left _ k.1, fun y hy => ?_, .inl ⟨rfl, List.length_pos_of_mem k.1⟩⟩
    rcases List.mem_append.mp hy with hy | hy
    · exact k.2 y hy
    · rw [List.mem_singleton.mp hy]
      exact hb m k.1
theorem fm_snoc {f : Int → Option Int} {en : List Int} {k : Nat} {x : Int} (h : en[k]? = some x) : (en.take (k + 1)).filterMap f = (en.take k).filterMap f ++ (match f x with | none => [] | some v => [v]) := by
  rw [List.take_add_one, h, List.filterMap_append]
  congr 1
  show List.filterMap _ [x] = _
  rw [List.filterMap_cons]
  cases f x <;> rfl

section
variable {P : Program} {w : World} {K : PySem.W.Frag} {mg : Str → Option Value} {base : Heap}
theorem ok_law {f : Addr} {fd : FuncData} (F : Fun K "law" "law" s_law f fd) (T : Txt K mg) : FnOk P w K mg base CX0 8 f fd ["script"] (spLaw K) := by
  have GS := d_law_state (P := P) (w := w) (base := base) T
  have GD := d_law_draw (P := P) (w := w) (base := base) T
  have GT := d_law_trellis (P := P) (w := w) (base := base) T
  have GP := d_law_paths (P := P) (w := w) (base := base) T
  have GO := d_potentials_of (P := P) (w := w) (base := base) T
  have GG := d_law_greatest (P := P) (w := w) (base := base) T
  have GA := d_are_right (P := P) (w := w) (base := base) T
  have GR := d_law_right (P := P) (w := w) (base := base) T
  have GB := d_law_is_table (P := P) (w := w) (base := base) T
  have GE := d_least_end (P := P) (w := w) (base := base) T
  have GC := d_law_changed (P := P) (w := w) (base := base) T
  refine law_ok F sc_law fun X hX N a ns hF hl => ?_
  obtain ⟨cdv, A, outer, sh, Hh, E, rfl, hr⟩ := hX
  have nd := sc_law.nd
  have hrm : ∀ k ≤ 7, Room k (A.deeper (envOfC "law" (defScope s_law) sh.heap.objs.size f cdv)) := fun k hk => hr.mono hk
  have hr1 := hrm 1 (by decide)
  have hr2 := hrm 2 (by decide)
  have hr4 := hrm 4 (by decide)
  refine sj_setN (Mc := []) (Mr := []) 1 nd GS hr1 (aj1 (ej_name 0)) rfl ⟨rfl, a, ns, rfl, hl⟩ fun i M' hB => ?_
  obtain ⟨a', ns', p, c, hsc, rfl, rfl, hl2⟩ := hB
  have hl0 : (ns'.map absI).length ≤ 63 := by rw [List.length_map]; exact hl2
  generalize ns'.map absI = cs0 at hl0 ⊢
  generalize seedOf ns' + 1 = s0
  rw [List.append_nil]
  refine sj_setN (Mc := Stt p c cs0 s0) (Mr := []) 2 nd GT hr2 (aj1 (ej_name 1)) (List.append_nil _).symm ⟨p, c, cs0, s0, rfl, rfl, hl0⟩ fun i M' hB => ?_
  obtain ⟨p', c', cs', s', cs1, s1, tn, lss, en, e1, e2, rfl, rfl, ok, l1⟩ := hB
  have ec : p' = p ∧ c' = c := by
    have h := congrArg (List.map Prod.fst) e2
    simp [Stt] at h
    exact ⟨h.1.symm, h.2.symm⟩
  obtain ⟨rfl, rfl⟩ := ec
  rw [List.append_nil, show Stt p' c' cs1 s1 = SttD p' c' (0, cs1, s1) from rfl]
  have lA : ((0, cs1, s1) : DT).2.1.length ≤ 63 := l1
  generalize ((0, cs1, s1) : DT) = dA at lA ⊢
  have tw := ok.w
  have l4 := ok.l4
  have h9 : ∀ l ∈ lss, l.length ≤ 9 := fun l hl => by
    obtain ⟨i, hi⟩ := List.mem_iff_getElem?.mp hl
    exact (ok.ls i l hi).len
  have hasc := tw.wf.asc
  have hlen := tw.wf.len
  have p9 : ∀ l ∈ lss, l.length ≤ 500 ∧ ∀ r : Int, (l.filter fun e => decide (e.1 = r)).length ≤ 9 := fun l hl => ⟨tw.lz l hl, fun r => Nat.le_trans (List.length_filter_le _ _) (h9 l hl)⟩
  have n1000 : ∀ n ∈ tn, n ≤ 1000 := fun n hn => by have := ok.wd n hn; omega
  have tr3 : ∀ {X : Cx} {ρ : Rho} {M : Mem} {N : Ent} {a c : Expr} {pos : Pos}, EJ X N ρ M a (.d (trE tn lss en)) M → EJ X N ρ M c (dI 3) M → PlainIx c → EJ X N ρ M (.Subscript a c pos) (.d (.tuple (en.map .int))) M := fun h1 h2 hp => ej_ixT (ds := [.str "trellis", .tuple (tn.map .int), .list (lss.map encL), .tuple (en.map .int)]) h1 h2 (atI_nat (j := 3) rfl) hp
  have hpb := potT_bnd ok
  have hpr := potT_ok tw.wf
  have hps : shpB tn (potT tn lss) = true := by
    unfold rgtB at hpr
    exact (Bool.and_eq_true_iff.mp hpr).1
  have hsz := fun t (h : shpB tn t = true) => shp_sz (b := 3) h (fun n hn => by have := ok.wd n hn; omega)
  have tame_of : ∀ t, shpB tn t = true → tameT (tbD t) := fun t h l e => by
    cases e
    have tl := shp_len h
    refine ⟨by rw [List.length_map]; omega, fun x hx l2 e => ?_⟩
    obtain ⟨r, hr, rfl⟩ := List.mem_map.mp hx
    cases e
    have := (hsz t h r hr).2
    rw [List.length_map]
    omega
  have prechg : ∀ t (d : DT), shpB tn t = true → d.2.1.length ≤ 63 → PreChg [.v (.ref p'), .d (tbD t)] (SttD p' c' d) := fun t d h hd => by
    have tl := shp_len h
    refine ⟨p', c', d, t, rfl, rfl, hd, fun e => ?_, by omega, fun r hr => ?_⟩
    · rw [e] at tl
      simp at tl
      omega
    · have := hsz t h r hr
      exact ⟨this.1, by omega⟩
  have sttE : ∀ {a b : Addr} {x : DT} {y : DT}, SttD a b x = SttD p' c' y → a = p' ∧ b = c' := fun h => by
    have h := congrArg (List.map Prod.fst) h
    simp [SttD, Stt] at h
    exact ⟨h.1, h.2⟩
  obtain ⟨B0, hB0⟩ : ∃ B0 : Int, 73786976294838206464 = B0 := ⟨_, rfl⟩
  rw [hB0] at hpb
  have b30 : B0 + 2 ≤ 10 ^ 30 := by rw [← hB0]; decide
  have b00 : 0 ≤ B0 := by rw [← hB0]; decide
  clear hB0
  have rB : rightD tn lss (tbD (potT tn lss)) = true := by
    unfold rightD
    rw [deTb_tb]
    exact hpr
  have hle := fun t (h : rgtB tn lss t = true) => rgt_le (en := en) (t := t) hlen h
  obtain ⟨pt, hpt⟩ : ∃ pt, potT tn lss = pt := ⟨_, rfl⟩
  rw [hpt] at hpb hps rB
  refine sj_set 3 (i := .d (tbD pt)) (M1 := SttD p' c' dA) nd (ej_is (ej_callP GO hr2 (aj1 (ej_name 2)) ⟨rfl, rfl, tn, lss, en, rfl, tw, n1000, rfl⟩) (by rw [hpt])) ?_
  refine sj_if (t := false) (M1 := SttD p' c' dA) (tj_is (tj_w (wj_or (t := !PyData.eqv (tbD pt) (tbD pt)) (u := !decide (true = true)) (tj_neD hr.units (d := tbD pt) (d' := tbD pt) (ej_name 3) (ej_is (ej_callP GG hr1 (aj1 (ej_name 2)) ⟨rfl, rfl, tn, lss, en, rfl, tw, n1000, l4, fun l hl => (p9 l hl).2, rfl⟩) (by rw [hpt])) (.d _) (.d _) (pn_tb _).plain (pn_tb _).plain) fun _ => wj_or1 (tj_notB (t := true) (u := true) (ej_is (ej_callP GA hr4 (aj2 (ej_name 2) (ej_name (i := .d (tbD pt)) 3)) ⟨rfl, rfl, tn, lss, en, tbD pt, rfl, tw, tame_of pt hps, rfl⟩) (by rw [rB])) ej_bl))) (by rw [(pn_tb pt).refl]; rfl)) (fun h => nomatch h) fun _ => sj_nil ?_
  refine sj_set 4 (i := .d (.list ((srtQ lss en).map encQ))) (M1 := SttD p' c' dA) nd (ej_callP GP hr1 (aj1 (ej_name 2)) ⟨rfl, rfl, tn, lss, en, rfl, l4, p9, rfl⟩) ?_
  have qmem : ∀ q ∈ srtQ lss en, ∃ p ∈ pth lss en 0, p.2 = q.1 := fun q hq => by
    unfold srtQ at hq
    obtain ⟨p, hp, rfl⟩ := List.mem_map.mp ((srt_perm _).mem_iff.mp hq)
    exact ⟨p, hp, rfl⟩
  obtain ⟨Q, hE⟩ : ∃ Q, srtQ lss en = Q := ⟨_, rfl⟩
  rw [hE] at qmem ⊢
  have ql : (Q.map encQ).length = Q.length := List.length_map ..
  refine sj_set 5 (i := .d (tbD pt)) (M1 := SttD p' c' dA) nd (ej_name 3) ?_
  refine sj_forR (m := 4) (M1 := SttD p' c' dA) rfl T.b_range ej_int (by decide) (fun k ρ M => ∃ (x : PyData) (y6 y7 y8 y9 y10 : Option Kt.It) (d : DT), ρ = [some (scr K a ns), some (.v (.ref p')), some (.d (trE tn lss en)), some (.d (tbD pt)), some (.d (.list (Q.map encQ))), some (.d x), y6, y7, y8, y9, y10] ∧ M = SttD p' c' d ∧ d.2.1.length ≤ 63 ∧ tameT x ∧ bX (B0 + 2) x) ⟨_, none, none, none, none, none, dA, rfl, rfl, lA, tame_of pt hps, bX_mono hpb (by omega)⟩ (fun k ρ M hk hI => ?_) fun ρ M hI => ?_
  · clear lA dA
    obtain ⟨x, y6, y7, y8, y9, y10, d, rfl, rfl, lA, hx, hb⟩ := hI
    refine ⟨_, gj_name 6 nd, ?_⟩
    obtain ⟨tb, htb⟩ : ∃ tb, rightD tn lss x = tb := ⟨_, rfl⟩
    refine sj_set 7 (i := dB tb) (M1 := SttD p' c' d) nd (ej_is (ej_callP GA hr4 (aj2 (ej_name 2) (ej_name (i := .d x) 5)) ⟨rfl, rfl, tn, lss, en, x, rfl, tw, hx, rfl⟩) (by rw [htb])) ?_
    refine sj_if (t := false) (M1 := SttD p' c' d) (tj_is (tj_w (wj_or (t := !true) (u := !PyData.eqv (.bool tb) (.bool tb)) (tj_is (tj_not (tj_val (ej_isi T.b_isinstance (ej_name (i := dB tb) 7) (ej_ty T.b_bool boot_bool') (kit_bool _)))) rfl) fun _ => wj_or1 (tj_neD hr.units (d := .bool tb) (d' := .bool tb) (ej_name 7) (ej_is (ej_callP GR hr2 (aj2 (ej_name 2) (ej_name (i := .d x) 5)) ⟨rfl, rfl, tn, lss, en, x, rfl, tw, hx, rfl⟩) (by rw [htb])) (.d _) (.d _) rfl rfl))) (by rw [eqvB, decide_eq_true rfl]; rfl)) (fun h => nomatch h) fun _ => sj_nil ?_
    refine sj_keyR (A := Option Kt.It × Option Kt.It × Option Kt.It) (fun z => [some (scr K a ns), some (.v (.ref p')), some (.d (trE tn lss en)), some (.d (tbD pt)), some (.d (.list (Q.map encQ))), some (.d x), some (dI (k : Int)), some (dB tb), z.1, z.2.1, z.2.2]) (fun z => SttD p' c' d) (fun z => ?_) fun key => ?_
    · obtain ⟨z8, z9, z10⟩ := z
      dsimp only
      refine sj_setN (Mc := SttD p' c' d) (Mr := []) 5 nd GC hr2 (aj2 (ej_name 1) (ej_name (i := .d (tbD pt)) 3)) (List.append_nil _).symm (prechg pt d hps lA) fun i M' hB => ?_
      obtain ⟨a1, c1, dX, d2, t1, x1, e1, e2, rfl, rfl, lB, hx1, hb1⟩ := hB
      obtain ⟨rfl, rfl⟩ := sttE e2.symm
      have et : tbD pt = tbD t1 := Kt.It.d.inj (Option.some.inj (congrArg (fun l => l[1]?) e1))
      have hb2 := hb1 B0 b00 (et ▸ hpb)
      rw [List.append_nil]
      obtain ⟨z, ez, wz, lC⟩ := trn_nat (n := 2) (by decide) d2 lB
      obtain ⟨dC, hC⟩ : ∃ dC, trn 2 d2 = dC := ⟨_, rfl⟩
      rw [hC] at ez lC
      refine sj_if (t := decide ((z : Int) = 0) && isTbD x1 tn) (M1 := SttD a1 c1 dC) (tj_w (wj_and (t := decide ((z : Int) = 0)) (u := isTbD x1 tn) (tj_eqI (n := (z : Int)) (m := 0) (ej_m (ej_is (ej_drawD GD hr1 (d := d2) (ej_name 1) ej_int (by decide) (by decide) lB) (by rw [hC, ez])) (by rw [hC])) ej_int) fun _ => wj_and1 (tj_val (ej_callP GB hr1 (aj2 (ej_name 2) (ej_name (i := .d x1) 5)) ⟨rfl, rfl, tn, lss, en, x1, rfl, hx1, by omega, rfl⟩)))) (fun h => ?_) fun _ => sj_nil (sj_nil ⟨x1, _, _, _, _, _, dC, rfl, rfl, lC, hx1, bX_mono hb2 (by omega)⟩)
      obtain ⟨t2, rfl, hs2⟩ := isTb_some (Bool.and_eq_true_iff.mp h).2
      refine sj_setN (Mc := SttD a1 c1 dC) (Mr := []) 5 nd GC hr2 (aj2 (ej_name 1) (ej_name (i := .d (tbD t2)) 5)) (List.append_nil _).symm (prechg t2 dC hs2 lC) fun i M' hB => ?_
      obtain ⟨a3, c3, dY, d4, t3, x3, e3, e4, rfl, rfl, lD, hx3, hb3⟩ := hB
      obtain ⟨rfl, rfl⟩ := sttE e4.symm
      have et3 : tbD t2 = tbD t3 := Kt.It.d.inj (Option.some.inj (congrArg (fun l => l[1]?) e3))
      have hb4 := hb3 (B0 + 1) (by omega) (et3 ▸ hb2)
      rw [List.append_nil]
      exact sj_nil (sj_nil ⟨x3, _, _, _, _, _, d4, rfl, rfl, lD, hx3, bX_mono hb4 (by omega)⟩)
    · refine sj_if (t := tb) (M1 := SttD p' c' d) (tj_val (ej_name 7)) (fun h => ?_) fun _ => sj_nil (key (_, _, _))
      subst h
      obtain ⟨t, rfl, hrg⟩ := right_some htb
      have hst : shpB tn t = true := by
        unfold rgtB at hrg
        exact (Bool.and_eq_true_iff.mp hrg).1
      have tl := shp_len hst
      have t0 : t ≠ [] := fun e => by rw [e] at tl; simp at tl; omega
      have gl : t.getLastD [] = t.getD lss.length [] := by
        rw [List.getLastD_eq_getLast?, List.getLast?_eq_getElem?, List.getD_eq_getElem?_getD, show t.length - 1 = lss.length by omega]
      have rl := shp_at (k := lss.length) hst (by omega)
      rw [← gl] at rl
      have hin : ∀ x ∈ en, 0 ≤ x ∧ x.toNat < (t.getLastD []).length := fun x hx => by
        have := ok.er x hx
        omega
      have last : atI (t.map orD) (-1) = some (orD (t.getLastD [])) := at_neg1' (by
        rw [List.length_map, List.getElem?_map, List.getLastD_eq_getLast?, List.getLast?_eq_getElem?]
        obtain ⟨x, hx⟩ : ∃ x, t[t.length - 1]? = some x := ⟨_, List.getElem?_eq_getElem (by omega)⟩
        rw [hx]
        rfl) (by rw [List.length_map]; omega)
      have eb : ∀ y ∈ en.filterMap (endV t), y ≤ 10 ^ 30 := fun y hy => by
        obtain ⟨x, _, hv⟩ := List.mem_filterMap.mp hy
        have := bX_end hb t0 hv
        omega
      refine sj_setW1F 8 10 (ds := en.map .int) (M1 := SttD p' c' d) (fun k => (((en.take k).filterMap (endV t)).map .int).map It.d) (fun _ => SttD p' c' d) rfl nd (iw_tup (tr3 (ej_name 2) ej_int fun _ _ => rfl)) (fun _ _ => trivial) rfl rfl (by rw [List.length_map]; have := tw.el; omega) (fun k x hk => ?_) fun o ho => ?_
      · rw [List.getElem?_map] at hk
        obtain ⟨x, hx, rfl⟩ := Option.map_eq_some_iff.mp hk
        obtain ⟨x0, x1⟩ := hin x (List.mem_of_getElem? hx)
        have r1 : atI ((t.getLastD []).map oI) x = some (oI (endV t x)) := or_at x0 x1
        have fl : ((en.take k).filterMap (endV t)).length ≤ k := Nat.le_trans (List.length_filterMap_le _ _) (by rw [List.length_take]; omega)
        rw [fm_snoc (f := endV t) hx]
        have ex : ∀ {X : Cx} {N : Ent} {ρ : Rho} {M : Mem} {a b c : Expr} {p1 p2 : Pos}, EJ X N ρ M a (.d (tbD t)) M → EJ X N ρ M b (dI (-1)) M → EJ X N ρ M c (dI x) M → PlainIx b → PlainIx c → EJ X N ρ M (.Subscript (.Subscript a b p1) c p2) (.d (oI (endV t x))) M := fun h1 h2 h3 p1 p2 => ej_ixL (ds := (t.getLastD []).map oI) (ej_ixL (ds := t.map orD) h1 h2 last p1) h3 r1 p2
        refine ⟨(endV t x).isSome, SttD p' c' d, fun N' s H C cl fp => tj_is (tj_notNo (ex (ej_name 5) (ej_neg ej_int) (ej_name (i := dI x) 10) (fun _ _ => rfl) fun _ _ => rfl) ej_non) (by cases endV t x <;> rfl), by rw [List.length_map, List.length_map]; exact fl, fun h => ?_, fun h => ?_⟩
        · cases hv : endV t x with
          | none => rw [hv] at h; cases h
          | some v =>
            rw [hv] at ex
            exact ⟨dI v, by dsimp only; rw [List.map_append, List.map_append]; rfl, fun N' s H C cl fp => ex (ej_name 5) (ej_neg ej_int) (ej_name (i := dI x) 10) (fun _ _ => rfl) fun _ _ => rfl⟩
        · cases hv : endV t x with
          | none => exact ⟨by dsimp only; rw [List.append_nil], rfl⟩
          | some v => rw [hv] at h; cases h
      · rw [List.length_map, List.take_length]
        have lev := leV_ok t en
        have l1 : minO (en.filterMap (endV t)) = leV t en := rfl
        have fl : (en.filterMap (endV t)).length ≤ 500 := Nat.le_trans (List.length_filterMap_le _ _) tw.el
        obtain ⟨E, hE2⟩ : ∃ E, en.filterMap (endV t) = E := ⟨_, rfl⟩
        rw [hE2] at l1 fl eb ⊢
        refine sj_frzT (Mb := SttD p' c' d) 8 (ds := E.map .int) rfl ho ?_
        obtain ⟨le, hle2⟩ : ∃ le, leV t en = le := ⟨_, rfl⟩
        refine sj_set 9 (i := .d (oI le)) (M1 := SttD p' c' d) nd (ej_is (ej_callP GE hr1 (aj2 (ej_name 2) (ej_name (i := .d (tbD t)) 5)) ⟨rfl, rfl, tn, lss, en, t, rfl, t0, tw.el, hin, rfl⟩) (by rw [hle2])) ?_
        rw [hle2] at lev l1
        obtain ⟨mm, m1, m2, m3⟩ := min_of E le (10 ^ 30) l1 eb
        refine sj_if (t := false) (M1 := SttD p' c' d) (tj_is (tj_w (wj_and (t := !PyData.eqv (oI le) (.int mm)) (u := !decide (tyD (oI le) = "NoneType") || decide ((0 : Int) < (E.length : Int))) (tj_neD hr.units (d := oI le) (d' := .int mm) (ej_name 9) (ej_minL (ns := E ++ [10 ^ 30]) rfl T.b_min (ej_is (ej_el (ds := E.map .int ++ [.int (10 ^ 30)]) (el_cat (ds := E.map .int) (es := [.int (10 ^ 30)]) (ej_name 8) (jl1 (A := .int (10 ^ 30)) (ej_pow (n := 10) (m := 30) ej_int ej_int ⟨by decide, by decide, by decide⟩)) (by rw [List.length_map]; show _ + 1 ≤ _; omega)) rfl) (by rw [List.map_append]; rfl)) m1 m2) (.d _) (.d _) (pn_oI (n := 1)).plain (PN.int (n := 1) _).plain) fun _ => wj_and1 (tj_w (wj_or (t := !decide (tyD (oI le) = "NoneType")) (u := decide ((0 : Int) < (E.length : Int))) (tj_notNo (d := oI le) (ej_name 9) ej_non) fun _ => wj_or1 (tj_gt (n := (E.length : Int)) (m := 0) (ej_is (ej_lenL (ds := E.map .int) T.b_len (ej_name 8)) (by rw [List.length_map])) ej_int))))) (by
          rcases m3 with ⟨rfl, _⟩ | ⟨rfl, rfl⟩
          · rw [show oI (some mm) = .int mm from rfl, (PN.int (n := 1) mm).refl]
            rfl
          · rfl)) (fun h => nomatch h) fun _ => sj_nil ?_
        have hq2 : ∀ q ∈ Q, ∃ m, le = some m ∧ m ≤ q.1 := fun q hq => by
          obtain ⟨p, hp, e⟩ := qmem q hq
          obtain ⟨y, hy, hyl⟩ := hle t hrg p hp
          cases le with
          | none => exact absurd hy (lev y)
          | some m =>
            have := lev.2 y hy
            exact ⟨m, rfl, by omega⟩
        cases Q with
        | nil => exact sj_if (t := false) (M1 := SttD p' c' d) (tj_is (tj_w (wj_and (t := false) (u := false) (tj_is (tj_gt (n := 0) (m := 0) (ej_lenL (ds := []) T.b_len (ej_name 4)) ej_int) rfl) fun h => nomatch h)) rfl) (fun h => nomatch h) fun _ => sj_nil (sj_nil (key (_, _, _)))
        | cons q Qr =>
          obtain ⟨m, rfl, hm⟩ := hq2 q List.mem_cons_self
          exact sj_if (t := false) (M1 := SttD p' c' d) (tj_is (tj_w (wj_and (t := decide ((0 : Int) < (((q :: Qr).map encQ).length : Int))) (u := decide (q.1 < m)) (tj_gt (n := (((q :: Qr).map encQ).length : Int)) (m := 0) (ej_lenL (ds := (q :: Qr).map encQ) T.b_len (ej_name 4)) ej_int) fun h => wj_and1 (tj_w (wj_or (t := false) (u := decide (q.1 < m)) (tj_is (tj_isN (d := .int m) (ej_name 9) ej_non) rfl) fun _ => wj_or1 (tj_gt (n := m) (m := q.1) (ej_name 9) (ej_ixT (ds := [.int q.1, .list (q.2.map .int)]) (ej_ixL (ds := (q :: Qr).map encQ) (ej_name 4) ej_int (atI_nat (j := 0) rfl)) ej_int (atI_nat (j := 0) rfl))))))) (by rw [decide_eq_false (show ¬ q.1 < m by omega), Bool.and_false])) (fun h => nomatch h) fun _ => sj_nil (sj_nil (key (_, _, _)))
  · obtain ⟨x, y6, y7, y8, y9, y10, d, rfl, rfl, lB, hx, hb⟩ := hI
    exact sj_ret ej_bl rfl
end

theorem all_mk {l : PySem.W.OpenLaw} {w : World} {K : PySem.W.Frag} {h : Heap} {mg : Str → Option Value} {fa : Addr} (X : K.In h) (G : h.Ns mainGlobals mg) (hfa : mg "law" = some (.ref fa))
    {f0 : Addr} {od0 an0 : Option Addr} {sl0 : Array (Option Value)} {oc0 kV0 dc0 pm0 cd0 ct0 : Value}
    (a0 : PySem.W.nsIn K mainGlobals "is_integer" = some (some (.ref f0))) (l0 : K.lookup f0 = some ⟨oc0, od0, .func (PySem.W.fnOf "is_integer" "is_integer" (defArgs s_is_integer) (defBody s_is_integer) (defScope s_is_integer) .none kV0 dc0 pm0 an0 cd0 ct0), sl0⟩) (c0 : PySem.W.codeIn K cd0 "is_integer" = true) (k0 : PySem.W.keepIn K (.ref f0) = true)
    {f1 : Addr} {od1 an1 : Option Addr} {sl1 : Array (Option Value)} {oc1 kV1 dc1 pm1 cd1 ct1 : Value}
    (a1 : PySem.W.nsIn K mainGlobals "potentials_of" = some (some (.ref f1))) (l1 : K.lookup f1 = some ⟨oc1, od1, .func (PySem.W.fnOf "potentials_of" "potentials_of" (defArgs s_potentials_of) (defBody s_potentials_of) (defScope s_potentials_of) .none kV1 dc1 pm1 an1 cd1 ct1), sl1⟩) (c1 : PySem.W.codeIn K cd1 "potentials_of" = true) (k1 : PySem.W.keepIn K (.ref f1) = true)
    {f2 : Addr} {od2 an2 : Option Addr} {sl2 : Array (Option Value)} {oc2 kV2 dc2 pm2 cd2 ct2 : Value}
    (a2 : PySem.W.nsIn K mainGlobals "row_behind" = some (some (.ref f2))) (l2 : K.lookup f2 = some ⟨oc2, od2, .func (PySem.W.fnOf "row_behind" "row_behind" (defArgs s_row_behind) (defBody s_row_behind) (defScope s_row_behind) .none kV2 dc2 pm2 an2 cd2 ct2), sl2⟩) (c2 : PySem.W.codeIn K cd2 "row_behind" = true) (k2 : PySem.W.keepIn K (.ref f2) = true)
    {f3 : Addr} {od3 an3 : Option Addr} {sl3 : Array (Option Value)} {oc3 kV3 dc3 pm3 cd3 ct3 : Value}
    (a3 : PySem.W.nsIn K mainGlobals "are_right" = some (some (.ref f3))) (l3 : K.lookup f3 = some ⟨oc3, od3, .func (PySem.W.fnOf "are_right" "are_right" (defArgs s_are_right) (defBody s_are_right) (defScope s_are_right) .none kV3 dc3 pm3 an3 cd3 ct3), sl3⟩) (c3 : PySem.W.codeIn K cd3 "are_right" = true) (k3 : PySem.W.keepIn K (.ref f3) = true)
    {f4 : Addr} {od4 an4 : Option Addr} {sl4 : Array (Option Value)} {oc4 kV4 dc4 pm4 cd4 ct4 : Value}
    (a4 : PySem.W.nsIn K mainGlobals "is_table" = some (some (.ref f4))) (l4 : K.lookup f4 = some ⟨oc4, od4, .func (PySem.W.fnOf "is_table" "is_table" (defArgs s_is_table) (defBody s_is_table) (defScope s_is_table) .none kV4 dc4 pm4 an4 cd4 ct4), sl4⟩) (c4 : PySem.W.codeIn K cd4 "is_table" = true) (k4 : PySem.W.keepIn K (.ref f4) = true)
    {f5 : Addr} {od5 an5 : Option Addr} {sl5 : Array (Option Value)} {oc5 kV5 dc5 pm5 cd5 ct5 : Value}
    (a5 : PySem.W.nsIn K mainGlobals "is_row" = some (some (.ref f5))) (l5 : K.lookup f5 = some ⟨oc5, od5, .func (PySem.W.fnOf "is_row" "is_row" (defArgs s_is_row) (defBody s_is_row) (defScope s_is_row) .none kV5 dc5 pm5 an5 cd5 ct5), sl5⟩) (c5 : PySem.W.codeIn K cd5 "is_row" = true) (k5 : PySem.W.keepIn K (.ref f5) = true)
    {f6 : Addr} {od6 an6 : Option Addr} {sl6 : Array (Option Value)} {oc6 kV6 dc6 pm6 cd6 ct6 : Value}
    (a6 : PySem.W.nsIn K mainGlobals "is_bounded" = some (some (.ref f6))) (l6 : K.lookup f6 = some ⟨oc6, od6, .func (PySem.W.fnOf "is_bounded" "is_bounded" (defArgs s_is_bounded) (defBody s_is_bounded) (defScope s_is_bounded) .none kV6 dc6 pm6 an6 cd6 ct6), sl6⟩) (c6 : PySem.W.codeIn K cd6 "is_bounded" = true) (k6 : PySem.W.keepIn K (.ref f6) = true)
    {f7 : Addr} {od7 an7 : Option Addr} {sl7 : Array (Option Value)} {oc7 kV7 dc7 pm7 cd7 ct7 : Value}
    (a7 : PySem.W.nsIn K mainGlobals "least_end" = some (some (.ref f7))) (l7 : K.lookup f7 = some ⟨oc7, od7, .func (PySem.W.fnOf "least_end" "least_end" (defArgs s_least_end) (defBody s_least_end) (defScope s_least_end) .none kV7 dc7 pm7 an7 cd7 ct7), sl7⟩) (c7 : PySem.W.codeIn K cd7 "least_end" = true) (k7 : PySem.W.keepIn K (.ref f7) = true)
    {f8 : Addr} {od8 an8 : Option Addr} {sl8 : Array (Option Value)} {oc8 kV8 dc8 pm8 cd8 ct8 : Value}
    (a8 : PySem.W.nsIn K mainGlobals "_law_state" = some (some (.ref f8))) (l8 : K.lookup f8 = some ⟨oc8, od8, .func (PySem.W.fnOf "_law_state" "_law_state" (defArgs s_law_state) (defBody s_law_state) (defScope s_law_state) .none kV8 dc8 pm8 an8 cd8 ct8), sl8⟩) (c8 : PySem.W.codeIn K cd8 "_law_state" = true) (k8 : PySem.W.keepIn K (.ref f8) = true)
    {f9 : Addr} {od9 an9 : Option Addr} {sl9 : Array (Option Value)} {oc9 kV9 dc9 pm9 cd9 ct9 : Value}
    (a9 : PySem.W.nsIn K mainGlobals "_law_draw" = some (some (.ref f9))) (l9 : K.lookup f9 = some ⟨oc9, od9, .func (PySem.W.fnOf "_law_draw" "_law_draw" (defArgs s_law_draw) (defBody s_law_draw) (defScope s_law_draw) .none kV9 dc9 pm9 an9 cd9 ct9), sl9⟩) (c9 : PySem.W.codeIn K cd9 "_law_draw" = true) (k9 : PySem.W.keepIn K (.ref f9) = true)
    {f10 : Addr} {od10 an10 : Option Addr} {sl10 : Array (Option Value)} {oc10 kV10 dc10 pm10 cd10 ct10 : Value}
    (a10 : PySem.W.nsIn K mainGlobals "_law_trellis" = some (some (.ref f10))) (l10 : K.lookup f10 = some ⟨oc10, od10, .func (PySem.W.fnOf "_law_trellis" "_law_trellis" (defArgs s_law_trellis) (defBody s_law_trellis) (defScope s_law_trellis) .none kV10 dc10 pm10 an10 cd10 ct10), sl10⟩) (c10 : PySem.W.codeIn K cd10 "_law_trellis" = true) (k10 : PySem.W.keepIn K (.ref f10) = true)
    {f11 : Addr} {od11 an11 : Option Addr} {sl11 : Array (Option Value)} {oc11 kV11 dc11 pm11 cd11 ct11 : Value}
    (a11 : PySem.W.nsIn K mainGlobals "_law_paths" = some (some (.ref f11))) (l11 : K.lookup f11 = some ⟨oc11, od11, .func (PySem.W.fnOf "_law_paths" "_law_paths" (defArgs s_law_paths) (defBody s_law_paths) (defScope s_law_paths) .none kV11 dc11 pm11 an11 cd11 ct11), sl11⟩) (c11 : PySem.W.codeIn K cd11 "_law_paths" = true) (k11 : PySem.W.keepIn K (.ref f11) = true)
    {f12 : Addr} {od12 an12 : Option Addr} {sl12 : Array (Option Value)} {oc12 kV12 dc12 pm12 cd12 ct12 : Value}
    (a12 : PySem.W.nsIn K mainGlobals "_law_greatest" = some (some (.ref f12))) (l12 : K.lookup f12 = some ⟨oc12, od12, .func (PySem.W.fnOf "_law_greatest" "_law_greatest" (defArgs s_law_greatest) (defBody s_law_greatest) (defScope s_law_greatest) .none kV12 dc12 pm12 an12 cd12 ct12), sl12⟩) (c12 : PySem.W.codeIn K cd12 "_law_greatest" = true) (k12 : PySem.W.keepIn K (.ref f12) = true)
    {f13 : Addr} {od13 an13 : Option Addr} {sl13 : Array (Option Value)} {oc13 kV13 dc13 pm13 cd13 ct13 : Value}
    (a13 : PySem.W.nsIn K mainGlobals "_law_is_table" = some (some (.ref f13))) (l13 : K.lookup f13 = some ⟨oc13, od13, .func (PySem.W.fnOf "_law_is_table" "_law_is_table" (defArgs s_law_is_table) (defBody s_law_is_table) (defScope s_law_is_table) .none kV13 dc13 pm13 an13 cd13 ct13), sl13⟩) (c13 : PySem.W.codeIn K cd13 "_law_is_table" = true) (k13 : PySem.W.keepIn K (.ref f13) = true)
    {f14 : Addr} {od14 an14 : Option Addr} {sl14 : Array (Option Value)} {oc14 kV14 dc14 pm14 cd14 ct14 : Value}
    (a14 : PySem.W.nsIn K mainGlobals "_law_right" = some (some (.ref f14))) (l14 : K.lookup f14 = some ⟨oc14, od14, .func (PySem.W.fnOf "_law_right" "_law_right" (defArgs s_law_right) (defBody s_law_right) (defScope s_law_right) .none kV14 dc14 pm14 an14 cd14 ct14), sl14⟩) (c14 : PySem.W.codeIn K cd14 "_law_right" = true) (k14 : PySem.W.keepIn K (.ref f14) = true)
    {f15 : Addr} {od15 an15 : Option Addr} {sl15 : Array (Option Value)} {oc15 kV15 dc15 pm15 cd15 ct15 : Value}
    (a15 : PySem.W.nsIn K mainGlobals "_law_changed" = some (some (.ref f15))) (l15 : K.lookup f15 = some ⟨oc15, od15, .func (PySem.W.fnOf "_law_changed" "_law_changed" (defArgs s_law_changed) (defBody s_law_changed) (defScope s_law_changed) .none kV15 dc15 pm15 an15 cd15 ct15), sl15⟩) (c15 : PySem.W.codeIn K cd15 "_law_changed" = true) (k15 : PySem.W.keepIn K (.ref f15) = true)
    {f16 : Addr} {od16 an16 : Option Addr} {sl16 : Array (Option Value)} {oc16 kV16 dc16 pm16 cd16 ct16 : Value}
    (a16 : PySem.W.nsIn K mainGlobals "law" = some (some (.ref f16))) (l16 : K.lookup f16 = some ⟨oc16, od16, .func (PySem.W.fnOf "law" "law" (defArgs s_law) (defBody s_law) (defScope s_law) .none kV16 dc16 pm16 an16 cd16 ct16), sl16⟩) (c16 : PySem.W.codeIn K cd16 "law" = true) (k16 : PySem.W.keepIn K (.ref f16) = true)
    (z_abs : PySem.W.nsIn K mainGlobals "abs" = some none)
    (z_all : PySem.W.nsIn K mainGlobals "all" = some none)
    (z_bool : PySem.W.nsIn K mainGlobals "bool" = some none)
    (z_enumerate : PySem.W.nsIn K mainGlobals "enumerate" = some none)
    (z_int : PySem.W.nsIn K mainGlobals "int" = some none)
    (z_isinstance : PySem.W.nsIn K mainGlobals "isinstance" = some none)
    (z_len : PySem.W.nsIn K mainGlobals "len" = some none)
    (z_list : PySem.W.nsIn K mainGlobals "list" = some none)
    (z_min : PySem.W.nsIn K mainGlobals "min" = some none)
    (z_range : PySem.W.nsIn K mainGlobals "range" = some none)
    (z_sorted : PySem.W.nsIn K mainGlobals "sorted" = some none)
    (z_tuple : PySem.W.nsIn K mainGlobals "tuple" = some none)
    (z_zip : PySem.W.nsIn K mainGlobals "zip" = some none)
    : ∃ fd : FuncData, (∀ (s : Shared) (v : Value), BindsTo s fd ⟨[v], []⟩ [("script", v)]) ∧ ∀ base : Heap, K.In base → base.Ns mainGlobals mg → FnOk l.prog w K mg base CX0 8 fa fd ["script"] (spLaw K) := by
  have e := hfa.symm.trans (PySem.W.mg_of X G a16)
  cases e
  have T : Txt K mg := {
    f_is_integer := ⟨_, _, fun_mk (st := s_is_integer) l0 c0 k0, PySem.W.mg_of X G a0, (fun_mk (st := s_is_integer) l0 c0 k0).binds (ps := ["thing"]) fun _ _ _ _ _ _ us hl => match us, hl with | [_], _ => rfl⟩
    f_potentials_of := ⟨_, _, fun_mk (st := s_potentials_of) l1 c1 k1, PySem.W.mg_of X G a1, (fun_mk (st := s_potentials_of) l1 c1 k1).binds (ps := ["trellis"]) fun _ _ _ _ _ _ us hl => match us, hl with | [_], _ => rfl⟩
    f_row_behind := ⟨_, _, fun_mk (st := s_row_behind) l2 c2 k2, PySem.W.mg_of X G a2, (fun_mk (st := s_row_behind) l2 c2 k2).binds (ps := ["row", "layer", "width"]) fun _ _ _ _ _ _ us hl => match us, hl with | [_, _, _], _ => rfl⟩
    f_are_right := ⟨_, _, fun_mk (st := s_are_right) l3 c3 k3, PySem.W.mg_of X G a3, (fun_mk (st := s_are_right) l3 c3 k3).binds (ps := ["trellis", "table"]) fun _ _ _ _ _ _ us hl => match us, hl with | [_, _], _ => rfl⟩
    f_is_table := ⟨_, _, fun_mk (st := s_is_table) l4 c4 k4, PySem.W.mg_of X G a4, (fun_mk (st := s_is_table) l4 c4 k4).binds (ps := ["thing", "widths"]) fun _ _ _ _ _ _ us hl => match us, hl with | [_, _], _ => rfl⟩
    f_is_row := ⟨_, _, fun_mk (st := s_is_row) l5 c5 k5, PySem.W.mg_of X G a5, (fun_mk (st := s_is_row) l5 c5 k5).binds (ps := ["thing", "width"]) fun _ _ _ _ _ _ us hl => match us, hl with | [_, _], _ => rfl⟩
    f_is_bounded := ⟨_, _, fun_mk (st := s_is_bounded) l6 c6 k6, PySem.W.mg_of X G a6, (fun_mk (st := s_is_bounded) l6 c6 k6).binds (ps := ["layer", "row", "behind"]) fun _ _ _ _ _ _ us hl => match us, hl with | [_, _, _], _ => rfl⟩
    f_least_end := ⟨_, _, fun_mk (st := s_least_end) l7 c7 k7, PySem.W.mg_of X G a7, (fun_mk (st := s_least_end) l7 c7 k7).binds (ps := ["trellis", "table"]) fun _ _ _ _ _ _ us hl => match us, hl with | [_, _], _ => rfl⟩
    f_law_state := ⟨_, _, fun_mk (st := s_law_state) l8 c8 k8, PySem.W.mg_of X G a8, (fun_mk (st := s_law_state) l8 c8 k8).binds (ps := ["script"]) fun _ _ _ _ _ _ us hl => match us, hl with | [_], _ => rfl⟩
    f_law_draw := ⟨_, _, fun_mk (st := s_law_draw) l9 c9 k9, PySem.W.mg_of X G a9, (fun_mk (st := s_law_draw) l9 c9 k9).binds (ps := ["state", "many"]) fun _ _ _ _ _ _ us hl => match us, hl with | [_, _], _ => rfl⟩
    f_law_trellis := ⟨_, _, fun_mk (st := s_law_trellis) l10 c10 k10, PySem.W.mg_of X G a10, (fun_mk (st := s_law_trellis) l10 c10 k10).binds (ps := ["state"]) fun _ _ _ _ _ _ us hl => match us, hl with | [_], _ => rfl⟩
    f_law_paths := ⟨_, _, fun_mk (st := s_law_paths) l11 c11 k11, PySem.W.mg_of X G a11, (fun_mk (st := s_law_paths) l11 c11 k11).binds (ps := ["trellis"]) fun _ _ _ _ _ _ us hl => match us, hl with | [_], _ => rfl⟩
    f_law_greatest := ⟨_, _, fun_mk (st := s_law_greatest) l12 c12 k12, PySem.W.mg_of X G a12, (fun_mk (st := s_law_greatest) l12 c12 k12).binds (ps := ["trellis"]) fun _ _ _ _ _ _ us hl => match us, hl with | [_], _ => rfl⟩
    f_law_is_table := ⟨_, _, fun_mk (st := s_law_is_table) l13 c13 k13, PySem.W.mg_of X G a13, (fun_mk (st := s_law_is_table) l13 c13 k13).binds (ps := ["trellis", "table"]) fun _ _ _ _ _ _ us hl => match us, hl with | [_, _], _ => rfl⟩
    f_law_right := ⟨_, _, fun_mk (st := s_law_right) l14 c14 k14, PySem.W.mg_of X G a14, (fun_mk (st := s_law_right) l14 c14 k14).binds (ps := ["trellis", "table"]) fun _ _ _ _ _ _ us hl => match us, hl with | [_, _], _ => rfl⟩
    f_law_changed := ⟨_, _, fun_mk (st := s_law_changed) l15 c15 k15, PySem.W.mg_of X G a15, (fun_mk (st := s_law_changed) l15 c15 k15).binds (ps := ["state", "table"]) fun _ _ _ _ _ _ us hl => match us, hl with | [_, _], _ => rfl⟩
    f_law := ⟨_, _, fun_mk (st := s_law) l16 c16 k16, PySem.W.mg_of X G a16, (fun_mk (st := s_law) l16 c16 k16).binds (ps := ["script"]) fun _ _ _ _ _ _ us hl => match us, hl with | [_], _ => rfl⟩
    b_abs := PySem.W.mg_none_of X G z_abs
    b_all := PySem.W.mg_none_of X G z_all
    b_bool := PySem.W.mg_none_of X G z_bool
    b_enumerate := PySem.W.mg_none_of X G z_enumerate
    b_int := PySem.W.mg_none_of X G z_int
    b_isinstance := PySem.W.mg_none_of X G z_isinstance
    b_len := PySem.W.mg_none_of X G z_len
    b_list := PySem.W.mg_none_of X G z_list
    b_min := PySem.W.mg_none_of X G z_min
    b_range := PySem.W.mg_none_of X G z_range
    b_sorted := PySem.W.mg_none_of X G z_sorted
    b_tuple := PySem.W.mg_none_of X G z_tuple
    b_zip := PySem.W.mg_none_of X G z_zip
  }
  have FL := fun_mk (st := s_law) l16 c16 k16
  exact ⟨_, fun s v => .of_eq rfl, fun base _ _ => ok_law FL T⟩
end K14
open PySem PySem.W PyProof.Rows
set_option maxHeartbeats 0 in
theorem PySem.Challenge.cw_heardtrue_k14_potentials_holds : PySem.Challenge.rw_heardtrue_k14_potentials.Holds := by
  w_on; o_law; k_head; (case hw => w_witness2)
  k_fill
  refine L2.walk_of (l := PySem.Challenge.rw_heardtrue_k14_potentials) (n := 63) (k := 8) (x := "script") (CX := fun _ => L2.CX0) (sp := fun w => Kt.spLaw _) rfl (by decide) rfl ⟨rfl, by decide, by decide⟩ (fun w h Y => PySem.W.kIn_of Y) ?F (fun _ _ a ns hl ho hS => ⟨a, ns, rfl, hS, hl, Kt.nz_only ho, fun _ => rfl⟩) (fun _ _ _ _ _ h => h)
  case F =>
    intro w mg fa h KX G hmg
    refine' K14.all_mk KX G hmg ?a0 ?l0 ?c0 ?k0 ?a1 ?l1 ?c1 ?k1 ?a2 ?l2 ?c2 ?k2 ?a3 ?l3 ?c3 ?k3 ?a4 ?l4 ?c4 ?k4 ?a5 ?l5 ?c5 ?k5 ?a6 ?l6 ?c6 ?k6 ?a7 ?l7 ?c7 ?k7 ?a8 ?l8 ?c8 ?k8 ?a9 ?l9 ?c9 ?k9 ?a10 ?l10 ?c10 ?k10 ?a11 ?l11 ?c11 ?k11 ?a12 ?l12 ?c12 ?k12 ?a13 ?l13 ?c13 ?k13 ?a14 ?l14 ?c14 ?k14 ?a15 ?l15 ?c15 ?k15 ?a16 ?l16 ?c16 ?k16 ?z_abs ?z_all ?z_bool ?z_enumerate ?z_int ?z_isinstance ?z_len ?z_list ?z_min ?z_range ?z_sorted ?z_tuple ?z_zip
    (case a0 => k_is); (case l0 => k_is); (case c0 => k_is); (case k0 => k_is); (case a1 => k_is); (case l1 => k_is); (case c1 => k_is); (case k1 => k_is); (case a2 => k_is); (case l2 => k_is); (case c2 => k_is); (case k2 => k_is); (case a3 => k_is); (case l3 => k_is); (case c3 => k_is); (case k3 => k_is); (case a4 => k_is); (case l4 => k_is); (case c4 => k_is); (case k4 => k_is); (case a5 => k_is); (case l5 => k_is); (case c5 => k_is); (case k5 => k_is); (case a6 => k_is); (case l6 => k_is); (case c6 => k_is); (case k6 => k_is); (case a7 => k_is); (case l7 => k_is); (case c7 => k_is); (case k7 => k_is); (case a8 => k_is); (case l8 => k_is); (case c8 => k_is); (case k8 => k_is); (case a9 => k_is); (case l9 => k_is); (case c9 => k_is); (case k9 => k_is); (case a10 => k_is); (case l10 => k_is); (case c10 => k_is); (case k10 => k_is); (case a11 => k_is); (case l11 => k_is); (case c11 => k_is); (case k11 => k_is); (case a12 => k_is); (case l12 => k_is); (case c12 => k_is); (case k12 => k_is); (case a13 => k_is); (case l13 => k_is); (case c13 => k_is); (case k13 => k_is); (case a14 => k_is); (case l14 => k_is); (case c14 => k_is); (case k14 => k_is); (case a15 => k_is); (case l15 => k_is); (case c15 => k_is); (case k15 => k_is); (case a16 => k_is); (case l16 => k_is); (case c16 => k_is); (case k16 => k_is); (case z_abs => k_is); (case z_all => k_is); (case z_bool => k_is); (case z_enumerate => k_is); (case z_int => k_is); (case z_isinstance => k_is); (case z_len => k_is); (case z_list => k_is); (case z_min => k_is); (case z_range => k_is); (case z_sorted => k_is); (case z_tuple => k_is); (case z_zip => k_is)

