import PyProof.Rows.All
import Wide.All
import OpenK.AllK
import Wide.FinOn
import PyProof.ReprRoads
import HandS.ForMost
import HandS.Walk
import HandS.IsInst
import HandS.Wide
import HandS.WideBits
import HandS.TupAny
import HandS.Evl
import KE.KExcSuper
import HandS.Exc
import HandS.TryOnly
import HandS.ExcOwn
import HandS.WordsExc
import HandS.ExcField
import PyProof.ReprReads
import PyProof.StrHeap
import PyProof.FactsAll.list
import PyProof.FactsAll.tuple
import HandS.Gcd
import HandS.Zip
import HandS.Property
import HandS.MakeKwOnly
import HandS.ExcValue
import PyProof.CollectStr
import PyProof.Rows.SortShellAny
import HandS.Strs
import PyProof.SetRoads
import PyProof.FactsAll.subtypes_3
import KE.GoesMore
import PyProof.EnumMake
import PyProof.Draws
import PyProof.NeKinds
import HandS.SlotsOwn
import OpenK.KMeth
import HandS.More
import PyProof.InstNe
import HandS.Star
import HandS.Flow
import HandS.TupMul
import HandS.Dict
import KE.DataMinMax
import KE.GoesZip
import KE.KSortTupG
import HandS.Rev
import HandS.Sort
import HandS.RevTup
import PyProof.ListStr
import PyProof.TupleOfSeq
import HandS.StrMore
import PyProof.StrLawsRepr
import PyProof.FitsInt
import PySem.Challenge.RW_seenchoices_k04_schemes_told
set_option Elab.async false
set_option linter.all false
set_option maxRecDepth 100000
set_option maxHeartbeats 4000000
/-! DL: readings at the level of data. A value of the heap bears a datum (Rp); an expression's rule tells, of data alone, what must hold so that what follows holds. -/
namespace DL
open PySem L2
open Evl (Ex)

/-- data -/
inductive D where
  | non | bl (b : Bool) | int (i : Int) | str (x : Str) | ty (n : String)
  | lst (ds : List D) | tup (ds : List D) | dct (ks : List Key) (ds : List D)
  | scr (ns : List Int) | box (a : Addr) | obj (n : Str) (ks : List Str) (ds : List D)

abbrev Fg := PySem.W.Frag
mutual
/-- at the heap G the value bears the datum -/
inductive Rp (K : Fg) (G : Hp) : V → D → Prop
  | non : Rp K G .non .non
  | bl (b : Bool) : Rp K G (.bl b) (.bl b)
  | int (i : Int) : Rp K G (.int i) (.int i)
  | str (x : Str) : Rp K G (.str x) (.str x)
  | ty (n : String) : Rp K G (.ty n) (.ty n)
  | lst {a : Addr} {xs : List V} {ds : List D} : G a = some (.lst xs) → RpA K G xs ds → Rp K G (.ref a) (.lst ds)
  | tup {a : Addr} {xs : List V} {ds : List D} : SqT K G a xs → RpA K G xs ds → Rp K G (.ref a) (.tup ds)
  | dct {a : Addr} {kvs : List (Key × V)} {ks : List Key} {vs : List V} {ds : List D} : G a = some (.dK kvs) → kvs.map (·.1) = ks → kvs.map (·.2) = vs → RpA K G vs ds → Rp K G (.ref a) (.dct ks ds)
  | scr {a : Addr} {ns : List Int} : SqL K G a (ns.map V.int) → Rp K G (.ref a) (.scr ns)
  | box (a : Addr) : Rp K G (.ref a) (.box a)
  | obj {a C dx : Addr} {fs : List (Str × V)} {n : Str} {ks : List Str} {vs : List V} {ds : List D} : PySem.W.nsIn K mainGlobals n = some (some (.ref C)) → G a = some (.ins C dx fs) → fs.map (·.1) = ks → fs.map (·.2) = vs → RpA K G vs ds → Rp K G (.ref a) (.obj n ks ds)
inductive RpA (K : Fg) (G : Hp) : List V → List D → Prop
  | nil : RpA K G [] []
  | cons {v : V} {d : D} {vs : List V} {ds : List D} : Rp K G v d → RpA K G vs ds → RpA K G (v :: vs) (d :: ds)
end
section
variable {K : Fg} {G G' : Hp}
mutual
theorem Rp.mono (e : Ex G G') : ∀ {v : V} {d : D}, Rp K G v d → Rp K G' v d
  | _, _, .non => .non
  | _, _, .bl b => .bl b
  | _, _, .int i => .int i
  | _, _, .str x => .str x
  | _, _, .ty n => .ty n
  | _, _, .lst h r => .lst (e _ _ h) (RpA.mono e r)
  | _, _, .tup h r => .tup (Evl.ex_t e h) (RpA.mono e r)
  | _, _, .dct h a b r => .dct (e _ _ h) a b (RpA.mono e r)
  | _, _, .scr h => .scr (Evl.ex_l e h)
  | _, _, .box a => .box a
  | _, _, .obj k h a b r => .obj k (e _ _ h) a b (RpA.mono e r)
theorem RpA.mono (e : Ex G G') : ∀ {vs : List V} {ds : List D}, RpA K G vs ds → RpA K G' vs ds
  | _, _, .nil => .nil
  | _, _, .cons r t => .cons (Rp.mono e r) (RpA.mono e t)
end
theorem RpA.len : ∀ {vs : List V} {ds : List D}, RpA K G vs ds → vs.length = ds.length
  | _, _, .nil => rfl
  | _, _, .cons _ t => by rw [List.length_cons, List.length_cons, RpA.len t]
theorem RpA.at : ∀ {vs : List V} {ds : List D} {i : Nat} {d : D}, RpA K G vs ds → ds[i]? = some d → ∃ v, vs[i]? = some v ∧ Rp K G v d
  | _, _, _, _, .nil, e => by simp at e
  | _, _, 0, _, .cons r _, e => by simp at e; subst e; exact ⟨_, rfl, r⟩
  | _, _, i + 1, d, .cons _ t, e => by
    obtain ⟨v, h1, h2⟩ := RpA.at (i := i) (d := d) t (by simpa using e)
    exact ⟨v, by simpa using h1, h2⟩
theorem RpA.app : ∀ {vs ws : List V} {ds es : List D}, RpA K G vs ds → RpA K G ws es → RpA K G (vs ++ ws) (ds ++ es)
  | _, _, _, _, .nil, s => s
  | _, _, _, _, .cons r t, s => .cons r (RpA.app t s)
theorem RpA.set {v : V} {d : D} (r : Rp K G v d) : ∀ {vs : List V} {ds : List D} (i : Nat), RpA K G vs ds → RpA K G (vs.set i v) (ds.set i d)
  | _, _, _, .nil => .nil
  | _, _, 0, .cons _ t => .cons r t
  | _, _, i + 1, .cons q t => .cons q (RpA.set r i t)
theorem RpA.drop : ∀ {vs : List V} {ds : List D} (n : Nat), RpA K G vs ds → RpA K G (vs.drop n) (ds.drop n)
  | _, _, 0, r => r
  | _, _, _ + 1, .nil => .nil
  | _, _, n + 1, .cons _ t => RpA.drop n t
theorem RpA.take : ∀ {vs : List V} {ds : List D} (n : Nat), RpA K G vs ds → RpA K G (vs.take n) (ds.take n)
  | _, _, 0, _ => .nil
  | _, _, _ + 1, .nil => .nil
  | _, _, n + 1, .cons r t => .cons r (RpA.take n t)
theorem RpA.rep : ∀ {vs : List V} {ds : List D} (n : Nat), RpA K G vs ds → RpA K G (List.replicate n vs).flatten (List.replicate n ds).flatten
  | _, _, 0, _ => .nil
  | vs, ds, n + 1, r => by
    rw [List.replicate_succ, List.replicate_succ, List.flatten_cons, List.flatten_cons]
    exact r.app (RpA.rep n r)
end

/-! ### the world: G stands for good, mu is owned (lists that may change), F is the frame -/
abbrev Mem := Addr → Option (List D)
def Mem.up (m : Mem) (a : Addr) (ds : List D) : Mem := fun b => if b = a then some ds else m b
theorem Mem.up_same {m : Mem} {a : Addr} {ds : List D} : m.up a ds a = some ds := if_pos rfl
theorem Mem.up_ne {m : Mem} {a b : Addr} {ds : List D} (h : b ≠ a) : m.up a ds b = m b := if_neg h
theorem Mem.up_up {m : Mem} {a : Addr} {ds es : List D} : (m.up a ds).up a es = m.up a es := by
  funext b; unfold Mem.up; split <;> rfl
structure Wd (K : Fg) (G : Hp) (m : Mem) (F : Hp) (H : Hp) : Prop where
  ex : Ex G H
  own : ∀ a ds, m a = some ds → G a = none ∧ F a = none ∧ ∃ xs, H a = some (.lst xs) ∧ RpA K G xs ds
  fr : ∀ a o, F a = some o → H a = some o
  frG : ∀ a o, F a = some o → G a = none
section
variable {K : Fg} {G G' : Hp} {m : Mem} {F H : Hp}
theorem Wd.fresh (W : Wd K G m F H) {p : Addr} (hp : H p = none) : G p = none ∧ m p = none ∧ F p = none := by
  refine ⟨?_, ?_, ?_⟩
  · cases e : G p with
    | none => rfl
    | some o => rw [W.ex p o e] at hp; cases hp
  · cases e : m p with
    | none => rfl
    | some ds =>
      obtain ⟨_, _, xs, h, _⟩ := W.own p ds e
      rw [h] at hp; cases hp
  · cases e : F p with
    | none => rfl
    | some o => rw [W.fr p o e] at hp; cases hp
/-- a new object that stands for good -/
theorem Wd.new (W : Wd K G m F H) {p : Addr} (hp : H p = none) (o : HO) : Ex G (upd G p o) ∧ Wd K (upd G p o) m F (upd H p o) := by
  obtain ⟨hG, hm, hF⟩ := W.fresh hp
  have e : Ex G (upd G p o) := Ex.new hG
  refine ⟨e, fun a u h => ?_, fun a ds h => ?_, fun a u h => ?_, fun a u h => ?_⟩
  · by_cases q : a = p
    · subst q; rw [upd_same] at h ⊢; exact h
    · rw [upd_ne q] at h ⊢; exact W.ex a u h
  · have q : a ≠ p := fun z => by subst z; rw [hm] at h; cases h
    obtain ⟨h1, h2, xs, h3, h4⟩ := W.own a ds h
    exact ⟨by rw [upd_ne q]; exact h1, h2, xs, by rw [upd_ne q]; exact h3, h4.mono e⟩
  · have q : a ≠ p := fun z => by subst z; rw [hF] at h; cases h
    rw [upd_ne q]; exact W.fr a u h
  · have q : a ≠ p := fun z => by subst z; rw [hF] at h; cases h
    rw [upd_ne q]; exact W.frG a u h
/-- a new owned list -/
theorem Wd.newOwn (W : Wd K G m F H) {p : Addr} (hp : H p = none) {xs : List V} {ds : List D} (r : RpA K G xs ds) : m p = none ∧ Wd K G (m.up p ds) F (upd H p (.lst xs)) := by
  obtain ⟨hG, hm, hF⟩ := W.fresh hp
  refine ⟨hm, fun a u h => ?_, fun a es h => ?_, fun a u h => ?_, W.frG⟩
  · have q : a ≠ p := fun z => by subst z; rw [hG] at h; cases h
    rw [upd_ne q]; exact W.ex a u h
  · by_cases q : a = p
    · subst q
      rw [Mem.up_same] at h
      cases h
      exact ⟨hG, hF, xs, upd_same, r⟩
    · rw [Mem.up_ne q] at h
      obtain ⟨h1, h2, ys, h3, h4⟩ := W.own a es h
      exact ⟨h1, h2, ys, by rw [upd_ne q]; exact h3, h4⟩
  · have q : a ≠ p := fun z => by subst z; rw [hF] at h; cases h
    rw [upd_ne q]; exact W.fr a u h
/-- an owned list is changed -/
theorem Wd.put (W : Wd K G m F H) {p : Addr} {ds0 : List D} (hp : m p = some ds0) {xs : List V} {ds : List D} (r : RpA K G xs ds) : Wd K G (m.up p ds) F (upd H p (.lst xs)) := by
  obtain ⟨hG, hF, _⟩ := W.own p ds0 hp
  refine ⟨fun a u h => ?_, fun a es h => ?_, fun a u h => ?_, W.frG⟩
  · have q : a ≠ p := fun z => by subst z; rw [hG] at h; cases h
    rw [upd_ne q]; exact W.ex a u h
  · by_cases q : a = p
    · subst q
      rw [Mem.up_same] at h
      cases h
      exact ⟨hG, hF, xs, upd_same, r⟩
    · rw [Mem.up_ne q] at h
      obtain ⟨h1, h2, ys, h3, h4⟩ := W.own a es h
      exact ⟨h1, h2, ys, by rw [upd_ne q]; exact h3, h4⟩
  · have q : a ≠ p := fun z => by subst z; rw [hF] at h; cases h
    rw [upd_ne q]; exact W.fr a u h
/-- a frame more: one new object -/
theorem Wd.frame (W : Wd K G m F H) {p : Addr} (hp : H p = none) (o : HO) : Wd K G m (upd F p o) (upd H p o) := by
  obtain ⟨hG, hm, hF⟩ := W.fresh hp
  refine ⟨fun a u h => ?_, fun a ds e => ?_, fun a u e => ?_, fun a u e => ?_⟩
  · have q : a ≠ p := fun z => by subst z; rw [hG] at h; cases h
    rw [upd_ne q]; exact W.ex a u h
  · have q : a ≠ p := fun z => by subst z; rw [hm] at e; cases e
    obtain ⟨h1, h2, xs, h3, h4⟩ := W.own a ds e
    exact ⟨h1, by rw [upd_ne q]; exact h2, xs, by rw [upd_ne q]; exact h3, h4⟩
  · by_cases q : a = p
    · subst q; rw [upd_same] at e ⊢; exact e
    · rw [upd_ne q] at e ⊢; exact W.fr a u e
  · by_cases q : a = p
    · subst q; exact hG
    · rw [upd_ne q] at e; exact W.frG a u e
/-- the frame's object is changed -/
theorem Wd.reframe {p : Addr} {o : HO} (W : Wd K G m (upd F p o) H) (o' : HO) : Wd K G m (upd F p o') (upd H p o') := by
  have hG : G p = none := W.frG p o upd_same
  have hm : m p = none := by
    cases e : m p with
    | none => rfl
    | some ds =>
      obtain ⟨_, h, _⟩ := W.own p ds e
      rw [upd_same] at h; cases h
  refine ⟨fun a u h => ?_, fun a ds e => ?_, fun a u e => ?_, fun a u e => ?_⟩
  · have q : a ≠ p := fun z => by subst z; rw [hG] at h; cases h
    rw [upd_ne q]; exact W.ex a u h
  · have q : a ≠ p := fun z => by subst z; rw [hm] at e; cases e
    obtain ⟨h1, h2, xs, h3, h4⟩ := W.own a ds e
    rw [upd_ne q] at h2
    exact ⟨h1, by rw [upd_ne q]; exact h2, xs, by rw [upd_ne q]; exact h3, h4⟩
  · by_cases q : a = p
    · subst q; rw [upd_same] at e ⊢; exact e
    · rw [upd_ne q] at e ⊢
      exact W.fr a u (by rw [upd_ne q]; exact e)
  · by_cases q : a = p
    · subst q; exact hG
    · rw [upd_ne q] at e
      exact W.frG a u (by rw [upd_ne q]; exact e)
/-- the frame's object stands for good from here on -/
theorem Wd.adopt {p : Addr} {o : HO} (W : Wd K G m (upd F p o) H) (hF : F p = none) : Ex G (upd G p o) ∧ Wd K (upd G p o) m F H := by
  have hG : G p = none := W.frG p o upd_same
  have e : Ex G (upd G p o) := Ex.new hG
  refine ⟨e, fun a u h => ?_, fun a ds h => ?_, fun a u h => ?_, fun a u h => ?_⟩
  · by_cases q : a = p
    · subst q; rw [upd_same] at h; cases h; exact W.fr _ _ upd_same
    · rw [upd_ne q] at h; exact W.ex a u h
  · obtain ⟨h1, h2, xs, h3, h4⟩ := W.own a ds h
    have q : a ≠ p := fun z => by subst z; rw [upd_same] at h2; cases h2
    rw [upd_ne q] at h2
    exact ⟨by rw [upd_ne q]; exact h1, h2, xs, h3, h4.mono e⟩
  · have q : a ≠ p := fun z => by subst z; rw [hF] at h; cases h
    exact W.fr a u (by rw [upd_ne q]; exact h)
  · have q : a ≠ p := fun z => by subst z; rw [hF] at h; cases h
    rw [upd_ne q]
    exact W.frG a u (by rw [upd_ne q]; exact h)
end

/-! ### slots -/
abbrev En0 := List (Option D)
inductive En (K : Fg) (G : Hp) : L2.St → En0 → Prop
  | nil : En K G [] []
  | skip {o : Option V} {σ : L2.St} {ρ : En0} : En K G σ ρ → En K G (o :: σ) (none :: ρ)
  | has {v : V} {d : D} {σ : L2.St} {ρ : En0} : Rp K G v d → En K G σ ρ → En K G (some v :: σ) (some d :: ρ)
section
variable {K : Fg} {G G' : Hp}
theorem En.mono (e : Ex G G') : ∀ {σ : L2.St} {ρ : En0}, En K G σ ρ → En K G' σ ρ
  | _, _, .nil => .nil
  | _, _, .skip t => .skip (En.mono e t)
  | _, _, .has r t => .has (r.mono e) (En.mono e t)
theorem En.get : ∀ {σ : L2.St} {ρ : En0} {i : Nat} {d : D}, En K G σ ρ → ρ[i]? = some (some d) → ∃ v, σ[i]? = some (some v) ∧ Rp K G v d
  | _, _, _, _, .nil, e => by simp at e
  | _, _, 0, _, .skip _, e => by simp at e
  | _, _, 0, _, .has r _, e => by simp at e; subst e; exact ⟨_, rfl, r⟩
  | _, _, i + 1, d, .skip t, e => by
    obtain ⟨v, h1, h2⟩ := En.get (i := i) (d := d) t (by simpa using e)
    exact ⟨v, by simpa using h1, h2⟩
  | _, _, i + 1, d, .has _ t, e => by
    obtain ⟨v, h1, h2⟩ := En.get (i := i) (d := d) t (by simpa using e)
    exact ⟨v, by simpa using h1, h2⟩
theorem En.put {v : V} {d : D} (r : Rp K G v d) : ∀ {σ : L2.St} {ρ : En0} (i : Nat), En K G σ ρ → En K G (σ.set i (some v)) (ρ.set i (some d))
  | _, _, _, .nil => .nil
  | _, _, 0, .skip t => .has r t
  | _, _, 0, .has _ t => .has r t
  | _, _, i + 1, .skip t => .skip (En.put r i t)
  | _, _, i + 1, .has q t => .has q (En.put r i t)
theorem En.del : ∀ {σ : L2.St} {ρ : En0} (i : Nat), En K G σ ρ → En K G (σ.set i none) (ρ.set i none)
  | _, _, _, .nil => .nil
  | _, _, 0, .skip t => .skip t
  | _, _, 0, .has _ t => .skip t
  | _, _, i + 1, .skip t => .skip (En.del i t)
  | _, _, i + 1, .has q t => .has q (En.del i t)
def wipeD (ρ : En0) : List Nat → En0
  | [] => ρ
  | v :: vs => (wipeD ρ vs).set v none
theorem En.wipe {σ : L2.St} {ρ : En0} (e : En K G σ ρ) : ∀ vs : List Nat, En K G (L2.wipe σ vs) (wipeD ρ vs)
  | [] => e
  | v :: vs => (En.wipe e vs).del v
theorem En.blank : ∀ (σ : L2.St), En K G σ (List.replicate σ.length Option.none)
  | [] => .nil
  | o :: σ => .skip (En.blank σ)
theorem En.start : ∀ {vs : List V} {ds : List D} (n : Nat), RpA K G vs ds → En K G (vs.map some ++ List.replicate n none) (ds.map some ++ List.replicate n none)
  | _, _, n, .nil => by
    have q := En.blank (K := K) (G := G) (List.replicate n Option.none)
    rw [List.length_replicate] at q
    exact q
  | _, _, n, .cons r t => .has r (En.start n t)
end

/-! ### readings by data -/
/-- an exception: its class's name, its field -/
structure Xn where
  cls : Str
  fld : Str
  val : D
abbrev XQ := Xn → Mem → Prop
abbrev WE := En0 → Mem → (D → Mem → Prop) → XQ → Prop
abbrev WT := En0 → Mem → (Bool → Mem → Prop) → XQ → Prop
abbrev WA := En0 → Mem → (List D → Mem → Prop) → XQ → Prop
abbrev WO := En0 → Mem → (Option Int → Mem → Prop) → XQ → Prop
structure De where
  nx : En0 → Mem → Prop
  rt : D → Mem → Prop
  bk : En0 → Mem → Prop := fun _ _ => False
  ct : En0 → Mem → Prop := fun _ _ => False
  ex : XQ := fun _ _ => False
abbrev WS := De → En0 → Mem → Prop
/-- the exception's own dict bears its field -/
def Xr (K : Fg) (G : Hp) (x : Xn) (d : Option Addr) : Prop := ∃ dd v, d = some dd ∧ G dd = some (.xd [(x.fld, v)]) ∧ Rp K G v x.val
theorem Xr.mono {K : Fg} {G G' : Hp} {x : Xn} {d : Option Addr} (e : Ex G G') (h : Xr K G x d) : Xr K G' x d := by
  obtain ⟨dd, v, h1, h2, h3⟩ := h
  exact ⟨dd, v, h1, e _ _ h2, h3.mono e⟩
/-- a wish about exceptions, by the class's name -/
abbrev Wx := Str → Option Addr → L2.St → Hp → Prop
/-- what is raised is what W wishes -/
def FitX (K : Fg) (W : Wx) (G : Hp) (F : Hp) (Qx : XQ) : Prop := ∀ x m' d σ' G' H', Qx x m' → Ex G G' → Wd K G' m' F H' → Xr K G' x d → W x.cls d σ' H'
theorem FitX.mono {K : Fg} {W : Wx} {G G' : Hp} {F : Hp} {Qx : XQ} (f : FitX K W G F Qx) (e : Ex G G') : FitX K W G' F Qx := fun x m' d σ' G2 H' q e2 => f x m' d σ' G2 H' q (e.trans e2)
def FitE (K : Fg) (G : Hp) (F : Hp) (Q : VK) (Qd : D → Mem → Prop) : Prop := ∀ d m' v G' H', Qd d m' → Ex G G' → Wd K G' m' F H' → Rp K G' v d → Q v H'
def LiftE (K : Fg) (W : Wx) (t : TE) (w : WE) : Prop := ∀ G m F H σ ρ (Q : VK) (Qd : D → Mem → Prop) (Qx : XQ), Wd K G m F H → En K G σ ρ → w ρ m Qd Qx → FitX K W G F Qx → FitE K G F Q Qd → t σ H Q
def LiftT (K : Fg) (W : Wx) (t : TT) (w : WT) : Prop := ∀ G m F H σ ρ (Q : Bool → Hp → Prop) (Qd : Bool → Mem → Prop) (Qx : XQ), Wd K G m F H → En K G σ ρ → w ρ m Qd Qx → FitX K W G F Qx →
  (∀ b m' G' H', Qd b m' → Ex G G' → Wd K G' m' F H' → Q b H') → t σ H Q
def LiftO (K : Fg) (W : Wx) (t : TO) (w : WO) : Prop := ∀ G m F H σ ρ (Q : Option Int → Hp → Prop) (Qd : Option Int → Mem → Prop) (Qx : XQ), Wd K G m F H → En K G σ ρ → w ρ m Qd Qx → FitX K W G F Qx →
  (∀ b m' G' H', Qd b m' → Ex G G' → Wd K G' m' F H' → Q b H') → t σ H Q
def LiftA (K : Fg) (W : Wx) (t : TA) (w : WA) : Prop := ∀ G m F H σ ρ (Q : List V → Hp → Prop) (Qd : List D → Mem → Prop) (Qx : XQ), Wd K G m F H → En K G σ ρ → w ρ m Qd Qx → FitX K W G F Qx →
  (∀ ds m' vs G' H', Qd ds m' → Ex G G' → Wd K G' m' F H' → RpA K G' vs ds → Q vs H') → t σ H Q
structure FitS (K : Fg) (W : Wx) (G : Hp) (F : Hp) (E : De) (S : Ends) : Prop where
  nx : ∀ ρ' m' σ' G' H', E.nx ρ' m' → Ex G G' → Wd K G' m' F H' → En K G' σ' ρ' → S.nx σ' H'
  rt : ∀ d m' v G' H', E.rt d m' → Ex G G' → Wd K G' m' F H' → Rp K G' v d → S.rt v H'
  bk : ∀ ρ' m' σ' G' H', E.bk ρ' m' → Ex G G' → Wd K G' m' F H' → En K G' σ' ρ' → S.bk σ' H'
  ct : ∀ ρ' m' σ' G' H', E.ct ρ' m' → Ex G G' → Wd K G' m' F H' → En K G' σ' ρ' → S.ct σ' H'
  ex : FitX K W G F E.ex
theorem FitS.mono {K : Fg} {W : Wx} {G G' : Hp} {F : Hp} {E : De} {S : Ends} (f : FitS K W G F E S) (e : Ex G G') : FitS K W G' F E S :=
  ⟨fun a b c G2 H' q e2 => f.nx a b c G2 H' q (e.trans e2), fun a b c G2 H' q e2 => f.rt a b c G2 H' q (e.trans e2), fun a b c G2 H' q e2 => f.bk a b c G2 H' q (e.trans e2), fun a b c G2 H' q e2 => f.ct a b c G2 H' q (e.trans e2), f.ex.mono e⟩
def LiftS (K : Fg) (W : Wx) (t : TS) (w : WS) : Prop := ∀ G m F H σ ρ (S : Ends) (E : De), Wd K G m F H → En K G σ ρ → w E ρ m → FitS K W G F E S → t S σ H

/-- a family of contexts of one def -/
structure Fam (P : Program) (w : World) (K : Fg) (mg : Str → Option Value) (base : Heap) (k : Nat) (N : List Str) {ι : Type} (X : ι → Cx) : Prop where
  prog : ∀ i, (X i).prog = P
  w : ∀ i, (X i).w = w
  K : ∀ i, (X i).K = K
  mg : ∀ i, (X i).mg = mg
  base : ∀ i, (X i).base = base
  hN : ∀ i, (X i).N = N
  calm : ∀ i, (X i).calm = true
  room : ∀ i, Room k (X i).A
  nd : N.Nodup

def PD (K : Fg) (W : Wx) {ι : Type} (X : ι → Cx) (e : Expr) (w : WE) : Prop := ∃ t, (∀ i, PE (X i) e t) ∧ LiftE K W t w
def PDT (K : Fg) (W : Wx) {ι : Type} (X : ι → Cx) (e : Expr) (w : WT) : Prop := ∃ t, (∀ i, PT (X i) e t) ∧ LiftT K W t w
def PDW (K : Fg) (W : Wx) {ι : Type} (X : ι → Cx) (e : Expr) (w : WT) : Prop := ∃ t, (∀ i, PW (X i) e t) ∧ LiftT K W t w
def PDO (K : Fg) (W : Wx) {ι : Type} (X : ι → Cx) (e : Option Expr) (w : WO) : Prop := ∃ t, (∀ i, PO (X i) e t) ∧ LiftO K W t w
def PDA (K : Fg) (W : Wx) {ι : Type} (X : ι → Cx) (es : List Expr) (w : WA) : Prop := ∃ t, (∀ i, PA (X i) es t) ∧ LiftA K W t w
def PDS (K : Fg) (W : Wx) {ι : Type} (X : ι → Cx) (s : Stmt) (w : WS) : Prop := ∃ t, (∀ i, PS (X i) s t) ∧ LiftS K W t w
def PDB (K : Fg) (W : Wx) {ι : Type} (X : ι → Cx) (s : List Stmt) (w : WS) : Prop := ∃ t, (∀ i, PSs (X i) s t) ∧ LiftS K W t w

/-! ### names, constants -/
def wVar (i : Nat) : WE := fun ρ m Q _ => match ρ[i]? with
  | some (some d) => Q d m
  | _ => False
def wC (d : D) : WE := fun _ m Q _ => Q d m
section
variable {K : Fg} {W : Wx} {ι : Type} {X : ι → Cx} {pos : Pos}
theorem lift_var {i : Nat} : LiftE K W (tVar i) (wVar i) := by
  intro G m F H σ ρ Q Qd Qx hW hE h hX hQ
  unfold wVar at h
  split at h
  · rename_i d e
    obtain ⟨v, h1, h2⟩ := hE.get e
    exact ⟨v, h1, hQ d m v G H h (Ex.refl G) hW h2⟩
  · cases h
theorem pd_var (i : Nat) {N : List Str} {x : Str} (hX : ∀ j, (X j).N = N) (hN : N[i]? = some x := by rfl) (hv : ∀ j, Vis (X j).env.scope x := by intro _; first | exact Or.inl rfl | exact Or.inr (Or.inl rfl) | exact Or.inr (Or.inr rfl)) (hd : (x == ("__debug__" : Str)) = false := by decide) (hc : (x == ("__classdict__" : Str)) = false := by decide) : PD K W X (.Name x pos) (wVar i) :=
  ⟨tVar i, fun j => pe_var (by rw [hX j]; exact hN) (hv j) hd hc, lift_var⟩
theorem lift_c {v : V} {d : D} (r : ∀ G, Rp K G v d) : LiftE K W (tC v) (wC d) := fun G m F H σ ρ Q Qd Qx hW hE h hX hQ => hQ d m v G H h (Ex.refl G) hW (r G)
theorem pd_int {i : Int} {j : Nat} : PD K W X (.Constant (.int i) j pos) (wC (.int i)) := ⟨_, fun _ => pe_int, lift_c fun _ => .int i⟩
theorem pd_bl {b : Bool} {j : Nat} : PD K W X (.Constant (.bool b) j pos) (wC (.bl b)) := ⟨_, fun _ => pe_bl, lift_c fun _ => .bl b⟩
theorem pd_non {j : Nat} : PD K W X (.Constant .none j pos) (wC .non) := ⟨_, fun _ => pe_non, lift_c fun _ => .non⟩
theorem pd_str {x : Str} {j : Nat} : PD K W X (.Constant (.str x) j pos) (wC (.str x)) := ⟨_, fun _ => pe_str, lift_c fun _ => .str x⟩
/-- a built-in type's name as a value -/
theorem pd_ty {mg : Str → Option Value} {x : Str} {n : String} (hX : ∀ j, (X j).mg = mg) (hm : mg x = none) (hv : bootBuiltins x = some (.type n)) (hg : ∀ j, Gl (X j) x := by intro _; rfl) (hn : x ≠ "__name__" := by decide) (hd : (x == ("__debug__" : Str)) = false := by decide) :
    PD K W X (.Name x pos) (wC (.ty n)) := ⟨tC (.ty n), fun j => pe_bltn (hg j) (by rw [hX j]; exact hm) hv rfl hn hd, lift_c fun _ => .ty n⟩
/-- a constant of the module -/
theorem pd_glob {mg : Str → Option Value} {x : Str} {v : V} {u : Value} {d : D} (hX : ∀ j, (X j).mg = mg) (hm : mg x = some u) (r : RelV v u) (rp : ∀ G, Rp K G v d) (hg : ∀ j, Gl (X j) x := by intro _; rfl) (hd : (x == ("__debug__" : Str)) = false := by decide) :
    PD K W X (.Name x pos) (wC d) := ⟨_, fun j => pe_glob (hg j) (by rw [hX j]; exact hm) r hd, lift_c rp⟩
theorem pd_globI {mg : Str → Option Value} {x : Str} {i : Int} (hX : ∀ j, (X j).mg = mg) (hm : ∃ t, mg x = some (.int i t)) (hg : ∀ j, Gl (X j) x := by intro _; rfl) (hd : (x == ("__debug__" : Str)) = false := by decide) : PD K W X (.Name x pos) (wC (.int i)) := by
  obtain ⟨t, hm⟩ := hm
  exact pd_glob (v := V.int i) hX hm ⟨t, rfl⟩ (fun _ => .int i) hg hd
end

/-! ### operators -/
abbrev WR := D → D → Mem → (D → Mem → Prop) → Prop
def LiftR (K : Fg) (r : R2) (w : WR) : Prop := ∀ G m F H x y dx dy (Q : VK) (Qd : D → Mem → Prop), Wd K G m F H → Rp K G x dx → Rp K G y dy → w dx dy m Qd → FitE K G F Q Qd → r x y H Q
def wOp (r : WR) (a b : WE) : WE := fun ρ m Q Qx => a ρ m (fun x m1 => b ρ m1 (fun y m2 => r x y m2 Q) Qx) Qx
theorem lift_op {K : Fg} {W : Wx} {r : R2} {w : WR} {ta tb : TE} {a b : WE} (hr : LiftR K r w) (ha : LiftE K W ta a) (hb : LiftE K W tb b) : LiftE K W (tOp r ta tb) (wOp w a b) := by
  intro G m F H σ ρ Q Qd Qx hW hE h hX hQ
  refine ha G m F H σ ρ _ _ Qx hW hE h hX ?_
  intro dx m1 x G1 H1 h1 e1 W1 r1
  refine hb G1 m1 F H1 σ ρ _ _ Qx W1 (hE.mono e1) h1 (hX.mono e1) ?_
  intro dy m2 y G2 H2 h2 e2 W2 r2
  exact hr G2 m2 F H2 x y dx dy Q Qd W2 (r1.mono e2) r2 h2 fun d m' v G' H' q e => hQ d m' v G' H' q ((e1.trans e2).trans e)
theorem LiftR.or {K : Fg} {r r' : R2} {w w' : WR} (h : LiftR K r w) (h' : LiftR K r' w') : LiftR K (fun x y H Q => r x y H Q ∨ r' x y H Q) (fun x y m Q => w x y m Q ∨ w' x y m Q) := by
  intro G m F H x y dx dy Q Qd hW rx ry h0 hQ
  rcases h0 with h0 | h0
  · exact Or.inl (h G m F H x y dx dy Q Qd hW rx ry h0 hQ)
  · exact Or.inr (h' G m F H x y dx dy Q Qd hW rx ry h0 hQ)
theorem LiftR.imp {K : Fg} {r : R2} {w w' : WR} (h : LiftR K r w) (hi : ∀ x y m Q, w' x y m Q → w x y m Q) : LiftR K r w' := fun G m F H x y dx dy Q Qd hW rx ry h0 hQ => h G m F H x y dx dy Q Qd hW rx ry (hi dx dy m Qd h0) hQ

theorem FitE.here {K : Fg} {G F H : Hp} {m : Mem} {Q : VK} {Qd : D → Mem → Prop} (hQ : FitE K G F Q Qd) (hW : Wd K G m F H) {d : D} {v : V} (q : Qd d m) (r : Rp K G v d) : Q v H := hQ d m v G H q (Ex.refl G) hW r
/-- a new list, a new tuple -/
theorem FitE.lst {K : Fg} {G F H : Hp} {m : Mem} {Q : VK} {Qd : D → Mem → Prop} (hQ : FitE K G F Q Qd) (hW : Wd K G m F H) {ds : List D} {xs : List V} (q : Qd (.lst ds) m) (r : RpA K G xs ds) : ∀ p, H p = none → Q (.ref p) (upd H p (.lst xs)) := fun p hp => by
  obtain ⟨e, W'⟩ := hW.new hp (.lst xs)
  exact hQ _ m _ _ _ q e W' (.lst upd_same (r.mono e))
theorem FitE.tup {K : Fg} {G F H : Hp} {m : Mem} {Q : VK} {Qd : D → Mem → Prop} (hQ : FitE K G F Q Qd) (hW : Wd K G m F H) {ds : List D} {xs : List V} (q : Qd (.tup ds) m) (r : RpA K G xs ds) : ∀ p, H p = none → Q (.ref p) (upd H p (.tup xs)) := fun p hp => by
  obtain ⟨e, W'⟩ := hW.new hp (.tup xs)
  exact hQ _ m _ _ _ q e W' (.tup (SqT.of upd_same) (r.mono e))
theorem Rp.seqT {K : Fg} {G H : Hp} {a : Addr} {ds : List D} (e : Ex G H) (r : Rp K G (.ref a) (.tup ds)) : ∃ xs, SqT K H a xs ∧ RpA K G xs ds := by
  cases r with
  | tup h q => exact ⟨_, Evl.ex_t e h, q⟩

/-! ### + - * // % ** -/
def dAdd : WR := fun x y m Q => match x, y with
  | .int i, .int j => Q (.int (i + j)) m
  | .str a, .str b => a.length + b.length ≤ sizeLine ∧ Q (.str (a ++ b)) m
  | .lst a, .lst b => a.length + b.length ≤ sizeLine ∧ Q (.lst (a ++ b)) m
  | .tup a, .tup b => a.length + b.length ≤ sizeLine ∧ Q (.tup (a ++ b)) m
  | _, _ => False
def rAdd (K : Fg) : R2 := fun x y H Q => (rI0 (fun i j => .int (i + j)) x y H Q ∨ (∃ i j, x = .str i ∧ y = .str j ∧ i.length + j.length ≤ sizeLine ∧ Q (.str (i ++ j)) H)) ∨ (rCat x y H Q ∨ rCatA K x y H Q)
theorem op_addU {X : Cx} : OpR X (binaryOp .Add) (rAdd X.K) := (op_add.or op_add_str).or (op_cat.or op_catA)
theorem lift_add {K : Fg} : LiftR K (rAdd K) dAdd := by
  intro G m F H x y dx dy Q Qd hW rx ry h hQ
  cases rx <;> cases ry <;> first | exact (show False from h).elim | skip
  case int.int i j => exact Or.inl (Or.inl ⟨i, j, rfl, rfl, hQ.here hW h (.int _)⟩)
  case str.str a b => exact Or.inl (Or.inr ⟨a, b, rfl, rfl, h.1, hQ.here hW h.2 (.str _)⟩)
  case lst.lst a xs ds h1 r1 b ys es h2 r2 =>
    refine Or.inr (Or.inl ⟨a, b, xs, ys, rfl, rfl, hW.ex _ _ h1, hW.ex _ _ h2, by rw [r1.len, r2.len]; exact h.1, ?_⟩)
    exact hQ.lst hW h.2 (r1.app r2)
  case tup.tup a xs ds h1 r1 b ys es h2 r2 =>
    refine Or.inr (Or.inr ⟨a, b, xs, ys, rfl, rfl, Evl.ex_t hW.ex h1, Evl.ex_t hW.ex h2, by rw [r1.len, r2.len]; exact h.1, fun e => ?_, fun _ e => ?_, fun _ _ => hQ.tup hW h.2 (r1.app r2)⟩)
    · subst e
      cases r1
      exact hQ.here hW h.2 (.tup h2 r2)
    · subst e
      cases r2
      have q := h.2
      rw [List.append_nil] at q
      exact hQ.here hW q (.tup h1 r1)
def dSub : WR := fun x y m Q => match x, y with
  | .int i, .int j => Q (.int (i - j)) m
  | _, _ => False
theorem lift_sub {K : Fg} : LiftR K (rI0 fun i j => .int (i - j)) dSub := by
  intro G m F H x y dx dy Q Qd hW rx ry h hQ
  cases rx <;> cases ry <;> first | exact (show False from h).elim | skip
  case int.int i j => exact ⟨i, j, rfl, rfl, hQ.here hW h (.int _)⟩
def dMul : WR := fun x y m Q => match x, y with
  | .int i, .int j => (CMul i j ∨ CMulW i j) ∧ Q (.int (i * j)) m
  | .lst a, .int k => (-(2 ^ 63) ≤ k ∧ k < 2 ^ 63 ∧ a.length * k.toNat ≤ sizeLine) ∧ Q (.lst (List.replicate k.toNat a).flatten) m
  | _, _ => False
def rMul : R2 := fun x y H Q => (rI CMul (fun i j => .int (i * j)) x y H Q ∨ rI CMulW (fun i j => .int (i * j)) x y H Q) ∨ rRep x y H Q
theorem op_mulU {X : Cx} : OpR X (binaryOp .Mult) rMul := (op_mul.or op_mulW).or op_rep
theorem lift_mul {K : Fg} : LiftR K rMul dMul := by
  intro G m F H x y dx dy Q Qd hW rx ry h hQ
  cases rx <;> cases ry <;> first | exact (show False from h).elim | skip
  case int.int i j =>
    rcases h.1 with c | c
    · exact Or.inl (Or.inl ⟨i, j, rfl, rfl, c, hQ.here hW h.2 (.int _)⟩)
    · exact Or.inl (Or.inr ⟨i, j, rfl, rfl, c, hQ.here hW h.2 (.int _)⟩)
  case lst.int a xs ds h1 r1 k =>
    exact Or.inr ⟨a, k, xs, rfl, rfl, hW.ex _ _ h1, h.1.1, h.1.2.1, by rw [r1.len]; exact h.1.2.2, hQ.lst hW h.2 (r1.rep _)⟩
def dDiv : WR := fun x y m Q => match x, y with
  | .int i, .int j => CDivW i j ∧ Q (.int (i / j)) m
  | _, _ => False
theorem lift_div {K : Fg} : LiftR K (rI CDivW fun i j => .int (i / j)) dDiv := by
  intro G m F H x y dx dy Q Qd hW rx ry h hQ
  cases rx <;> cases ry <;> first | exact (show False from h).elim | skip
  case int.int i j => exact ⟨i, j, rfl, rfl, h.1, hQ.here hW h.2 (.int _)⟩
def dMod : WR := fun x y m Q => match x, y with
  | .int i, .int j => 0 < j ∧ Q (.int (i % j)) m
  | _, _ => False
theorem lift_mod {K : Fg} : LiftR K (rI (fun _ j => 0 < j) fun i j => .int (i % j)) dMod := by
  intro G m F H x y dx dy Q Qd hW rx ry h hQ
  cases rx <;> cases ry <;> first | exact (show False from h).elim | skip
  case int.int i j => exact ⟨i, j, rfl, rfl, h.1, hQ.here hW h.2 (.int _)⟩
def dPow : WR := fun x y m Q => match x, y with
  | .int i, .int j => CPow i j ∧ Q (.int (i ^ j.toNat)) m
  | _, _ => False
theorem lift_pow {K : Fg} : LiftR K (rI CPow fun i j => .int (i ^ j.toNat)) dPow := by
  intro G m F H x y dx dy Q Qd hW rx ry h hQ
  cases rx <;> cases ry <;> first | exact (show False from h).elim | skip
  case int.int i j => exact ⟨i, j, rfl, rfl, h.1, hQ.here hW h.2 (.int _)⟩

/-! ### comparisons -/
mutual
/-- data as the library's plain data; what is no list, tuple or flat thing becomes a dict (which no rule takes) -/
def py : D → PyData
  | .non => .none
  | .bl b => .bool b
  | .int i => .int i
  | .str x => .str x
  | .lst ds => .list (pyA ds)
  | .tup ds => .tuple (pyA ds)
  | .scr ns => .list (ns.map .int)
  | .ty _ => .dict [] | .dct _ _ => .dict [] | .box _ => .dict [] | .obj _ _ _ => .dict []
def pyA : List D → List PyData
  | [] => []
  | d :: ds => py d :: pyA ds
end
theorem dp_ints {K : Fg} {H : Hp} : ∀ ns : List Int, DpAll K H (ns.map V.int) (ns.map PyData.int)
  | [] => .nil
  | n :: ns => .cons (.int n) (dp_ints ns)
mutual
theorem dp_of {K : Fg} {G H : Hp} (e : Ex G H) : ∀ (d : D) {v : V}, Rp K G v d → (py d).canLay0 = true → Dp K H v (py d)
  | .non, _, r, _ => by cases r; exact .non
  | .bl b, _, r, _ => by cases r; exact .bl b
  | .int i, _, r, _ => by cases r; exact .int i
  | .str x, _, r, _ => by cases r; exact .str x
  | .lst ds, _, r, c => by
    cases r with
    | lst h q => exact .lst (SqL.of (e _ _ h)) (dpa_of e ds q (by simpa [py, PyData.canLay0] using c))
  | .tup ds, _, r, c => by
    cases r with
    | tup h q => exact .tup (Evl.ex_t e h) (dpa_of e ds q (by simpa [py, PyData.canLay0] using c))
  | .scr ns, _, r, c => by
    cases r with
    | scr h => exact .lst (Evl.ex_l e h) (dp_ints ns)
  | .ty _, _, _, c => by simp [py, PyData.canLay0] at c
  | .dct _ _, _, _, c => by simp [py, PyData.canLay0] at c
  | .box _, _, _, c => by simp [py, PyData.canLay0] at c
  | .obj _ _ _, _, _, c => by simp [py, PyData.canLay0] at c
theorem dpa_of {K : Fg} {G H : Hp} (e : Ex G H) : ∀ (ds : List D) {vs : List V}, RpA K G vs ds → PyData.canLayAll0 (pyA ds) = true → DpAll K H vs (pyA ds)
  | [], _, r, _ => by cases r; exact .nil
  | d :: ds, _, r, c => by
    cases r with
    | cons r t =>
      have c' : (py d).canLay0 = true ∧ PyData.canLayAll0 (pyA ds) = true := by simpa [pyA, PyData.canLayAll0] using c
      exact .cons (dp_of e d r c'.1) (dpa_of e ds t c'.2)
end
def dEqB (b : Bool) : WR := fun x y m Q => match x, y with
  | .int i, .int j => Q (.bl (decide (i = j) ^^ b)) m
  | .str i, .str j => Q (.bl (decide (i = j) ^^ b)) m
  | .bl i, .bl j => Q (.bl (decide (i = j) ^^ b)) m
  | x, y => SeqAt.shaped (py x) = true ∧ SeqAt.shaped (py y) = true ∧ Q (.bl (PyData.eqv (py x) (py y) ^^ b)) m
abbrev dEq : WR := dEqB false
abbrev dNe : WR := dEqB true
def rEqU (K : Fg) : R2 := fun x y H Q => rEq x y H Q ∨ rEqD K x y H Q
def rNeU (K : Fg) : R2 := fun x y H Q => rNe x y H Q ∨ rNeD K x y H Q
theorem op_eqU {X : Cx} (hu : X.A.units + 64 < cLine) : OpR X (compareOp .Eq) (rEqU X.K) := op_eq.or (op_eqD hu)
theorem op_neU {X : Cx} (hu : X.A.units + 64 < cLine) : OpR X (compareOp .NotEq) (rNeU X.K) := op_ne.or (op_neD hu)
theorem shaped_lay {d : PyData} (h : SeqAt.shaped d = true) : d.canLay0 = true := SeqAt.canLay_of_shaped h
theorem eq_gen {K : Fg} {G H : Hp} {x y : V} {dx dy : D} (e : Ex G H) (rx : Rp K G x dx) (ry : Rp K G y dy) (h1 : SeqAt.shaped (py dx) = true) (h2 : SeqAt.shaped (py dy) = true) :
    Dp K H x (py dx) ∧ Dp K H y (py dy) := ⟨dp_of e dx rx (shaped_lay h1), dp_of e dy ry (shaped_lay h2)⟩
theorem lift_eq {K : Fg} : LiftR K (rEqU K) dEq := by
  intro G m F H x y dx dy Q Qd hW rx ry h hQ
  unfold dEq dEqB at h
  split at h
  · cases rx; cases ry
    refine Or.inl ⟨rfl, ?_⟩
    rename_i i j
    have e : decide (V.int i = V.int j) = (decide (i = j) ^^ false) := by simp
    rw [e]; exact hQ.here hW h (.bl _)
  · cases rx; cases ry
    refine Or.inl ⟨rfl, ?_⟩
    rename_i i j
    have e : decide (V.str i = V.str j) = (decide (i = j) ^^ false) := by simp
    rw [e]; exact hQ.here hW h (.bl _)
  · cases rx; cases ry
    refine Or.inl ⟨rfl, ?_⟩
    rename_i i j
    have e : decide (V.bl i = V.bl j) = (decide (i = j) ^^ false) := by simp
    rw [e]; exact hQ.here hW h (.bl _)
  · obtain ⟨h1, h2, h3⟩ := h
    obtain ⟨p1, p2⟩ := eq_gen hW.ex rx ry h1 h2
    rw [Bool.xor_false] at h3
    exact Or.inr ⟨_, _, p1, p2, h1, h2, hQ.here hW h3 (.bl _)⟩
theorem lift_ne {K : Fg} : LiftR K (rNeU K) dNe := by
  intro G m F H x y dx dy Q Qd hW rx ry h hQ
  unfold dNe dEqB at h
  split at h
  · cases rx; cases ry
    refine Or.inl ⟨rfl, ?_⟩
    rename_i i j
    have e : (!decide (V.int i = V.int j)) = (decide (i = j) ^^ true) := by simp
    rw [e]; exact hQ.here hW h (.bl _)
  · cases rx; cases ry
    refine Or.inl ⟨rfl, ?_⟩
    rename_i i j
    have e : (!decide (V.str i = V.str j)) = (decide (i = j) ^^ true) := by simp
    rw [e]; exact hQ.here hW h (.bl _)
  · cases rx; cases ry
    refine Or.inl ⟨rfl, ?_⟩
    rename_i i j
    have e : (!decide (V.bl i = V.bl j)) = (decide (i = j) ^^ true) := by simp
    rw [e]; exact hQ.here hW h (.bl _)
  · obtain ⟨h1, h2, h3⟩ := h
    obtain ⟨p1, p2⟩ := eq_gen hW.ex rx ry h1 h2
    rw [Bool.xor_true] at h3
    exact Or.inr ⟨_, _, p1, p2, h1, h2, hQ.here hW h3 (.bl _)⟩
def dCmp (fi : Int → Int → Bool) (fs : List Nat → List Nat → Bool) : WR := fun x y m Q => match x, y with
  | .int i, .int j => Q (.bl (fi i j)) m
  | .str a, .str b => Q (.bl (fs a.cps.toList b.cps.toList)) m
  | _, _ => False
def rCmp (fi : Int → Int → Bool) (fs : List Nat → List Nat → Bool) : R2 := fun x y H Q => rI0 (fun i j => .bl (fi i j)) x y H Q ∨ (∃ i j, x = .str i ∧ y = .str j ∧ Q (.bl (fs i.cps.toList j.cps.toList)) H)
theorem lift_cmp {K : Fg} {fi : Int → Int → Bool} {fs : List Nat → List Nat → Bool} : LiftR K (rCmp fi fs) (dCmp fi fs) := by
  intro G m F H x y dx dy Q Qd hW rx ry h hQ
  cases rx <;> cases ry <;> first | exact (show False from h).elim | skip
  case int.int i j => exact Or.inl ⟨i, j, rfl, rfl, hQ.here hW h (.bl _)⟩
  case str.str i j => exact Or.inr ⟨i, j, rfl, rfl, hQ.here hW h (.bl _)⟩
abbrev dLt : WR := dCmp (fun i j => decide (i < j)) (fun a b => decide (a < b))
abbrev dLe : WR := dCmp (fun i j => decide (i ≤ j)) (fun a b => !decide (b < a))
abbrev dGt : WR := dCmp (fun i j => decide (j < i)) (fun a b => decide (b < a))
abbrev dGe : WR := dCmp (fun i j => decide (j ≤ i)) (fun a b => !decide (a < b))
theorem op_ltU {X : Cx} : OpR X (compareOp .Lt) (rCmp (fun i j => decide (i < j)) (fun a b => decide (a < b))) := op_lt.or op_lt_str
theorem op_leU {X : Cx} : OpR X (compareOp .LtE) (rCmp (fun i j => decide (i ≤ j)) (fun a b => !decide (b < a))) := op_le.or op_le_str
theorem op_gtU {X : Cx} : OpR X (compareOp .Gt) (rCmp (fun i j => decide (j < i)) (fun a b => decide (b < a))) := op_gt.or op_gt_str
theorem op_geU {X : Cx} : OpR X (compareOp .GtE) (rCmp (fun i j => decide (j ≤ i)) (fun a b => !decide (a < b))) := op_ge.or op_ge_str
/-- flat data, their equality -/
def flatD : D → Bool
  | .non => true | .bl _ => true | .int _ => true | .str _ => true | _ => false
def eqD : D → D → Bool
  | .non, .non => true
  | .bl a, .bl b => a == b
  | .bl a, .int b => (if a then 1 else 0) == b
  | .int a, .bl b => a == (if b then 1 else 0)
  | .int a, .int b => a == b
  | .str a, .str b => a == b
  | _, _ => false
def inD (x : D) (ds : List D) : Bool := ds.any fun y => eqD y x
theorem flat_of {K : Fg} {G : Hp} {v : V} {d : D} (r : Rp K G v d) (h : flatD d = true) : flatV v = true := by
  cases r <;> first | rfl | cases h
theorem flats_of {K : Fg} {G : Hp} : ∀ {vs : List V} {ds : List D}, RpA K G vs ds → ds.all flatD = true → vs.all flatV = true
  | _, _, .nil, _ => rfl
  | _, _, .cons r t, h => by
    rw [List.all_cons, Bool.and_eq_true] at h
    rw [List.all_cons, flat_of r h.1, flats_of t h.2]
    rfl
theorem eqv_of {K : Fg} {G : Hp} {v w : V} {d e : D} (r : Rp K G v d) (q : Rp K G w e) (h : flatD d = true) (h' : flatD e = true) : eqV v w = eqD d e := by
  cases r <;> first | (cases h; done) | (cases q <;> first | (cases h'; done) | rfl)
theorem inv_of {K : Fg} {G : Hp} {x : V} {dx : D} (rx : Rp K G x dx) (hx : flatD dx = true) : ∀ {vs : List V} {ds : List D}, RpA K G vs ds → ds.all flatD = true → inV x vs = inD dx ds
  | _, _, .nil, _ => rfl
  | _, _, .cons r t, h => by
    rw [List.all_cons, Bool.and_eq_true] at h
    have ih := inv_of rx hx t h.2
    unfold inV inD at ih ⊢
    rw [List.any_cons, List.any_cons, eqv_of r rx h.1 hx, ih]
def dInB (neg : Bool) : WR := fun x y m Q => match x, y with
  | .str a, .str z => (∃ c, a = ⟨#[c]⟩ ∧ Q (.bl (decide (c ∈ z.cps.toList) ^^ neg)) m)
  | x, .lst ds => flatD x = true ∧ ds.all flatD = true ∧ Q (.bl (inD x ds ^^ neg)) m
  | x, .tup ds => flatD x = true ∧ ds.all flatD = true ∧ Q (.bl (inD x ds ^^ neg)) m
  | _, _ => False
abbrev dIn : WR := dInB false
abbrev dNotIn : WR := dInB true
def rInU (K : Fg) (neg : Bool) : R2 := fun x y H Q => (∃ (c : Nat) (z : Str), x = .str ⟨#[c]⟩ ∧ y = .str z ∧ Q (.bl (decide (c ∈ z.cps.toList) ^^ neg)) H) ∨ rIn K neg x y H Q
theorem op_inU {X : Cx} : OpR X (compareOp .In) (rInU X.K false) := by
  have h := (op_in_sign (X := X)).or op_in_seq
  intro pins s σ H x y v u Q I rx ry q
  refine h pins s σ H x y v u Q I rx ry ?_
  rcases q with ⟨c, z, e1, e2, q⟩ | q
  · rw [Bool.xor_false] at q; exact Or.inl ⟨c, z, e1, e2, q⟩
  · exact Or.inr q
theorem op_notInU {X : Cx} : OpR X (compareOp .NotIn) (rInU X.K true) := by
  have h := (op_notIn_sign (X := X)).or op_notIn_seq
  intro pins s σ H x y v u Q I rx ry q
  refine h pins s σ H x y v u Q I rx ry ?_
  rcases q with ⟨c, z, e1, e2, q⟩ | q
  · rw [Bool.xor_true] at q; exact Or.inl ⟨c, z, e1, e2, q⟩
  · exact Or.inr q
theorem lift_in {K : Fg} {neg : Bool} : LiftR K (rInU K neg) (dInB neg) := by
  intro G m F H x y dx dy Q Qd hW rx ry h hQ
  have neg_if : ∀ b : Bool, (if neg = true then !b else b) = (b ^^ neg) := by intro b; cases neg <;> cases b <;> rfl
  unfold dInB at h
  split at h
  · cases rx; cases ry
    obtain ⟨c, rfl, q⟩ := h
    exact Or.inl ⟨c, _, rfl, rfl, hQ.here hW q (.bl _)⟩
  · obtain ⟨h1, h2, q⟩ := h
    cases ry with
    | lst hy r =>
      refine Or.inr ⟨_, _, rfl, Or.inl (SqL.of (hW.ex _ _ hy)), flat_of rx h1, flats_of r h2, ?_⟩
      rw [neg_if, inv_of rx h1 r h2]
      exact hQ.here hW q (.bl _)
  · obtain ⟨h1, h2, q⟩ := h
    cases ry with
    | tup hy r =>
      refine Or.inr ⟨_, _, rfl, Or.inr (Evl.ex_t hW.ex hy), flat_of rx h1, flats_of r h2, ?_⟩
      rw [neg_if, inv_of rx h1 r h2]
      exact hQ.here hW q (.bl _)
  · cases h
def isNonD : D → Bool
  | .non => true
  | _ => false
/-- x is None, x is not None -/
def dIsB (neg : Bool) : WR := fun x y m Q => match y with
  | .non => Q (.bl (isNonD x ^^ neg)) m
  | _ => False
theorem non_of {K : Fg} {G : Hp} {v : V} {d : D} (r : Rp K G v d) : decide (v = V.non) = isNonD d := by
  cases r <;> simp [isNonD]
theorem lift_is {K : Fg} : LiftR K (fun x y H Q => y = .non ∧ Q (.bl (decide (x = .non))) H) (dIsB false) := by
  intro G m F H x y dx dy Q Qd hW rx ry h hQ
  cases ry <;> first | exact (show False from h).elim | skip
  refine ⟨rfl, ?_⟩
  rw [non_of rx]
  have h : Qd (.bl (isNonD dx ^^ false)) m := h
  rw [Bool.xor_false] at h
  exact hQ.here hW h (.bl _)
theorem lift_isnot {K : Fg} : LiftR K (fun x y H Q => y = .non ∧ Q (.bl (!decide (x = .non))) H) (dIsB true) := by
  intro G m F H x y dx dy Q Qd hW rx ry h hQ
  cases ry <;> first | exact (show False from h).elim | skip
  refine ⟨rfl, ?_⟩
  rw [non_of rx]
  have h : Qd (.bl (isNonD dx ^^ true)) m := h
  rw [Bool.xor_true] at h
  exact hQ.here hW h (.bl _)

section
variable {K : Fg} {W : Wx} {ι : Type} {X : ι → Cx} {pos : Pos} {a b c : Expr} {wa wb wc : WE}
theorem bin_of {op : Operator} {r : R2} {w : WR} (ho : ∀ i, OpR (X i) (binaryOp op) r) (hr : LiftR K r w) (ha : PD K W X a wa) (hb : PD K W X b wb) : PD K W X (.BinOp a op b pos) (wOp w wa wb) := by
  obtain ⟨ta, h1, h2⟩ := ha
  obtain ⟨tb, h3, h4⟩ := hb
  exact ⟨_, fun i => pe_op (ho i) (h1 i) (h3 i), lift_op hr h2 h4⟩
theorem pd_add (hK : ∀ i, (X i).K = K) (ha : PD K W X a wa) (hb : PD K W X b wb) : PD K W X (.BinOp a .Add b pos) (wOp dAdd wa wb) := bin_of (fun i => hK i ▸ op_addU) lift_add ha hb
theorem pd_sub (ha : PD K W X a wa) (hb : PD K W X b wb) : PD K W X (.BinOp a .Sub b pos) (wOp dSub wa wb) := bin_of (fun _ => op_sub) lift_sub ha hb
theorem pd_mul (ha : PD K W X a wa) (hb : PD K W X b wb) : PD K W X (.BinOp a .Mult b pos) (wOp dMul wa wb) := bin_of (fun _ => op_mulU) lift_mul ha hb
theorem pd_div (ha : PD K W X a wa) (hb : PD K W X b wb) : PD K W X (.BinOp a .FloorDiv b pos) (wOp dDiv wa wb) := bin_of (fun _ => op_fdivW) lift_div ha hb
theorem pd_mod (ha : PD K W X a wa) (hb : PD K W X b wb) : PD K W X (.BinOp a .Mod b pos) (wOp dMod wa wb) := bin_of (fun _ => op_mod) lift_mod ha hb
theorem pd_pow (ha : PD K W X a wa) (hb : PD K W X b wb) : PD K W X (.BinOp a .Pow b pos) (wOp dPow wa wb) := bin_of (fun _ => op_pow) lift_pow ha hb
/-- a comparison's operator -/
def CmpU (K : Fg) {ι : Type} (X : ι → Cx) (op : CmpOp) (w : WR) : Prop := ∃ r, (∀ i, OpR (X i) (compareOp op) r) ∧ LiftR K r w
theorem c_eq {P : Program} {wo : World} {mg : Str → Option Value} {base : Heap} {k : Nat} {N : List Str} (hX : Fam P wo K mg base k N X) : CmpU K X .Eq dEq :=
  ⟨_, fun i => hX.K i ▸ op_eqU (by have := (hX.room i).un; omega), lift_eq⟩
theorem c_ne {P : Program} {wo : World} {mg : Str → Option Value} {base : Heap} {k : Nat} {N : List Str} (hX : Fam P wo K mg base k N X) : CmpU K X .NotEq dNe :=
  ⟨_, fun i => hX.K i ▸ op_neU (by have := (hX.room i).un; omega), lift_ne⟩
theorem c_lt : CmpU K X .Lt dLt := ⟨_, fun _ => op_ltU, lift_cmp⟩
theorem c_le : CmpU K X .LtE dLe := ⟨_, fun _ => op_leU, lift_cmp⟩
theorem c_gt : CmpU K X .Gt dGt := ⟨_, fun _ => op_gtU, lift_cmp⟩
theorem c_ge : CmpU K X .GtE dGe := ⟨_, fun _ => op_geU, lift_cmp⟩
theorem c_in (hK : ∀ i, (X i).K = K) : CmpU K X .In dIn := ⟨_, fun i => hK i ▸ op_inU, lift_in⟩
theorem c_notIn (hK : ∀ i, (X i).K = K) : CmpU K X .NotIn dNotIn := ⟨_, fun i => hK i ▸ op_notInU, lift_in⟩
theorem c_is : CmpU K X .Is (dIsB false) := ⟨_, fun _ => op_isN, lift_is⟩
theorem c_isNot : CmpU K X .IsNot (dIsB true) := ⟨_, fun _ => op_notN, lift_isnot⟩
theorem pd_cmp {op : CmpOp} {w : WR} (ho : CmpU K X op w) (ha : PD K W X a wa) (hb : PD K W X b wb) (hm : behindInMarks op b = false := by first | exact nomark _ | rfl) : PD K W X (.Compare a [op] [b] pos) (wOp w wa wb) := by
  obtain ⟨r, o1, o2⟩ := ho
  obtain ⟨ta, h1, h2⟩ := ha
  obtain ⟨tb, h3, h4⟩ := hb
  exact ⟨_, fun i => pe_cmpR (o1 i) (h1 i) (h3 i) hm, lift_op o2 h2 h4⟩
def wTest (w : WE) : WT := fun ρ m Q Qx => w ρ m (fun d m' => match d with
  | .bl b => Q b m'
  | _ => False) Qx
theorem lift_test {t : TE} {w : WE} (h : LiftE K W t w) : LiftT K W (tTest t) (wTest w) := by
  intro G m F H σ ρ Q Qd Qx hW hE h0 hX hQ
  refine h G m F H σ ρ _ _ Qx hW hE h0 hX ?_
  intro d m' v G' H' q e W' r
  cases r <;> first | exact (show False from q).elim | skip
  exact ⟨_, rfl, hQ _ m' G' H' q e W'⟩
theorem lift_tB {t : TE} {w : WE} (h : LiftE K W t w) : LiftT K W (tB t) (wTest w) := by
  intro G m F H σ ρ Q Qd Qx hW hE h0 hX hQ
  refine h G m F H σ ρ _ _ Qx hW hE h0 hX ?_
  intro d m' v G' H' q e W' r
  cases r <;> first | exact (show False from q).elim | skip
  exact ⟨_, rfl, hQ _ m' G' H' q e W'⟩
theorem pt_cmp {op : CmpOp} {w : WR} (ho : CmpU K X op w) (ha : PD K W X a wa) (hb : PD K W X b wb) (hm : behindInMarks op b = false := by first | exact nomark _ | rfl) : PDT K W X (.Compare a [op] [b] pos) (wTest (wOp w wa wb)) := by
  obtain ⟨r, o1, o2⟩ := ho
  obtain ⟨ta, h1, h2⟩ := ha
  obtain ⟨tb, h3, h4⟩ := hb
  exact ⟨_, fun i => pt_cmpR (o1 i) (h1 i) (h3 i) hm, lift_test (lift_op o2 h2 h4)⟩
/-- a < b < c -/
def wChain (r r' : WR) (a b c : WE) : WE := fun ρ m Q Qx => a ρ m (fun x m1 => b ρ m1 (fun y m2 => r x y m2 fun z m3 => match z with
  | .bl k => if k = true then c ρ m3 (fun u m4 => r' y u m4 Q) Qx else Q (.bl false) m3
  | _ => False) Qx) Qx
theorem lift_chain {r r' : R2} {w w' : WR} {ta tb tc : TE} (hr : LiftR K r w) (hr' : LiftR K r' w') (ha : LiftE K W ta wa) (hb : LiftE K W tb wb) (hc : LiftE K W tc wc) : LiftE K W (tChain r r' ta tb tc) (wChain w w' wa wb wc) := by
  intro G m F H σ ρ Q Qd Qx hW hE h hX hQ
  refine ha G m F H σ ρ _ _ Qx hW hE h hX ?_
  intro dx m1 x G1 H1 h1 e1 W1 r1
  refine hb G1 m1 F H1 σ ρ _ _ Qx W1 (hE.mono e1) h1 (hX.mono e1) ?_
  intro dy m2 y G2 H2 h2 e2 W2 r2
  refine hr G2 m2 F H2 x y dx dy _ _ W2 (r1.mono e2) r2 h2 ?_
  intro dz m3 z G3 H3 h3 e3 W3 r3
  cases r3 <;> first | exact (show False from h3).elim | skip
  rename_i k
  refine ⟨k, rfl, ?_⟩
  have e12 := e1.trans e2
  cases k with
  | true =>
    refine hc G3 m3 F H3 σ ρ _ _ Qx W3 (hE.mono (e12.trans e3)) h3 (hX.mono (e12.trans e3)) ?_
    intro du m4 u G4 H4 h4 e4 W4 r4
    exact hr' G4 m4 F H4 y u dy du Q Qd W4 (r2.mono (e3.trans e4)) r4 h4 fun d m' v G' H' q e => hQ d m' v G' H' q (((e12.trans e3).trans e4).trans e)
  | false =>
    have h3 : Qd (.bl false) m3 := h3
    exact hQ _ m3 _ G3 H3 h3 (e12.trans e3) W3 (.bl false)
theorem pd_chain {op op' : CmpOp} {w w' : WR} (ho : CmpU K X op w) (ho' : CmpU K X op' w') (ha : PD K W X a wa) (hb : PD K W X b wb) (hc : PD K W X c wc) (hm : lastMarks [op, op'] [b, c] = false := by with_unfolding_all rfl) : PD K W X (.Compare a [op, op'] [b, c] pos) (wChain w w' wa wb wc) := by
  obtain ⟨r, o1, o2⟩ := ho
  obtain ⟨r', o3, o4⟩ := ho'
  obtain ⟨ta, h1, h2⟩ := ha
  obtain ⟨tb, h3, h4⟩ := hb
  obtain ⟨tc, h5, h6⟩ := hc
  exact ⟨_, fun i => pe_chain (o1 i) (o3 i) (h1 i) (h3 i) (h5 i) hm, lift_chain o2 o4 h2 h4 h6⟩
theorem pt_chainD {op op' : CmpOp} {w w' : WR} (ho : CmpU K X op w) (ho' : CmpU K X op' w') (ha : PD K W X a wa) (hb : PD K W X b wb) (hc : PD K W X c wc) (hm : lastMarks [op, op'] [b, c] = false := by with_unfolding_all rfl) : PDT K W X (.Compare a [op, op'] [b, c] pos) (wTest (wChain w w' wa wb wc)) := by
  obtain ⟨r, o1, o2⟩ := ho
  obtain ⟨r', o3, o4⟩ := ho'
  obtain ⟨ta, h1, h2⟩ := ha
  obtain ⟨tb, h3, h4⟩ := hb
  obtain ⟨tc, h5, h6⟩ := hc
  exact ⟨_, fun i => pt_chain (o1 i) (o3 i) (h1 i) (h3 i) (h5 i) hm, lift_test (lift_chain o2 o4 h2 h4 h6)⟩
end
end DL
namespace DL
open PySem L2
open Evl (Ex)
theorem Wd.unframe {K : Fg} {G : Hp} {m : Mem} {F H : Hp} {p : Addr} {o : HO} (W : Wd K G m (upd F p o) H) (hF : F p = none) : Wd K G m F H := by
  refine ⟨W.ex, fun a ds e => ?_, fun a u e => ?_, fun a u e => ?_⟩
  · obtain ⟨h1, h2, h3⟩ := W.own a ds e
    refine ⟨h1, ?_, h3⟩
    by_cases q : a = p
    · subst q; exact hF
    · rw [upd_ne q] at h2; exact h2
  · have q : a ≠ p := fun z => by subst z; rw [hF] at e; cases e
    exact W.fr a u (by rw [upd_ne q]; exact e)
  · have q : a ≠ p := fun z => by subst z; rw [hF] at e; cases e
    exact W.frG a u (by rw [upd_ne q]; exact e)
theorem FitX.frame {K : Fg} {W : Wx} {G F : Hp} {Qx : XQ} {p : Addr} {o : HO} (f : FitX K W G F Qx) (hF : F p = none) : FitX K W G (upd F p o) Qx :=
  fun x m' d σ' G' H' q e W' r => f x m' d σ' G' H' q e (W'.unframe hF) r
section
variable {K : Fg} {W : Wx} {ι : Type} {X : ι → Cx} {pos : Pos} {a b c e : Expr} {es : List Expr} {wa wb wc w : WE}
/-! ### and, or, not, if-else -/
def wAnd (a b : WE) : WE := fun ρ m Q Qx => a ρ m (fun x m1 => match x with
  | .bl c => if c = true then b ρ m1 Q Qx else Q (.bl false) m1
  | _ => False) Qx
def wOr (a b : WE) : WE := fun ρ m Q Qx => a ρ m (fun x m1 => match x with
  | .bl c => if c = true then Q (.bl true) m1 else b ρ m1 Q Qx
  | _ => False) Qx
def wNot (a : WE) : WE := fun ρ m Q Qx => a ρ m (fun x m1 => match x with
  | .bl c => Q (.bl (!c)) m1
  | _ => False) Qx
theorem pd_and {rest : List Expr} (ha : PD K W X a wa) (hb : PD K W X (.BoolOp .And (b :: rest) pos) wb) : PD K W X (.BoolOp .And (a :: b :: rest) pos) (wAnd wa wb) := by
  obtain ⟨ta, h1, h2⟩ := ha
  obtain ⟨tb, h3, h4⟩ := hb
  refine ⟨_, fun i => pe_and (h1 i) (h3 i), ?_⟩
  intro G m F H σ ρ Q Qd Qx hW hE h hX hQ
  refine h2 G m F H σ ρ _ _ Qx hW hE h hX ?_
  intro dx m1 x G1 H1 q e1 W1 r1
  cases r1 <;> first | exact (show False from q).elim | skip
  rename_i k
  refine ⟨k, rfl, ?_⟩
  cases k with
  | true => exact h4 G1 m1 F H1 σ ρ Q Qd Qx W1 (hE.mono e1) q (hX.mono e1) fun d m' v G' H' z e => hQ d m' v G' H' z (e1.trans e)
  | false =>
    have q : Qd (.bl false) m1 := q
    exact hQ _ m1 _ G1 H1 q e1 W1 (.bl false)
theorem pd_or {rest : List Expr} (ha : PD K W X a wa) (hb : PD K W X (.BoolOp .Or (b :: rest) pos) wb) : PD K W X (.BoolOp .Or (a :: b :: rest) pos) (wOr wa wb) := by
  obtain ⟨ta, h1, h2⟩ := ha
  obtain ⟨tb, h3, h4⟩ := hb
  refine ⟨_, fun i => pe_or (h1 i) (h3 i), ?_⟩
  intro G m F H σ ρ Q Qd Qx hW hE h hX hQ
  refine h2 G m F H σ ρ _ _ Qx hW hE h hX ?_
  intro dx m1 x G1 H1 q e1 W1 r1
  cases r1 <;> first | exact (show False from q).elim | skip
  rename_i k
  refine ⟨k, rfl, ?_⟩
  cases k with
  | false => exact h4 G1 m1 F H1 σ ρ Q Qd Qx W1 (hE.mono e1) q (hX.mono e1) fun d m' v G' H' z e => hQ d m' v G' H' z (e1.trans e)
  | true =>
    have q : Qd (.bl true) m1 := q
    exact hQ _ m1 _ G1 H1 q e1 W1 (.bl true)
theorem pd_one {op : BoolOp} (ha : PD K W X a wa) : PD K W X (.BoolOp op [a] pos) wa := by
  obtain ⟨ta, h1, h2⟩ := ha
  exact ⟨ta, fun i => pe_one (h1 i), h2⟩
theorem pd_not (ha : PD K W X a wa) : PD K W X (.UnaryOp .Not a pos) (wNot wa) := by
  obtain ⟨ta, h1, h2⟩ := ha
  refine ⟨_, fun i => pe_not (h1 i), ?_⟩
  intro G m F H σ ρ Q Qd Qx hW hE h hX hQ
  refine h2 G m F H σ ρ _ _ Qx hW hE h hX ?_
  intro dx m1 x G1 H1 q e1 W1 r1
  cases r1 <;> first | exact (show False from q).elim | skip
  exact ⟨_, rfl, hQ _ m1 _ G1 H1 q e1 W1 (.bl _)⟩
/-! tests -/
def tvAnd (a b : WT) : WT := fun ρ m Q Qx => a ρ m (fun c m1 => if c = true then b ρ m1 Q Qx else Q false m1) Qx
def tvOr (a b : WT) : WT := fun ρ m Q Qx => a ρ m (fun c m1 => if c = true then Q true m1 else b ρ m1 Q Qx) Qx
def tvNot (a : WT) : WT := fun ρ m Q Qx => a ρ m (fun c m1 => Q (!c) m1) Qx
variable {ua ub : WT}
theorem pt_val (ha : PD K W X a wa) (he : ∀ i whole, isTrue a (X i).env whole = (do let v ← whole; standAt a.pos; holding [v] (truthy v)) := by intro _ _; rfl) : PDT K W X a (wTest wa) := by
  obtain ⟨ta, h1, h2⟩ := ha
  exact ⟨_, fun i => L2.pt_val (h1 i) (he i), lift_tB h2⟩
theorem pw_and1 (ha : PDT K W X a ua) : PDW K W X (.BoolOp .And [a] pos) ua := by
  obtain ⟨ta, h1, h2⟩ := ha
  exact ⟨_, fun i => L2.pw_and1 (h1 i), h2⟩
theorem pw_or1 (ha : PDT K W X a ua) : PDW K W X (.BoolOp .Or [a] pos) ua := by
  obtain ⟨ta, h1, h2⟩ := ha
  exact ⟨_, fun i => L2.pw_or1 (h1 i), h2⟩
theorem pw_and {rest : List Expr} (ha : PDT K W X a ua) (hb : PDW K W X (.BoolOp .And (b :: rest) pos) ub) : PDW K W X (.BoolOp .And (a :: b :: rest) pos) (tvAnd ua ub) := by
  obtain ⟨ta, h1, h2⟩ := ha
  obtain ⟨tb, h3, h4⟩ := hb
  refine ⟨_, fun i => L2.pw_and (h1 i) (h3 i), ?_⟩
  intro G m F H σ ρ Q Qd Qx hW hE h hX hQ
  refine h2 G m F H σ ρ _ _ Qx hW hE h hX ?_
  intro k m1 G1 H1 q e1 W1
  cases k with
  | true => exact h4 G1 m1 F H1 σ ρ Q Qd Qx W1 (hE.mono e1) q (hX.mono e1) fun d m' G' H' z e => hQ d m' G' H' z (e1.trans e)
  | false => exact hQ false m1 G1 H1 q e1 W1
theorem pw_or {rest : List Expr} (ha : PDT K W X a ua) (hb : PDW K W X (.BoolOp .Or (b :: rest) pos) ub) : PDW K W X (.BoolOp .Or (a :: b :: rest) pos) (tvOr ua ub) := by
  obtain ⟨ta, h1, h2⟩ := ha
  obtain ⟨tb, h3, h4⟩ := hb
  refine ⟨_, fun i => L2.pw_or (h1 i) (h3 i), ?_⟩
  intro G m F H σ ρ Q Qd Qx hW hE h hX hQ
  refine h2 G m F H σ ρ _ _ Qx hW hE h hX ?_
  intro k m1 G1 H1 q e1 W1
  cases k with
  | false => exact h4 G1 m1 F H1 σ ρ Q Qd Qx W1 (hE.mono e1) q (hX.mono e1) fun d m' G' H' z e => hQ d m' G' H' z (e1.trans e)
  | true => exact hQ true m1 G1 H1 q e1 W1
theorem pw_pt (h : PDW K W X a ua) : PDT K W X a ua := by
  obtain ⟨t, h1, h2⟩ := h
  exact ⟨t, fun i => (h1 i).pt, h2⟩
theorem pt_not (ha : PDT K W X a ua) : PDT K W X (.UnaryOp .Not a pos) (tvNot ua) := by
  obtain ⟨ta, h1, h2⟩ := ha
  refine ⟨_, fun i => L2.pt_not (h1 i), ?_⟩
  intro G m F H σ ρ Q Qd Qx hW hE h hX hQ
  exact h2 G m F H σ ρ _ _ Qx hW hE h hX fun k m1 G1 H1 q e1 W1 => hQ _ m1 G1 H1 q e1 W1
def wIf (t : WT) (a b : WE) : WE := fun ρ m Q Qx => t ρ m (fun c m1 => if c = true then a ρ m1 Q Qx else b ρ m1 Q Qx) Qx
theorem pd_if (hc : PDT K W X c ua) (ha : PD K W X a wa) (hb : PD K W X b wb) : PD K W X (.IfExp c a b pos) (wIf ua wa wb) := by
  obtain ⟨tc, h5, h6⟩ := hc
  obtain ⟨ta, h1, h2⟩ := ha
  obtain ⟨tb, h3, h4⟩ := hb
  refine ⟨_, fun i => pe_ifExp (h5 i) (h1 i) (h3 i), ?_⟩
  intro G m F H σ ρ Q Qd Qx hW hE h hX hQ
  refine h6 G m F H σ ρ _ _ Qx hW hE h hX ?_
  intro k m1 G1 H1 q e1 W1
  cases k with
  | true => exact h2 G1 m1 F H1 σ ρ Q Qd Qx W1 (hE.mono e1) q (hX.mono e1) fun d m' v G' H' z e => hQ d m' v G' H' z (e1.trans e)
  | false => exact h4 G1 m1 F H1 σ ρ Q Qd Qx W1 (hE.mono e1) q (hX.mono e1) fun d m' v G' H' z e => hQ d m' v G' H' z (e1.trans e)

/-! ### arguments, displays -/
def wNil : WA := fun _ m Q _ => Q [] m
def wCons (a : WE) (r : WA) : WA := fun ρ m Q Qx => a ρ m (fun x m1 => r ρ m1 (fun xs m2 => Q (x :: xs) m2) Qx) Qx
variable {wr : WA}
theorem pa_nil : PDA K W X [] wNil := ⟨_, fun _ => L2.pa_nil, fun G m F H σ ρ Q Qd Qx hW hE h hX hQ => hQ [] m [] G H h (Ex.refl G) hW .nil⟩
theorem pa_cons (ha : PD K W X e wa) (hr : PDA K W X es wr) (hs : ∀ i, starEach (e :: es) (X i).env = (false, eval e (X i).env) :: starEach es (X i).env := by intro _; rfl) : PDA K W X (e :: es) (wCons wa wr) := by
  obtain ⟨ta, h1, h2⟩ := ha
  obtain ⟨tr, h3, h4⟩ := hr
  refine ⟨_, fun i => L2.pa_cons (h1 i) (h3 i) (hs i), ?_⟩
  intro G m F H σ ρ Q Qd Qx hW hE h hX hQ
  refine h2 G m F H σ ρ _ _ Qx hW hE h hX ?_
  intro dx m1 x G1 H1 q e1 W1 r1
  refine h4 G1 m1 F H1 σ ρ _ _ Qx W1 (hE.mono e1) q (hX.mono e1) ?_
  intro ds m2 vs G2 H2 q2 e2 W2 r2
  exact hQ _ m2 _ G2 H2 q2 (e1.trans e2) W2 (.cons (r1.mono e2) r2)
def wLst (r : WA) : WE := fun ρ m Q Qx => r ρ m (fun ds m1 => ds.length ≤ sizeLine ∧ Q (.lst ds) m1) Qx
def wTup (r : WA) : WE := fun ρ m Q Qx => r ρ m (fun ds m1 => ds.length ≤ sizeLine ∧ Q (.tup ds) m1) Qx
/-- a new list that is owned: it may change -/
def wOwn (r : WA) : WE := fun ρ m Q Qx => r ρ m (fun ds m1 => ds.length ≤ sizeLine ∧ ∀ p, m1 p = none → Q (.box p) (m1.up p ds)) Qx
theorem pd_lst (h : PDA K W X es wr) : PD K W X (.List es pos) (wLst wr) := by
  obtain ⟨t, h1, h2⟩ := h
  refine ⟨_, fun i => pe_lst (h1 i), ?_⟩
  intro G m F H σ ρ Q Qd Qx hW hE h hX hQ
  refine h2 G m F H σ ρ _ _ Qx hW hE h hX ?_
  intro ds m1 vs G1 H1 q e1 W1 r1
  refine ⟨by rw [r1.len]; exact q.1, fun p hp => ?_⟩
  obtain ⟨e, W'⟩ := W1.new hp (.lst vs)
  exact hQ _ m1 _ _ _ q.2 (e1.trans e) W' (.lst upd_same (r1.mono e))
theorem pd_tup {x1 : Nat} (h : PDA K W X es wr) : PD K W X (.Tuple es x1 pos) (wTup wr) := by
  obtain ⟨t, h1, h2⟩ := h
  refine ⟨_, fun i => pe_tup (h1 i), ?_⟩
  intro G m F H σ ρ Q Qd Qx hW hE h hX hQ
  refine h2 G m F H σ ρ _ _ Qx hW hE h hX ?_
  intro ds m1 vs G1 H1 q e1 W1 r1
  refine ⟨by rw [r1.len]; exact q.1, fun p hp => ?_⟩
  obtain ⟨e, W'⟩ := W1.new hp (.tup vs)
  exact hQ _ m1 _ _ _ q.2 (e1.trans e) W' (.tup (SqT.of upd_same) (r1.mono e))
theorem pd_own (h : PDA K W X es wr) : PD K W X (.List es pos) (wOwn wr) := by
  obtain ⟨t, h1, h2⟩ := h
  refine ⟨_, fun i => pe_lst (h1 i), ?_⟩
  intro G m F H σ ρ Q Qd Qx hW hE h hX hQ
  refine h2 G m F H σ ρ _ _ Qx hW hE h hX ?_
  intro ds m1 vs G1 H1 q e1 W1 r1
  refine ⟨by rw [r1.len]; exact q.1, fun p hp => ?_⟩
  obtain ⟨e, W'⟩ := W1.newOwn hp r1
  exact hQ _ _ _ _ _ (q.2 p e) e1 W' (.box p)
/-- {} -/
def wDct0 : WE := fun _ m Q _ => Q (.dct [] []) m
theorem pd_dct0 : PD K W X (.Dict [] [] pos) wDct0 := by
  refine ⟨_, fun i => pe_dnewK, ?_⟩
  intro G m F H σ ρ Q Qd Qx hW hE h hX hQ
  intro p hp
  obtain ⟨e, W'⟩ := hW.new hp (.dK [])
  exact hQ _ m _ _ _ h e W' (.dct (kvs := []) (vs := []) upd_same rfl rfl .nil)
/-- {'k': v}: one written text as the key -/
def wDct1 (k : Str) (v : WE) : WE := fun ρ m Q Qx => v ρ m (fun d m1 => Q (.dct [.inr k] [d]) m1) Qx
theorem pd_dct1 {k : Str} {j : Nat} {pk : Pos} {v : Expr} {wv : WE} (hv : PD K W X v wv) : PD K W X (.Dict [some (.Constant (.str k) j pk)] [v] pos) (wDct1 k wv) := by
  obtain ⟨tv, h1, h2⟩ := hv
  refine ⟨_, fun i => pe_disp (pps_cons pe_str (h1 i) pps_nil) (by rfl) (by rfl) (fun z => by cases z) (by show 1 ≤ 15; decide), ?_⟩
  intro G m F H σ ρ Q Qd Qx hW hE h hX hQ
  intro p hp
  obtain ⟨hG, hm, hF⟩ := hW.fresh hp
  have W0 := hW.frame hp (.dK [])
  show tv σ (upd H p (.dK [])) _
  refine h2 G m (upd F p (.dK [])) _ σ ρ _ (fun d m1 => Qd (.dct [.inr k] [d]) m1) Qx W0 hE h (hX.frame hF) ?_
  intro d m1 v G1 H1 q e1 W1 r1
  refine ⟨W1.fr p _ upd_same, [(.inr k, v)], rfl, (by show 1 ≤ 15; decide), ?_⟩
  have W2 := W1.reframe (.dK (mergeK [] [((.inr k : Key), v)]))
  obtain ⟨e3, W3⟩ := W2.adopt hF
  exact hQ _ m1 _ _ _ q (e1.trans e3) W3 (.dct upd_same rfl rfl (.cons (r1.mono e3) .nil))

/-! ### a[i], a[lo:hi], a[i] = v -/
def dIx : WR := fun x y m Q => match x, y with
  | .lst ds, .int i => ∃ d, atI ds i = some d ∧ Q d m
  | .tup ds, .int i => ∃ d, atI ds i = some d ∧ Q d m
  | .scr ns, .int i => ∃ d, atI ns i = some d ∧ Q (.int d) m
  | .box a, .int i => ∃ ds d, m a = some ds ∧ atI ds i = some d ∧ Q d m
  | .str z, .int i => z.length ≤ sizeLine ∧ ∃ c, atI z.cps.toList i = some c ∧ Q (.str ⟨#[c]⟩) m
  | _, _ => False
theorem RpA.atI {K : Fg} {G : Hp} {vs : List V} {ds : List D} {i : Int} {d : D} (r : RpA K G vs ds) (h : L2.atI ds i = some d) : ∃ v, L2.atI vs i = some v ∧ Rp K G v d := by
  unfold L2.atI at h ⊢
  rw [r.len]
  cases e : ixN ds.length i with
  | none => rw [e] at h; cases h
  | some j =>
    rw [e] at h
    exact r.at h
theorem atI_map {α β : Type} {f : α → β} {xs : List α} {i : Int} {x : α} (h : L2.atI xs i = some x) : L2.atI (xs.map f) i = some (f x) := by
  unfold L2.atI at h ⊢
  rw [List.length_map]
  cases e : ixN xs.length i with
  | none => rw [e] at h; cases h
  | some j =>
    rw [e] at h
    have h : xs[j]? = some x := h
    show (xs.map f)[j]? = some (f x)
    rw [List.getElem?_map, h]
    rfl
theorem lift_ix {K : Fg} : LiftR K (rIx K) dIx := by
  intro G m F H x y dx dy Q Qd hW rx ry h hQ
  cases rx <;> cases ry <;> first | exact (show False from h).elim | skip
  case lst.int a xs ds h1 r1 i =>
    obtain ⟨d, hd, q⟩ := h
    obtain ⟨v, hv, rv⟩ := r1.atI hd
    exact Or.inl ⟨a, xs, i, v, rfl, rfl, SqL.of (hW.ex _ _ h1), hv, hQ.here hW q rv⟩
  case tup.int a xs ds h1 r1 i =>
    obtain ⟨d, hd, q⟩ := h
    obtain ⟨v, hv, rv⟩ := r1.atI hd
    exact Or.inr (Or.inl ⟨a, xs, i, v, rfl, rfl, Evl.ex_t hW.ex h1, hv, hQ.here hW q rv⟩)
  case scr.int a ns h1 i =>
    obtain ⟨d, hd, q⟩ := h
    exact Or.inl ⟨a, _, i, _, rfl, rfl, Evl.ex_l hW.ex h1, atI_map hd, hQ.here hW q (.int d)⟩
  case box.int a i =>
    obtain ⟨ds, d, hm, hd, q⟩ := h
    obtain ⟨_, _, xs, hx, r1⟩ := hW.own a ds hm
    obtain ⟨v, hv, rv⟩ := r1.atI hd
    exact Or.inl ⟨a, xs, i, v, rfl, rfl, SqL.of hx, hv, hQ.here hW q rv⟩
  case str.int z i =>
    obtain ⟨hz, c, hc, q⟩ := h
    exact Or.inr (Or.inr ⟨z, i, c, rfl, rfl, hz, hc, hQ.here hW q (.str _)⟩)
theorem pd_ix (hK : ∀ i, (X i).K = K) (ha : PD K W X a wa) (hb : PD K W X b wb) (hs : PlainIx b := by exact fun _ _ => rfl) : PD K W X (.Subscript a b pos) (wOp dIx wa wb) := by
  obtain ⟨ta, h1, h2⟩ := ha
  obtain ⟨tb, h3, h4⟩ := hb
  exact ⟨_, fun i => pe_ix (hK i ▸ ix_seq) (h1 i) (h3 i) hs, lift_op lift_ix h2 h4⟩
def wNoPart : WO := fun _ m Q _ => Q none m
def wPart (a : WE) : WO := fun ρ m Q Qx => a ρ m (fun d m1 => match d with
  | .int i => Q (some i) m1
  | _ => False) Qx
theorem po_none : PDO K W X none wNoPart := ⟨_, fun _ => L2.po_none, fun G m F H σ ρ Q Qd Qx hW hE h hX hQ => hQ none m G H h (Ex.refl G) hW⟩
theorem po_some (ha : PD K W X a wa) : PDO K W X (some a) (wPart wa) := by
  obtain ⟨ta, h1, h2⟩ := ha
  refine ⟨_, fun i => L2.po_some (h1 i), ?_⟩
  intro G m F H σ ρ Q Qd Qx hW hE h hX hQ
  refine h2 G m F H σ ρ _ _ Qx hW hE h hX ?_
  intro d m1 x G1 H1 q e1 W1 r1
  cases r1 <;> first | exact (show False from q).elim | skip
  exact ⟨_, rfl, hQ _ m1 G1 H1 q e1 W1⟩
def cutD (ds : List D) (lo hi : Option Int) : List D := (ds.drop (HT.sIx ds.length 0 lo)).take (HT.sIx ds.length ds.length hi - HT.sIx ds.length 0 lo)
def dSl (x : D) (lo hi : Option Int) (m : Mem) (Q : D → Mem → Prop) : Prop := match x with
  | .lst ds => Q (.lst (cutD ds lo hi)) m
  | .tup ds => Q (.tup (cutD ds lo hi)) m
  | .str z => z.length ≤ sizeLine ∧ Q (.str (cutS z lo hi)) m
  | _ => False
theorem RpA.cut {K : Fg} {G : Hp} {vs : List V} {ds : List D} (r : RpA K G vs ds) (lo hi : Option Int) : RpA K G (cutV vs lo hi) (cutD ds lo hi) := by
  unfold cutV cutD
  rw [r.len]
  exact (r.drop _).take _
def rSlU (K : Fg) : V → Option Int → Option Int → Hp → VK → Prop := fun x lo hi H Q => rSlL K x lo hi H Q ∨ rSlA K x lo hi H Q ∨ rSlS x lo hi H Q
def wSl (a : WE) (l h : WO) : WE := fun ρ m Q Qx => a ρ m (fun x m1 => l ρ m1 (fun lo m2 => h ρ m2 (fun hi m3 => dSl x lo hi m3 Q) Qx) Qx) Qx
variable {wl wh : WO} {lo hi : Option Expr} {p2 : Pos}
theorem pd_sl (hK : ∀ i, (X i).K = K) (ha : PD K W X a wa) (hl : PDO K W X lo wl) (hh : PDO K W X hi wh) : PD K W X (.Subscript a (.Slice lo hi none p2) pos) (wSl wa wl wh) := by
  obtain ⟨ta, h1, h2⟩ := ha
  obtain ⟨tl, h3, h4⟩ := hl
  obtain ⟨th, h5, h6⟩ := hh
  refine ⟨_, fun i => pe_slice (r := rSlU K) (hK i ▸ (sl_list.or (sl_tupA.or sl_str))) (h1 i) (h3 i) (h5 i), ?_⟩
  intro G m F H σ ρ Q Qd Qx hW hE h hX hQ
  refine h2 G m F H σ ρ _ _ Qx hW hE h hX ?_
  intro dx m1 x G1 H1 q1 e1 W1 r1
  refine h4 G1 m1 F H1 σ ρ _ _ Qx W1 (hE.mono e1) q1 (hX.mono e1) ?_
  intro l m2 G2 H2 q2 e2 W2
  refine h6 G2 m2 F H2 σ ρ _ _ Qx W2 (hE.mono (e1.trans e2)) q2 (hX.mono (e1.trans e2)) ?_
  intro u m3 G3 H3 q3 e3 W3
  have e13 := (e1.trans e2).trans e3
  have r3 := r1.mono (e2.trans e3)
  cases r3 <;> first | exact (show False from q3).elim | skip
  case lst a0 xs ds hx rr =>
    refine Or.inl ⟨_, _, rfl, SqL.of (W3.ex _ _ hx), fun p hp => ?_⟩
    obtain ⟨e, W'⟩ := W3.new hp (.lst (cutV xs l u))
    exact hQ _ m3 _ _ _ q3 (e13.trans e) W' (.lst upd_same ((rr.cut l u).mono e))
  case tup a0 xs ds hx rr =>
    refine Or.inr (Or.inl ⟨_, _, rfl, Evl.ex_t W3.ex hx, fun hw => ?_, fun hw p hp => ?_⟩)
    · have ec : cutD ds l u = ds := by
        unfold cutD
        rw [← rr.len, hw.1, hw.2, List.drop_zero, Nat.sub_zero, rr.len, List.take_length]
      have q3 : Qd (.tup (cutD ds l u)) m3 := q3
      rw [ec] at q3
      exact hQ _ m3 _ _ _ q3 e13 W3 (.tup hx rr)
    · obtain ⟨e, W'⟩ := W3.new hp (.tup (cutV xs l u))
      exact hQ _ m3 _ _ _ q3 (e13.trans e) W' (.tup (SqT.of upd_same) ((rr.cut l u).mono e))
  case str z => exact Or.inr (Or.inr ⟨z, rfl, q3.1, hQ _ m3 _ _ _ q3.2 e13 W3 (.str _)⟩)

/-! ### calls -/
abbrev WC := List D → Mem → (D → Mem → Prop) → Prop
def LiftC (K : Fg) (r : List V → Hp → VK → Prop) (w : WC) : Prop := ∀ G m F H xs ds (Q : VK) (Qd : D → Mem → Prop), Wd K G m F H → RpA K G xs ds → w ds m Qd → FitE K G F Q Qd → r xs H Q
def wBi (w : WC) (a : WA) : WE := fun ρ m Q Qx => a ρ m (fun ds m1 => w ds m1 Q) Qx
theorem lift_cb {r : List V → Hp → VK → Prop} {w : WC} {ta : TA} {wa : WA} (hr : LiftC K r w) (ha : LiftA K W ta wa) : LiftE K W (tCB r ta) (wBi w wa) := by
  intro G m F H σ ρ Q Qd Qx hW hE h hX hQ
  refine ha G m F H σ ρ _ _ Qx hW hE h hX ?_
  intro ds m1 vs G1 H1 q e1 W1 r1
  exact hr G1 m1 F H1 vs ds Q Qd W1 r1 q fun d m' v G' H' z e => hQ d m' v G' H' z (e1.trans e)
/-- a built-in function, a built-in type, called -/
def BiU (K : Fg) {ι : Type} (X : ι → Cx) (f : Value) (w : WC) : Prop := ∃ r, (∀ i, CallR (X i) f r) ∧ LiftC K r w
theorem pd_bi {mg : Str → Option Value} {x : Str} {p : Pos} {id : String} {w : WC} {wr : WA} (hc : BiU K X (.builtin id) w) (hX : ∀ i, (X i).mg = mg) (hm : mg x = none) (hv : bootBuiltins x = some (.builtin id)) (ha : PDA K W X (e :: es) wr) (hg : ∀ i, Gl (X i) x := by intro _; rfl)
    (he : ∀ i, starEach (e :: es) (X i).env = (false, eval e (X i).env) :: starEach es (X i).env := by intro _; rfl) (hpl : ∀ i, (backTo pos (starEach es (X i).env)).any (·.1) = false := by intro _; rfl) (hn : x ≠ "__name__" := by decide) (hd : (x == ("__debug__" : Str)) = false := by decide) :
    PD K W X (.Call (.Name x p) (e :: es) [] pos) (wBi w wr) := by
  obtain ⟨r, c1, c2⟩ := hc
  obtain ⟨t, h1, h2⟩ := ha
  exact ⟨_, fun i => pe_callB (c1 i) (hg i) (by rw [hX i]; exact hm) hv (h1 i) hn hd (he i) (hpl i), lift_cb c2 h2⟩
theorem pd_bt {mg : Str → Option Value} {x : Str} {p : Pos} {id : String} {w : WC} {wr : WA} (hc : BiU K X (.type id) w) (hX : ∀ i, (X i).mg = mg) (hm : mg x = none) (hv : bootBuiltins x = some (.type id)) (ha : PDA K W X (e :: es) wr) (hg : ∀ i, Gl (X i) x := by intro _; rfl)
    (he : ∀ i, starEach (e :: es) (X i).env = (false, eval e (X i).env) :: starEach es (X i).env := by intro _; rfl) (hpl : ∀ i, (backTo pos (starEach es (X i).env)).any (·.1) = false := by intro _; rfl) (hn : x ≠ "__name__" := by decide) (hd : (x == ("__debug__" : Str)) = false := by decide) :
    PD K W X (.Call (.Name x p) (e :: es) [] pos) (wBi w wr) := by
  obtain ⟨r, c1, c2⟩ := hc
  obtain ⟨t, h1, h2⟩ := ha
  exact ⟨_, fun i => pe_callTy (c1 i) (hg i) (by rw [hX i]; exact hm) hv (h1 i) hn hd (he i) (hpl i), lift_cb c2 h2⟩
def dLen : WC := fun xs m Q => match xs with
  | [.lst ds] => Q (.int ds.length) m
  | [.tup ds] => Q (.int ds.length) m
  | [.scr ns] => Q (.int ns.length) m
  | [.box a] => ∃ ds, m a = some ds ∧ Q (.int ds.length) m
  | [.str z] => z.length ≤ sizeLine ∧ Q (.int z.length) m
  | _ => False
theorem b_len (hK : ∀ i, (X i).K = K) : BiU K X (.builtin "len") dLen := by
  refine ⟨_, fun i => hK i ▸ call_len, ?_⟩
  intro G m F H xs ds Q Qd hW r h hQ
  cases r with
  | nil => cases h
  | cons r1 t =>
    cases t with
    | cons _ _ => cases r1 <;> cases h
    | nil =>
      cases r1 <;> first | exact (show False from h).elim | skip
      case lst a xs ds hx rr => exact ⟨_, _, rfl, Or.inl ⟨_, SqL.of (hW.ex _ _ hx), rr.len.symm⟩, hQ.here hW h (.int _)⟩
      case tup a xs ds hx rr => exact ⟨_, _, rfl, Or.inr ⟨_, Evl.ex_t hW.ex hx, rr.len.symm⟩, hQ.here hW h (.int _)⟩
      case scr a ns hx => exact ⟨_, _, rfl, Or.inl ⟨_, Evl.ex_l hW.ex hx, (List.length_map _).symm⟩, hQ.here hW h (.int _)⟩
      case box a =>
        obtain ⟨ds, hm, q⟩ := h
        obtain ⟨_, _, xs, hx, rr⟩ := hW.own a ds hm
        exact ⟨_, _, rfl, Or.inl ⟨_, SqL.of hx, rr.len.symm⟩, hQ.here hW q (.int _)⟩
      case str z => exact ⟨_, _, rfl, ⟨h.1, rfl⟩, hQ.here hW h.2 (.int _)⟩
def dInt2 (f : Int → Int → Int) : WC := fun xs m Q => match xs with
  | [.int i, .int j] => Q (.int (f i j)) m
  | _ => False
theorem lift_int2 {f : Int → Int → Int} : LiftC K (fun xs H Q => ∃ i j, xs = [.int i, .int j] ∧ Q (.int (f i j)) H) (dInt2 f) := by
  intro G m F H xs ds Q Qd hW r h hQ
  unfold dInt2 at h
  split at h
  · cases r with
    | cons r1 t =>
      cases r1
      cases t with
      | cons r2 t =>
        cases r2
        cases t
        exact ⟨_, _, rfl, hQ.here hW h (.int _)⟩
  · cases h
abbrev dMax : WC := dInt2 fun i j => if j > i then j else i
abbrev dMin : WC := dInt2 fun i j => if j < i then j else i
theorem b_max (hc : ∀ i, (X i).calm = true) : BiU K X (.builtin "max") dMax := ⟨_, fun i => call_max2 (hc i), lift_int2⟩
theorem b_min (hc : ∀ i, (X i).calm = true) : BiU K X (.builtin "min") dMin := ⟨_, fun i => call_min2 (hc i), lift_int2⟩
/-! isinstance against a built-in type -/
def tyD : D → String
  | .non => "NoneType" | .bl _ => "bool" | .int _ => "int" | .str _ => "str" | .ty _ => "type" | .lst _ => "list" | .tup _ => "tuple" | .dct _ _ => "dict" | .scr _ => "list" | .box _ => "list" | .obj _ _ _ => "object"
def isTyped : D → Bool
  | .ty _ => false | .box _ => false | .obj _ _ _ => false | _ => true
theorem ty_of {K : Fg} {G H : Hp} {v : V} {d : D} (e : Ex G H) (r : Rp K G v d) (ht : isTyped d = true) : TyX K H v (.type (tyD d)) := by
  cases r with
  | non => exact .base .non
  | bl b => exact .base (.bl b)
  | int i => exact .base (.int i)
  | str x => exact .base (.str x)
  | ty n => cases ht
  | box a => cases ht
  | obj _ _ _ _ _ => cases ht
  | lst h r => exact .base (.lst (e _ _ h))
  | dct h _ _ _ => exact .base (.dK (e _ _ h))
  | tup h r =>
    rcases Evl.ex_t e h with (h | ⟨o, h⟩) | ⟨o, its, n, hk, hc, _⟩
    · exact .base (.tup h)
    · exact .fTuple h
    · exact .kTuple hk hc
  | scr h =>
    rcases Evl.ex_l e h with (h | ⟨o, h⟩) | ⟨o, its, n, hk, hc, _⟩
    · exact .base (.lst h)
    · exact .base (.frz h)
    · exact .kList hk hc
def intB : D → Bool
  | .int _ => true | .bl _ => true | _ => false
def blB : D → Bool
  | .bl _ => true | _ => false
def strB : D → Bool
  | .str _ => true | _ => false
def lstB : D → Bool
  | .lst _ => true | .scr _ => true | .box _ => true | _ => false
def tupB : D → Bool
  | .tup _ => true | _ => false
def dctB : D → Bool
  | .dct _ _ => true | _ => false
/-- isinstance of a datum against a built-in type -/
def isaB (n : String) (x : D) : Option Bool := if n = "int" then some (intB x) else if n = "bool" then some (blB x) else if n = "str" then some (strB x) else if n = "list" then some (lstB x) else if n = "tuple" then some (tupB x) else if n = "dict" then some (dctB x) else none
theorem isa_int {x : D} : isaB "int" x = some (intB x) := if_pos rfl
theorem isa_bool {x : D} : isaB "bool" x = some (blB x) := (if_neg (by decide)).trans (if_pos rfl)
theorem isa_str {x : D} : isaB "str" x = some (strB x) := (if_neg (by decide)).trans ((if_neg (by decide)).trans (if_pos rfl))
theorem isa_list {x : D} : isaB "list" x = some (lstB x) := (if_neg (by decide)).trans ((if_neg (by decide)).trans ((if_neg (by decide)).trans (if_pos rfl)))
theorem isa_tuple {x : D} : isaB "tuple" x = some (tupB x) := (if_neg (by decide)).trans ((if_neg (by decide)).trans ((if_neg (by decide)).trans ((if_neg (by decide)).trans (if_pos rfl))))
theorem isa_dict {x : D} : isaB "dict" x = some (dctB x) := (if_neg (by decide)).trans ((if_neg (by decide)).trans ((if_neg (by decide)).trans ((if_neg (by decide)).trans ((if_neg (by decide)).trans (if_pos rfl)))))
theorem kit_isa {n : String} {x : D} {b : Bool} (hx : isTyped x = true) (h : isaB n x = some b) : kitB (tyD x) n = some b := by
  unfold isaB at h
  by_cases c : n = "int"
  · subst c; rw [if_pos rfl] at h; cases h
    cases x <;> first | (cases hx; done) | (simp only [tyD, intB]; decide +kernel)
  rw [if_neg c] at h
  by_cases c : n = "bool"
  · subst c; rw [if_pos rfl] at h; cases h
    cases x <;> first | (cases hx; done) | (simp only [tyD, blB]; decide +kernel)
  rw [if_neg c] at h
  by_cases c : n = "str"
  · subst c; rw [if_pos rfl] at h; cases h
    cases x <;> first | (cases hx; done) | (simp only [tyD, strB]; decide +kernel)
  rw [if_neg c] at h
  by_cases c : n = "list"
  · subst c; rw [if_pos rfl] at h; cases h
    cases x <;> first | (cases hx; done) | (simp only [tyD, lstB]; decide +kernel)
  rw [if_neg c] at h
  by_cases c : n = "tuple"
  · subst c; rw [if_pos rfl] at h; cases h
    cases x <;> first | (cases hx; done) | (simp only [tyD, tupB]; decide +kernel)
  rw [if_neg c] at h
  by_cases c : n = "dict"
  · subst c; rw [if_pos rfl] at h; cases h
    cases x <;> first | (cases hx; done) | (simp only [tyD, dctB]; decide +kernel)
  rw [if_neg c] at h
  cases h
def dIsi : WC := fun xs m Q => match xs with
  | [x, .ty n] => isTyped x = true ∧ ∃ b, isaB n x = some b ∧ Q (.bl b) m
  | _ => False
theorem b_isi (hK : ∀ i, (X i).K = K) : BiU K X (.builtin "isinstance") dIsi := by
  refine ⟨_, fun i => hK i ▸ call_isi, ?_⟩
  intro G m F H xs ds Q Qd hW r h hQ
  unfold dIsi at h
  split at h
  · obtain ⟨h1, b, hb, q⟩ := h
    cases r with
    | cons r1 t =>
      cases t with
      | cons r2 t =>
        cases r2
        cases t
        exact ⟨_, _, _, _, b, rfl, .ty _, ty_of hW.ex r1 h1, kit_ty (kit_isa h1 hb), hQ.here hW q (.bl b)⟩
  · cases h
/-! all, any, sum -/
def blsD : List D → Option (List Bool)
  | [] => some []
  | .bl b :: ds => (blsD ds).map (b :: ·)
  | _ => none
theorem bls_of {K : Fg} {G : Hp} : ∀ {vs : List V} {ds : List D} {bs : List Bool}, RpA K G vs ds → blsD ds = some bs → vs = bs.map V.bl
  | _, _, bs, .nil, h => by cases h; rfl
  | _, _, bs, .cons r t, h => by
    cases r <;> first | (cases h; done) | skip
    rename_i ds b
    unfold blsD at h
    cases e : blsD ds with
    | none => rw [e] at h; cases h
    | some cs =>
      rw [e] at h
      cases h
      rw [bls_of t e]
      rfl
def intsD : List D → Option (List Int)
  | [] => some []
  | .int b :: ds => (intsD ds).map (b :: ·)
  | _ => none
theorem ints_of {K : Fg} {G : Hp} : ∀ {vs : List V} {ds : List D} {bs : List Int}, RpA K G vs ds → intsD ds = some bs → vs = bs.map V.int
  | _, _, bs, .nil, h => by cases h; rfl
  | _, _, bs, .cons r t, h => by
    cases r <;> first | (cases h; done) | skip
    rename_i ds b
    unfold intsD at h
    cases e : intsD ds with
    | none => rw [e] at h; cases h
    | some cs =>
      rw [e] at h
      cases h
      rw [ints_of t e]
      rfl
def strsD : List D → Option (List Str)
  | [] => some []
  | .str b :: ds => (strsD ds).map (b :: ·)
  | _ => none
theorem strs_of {K : Fg} {G : Hp} : ∀ {vs : List V} {ds : List D} {bs : List Str}, RpA K G vs ds → strsD ds = some bs → vs = bs.map V.str
  | _, _, bs, .nil, h => by cases h; rfl
  | _, _, bs, .cons r t, h => by
    cases r <;> first | (cases h; done) | skip
    rename_i ds b
    unfold strsD at h
    cases e : strsD ds with
    | none => rw [e] at h; cases h
    | some cs =>
      rw [e] at h
      cases h
      rw [strs_of t e]
      rfl
def dBls (f : List Bool → Bool) : WC := fun xs m Q => match xs with
  | [.lst ds] => ∃ bs, blsD ds = some bs ∧ Q (.bl (f bs)) m
  | _ => False
theorem lift_bls {f : List Bool → Bool} : LiftC K (fun vs H Q => ∃ (a : Addr) (bs : List Bool), vs = [V.ref a] ∧ SqL K H a (bs.map V.bl) ∧ Q (.bl (f bs)) H) (dBls f) := by
  intro G m F H xs ds Q Qd hW r h hQ
  unfold dBls at h
  split at h
  · obtain ⟨bs, hb, q⟩ := h
    cases r with
    | cons r1 t =>
      cases t
      cases r1 with
      | lst hx rr =>
        rw [bls_of rr hb] at hx
        exact ⟨_, bs, rfl, SqL.of (hW.ex _ _ hx), hQ.here hW q (.bl _)⟩
  · cases h
theorem b_all (hK : ∀ i, (X i).K = K) (hc : ∀ i, (X i).calm = true) : BiU K X (.builtin "all") (dBls fun bs => bs.all id) := ⟨_, fun i => hK i ▸ cr_all (hc i), lift_bls⟩
theorem b_any (hK : ∀ i, (X i).K = K) (hc : ∀ i, (X i).calm = true) : BiU K X (.builtin "any") (dBls fun bs => bs.any id) := ⟨_, fun i => hK i ▸ cr_any (hc i), lift_bls⟩
def dSum : WC := fun xs m Q => match xs with
  | [.lst ds] => ∃ bs, intsD ds = some bs ∧ Q (.int bs.sum) m
  | _ => False
theorem b_sum (hK : ∀ i, (X i).K = K) (hc : ∀ i, (X i).calm = true) : BiU K X (.builtin "sum") dSum := by
  refine ⟨_, fun i => hK i ▸ cr_sum (hc i), ?_⟩
  intro G m F H xs ds Q Qd hW r h hQ
  unfold dSum at h
  split at h
  · obtain ⟨bs, hb, q⟩ := h
    cases r with
    | cons r1 t =>
      cases t
      cases r1 with
      | lst hx rr =>
        rw [ints_of rr hb] at hx
        exact ⟨_, bs, rfl, SqL.of (hW.ex _ _ hx), hQ.here hW q (.int _)⟩
  · cases h
/-- tuple(xs), list(xs) -/
def dTuple : WC := fun xs m Q => match xs with
  | [.lst ds] => Q (.tup ds) m
  | [.tup ds] => Q (.tup ds) m
  | _ => False
theorem b_tuple (hK : ∀ i, (X i).K = K) : BiU K X (.type "tuple") dTuple := by
  refine ⟨_, fun i => hK i ▸ call_tuple_of, ?_⟩
  intro G m F H xs ds Q Qd hW r h hQ
  unfold dTuple at h
  split at h
  · cases r with
    | cons r1 t =>
      cases t
      cases r1 with
      | lst hx rr => exact ⟨_, _, rfl, Or.inl ⟨SqL.of (hW.ex _ _ hx), hQ.tup hW h rr⟩⟩
  · cases r with
    | cons r1 t =>
      cases t
      cases r1 with
      | tup hx rr => exact ⟨_, _, rfl, Or.inr ⟨Evl.ex_t hW.ex hx, hQ.here hW h (.tup hx rr)⟩⟩
  · cases h
def dList : WC := fun xs m Q => match xs with
  | [.lst ds] => Q (.lst ds) m
  | [.tup ds] => Q (.lst ds) m
  | _ => False
theorem b_list (hK : ∀ i, (X i).K = K) : BiU K X (.type "list") dList := by
  refine ⟨_, fun i => hK i ▸ call_list_of, ?_⟩
  intro G m F H xs ds Q Qd hW r h hQ
  unfold dList at h
  split at h
  · cases r with
    | cons r1 t =>
      cases t
      cases r1 with
      | lst hx rr => exact ⟨_, _, rfl, Or.inl (SqL.of (hW.ex _ _ hx)), hQ.lst hW h rr⟩
  · cases r with
    | cons r1 t =>
      cases t
      cases r1 with
      | tup hx rr => exact ⟨_, _, rfl, Or.inr (Evl.ex_t hW.ex hx), hQ.lst hW h rr⟩
  · cases h
/-! repr -/
structure Shows (d : PyData) : Prop where
  lay : d.canLay0 = true
  show1 : d.showable = true
  nod : d.hasDict = false
  deep : d.depth ≤ 60
  size : d.shown.length ≤ sizeLine
def dRepr : WC := fun xs m Q => match xs with
  | [.bl b] => Q (.str (if b then "True" else "False")) m
  | [.int i] => i.natAbs.log2 < 1920 ∧ Q (.str (toString i)) m
  | [.lst ds] => Shows (py (.lst ds)) ∧ Q (.str (py (.lst ds)).shown) m
  | [.tup ds] => Shows (py (.tup ds)) ∧ Q (.str (py (.tup ds)).shown) m
  | _ => False
def rReprB : List V → Hp → VK → Prop := fun xs H Q => ∃ b, xs = [.bl b] ∧ Q (.str (if b then "True" else "False")) H
theorem call_reprB {X : Cx} : CallR X (.builtin "repr") rReprB := by
  intro pins s σ H xs us Q I r h
  obtain ⟨b, rfl, q⟩ := h
  cases r with
  | cons r1 t =>
    cases t
    cases r1
    exact PySem.P.repr_of_bool ⟨.str _, H, I.tok _, ⟨_, rfl⟩, q⟩
def rReprI : List V → Hp → VK → Prop := fun xs H Q => ∃ i, xs = [.int i] ∧ i.natAbs.log2 < 1920 ∧ Q (.str (toString i)) H
theorem call_reprI {X : Cx} : CallR X (.builtin "repr") rReprI := by
  intro pins s σ H xs us Q I r h
  obtain ⟨i, rfl, hz, q⟩ := h
  cases r with
  | cons r1 t =>
    cases t
    obtain ⟨t, rfl⟩ := r1
    exact PySem.P.repr_of_int hz ⟨.str _, H, I.tok _, ⟨_, rfl⟩, q⟩
def rReprL (K : Fg) : List V → Hp → VK → Prop := fun xs H Q => ∃ a d, xs = [.ref a] ∧ Dp K H (.ref a) d ∧ d.showable = true ∧ d.hasDict = false ∧ d.depth ≤ 60 ∧ d.shown.length ≤ sizeLine ∧ Q (.str d.shown) H
theorem call_reprL {X : Cx} (hc : X.A.guards = some []) (hu : X.A.units + 64 < cLine) : CallR X (.builtin "repr") (rReprL X.K) := by
  intro pins s σ H xs us Q I r h
  obtain ⟨a, d, rfl, hd, hs, hh, hdp, hl, q⟩ := h
  cases r with
  | cons r1 t =>
    cases t
    cases r1
    obtain ⟨as, hr⟩ := Dp.reads I d _ _ hd rfl
    refine repr_of_reads' hr hs (fun z => by rw [hh] at z; cases z) hc (by omega) (fun _ _ q => q) (fun h' u tk k => ?_) hl
    exact ⟨.str d.shown, H, I.kept k, ⟨u, rfl⟩, q⟩
end
end DL
namespace DL
open PySem L2
open Evl (Ex)
/-! ### families: the guards too -/
structure FamG (P : Program) (w : World) (K : Fg) (mg : Str → Option Value) (base : Heap) (k : Nat) (N : List Str) {ι : Type} (X : ι → Cx) : Prop extends Fam P w K mg base k N X where
  guards : ∀ i, (X i).A.guards = some []
theorem call_or {X : Cx} {f : Value} {r r' : List V → Hp → VK → Prop} (h : CallR X f r) (h' : CallR X f r') : CallR X f (fun xs H Q => r xs H Q ∨ r' xs H Q) := by
  intro pins s σ H xs us Q I rv q
  rcases q with q | q
  · exact h pins s σ H xs us Q I rv q
  · exact h' pins s σ H xs us Q I rv q
theorem b_repr {P : Program} {w : World} {K : Fg} {mg : Str → Option Value} {base : Heap} {k : Nat} {N : List Str} {ι : Type} {X : ι → Cx} (hX : FamG P w K mg base k N X) : BiU K X (.builtin "repr") dRepr := by
  refine ⟨_, fun i => call_or (call_or call_reprB call_reprI) (hX.K i ▸ call_reprL (hX.guards i) (by have := (hX.room i).un; omega)), ?_⟩
  intro G m F H xs ds Q Qd hW r h hQ
  unfold dRepr at h
  split at h
  · cases r with
    | cons r1 t =>
      cases t
      cases r1
      exact Or.inl (Or.inl ⟨_, rfl, hQ.here hW h (.str _)⟩)
  · cases r with
    | cons r1 t =>
      cases t
      cases r1
      exact Or.inl (Or.inr ⟨_, rfl, h.1, hQ.here hW h.2 (.str _)⟩)
  · obtain ⟨h0, q⟩ := h
    cases r with
    | cons r1 t =>
      cases t
      have hd := dp_of hW.ex (D.lst _) r1 h0.lay
      cases r1 with
      | lst hx rr => exact Or.inr ⟨_, _, rfl, hd, h0.show1, h0.nod, h0.deep, h0.size, hQ.here hW q (.str _)⟩
  · obtain ⟨h0, q⟩ := h
    cases r with
    | cons r1 t =>
      cases t
      have hd := dp_of hW.ex (D.tup _) r1 h0.lay
      cases r1 with
      | tup hx rr => exact Or.inr ⟨_, _, rfl, hd, h0.show1, h0.nod, h0.deep, h0.size, hQ.here hW q (.str _)⟩
  · cases h
/-- the contexts of a comprehension's blocks -/
abbrev BI (ι : Type) := ι × Shared × Hp × Addr × List (Str × Addr) × List Addr
def Blk {ι : Type} (X : ι → Cx) (scope : Scope) : BI ι → Cx := fun j => (X j.1).blk j.2.1 j.2.2.1 scope (compEnvC scope j.2.2.2.2.1 j.2.2.2.1 (X j.1).env) j.2.2.2.2.2
theorem FamG.blk {P : Program} {w : World} {K : Fg} {mg : Str → Option Value} {base : Heap} {k : Nat} {N : List Str} {ι : Type} {X : ι → Cx} (hX : FamG P w K mg base k N X) (scope : Scope) : FamG P w K mg base k N (Blk X scope) where
  prog := fun j => hX.prog j.1
  w := fun j => hX.w j.1
  K := fun j => hX.K j.1
  mg := fun j => hX.mg j.1
  base := fun j => hX.base j.1
  hN := fun j => hX.hN j.1
  calm := fun j => hX.calm j.1
  room := fun j => hX.room j.1
  nd := hX.nd
  guards := fun j => hX.guards j.1

/-! ### targets -/
theorem wipe_ix (σ : L2.St) : ∀ (vs : List Nat) (i : Nat), (L2.wipe σ vs)[i]? = if i ∈ vs then (σ[i]?).map (fun _ => none) else σ[i]?
  | [], i => by simp [L2.wipe]
  | v :: vs, i => by
    unfold L2.wipe
    rw [List.getElem?_set]
    by_cases h : v = i
    · subst h
      rw [if_pos rfl, if_pos List.mem_cons_self, wipe_length]
      by_cases hl : v < σ.length
      · rw [if_pos hl, List.getElem?_eq_getElem hl]; rfl
      · rw [if_neg hl, List.getElem?_eq_none (Nat.le_of_not_lt hl)]; rfl
    · rw [if_neg h, wipe_ix σ vs i]
      by_cases hm : i ∈ vs
      · rw [if_pos hm, if_pos (List.mem_cons_of_mem _ hm)]
      · rw [if_neg hm, if_neg (by intro z; rcases List.mem_cons.mp z with z | z; exact h z.symm; exact hm z)]
theorem wipe_put {σ : L2.St} {vs : List Nat} {j : Nat} {o : Option V} (h : j ∈ vs) : L2.wipe (σ.set j o) vs = L2.wipe σ vs := by
  apply List.ext_getElem?
  intro i
  rw [wipe_ix, wipe_ix]
  by_cases hm : i ∈ vs
  · rw [if_pos hm, if_pos hm, List.getElem?_set]
    by_cases e : j = i
    · subst e
      rw [if_pos rfl]
      by_cases hl : j < σ.length
      · rw [if_pos hl, List.getElem?_eq_getElem hl]; rfl
      · rw [if_neg hl, List.getElem?_eq_none (Nat.le_of_not_lt hl)]
    · rw [if_neg e]
  · rw [if_neg hm, if_neg hm, List.getElem?_set, if_neg (fun e2 => hm (by rw [← e2]; exact h))]
theorem wipe_wipe {σ : L2.St} {vs : List Nat} : L2.wipe (L2.wipe σ vs) vs = L2.wipe σ vs := by
  apply List.ext_getElem?
  intro i
  rw [wipe_ix, wipe_ix]
  by_cases hm : i ∈ vs
  · rw [if_pos hm, if_pos hm]
    cases σ[i]? <;> rfl
  · rw [if_neg hm, if_neg hm]
abbrev WG := D → En0 → (En0 → Prop) → Prop
abbrev WGs := List D → En0 → (En0 → Prop) → Prop
def LiftG (K : Fg) (js : List Nat) (t : TG) (g : WG) : Prop := ∀ G m F H v d σ ρ (Q : L2.St → Hp → Prop) (Qd : En0 → Prop), Wd K G m F H → En K G σ ρ → Rp K G v d → g d ρ Qd →
  (∀ ρ' σ', Qd ρ' → En K G σ' ρ' → (∀ vs, (∀ j ∈ js, j ∈ vs) → L2.wipe σ' vs = L2.wipe σ vs) → Q σ' H) → t v σ H Q
def LiftGs (K : Fg) (js : List Nat) (t : TGs) (g : WGs) : Prop := ∀ G m F H vs ds σ ρ (Q : L2.St → Hp → Prop) (Qd : En0 → Prop), Wd K G m F H → En K G σ ρ → RpA K G vs ds → g ds ρ Qd →
  (∀ ρ' σ', Qd ρ' → En K G σ' ρ' → (∀ vs, (∀ j ∈ js, j ∈ vs) → L2.wipe σ' vs = L2.wipe σ vs) → Q σ' H) → t vs σ H Q
def PDG (K : Fg) {ι : Type} (X : ι → Cx) (tg : Expr) (js : List Nat) (g : WG) : Prop := ∃ t, (∀ i, PG (X i) tg t) ∧ LiftG K js t g
def PDGs (K : Fg) {ι : Type} (X : ι → Cx) (tgs : List Expr) (js : List Nat) (g : WGs) : Prop := ∃ t, (∀ i, PGs (X i) tgs t) ∧ LiftGs K js t g
def gvName (i : Nat) : WG := fun d ρ Q => Q (ρ.set i (some d))
def gvNil : WGs := fun ds ρ Q => ds = [] ∧ Q ρ
def gvCons (g : WG) (r : WGs) : WGs := fun ds ρ Q => ∃ d t, ds = d :: t ∧ g d ρ fun ρ1 => r t ρ1 Q
def gvTup (n : Nat) (g : WGs) : WG := fun d ρ Q => match d with
  | .tup ds => ds.length = n ∧ g ds ρ Q
  | _ => False
section
variable {K : Fg} {W : Wx} {ι : Type} {X : ι → Cx} {pos : Pos} {a b c e : Expr} {es : List Expr} {wa wb wc w : WE} {wr : WA}
theorem pg_name (i : Nat) {N : List Str} {x : Str} (hX : ∀ j, (X j).N = N) (hN : N.Nodup) (hi : N[i]? = some x := by rfl) (hx : ∀ j, Loc (X j).env.scope x := by intro _; first | exact Or.inl rfl | exact Or.inr rfl) (hf : ∀ j, (X j).fn x = true ∨ (X j).env.scope.names.lookup x = some .local := by intro _; first | exact Or.inl rfl | exact Or.inr rfl) : PDG K X (.Name x pos) [i] (gvName i) := by
  refine ⟨_, fun j => L2.pg_name (i := i) (by rw [hX j]; exact hN) (by rw [hX j]; exact hi) (hx j) (hf j), ?_⟩
  intro G m F H v d σ ρ Q Qd hW hE r h hQ
  exact hQ _ _ h (hE.put r i) fun vs hv => wipe_put (hv i List.mem_cons_self)
theorem pgs_nil : PDGs K X [] [] gvNil := by
  refine ⟨_, fun j => L2.pgs_nil, ?_⟩
  intro G m F H vs ds σ ρ Q Qd hW hE r h hQ
  obtain ⟨rfl, h⟩ := h
  cases r
  exact ⟨rfl, hQ _ _ h hE fun _ _ => rfl⟩
theorem pgs_cons {js js' : List Nat} {g : WG} {gs : WGs} (h1 : PDG K X e js g) (h2 : PDGs K X es js' gs) (hs : ∀ i, (assignEach (e :: es) (X i).env).map (·.2) = assign e (X i).env :: (assignEach es (X i).env).map (·.2) := by intro _; rfl) : PDGs K X (e :: es) (js ++ js') (gvCons g gs) := by
  obtain ⟨t, a1, a2⟩ := h1
  obtain ⟨u, b1, b2⟩ := h2
  refine ⟨_, fun j => L2.pgs_cons (a1 j) (b1 j) (hs j), ?_⟩
  intro G m F H vs ds σ ρ Q Qd hW hE r h hQ
  obtain ⟨d, t', rfl, h⟩ := h
  cases r with
  | cons r1 r2 =>
    refine ⟨_, _, rfl, a2 G m F H _ d σ ρ _ _ hW hE r1 h ?_⟩
    intro ρ1 σ1 h1 hE1 w1
    refine b2 G m F H _ t' σ1 ρ1 _ _ hW hE1 r2 h1 ?_
    intro ρ2 σ2 h2 hE2 w2
    exact hQ ρ2 σ2 h2 hE2 fun vs hv => (w2 vs fun j hj => hv j (List.mem_append_right _ hj)).trans (w1 vs fun j hj => hv j (List.mem_append_left _ hj))
theorem pg_tup {n : Nat} {js : List Nat} {g : WGs} {kx : Nat} (hK : ∀ i, (X i).K = K) (hc : ∀ i, (X i).calm = true) (h : PDGs K X es js g) (hn : ∀ i, (assignEach es (X i).env).length = n := by intro _; rfl) (hst : ∀ i, (assignEach es (X i).env).findIdx? (·.1) = none := by intro _; rfl) : PDG K X (.Tuple es kx pos) js (gvTup n g) := by
  obtain ⟨t, a1, a2⟩ := h
  refine ⟨gTup K n t, fun j => hK j ▸ L2.pg_tup (hc j) (a1 j) (hn j) (hst j), ?_⟩
  intro G m F H v d σ ρ Q Qd hW hE r h hQ
  cases r <;> first | exact (show False from h).elim | skip
  case tup a0 xs ds hx rr => exact ⟨_, _, rfl, Evl.ex_t hW.ex hx, by rw [rr.len]; exact h.1, a2 G m F H xs ds σ ρ Q Qd hW hE rr h.2 hQ⟩

/-! ### what is walked -/
def DW (K : Fg) (J : It) (ds : List D) (G0 : Hp) : Prop := ∃ Gd Y, Walk J ds.length Gd Y ∧ ∀ G m F H, Ex G0 G → Wd K G m F H → Gd H ∧
  ∀ i H' x d, ds[i]? = some d → Y i H x H' → ∃ G', Ex G G' ∧ Wd K G' m F H' ∧ Rp K G' x d
theorem DW.mono {J : It} {ds : List D} {G G' : Hp} (h : DW K J ds G) (e : Ex G G') : DW K J ds G' := by
  obtain ⟨Gd, Y, w, k⟩ := h
  exact ⟨Gd, Y, w, fun G2 m F H e2 W => k G2 m F H (e.trans e2) W⟩
def LiftI (K : Fg) (W : Wx) (t : TI) (w : WA) : Prop := ∀ G m F H σ ρ (R : It → Hp → Prop) (Qd : List D → Mem → Prop) (Qx : XQ), Wd K G m F H → En K G σ ρ → w ρ m Qd Qx → FitX K W G F Qx →
  (∀ ds m' J G' H', Qd ds m' → Ex G G' → Wd K G' m' F H' → DW K J ds G' → R J H') → t σ H R
def PDI (K : Fg) (W : Wx) {ι : Type} (X : ι → Cx) (tg iter : Expr) (w : WA) : Prop := ∃ t, (∀ i, PI (X i) tg iter t) ∧ LiftI K W t w
/-- a list's items -/
def iLst (w : WE) : WA := fun ρ m Q Qx => w ρ m (fun d m1 => match d with
  | .lst ds => Q ds m1
  | .scr ns => Q (ns.map D.int) m1
  | _ => False) Qx
theorem dw_list {a : Addr} {xs : List V} {ds : List D} {G : Hp} (h : G a = some (.lst xs)) (r : RpA K G xs ds) : DW K (Itl K a) ds G := by
  refine ⟨_, _, r.len ▸ walk_list (xs := xs), fun G2 m F H e W => ⟨SqL.of (W.ex _ _ (e _ _ h)), ?_⟩⟩
  rintro i H' x d hd ⟨rfl, hx⟩
  obtain ⟨v, hv, rv⟩ := r.at hd
  rw [hv] at hx
  cases hx
  exact ⟨G2, Ex.refl _, W, rv.mono e⟩
theorem dw_scr {a : Addr} {ns : List Int} {G : Hp} (h : SqL K G a (ns.map V.int)) : DW K (Itl K a) (ns.map D.int) G := by
  have hl : (ns.map D.int).length = (ns.map V.int).length := by rw [List.length_map, List.length_map]
  refine ⟨_, _, hl ▸ walk_list (xs := ns.map V.int), fun G2 m F H e W => ⟨Evl.ex_l W.ex (Evl.ex_l e h), ?_⟩⟩
  rintro i H' x d hd ⟨rfl, hx⟩
  rw [List.getElem?_map] at hd hx
  cases e2 : ns[i]? with
  | none => rw [e2] at hd; cases hd
  | some n =>
    rw [e2] at hd hx
    cases hd; cases hx
    exact ⟨G2, Ex.refl _, W, .int n⟩
theorem pi_lst (hK : ∀ i, (X i).K = K) (ha : PD K W X a wa) {tg : Expr} : PDI K W X tg a (iLst wa) := by
  obtain ⟨t, h1, h2⟩ := ha
  refine ⟨iList K t, fun i => hK i ▸ pi_list (h1 i), ?_⟩
  intro G m F H σ ρ R Qd Qx hW hE h hX hR
  refine h2 G m F H σ ρ _ _ Qx hW hE h hX ?_
  intro d m1 x G1 H1 q e1 W1 r1
  cases r1 <;> first | exact (show False from q).elim | skip
  case lst a0 xs ds hx rr => exact ⟨a0, rfl, ⟨xs, SqL.of (W1.ex _ _ hx)⟩, hR _ _ _ _ _ q e1 W1 (dw_list hx rr)⟩
  case scr a0 ns hx => exact ⟨a0, rfl, ⟨_, Evl.ex_l W1.ex hx⟩, hR _ _ _ _ _ q e1 W1 (dw_scr hx)⟩
/-- a tuple's items -/
def iTp (w : WE) : WA := fun ρ m Q Qx => w ρ m (fun d m1 => match d with
  | .tup ds => Q ds m1
  | _ => False) Qx
theorem pi_tp (hK : ∀ i, (X i).K = K) (ha : PD K W X a wa) {tg : Expr} : PDI K W X tg a (iTp wa) := by
  obtain ⟨t, h1, h2⟩ := ha
  refine ⟨iTup K t, fun i => hK i ▸ pi_tup (h1 i), ?_⟩
  intro G m F H σ ρ R Qd Qx hW hE h hX hR
  refine h2 G m F H σ ρ _ _ Qx hW hE h hX ?_
  intro d m1 x G1 H1 q e1 W1 r1
  cases r1 <;> first | exact (show False from q).elim | skip
  case tup a0 xs ds hx rr =>
    refine ⟨a0, rfl, ⟨xs, Evl.ex_t W1.ex hx⟩, hR _ _ _ _ _ q e1 W1 ?_⟩
    refine ⟨_, _, rr.len ▸ walk_tup (xs := xs), fun G2 m F H e W => ⟨Evl.ex_t W.ex (Evl.ex_t e hx), ?_⟩⟩
    rintro i H' x d hd ⟨rfl, hx⟩
    obtain ⟨v, hv, rv⟩ := rr.at hd
    rw [hv] at hx
    cases hx
    exact ⟨G2, Ex.refl _, W, rv.mono e⟩
/-- a text's signs -/
def signs (z : Str) : List D := z.cps.toList.map fun c => D.str ⟨#[c]⟩
def iSg (w : WE) : WA := fun ρ m Q Qx => w ρ m (fun d m1 => match d with
  | .str z => Q (signs z) m1
  | _ => False) Qx
theorem pi_sg (ha : PD K W X a wa) {tg : Expr} : PDI K W X tg a (iSg wa) := by
  obtain ⟨t, h1, h2⟩ := ha
  refine ⟨_, fun i => L2.pi_str (h1 i), ?_⟩
  intro G m F H σ ρ R Qd Qx hW hE h hX hR
  refine h2 G m F H σ ρ _ _ Qx hW hE h hX ?_
  intro d m1 x G1 H1 q e1 W1 r1
  cases r1 <;> first | exact (show False from q).elim | skip
  rename_i z
  refine ⟨z, rfl, hR _ _ _ _ _ q e1 W1 ?_⟩
  have hl : (signs z).length = z.cps.size := by unfold signs; rw [List.length_map, Array.length_toList]
  refine ⟨_, _, hl ▸ walk_str (z := z), fun G2 m F H e W => ⟨trivial, ?_⟩⟩
  rintro i H' x d hd ⟨rfl, c, hc, rfl⟩
  unfold signs at hd
  rw [List.getElem?_map, Array.getElem?_toList, hc] at hd
  cases hd
  exact ⟨G2, Ex.refl _, W, .str _⟩
/-- range(n) -/
def iRg1 (w : WA) : WA := fun ρ m Q Qx => w ρ m (fun ds m1 => match ds with
  | [.int n] => (-(2 ^ 62) ≤ n ∧ n < 2 ^ 62) ∧ Q ((List.range n.toNat).map fun i => D.int (0 + (i : Nat))) m1
  | _ => False) Qx
theorem pi_rg1 {mg : Str → Option Value} {p : Pos} (hX : ∀ i, (X i).mg = mg) (hm : mg "range" = none) (ha : PDA K W X [a] wr) (hg : ∀ i, Gl (X i) "range" := by intro _; rfl) (hs : ∀ i, starEach [a] (X i).env = [(false, eval a (X i).env)] := by intro _; rfl) {tg : Expr} : PDI K W X tg (.Call (.Name "range" p) [a] [] pos) (iRg1 wr) := by
  obtain ⟨t, h1, h2⟩ := ha
  refine ⟨_, fun i => pi_range1 (hg i) (by rw [hX i]; exact hm) (h1 i) (hs i), ?_⟩
  intro G m F H σ ρ R Qd Qx hW hE h hX hR
  refine h2 G m F H σ ρ _ _ Qx hW hE h hX ?_
  intro ds m1 xs G1 H1 q e1 W1 r1
  split at q
  · cases r1 with
    | cons r1 t =>
      cases t
      cases r1
      rename_i n
      refine ⟨n, rfl, q.1.1, q.1.2, hR _ _ _ _ _ q.2 e1 W1 ?_⟩
      have hl : ((List.range n.toNat).map fun i => D.int (0 + (i : Nat))).length = n.toNat := by rw [List.length_map, List.length_range]
      refine ⟨_, _, (by rw [hl]; exact walk_range (lo := 0) (n := n.toNat)), fun G2 m F H e W => ⟨trivial, ?_⟩⟩
      rintro i H' x d hd ⟨rfl, rfl⟩
      rw [List.getElem?_map] at hd
      cases e2 : (List.range n.toNat)[i]? with
      | none => rw [e2] at hd; cases hd
      | some j =>
        rw [e2] at hd
        cases hd
        obtain ⟨_, rfl⟩ := List.getElem?_eq_some_iff.mp e2
        rw [List.getElem_range]
        exact ⟨G2, Ex.refl _, W, .int _⟩
  · cases q

/-! ### statements -/
def sNext : WS := fun E ρ m => E.nx ρ m
def sSeq (t u : WS) : WS := fun E ρ m => t { E with nx := fun ρ' m' => u E ρ' m' } ρ m
def sRet (w : WE) : WS := fun E ρ m => w ρ m E.rt E.ex
def sDrop (w : WE) : WS := fun E ρ m => w ρ m (fun _ m' => E.nx ρ m') E.ex
def sIf (c : WT) (t u : WS) : WS := fun E ρ m => c ρ m (fun k m' => if k = true then t E ρ m' else u E ρ m') E.ex
def sSet (i : Nat) (w : WE) : WS := fun E ρ m => w ρ m (fun d m' => E.nx (ρ.set i (some d)) m') E.ex
def sNever : WS := fun _ _ _ => False
variable {st : Stmt} {sts sts' : List Stmt} {t u : WS} {ua : WT}
theorem pb_nil : PDB K W X [] sNext := ⟨_, fun _ => pss_nil, fun G m F H σ ρ S E hW hE h f => f.nx ρ m σ G H h (Ex.refl G) hW hE⟩
theorem pb_cons (h1 : PDS K W X st t) (h2 : PDB K W X sts u) : PDB K W X (st :: sts) (sSeq t u) := by
  obtain ⟨t', a1, a2⟩ := h1
  obtain ⟨u', b1, b2⟩ := h2
  refine ⟨_, fun i => pss_cons (a1 i) (b1 i), ?_⟩
  intro G m F H σ ρ S E hW hE h f
  refine a2 G m F H σ ρ _ _ hW hE h ⟨?_, f.rt, f.bk, f.ct, f.ex⟩
  intro ρ' m' σ' G' H' q e W' E'
  exact b2 G' m' F H' σ' ρ' S E W' E' q (f.mono e)
theorem pb_one (h1 : PDS K W X st t) : PDB K W X [st] t := by
  obtain ⟨t', a1, a2⟩ := h1
  exact ⟨_, fun i => pss_one (a1 i), a2⟩
theorem pb_never : PDB K W X sts sNever := ⟨_, fun _ => pss_never, fun G m F H σ ρ S E hW hE h f => h.elim⟩
theorem ps_never : PDS K W X st sNever := ⟨_, fun _ => L2.ps_never, fun G m F H σ ρ S E hW hE h f => h.elim⟩
theorem ps_ret (h : PD K W X e w) : PDS K W X (.Return (some e) pos) (sRet w) := by
  obtain ⟨t, h1, h2⟩ := h
  refine ⟨_, fun i => L2.ps_ret (h1 i), ?_⟩
  intro G m F H σ ρ S E hW hE h f
  exact h2 G m F H σ ρ _ _ E.ex hW hE h f.ex f.rt
theorem ps_expr (h : PD K W X e w) (hs : ∀ i, swapsWith e none pos.line (X i).env = pure false := by intro _; rfl) : PDS K W X (.Expr e pos) (sDrop w) := by
  obtain ⟨t, h1, h2⟩ := h
  refine ⟨_, fun i => L2.ps_expr (h1 i) (hs i), ?_⟩
  intro G m F H σ ρ S E hW hE h f
  refine h2 G m F H σ ρ _ _ E.ex hW hE h f.ex ?_
  intro d m' v G' H' q e W' r
  exact f.nx ρ m' σ G' H' q e W' (hE.mono e)
theorem ps_if (hc : PDT K W X c ua) (h1 : PDB K W X sts t) (h2 : PDB K W X sts' u) : PDS K W X (.If c sts sts' pos) (sIf ua t u) := by
  obtain ⟨tc, c1, c2⟩ := hc
  obtain ⟨t', a1, a2⟩ := h1
  obtain ⟨u', b1, b2⟩ := h2
  refine ⟨_, fun i => L2.ps_if (c1 i) (a1 i) (b1 i), ?_⟩
  intro G m F H σ ρ S E hW hE h f
  refine c2 G m F H σ ρ _ _ E.ex hW hE h f.ex ?_
  intro k m' G' H' q e W'
  cases k with
  | true => exact a2 G' m' F H' σ ρ S E W' (hE.mono e) q (f.mono e)
  | false => exact b2 G' m' F H' σ ρ S E W' (hE.mono e) q (f.mono e)
theorem ps_set (i : Nat) {N : List Str} {x : Str} {p' : Pos} (hX : ∀ j, (X j).N = N) (hN : N.Nodup) (h : PD K W X e w) (hi : N[i]? = some x := by rfl) (hx : ∀ j, Loc (X j).env.scope x := by intro _; first | exact Or.inl rfl | exact Or.inr rfl) (hs : ∀ j, swapsWith e (some (.Name x p')) pos.line (X j).env = pure false := by intro _; rfl)
    (hf : ∀ j, (X j).fn x = true ∨ (X j).env.scope.names.lookup x = some .local := by intro _; first | exact Or.inl rfl | exact Or.inr rfl) : PDS K W X (.Assign [.Name x p'] e pos) (sSet i w) := by
  obtain ⟨t, h1, h2⟩ := h
  refine ⟨_, fun j => L2.ps_set (i := i) (by rw [hX j]; exact hN) (by rw [hX j]; exact hi) (hx j) (h1 j) (hs j) (hf j), ?_⟩
  intro G m F H σ ρ S E hW hE h f
  refine h2 G m F H σ ρ _ _ E.ex hW hE h f.ex ?_
  intro d m' v G' H' q e W' r
  exact f.nx _ m' _ G' H' q e W' ((hE.mono e).put r i)
/-- xs[i] = e, xs owned -/
def sPut (o i v : WE) : WS := fun E ρ m => v ρ m (fun d m1 => o ρ m1 (fun x m2 => i ρ m2 (fun k m3 => match x, k with
  | .box a, .int j => ∃ ds n, m3 a = some ds ∧ ixN ds.length j = some n ∧ E.nx ρ (m3.up a (ds.set n d))
  | _, _ => False) E.ex) E.ex) E.ex
theorem ps_put {o i : Expr} {wo wi wv : WE} {p' : Pos} (hv : PD K W X e wv) (ho : PD K W X o wo) (hi : PD K W X i wi) (hs : ∀ j, swapsWithSole [.Subscript o i p'] e pos.line (X j).env = pure false := by intro _; rfl) (hw : ∀ j, swappedStores [.Subscript o i p'] e (X j).env = pure none := by intro _; rfl)
    (h1 : ∀ j, (assignEach [.Subscript o i p'] (X j).env).map (·.2) = [assign (.Subscript o i p') (X j).env] := by intro _; rfl)
    (ha : ∀ j v, assign (.Subscript o i p') (X j).env v = (do
      let ov ← holding [v] (eval o (X j).env)
      let iv ← holding [v, ov] (eval i (X j).env)
      standAt p'
      holding [v, ov, iv] (setItem ov iv v)
      release [v, ov, iv] []) := by intro _ _; rfl) : PDS K W X (.Assign [.Subscript o i p'] e pos) (sPut wo wi wv) := by
  obtain ⟨tv, v1, v2⟩ := hv
  obtain ⟨to, o1, o2⟩ := ho
  obtain ⟨ti, i1, i2⟩ := hi
  refine ⟨_, fun j => ps_asg (v1 j) (pg_sub (o1 j) (i1 j) set_list (ha j)) (hs j) (hw j) (h1 j), ?_⟩
  intro G m F H σ ρ S E hW hE h f
  refine v2 G m F H σ ρ _ _ E.ex hW hE h f.ex ?_
  intro d m1 v G1 H1 q1 e1 W1 r1
  refine o2 G1 m1 F H1 σ ρ _ _ E.ex W1 (hE.mono e1) q1 (f.ex.mono e1) ?_
  intro x m2 xv G2 H2 q2 e2 W2 r2
  refine i2 G2 m2 F H2 σ ρ _ _ E.ex W2 (hE.mono (e1.trans e2)) q2 (f.ex.mono (e1.trans e2)) ?_
  intro k m3 kv G3 H3 q3 e3 W3 r3
  have r2 := r2.mono e3
  have r1 := r1.mono (e2.trans e3)
  have e13 := (e1.trans e2).trans e3
  cases r2 <;> cases r3 <;> first | exact (show False from q3).elim | skip
  rename_i a j
  obtain ⟨ds, n, hm, hn, q⟩ := q3
  obtain ⟨_, _, xs, hx, rr⟩ := W3.own a ds hm
  refine ⟨a, xs, j, n, rfl, rfl, hx, by rw [rr.len]; exact hn, ?_⟩
  exact f.nx ρ _ σ G3 _ q e13 (W3.put hm (rr.set r1 n)) (hE.mono e13)
/-! ### for -/
def wLoop (g : WG) (body : WS) (E : De) : List D → En0 → Mem → Prop
  | [], ρ, m => E.nx ρ m
  | d :: ds, ρ, m => g d ρ fun ρ1 => body { E with nx := wLoop g body E ds, ct := wLoop g body E ds, bk := E.nx } ρ1 m
def sFor (wi : WA) (g : WG) (body : WS) : WS := fun E ρ m => wi ρ m (fun ds m1 => wLoop g body E ds ρ m1) E.ex
theorem drop_cons {α : Type} {l : List α} {i : Nat} (h : i < l.length) : l.drop i = l[i] :: l.drop (i + 1) := List.drop_eq_getElem_cons h
theorem ps_for {tg iter : Expr} {wi : WA} {js : List Nat} {g : WG} (hp : ∀ i, PassesOwn (model (X i).prog (X i).w) (X i).A (X i).env (X i).xe) (hc : ∀ i, (X i).calm = true) (hi : PDI K W X tg iter wi) (hg : PDG K X tg js g) (hb : PDB K W X sts t)
    (hs : ∀ i x, foldedSetIterable iter (X i).env x = pure x := by intro _ _; rfl) : PDS K W X (.For tg iter sts [] pos) (sFor wi g t) := by
  obtain ⟨ti, i1, i2⟩ := hi
  obtain ⟨tg', g1, g2⟩ := hg
  obtain ⟨tb, b1, b2⟩ := hb
  refine ⟨_, fun i => L2.ps_for (hp i) (hc i) (i1 i) (g1 i) (b1 i) (hs i), ?_⟩
  intro G m F H σ ρ S E hW hE h f
  refine i2 G m F H σ ρ _ _ E.ex hW hE h f.ex ?_
  intro ds m1 J G1 H1 h1 e1 W1 dw
  obtain ⟨Gd, Y, wk, st⟩ := dw
  refine for_it wk (fun i σ H => ∃ G' m' ρ', Ex G1 G' ∧ Wd K G' m' F H ∧ En K G' σ ρ' ∧ wLoop g t E (ds.drop i) ρ' m') ⟨G1, m1, ρ, Ex.refl _, W1, hE.mono e1, h1⟩ ?_ ?_ ?_
  · rintro i σ H _ ⟨G', m', ρ', e', W', _, _⟩
    exact (st G' m' F H e' W').1
  · rintro i x σ H H' hi ⟨G', m', ρ', e', W', E', l⟩ y
    rw [drop_cons hi] at l
    obtain ⟨G2, e2, W2, r⟩ := (st G' m' F H e' W').2 i H' x ds[i] (List.getElem?_eq_getElem hi) y
    have e12 := e1.trans (e'.trans e2)
    refine g2 G2 m' F H' x _ σ ρ' _ _ W2 (E'.mono e2) r l ?_
    intro ρ1 σ1 q E1 _
    refine b2 G2 m' F H' σ1 ρ1 _ _ W2 E1 q ⟨?_, (f.mono e12).rt, ?_, ?_, (f.mono e12).ex⟩
    · intro ρ2 m2 σ2 G3 H3 q3 e3 W3 E3
      exact ⟨G3, m2, ρ2, (e'.trans e2).trans e3, W3, E3, q3⟩
    · exact (f.mono e12).nx
    · intro ρ2 m2 σ2 G3 H3 q3 e3 W3 E3
      exact ⟨G3, m2, ρ2, (e'.trans e2).trans e3, W3, E3, q3⟩
  · rintro σ H ⟨G', m', ρ', e', W', E', l⟩
    rw [List.drop_length] at l
    exact f.nx ρ' m' σ G' H l (e1.trans e') W' E'
/-! ### comprehensions -/
def wLcGo (g : WG) (tt : WT) (te : WE) (ρ : En0) (Qx : XQ) : List D → List D → Mem → (D → Mem → Prop) → Prop
  | [], acc, m, Q => Q (.lst acc) m
  | d :: ds, acc, m, Q => g d ρ fun ρ1 => tt ρ1 m (fun b m1 => if b = true then te ρ1 m1 (fun y m2 => wLcGo g tt te ρ Qx ds (acc ++ [y]) m2 Q) Qx else wLcGo g tt te ρ Qx ds acc m1 Q) Qx
def wLc (wi : WA) (g : WG) (tt : WT) (te : WE) (vs : List Nat) : WE := fun ρ m Q Qx => wi ρ m (fun ds m1 => ds.length ≤ 1000000 ∧ wLcGo g tt te (wipeD ρ vs) Qx ds [] m1 Q) Qx
def tvYes : WT := fun _ m Q _ => Q true m
def PDTs (K : Fg) (W : Wx) {ι : Type} (X : ι → Cx) (es : List Expr) (w : WT) : Prop := ∃ t, (∀ i, PTs (X i) es t) ∧ LiftT K W t w
theorem pts_nil : PDTs K W X [] tvYes := ⟨_, fun _ => L2.pts_nil, fun G m F H σ ρ Q Qd Qx hW hE h hX hQ => hQ true m G H h (Ex.refl G) hW⟩
theorem pts_one (h : PDT K W X c ua) : PDTs K W X [c] ua := by
  obtain ⟨t, h1, h2⟩ := h
  exact ⟨t, fun i => L2.pts_one (h1 i), h2⟩
theorem line_big : (1000000 : Nat) < sizeLine := by rw [sizeLine_eq]; decide
theorem lift_lc {ti : TI} {wi : WA} {tG : TG} {js : List Nat} {g : WG} {tT : TT} {tt : WT} {tE : TE} {te : WE} {vs : List Nat} (hi : LiftI K W ti wi) (hg : LiftG K js tG g) (ht : LiftT K W tT tt) (he : LiftE K W tE te) (hj : ∀ j ∈ js, j ∈ vs) :
    LiftE K W (tLc ti tG tT tE vs) (wLc wi g tt te vs) := by
  intro G m F H σ ρ Q Qd Qx hW hE h hX hQ
  refine hi G m F H σ ρ _ _ Qx hW hE h hX ?_
  intro ds m1 J G1 H1 h1 e1 W1 dw
  intro Dl hD
  obtain ⟨Gd, Y, wk, st⟩ := dw
  obtain ⟨hG, hm, hF⟩ := W1.fresh hD
  obtain ⟨hz, h1⟩ := h1
  refine lc_it wk (fun i H => ∃ G' m' acc xs, Ex G1 G' ∧ Wd K G' m' (upd F Dl (.lst xs)) H ∧ RpA K G' xs acc ∧ acc.length ≤ i ∧ wLcGo g tt te (wipeD ρ vs) Qx (ds.drop i) acc m' Qd)
    ⟨G1, m1, [], [], Ex.refl _, W1.frame hD (.lst []), .nil, Nat.le_refl _, h1⟩ ?_ ?_ ?_
  · rintro i H _ ⟨G', m', acc, xs, e', W', _⟩
    exact (st G' m' _ H e' W').1
  · rintro i x H H' hi' ⟨G', m', acc, xs, e', W', ra, hl, l⟩ y
    rw [drop_cons hi'] at l
    obtain ⟨G2, e2, W2, r⟩ := (st G' m' _ H e' W').2 i H' x ds[i] (List.getElem?_eq_getElem hi') y
    have e12 := (e1.trans e').trans e2
    refine hg G2 m' _ H' x _ (L2.wipe σ vs) (wipeD ρ vs) _ _ W2 ((hE.mono e12).wipe vs) r l ?_
    intro ρ1 σ1 q E1 w1
    refine ⟨(w1 vs hj).trans wipe_wipe, ?_⟩
    refine ht G2 m' _ H' σ1 ρ1 _ _ Qx W2 E1 q ((hX.mono e12).frame hF) ?_
    intro b m2 G3 H3 q3 e3 W3
    have e13 := e12.trans e3
    cases b with
    | true =>
      refine he G3 m2 _ H3 σ1 ρ1 _ _ Qx W3 (E1.mono e3) q3 ((hX.mono e13).frame hF) ?_
      intro d m3 v G4 H4 q4 e4 W4 r4
      have rx := (ra.mono e2).mono (e3.trans e4)
      refine ⟨xs, W4.fr _ _ upd_same, ?_, G4, m3, acc ++ [d], xs ++ [v], ((e'.trans e2).trans e3).trans e4, W4.reframe _, rx.app (.cons r4 .nil), ?_, q4⟩
      · rw [ra.len]
        have := line_big
        omega
      · rw [List.length_append, List.length_singleton]; omega
    | false =>
      exact ⟨G3, m2, acc, xs, (e'.trans e2).trans e3, W3, (ra.mono e2).mono e3, by omega, q3⟩
  · rintro H ⟨G', m', acc, xs, e', W', ra, hl, l⟩
    rw [List.drop_length] at l
    obtain ⟨e3, W3⟩ := W'.adopt hF
    exact hQ _ m' _ _ _ l ((e1.trans e').trans e3) W3 (.lst upd_same (ra.mono e3))
theorem pd_lc {elt tg iter : Expr} {ifs : List Expr} {scope : Scope} {own : List (Str × Nat)} {wi : WA} {js : List Nat} {g : WG} {tt : WT} {te : WE} {N : List Str} (hX : ∀ j, (X j).N = N) (hc : ∀ i, (X i).calm = true) (hN : N.Nodup) (hi : PDI K W X tg iter wi)
    (ok : ∀ i, BlkOk N (X i).env.scope scope own) (hg : PDG K (Blk X scope) tg js g) (ht : PDTs K W (Blk X scope) ifs tt) (he : PD K W (Blk X scope) elt te) (hj : ∀ j ∈ js, j ∈ own.map (·.2) := by decide) (hs : ∀ i x, foldedSetIterable iter (X i).env x = pure x := by intro _ _; rfl) :
    PD K W X (.ListComp elt [⟨tg, iter, ifs, 0⟩] scope pos) (wLc wi g tt te (own.map (·.2))) := by
  obtain ⟨ti, i1, i2⟩ := hi
  obtain ⟨tG, g1, g2⟩ := hg
  obtain ⟨tT, t1, t2⟩ := ht
  obtain ⟨tE, e1, e2⟩ := he
  exact ⟨_, fun i => pe_lc (hc i) (by rw [hX i]; exact hN) (i1 i) (by rw [hX i]; exact ok i) (fun s H C cl fp => g1 (i, s, H, C, cl, fp)) (fun s H C cl fp => t1 (i, s, H, C, cl, fp)) (fun s H C cl fp => e1 (i, s, H, C, cl, fp)) (hs i), lift_lc i2 g2 t2 e2 hj⟩
theorem ps_setLc {i : Nat} {y : Str} {py : Pos} {elt tg iter : Expr} {ifs : List Expr} {scope : Scope} {own : List (Str × Nat)} {wi : WA} {js : List Nat} {g : WG} {tt : WT} {te : WE} {N : List Str} {spos : Pos} (hX : ∀ j, (X j).N = N) (hc : ∀ i, (X i).calm = true) (hN : N.Nodup) (hy : N[i]? = some y)
    (hyl : ∀ j, (X j).env.scope.names.lookup y = some .local) (hsw : ∀ j, swapsWith (.ListComp elt [⟨tg, iter, ifs, 0⟩] scope pos) (some (.Name y py)) spos.line (X j).env = pure true) (hi : PDI K W X tg iter wi)
    (ok : ∀ i, BlkOk N (X i).env.scope scope own) (hg : PDG K (Blk X scope) tg js g) (ht : PDTs K W (Blk X scope) ifs tt) (he : PD K W (Blk X scope) elt te) (hj : ∀ j ∈ js, j ∈ own.map (·.2) := by decide) (hs : ∀ i x, foldedSetIterable iter (X i).env x = pure x := by intro _ _; rfl) :
    PDS K W X (.Assign [.Name y py] (.ListComp elt [⟨tg, iter, ifs, 0⟩] scope pos) spos) (sSet i (wLc wi g tt te (own.map (·.2)))) := by
  obtain ⟨ti, i1, i2⟩ := hi
  obtain ⟨tG, g1, g2⟩ := hg
  obtain ⟨tT, t1, t2⟩ := ht
  obtain ⟨tE, e1, e2⟩ := he
  refine ⟨_, fun j => L2.ps_setLc (i := i) (hc j) (by rw [hX j]; exact hN) (by rw [hX j]; exact hy) (hyl j) (hsw j) (i1 j) (by rw [hX j]; exact ok j) (fun s H C cl fp => g1 (j, s, H, C, cl, fp)) (fun s H C cl fp => t1 (j, s, H, C, cl, fp)) (fun s H C cl fp => e1 (j, s, H, C, cl, fp)) (hs j), ?_⟩
  intro G m F H σ ρ S E hW hE h f
  refine lift_lc i2 g2 t2 e2 hj G m F H σ ρ _ _ E.ex hW hE h f.ex ?_
  intro d m' v G' H' q e W' r
  exact f.nx _ m' _ G' H' q e W' ((hE.mono e).put r i)
/-! ### join -/
def wJoin (o e : WE) : WE := fun ρ m Q Qx => o ρ m (fun x m1 => match x with
  | .str a => e ρ m1 (fun y m2 => match y with
    | .lst ds => ∃ ys, strsD ds = some ys ∧ (ys.map (·.length)).sum + ys.length * a.length ≤ 16777216 ∧ Q (.str (Txt.join a ys)) m2
    | _ => False) Qx
  | _ => False) Qx
theorem pd_join {o : Expr} {wo : WE} {apos : Pos} (hK : ∀ i, (X i).K = K) (ho : PD K W X o wo) (he : PD K W X e w) (hs : ∀ i, starEach [e] (X i).env = [(false, eval e (X i).env)] := by intro _; rfl) (hb : ∀ i, attributeBase o "join" (X i).env (eval o (X i).env) = eval o (X i).env := by intro _; rfl) (hl : (apos.endLine == pos.line) = true := by rfl) :
    PD K W X (.Call (.Attribute o "join" apos) [e] [] pos) (wJoin wo w) := by
  obtain ⟨to, o1, o2⟩ := ho
  obtain ⟨te, e1, e2⟩ := he
  refine ⟨_, fun i => hK i ▸ pe_join (o1 i) (e1 i) (hs i) (hb i) hl, ?_⟩
  intro G m F H σ ρ Q Qd Qx hW hE h hX hQ
  refine o2 G m F H σ ρ _ _ Qx hW hE h hX ?_
  intro x m1 xv G1 H1 q1 f1 W1 r1
  cases r1 <;> first | exact (show False from q1).elim | skip
  rename_i a
  refine ⟨⟨a, rfl⟩, ?_⟩
  refine e2 G1 m1 F H1 σ ρ _ _ Qx W1 (hE.mono f1) q1 (hX.mono f1) ?_
  intro y m2 yv G2 H2 q2 f2 W2 r2
  cases r2 <;> first | exact (show False from q2).elim | skip
  rename_i l xs ds hx rr
  obtain ⟨ys, hy, hz, q⟩ := q2
  rw [strs_of rr hy] at hx
  exact ⟨a, l, ys, rfl, rfl, Or.inl (SqL.of (W2.ex _ _ hx)), hz, hQ _ m2 _ _ _ q (f1.trans f2) W2 (.str _)⟩
end

/-! ### loops and comprehensions over data -/
theorem lc_pure {j : Nat} {tt : WT} {te : WE} {ρ : En0} {Qx : XQ} {m : Mem} (p : D → Bool) (f : D → D) : ∀ (ds acc : List D) (Q : D → Mem → Prop),
    (∀ d ∈ ds, ∀ Q : Bool → Mem → Prop, Q (p d) m → tt (ρ.set j (some d)) m Q Qx) → (∀ d ∈ ds, p d = true → ∀ Q : D → Mem → Prop, Q (f d) m → te (ρ.set j (some d)) m Q Qx) →
    Q (.lst (acc ++ (ds.filter p).map f)) m → wLcGo (gvName j) tt te ρ Qx ds acc m Q
  | [], acc, Q, _, _, h => by
    rw [List.filter_nil, List.map_nil, List.append_nil] at h
    exact h
  | d :: ds, acc, Q, h1, h2, h => by
    refine h1 d List.mem_cons_self _ ?_
    by_cases hp : p d = true
    · rw [if_pos hp]
      refine h2 d List.mem_cons_self hp _ ?_
      refine lc_pure p f ds (acc ++ [f d]) Q (fun e he => h1 e (List.mem_cons_of_mem _ he)) (fun e he => h2 e (List.mem_cons_of_mem _ he)) ?_
      rw [List.filter_cons_of_pos hp, List.map_cons] at h
      rw [List.append_assoc]
      exact h
    · rw [if_neg hp]
      refine lc_pure p f ds acc Q (fun e he => h1 e (List.mem_cons_of_mem _ he)) (fun e he => h2 e (List.mem_cons_of_mem _ he)) ?_
      rw [List.filter_cons_of_neg hp] at h
      exact h
theorem lc_map {j : Nat} {te : WE} {ρ : En0} {Qx : XQ} {m : Mem} (f : D → D) (ds acc : List D) (Q : D → Mem → Prop) (h2 : ∀ d ∈ ds, ∀ Q : D → Mem → Prop, Q (f d) m → te (ρ.set j (some d)) m Q Qx)
    (h : Q (.lst (acc ++ ds.map f)) m) : wLcGo (gvName j) tvYes te ρ Qx ds acc m Q := by
  refine lc_pure (fun _ => true) f ds acc Q (fun _ _ _ q => q) (fun d hd _ => h2 d hd) ?_
  rw [List.filter_eq_self.mpr (fun _ _ => rfl)]
  exact h
/-- a comprehension whose items change what is owned: I by the items so far -/
theorem lc_inv {j : Nat} {te : WE} {ρ : En0} {Qx : XQ} (I : List D → Mem → Prop) (n : Nat) : ∀ (ds acc : List D) (m : Mem) (Q : D → Mem → Prop), acc.length + ds.length = n → I acc m →
    (∀ d ∈ ds, ∀ acc m, acc.length < n → I acc m → ∀ Q : D → Mem → Prop, (∀ y m', I (acc ++ [y]) m' → Q y m') → te (ρ.set j (some d)) m Q Qx) →
    (∀ acc' m', acc'.length = n → I acc' m' → Q (.lst acc') m') → wLcGo (gvName j) tvYes te ρ Qx ds acc m Q
  | [], acc, m, Q, hn, h0, _, h => h acc m hn h0
  | d :: ds, acc, m, Q, hn, h0, h1, h => by
    rw [List.length_cons] at hn
    refine h1 d List.mem_cons_self acc m (by omega) h0 _ fun y m' h' => ?_
    refine lc_inv I n ds (acc ++ [y]) m' Q ?_ h' (fun e he => h1 e (List.mem_cons_of_mem _ he)) h
    rw [List.length_append, List.length_singleton]
    omega
/-- a for whose turns each end in a next one: I between the turns -/
theorem loop_inv {g : WG} {body : WS} {E : De} (I : En0 → Mem → Prop) : ∀ (ds : List D) (ρ : En0) (m : Mem), I ρ m →
    (∀ d ∈ ds, ∀ ρ m, I ρ m → ∀ E' : De, E'.rt = E.rt → E'.ex = E.ex → (∀ ρ' m', I ρ' m' → E'.nx ρ' m') → (∀ ρ' m', I ρ' m' → E'.ct ρ' m') → g d ρ fun ρ1 => body E' ρ1 m) → (∀ ρ m, I ρ m → E.nx ρ m) → wLoop g body E ds ρ m
  | [], ρ, m, h0, _, h => h ρ m h0
  | d :: ds, ρ, m, h0, h1, h => by
    refine h1 d List.mem_cons_self ρ m h0 _ rfl rfl ?_ ?_
    · intro ρ' m' h'
      exact loop_inv I ds ρ' m' h' (fun e he => h1 e (List.mem_cons_of_mem _ he)) h
    · intro ρ' m' h'
      exact loop_inv I ds ρ' m' h' (fun e he => h1 e (List.mem_cons_of_mem _ he)) h

/-! ### defs, by data -/
abbrev DFn := List D → Mem → (D → Mem → Prop) → XQ → Prop
def FitXc (K : Fg) (mg : Str → Option Value) (G : Hp) (F : Hp) (Qx : XQ) (E : XK) : Prop := ∀ x m' cls d G' H', Qx x m' → mg x.cls = some cls → Ex G G' → Wd K G' m' F H' → Xr K G' x d → E cls d H'
def spD (K : Fg) (mg : Str → Option Value) (f : DFn) : Sp := fun vs H Q E => ∃ G m F ds Qd Qx, Wd K G m F H ∧ RpA K G vs ds ∧ f ds m Qd Qx ∧ FitE K G F Q Qd ∧ FitXc K mg G F Qx E
/-- a def's promise, where no repr is under way -/
structure FnG (P : Program) (w : World) (K : Fg) (mg : Str → Option Value) (base : Heap) (CX : CXT) (k : Nat) (f : Addr) (fd : FuncData) (ps : List Str) (sp : Sp) : Prop where
  size : ∀ vs H Q E, sp vs H Q E → vs.length = ps.length
  runs : ∀ (A : Around) (oe : List Env) (s : Shared) (H : Hp) (ar : Args) (us : List Value) (vs : List V) (Q : VK) (E : XK), A.guards = some [] → Room k A → Env0 P w K mg base A oe s H → BindsTo s fd ar (ps.zip us) →
    Vals vs us → sp vs H Q E → codeAny (model P w) A (.call (.ref f) ar) (CR CX oe P w H s Q E) s
section
variable {P : Program} {w : World} {K : Fg} {mg : Str → Option Value} {base : Heap} {k : Nat} {N : List Str} {W : Wx} {ι : Type} {X : ι → Cx} {f : Addr} {fd : FuncData} {ps : List Str} {pos : Pos}
theorem FnG.goes {X : Cx} {CX : CXT} {sp : Sp} {dvs : List V} {ds : List Value} {E : XK} {pins : List (Addr × Obj)} {σ : L2.St} {H : Hp} {s : Shared} {Q : VK} {us : List Value} {vs : List V} (Fn : FnG X.prog X.w X.K X.mg X.base CX k f fd ps sp)
    (hg : X.A.guards = some []) (hr : Room k X.A) (hb : Binds X.K fd ps ds) (hd : Vals dvs ds) (hx : Passes CX X E) (I : Inv X pins σ H s) (r : Vals vs us) (h : sp (vs ++ dvs) H Q E) :
    wpAny (model X.prog X.w) X.A (call (.ref f) us) (EP X pins σ Q) X.xe s := by
  have rr : Vals (vs ++ dvs) (us ++ ds) := r.append hd
  have hlen : (us ++ ds).length = ps.length := rr.length.symm.trans (Fn.size _ _ _ _ h)
  have goal := Fn.runs X.A X.stack s H ⟨us, []⟩ (us ++ ds) (vs ++ dvs) Q E hg hr I.env0 (hb s us I.kIn hlen) rr h
  refine wpAny_call (codeAny_mono goal ?_)
  rintro (e | fl) s' hq
  · exact hx pins σ H s e s' I hq
  · cases fl <;> first | exact I.after hq | exact (hq : False).elim
/-- f(e, ..) of the text, nothing raised -/
def wCall (fn : DFn) (a : WA) : WE := fun ρ m Q Qx => a ρ m (fun ds m1 => fn ds m1 Q (fun _ _ => False)) Qx
theorem pd_call {fn : DFn} {j : Nat} {x : Str} {p : Pos} {e : Expr} {es : List Expr} {wr : WA} (hX : FamG P w K mg base k N X) (Fn : FnG P w K mg base CX0 j f fd ps (spD K mg fn)) (hj : j ≤ k) (hg : ∀ i, Gl (X i) x) (hm : mg x = some (.ref f)) (hk : PySem.W.keepIn K (.ref f) = true)
    (hb : Binds K fd ps []) (ha : PDA K W X (e :: es) wr) (hd : (x == ("__debug__" : Str)) = false) (he : ∀ i, starEach (e :: es) (X i).env = (false, eval e (X i).env) :: starEach es (X i).env)
    (hpl : ∀ i, (backTo pos (starEach es (X i).env)).any (·.1) = false) : PD K W X (.Call (.Name x p) (e :: es) [] pos) (wCall fn wr) := by
  obtain ⟨t, a1, a2⟩ := ha
  refine ⟨fun σ H Q => t σ H fun vs H1 => spD K mg fn (vs ++ []) H1 Q E0, fun i => ⟨fun pins s σ H Q I h => ?_⟩, ?_⟩
  · have hmi : (X i).mg x = some (.ref f) := by rw [hX.mg i]; exact hm
    have Fi : FnG (X i).prog (X i).w (X i).K (X i).mg (X i).base CX0 j f fd ps (spD K mg fn) := by rw [hX.prog i, hX.w i, hX.K i, hX.mg i, hX.base i]; exact Fn
    refine wpAny_Call_Name_kw (ld_glob I (hg i) hmi ?_ hd)
    refine PySem.W.callWith_K (h₀ := (X i).base) I.ok.mod.kin (by rw [hX.K i]; exact hk) (thn ((a1 i).run pos pins s σ H _ I h) ?_) (he i) (hpl i)
    rintro us s1 ⟨vs, H1, I1, r, q⟩
    exact ⟨I1.kIn, Fi.goes (hX.guards i) ((hX.room i).mono hj) (by rw [hX.K i]; exact hb) .nil pass0 I1 r q⟩
  · intro G m F H σ ρ Q Qd Qx hW hE h hXx hQ
    refine a2 G m F H σ ρ _ _ Qx hW hE h hXx ?_
    intro ds m1 vs G1 H1 q e1 W1 r1
    refine ⟨G1, m1, F, ds, Qd, fun _ _ => False, W1, by rw [List.append_nil]; exact r1, q, ?_, fun _ _ _ _ _ _ z => z.elim⟩
    intro d m' v G' H' z e
    exact hQ d m' v G' H' z (e1.trans e)
/-- the def x of the text stands and keeps the promise fn -/
def Has (P : Program) (w : World) (K : Fg) (mg : Str → Option Value) (base : Heap) (j : Nat) (x : Str) (ps : List Str) (fn : DFn) : Prop :=
  ∃ f fd, FnG P w K mg base CX0 j f fd ps (spD K mg fn) ∧ mg x = some (.ref f) ∧ PySem.W.keepIn K (.ref f) = true ∧ Binds K fd ps []
theorem pd_own_call {fn : DFn} {j : Nat} {x : Str} {p : Pos} {e : Expr} {es : List Expr} {wr : WA} (hX : FamG P w K mg base k N X) (h : Has P w K mg base j x ps fn) (ha : PDA K W X (e :: es) wr) (hj : j ≤ k := by decide) (hg : ∀ i, Gl (X i) x := by intro _; rfl) (hd : (x == ("__debug__" : Str)) = false := by decide)
    (he : ∀ i, starEach (e :: es) (X i).env = (false, eval e (X i).env) :: starEach es (X i).env := by intro _; rfl) (hpl : ∀ i, (backTo pos (starEach es (X i).env)).any (·.1) = false := by intro _; rfl) : PD K W X (.Call (.Name x p) (e :: es) [] pos) (wCall fn wr) := by
  obtain ⟨f, fd, Fn, hm, hk, hb⟩ := h
  exact pd_call hX Fn hj hg hm hk hb ha hd he hpl
/-- a def of the text keeps its promise: its body's reading, by data -/
theorem fn_ok {x qual : Str} {st : Stmt} {fn : DFn} {wb : WS} (Fu : Fun K x qual st f fd) (S : FnScope N ps (defScope st)) (hlen : ∀ ds m Q Qx, fn ds m Q Qx → ds.length = ps.length)
    (hb : ∀ (cdv : Value) (A : Around) (oe : List Env) (s : Shared) (H : Hp) (E : XK), FamG P w K mg base k N (fun _ : Unit => (cxOf CX0 P w K mg base N qual (defScope st) f cdv A oe s H E).nox) →
      PDB K W (fun _ : Unit => (cxOf CX0 P w K mg base N qual (defScope st) f cdv A oe s H E).nox) (defBody st) wb)
    (hr : ∀ ds m Qd Qx, fn ds m Qd Qx → wb { nx := fun _ m' => Qd .non m', rt := Qd } (ds.map some ++ List.replicate (N.length - ds.length) none) m) :
    FnG P w K mg base CX0 (k + 1) f fd ps (spD K mg fn) := by
  obtain ⟨oc, od, kV, doc, pm, an, cdv, ct, osl, rfl, lk, hcd⟩ := Fu.ex
  have size : ∀ vs H Q E, spD K mg fn vs H Q E → vs.length = ps.length := by
    rintro vs H Q E ⟨G, m, F, ds, Qd, Qx, _, r, hf, _⟩
    exact r.len.trans (hlen _ _ _ _ hf)
  refine ⟨size, ?_⟩
  intro A oe s H ar us vs Q E hgd hrm e0 hbind r hsp
  have hl := size _ _ _ _ hsp
  have old : ∀ b o, base.get? b = some o → s.heap.get? b = some o := fun b o e => (e0.bs b o e).1
  have KX : K.In s.heap := e0.mod.kin.keeps old
  have lim : s.heap.NoLimit := e0.mod.nolimit.keeps old
  have kinds : ∀ y ∈ ps.zip us, (defScope st).names.lookup y.1 = some .local ∨ ((defScope st).names.lookup y.1 = some .cell ∧ ((cellsFrom (s.heap.objs.size + 1) (defScope st).names []).lookup y.1).isSome = true) := by
    rintro ⟨n, v⟩ hy
    rcases S.par n (List.of_mem_zip hy).1 with q | q
    · exact Or.inl q
    · exact Or.inr ⟨q, PySem.W.cellsFrom_some _ _ _ (Or.inl q)⟩
  refine codeAny_call_function hrm.depth (KX _ _ lk) rfl S.co S.gen rfl (PySem.W.codeRec_of KX hcd) (hbind _ _ _ _ ?_)
  refine wpAny_newFunctionEnv_cells S.kind kinds ?_
  rintro env rfl s1 nx
  refine ⟨lim.keeps nx.toInCall.keep, codeAny_func ?_⟩
  have fam : FamG P w K mg base k N (fun _ : Unit => (cxOf CX0 P w K mg base N qual (defScope st) f cdv A oe s H E).nox) :=
    { prog := fun _ => rfl, w := fun _ => rfl, K := fun _ => rfl, mg := fun _ => rfl, base := fun _ => rfl, hN := fun _ => rfl, calm := fun _ => rfl, room := fun _ => hrm.deeper _, nd := S.nd, guards := fun _ => hgd }
  obtain ⟨t, h1, h2⟩ := hb cdv A oe s H E fam
  have I : Inv (cxOf CX0 P w K mg base N qual (defScope st) f cdv A oe s H E) [] (start N vs) H s1 := inv_start S hrm.hd e0 hl r nx
  obtain ⟨G, m, F, ds, Qd, Qx, hW, rr, hf, hQ, _⟩ := hsp
  have reading : t { nx := fun _ H' => Q .non H', rt := Q } (start N vs) H := by
    refine h2 G m F H _ _ _ { nx := fun _ m' => Qd .non m', rt := Qd } hW ?_ (hr ds m Qd Qx hf) ⟨?_, ?_, ?_, ?_, ?_⟩
    · unfold L2.start
      rw [rr.len]
      exact En.start _ rr
    · intro ρ' m' σ' G' H' q e W' _
      exact hQ _ m' _ G' H' q e W' .non
    · exact hQ
    · intro _ _ _ _ _ z; exact z.elim
    · intro _ _ _ _ _ z; exact z.elim
    · intro _ _ _ _ _ _ z; exact z.elim
  refine wpAny_mono (((h1 ()).nox).run [] s1 (start N vs) H _ I reading) ?_ fun e s' z => z
  have fin : ∀ {s' : Shared} {σ' : L2.St} {H' : Hp} {v : V} {u : Value}, Inv (cxOf CX0 P w K mg base N qual (defScope st) f cdv A oe s H E) [] σ' H' s' → RelV v u → Q v H' → CE oe P w H s Q u s' := by
    intro s' σ' H' v u J rv q
    exact ⟨v, H', J.os, J.bare, J.base, J.hok, rv, q⟩
  intro fl s' hs
  cases fl
  case ret u =>
    obtain ⟨v, σ', H', J, rv, q⟩ := hs
    exact fin J rv q
  case next =>
    obtain ⟨σ', H', J, q⟩ := hs
    exact fin (v := V.non) (u := Value.none) J rfl q
  case brk =>
    obtain ⟨_, _, _, q⟩ := hs
    exact (q : False).elim
  case cont =>
    obtain ⟨_, _, _, q⟩ := hs
    exact (q : False).elim
/-- a def of the text as it stands behind the top -/
def FunAt (K : Fg) (mg : Str → Option Value) (x qual : Str) (st : Stmt) (ps : List Str) : Prop := ∃ f fd, mg x = some (.ref f) ∧ Fun K x qual st f fd ∧ Binds K fd ps []
theorem has_of {x qual : Str} {st : Stmt} {fn : DFn} {wb : WS} (Fu : FunAt K mg x qual st ps) (S : FnScope N ps (defScope st)) (hlen : ∀ ds m Q Qx, fn ds m Q Qx → ds.length = ps.length)
    (hb : ∀ (f : Addr) (cdv : Value) (A : Around) (oe : List Env) (s : Shared) (H : Hp) (E : XK), FamG P w K mg base k N (fun _ : Unit => (cxOf CX0 P w K mg base N qual (defScope st) f cdv A oe s H E).nox) →
      PDB K W (fun _ : Unit => (cxOf CX0 P w K mg base N qual (defScope st) f cdv A oe s H E).nox) (defBody st) wb)
    (hr : ∀ ds m Qd Qx, fn ds m Qd Qx → wb { nx := fun _ m' => Qd .non m', rt := Qd } (ds.map some ++ List.replicate (N.length - ds.length) none) m) : Has P w K mg base (k + 1) x ps fn := by
  obtain ⟨f, fd, hm, F, hbi⟩ := Fu
  exact ⟨f, fd, fn_ok F S hlen (hb f) hr, hm, F.kp, hbi⟩
theorem at_mk {h : Heap} {x qual : Str} {st : Stmt} {f : Addr} {oc : Value} {od an : Option Addr} {osl : Array (Option Value)} {kV doc pm cdv ct : Value} (X : K.In h) (G : h.Ns mainGlobals mg) (a : PySem.W.nsIn K mainGlobals x = some (some (.ref f)))
    (l : K.lookup f = some ⟨oc, od, .func (PySem.W.fnOf x qual (defArgs st) (defBody st) (defScope st) .none kV doc pm an cdv ct), osl⟩) (c : PySem.W.codeIn K cdv qual = true) (kp : PySem.W.keepIn K (.ref f) = true)
    (hb : ∀ (kV doc pm : Value) (an : Option Addr) (cdv ct : Value) (us : List Value), us.length = ps.length → bindArgs (PySem.W.fnOf x qual (defArgs st) (defBody st) (defScope st) .none kV doc pm an cdv ct) ⟨us, []⟩ = pure (ps.zip us)) : FunAt K mg x qual st ps :=
  ⟨f, _, PySem.W.mg_of X G a, fun_mk l c kp, (fun_mk l c kp).binds hb⟩
end

/-! ### the end -/
open PyProof.Rows (AllBare IntsAre)
/-- what is asked of the law's def: handed the script it gives True -/
def lawFn (n : Nat) : DFn := fun ds m Q _ => ∃ ns : List Int, ds = [.scr ns] ∧ ns.length ≤ n ∧ ∀ m', Q (.bl true) m'
theorem lawFn_len {n : Nat} : ∀ ds m Q Qx, lawFn n ds m Q Qx → ds.length = (["_law_script"] : List Str).length := by
  rintro ds m Q Qx ⟨ns, rfl, _⟩
  rfl
section
variable {P : Program} {w : World} {K : Fg} {mg mb : Str → Option Value} {k n : Nat} {fa a : Addr} {fd : FuncData} {x : Str} {s1 : Shared} {vs : List Value} {ns : List Int}
theorem from_only (H : Hp) (hO : Only H) (hS : SqL K H a (ns.map V.int)) (hok : HOk P w H s1.heap) (hA : ∀ b, H b ≠ none → b = a) (hK : H a ≠ none → K.lookup a = none) (KX : K.In s1.heap) (hns : s1.heap.Ns mainGlobals mg) (hb : s1.heap.Ns builtinsNs mb)
    (hbb : ∀ y : Str, y ≠ "__name__" → mb y = bootBuiltins y) (hlim : s1.heap.NoLimit) (hg : s1.gens = #[]) (ha : s1.heap.get? a = some { cls := .type "list", data := .seq vs.toArray }) (hl : ns.length ≤ n) (hr : Room k callerA)
    (F : ∀ base : Heap, K.In base → base.Ns mainGlobals mg → FnG P w K mg base CX0 k fa fd [x] (spD K mg (lawFn n))) (hbind : ∀ (s : Shared) (u : Value), BindsTo s fd ⟨[u], []⟩ [(x, u)]) :
    codeAny (model P w) callerA (.call (.ref fa) ⟨[.ref a], []⟩) (fun r s' => r = .ok (.ret (.bool true)) ∧ OldK s1.heap s'.heap ∧ s'.os = s1.os ∧ AllBare s'.gens) s1 := by
  have only_a : ∀ {b : Addr} {u : HO}, H b = some u → b = a := by
    intro b u q
    exact hA b (by rw [q]; exact fun z => by cases z)
  have bare : ∀ {b : Addr} {o : Obj} {es : Array DictEntry} {ep : Nat}, s1.heap.get? b = some o → o.data = .dict es ep → H b = none := by
    intro b o es ep e d
    cases q : H b with
    | none => rfl
    | some u =>
      have e' := only_a q
      subst e'
      rw [ha] at e
      cases e
      cases (d : Data.seq vs.toArray _ = Data.dict es ep)
  have nsOf : ∀ {b : Addr} {m : Str → Option Value}, s1.heap.Ns b m → (hidT s1.heap H).Ns b m := by
    rintro b m ⟨o, es, ep, e, d, r⟩
    exact ⟨o, es, ep, hidT_get e (bare e d), d, r⟩
  have kin : K.In (hidT s1.heap H) := by
    intro b o e
    refine hidT_get (KX b o e) ?_
    cases q : H b with
    | none => rfl
    | some u =>
      have e' := only_a q
      subst e'
      have := hK (by rw [q]; exact fun z => by cases z)
      rw [this] at e
      cases e
  have lim2 : (hidT s1.heap H).NoLimit := by
    obtain ⟨mc, h1, h2⟩ := hlim
    exact ⟨mc, nsOf h1, h2⟩
  have md : Mod K mg (hidT s1.heap H) := ⟨kin, nsOf hns, ⟨mb, nsOf hb, hbb⟩, lim2⟩
  have e0 : Env0 P w K mg (hidT s1.heap H) callerA [] s1 H := ⟨rfl, md, fun _ _ e => of_hidT e, Nat.le_of_eq (hidT_size _ _), trivial, (fun b hb => nomatch hb), hok, PyProof.Rows.AllBare.of_eq hg⟩
  have W0 : Wd K H (fun _ => none) (fun _ => none) H := ⟨fun _ _ h => h, (fun _ _ h => nomatch h), (fun _ _ h => nomatch h), (fun _ _ h => nomatch h)⟩
  have sp : spD K mg (lawFn n) [.ref a] H (fun v _ => v = .bl true) (fun _ _ _ => False) := by
    refine ⟨H, fun _ => none, fun _ => none, [.scr ns], fun d _ => d = .bl true, fun _ _ => False, W0, .cons (.scr hS) .nil, ⟨ns, rfl, hl, fun _ => rfl⟩, ?_, fun _ _ _ _ _ _ z => z.elim⟩
    rintro d m' v G' H' rfl _ _ r
    cases r
    rfl
  refine codeAny_mono ((F _ kin (nsOf hns)).runs callerA [] s1 H ⟨[.ref a], []⟩ [.ref a] [.ref a] _ _ rfl hr e0 (hbind s1 (.ref a)) (.cons rfl .nil) sp) ?_
  rintro (e | fl) s' h
  · exact (h : False).elim
  cases fl <;> first | exact (h : False).elim | skip
  rename_i u
  obtain ⟨v, H', os, br, un, hok', r', q⟩ := h
  have q : v = .bl true := q
  subst q
  have r' : u = Value.bool true := r'
  subst r'
  refine ⟨rfl, OldK.of_keep ?_, os, br⟩
  intro b o e
  cases q : H b with
  | none => exact un.keep b o e q (by intro z; cases z) (by intro z; cases z)
  | some u =>
    rcases hO b with z | ⟨ob, xs, z⟩
    · rw [q] at z; cases z
    · have t1 := (hok b _ z).1
      have t2 := (hok' b _ (un.frzs b ob _ z)).1
      rw [e] at t1
      cases t1
      exact t2
theorem law_runs (KX : K.In s1.heap) (hns : s1.heap.Ns mainGlobals mg) (hb : s1.heap.Ns builtinsNs mb) (hbb : ∀ y : Str, y ≠ "__name__" → mb y = bootBuiltins y) (hlim : s1.heap.NoLimit) (hg : s1.gens = #[])
    (ha : s1.heap.get? a = some { cls := .type "list", data := .seq vs.toArray }) (hi : IntsAre vs ns) (hl : ns.length ≤ n) (hn : n ≤ sizeLine) (hr : Room k callerA)
    (F : ∀ base : Heap, K.In base → base.Ns mainGlobals mg → FnG P w K mg base CX0 k fa fd [x] (spD K mg (lawFn n))) (hbind : ∀ (s : Shared) (u : Value), BindsTo s fd ⟨[u], []⟩ [(x, u)]) :
    codeAny (model P w) callerA (.call (.ref fa) ⟨[.ref a], []⟩) (fun r s' => r = .ok (.ret (.bool true)) ∧ OldK s1.heap s'.heap ∧ s'.os = s1.os ∧ AllBare s'.gens) s1 := by
  have rv := vals_ints hi
  have lz : ns.length ≤ sizeLine := Nat.le_trans hl hn
  have sz : (ns.map V.int).length ≤ sizeLine := by rw [List.length_map]; exact lz
  have vz : vs.length ≤ sizeLine := by rw [← rv.length]; exact sz
  cases hk : K.lookup a with
  | some o =>
    have e := KX a o hk
    rw [ha] at e
    cases e
    refine from_only (fun _ => none) (fun _ => Or.inl rfl) (Or.inr ⟨_, vs.toArray, _, hk, rfl, rfl, rfl, by rw [List.size_toArray]; exact vz, by simpa using rv⟩) (by intro b u z; cases z) (by intro b z; exact absurd rfl z) (by intro z; exact absurd rfl z) KX hns hb hbb hlim hg ha hl hr F hbind
  | none =>
    have at_a : ∀ {b : Addr} {u : HO}, (if b = a then some (HO.frz { cls := .type "list", data := .seq vs.toArray } (.lst (ns.map V.int))) else none) = some u → b = a ∧ u = HO.frz { cls := .type "list", data := .seq vs.toArray } (.lst (ns.map V.int)) := by
      intro b u z
      by_cases hba : b = a
      · rw [if_pos hba] at z; cases z; exact ⟨hba, rfl⟩
      · rw [if_neg hba] at z; cases z
    refine from_only (fun b => if b = a then some (.frz { cls := .type "list", data := .seq vs.toArray } (.lst (ns.map V.int))) else none) ?_ (Or.inl (Or.inr ⟨_, if_pos rfl⟩)) ?_ ?_ (fun _ => hk) KX hns hb hbb hlim hg ha hl hr F hbind
    · intro b
      by_cases hba : b = a
      · exact Or.inr ⟨_, _, if_pos hba⟩
      · exact Or.inl (if_neg hba)
    · intro b u z
      obtain ⟨rfl, rfl⟩ := at_a z
      exact ⟨ha, sz, vs, _, rv, ha⟩
    · intro b z
      by_cases hba : b = a
      · exact hba
      · exact absurd (if_neg hba) z
end
/-- the goal that the head leaves -/
theorem the_end {l : PySem.W.OpenLaw} {n k : Nat} {q : Program} {loose : List Str} {XP : (Str → Option Value) → Heap → Prop} {YP : World → Heap → Prop} {d : DefRec} {K : Params → Fg} {x : Str}
    (hn : l.most = some n) (hz : n ≤ sizeLine) (hdf : d.params.defaults = []) (hr : Room k callerA) (hY : ∀ (w : World) (h : Heap), YP w h → (K w.params).In h)
    (F : ∀ (w : World) (mg : Str → Option Value) (fa : Addr) (h : Heap), (K w.params).In h → h.Ns mainGlobals mg → mg d.name = some (.ref fa) →
      ∃ fd : FuncData, (∀ (s : Shared) (u : Value), BindsTo s fd ⟨[u], []⟩ [(x, u)]) ∧ ∀ base : Heap, (K w.params).In base → base.Ns mainGlobals mg → FnG l.prog w (K w.params) mg base CX0 k fa fd [x] (spD (K w.params) mg (lawFn n))) :
    PySem.W.WalkO q loose XP YP l.row.toRowW d [] (fun f vs => PySem.call f vs) := by
  refine Att.attach_call hn hdf ?_
  intro w s0 s1 mg mb fa o pm cd doc a vs ns G Y ho hd hcd hmg hobj hints hlen hg
  obtain ⟨fd, hb, hF⟩ := F w mg fa _ (hY w _ Y) G.T.g hmg
  exact law_runs (hY w _ Y) G.T.g G.T.b G.T.builtins G.T.nolimit hg hobj hints hlen hz hr hF hb
end DL
/-! XO: exception classes «def __init__(self, f): super().__init__('..'); self.f = f», made, raised, caught. -/
namespace XO
open PySem PySem.W PySem.Calls PyProof.Rows PySem.HandSPX
def iA (fld : Str) (p1 p2 : Pos) : Arguments := { posonlyargs := [], args := [{ arg := "self", annotation := none, pos := p1 }, { arg := fld, annotation := none, pos := p2 }], vararg := none, kwonlyargs := [], kw_defaults := [], kwarg := none, defaults := [] }
def iB (fld msg : Str) (j : Nat) (a1 a2 a3 a4 a5 a6 q1 q2 q3 q4 : Pos) : List Stmt :=
  [.Expr (.Call (.Attribute (.Call (.Name "super" a1) [] [] a2) "__init__" a3) [.Constant (.str msg) j a4] [] a5) a6, .Assign [.Attribute (.Name "self" q1) fld q2] (.Name fld q3) q4]
def iS (fld : Str) : Scope := { kind := .function, names := [(PySem.Str.ofString "self", .local), (fld, .local), (PySem.Str.ofString "__class__", .free), (PySem.Str.ofString "super", .globalImplicit)], isGenerator := false, isCoroutine := false, more := [] }
/-- what makes an own exception: the maker bears the name of some built-in BN -/
structure NewF (BN newId : String) (bmB : List Value) : Prop where
  quiet : newId.startsWith "lifetime." = false
  kind : builtinKind newId = some .builtinFn
  split : splitId newId = some (BN, "__new__")
  row : Manifest.signature? newId = some ⟨.any, BN, BN, .cls, [⟨"args", .varPos, false⟩, ⟨"kwargs", .varKw, false⟩]⟩
  ends : newId.endsWith ".__new__" = true
  owner : newId.dropRight 8 = BN
  entry : entryFor table newId = some Builtin.«BaseException.__new__»
  canon : Manifest.canonical newId = Manifest.canonical "BaseException.__new__"
  noStar : (BN != "*") = true
  has : bmB.contains (.type BN) = true
  noAttr : bmB.contains (.type "AttributeError") = false
  noName : bmB.contains (.type "NameError") = false
/-- what the built-in __init__ of the base B asks -/
structure InitF (B initId : String) : Prop where
  plain : plainId initId = true
  entry : entryFor table initId = some Builtin.«BaseException.__init__»
  kind : builtinKind initId = some .slot
  row : Manifest.signature? initId = some ⟨.positional, "*", B, .self, [⟨"args", .varPos, false⟩]⟩
  noStar : (B != "*") = true
theorem NewF.of {B newId initId : String} {bm : List Value} (F : ExcBaseFacts B newId initId bm) : NewF B newId bm :=
  ⟨F.quiet, F.newKind, F.newSplit, F.newRow, F.ends, F.owner, F.entry, F.canon, F.noStar, F.hasB, F.noAttr, F.noName⟩
theorem InitF.of {B newId initId : String} {bm : List Value} (F : ExcBaseFacts B newId initId bm) : InitF B initId :=
  ⟨F.init.plain, F.initEntry, F.initKind, F.initRow, F.noStar⟩
/-- a built-in base: its facts -/
structure Base (B newId initId : String) (bmB : List Value) : Prop where
  new : ∃ BN, NewF BN newId bmB
  ini : InitF B initId
  KF : KxsFacts B initId
  pass : ∀ self, refuseLoop self "__setattr__" bmB = pure ()
  obj : bmB.contains (.type "object") = true
theorem base_ValueError : Base "ValueError" "ValueError.__new__" "ValueError.__init__" [.type "ValueError", .type "Exception", .type "BaseException", .type "object"] :=
  ⟨⟨_, .of F.excBase_ValueError⟩, .of F.excBase_ValueError, kxs_ValueError, fun s => F.store_ValueError.passes s, by decide +kernel⟩
theorem base_LookupError : Base "LookupError" "LookupError.__new__" "LookupError.__init__" [.type "LookupError", .type "Exception", .type "BaseException", .type "object"] :=
  ⟨⟨_, .of F.excBase_LookupError⟩, .of F.excBase_LookupError, kxs_LookupError, fun s => F.store_LookupError.passes s, by decide +kernel⟩
theorem new_KeyError : NewF "LookupError" "LookupError.__new__" [.type "KeyError", .type "LookupError", .type "Exception", .type "BaseException", .type "object"] :=
  have F := NewF.of F.excBase_LookupError
  ⟨F.quiet, F.kind, F.split, F.row, F.ends, F.owner, F.entry, F.canon, F.noStar, by decide +kernel, by decide +kernel, by decide +kernel⟩
theorem init_KeyError : InitF "KeyError" "KeyError.__init__" :=
  ⟨excClass_KeyError.init.plain, excClass_KeyError.initEntry, excClass_KeyError.initKind, by kernel_rfl, by decide +kernel⟩
theorem kxs_KeyErr : KxsFacts "KeyError" "KeyError.__init__" := ⟨by show builtinType _ = _; rw [builtinType_eq_fast]; kernel_rfl, by first | kernel_rfl | rfl⟩
theorem pass_KeyError (s : Value) : refuseLoop s "__setattr__" [.type "KeyError", .type "LookupError", .type "Exception", .type "BaseException", .type "object"] = pure () := by
  have h := F.store_LookupError.passes s
  kernel_rfl
theorem base_KeyError : Base "KeyError" "LookupError.__new__" "KeyError.__init__" [.type "KeyError", .type "LookupError", .type "Exception", .type "BaseException", .type "object"] :=
  ⟨⟨_, new_KeyError⟩, init_KeyError, kxs_KeyErr, pass_KeyError, by decide +kernel⟩
section
variable {prog : Program} {w : World} {M : Model} {A : Around} {E : Value → Shared → Prop} {R : Result → Shared → Prop} {h : Heap} {g : Array GenState} {d : Drawn} {t : Nat} {os : OsState}
variable {nm q : Str} {C N : Addr} {bs bm bmB : List Value} {hdct : Bool} {sn : List Str} {sub : List Value} {ab : Bool} {col : Option Bool} {dd : Option Addr} {k0 k1 k2 k3 k5 : Option Value} {BN newId : String}
/-- the maker of the base, called on an own class -/
theorem nf_check (F : NewF BN newId bmB) (hT : ∀ X : String, bm.contains (.type X) = bmB.contains (.type X)) {rest : List Value} {Q : Unit → Shared → Prop}
    (hC : h.get? C = some (excClassObj nm q C N bs bm hdct sn sub ab col dd k0 k1 k2 k3 k5 newId)) (hq : Q () ⟨h, g, d, t, os⟩) :
    wpAny M A (checkBuiltinCall newId ⟨.ref C :: rest, []⟩) Q E ⟨h, g, d, t, os⟩ := by
  have yes : (Value.ref C :: bm).contains (.type BN) = true := by
    rw [List.contains_cons, hT, F.has, Bool.or_true]
  have star := F.noStar
  simp only [checkBuiltinCall, F.kind, F.split, F.row]
  repeat (first | refine wpAny_loadPart_at hC ?_
                | (refine wpAny_isSubtype_exc hC ?_; rw [yes])
                | refine wpAny_staticBase_exc hC ?_
                | refine wpAny_madeBy_exc hC ?_
                | simp only [bne_self_eq_false, Bool.false_eq_true, if_false]
                | wp_step)
  exact hq
theorem nf_new (F : NewF BN newId bmB) (hT : ∀ X : String, bm.contains (.type X) = bmB.contains (.type X)) {rest : List Value}
    (hC : h.get? C = some (excClassObj nm q C N bs bm hdct sn sub ab col dd k0 k1 k2 k3 k5 newId))
    (hq : R (.ok (.ret (.ref (h.objs.size + 1)))) ⟨(h.push (kdv_tup rest)).push (excO C h.objs.size), g, d, t, os⟩) (hz : rest.length ≤ sizeLine) :
    codeAny (model prog w) A (.builtin newId ⟨.ref C :: rest, []⟩) R ⟨h, g, d, t, os⟩ := by
  have hends := F.ends
  have y1 : (Value.ref C :: bm).contains (.type BN) = true := by
    rw [List.contains_cons, hT, F.has, Bool.or_true]
  have y2 : (Value.ref C :: bm).contains (.type "AttributeError") = false := by
    rw [List.contains_cons, hT, F.noAttr]; rfl
  have y3 : (Value.ref C :: bm).contains (.type "NameError") = false := by
    rw [List.contains_cons, hT, F.noName]; rfl
  refine codeAny_builtinAt F.entry ?_
  unfold Builtin.«BaseException.__new__»
  refine PySem.wpAt_bind ?_
  show PySem.wpAt _ _ _ (stack >>= _) _ _ _
  refine PySem.wpAt_bind (PySem.wpAt_stack fun p below => PySem.wpAt_of_wpAny ?_)
  wp_walk
  refine PySem.wpAt_of_wpAny ?_
  rw [F.owner]
  repeat (first | with_reducible refine wpAny_madeHere_exc F.canon hC ?_
                | with_reducible refine wpAny_loadPart_at hC ?_
                | (with_reducible refine wpAny_isSubtype_exc hC ?_; first | rw [y1] | rw [y2] | rw [y3])
                | wp_step)
  show R _ _
  rw [Heap.size_push]
  exact hq
theorem nf_make (F : NewF BN newId bmB) (hT : ∀ X : String, bm.contains (.type X) = bmB.contains (.type X)) {rest : List Value} {fI : Addr} {Q : Fin → Shared → Prop}
    (hC : h.get? C = some (excClassObj nm q C N bs bm hdct sn sub ab col dd k0 k1 k2 k3 k5 newId))
    (hi : W.Looks (model prog w) h (typeLookup (.ref C) "__init__") (some (.ref fI))) (hb : ∀ self, W.Looks (model prog w) h (bindSpecial (.ref fI) self) (.ref fI, [self])) (hz : rest.length ≤ sizeLine)
    (hq : codeAny (model prog w) A (.call (.ref fI) ⟨.ref (h.objs.size + 1) :: rest, []⟩)
      (fun r s' => match r with
        | .ok (.ret v) => v = .none ∧ Q (.done (.ret (.ref (h.objs.size + 1)))) s'
        | .ok _ => False
        | .error e => E e s')
      ⟨(h.push (kdv_tup rest)).push (excO C h.objs.size), g, d, t, os⟩) :
    wpAny (model prog w) A (Builtin.«type.__call__» ⟨.ref C :: rest, []⟩) Q E ⟨h, g, d, t, os⟩ := by
  repeat (first | with_reducible refine wpAny_loadPart_at hC ?_ | with_reducible refine wpAny_madeBy_exc hC ?_ | wp_step)
  refine codeAny_call_builtin_code (Code.quiet_builtin _ F.quiet) (nf_check F hT hC ?_)
  refine nf_new F hT hC ?_ hz
  show wpAny _ _ _ _ _ _
  have kk : ∀ b o, h.get? b = some o → ((h.push (kdv_tup rest)).push (excO C h.objs.size)).get? b = some o :=
    fun b o e => Heap.get?_push_of_some _ (Heap.get?_push_of_some _ e)
  have c1 := kk _ _ hC
  have there : ((h.push (kdv_tup rest)).push (excO C h.objs.size)).get? (h.objs.size + 1) = some (excO C h.objs.size) := by heap_get
  have mine : (Value.ref C :: bm).contains (.ref C) = true := by simp
  have i1 := hi.keeps kk
  have b1 := (hb (.ref (h.objs.size + 1))).keeps kk
  unfold isInstance
  repeat (first | with_reducible refine wpAny_loadPart_at there ?_ | (with_reducible refine wpAny_isSubtype_exc c1 ?_; rw [mine]) | wp_step)
  show wpAny _ _ (typeLookup (.ref C) _) _ _ _
  refine i1.at ?_
  refine wpAny_holding (wpAny_bind (b1.at ?_))
  refine wpAny_bind (wpAny_call (codeAny_mono hq fun r s' z => ?_))
  rcases r with e | (v | _ | _ | _) <;> first | exact z | exact z.elim | skip
  obtain ⟨rfl, z⟩ := z
  first
    | exact wpAny_pure (wpAny_pure z)
    | (wp_walk; exact z)
theorem nf_call (F : NewF BN newId bmB) (hT : ∀ X : String, bm.contains (.type X) = bmB.contains (.type X)) {rest : List Value} {fI : Addr}
    (hC : h.get? C = some (excClassObj nm q C N bs bm hdct sn sub ab col dd k0 k1 k2 k3 k5 newId))
    (hi : W.Looks (model prog w) h (typeLookup (.ref C) "__init__") (some (.ref fI))) (hb : ∀ self, W.Looks (model prog w) h (bindSpecial (.ref fI) self) (.ref fI, [self])) (hz : rest.length ≤ sizeLine)
    (hq : codeAny (model prog w) (A.under (.builtin "type.__call__" ⟨.ref C :: rest, []⟩)) (.call (.ref fI) ⟨.ref (h.objs.size + 1) :: rest, []⟩) (W.InitBack (h.objs.size + 1) R)
      ⟨(h.push (kdv_tup rest)).push (excO C h.objs.size), g, d, t, os⟩) :
    codeAny (model prog w) A (.call (.ref C) ⟨rest, []⟩) R ⟨h, g, d, t, os⟩ := by
  have f1 := tc_lookup
  have f2 := tc_bind (.ref C)
  have ty : (⟨h, g, d, t, os⟩ : Shared).TypeIs (.ref C) "type" := ⟨_, hC, rfl⟩
  refine codeAny_of_tree ?_
  show wpAny _ _ (callAny (.ref C) _) _ _ _
  repeat (any_goals (first | assumption | with_reducible refine wpAny_loadPart_at hC ?_ | wp_step))
  refine ⟨rfl, ?_⟩
  have en := entry_typeCall
  refine codeAny_call_builtin_at (Code.quiet_builtin _ (by decide +kernel)) en (wpAny_check_type_call_sub hC (nf_make F hT hC hi hb hz ?_))
  refine codeAny_mono hq fun r s' z => ?_
  rcases r with e | (v | _ | _ | _) <;> exact z
theorem nf_bound {cls initId : String} (F : InitF cls initId) {e : Addr} {oe : Obj} {rest : List Value} {Q : Unit → Shared → Prop}
    (hC : h.get? C = some (excClassObj nm q C N bs bm hdct sn sub ab col dd k0 k1 k2 k3 k5 newId)) (he : h.get? e = some oe) (hc : oe.cls = .ref C) (hq : Q () ⟨h, g, d, t, os⟩) :
    wpAny M A (checkBoundCall initId ⟨.ref e :: rest, []⟩) Q E ⟨h, g, d, t, os⟩ := by
  have star := F.noStar
  simp only [checkBoundCall, F.kind, F.row]
  repeat (first | (with_reducible refine wpAny_loadPart_at he ?_; rw [hc]) | with_reducible refine wpAny_loadPart_at hC ?_ | wp_step)
  refine wpAny_onRaise ?_
  have sa : ∀ (a b : String) (n : Nat), Bind.check ⟨.positional, "*", cls, .self, [⟨"args", .varPos, false⟩]⟩ a b n (List.map (fun x => x.fst) ({ pos := Value.ref e :: rest } : Args).kw) = pure () :=
    fun _ _ _ => check_star_args _ _ _ _ _ _
  rw [sa]
  exact wpAny_pure hq
end
/-- how the two arguments bind -/
def BindOk (fld : Str) : Prop := ∀ (qual : Str) (body : List Stmt) (p1 p2 : Pos) (doc pm cdv ct : Value) (an : Option Addr) (cc : Addr) (u v : Value),
  bindArgs (ksFn "__init__" qual (iA fld p1 p2) body (iS fld) .none .none doc pm an cdv ct cc) ⟨[u, v], []⟩ = pure ([((PySem.Str.ofString "self"), u), (fld, v)] : List (Str × Value))
theorem bind_value : BindOk "value" := fun _ _ _ _ _ _ _ _ _ _ _ _ => rfl
theorem bind_label : BindOk "label" := fun _ _ _ _ _ _ _ _ _ _ _ _ => rfl
theorem bind_index : BindOk "index" := fun _ _ _ _ _ _ _ _ _ _ _ _ => rfl
theorem bind_most : BindOk "most" := fun _ _ _ _ _ _ _ _ _ _ _ _ => rfl
theorem bind_parts : BindOk "parts" := fun _ _ _ _ _ _ _ _ _ _ _ _ => rfl
/-- what the written part says of the class at C and of its __init__ at fI -/
structure XT (main : Str) (K : Frag) (C fI : Addr) (fld : Str) (B newId initId : String) (bmB : List Value) : Prop where
  cls : ∃ nm q N bs bm sn sub ab col dd k0 k1 k2 k3 k5, K.lookup C = some (excClassObj nm q C N bs bm true sn sub ab col dd k0 k1 k2 k3 k5 newId) ∧ excTail bmB bm = true
  sa : findIn K (.ref C) "__setattr__" = some (some (.builtin "object.__setattr__"))
  ga : findIn K (.ref C) "__getattribute__" = some (some (.builtin "BaseException.__getattribute__"))
  gg : findIn K (.ref C) "__getattr__" = some none
  noN : findIn K (.ref C) fld = some none
  iC : findIn K (.ref C) "__init__" = some (some (.ref fI))
  tC : typeIn K (.ref fI) = some (.type "function")
  kC : keepIn K (.ref C) = true
  exC : subIn K (.ref C) (.type "BaseException") = some true
  tyC : typeIn K (.ref C) = some (.type "type")
  hdC : hasDictIn K C = true
  subB : subIn K (.ref C) (.type B) = some true
  mroC : mroIn K C (.ref C) = some true
  statics : nsIn K cStatics "thirdparty.any" = some none
  along : ks_superIn K C C "__init__" = some (some (.builtin initId))
  fn : ∃ (oc : Value) (od : Option Addr) (qual : Str) (doc pm : Value) (an : Option Addr) (cda cc : Addr) (ct : Value) (osl : Array (Option Value)) (msg : Str) (j : Nat) (p1 p2 a1 a2 a3 a4 a5 a6 q1 q2 q3 q4 : Pos),
    K.lookup fI = some ⟨oc, od, .func (ksFn "__init__" qual (iA fld p1 p2) (iB fld msg j a1 a2 a3 a4 a5 a6 q1 q2 q3 q4) (iS fld) .none .none doc pm an (.ref cda) ct cc), osl⟩ ∧ codeIn K (.ref cda) qual = true ∧
    (∃ cl cld csl, K.lookup cc = some ⟨cl, cld, .cell (some (.ref C)), csl⟩) ∧ ∃ ccl cdd vs ccs file tf, K.lookup cda = some ⟨ccl, cdd, .fields vs, ccs⟩ ∧ vs[2]? = some (.str file tf) ∧ (main == file) = true ∧ (a3.endLine == a5.line) = true
  bind : BindOk fld
  names : (fld == ("self" : Str)) = false ∧ (fld == ("__debug__" : Str)) = false ∧ (("self" : Str) == fld) = false ∧ (("super" : Str) == fld) = false ∧ (("__class__" : Str) == fld) = false
theorem ldL {M : Model} {A : Around} {E : Value → Shared → Prop} {s : Shared} {env : Env} {m : Str → Option Value} {x : Str} {pos : Pos} {v : Value} {Q : Value → Shared → Prop} (hn : s.heap.Ns env.locals m) (hv : m x = some v) (h : Q v s)
    (hk : env.scope.kind = .function) (hl : env.kindOf x = some .local) (hd : (x == ("__debug__" : Str)) = false) : wpAny M A (eval (.Name x pos) env) Q E s := wpAny_Name (wpAny_loadName_local hk hl hn hv h) hd
theorem ev_sup {o : Expr} {name msg : Str} {apos pos a4 : Pos} {j : Nat} {env : Env} (hl : (apos.endLine == pos.line) = true) : eval (.Call (.Attribute o name apos) [.Constant (.str msg) j a4] [] pos) env = (do
      let ov ← attributeBase o name env (eval o env)
      standAt apos.atName
      let (f, first) ← holding [ov] (getMethod ov name (do return (← importBound o env).getD true))
      callWith pos f first (backTo pos (starEach [.Constant (.str msg) j a4] env)) []) := by
  have hp : methodCallPos true o env apos pos = pure pos := by unfold methodCallPos; simp [hl]
  have hf : methodCallForm ([Expr.Constant (.str msg) j a4].length + ([] : List Keyword).length) (backTo pos (starEach [.Constant (.str msg) j a4] env)) (backToKw pos (keywordEach [] env)) = true := by rfl
  rw [arm_eval_Call]
  unfold methodCall
  rw [hf, hp]
  simp only [pure_bind]
  rfl
/-- self.f = v on an exception that has no dict yet -/
theorem xo_store {prog : Program} {w : World} {A : Around} {R : Result → Shared → Prop} {hp : Heap} {g : Array GenState} {d : Drawn} {t : Nat} {os : OsState} {K : Frag} {name : Str} {tk : Tok} {v : Value} {x C : Addr} {fv : Array Value} {cd : ClassData}
    (X : K.In hp) (hx : hp.get? x = some { cls := .ref C, data := .fields fv }) (hcd : clsIn K C = some cd) (ne : cd.mro.isEmpty = false) (hpass : refuseLoop (.ref x) "__setattr__" cd.mro = pure ()) (hob : cd.mro.contains (.type "object") = true) (hh : cd.hasDict = true)
    (ha : findIn K (.ref C) name = some none)
    (hq : ∀ h' tk' dx, (∀ b o, b ≠ x → hp.get? b = some o → h'.get? b = some o) → hp.objs.size ≤ dx → dx ≠ x → h'.get? x = some { cls := .ref C, dict := some dx, data := .fields fv } →
      h'.Ns1 dx (fun y => if y = name then some v else none) → R (.ok (.ret .none)) ⟨h', g, d, tk', os⟩) :
    codeAny (model prog w) A (.call (.builtin "object.__setattr__") ⟨[.ref x, .str name tk, v], []⟩) R ⟨hp, g, d, t, os⟩ := by
  have IA : InstAt hp x { cls := .ref C, data := .fields fv } C none := ⟨hx, rfl, rfl, trivial⟩
  have SF := F.store_object
  have xs : x ≠ hp.objs.size := Nat.ne_of_lt (Heap.lt_size hx)
  have isObj : Looks (model prog w) hp (isInstance (.ref x) (.type "object")) true := IA.type.andThen (looks_mroIn X (by unfold mroIn; rw [hcd, Option.bind_some, if_neg (by rw [ne]; decide), hob]))
  refine codeAny_call_builtin SF.slot.plain SF.entry (@check_slot (model prog w) _ _ ⟨hp, g, d, t, os⟩ "object.__setattr__" "object" "__setattr__" (.ref x) [.str name tk, v] [] _ SF.kind SF.split isObj (SF.args (.ref x) (.str name tk) v) ?_)
  have mroL : Looks (model prog w) hp (mroOf (.ref C)) cd.mro := (looks_clsIn X hcd).andThen .now
  have nowL : Looks (model prog w) hp (Builtin.ObjectAttr.storeTaker? none) none := .now
  have clsL : Looks (model prog w) hp (classData C) cd := looks_clsIn X hcd
  rw [osa_eq, refuse_eq]
  refine wpAny_bind (wpAny_bind (IA.type.at (wpAny_bind (mroL.at ?_))))
  rw [hpass]
  refine wpAny_pure (wpAny_bind (IA.type.at (wpAny_bind ((looks_findIn X ha).at (wpAny_bind (nowL.at ?_))))))
  show wpAny _ _ (Builtin.ObjectAttr.storeInOwnDict (.ref x) (.ref C) (.str name tk) name v false) _ _ _
  obtain ⟨nm, bs, mro, ns, qn, hd, sn, sb, ab, col, del⟩ := cd
  dsimp only at hh
  subst hh
  unfold Builtin.ObjectAttr.storeInOwnDict Builtin.ObjectAttr.ownDictForStores
  repeat (first | with_reducible refine HandSPX.store_in_new ?_ ?_ | with_reducible refine wpAny_loadPart_at hx ?_ | with_reducible refine clsL.at ?_ | wp_step)
  · exact ⟨_, #[], _, (Heap.get?_update_ne _ _ _ _ xs.symm).trans (Heap.get?_push_at rfl rfl), rfl, fun e he => absurd he (by simp), fun _ => rfl⟩
  · intro h' tk' hn' same
    have hx1 : (hp.push { cls := .type "dict", data := .dict #[] }).get? x = some { cls := .ref C, data := .fields fv } := Heap.get?_push_of_some _ hx
    refine hq h' tk' hp.objs.size (fun b o hb ho => ?_) (Nat.le_refl _) xs.symm ?_ hn'
    · exact (same.2 b (Nat.ne_of_lt (Heap.lt_size ho))).trans ((Heap.get?_update_ne _ _ _ _ hb).trans (Heap.get?_push_of_some _ ho))
    · exact (same.2 x xs).trans (Heap.get?_update_self _ hx1 rfl)
/-- the wrapper of the built-in __init__, called -/
theorem mw_call {prog : Program} {w : World} {A : Around} {E : Value → Shared → Prop} {h : Heap} {g : Array GenState} {d : Drawn} {t : Nat} {os : OsState} {B newId i : String} {u x C t0 : Addr} {rest : List Value} {Q : Value → Shared → Prop}
    {nm q : Str} {N : Addr} {bs bm : List Value} {hdct : Bool} {sn : List Str} {sub : List Value} {ab : Bool} {col : Option Bool} {dd : Option Addr} {k0 k1 k2 k3 k5 : Option Value}
    (FB : InitF B i) (hC : h.get? C = some (excClassObj nm q C N bs bm hdct sn sub ab col dd k0 k1 k2 k3 k5 newId)) (he : h.get? x = some (excO C t0)) (hu : h.get? u = some (kxs_mw i x)) (hz : rest.length ≤ sizeLine)
    (hq : ∀ h' t1, (∀ b o, b ≠ x → h.get? b = some o → h'.get? b = some o) → h'.get? x = some (excO C t1) → Q .none ⟨h', g, d, t, os⟩) :
    wpAny (model prog w) A (call (.ref u) rest) Q E ⟨h, g, d, t, os⟩ := by
  refine wpAny_call (codeAny_of_tree ?_)
  show wpAny _ A.in1 (callAny (.ref u) ⟨rest, []⟩) _ _ _
  simp only [callAny]
  refine wpAny_bind (wpAny_load hu ?_)
  simp only [kxs_mw, show (Value.type "method-wrapper" == Value.type "method" || Value.type "method-wrapper" == Value.type "builtin_function_or_method" || Value.type "method-wrapper" == Value.type "method-wrapper") = true by decide, if_true]
  refine KFB.if_so (by decide) ?_
  refine wpAny_bind (nf_bound FB hC he rfl ?_)
  refine wpAny_bind (wpAny_pure (wpAny_pure ?_))
  refine ⟨plainId_quiet FB.plain _, codeAny_builtin FB.entry ?_⟩
  exact exc_init_tree (cls := .ref C) (t0 := t0) (dv := none) (c2 := .none) (c3 := .none) (b4 := .bool false) he hz fun h' k e _ => hq h' _ k e
/-- what __init__ leaves of a fresh exception at x -/
structure Inited (h h' : Heap) (x C dx t1 : Addr) (fld : Str) (v : Value) : Prop where
  keep : ∀ b o, b ≠ x → h.get? b = some o → h'.get? b = some o
  obj : h'.get? x = some { cls := .ref C, dict := some dx, data := .fields #[.ref t1, .none, .none, .none, .bool false, .none] }
  big : h.objs.size ≤ dx
  ne : dx ≠ x
  ns : h'.Ns1 dx (fun y => if y = fld then some v else none)
section
variable {prog : Program} {w : World} {A : Around} {E : Value → Shared → Prop} {R : Result → Shared → Prop} {s : Shared} {K : Frag} {mg mb : Str → Option Value} {C fI : Addr} {fld : Str} {B newId initId : String} {bmB : List Value}
theorem xo_init (D : Base B newId initId bmB) (T : XT prog.main.file K C fI fld B newId initId bmB) {x t0 : Addr} {v : Value} (X : K.In s.heap) (hlim : s.heap.NoLimit) (hx : s.heap.get? x = some (excO C t0)) (hnx : K.lookup x = none) (hroom : A.depth < recursionLimit)
    (hg : s.heap.Ns mainGlobals mg) (hm : mg "super" = none) (hb : s.heap.Ns builtinsNs mb) (hbs : mb "super" = some (.type "super")) (htop : (prog.main.scope.names.lookup ("super" : Str)).isSome = false)
    (hq : ∀ h' tk t1 dx, Inited s.heap h' x C dx t1 fld v → R (.ok (.ret .none)) { s with heap := h', toks := tk }) :
    codeAny (model prog w) A (.call (.ref fI) ⟨[.ref x, v], []⟩) R s := by
  obtain ⟨oc, od, qual, doc, pm, an, cda, cc, ct, osl, msg, j, p1, p2, a1, a2, a3, a4, a5, a6, q1, q2, q3, q4, ho, hcd, ⟨cl, cld, csl, hcell⟩, ccl, cdd, vs, ccs, file, tf, hcode, hvs, hfile, hline⟩ := T.fn
  obtain ⟨nm, q, N, bs, bm, sn, sub, ab, col, dd, k0, k1, k2, k3, k5, hC, hbm⟩ := T.cls
  obtain ⟨n1, n2, n3, n4, n5⟩ := T.names
  have hcl : clsIn K C = some { name := nm, bases := bs, mro := .ref C :: bm, ns := N, qualname := q, hasDict := true, slotNames := sn, subclasses := sub, abstract := ab, collection := col, hasDel := false } := by unfold clsIn; rw [hC] <;> rfl
  have k1 : (iS fld).names.lookup ("self" : Str) = some .local := rfl
  have ks : (iS fld).names.lookup ("super" : Str) = some .globalImplicit := by
    unfold iS
    rw [List.lookup_cons, show (("super" : Str) == PySem.Str.ofString "self") = false by decide, List.lookup_cons, n4]
    rfl
  have kc : (iS fld).names.lookup ("__class__" : Str) = some .free := by
    unfold iS
    rw [List.lookup_cons, show (("__class__" : Str) == PySem.Str.ofString "self") = false by decide, List.lookup_cons, n5]
    rfl
  have k2' : (iS fld).names.lookup fld = some .local := by
    unfold iS
    rw [List.lookup_cons, n1, List.lookup_cons, beq_self_eq_true]
  have lookN : ∀ y : Str, ([("self", Value.ref x), (fld, v)] : List (Str × Value)).reverse.lookup y = if y = fld then some v else if y = ("self" : Str) then some (Value.ref x) else none := by
    intro y
    show ([(fld, v), (("self" : Str), Value.ref x)] : List (Str × Value)).lookup y = _
    rw [List.lookup_cons, List.lookup_cons]
    by_cases h1 : y = fld
    · subst h1
      rw [beq_self_eq_true, if_pos rfl]
    · have h1' : (y == fld) = false := by simpa using h1
      rw [h1', if_neg h1]
      by_cases h2 : y = ("self" : Str)
      · subst h2
        rw [if_pos rfl]
        rfl
      · have h2' : (y == ("self" : Str)) = false := by simpa using h2
        rw [h2', if_neg h2]
        rfl
  have selfN : (if ("self" : Str) = fld then some v else if ("self" : Str) = ("self" : Str) then some (Value.ref x) else none) = some (.ref x) := by
    rw [if_neg (fun e => by rw [← e, beq_self_eq_true] at n1; cases n1), if_pos rfl]
  refine ks_codeAny_call_defAt (fd := ksFn "__init__" qual (iA fld p1 p2) (iB fld msg j a1 a2 a3 a4 a5 a6 q1 q2 q3 q4) (iS fld) .none .none doc pm an (.ref cda) ct cc) (body := iB fld msg j a1 a2 a3 a4 a5 a6 q1 q2 q3 q4) (binds := [("self", .ref x), (fld, v)])
    hroom (X _ _ ho) rfl hlim (codeRec_of X hcd) rfl (BindsTo.of_eq (T.bind _ _ _ _ _ _ _ _ _ _ _ _)) ?_ ?_ ?_ rfl rfl rfl
  · intro y hy
    simp only [iS, List.mem_cons, List.not_mem_nil, or_false] at hy
    rcases hy with rfl | rfl | rfl | rfl <;> intro z <;> cases z
  · intro y hy
    simp only [List.mem_cons, List.not_mem_nil, or_false] at hy
    rcases hy with rfl | rfl
    · exact k1
    · exact k2'
  intro h1 hns k
  have X1 : K.In h1 := X.keeps k
  have hx1 := k _ _ hx
  have xL : s.heap.objs.size ≠ x := Nat.ne_of_gt (Heap.lt_size hx)
  -- super().__init__('..')
  refine ks_wpAt_execs_cons (ks_wpAt_Expr_any (ks_wpAt_MethodCall (ks_wpAt_super_base (of := ⟨oc, od, .func (ksFn "__init__" qual (iA fld p1 p2) (iB fld msg j a1 a2 a3 a4 a5 a6 q1 q2 q3 q4) (iS fld) .none .none doc pm an (.ref cda) ct cc), osl⟩) (oc := ⟨ccl, cdd, .fields vs, ccs⟩) (ar := { arg := "self", annotation := none, pos := p1 })
    ks kc (by decide) rfl (X1 _ _ ho) rfl rfl rfl (X1 _ _ hcode) rfl hvs hfile htop ?_) (ev_sup hline)))
  refine ks_loadName_global rfl ks (loadGlobal_builtin (hg.keeps k) hm (hb.keeps k) hbs ⟨rfl, ?_⟩)
  refine wpAny_loadName_free rfl kc rfl ⟨_, X1 _ _ hcell, rfl⟩ ?_
  refine wpAny_loadName_local rfl k1 hns (v := .ref x) ((lookN _).trans ?_) ?_
  · exact selfN
  refine ks_wpAny_isType_cls (X1 _ _ hC) rfl ⟨rfl, ?_⟩
  refine ks_wpAny_call_super (X1 _ _ hC) rfl hx1 rfl (fun c e => by cases e) (looks_mroIn X1 T.mroC) (fun h2 e2 k2 => ?_)
  have X2 : K.In h2 := X1.keeps k2
  have hx2 := k2 _ _ hx1
  have IA : InstAt h2 x (excO C t0) C none := ⟨hx2, rfl, rfl, trivial⟩
  have al := T.along
  unfold ks_superIn at al
  rw [hcl] at al
  refine kxs_getMethod D.KF (l₀ := .ref C :: bm) e2 (looks_opaque X2 T.statics) (fun A Q E s k q => wpAny_bind ((looks_clsIn X2 hcl) A _ E s k (wpAny_pure q))) rfl X2 al (IA.type.andThen (looks_subIn X2 T.subB)) (ks_ne X2 IA hcl) (by decide) ?_
  have hC2 := X2 _ _ hC
  have hu : (h2.push (kxs_mw initId x)).get? h2.objs.size = some (kxs_mw initId x) := Heap.get?_push_at rfl rfl
  have k3 : ∀ b o, h2.get? b = some o → (h2.push (kxs_mw initId x)).get? b = some o := fun b o e => Heap.get?_push_of_some _ e
  refine kxs_callWith (i := initId) (x := x) rfl (evalArgs_plain (spliced_cons ?_))
  show wpAny _ _ (eval (.Constant (.str msg) j a4) _) _ _ _
  refine Constant_str (spliced_nil ⟨hu, ?_⟩)
  refine mw_call D.ini (k3 _ _ hC2) (k3 _ _ hx2) hu (show 1 ≤ sizeLine by rw [sizeLine_eq]; decide) ?_
  intro h4 t1 k4 hx4
  -- self.f = f
  have old : ∀ b o, b ≠ x → h1.get? b = some o → h4.get? b = some o := fun b o hb e => k4 b o hb (k3 b o (k2 b o e))
  have X4 : K.In h4 := by
    intro b o e
    refine old b o ?_ (X1 b o e)
    rintro rfl
    rw [hnx] at e
    cases e
  have hns4 : h4.Ns s.heap.objs.size (fun y => ([("self", Value.ref x), (fld, v)] : List (Str × Value)).reverse.lookup y) := by
    obtain ⟨o, es, ep, e1, e2, e3⟩ := hns
    exact ⟨o, es, ep, old _ _ xL e1, e2, e3⟩
  refine wpAt_of_wpAny ?_
  refine wpAny_execs_cons (plainObj_wpAny_Assign_Attribute ?_)
  refine ldL hns4 ((lookN fld).trans (if_pos rfl)) ?_ rfl k2' n2
  refine ldL hns4 (v := .ref x) ((lookN _).trans ?_) ?_ rfl k1 (by decide)
  · exact selfN
  refine set_plain X4 (ox := excO C t1) (od := none) ⟨hx4, rfl, rfl, trivial⟩ T.sa ?_
  refine xo_store X4 hx4 hcl rfl (by show refuseLoop _ _ (.ref C :: bm) = _; rw [refuseLoop_ref]; exact excTail_pass _ (D.pass _) _ hbm) ?_ rfl T.noN ?_
  · show (Value.ref C :: bm).contains (.type "object") = true
    rw [List.contains_cons, excTail_contains "object" _ hbm, D.obj, Bool.or_true]
  intro h5 tk5 dx k5 big ne hx5 hn5
  show wpAny _ _ (execs _ _) _ _ _
  have z : s.heap.objs.size ≤ h4.objs.size := Nat.le_of_lt hns4.lt
  refine wpAny_execs_nil (hq h5 tk5 t1 dx ⟨?_, hx5, Nat.le_trans z big, ne, hn5⟩)
  intro b o hb e
  exact k5 b o hb (old b o hb (k b o e))
/-- a made exception: e, its own dict at d -/
structure Made (h h' : Heap) (e C d : Addr) (fld : Str) (v : Value) : Prop where
  keep : ∀ b o, h.get? b = some o → h'.get? b = some o
  new : h.objs.size ≤ e
  obj : ∃ oe vs, h'.get? e = some oe ∧ oe.cls = .ref C ∧ oe.dict = some d ∧ oe.data = .fields vs ∧ vs[1]? = some .none
  big : h.objs.size ≤ d
  ne : d ≠ e
  ns : h'.Ns1 d (fun y => if y = fld then some v else none)
theorem size_one (v : Value) : [v].length ≤ sizeLine := by
  rw [sizeLine_eq]
  exact (by decide : 1 ≤ 16777216)
theorem xo_made (D : Base B newId initId bmB) (T : XT prog.main.file K C fI fld B newId initId bmB) {v : Value} (X : K.In s.heap) (hlim : s.heap.NoLimit) (hroom : A.depth + 1 < recursionLimit)
    (hg : s.heap.Ns mainGlobals mg) (hm : mg "super" = none) (hb : s.heap.Ns builtinsNs mb) (hbs : mb "super" = some (.type "super")) (htop : (prog.main.scope.names.lookup ("super" : Str)).isSome = false)
    (hq : ∀ h' tk e d, Made s.heap h' e C d fld v → R (.ok (.ret (.ref e))) { s with heap := h', toks := tk }) : codeAny (model prog w) A (.call (.ref C) ⟨[v], []⟩) R s := by
  obtain ⟨nm, q, N, bs, bm, sn, sub, ab, col, dd, k0, k1, k2, k3, k5, hC, hbm⟩ := T.cls
  obtain ⟨hp, g, dr, tk, os⟩ := s
  have k : ∀ b o, hp.get? b = some o → ((hp.push (kdv_tup [v])).push (excO C hp.objs.size)).get? b = some o := fun b o e => Heap.get?_push_of_some _ (Heap.get?_push_of_some _ e)
  have got : ((hp.push (kdv_tup [v])).push (excO C hp.objs.size)).get? (hp.objs.size + 1) = some (excO C hp.objs.size) := by heap_get
  have fresh : K.lookup (hp.objs.size + 1) = none := by
    cases e : K.lookup (hp.objs.size + 1) with
    | none => rfl
    | some o => exact absurd (Nat.lt_of_succ_lt (Heap.lt_size (X _ _ e : hp.get? (hp.objs.size + 1) = some o))) (Nat.lt_irrefl _)
  obtain ⟨BN, DN⟩ := D.new
  refine nf_call DN (fun Y => excTail_contains Y bm hbm) (X _ _ hC) (looks_findIn X T.iC) (fun self => bind_fn X self T.tC) (size_one v) ?_
  refine xo_init (s := ⟨(hp.push (kdv_tup [v])).push (excO C hp.objs.size), g, dr, tk, os⟩) D T (X.keeps k) (hlim.keeps k) got fresh ?_ (hg.keeps k) hm (hb.keeps k) hbs htop ?_
  · show A.depth + 1 < recursionLimit
    exact hroom
  rintro h' tk' t1 dx ⟨k', hx, big, ne, ns⟩
  have z : hp.objs.size + 1 + 1 ≤ dx := by
    have zz := big
    rw [Heap.size_push, Heap.size_push] at zz
    exact zz
  refine ⟨rfl, hq h' tk' (hp.objs.size + 1) dx ⟨?_, Nat.le_succ _, ⟨_, _, hx, rfl, rfl, rfl, rfl⟩, Nat.le_trans (Nat.le_trans (Nat.le_succ _) (Nat.le_succ _)) z, ne, ns⟩⟩
  intro b o e
  exact k' b o (Nat.ne_of_lt (Nat.lt_succ_of_lt (Heap.lt_size e))) (k b o e)
end
end XO
namespace DL
open PySem L2 XO
theorem relO_one {fld : Str} {v : V} {u : Value} (r : RelV v u) (f : Str) : RelO (List.lookup f [(fld, v)]) (if f = fld then some u else none) := by
  by_cases h : f = fld
  · subst h
    rw [if_pos rfl, List.lookup_cons, beq_self_eq_true]
    exact r
  · have hb : (f == fld) = false := by simpa using h
    rw [if_neg h, List.lookup_cons, hb]
    trivial
theorem boot_super : bootBuiltins "super" = some (.type "super") := by decide +kernel
/-- C(e), C such a class -/
def tMkX (C : Addr) (fld : Str) (ta : TA) : L2.St → Hp → XK → Prop := fun σ H Q => ta σ H fun vs H1 => ∃ v, vs = [v] ∧ ∀ d, H1 d = none → Q (.ref C) (some d) (upd H1 d (.xd [(fld, v)]))
theorem pmk_x {X : Cx} {C fI : Addr} {x fld : Str} {B newId initId : String} {bmB : List Value} {a : Expr} {ta : TA} {p pos : Pos} {k : Nat} (D : Base B newId initId bmB) (T : XT X.prog.main.file X.K C fI fld B newId initId bmB) (hm : X.mg x = some (.ref C)) (hsup : X.mg "super" = none)
    (htop : (X.prog.main.scope.names.lookup ("super" : Str)).isSome = false) (hr : Room k X.A) (ha : PA X [a] ta) (hg : Gl X x) (hd : (x == ("__debug__" : Str)) = false)
    (he : starEach (a :: []) X.env = (false, eval a X.env) :: starEach [] X.env) (hpl : (backTo pos (starEach [] X.env)).any (·.1) = false) : PMk X (.Call (.Name x p) [a] [] pos) (tMkX C fld ta) := by
  intro pins s σ H Q I h
  refine wpAny_Call_Name_kw (ld_glob I hg hm ?_ hd)
  refine PySem.W.callWith_K (h₀ := X.base) I.ok.mod.kin T.kC (thn (ha.run pos pins s σ H _ I h) ?_) he hpl
  rintro us s1 ⟨vs, H1, I1, r1, v, ev, q1⟩
  subst ev
  refine ⟨I1.kIn, ?_⟩
  cases r1 with
  | cons rv rn =>
    rename_i v' us'
    cases rn
    show wpAny _ _ (call (.ref C) [v']) _ _ _
    have lim := I1.nolimit
    obtain ⟨mb, hb1, hb2⟩ := I1.ok.mod.blt
    have hglob := I1.ok.mod.glob
    have bk := I1.bk
    obtain ⟨hp, g, dr, tk, os⟩ := s1
    refine wpAny_call (xo_made D T I1.kIn lim (by have := hr.dp; omega) (hglob.keeps bk) hsup (hb1.keeps bk) ((hb2 _ (by decide)).trans boot_super) htop ?_)
    intro h' tk' e d M
    show MkP X pins σ Q (.ref e) ⟨h', g, dr, tk', os⟩
    obtain ⟨oe, fv, hoe, hc, hdct, hdat, h1⟩ := M.obj
    have hns := M.ns
    obtain ⟨G', g1, g2⟩ := restrict h' fun b => decide (b ≠ e)
    have gk : ∀ b, b ≠ e → G'.get? b = h'.get? b := fun b hb => g1 b (decide_eq_true hb)
    have ge : G'.get? e = none := g2 e (by simp)
    have old : ∀ b o, hp.get? b = some o → G'.get? b = some o := fun b o q => (gk b (Nat.ne_of_lt (Nat.lt_of_lt_of_le (Heap.lt_size q) M.new))).trans (M.keep b o q)
    have ob : ObjOk X.prog X.w (upd H1 d (.xd [(fld, v)])) G' d (.xd [(fld, v)]) := ⟨_, hns.at (fun o q => (gk d M.ne).trans q), fun f => relO_one rv f⟩
    have J : Inv X pins σ (upd H1 d (.xd [(fld, v)])) ⟨G', g, dr, tk', os⟩ := I1.laid (t' := tk') old M.big ob
    refine ⟨e, oe, fv, ⟨G', g, dr, tk', os⟩, _, .ref C, some d, rfl, J, ?_, ge, hoe, ⟨hc, hdct⟩, hdat, h1, ?_, rfl, I1.bare, raises_own T.exC T.tyC, q1 d (I1.hok.fresh M.big)⟩
    · intro b o q
      by_cases hb : b = e
      · subst hb
        have q : G'.get? b = some o := q
        rw [ge] at q
        cases q
      · exact (gk b hb).symm.trans q
    · rw [upd_ne (Ne.symm M.ne)]
      exact I1.hok.fresh M.new
end DL
namespace DL
open PySem L2 XO
open Evl (Ex)
/-! ### wishes by the class's name -/
def byName (mg : Str → Option Value) (W0 : WX) : Wx := fun n d σ H => ∀ cls, mg n = some cls → W0 cls d σ H
def toWX (mg : Str → Option Value) (W : Wx) : WX := fun cls d σ H => ∃ n, mg n = some cls ∧ W n d σ H
theorem takes_by {mg : Str → Option Value} {X : Cx} {W0 : WX} (t : Takes X W0) : Takes X (toWX mg (byName mg W0)) := t.imp fun cls d σ H h => by
  obtain ⟨n, hm, q⟩ := h
  exact q cls hm
/-- an exception class of the text: its name, its field -/
def XC (P : Program) (K : Fg) (mg : Str → Option Value) (n fld : Str) : Prop := ∃ C fI B newId initId bmB, Base B newId initId bmB ∧ XT P.main.file K C fI fld B newId initId bmB ∧ mg n = some (.ref C) ∧ PySem.W.exmOne K (.ref C) (.ref C) = some true
structure Sup (P : Program) (mg : Str → Option Value) : Prop where
  mg : mg "super" = none
  top : (P.main.scope.names.lookup ("super" : Str)).isSome = false
section
variable {P : Program} {w : World} {K : Fg} {mg : Str → Option Value} {base : Heap} {k : Nat} {N : List Str} {W : Wx} {ι : Type} {X : ι → Cx} {f : Addr} {fd : FuncData} {ps : List Str} {pos : Pos}
/-! ### raise C(e) -/
def sRaise (n fld : Str) (w : WE) : WS := fun E ρ m => w ρ m (fun v m1 => E.ex ⟨n, fld, v⟩ m1) E.ex
theorem ps_raiseX {n fld : Str} {a : Expr} {wa : WE} {p cpos : Pos} (hX : FamG P w K mg base k N X) (tk : ∀ i, Takes (X i) (toWX mg W)) (S : Sup P mg) (c : XC P K mg n fld) (ha : PD K W X a wa) (hg : ∀ i, Gl (X i) n := by intro _; rfl) (hd : (n == ("__debug__" : Str)) = false := by decide)
    (he : ∀ i, starEach (a :: []) (X i).env = (false, eval a (X i).env) :: starEach [] (X i).env := by intro _; rfl) (hpl : ∀ i, (backTo cpos (starEach [] (X i).env)).any (·.1) = false := by intro _; rfl) :
    PDS K W X (.Raise (some (.Call (.Name n p) [a] [] cpos)) none pos) (sRaise n fld wa) := by
  obtain ⟨C, fI, B, newId, initId, bmB, D, T, hm, _⟩ := c
  obtain ⟨ta, a1, a2⟩ := DL.pa_cons ha (DL.pa_nil (K := K) (W := W) (X := X)) he
  refine ⟨_, fun i => ps_raise (hX.calm i) (tk i) (pmk_x (fld := fld) D (by rw [hX.prog i, hX.K i]; exact T) (by rw [hX.mg i]; exact hm) (by rw [hX.mg i]; exact S.mg) (by rw [hX.prog i]; exact S.top) (hX.room i) (a1 i) (hg i) hd (he i) (hpl i)), ?_⟩
  intro G m F H σ ρ Sd E hW hE h ft
  refine a2 G m F H σ ρ _ (fun ds m1 => match ds with
    | [v] => E.ex ⟨n, fld, v⟩ m1
    | _ => False) E.ex hW hE h ft.ex ?_
  rintro ds m1 vs G1 H1 q e1 W1 r1
  cases r1 with
  | nil => exact q.elim
  | cons r1 t =>
    cases t with
    | cons _ _ => exact q.elim
    | nil =>
      refine ⟨_, rfl, fun d hd => ?_⟩
      obtain ⟨e, W'⟩ := W1.new hd (.xd [(fld, _)])
      exact ⟨n, hm, ft.ex _ m1 (some d) σ _ _ q (e1.trans e) W' ⟨d, _, rfl, upd_same, r1.mono e⟩⟩
/-! ### calls that may raise -/
theorem FnG.goesAt {X : Cx} {sp : Sp} {E : XK} {pins : List (Addr × Obj)} {σ : L2.St} {H : Hp} {s : Shared} {Q : VK} {us : List Value} {vs : List V} (Fn : FnG X.prog X.w X.K X.mg X.base (L2.CX X.prog X.w) k f fd ps sp)
    (hg : X.A.guards = some []) (hr : Room k X.A) (hb : Binds X.K fd ps []) (hx : PassesAt (L2.CX X.prog X.w) X σ E) (I : Inv X pins σ H s) (r : Vals vs us) (h : sp vs H Q E) :
    wpAny (model X.prog X.w) X.A (call (.ref f) us) (EP X pins σ Q) X.xe s := by
  have hlen : us.length = ps.length := r.length.symm.trans (Fn.size _ _ _ _ h)
  have b := hb s us I.kIn (by rw [List.append_nil]; exact hlen)
  rw [List.append_nil] at b
  have goal := Fn.runs X.A X.stack s H ⟨us, []⟩ us vs Q E hg hr I.env0 b r h
  refine wpAny_call (codeAny_mono goal ?_)
  rintro (e | fl) s' hq
  · exact hx pins H s e s' I hq
  · cases fl <;> first | exact I.after hq | exact (hq : False).elim
def HasX (P : Program) (w : World) (K : Fg) (mg : Str → Option Value) (base : Heap) (j : Nat) (x : Str) (ps : List Str) (fn : DFn) : Prop :=
  ∃ f fd, FnG P w K mg base (L2.CX P w) j f fd ps (spD K mg fn) ∧ mg x = some (.ref f) ∧ PySem.W.keepIn K (.ref f) = true ∧ Binds K fd ps []
def wCallX (fn : DFn) (a : WA) : WE := fun ρ m Q Qx => a ρ m (fun ds m1 => fn ds m1 Q Qx) Qx
theorem pd_own_callX {fn : DFn} {j : Nat} {x : Str} {p : Pos} {e : Expr} {es : List Expr} {wr : WA} (hX : FamG P w K mg base k N X) (tk : ∀ i, Takes (X i) (toWX mg W)) (hh : HasX P w K mg base j x ps fn) (ha : PDA K W X (e :: es) wr) (hj : j ≤ k := by decide) (hg : ∀ i, Gl (X i) x := by intro _; rfl) (hd : (x == ("__debug__" : Str)) = false := by decide)
    (he : ∀ i, starEach (e :: es) (X i).env = (false, eval e (X i).env) :: starEach es (X i).env := by intro _; rfl) (hpl : ∀ i, (backTo pos (starEach es (X i).env)).any (·.1) = false := by intro _; rfl) : PD K W X (.Call (.Name x p) (e :: es) [] pos) (wCallX fn wr) := by
  obtain ⟨f, fd, Fn, hm, hk, hb⟩ := hh
  obtain ⟨t, a1, a2⟩ := ha
  refine ⟨fun σ H Q => t σ H fun vs H1 => spD K mg fn vs H1 Q (fun cls d H' => toWX mg W cls d σ H'), fun i => ⟨fun pins s σ H Q I h => ?_⟩, ?_⟩
  · have hmi : (X i).mg x = some (.ref f) := by rw [hX.mg i]; exact hm
    have Fi : FnG (X i).prog (X i).w (X i).K (X i).mg (X i).base (L2.CX (X i).prog (X i).w) j f fd ps (spD K mg fn) := by rw [hX.prog i, hX.w i, hX.K i, hX.mg i, hX.base i]; exact Fn
    refine wpAny_Call_Name_kw (ld_glob I (hg i) hmi ?_ hd)
    refine PySem.W.callWith_K (h₀ := (X i).base) I.ok.mod.kin (by rw [hX.K i]; exact hk) (thn ((a1 i).run pos pins s σ H _ I h) ?_) (he i) (hpl i)
    rintro us s1 ⟨vs, H1, I1, r, q⟩
    exact ⟨I1.kIn, Fi.goesAt (hX.guards i) ((hX.room i).mono hj) (by rw [hX.K i]; exact hb) (passAt (tk i) σ) I1 r q⟩
  · intro G m F H σ ρ Q Qd Qx hW hE h hXx hQ
    refine a2 G m F H σ ρ _ _ Qx hW hE h hXx ?_
    intro ds m1 vs G1 H1 q e1 W1 r1
    refine ⟨G1, m1, F, ds, Qd, Qx, W1, r1, q, ?_, ?_⟩
    · intro d m' v G' H' z e
      exact hQ d m' v G' H' z (e1.trans e)
    · intro x m' cls d G' H' z hmx e W' r
      exact ⟨x.cls, hmx, hXx x m' d σ G' H' z (e1.trans e) W' r⟩
/-- a def that may raise keeps its promise -/
theorem fn_okX {x qual : Str} {st : Stmt} {fn : DFn} {wb : WS} (Fu : Fun K x qual st f fd) (S : FnScope N ps (defScope st)) (hlen : ∀ ds m Q Qx, fn ds m Q Qx → ds.length = ps.length)
    (hb : ∀ (cdv : Value) (A : Around) (oe : List Env) (s : Shared) (H : Hp) (E : XK), FamG P w K mg base k N (fun _ : Unit => cxOf (L2.CX P w) P w K mg base N qual (defScope st) f cdv A oe s H E) →
      (∀ i, Takes ((fun _ : Unit => cxOf (L2.CX P w) P w K mg base N qual (defScope st) f cdv A oe s H E) i) (toWX mg (byName mg fun cls d _ H => E cls d H))) →
      PDB K (byName mg fun cls d _ H => E cls d H) (fun _ : Unit => cxOf (L2.CX P w) P w K mg base N qual (defScope st) f cdv A oe s H E) (defBody st) wb)
    (hr : ∀ ds m Qd Qx, fn ds m Qd Qx → wb { nx := fun _ m' => Qd .non m', rt := Qd, ex := Qx } (ds.map some ++ List.replicate (N.length - ds.length) none) m) :
    FnG P w K mg base (L2.CX P w) (k + 1) f fd ps (spD K mg fn) := by
  obtain ⟨oc, od, kV, doc, pm, an, cdv, ct, osl, rfl, lk, hcd⟩ := Fu.ex
  have size : ∀ vs H Q E, spD K mg fn vs H Q E → vs.length = ps.length := by
    rintro vs H Q E ⟨G, m, F, ds, Qd, Qx, _, r, hf, _⟩
    exact r.len.trans (hlen _ _ _ _ hf)
  refine ⟨size, ?_⟩
  intro A oe s H ar us vs Q E hgd hrm e0 hbind r hsp
  have hl := size _ _ _ _ hsp
  have old : ∀ b o, base.get? b = some o → s.heap.get? b = some o := fun b o e => (e0.bs b o e).1
  have KX : K.In s.heap := e0.mod.kin.keeps old
  have lim : s.heap.NoLimit := e0.mod.nolimit.keeps old
  have kinds : ∀ y ∈ ps.zip us, (defScope st).names.lookup y.1 = some .local ∨ ((defScope st).names.lookup y.1 = some .cell ∧ ((cellsFrom (s.heap.objs.size + 1) (defScope st).names []).lookup y.1).isSome = true) := by
    rintro ⟨n, v⟩ hy
    rcases S.par n (List.of_mem_zip hy).1 with q | q
    · exact Or.inl q
    · exact Or.inr ⟨q, PySem.W.cellsFrom_some _ _ _ (Or.inl q)⟩
  refine codeAny_call_function hrm.depth (KX _ _ lk) rfl S.co S.gen rfl (PySem.W.codeRec_of KX hcd) (hbind _ _ _ _ ?_)
  refine wpAny_newFunctionEnv_cells S.kind kinds ?_
  rintro env rfl s1 nx
  refine ⟨lim.keeps nx.toInCall.keep, codeAny_func ?_⟩
  have fam : FamG P w K mg base k N (fun _ : Unit => cxOf (L2.CX P w) P w K mg base N qual (defScope st) f cdv A oe s H E) :=
    { prog := fun _ => rfl, w := fun _ => rfl, K := fun _ => rfl, mg := fun _ => rfl, base := fun _ => rfl, hN := fun _ => rfl, calm := fun _ => rfl, room := fun _ => hrm.deeper _, nd := S.nd, guards := fun _ => hgd }
  obtain ⟨t, h1, h2⟩ := hb cdv A oe s H E fam (fun _ => takes_by (takes_of rfl rfl rfl rfl))
  have I : Inv (cxOf (L2.CX P w) P w K mg base N qual (defScope st) f cdv A oe s H E) [] (start N vs) H s1 := inv_start S hrm.hd e0 hl r nx
  obtain ⟨G, m, F, ds, Qd, Qx, hW, rr, hf, hQ, hQx⟩ := hsp
  have reading : t { nx := fun _ H' => Q .non H', rt := Q } (start N vs) H := by
    refine h2 G m F H _ _ _ { nx := fun _ m' => Qd .non m', rt := Qd, ex := Qx } hW ?_ (hr ds m Qd Qx hf) ⟨?_, ?_, ?_, ?_, ?_⟩
    · unfold L2.start
      rw [rr.len]
      exact En.start _ rr
    · intro ρ' m' σ' G' H' q e W' _
      exact hQ _ m' _ G' H' q e W' .non
    · exact hQ
    · intro _ _ _ _ _ z; exact z.elim
    · intro _ _ _ _ _ z; exact z.elim
    · intro x m' d σ' G' H' z e W' r cls hc
      exact hQx x m' cls d G' H' z hc e W' r
  refine wpAny_mono ((h1 ()).run [] s1 (start N vs) H _ I reading) ?_ fun e s' z => z
  have fin : ∀ {s' : Shared} {σ' : L2.St} {H' : Hp} {v : V} {u : Value}, Inv (cxOf (L2.CX P w) P w K mg base N qual (defScope st) f cdv A oe s H E) [] σ' H' s' → RelV v u → Q v H' → CE oe P w H s Q u s' := by
    intro s' σ' H' v u J rv q
    exact ⟨v, H', J.os, J.bare, J.base, J.hok, rv, q⟩
  intro fl s' hs
  cases fl
  case ret u =>
    obtain ⟨v, σ', H', J, rv, q⟩ := hs
    exact fin J rv q
  case next =>
    obtain ⟨σ', H', J, q⟩ := hs
    exact fin (v := V.non) (u := Value.none) J rfl q
  case brk =>
    obtain ⟨_, _, _, q⟩ := hs
    exact (q : False).elim
  case cont =>
    obtain ⟨_, _, _, q⟩ := hs
    exact (q : False).elim
theorem has_ofX {x qual : Str} {st : Stmt} {fn : DFn} {wb : WS} (Fu : FunAt K mg x qual st ps) (S : FnScope N ps (defScope st)) (hlen : ∀ ds m Q Qx, fn ds m Q Qx → ds.length = ps.length)
    (hb : ∀ (f : Addr) (cdv : Value) (A : Around) (oe : List Env) (s : Shared) (H : Hp) (E : XK), FamG P w K mg base k N (fun _ : Unit => cxOf (L2.CX P w) P w K mg base N qual (defScope st) f cdv A oe s H E) →
      (∀ i, Takes ((fun _ : Unit => cxOf (L2.CX P w) P w K mg base N qual (defScope st) f cdv A oe s H E) i) (toWX mg (byName mg fun cls d _ H => E cls d H))) →
      PDB K (byName mg fun cls d _ H => E cls d H) (fun _ : Unit => cxOf (L2.CX P w) P w K mg base N qual (defScope st) f cdv A oe s H E) (defBody st) wb)
    (hr : ∀ ds m Qd Qx, fn ds m Qd Qx → wb { nx := fun _ m' => Qd .non m', rt := Qd, ex := Qx } (ds.map some ++ List.replicate (N.length - ds.length) none) m) : HasX P w K mg base (k + 1) x ps fn := by
  obtain ⟨f, fd, hm, F, hbi⟩ := Fu
  exact ⟨f, fd, fn_okX F S hlen (hb f) hr, hm, F.kp, hbi⟩
/-! ### try: body, except C as n: return [.., n.f] -/
/-- the contexts of a try's body that take W0 -/
def TrI {ι : Type} (X : ι → Cx) (W0 : WX) : Type := { j : ι × List (Addr × Obj) × (Value → Shared → Prop) // Takes ((X j.1).tr j.2.1 j.2.2) W0 ∧ PassesOwn (model (X j.1).prog (X j.1).w) (X j.1).A (X j.1).env j.2.2 }
def TrF {ι : Type} (X : ι → Cx) (W0 : WX) : TrI X W0 → Cx := fun j => (X j.1.1).tr j.1.2.1 j.1.2.2
theorem FamG.tr (hX : FamG P w K mg base k N X) (W0 : WX) : FamG P w K mg base k N (TrF X W0) where
  prog := fun j => hX.prog j.1.1
  w := fun j => hX.w j.1.1
  K := fun j => hX.K j.1.1
  mg := fun j => hX.mg j.1.1
  base := fun j => hX.base j.1.1
  hN := fun j => hX.hN j.1.1
  calm := fun j => hX.calm j.1.1
  room := fun j => hX.room j.1.1
  nd := hX.nd
  guards := fun j => hX.guards j.1.1
def byLen (mg : Str → Option Value) (N : List Str) (W0 : WX) : Wx := fun n d σ H => σ.length = N.length → ∀ cls, mg n = some cls → W0 cls d σ H
theorem takes_len {Y : Cx} {W0 : WX} (t : Takes Y W0) (hN : Y.N = N) : Takes Y (toWX mg (byLen mg N W0)) := by
  rintro u s' ⟨a, B, sI, pins, σ, H, cls, d, e, I, nb, up, sky, na, os, ag, n, hm, q⟩
  exact t u s' ⟨a, B, sI, pins, σ, H, cls, d, e, I, nb, up, sky, na, os, ag, q (by rw [I.len, hN]) cls hm⟩
theorem tr_takes (hX : FamG P w K mg base k N X) (W0 : WX) : ∀ j, Takes (TrF X W0 j) (toWX mg (byLen mg N W0)) := fun j => takes_len j.2.1 (hX.hN j.1.1)
def sTry (x fld tag : Str) (wb : WS) : WS := fun E ρ m => wb { nx := E.nx, rt := E.rt, bk := E.bk, ct := E.ct, ex := fun xx m' => xx.cls = x ∧ xx.fld = fld ∧ E.rt (.lst [.str tag, xx.val]) m' } ρ m
theorem xfc_of {main : Str} {C fI : Addr} {fld : Str} {B newId initId : String} {bmB : List Value} (T : XT main K C fI fld B newId initId bmB) : XfC K C := ⟨T.ga, T.gg, T.exC, T.hdC⟩
theorem ps_tryR {x fld tag n : Str} {body : List Stmt} {wb : WS} {np p1 p2 p3 p4 p5 pos' : Pos} {j1 : Nat} (hX : FamG P w K mg base k N X) (tk : ∀ i, Takes (X i) (toWX mg W)) (c : XC P K mg x fld) (v : Nat)
    (hb : ∀ W0 : WX, PDB K (byLen mg N W0) (TrF X W0) body wb) (hi : N[v]? = some n := by rfl)
    (hs : ∀ i, (X i).stack = (X i).env :: (X i).outer := by intro _; rfl) (hf : ∀ i, (X i).env.frame = some (X i).env.locals := by intro _; rfl) (hln : ∀ i, (X i).env.kindOf n = some .local := by intro _; rfl)
    (hg : ∀ i, Gl (X i) x := by intro _; rfl) (hd : (x == ("__debug__" : Str)) = false := by decide) (hv : ∀ j, Vis (X j).env.scope n := by intro _; first | exact Or.inl rfl | exact Or.inr (Or.inl rfl) | exact Or.inr (Or.inr rfl)) (hdn : (n == ("__debug__" : Str)) = false := by decide) (hcn : (n == ("__classdict__" : Str)) = false := by decide)
    (hab : ∀ i, attributeBase (.Name n p2) fld (X i).env (eval (.Name n p2) (X i).env) = eval (.Name n p2) (X i).env := by intro _; rfl) :
    PDS K W X (.Try body [.ExceptHandler (some (.Name x np)) (some n) [.Return (some (.List [.Constant (.str tag) j1 p1, .Attribute (.Name n p2) fld p3] p4)) p5] pos'] [] [] pos) (sTry x fld tag wb) := by
  obtain ⟨C, fI, B, newId, initId, bmB, D, T, hm, hex⟩ := c
  obtain ⟨ts, hts⟩ : ∃ ts : Addr → Value → Option Addr → TS, ts = fun a cls d => tRet (tLst (tCons (tC (.str tag)) (tCons (tXf a cls d C fld (tVar v)) tNil))) := ⟨_, rfl⟩
  refine ⟨fun D σ H => Classical.choose (hb (wAs K (.ref C) v ts (toWX mg W) D)) D σ H, fun i => ?_, ?_⟩
  · have q := L2.ps_try_as (X := X i) (x := x) (n := n) (np := np) (pos := pos) (pos' := pos') (body := body) (b₀ := .Return (some (.List [.Constant (.str tag) j1 p1, .Attribute (.Name n p2) fld p3] p4)) p5) (suite := []) (i := v) (c := .ref C) (ts := ts) (tb := fun W0 => Classical.choose (hb W0)) (Wout := toWX mg W) (hs i) (hf i) (by rw [hX.hN i]; exact hX.nd) (by rw [hX.hN i]; exact hi) (hln i)
      ⟨hg i, hd, Or.inl (by rw [hX.mg i]; exact hm)⟩ (tk i) (fun W0 pn xe t po => (Classical.choose_spec (hb W0)).1 ⟨(i, pn, xe), t, po⟩) (fun a oe cls d pn hz hfl => ?_)
    · rw [hX.K i] at q; exact q
    · subst hts
      refine pss_one (L2.ps_ret (pe_lst (L2.pa_cons pe_str (L2.pa_cons (pe_xf ?_ ?_ hz hfl (pe_var (by exact (hX.hN i) ▸ hi) (hv i) hdn hcn) (hab i)) L2.pa_nil))))
      · show XfC (X i).K C; rw [hX.K i]; exact xfc_of T
      · show PySem.W.findIn (X i).K (.ref C) fld = some none; rw [hX.K i]; exact T.noN
  · intro G m F H σ ρ S E hW hE h ft
    refine (Classical.choose_spec (hb (wAs K (.ref C) v ts (toWX mg W) S))).2 G m F H σ ρ S _ hW hE h ⟨ft.nx, ft.rt, ft.bk, ft.ct, ?_⟩
    rintro xx m' d σ' G' H' ⟨q1, q2, q3⟩ e W' ⟨dd, u, ed, eg, ru⟩ hlen cls hcls
    rw [q1, hm] at hcls
    cases hcls
    refine ⟨true, hex, fun _ a ha => ?_, fun z => nomatch z⟩
    subst hts
    have hvl : v < σ'.length := by
      rw [hlen]
      exact (List.getElem?_eq_some_iff.mp hi).1
    have hH : H' dd = some (.xd [(xx.fld, u)]) := W'.ex _ _ eg
    refine ⟨.ref a, by rw [List.getElem?_set_self hvl], rfl, rfl, dd, [(xx.fld, u)], u, ed, hH, by rw [q2]; simp [List.lookup], ?_, fun p hp => ?_⟩
    · show 2 ≤ sizeLine
      rw [sizeLine_eq]; decide
    · obtain ⟨e2, W2⟩ := W'.new hp (.lst [.str tag, u])
      exact ft.rt _ m' _ _ _ q3 (e.trans e2) W2 (.lst upd_same (.cons (.str tag) (.cons (ru.mono e2) .nil)))
end
end DL
/-! XR: repr of data, empty dicts among them -/
namespace DL
open PySem L2 XO
open Evl (Ex)
mutual
def plainD : D → Bool
  | .non => true | .bl _ => true | .int _ => true | .str _ => true
  | .lst ds => plainA ds | .tup ds => plainA ds
  | .dct [] [] => true
  | _ => false
def plainA : List D → Bool
  | [] => true
  | d :: ds => plainD d && plainA ds
end
section
variable {X : Cx} {pins : List (Addr × Obj)} {σ : L2.St} {G H : Hp} {s : Shared}
mutual
theorem rk_of (I : Inv X pins σ H s) (e : Ex G H) : ∀ (d : D) (v : V) (u : Value), Rp X.K G v d → RelV v u → plainD d = true → (py d).showable = true → (py d).shown.length ≤ sizeLine →
    ∃ as bs, Reads s.heap u (py d) as ∧ ReadAtMost s.heap (py d).depth bs ∧ ReprK X.prog X.w bs s.heap (py d).depth u (py d).shown
  | .non, _, _, r, ru, _, _, _ => by
    cases r; cases ru
    exact ⟨_, [], Reads.none, (fun _ h => nomatch h), by simp only [py, PyData.shown]; exact .of_is ReprIs.none _ _ _⟩
  | .bl b, _, _, r, ru, _, _, _ => by
    cases r; cases ru
    exact ⟨_, [], Reads.bool b, (fun _ h => nomatch h), by simp only [py, PyData.shown]; exact .of_is (ReprIs.bool b) _ _ _⟩
  | .int i, _, _, r, ru, _, hs, _ => by
    cases r
    obtain ⟨t, rfl⟩ := ru
    exact ⟨_, [], Reads.int i t, (fun _ h => nomatch h), by simp only [py, PyData.shown]; exact .of_is (ReprIs.int t (by simpa [py, PyData.showable] using hs)) _ _ _⟩
  | .str x, _, _, r, ru, _, _, hz => by
    cases r
    obtain ⟨t, rfl⟩ := ru
    exact ⟨_, [], Reads.str x t, (fun _ h => nomatch h), by simp only [py, PyData.shown]; exact .of_is (ReprIs.str x t (by simpa only [py, PyData.shown] using hz)) _ _ _⟩
  | .lst ds, _, _, r, ru, hp, hs, hz => by
    cases r with
    | @lst a0 xs0 _ hx rr =>
      cases ru
      obtain ⟨its, rv, ⟨o, n, ho, hc, _, hd⟩, _⟩ := I.list (SqL.of (e _ _ hx))
      have hz' : (listText (PyData.shownAll (pyA ds))).length ≤ sizeLine := by simpa only [py, PyData.shown] using hz
      obtain ⟨as, bs, hr, hb, hk⟩ := rks_of I e ds _ its rr rv (by simpa only [plainD] using hp) (by simpa only [py, PyData.showable] using hs) (fun t ht => Nat.le_trans (listText_mem_le ht) hz')
      have r : Reads s.heap (.ref a0) (.list (pyA ds)) _ := .list ho hc hd hr
      have hna : a0 ∉ bs := not_mem_of_deeper r (by simp only [PyData.depth]; omega) hb
      rw [show py (D.lst ds) = PyData.list (pyA ds) from by simp only [py]]
      refine ⟨_, _ :: bs, r, ReadAtMost.cons r (by simp only [PyData.depth]; omega) hb, ?_⟩
      simp only [PyData.depth, PyData.shown]
      cases its with
      | nil =>
        have h4' : ReadsAll s.heap [] (pyA ds) _ := hr
        cases ds with
        | nil =>
          simp only [pyA, PyData.shownAll, listText_nil]
          exact ReprK.listEmpty ho hc hd
        | cons d ds => simp only [pyA] at h4'; cases h4'
      | cons x l => exact ReprK.list ho hc hd hna (by simpa using hk.length_eq) (fun i y e => hk.item i y (by simpa using e))
  | .tup ds, _, _, r, ru, hp, hs, hz => by
    cases r with
    | @tup a0 xs0 _ hx rr =>
      cases ru
      obtain ⟨its, rv, ⟨o, ho, hc, n, hd⟩, _⟩ := I.tuple (Evl.ex_t e hx)
      have hz' : (tupleText (PyData.shownAll (pyA ds))).length ≤ sizeLine := by simpa only [py, PyData.shown] using hz
      obtain ⟨as, bs, hr, hb, hk⟩ := rks_of I e ds _ its rr rv (by simpa only [plainD] using hp) (by simpa only [py, PyData.showable] using hs) (fun t ht => Nat.le_trans (tupleText_mem_le ht) hz')
      have r : Reads s.heap (.ref a0) (.tuple (pyA ds)) _ := .tuple ho hc hd hr
      have hna : a0 ∉ bs := not_mem_of_deeper r (by simp only [PyData.depth]; omega) hb
      rw [show py (D.tup ds) = PyData.tuple (pyA ds) from by simp only [py]]
      refine ⟨_, _ :: bs, r, ReadAtMost.cons r (by simp only [PyData.depth]; omega) hb, ?_⟩
      simp only [PyData.depth, PyData.shown]
      exact ReprK.tuple ho hc hd hna hk
  | .dct [] [], _, _, r, ru, _, _, _ => by
    cases r with
    | @dct a0 kvs0 _ _ _ hx h1 h2 rr =>
      cases ru
      have hk0 : kvs0 = [] := List.map_eq_nil_iff.mp h1
      subst hk0
      obtain ⟨_, hsys, vs, kv, o, es, ep, ho, hex, hd, _, hp, _⟩ := dk_of I.hok (e _ _ hx)
      cases kv
      have hes : es.toList = [] := by
        cases hh : es.toList with
        | nil => rfl
        | cons x l => rw [hh] at hp; cases hp
      have r : Reads s.heap (.ref a0) (.dict []) _ := .dict ho hex.1 hd (by rw [hes]; exact ReadsAll.nil) (by rw [hes]; exact ReadsAll.nil)
      refine ⟨_, [a0], r, ReadAtMost.cons (n := 0) r (Nat.zero_le _) (fun _ h => nomatch h), ?_⟩
      simp only [py, PyData.depth, PyData.shown, PyData.shownKv_eq]
      exact ReprK.dict ho hex.1 hd hsys (fun h => nomatch h) (by rw [hes]; exact .nil)
  | .dct (_ :: _) _, _, _, _, _, h, _, _ => by simp [plainD] at h
  | .dct [] (_ :: _), _, _, _, _, h, _, _ => by simp [plainD] at h
  | .ty _, _, _, _, _, h, _, _ => by simp [plainD] at h
  | .scr _, _, _, _, _, h, _, _ => by simp [plainD] at h
  | .box _, _, _, _, _, h, _, _ => by simp [plainD] at h
  | .obj _ _ _, _, _, _, _, h, _, _ => by simp [plainD] at h
theorem rks_of (I : Inv X pins σ H s) (e : Ex G H) : ∀ (ds : List D) (vs : List V) (us : List Value), RpA X.K G vs ds → Vals vs us → plainA ds = true → PyData.showableAll (pyA ds) = true → (∀ t ∈ PyData.shownAll (pyA ds), t.length ≤ sizeLine) →
    ∃ as bs, ReadsAll s.heap us (pyA ds) as ∧ ReadAtMost s.heap (PyData.depthAll (pyA ds)) bs ∧ ReprAllK X.prog X.w bs s.heap (PyData.depthAll (pyA ds)) us (PyData.shownAll (pyA ds))
  | [], _, _, r, rv, _, _, _ => by
    cases r; cases rv
    exact ⟨_, [], ReadsAll.nil, (fun _ h => nomatch h), by simp only [pyA, PyData.shownAll]; exact .nil⟩
  | d :: ds, _, _, r, rv, hp, hs, hz => by
    cases r with
    | cons r1 r2 =>
      cases rv with
      | cons v1 v2 =>
        have hp' : plainD d = true ∧ plainA ds = true := by simpa [plainA] using hp
        have hs' : (py d).showable = true ∧ PyData.showableAll (pyA ds) = true := by simpa [pyA, PyData.showableAll] using hs
        obtain ⟨as1, b1, q1, hb1, k1⟩ := rk_of I e d _ _ r1 v1 hp'.1 hs'.1 (hz _ (by simp only [pyA, PyData.shownAll]; exact List.mem_cons_self ..))
        obtain ⟨as2, b2, q2, hb2, k2⟩ := rks_of I e ds _ _ r2 v2 hp'.2 hs'.2 (fun t ht => hz t (by simp only [pyA, PyData.shownAll]; exact List.mem_cons_of_mem _ ht))
        refine ⟨_, b1 ++ b2, ReadsAll.cons q1 q2, ?_, ?_⟩
        · intro b hm
          simp only [pyA, PyData.depthAll]
          rcases List.mem_append.mp hm with hm | hm
          · obtain ⟨d', as', r', hd'⟩ := hb1 b hm
            exact ⟨d', as', r', Nat.le_trans hd' (Nat.le_max_left _ _)⟩
          · obtain ⟨d', as', r', hd'⟩ := hb2 b hm
            exact ⟨d', as', r', Nat.le_trans hd' (Nat.le_max_right _ _)⟩
        · simp only [pyA, PyData.depthAll, PyData.shownAll]
          exact .cons ((k1.more fun b hb => List.mem_append_left _ hb).level_le (Nat.le_max_left _ _)) (k2.more_le (fun b hb => List.mem_append_right _ hb) (Nat.le_max_right _ _))
end
theorem py_lst {ds : List D} : (py (.lst ds)).depth = PyData.depthAll (pyA ds) + 1 ∧ (py (.lst ds)).shown = listText (PyData.shownAll (pyA ds)) := ⟨by simp only [py, PyData.depth], by simp only [py, PyData.shown]⟩
end
structure ShowsU (d : D) : Prop where
  plain : plainD d = true
  show1 : (py d).showable = true
  deep : (py d).depth ≤ 60
  size : (py d).shown.length ≤ sizeLine
def dReprU : WC := fun xs m Q => match xs with
  | [.lst ds] => ShowsU (.lst ds) ∧ Q (.str (py (.lst ds)).shown) m
  | _ => False
def rReprU (K : Fg) : List V → Hp → VK → Prop := fun xs H Q => ∃ a G ds, xs = [.ref a] ∧ Ex G H ∧ Rp K G (.ref a) (.lst ds) ∧ ShowsU (.lst ds) ∧ Q (.str (py (.lst ds)).shown) H
theorem call_reprU {X : Cx} (hc : X.A.guards = some []) (hu : X.A.units + 64 < cLine) : CallR X (.builtin "repr") (rReprU X.K) := by
  intro pins s σ H xs us Q I r h
  obtain ⟨a, G, ds, rfl, e, rp, S, q⟩ := h
  cases r with
  | cons r1 t =>
    cases t
    cases r1
    have hz := S.size
    have hdp := S.deep
    cases rp with
    | @lst a0 xs0 _ hx rr =>
      obtain ⟨its, rv, ⟨o, n, ho, hcl, _, hd⟩, _⟩ := I.list (SqL.of (e _ _ hx))
      have hz' : (listText (PyData.shownAll (pyA ds))).length ≤ sizeLine := by simpa only [py, PyData.shown] using hz
      obtain ⟨as, bs, hr, hb, hk⟩ := rks_of I e ds _ its rr rv (by simpa only [plainD] using S.plain) (by simpa only [py, PyData.showable] using S.show1) (fun t ht => Nat.le_trans (listText_mem_le ht) hz')
      have r : Reads s.heap (.ref a) (.list (pyA ds)) _ := .list ho hcl hd hr
      have hna : a ∉ bs := not_mem_of_deeper r (by simp only [PyData.depth]; omega) hb
      refine call_repr_slot (by omega) ⟨o, ho, hcl⟩ F.slot_list_repr.toG ?_
      simp only [py, PyData.depth] at hdp
      have fin : ∀ h' u tk, (∀ b o, s.heap.get? b = some o → h'.get? b = some o) → ∃ v H1, Inv X pins σ H1 { s with heap := h', toks := tk } ∧ RelV v (.str (listText (PyData.shownAll (pyA ds))) u) ∧ Q v H1 := fun h' u tk k => by
        have e2 : (py (.lst ds)).shown = listText (PyData.shownAll (pyA ds)) := py_lst.2
        rw [e2] at q
        exact ⟨.str _, H, I.kept k, ⟨u, rfl⟩, q⟩
      cases its with
      | nil =>
        have h4' : ReadsAll s.heap [] (pyA ds) _ := hr
        cases ds with
        | nil =>
          refine call_list_repr_empty ⟨o, ho, hcl⟩ ho hd ⟨_, _, rfl, ?_⟩
          have := fin s.heap s.toks (s.toks + 1) fun _ _ e => e
          simp only [pyA, PyData.shownAll, listText_nil] at this
          exact this
        | cons d ds => simp only [pyA] at h4'; cases h4'
      | cons x l =>
        exact call_list_reprK ho hcl hd hna (by simpa using hk.length_eq) (fun i y e => hk.item i y (by simpa using e)) hc (fun b _ => Clear.nil b) (by show X.A.units + 1 + (PyData.depthAll (pyA ds) + 1) < cLine; omega) (fun _ _ e => e) (fun h' u tk k => ⟨_, _, rfl, fin h' u tk k⟩) hz'
theorem b_reprU {P : Program} {w : World} {K : Fg} {mg : Str → Option Value} {base : Heap} {k : Nat} {N : List Str} {ι : Type} {X : ι → Cx} (hX : FamG P w K mg base k N X) : BiU K X (.builtin "repr") dReprU := by
  refine ⟨_, fun i => hX.K i ▸ call_reprU (hX.guards i) (by have := (hX.room i).un; omega), ?_⟩
  intro G m F H xs ds Q Qd hW r h hQ
  unfold dReprU at h
  split at h
  · obtain ⟨S, q⟩ := h
    cases r with
    | cons r1 t =>
      cases t
      have r2 := r1
      cases r1 with
      | lst hx rr => exact ⟨_, G, _, rfl, hW.ex, r2, S, hQ.here hW q (.str _)⟩
  · cases h
end DL
/-! XE: further rules at the level of data -/
namespace DL
open PySem L2 XO
open Evl (Ex)
section
variable {K : Fg} {W : Wx} {ι : Type} {X : ι → Cx} {pos : Pos} {a b c e : Expr} {es : List Expr} {wa wb wc w : WE} {wr : WA} {sts : List Stmt} {t : WS} {ua : WT}
/-! a built-in function under a name of the text -/
theorem pd_bg {mg : Str → Option Value} {x : Str} {p : Pos} {id : String} {w : WC} (hc : BiU K X (.builtin id) w) (hX : ∀ i, (X i).mg = mg) (hm : mg x = some (.builtin id)) (ha : PDA K W X (e :: es) wr) (hg : ∀ i, Gl (X i) x := by intro _; rfl)
    (he : ∀ i, starEach (e :: es) (X i).env = (false, eval e (X i).env) :: starEach es (X i).env := by intro _; rfl) (hpl : ∀ i, (backTo pos (starEach es (X i).env)).any (·.1) = false := by intro _; rfl) (hd : (x == ("__debug__" : Str)) = false := by decide) :
    PD K W X (.Call (.Name x p) (e :: es) [] pos) (wBi w wr) := by
  obtain ⟨r, c1, c2⟩ := hc
  obtain ⟨t, h1, h2⟩ := ha
  exact ⟨_, fun i => pe_callBfun (c1 i) (hg i) (by rw [hX i]; exact hm) (h1 i) hd (he i) (hpl i), lift_cb c2 h2⟩
abbrev dGcd : WC := dInt2 fun i j => ((Nat.gcd i.natAbs j.natAbs : Nat) : Int)
theorem b_gcd : BiU K X (.builtin "math.gcd") dGcd := ⟨_, fun _ => cr_gcd, lift_int2⟩
def dAbs : WC := fun xs m Q => match xs with
  | [.int i] => Q (.int (if i < 0 then -i else i)) m
  | _ => False
theorem b_abs : BiU K X (.builtin "abs") dAbs := by
  refine ⟨_, fun _ => call_abs, ?_⟩
  intro G m F H xs ds Q Qd hW r h hQ
  unfold dAbs at h
  split at h
  · cases r with
    | cons r1 t =>
      cases r1
      cases t
      exact ⟨_, rfl, hQ.here hW h (.int _)⟩
  · cases h
/-! isinstance(x, (c1, ..)) -/
/-- boxes too: they are lists -/
def typedM (m : Mem) : D → Bool
  | .box a => (m a).isSome
  | d => isTyped d
def isaL (x : D) : List String → Option Bool
  | [] => some false
  | n :: r => match isaB n x with
    | some true => some true
    | some false => isaL x r
    | none => none
theorem isaL_box {a : Addr} : ∀ ns, isaL (.box a) ns = isaL (.lst []) ns
  | [] => rfl
  | n :: r => by unfold isaL; rw [show isaB n (.box a) = isaB n (.lst []) from rfl, isaL_box r]
theorem kits {x : D} (hx : isTyped x = true) : ∀ {ns : List String} {b : Bool}, isaL x ns = some b → PySem.W.kitAny K (.type (tyD x)) (ns.map Value.type) = some b
  | [], _, h => by cases h; rfl
  | n :: r, b, h => by
    unfold isaL at h
    split at h
    · rename_i e
      cases h
      exact kitAny_cons (r := true) (kit_ty (kit_isa hx e)) (fun z => nomatch z) (fun _ => rfl)
    · rename_i e
      exact kitAny_cons (kit_ty (kit_isa hx e)) (fun _ => kits hx h) (fun z => nomatch z)
    · cases h
/-- isinstance(e, (c1, c2)) -/
def wIsiT (we : WE) (ns : List String) : WE := fun ρ m Q Qx => we ρ m (fun x m1 => typedM m1 x = true ∧ ∃ b, isaL x ns = some b ∧ Q (.bl b) m1) Qx
theorem tyM_of {G F H : Hp} {m : Mem} {v : V} {d : D} {ns : List String} {b : Bool} (hW : Wd K G m F H) (r : Rp K G v d) (ht : typedM m d = true) (h : isaL d ns = some b) : ∃ t, TyX K H v t ∧ PySem.W.kitAny K t (ns.map Value.type) = some b := by
  cases d with
  | box a =>
    cases r
    obtain ⟨ds, hm⟩ := Option.isSome_iff_exists.mp ht
    obtain ⟨_, _, xs, hx, _⟩ := hW.own a ds hm
    rw [isaL_box] at h
    exact ⟨_, .base (.lst hx), kits (x := .lst []) rfl h⟩
  | _ => exact ⟨_, ty_of hW.ex r (by exact ht), kits (by exact ht) h⟩
theorem pd_isiT2 {mg : Str → Option Value} {x1 x2 : Str} {n1 n2 : String} {p p1 p2 p3 : Pos} {kx : Nat} {we : WE} (hK : ∀ i, (X i).K = K) (hX : ∀ i, (X i).mg = mg) (hm : mg "isinstance" = none) (hi : bootBuiltins "isinstance" = some (.builtin "isinstance")) (m1 : mg x1 = none) (v1 : bootBuiltins x1 = some (.type n1)) (m2 : mg x2 = none) (v2 : bootBuiltins x2 = some (.type n2))
    (he : PD K W X e we) (hg : ∀ i, Gl (X i) "isinstance" := by intro _; rfl) (g1 : ∀ i, Gl (X i) x1 := by intro _; rfl) (g2 : ∀ i, Gl (X i) x2 := by intro _; rfl) (hn1 : x1 ≠ "__name__" := by decide) (hd1 : (x1 == ("__debug__" : Str)) = false := by decide) (hn2 : x2 ≠ "__name__" := by decide) (hd2 : (x2 == ("__debug__" : Str)) = false := by decide)
    (hs : ∀ i, starEach [e, .Tuple [.Name x1 p1, .Name x2 p2] kx p3] (X i).env = (false, eval e (X i).env) :: starEach [.Tuple [.Name x1 p1, .Name x2 p2] kx p3] (X i).env := by intro _; rfl)
    (hpl : ∀ i, (backTo pos (starEach [.Tuple [.Name x1 p1, .Name x2 p2] kx p3] (X i).env)).any (·.1) = false := by intro _; rfl) :
    PD K W X (.Call (.Name "isinstance" p) [e, .Tuple [.Name x1 p1, .Name x2 p2] kx p3] [] pos) (wIsiT we [n1, n2]) := by
  obtain ⟨t, h1, h2⟩ := he
  refine ⟨tCB (rIsiT K) (tCons t (tCons (tTup (tCons (tC (.ty n1)) (tCons (tC (.ty n2)) tNil))) tNil)), fun i => pe_callB (by have q := call_isiT (X := X i); rw [hK i] at q; exact q) (hg i) (by rw [hX i]; exact hm) hi
    (L2.pa_cons (h1 i) (L2.pa_cons (pe_tup (L2.pa_cons (pe_bltn (g1 i) (by rw [hX i]; exact m1) v1 rfl hn1 hd1) (L2.pa_cons (pe_bltn (g2 i) (by rw [hX i]; exact m2) v2 rfl hn2 hd2) L2.pa_nil))) L2.pa_nil) (hs i)) (by decide) (by decide) (hs i) (hpl i), ?_⟩
  intro G m F H σ ρ Q Qd Qx hW hE h hX hQ
  refine h2 G m F H σ ρ _ _ Qx hW hE h hX ?_
  intro d m1 x G1 H1 q e1 W1 r1
  obtain ⟨ht, b, hb, q⟩ := q
  refine ⟨by show 2 ≤ sizeLine; rw [sizeLine_eq]; decide, fun p hp => ?_⟩
  obtain ⟨e2, W2⟩ := W1.new hp (.tup [V.ty n1, V.ty n2])
  obtain ⟨t, ht2, hk⟩ := tyM_of W2 (r1.mono e2) ht hb
  exact ⟨x, p, _, t, _, b, rfl, upd_same, .cons (.ty n1) (.cons (.ty n2) .nil), ht2, hk, hQ _ _ _ _ _ q (e1.trans e2) W2 (.bl b)⟩
/-! what a variable holds, walked: a list or a tuple -/
def iVar (i : Nat) : WA := fun ρ m Q _ => match ρ[i]? with
  | some (some (.lst ds)) => Q ds m
  | some (some (.tup ds)) => Q ds m
  | some (some (.scr ns)) => Q (ns.map D.int) m
  | _ => False
theorem pi_or {Y : Cx} {tg iter : Expr} {t t' : TI} (h : PI Y tg iter t) (h' : PI Y tg iter t') : PI Y tg iter (fun σ H R => t σ H R ∨ t' σ H R) := by
  refine ⟨fun pins s σ H R I q => ?_⟩
  rcases q with q | q
  · exact h.run pins s σ H R I q
  · exact h'.run pins s σ H R I q
theorem pi_var (hK : ∀ i, (X i).K = K) (i : Nat) {N : List Str} {x : Str} (hX : ∀ j, (X j).N = N) (hN : N[i]? = some x := by rfl) (hv : ∀ j, Vis (X j).env.scope x := by intro _; first | exact Or.inl rfl | exact Or.inr (Or.inl rfl) | exact Or.inr (Or.inr rfl)) (hd : (x == ("__debug__" : Str)) = false := by decide) (hc : (x == ("__classdict__" : Str)) = false := by decide) {tg : Expr} : PDI K W X tg (.Name x pos) (iVar i) := by
  refine ⟨fun σ H R => iList K (tVar i) σ H R ∨ iTup K (tVar i) σ H R, fun j => ?_, ?_⟩
  · have pv : PE (X j) (.Name x pos) (tVar i) := pe_var (by rw [hX j]; exact hN) (hv j) hd hc
    have q := pi_or (pi_list (tg := tg) pv) (pi_tup (tg := tg) pv)
    rw [hK j] at q
    exact q
  · intro G m F H σ ρ R Qd Qx hW hE h hX hR
    unfold iVar at h
    split at h
    · rename_i ds e
      obtain ⟨v, h1, h2⟩ := hE.get e
      cases h2 with
      | lst hx rr => exact Or.inl ⟨_, h1, _, rfl, ⟨_, SqL.of (hW.ex _ _ hx)⟩, hR _ _ _ _ _ h (Ex.refl G) hW (dw_list hx rr)⟩
    · rename_i ds e
      obtain ⟨v, h1, h2⟩ := hE.get e
      cases h2 with
      | tup hx rr =>
        refine Or.inr ⟨_, h1, _, rfl, ⟨_, Evl.ex_t hW.ex hx⟩, hR _ _ _ _ _ h (Ex.refl G) hW ?_⟩
        refine ⟨_, _, rr.len ▸ walk_tup, fun G2 m F H e W => ⟨Evl.ex_t W.ex (Evl.ex_t e hx), ?_⟩⟩
        rintro i H' x d hd ⟨rfl, hx⟩
        obtain ⟨v, hv, rv⟩ := rr.at hd
        rw [hv] at hx
        cases hx
        exact ⟨G2, Ex.refl _, W, rv.mono e⟩
    · rename_i ns e
      obtain ⟨v, h1, h2⟩ := hE.get e
      cases h2 with
      | scr hx => exact Or.inl ⟨_, h1, _, rfl, ⟨_, Evl.ex_l hW.ex hx⟩, hR _ _ _ _ _ h (Ex.refl G) hW (dw_scr hx)⟩
    · cases h
/-! while -/
/-- a while of a measured state -/
def sWhile (c : WT) (body : WS) : WS := fun E ρ m => ∃ J : Nat → En0 → Mem → Prop, (∃ n, J n ρ m) ∧ ∀ n ρ m, J n ρ m → c ρ m (fun b m1 => if b = true then body { E with nx := fun ρ' m' => ∃ n', n' < n ∧ J n' ρ' m', ct := fun ρ' m' => ∃ n', n' < n ∧ J n' ρ' m', bk := E.nx } ρ m1 else E.nx ρ m1) E.ex
theorem ps_whileD (hp : ∀ i, PassesOwn (model (X i).prog (X i).w) (X i).A (X i).env (X i).xe) (hc : PDT K W X c ua) (hb : PDB K W X sts t) : PDS K W X (.While c sts [] pos) (sWhile ua t) := by
  obtain ⟨tc, c1, c2⟩ := hc
  obtain ⟨tb, b1, b2⟩ := hb
  refine ⟨_, fun i => ps_while (hp i) (c1 i) (b1 i), ?_⟩
  intro G m F H σ ρ S E hW hE ⟨J, ⟨n0, j0⟩, turn⟩ f
  refine ⟨fun n σ H => ∃ G' m' ρ', Ex G G' ∧ Wd K G' m' F H ∧ En K G' σ ρ' ∧ J n ρ' m', ⟨n0, G, m, ρ, Ex.refl G, hW, hE, j0⟩, ?_⟩
  rintro n σ H ⟨G1, m1, ρ1, e1, W1, E1, j1⟩
  refine c2 G1 m1 F H σ ρ1 _ _ E.ex W1 E1 (turn n ρ1 m1 j1) (f.ex.mono e1) ?_
  intro b m2 G2 H2 q e2 W2
  have e12 := e1.trans e2
  cases b with
  | true =>
    rw [if_pos rfl] at q
    refine ⟨fun σ' H' => ∃ m', m' < n ∧ ∃ G' mm ρ', Ex G G' ∧ Wd K G' mm F H' ∧ En K G' σ' ρ' ∧ J m' ρ' mm, fun _ _ h => h, ?_⟩
    refine b2 G2 m2 F H2 σ ρ1 _ _ W2 (E1.mono e2) q ⟨?_, (f.mono e12).rt, ?_, ?_, (f.mono e12).ex⟩
    · rintro ρ3 m3 σ3 G3 H3 ⟨n', hn, j⟩ e3 W3 E3
      exact ⟨n', hn, G3, m3, ρ3, e12.trans e3, W3, E3, j⟩
    · exact (f.mono e12).nx
    · rintro ρ3 m3 σ3 G3 H3 ⟨n', hn, j⟩ e3 W3 E3
      exact ⟨n', hn, G3, m3, ρ3, e12.trans e3, W3, E3, j⟩
  | false => exact f.nx ρ1 m2 σ G2 H2 q e12 W2 (E1.mono e2)
/-! a, b = e, f -/
def sPar (i j : Nat) (wr : WA) : WS := fun E ρ m => wr ρ m (fun ds m1 => ∃ d1 d2, ds = [d1, d2] ∧ E.nx ((ρ.set i (some d1)).set j (some d2)) m1) E.ex
theorem ps_parD (i j : Nat) {N : List Str} {x y : Str} {px py pt pt2 : Pos} {kt k2 : Nat} (hX : ∀ j, (X j).N = N) (hc : ∀ i, (X i).calm = true) (hN : N.Nodup) (h : PDA K W X [a, b] wr) (hij : i ≠ j := by decide) (hi : N[i]? = some x := by rfl) (hj : N[j]? = some y := by rfl)
    (hx : ∀ j, (X j).env.scope.names.lookup x = some .local := by intro _; rfl) (hy : ∀ j, (X j).env.scope.names.lookup y = some .local := by intro _; rfl)
    (hw : ∀ i, swappedStores [.Tuple [.Name x px, .Name y py] kt pt] (.Tuple [a, b] k2 pt2) (X i).env = pure (some [x, y]) := by intro _; rfl)
    (hs : ∀ i, swapsWithSole [.Tuple [.Name x px, .Name y py] kt pt] (.Tuple [a, b] k2 pt2) pos.line (X i).env = pure false := by intro _; rfl) :
    PDS K W X (.Assign [.Tuple [.Name x px, .Name y py] kt pt] (.Tuple [a, b] k2 pt2) pos) (sPar i j wr) := by
  obtain ⟨t, a1, a2⟩ := h
  refine ⟨_, fun l => ps_par (i := i) (j := j) (hc l) (by rw [hX l]; exact hN) (by rw [hX l]; exact hi) (by rw [hX l]; exact hj) hij (hx l) (hy l) (a1 l) (hw l) (hs l), ?_⟩
  intro G m F H σ ρ S E hW hE h f
  refine a2 G m F H σ ρ _ _ E.ex hW hE h f.ex ?_
  rintro ds m1 vs G1 H1 ⟨d1, d2, rfl, q⟩ e1 W1 r1
  cases r1 with
  | cons r1 t =>
    cases t with
    | cons r2 t =>
      cases t
      exact ⟨_, _, rfl, f.nx _ m1 _ G1 H1 q e1 W1 (((hE.mono e1).put r1 i).put r2 j)⟩
end
end DL
/-! XF: zip, append, boxes compared, calls that borrow boxes -/
namespace DL
open PySem L2 XO RZ
open Evl (Ex)
section
variable {K : Fg} {W : Wx} {ι : Type} {X : ι → Cx} {pos : Pos} {a b c e : Expr} {es : List Expr} {wa wb wc w : WE} {wr : WA} {sts : List Stmt} {t : WS} {ua : WT}
def zipD (xs ys : List D) : List D := (xs.zip ys).map fun p => .tup [p.1, p.2]
def iZipD (wr : WA) : WA := fun ρ m Q Qx => wr ρ m (fun ds m1 => match ds with
  | [.lst xs, .lst ys] => Q (zipD xs ys) m1
  | [.tup xs, .tup ys] => Q (zipD xs ys) m1
  | _ => False) Qx
theorem walk_zipT {K : Fg} {a b : Addr} {xs ys : List V} {n : Nat} (hn : n = min xs.length ys.length) : Walk (ItzT K a b) n (fun H => SqT K H a xs ∧ SqT K H b ys) (YPair (fun i => xs[i]?) (fun i => ys[i]?)) where
  goes := by
    rintro i H hi ⟨qa, qb⟩
    have la : i < xs.length := Nat.lt_of_lt_of_le (hn ▸ hi) (Nat.min_le_left _ _)
    have lb : i < ys.length := Nat.lt_of_lt_of_le (hn ▸ hi) (Nat.min_le_right _ _)
    exact ⟨xs, ys, _, _, qa, qb, List.getElem?_eq_getElem la, List.getElem?_eq_getElem lb⟩
  stops := by
    rintro H ⟨qa, qb⟩
    refine ⟨xs, ys, qa, qb, ?_⟩
    rcases Nat.le_total xs.length ys.length with c | c
    · exact Or.inl (by rw [hn, Nat.min_eq_left c]; exact Nat.le_refl _)
    · exact Or.inr (by rw [hn, Nat.min_eq_right c]; exact Nat.le_refl _)
  yields := by
    rintro i H v H' hi ⟨qa, qb⟩ ⟨T, u, u', ev, fresh, eH, ku, ku'⟩
    exact ⟨T, u, u', ev, fresh, eH, ku xs qa, ku' ys qb⟩
theorem zip_turn {G : Hp} {xs ys : List V} {ds es : List D} (r1 : RpA K G xs ds) (r2 : RpA K G ys es) {G2 : Hp} {m : Mem} {F H : Hp} (e : Ex G G2) (hW : Wd K G2 m F H) :
    ∀ i H' x d, (zipD ds es)[i]? = some d → YPair (fun i => xs[i]?) (fun i => ys[i]?) i H x H' → ∃ G', Ex G2 G' ∧ Wd K G' m F H' ∧ Rp K G' x d := by
  rintro i H' x d hd ⟨T, u, v, rfl, hT, rfl, hu, hv⟩
  unfold zipD at hd
  rw [List.getElem?_map] at hd
  cases hz : (ds.zip es)[i]? with
  | none => rw [hz] at hd; cases hd
  | some p =>
    rw [hz] at hd
    cases hd
    obtain ⟨h1, h2⟩ := List.getElem?_zip_eq_some.mp hz
    obtain ⟨u', hu', ru⟩ := r1.at h1
    obtain ⟨v', hv', rv⟩ := r2.at h2
    have hu : xs[i]? = some u := hu
    have hv : ys[i]? = some v := hv
    rw [hu] at hu'; cases hu'
    rw [hv] at hv'; cases hv'
    obtain ⟨e2, W2⟩ := hW.new hT (.tup [u, v])
    exact ⟨_, e2, W2, .tup (SqT.of upd_same) (.cons (ru.mono (e.trans e2)) (.cons (rv.mono (e.trans e2)) .nil))⟩
theorem zip_len {xs ys : List V} {ds es : List D} {G : Hp} (r1 : RpA K G xs ds) (r2 : RpA K G ys es) : (zipD ds es).length = min xs.length ys.length := by
  unfold zipD
  rw [List.length_map, List.length_zip, r1.len, r2.len]
theorem pi_zipD {mg : Str → Option Value} {p tpos : Pos} {elts : List Expr} {kk : Nat} (hK : ∀ i, (X i).K = K) (hX : ∀ i, (X i).mg = mg) (hm : mg "zip" = none) (ha : PDA K W X [a, b] wr) (hg : ∀ i, Gl (X i) "zip" := by intro _; rfl)
    (hs : ∀ i, starEach [a, b] (X i).env = (false, eval a (X i).env) :: starEach [b] (X i).env := by intro _; rfl) (hpl : ∀ i, (backTo pos (starEach [b] (X i).env)).any (·.1) = false := by intro _; rfl) :
    PDI K W X (.Tuple elts kk tpos) (.Call (.Name "zip" p) [a, b] [] pos) (iZipD wr) := by
  obtain ⟨t, h1, h2⟩ := ha
  refine ⟨iZipA K t, fun i => hK i ▸ pi_zipA (hg i) (by rw [hX i]; exact hm) (h1 i) (hs i) (hpl i), ?_⟩
  intro G m F H σ ρ R Qd Qx hW hE h hX hR
  refine h2 G m F H σ ρ _ _ Qx hW hE h hX ?_
  intro ds m1 vs G1 H1 q e1 W1 r1
  split at q
  · rename_i ds es
    cases r1 with
    | cons r1 t =>
      cases t with
      | cons r2 t =>
        cases t
        cases r1 with
        | lst hx rx =>
          cases r2 with
          | lst hy ry =>
            refine ⟨_, _, _, _, rfl, Or.inl ⟨SqL.of (W1.ex _ _ hx), SqL.of (W1.ex _ _ hy), hR _ _ _ _ _ q e1 W1 ?_⟩⟩
            exact ⟨_, _, walk_zip (zip_len rx ry), fun G2 m F H e W => ⟨⟨SqL.of (W.ex _ _ (e _ _ hx)), SqL.of (W.ex _ _ (e _ _ hy))⟩, zip_turn (G := G1) rx ry e W⟩⟩
  · rename_i ds es
    cases r1 with
    | cons r1 t =>
      cases t with
      | cons r2 t =>
        cases t
        cases r1 with
        | tup hx rx =>
          cases r2 with
          | tup hy ry =>
            refine ⟨_, _, _, _, rfl, Or.inr ⟨Evl.ex_t W1.ex hx, Evl.ex_t W1.ex hy, hR _ _ _ _ _ q e1 W1 ?_⟩⟩
            exact ⟨_, _, walk_zipT (zip_len rx ry), fun G2 m F H e W => ⟨⟨Evl.ex_t W.ex (Evl.ex_t e hx), Evl.ex_t W.ex (Evl.ex_t e hy)⟩, zip_turn (G := G1) rx ry e W⟩⟩
  · cases q
/-! xs.append(e), xs a box -/
def sAppend (o : WE) (wr : WA) : WS := fun E ρ m => o ρ m (fun x m1 => match x with
  | .box p => (m1 p).isSome = true ∧ wr ρ m1 (fun ds m2 => ∃ d xs, ds = [d] ∧ m2 p = some xs ∧ xs.length < sizeLine ∧ E.nx ρ (m2.up p (xs ++ [d]))) E.ex
  | _ => False) E.ex
theorem ps_appendD {o : Expr} {wo : WE} {apos cpos : Pos} (hK : ∀ i, (X i).K = K) (ho : PD K W X o wo) (ha : PDA K W X [e] wr)
    (hbase : ∀ i, attributeBase o "append" (X i).env (eval o (X i).env) = eval o (X i).env := by intro _; rfl)
    (hfew : ∀ i, ((backTo cpos (starEach [e] (X i).env)).all (fun x => !x.1) && (backToKw cpos (keywordEach [] (X i).env)).all (fun x => x.1.isSome)
      && decide ([e].length + ([] : List Keyword).length + (if ([] : List Keyword).isEmpty then 0 else 1) < 30)) = true := by intro _; rfl)
    (hline : (apos.endLine == cpos.line) = true := by rfl) (hs : ∀ i, starEach [e] (X i).env = (false, eval e (X i).env) :: starEach [] (X i).env := by intro _; rfl) (hplain : ∀ i, (backTo cpos (starEach [] (X i).env)).any (·.1) = false := by intro _; rfl)
    (hsw : ∀ i, swapsWith (.Call (.Attribute o "append" apos) [e] [] cpos) none pos.line (X i).env = pure false := by intro _; rfl) :
    PDS K W X (.Expr (.Call (.Attribute o "append" apos) [e] [] cpos) pos) (sAppend wo wr) := by
  obtain ⟨to, o1, o2⟩ := ho
  obtain ⟨ta, a1, a2⟩ := ha
  refine ⟨_, fun i => L2.ps_expr (te := tBM K "list" rAppend to ta) (by have q := pe_bm PySem.F.plainAttrs_list PySem.F.slot_list_append PySem.F.type_list_append (mt_append (X := X i)) (o1 i) (a1 i) (hbase i) (hfew i) hline (hs i) (hplain i); rw [hK i] at q; exact q) (hsw i), ?_⟩
  intro G m F H σ ρ S E hW hE h f
  refine o2 G m F H σ ρ _ _ E.ex hW hE h f.ex ?_
  intro x m1 xv G1 H1 q1 e1 W1 r1
  cases r1 <;> first | exact (show False from q1).elim | skip
  rename_i p
  obtain ⟨hp, q1⟩ := q1
  obtain ⟨ds0, hp⟩ := Option.isSome_iff_exists.mp hp
  obtain ⟨_, _, xs0, hx0, _⟩ := W1.own p ds0 hp
  refine ⟨Or.inl ⟨rfl, _, SqL.of hx0⟩, ?_⟩
  refine a2 G1 m1 F H1 σ ρ _ _ E.ex W1 (hE.mono e1) q1 (f.ex.mono e1) ?_
  rintro ds m2 vs G2 H2 ⟨d, xs, rfl, hm, hl, q2⟩ e2 W2 r2
  cases r2 with
  | cons r2 t =>
    cases t
    obtain ⟨_, _, ys, hy, ry⟩ := W2.own p xs hm
    refine ⟨p, ys, _, rfl, rfl, hy, by rw [ry.len]; exact hl, ?_⟩
    exact f.nx ρ _ σ G2 _ q2 (e1.trans e2) (W2.put hm (ry.app (.cons r2 .nil))) (hE.mono (e1.trans e2))
/-! data with its boxes looked up -/
mutual
def res (m : Mem) : D → D
  | .box a => match m a with
    | some ds => .lst ds
    | none => .box a
  | .lst ds => .lst (resA m ds)
  | .tup ds => .tup (resA m ds)
  | .dct ks ds => .dct ks (resA m ds)
  | .obj n ks ds => .obj n ks (resA m ds)
  | .non => .non | .bl b => .bl b | .int i => .int i | .str x => .str x | .ty n => .ty n | .scr ns => .scr ns
def resA (m : Mem) : List D → List D
  | [] => []
  | d :: ds => res m d :: resA m ds
end
/-- G2: what is good, the boxes of m among it -/
structure Adopt (K : Fg) (G : Hp) (m : Mem) (G2 : Hp) : Prop where
  ex : Ex G G2
  box : ∀ a ds, m a = some ds → ∃ xs, G2 a = some (.lst xs) ∧ RpA K G xs ds
mutual
theorem rp_res {G G2 : Hp} {m : Mem} (A : Adopt K G m G2) : ∀ {v : V} {d : D}, Rp K G v d → Rp K G2 v (res m d)
  | _, _, .non => by simp only [res]; exact .non
  | _, _, .bl b => by simp only [res]; exact .bl b
  | _, _, .int i => by simp only [res]; exact .int i
  | _, _, .str x => by simp only [res]; exact .str x
  | _, _, .ty n => by simp only [res]; exact .ty n
  | _, _, .scr h => by simp only [res]; exact .scr (Evl.ex_l A.ex h)
  | _, _, .lst h r => by simp only [res]; exact .lst (A.ex _ _ h) (rps_res A r)
  | _, _, .tup h r => by simp only [res]; exact .tup (Evl.ex_t A.ex h) (rps_res A r)
  | _, _, .dct h a b r => by simp only [res]; exact .dct (A.ex _ _ h) a b (rps_res A r)
  | _, _, .obj k h a b r => by simp only [res]; exact .obj k (A.ex _ _ h) a b (rps_res A r)
  | _, _, .box a => by
    unfold res
    split
    · rename_i ds hm
      obtain ⟨xs, hx, rr⟩ := A.box a ds hm
      exact .lst hx (rr.mono A.ex)
    · exact .box a
theorem rps_res {G G2 : Hp} {m : Mem} (A : Adopt K G m G2) : ∀ {vs : List V} {ds : List D}, RpA K G vs ds → RpA K G2 vs (resA m ds)
  | _, _, .nil => by simp only [resA]; exact .nil
  | _, _, .cons r t => by simp only [resA]; exact .cons (rp_res A r) (rps_res A t)
end
theorem Wd.adoptH {G F H : Hp} {m : Mem} (W : Wd K G m F H) : Adopt K G m H := ⟨W.ex, fun a ds h => by
  obtain ⟨_, _, xs, hx, rr⟩ := W.own a ds h
  exact ⟨xs, hx, rr⟩⟩
def dEqM : WR := fun x y m Q => SeqAt.shaped (py (res m x)) = true ∧ SeqAt.shaped (py (res m y)) = true ∧ Q (.bl (PyData.eqv (py (res m x)) (py (res m y)))) m
def dNeM : WR := fun x y m Q => SeqAt.shaped (py (res m x)) = true ∧ SeqAt.shaped (py (res m y)) = true ∧ Q (.bl (!PyData.eqv (py (res m x)) (py (res m y)))) m
theorem c_eqM {P : Program} {wo : World} {mg : Str → Option Value} {base : Heap} {k : Nat} {N : List Str} (hX : Fam P wo K mg base k N X) : CmpU K X .Eq dEqM := by
  refine ⟨rEqD K, fun i => hX.K i ▸ op_eqD (by have := (hX.room i).un; omega), ?_⟩
  rintro G m F H x y dx dy Q Qd hW rx ry ⟨h1, h2, q⟩ hQ
  exact ⟨_, _, dp_of (Ex.refl H) _ (rp_res hW.adoptH rx) (shaped_lay h1), dp_of (Ex.refl H) _ (rp_res hW.adoptH ry) (shaped_lay h2), h1, h2, hQ.here hW q (.bl _)⟩
theorem c_neM {P : Program} {wo : World} {mg : Str → Option Value} {base : Heap} {k : Nat} {N : List Str} (hX : Fam P wo K mg base k N X) : CmpU K X .NotEq dNeM := by
  refine ⟨rNeD K, fun i => hX.K i ▸ op_neD (by have := (hX.room i).un; omega), ?_⟩
  rintro G m F H x y dx dy Q Qd hW rx ry ⟨h1, h2, q⟩ hQ
  exact ⟨_, _, dp_of (Ex.refl H) _ (rp_res hW.adoptH rx) (shaped_lay h1), dp_of (Ex.refl H) _ (rp_res hW.adoptH ry) (shaped_lay h2), h1, h2, hQ.here hW q (.bl _)⟩
/-! calls that borrow the boxes: what comes back is flat -/
theorem rp_flat {G G2 : Hp} {v : V} {d : D} (h : flatD d = true) (r : Rp K G v d) : Rp K G2 v d := by
  cases r <;> first | exact .non | exact .bl _ | exact .int _ | exact .str _ | exact nomatch h
/-- G with the boxes of m -/
def withBoxes (m : Mem) (G H : Hp) : Hp := fun a => if (m a).isSome = true then H a else G a
/-- G without the boxes of m -/
def noBoxes (m : Mem) (G : Hp) : Hp := fun a => if (m a).isSome = true then none else G a
theorem Wd.lend {G F H : Hp} {m : Mem} (W : Wd K G m F H) : Adopt K G m (withBoxes m G H) ∧ Wd K (withBoxes m G H) (fun _ => none) F H := by
  have ex : Ex G (withBoxes m G H) := by
    intro a o h
    unfold withBoxes
    by_cases c : (m a).isSome = true
    · obtain ⟨ds, hm⟩ := Option.isSome_iff_exists.mp c
      rw [(W.own a ds hm).1] at h; cases h
    · rw [if_neg c]; exact h
  refine ⟨⟨ex, fun a ds h => ?_⟩, ⟨?_, fun _ _ z => (nomatch z), W.fr, ?_⟩⟩
  · obtain ⟨_, _, xs, hx, rr⟩ := W.own a ds h
    exact ⟨xs, by unfold withBoxes; rw [if_pos (by rw [h]; rfl)]; exact hx, rr⟩
  · intro a o h
    unfold withBoxes at h
    by_cases c : (m a).isSome = true
    · rw [if_pos c] at h; exact h
    · rw [if_neg c] at h; exact W.ex _ _ h
  · intro a o h
    unfold withBoxes
    by_cases c : (m a).isSome = true
    · obtain ⟨ds, hm⟩ := Option.isSome_iff_exists.mp c
      rw [(W.own a ds hm).2.1] at h; cases h
    · rw [if_neg c]; exact W.frG _ _ h
theorem Wd.back {G F H G2 H2 : Hp} {m m2 : Mem} (W : Wd K G m F H) (e : Ex (withBoxes m G H) G2) (W2 : Wd K G2 m2 F H2) : Ex G (noBoxes m G2) ∧ Wd K (noBoxes m G2) m F H2 := by
  have ex : Ex G (noBoxes m G2) := by
    intro a o h
    unfold noBoxes
    by_cases c : (m a).isSome = true
    · obtain ⟨ds, hm⟩ := Option.isSome_iff_exists.mp c
      rw [(W.own a ds hm).1] at h; cases h
    · rw [if_neg c]
      exact e _ _ (W.lend.1.ex _ _ h)
  refine ⟨ex, ⟨?_, ?_, W2.fr, ?_⟩⟩
  · intro a o h
    unfold noBoxes at h
    by_cases c : (m a).isSome = true
    · rw [if_pos c] at h; cases h
    · rw [if_neg c] at h; exact W2.ex _ _ h
  · intro a ds h
    obtain ⟨_, hF, xs, hx, rr⟩ := W.own a ds h
    refine ⟨by unfold noBoxes; rw [if_pos (by rw [h]; rfl)], hF, xs, W2.ex _ _ (e _ _ ?_), rr.mono ex⟩
    unfold withBoxes; rw [if_pos (by rw [h]; rfl)]; exact hx
  · intro a o h
    unfold noBoxes
    by_cases c : (m a).isSome = true
    · rw [if_pos c]
    · rw [if_neg c]; exact W2.frG _ _ h
theorem Wd.backX {G F H G2 : Hp} {m : Mem} {x : Xn} {d : Option Addr} (W : Wd K G m F H) (e : Ex (withBoxes m G H) G2) (hf : flatD x.val = true) (r : Xr K G2 x d) : Xr K (noBoxes m G2) x d := by
  obtain ⟨dd, v, h1, h2, h3⟩ := r
  refine ⟨dd, v, h1, ?_, rp_flat hf h3⟩
  unfold noBoxes
  by_cases c : (m dd).isSome = true
  · obtain ⟨ds, hm⟩ := Option.isSome_iff_exists.mp c
    obtain ⟨_, _, xs, hx, _⟩ := W.own dd ds hm
    have : G2 dd = some (.lst xs) := e _ _ (by unfold withBoxes; rw [if_pos c]; exact hx)
    rw [this] at h2; cases h2
  · rw [if_neg c]; exact h2
/-- a promise, the boxes lent or not -/
def lent (fn : DFn) : DFn := fun ds m Q Qx => fn ds m Q Qx ∨ fn (resA m ds) (fun _ => none) (fun d _ => flatD d = true ∧ Q d m) (fun x _ => flatD x.val = true ∧ Qx x m)
theorem spD_lent {mg : Str → Option Value} {fn : DFn} {vs : List V} {H : Hp} {Q : VK} {E : XK} (h : spD K mg (lent fn) vs H Q E) : spD K mg fn vs H Q E := by
  obtain ⟨G, m, F, ds, Qd, Qx, W, r, h, hQ, hX⟩ := h
  rcases h with h | h
  · exact ⟨G, m, F, ds, Qd, Qx, W, r, h, hQ, hX⟩
  · obtain ⟨A, W1⟩ := W.lend
    refine ⟨_, _, F, _, _, _, W1, rps_res A r, h, ?_, ?_⟩
    · rintro d m' v G' H' ⟨hf, q⟩ e W' rv
      obtain ⟨e2, W2⟩ := W.back e W'
      exact hQ d m v _ H' q e2 W2 (rp_flat hf rv)
    · rintro x m' cls d G' H' ⟨hf, q⟩ hm e W' rx
      obtain ⟨e2, W2⟩ := W.back e W'
      exact hX x m cls d _ H' q hm e2 W2 (W.backX e hf rx)
theorem FnG.lent {P : Program} {w : World} {mg : Str → Option Value} {base : Heap} {CX : CXT} {k : Nat} {f : Addr} {fd : FuncData} {ps : List Str} {fn : DFn} (Fn : FnG P w K mg base CX k f fd ps (spD K mg fn)) : FnG P w K mg base CX k f fd ps (spD K mg (lent fn)) :=
  ⟨fun vs H Q E h => Fn.size vs H Q E (spD_lent h), fun A oe s H ar us vs Q E hg hr e0 hb r h => Fn.runs A oe s H ar us vs Q E hg hr e0 hb r (spD_lent h)⟩
theorem Has.lent {P : Program} {w : World} {mg : Str → Option Value} {base : Heap} {j : Nat} {x : Str} {ps : List Str} {fn : DFn} (h : Has P w K mg base j x ps fn) : Has P w K mg base j x ps (DL.lent fn) := by
  obtain ⟨f, fd, Fn, r⟩ := h
  exact ⟨f, fd, Fn.lent, r⟩
theorem HasX.lent {P : Program} {w : World} {mg : Str → Option Value} {base : Heap} {j : Nat} {x : Str} {ps : List Str} {fn : DFn} (h : HasX P w K mg base j x ps fn) : HasX P w K mg base j x ps (DL.lent fn) := by
  obtain ⟨f, fd, Fn, r⟩ := h
  exact ⟨f, fd, Fn.lent, r⟩
end
end DL
/-! XG: the facts of an exception class, one by one -/
namespace DL
open PySem L2 XO PySem.HandSPX PySem.Calls PyProof.Rows
theorem exm_self {K : Fg} {S : Addr} (h1 : PySem.W.subIn K (.ref S) (.type "BaseException") = some true) (h2 : PySem.W.isClsIn K S = true) (h3 : PySem.W.typeIn K (.ref S) = some (.type "type")) (h4 : PySem.W.subIn K (.ref S) (.ref S) = some true) : PySem.W.exmOne K (.ref S) (.ref S) = some true := by
  unfold PySem.W.exmOne PySem.W.kitCls
  rw [if_pos (by rw [h1]; rfl)]
  show (if ((PySem.W.clsIn K S).isSome && PySem.W.typeIn K (.ref S) == some (.type "type")) = true then PySem.W.subIn K (.ref S) (.ref S) else none) = some true
  rw [if_pos (by rw [show (PySem.W.clsIn K S).isSome = true from h2, h3]; rfl)]
  exact h4
theorem xc_mk {P : Program} {K : Fg} {mg : Str → Option Value} {h : Heap} (X : K.In h) (G : h.Ns mainGlobals mg) {n fld : Str} {B newId initId : String} {bmB : List Value} (D : Base B newId initId bmB) (bind : BindOk fld)
  (names : (fld == ("self" : Str)) = false ∧ (fld == ("__debug__" : Str)) = false ∧ (("self" : Str) == fld) = false ∧ (("super" : Str) == fld) = false ∧ (("__class__" : Str) == fld) = false)
  {C fI : Addr} (a1 : PySem.W.nsIn K mainGlobals n = some (some (.ref C))) (a2 : PySem.W.findIn K (.ref C) "__init__" = some (some (.ref fI)))
  {nm q : Str} {N : Addr} {bs bm : List Value} {sn : List Str} {sub : List Value} {ab : Bool} {col : Option Bool} {dd : Option Addr} {k0 k1 k2 k3 k5 : Option Value}
  (b1 : K.lookup C = some (excClassObj nm q C N bs bm true sn sub ab col dd k0 k1 k2 k3 k5 newId)) (b2 : PySem.W.excTail bmB bm = true)
  (b3 : PySem.W.findIn K (.ref C) "__setattr__" = some (some (.builtin "object.__setattr__"))) (b4 : PySem.W.findIn K (.ref C) "__getattribute__" = some (some (.builtin "BaseException.__getattribute__"))) (b5 : PySem.W.findIn K (.ref C) "__getattr__" = some none) (b6 : PySem.W.findIn K (.ref C) fld = some none)
  (b7 : PySem.W.typeIn K (.ref fI) = some (.type "function")) (b8 : PySem.W.keepIn K (.ref C) = true) (b9 : PySem.W.subIn K (.ref C) (.type "BaseException") = some true) (c1 : PySem.W.typeIn K (.ref C) = some (.type "type")) (c2 : PySem.W.hasDictIn K C = true)
  (c3 : PySem.W.subIn K (.ref C) (.type B) = some true) (c4 : PySem.W.mroIn K C (.ref C) = some true) (c5 : PySem.W.nsIn K cStatics "thirdparty.any" = some none) (c6 : PySem.W.ks_superIn K C C "__init__" = some (some (.builtin initId)))
  (c7 : PySem.W.isClsIn K C = true) (c8 : PySem.W.subIn K (.ref C) (.ref C) = some true)
  {oc : Value} {od : Option Addr} {qual : Str} {doc pm : Value} {an : Option Addr} {cda cc : Addr} {ct : Value} {osl : Array (Option Value)} {msg : Str} {j : Nat} {p1 p2 d1 d2 d3 d4 d5 d6 q1 q2 q3 q4 : Pos}
  (e1 : K.lookup fI = some ⟨oc, od, .func (PySem.W.ksFn "__init__" qual (iA fld p1 p2) (iB fld msg j d1 d2 d3 d4 d5 d6 q1 q2 q3 q4) (iS fld) .none .none doc pm an (.ref cda) ct cc), osl⟩) (e2 : PySem.W.codeIn K (.ref cda) qual = true)
  {cl : Value} {cld : Option Addr} {csl : Array (Option Value)} (e3 : K.lookup cc = some ⟨cl, cld, .cell (some (.ref C)), csl⟩) {ccl : Value} {cdd : Option Addr} {vs : Array Value} {ccs : Array (Option Value)} {file : Str} {tf : Tok} (e4 : K.lookup cda = some ⟨ccl, cdd, .fields vs, ccs⟩) (e5 : vs[2]? = some (.str file tf)) (e6 : (P.main.file == file) = true) (e7 : (d3.endLine == d5.line) = true) :
  XC P K mg n fld :=
  ⟨C, fI, B, newId, initId, bmB, D, { cls := ⟨_, _, _, _, _, _, _, _, _, _, _, _, _, _, _, b1, b2⟩, sa := b3, ga := b4, gg := b5, noN := b6, iC := a2, tC := b7, kC := b8, exC := b9, tyC := c1, hdC := c2, subB := c3, mroC := c4, statics := c5, along := c6, fn := ⟨_, _, _, _, _, _, _, _, _, _, _, _, _, _, _, _, _, _, _, _, _, _, _, _, e1, e2, ⟨_, _, _, e3⟩, _, _, _, _, _, _, e4, e5, e6, e7⟩, bind := bind, names := names }, PySem.W.mg_of X G a1, exm_self b9 c7 c1 c8⟩
theorem nox_takes {ι : Type} {Y : ι → Cx} {mg : Str → Option Value} : ∀ i, Takes (Y i) (toWX mg fun _ _ _ _ => False) := by
  rintro i u s' ⟨a, B, sI, pins, σ, H, cls, d, e, I, nb, up, sky, na, os, ag, n, hm, q⟩
  exact q.elim
/-! f() -/
def wCall0 (fn : DFn) : WE := fun ρ m Q Qx => fn [] m Q (fun _ _ => False)
theorem pd_own_call0 {P : Program} {w : World} {K : Fg} {mg : Str → Option Value} {base : Heap} {k : Nat} {N : List Str} {W : Wx} {ι : Type} {X : ι → Cx} {pos : Pos} {fn : DFn} {j : Nat} {x : Str} {p : Pos} (hX : FamG P w K mg base k N X) (h : Has P w K mg base j x [] fn) (hj : j ≤ k := by decide) (hg : ∀ i, Gl (X i) x := by intro _; rfl) (hd : (x == ("__debug__" : Str)) = false := by decide) :
    PD K W X (.Call (.Name x p) [] [] pos) (wCall0 fn) := by
  obtain ⟨f, fd, Fn, hm, hk, hb⟩ := h
  refine ⟨fun σ H Q => spD K mg fn ([] ++ []) H Q E0, fun i => ⟨fun pins s σ H Q I h => ?_⟩, ?_⟩
  · have hmi : (X i).mg x = some (.ref f) := by rw [hX.mg i]; exact hm
    have Fi : FnG (X i).prog (X i).w (X i).K (X i).mg (X i).base CX0 j f fd [] (spD K mg fn) := by rw [hX.prog i, hX.w i, hX.K i, hX.mg i, hX.base i]; exact Fn
    refine wpAny_Call_Name_kw (ld_glob I (hg i) hmi ?_ hd)
    refine PySem.W.callWith_K0 (I.kIn) (by rw [hX.K i]; exact hk) ?_
    exact Fi.goes (hX.guards i) ((hX.room i).mono hj) (by rw [hX.K i]; exact hb) .nil pass0 I .nil h
  · intro G m F H σ ρ Q Qd Qx hW hE h hXx hQ
    exact ⟨G, m, F, [], Qd, fun _ _ => False, hW, .nil, h, hQ, fun _ _ _ _ _ _ z => z.elim⟩
end DL
/-! XI: objects as data: attributes, properties, methods, isinstance -/
namespace DL
open PySem L2 XO
open Evl (Ex)
/-- the class n of the text -/
structure Kl (K : Fg) (mg : Str → Option Value) (n : Str) (C : Addr) : Prop where
  own : PySem.W.nsIn K mainGlobals n = some (some (.ref C))
  mg : mg n = some (.ref C)
  cls : Cls K C
theorem rp_lookup {K : Fg} {G : Hp} {f : Str} {d : D} : ∀ {fs : List (Str × V)} {ds : List D}, RpA K G (fs.map (·.2)) ds → ((fs.map (·.1)).zip ds).lookup f = some d → ∃ v, fs.lookup f = some v ∧ Rp K G v d
  | [], _, r, h => by
    cases r
    cases h
  | (k, v) :: fs, _, r, h => by
    cases r with
    | cons r t =>
      rename_i d0 ds0
      have h : List.lookup f ((k, d0) :: ((fs.map (·.1)).zip ds0)) = some d := h
      rw [List.lookup_cons] at h ⊢
      cases e : (f == k) with
      | true =>
        rw [e] at h
        cases h
        exact ⟨v, rfl, r⟩
      | false =>
        rw [e] at h
        exact rp_lookup t h
section
variable {P : Program} {w : World} {K : Fg} {mg : Str → Option Value} {base : Heap} {k : Nat} {N : List Str} {W : Wx} {ι : Type} {X : ι → Cx} {pos : Pos} {a b c e : Expr} {es : List Expr} {wa wb wc we : WE} {wr : WA} {sts : List Stmt} {t : WS} {ua : WT}
/-! e.f -/
def wFld (n f : Str) (we : WE) : WE := fun ρ m Q Qx => we ρ m (fun x m1 => match x with
  | .obj n' ks ds => n' = n ∧ ∃ d, (ks.zip ds).lookup f = some d ∧ Q d m1
  | _ => False) Qx
theorem pd_fld {n f : Str} {C : Addr} (hK : ∀ i, (X i).K = K) (c : Kl K mg n C) (nf : NoAttr K C f) (he : PD K W X e we) (hb : ∀ i, attributeBase e f (X i).env (eval e (X i).env) = eval e (X i).env := by intro _; rfl) : PD K W X (.Attribute e f pos) (wFld n f we) := by
  obtain ⟨te, h1, h2⟩ := he
  refine ⟨tFld K te f, fun i => by have q := pe_fld (pos := pos) (h1 i) (hb i); rw [hK i] at q; exact q, ?_⟩
  intro G m F H σ ρ Q Qd Qx hW hE h hX hQ
  refine h2 G m F H σ ρ _ _ Qx hW hE h hX ?_
  intro x m1 v G1 H1 q e1 W1 r1
  cases r1 <;> first | exact (show False from q).elim | skip
  rename_i a0 C0 dx fs n' ks vs ds hn hg hk hv rr
  obtain ⟨rfl, d, hl, q⟩ := q
  rw [c.own] at hn
  cases hn
  subst hk hv
  obtain ⟨v, l, rv⟩ := rp_lookup rr hl
  exact ⟨a0, C, dx, fs, v, rfl, W1.ex _ _ hg, c.cls, nf, l, hQ d m1 v G1 H1 q e1 W1 rv⟩
/-- a property whose getter tells the attribute f -/
structure PropAt (K : Fg) (C : Addr) (p f : Str) : Prop where
  ex : ∃ (pa g : Addr) (fd : FuncData), PropOf K C p pa g ∧ Binds K fd ["self"] [] ∧ ∀ (P : Program) (w : World) (mg : Str → Option Value) (base : Heap), FnOk P w K mg base CX0 1 g fd ["self"] (getSp C f)
theorem pd_prop {n p f : Str} {C : Addr} (hX : FamG P w K mg base k N X) (c : Kl K mg n C) (pr : PropAt K C p f) (he : PD K W X e we) (hk : 2 ≤ k := by decide) (hb : ∀ i, attributeBase e p (X i).env (eval e (X i).env) = eval e (X i).env := by intro _; rfl) : PD K W X (.Attribute e p pos) (wFld n f we) := by
  obtain ⟨te, h1, h2⟩ := he
  obtain ⟨pa, g, fd, hp, bi, fo⟩ := pr.ex
  refine ⟨tProp C (getSp C f) [] E0 te, fun i => pe_prop (h1 i) (by rw [hX.K i]; exact c.cls) (by rw [hX.K i]; exact hp) (fo _ _ _ _ |> fun z => by rw [hX.K i]; exact z) ((hX.room i).mono hk) (by rw [hX.K i]; exact bi) .nil pass0 (hb i), ?_⟩
  intro G m F H σ ρ Q Qd Qx hW hE h hX hQ
  refine h2 G m F H σ ρ _ _ Qx hW hE h hX ?_
  intro x m1 v G1 H1 q e1 W1 r1
  cases r1 <;> first | exact (show False from q).elim | skip
  rename_i a0 C0 dx fs n' ks vs ds hn hg hk hv rr
  obtain ⟨rfl, d, hl, q⟩ := q
  rw [c.own] at hn
  cases hn
  subst hk hv
  obtain ⟨v, l, rv⟩ := rp_lookup rr hl
  exact ⟨a0, dx, fs, rfl, W1.ex _ _ hg, a0, dx, fs, v, rfl, W1.ex _ _ hg, l, hQ d m1 v G1 H1 q e1 W1 rv⟩
/-! o.m(e, ..) -/
variable {f : Addr} {fd : FuncData} {ps : List Str}
theorem FnG.goesD {X : Cx} {sp : Sp} {E : XK} {pins : List (Addr × Obj)} {σ : L2.St} {H : Hp} {s : Shared} {Q : VK} {us dus : List Value} {vs dvs : List V} {k : Nat} (Fn : FnG X.prog X.w X.K X.mg X.base (L2.CX X.prog X.w) k f fd ps sp)
    (hg : X.A.guards = some []) (hr : Room k X.A) (hb : Binds X.K fd ps dus) (hd : Vals dvs dus) (hx : PassesAt (L2.CX X.prog X.w) X σ E) (I : Inv X pins σ H s) (r : Vals vs us) (h : sp (vs ++ dvs) H Q E) :
    wpAny (model X.prog X.w) X.A (call (.ref f) us) (EP X pins σ Q) X.xe s := by
  have r2 : Vals (vs ++ dvs) (us ++ dus) := r.append hd
  have hlen : (us ++ dus).length = ps.length := r2.length.symm.trans (Fn.size _ _ _ _ h)
  have goal := Fn.runs X.A X.stack s H ⟨us, []⟩ (us ++ dus) (vs ++ dvs) Q E hg hr I.env0 (hb s us I.kIn hlen) r2 h
  refine wpAny_call (codeAny_mono goal ?_)
  rintro (e | fl) s' hq
  · exact hx pins H s e s' I hq
  · cases fl <;> first | exact I.after hq | exact (hq : False).elim
/-- the method m of the class n keeps the promise fn; dds: its defaults from the end on -/
def HasM (P : Program) (w : World) (K : Fg) (mg : Str → Option Value) (base : Heap) (j : Nat) (n m : Str) (ps : List Str) (dds : List D) (fn : DFn) : Prop :=
  ∃ C f fd dvs dus, Kl K mg n C ∧ Meth K C m f ∧ FnG P w K mg base (L2.CX P w) j f fd ps (spD K mg fn) ∧ Binds K fd ps dus ∧ Vals dvs dus ∧ ∀ G, RpA K G dvs dds
def wMeth (n m : Str) (dds : List D) (fn : DFn) (wo : WE) (wr : WA) : WE := fun ρ mm Q Qx => wo ρ mm (fun x m1 => match x with
  | .obj n' ks ds => n' = n ∧ (ks.zip ds).lookup m = none ∧ ks.length = ds.length ∧ wr ρ m1 (fun as m2 => fn (.obj n' ks ds :: (as ++ dds)) m2 Q Qx) Qx
  | _ => False) Qx
theorem rp_nolookup {G : Hp} {f : Str} : ∀ {fs : List (Str × V)} {ds : List D}, (fs.map (·.1)).length = ds.length → ((fs.map (·.1)).zip ds).lookup f = none → fs.lookup f = none
  | [], _, _, _ => rfl
  | (k, v) :: fs, [], h, _ => by cases h
  | (k, v) :: fs, d :: ds, hl, h => by
    have h : List.lookup f ((k, d) :: ((fs.map (·.1)).zip ds)) = none := h
    rw [List.lookup_cons] at h ⊢
    cases e : (f == k) with
    | true => rw [e] at h; cases h
    | false =>
      rw [e] at h
      exact rp_nolookup (G := G) (by simpa using hl) h
theorem pd_meth {n m : Str} {dds : List D} {fn : DFn} {j : Nat} {o : Expr} {wo : WE} {apos : Pos} {pl : ι → Sem Bool} (hX : FamG P w K mg base k N X) (tk : ∀ i, Takes (X i) (toWX mg W)) (hh : HasM P w K mg base j n m ps dds fn) (ho : PD K W X o wo) (ha : PDA K W X (e :: es) wr) (hj : j ≤ k := by decide)
    (hst : ∀ i, starEach (e :: es) (X i).env = (false, eval e (X i).env) :: starEach es (X i).env := by intro _; rfl) (hpl : ∀ i, (backTo pos (starEach es (X i).env)).any (·.1) = false := by intro _; rfl)
    (ht : ∀ i, eval (.Call (.Attribute o m apos) (e :: es) [] pos) (X i).env = (do
      let ov ← eval o (X i).env
      standAt apos.atName
      let (f, first) ← holding [ov] (getMethod ov m (pl i))
      callWith pos f first (backTo pos (starEach (e :: es) (X i).env)) (backToKw pos (keywordEach [] (X i).env))) := by intro _; rfl) :
    PD K W X (.Call (.Attribute o m apos) (e :: es) [] pos) (wMeth n m dds fn wo wr) := by
  obtain ⟨C, f, fd, dvs, dus, c, hm, Fn, hb, hd, hdd⟩ := hh
  obtain ⟨to, o1, o2⟩ := ho
  obtain ⟨ta, a1, a2⟩ := ha
  refine ⟨fun σ H Q => to σ H fun x H1 => ∃ a dx fs, x = .ref a ∧ H1 a = some (.ins C dx fs) ∧ fs.lookup m = none ∧ ta σ H1 fun vs H2 => spD K mg fn ((.ref a :: vs) ++ dvs) H2 Q (fun cls d H' => toWX mg W cls d σ H'), fun i => ⟨fun pins s σ H Q I h => ?_⟩, ?_⟩
  · have Fi : FnG (X i).prog (X i).w (X i).K (X i).mg (X i).base (L2.CX (X i).prog (X i).w) j f fd ps (spD K mg fn) := by rw [hX.prog i, hX.w i, hX.K i, hX.mg i, hX.base i]; exact Fn
    have ci : Cls (X i).K C := by rw [hX.K i]; exact c.cls
    have mi : Meth (X i).K C m f := by rw [hX.K i]; exact hm
    refine PySem.W.methodCall_KW (pl := pl i) (thn ((o1 i).run pins s σ H _ I h) fun u s1 ⟨x, H1, I1, rx, a, dx, fs, ex, ea, l, q⟩ => ?_) (ht i)
    subst ex
    obtain rfl : u = Value.ref a := rx
    refine getmeth_ok I1 ea ci mi l ?_
    refine PySem.W.callWith_K (first := [.ref a]) (h₀ := (X i).base) I.ok.mod.kin mi.kp (thn ((a1 i).run pos pins s1 σ H1 _ I1 q) fun us s2 ⟨vs, H2, I2, r, q2⟩ => ⟨I2.kIn, ?_⟩) (hst i) (hpl i)
    exact Fi.goesD (us := .ref a :: us) (vs := .ref a :: vs) (hX.guards i) ((hX.room i).mono hj) (by rw [hX.K i]; exact hb) hd (passAt (tk i) σ) I2 (.cons rfl r) q2
  · intro G m0 F H σ ρ Q Qd Qx hW hE h hXx hQ
    refine o2 G m0 F H σ ρ _ _ Qx hW hE h hXx ?_
    intro x m1 v G1 H1 q e1 W1 r1
    have r1' := r1
    cases r1 <;> first | exact (show False from q).elim | skip
    rename_i a0 C0 dx fs n' ks vs ds hn hg hk hv rr
    obtain ⟨rfl, hl, hlen, q⟩ := q
    rw [c.own] at hn
    cases hn
    subst hk hv
    refine ⟨a0, dx, fs, rfl, W1.ex _ _ hg, rp_nolookup (G := G) hlen hl, ?_⟩
    refine a2 G1 m1 F H1 σ ρ _ _ Qx W1 (hE.mono e1) q (hXx.mono e1) ?_
    intro as m2 vs2 G2 H2 q2 e2 W2 r2
    refine ⟨G2, m2, F, _, Qd, Qx, W2, (RpA.cons (r1'.mono e2) r2).app (hdd G2), q2, ?_, ?_⟩
    · intro d m' v G' H' z e
      exact hQ d m' v G' H' z ((e1.trans e2).trans e)
    · intro x m' cls d G' H' z hmx e W' r
      exact ⟨x.cls, hmx, hXx x m' d σ G' H' z ((e1.trans e2).trans e) W' r⟩
/-! isinstance(e, n), n a class of the text -/
structure KlI (K : Fg) (mg : Str → Option Value) (n : Str) (C : Addr) : Prop extends Kl K mg n C where
  met : PySem.W.findIn K (.ref C) "__class__" = some (some (.builtin "object.__class__")) ∧ PySem.W.specialIn K (.builtin "object.__class__") "__get__" = some (some (.builtin "getset_descriptor.__get__")) ∧ PySem.W.takesIn K (.builtin "object.__class__") = some true ∧ PySem.W.mroIn K C (.type "object") = some true
  no : ∀ t : String, t = "NoneType" ∨ t = "bool" ∨ t = "int" ∨ t = "str" ∨ t = "list" ∨ t = "tuple" ∨ t = "dict" → PySem.W.kitOne K (.type t) (.ref C) = some false
def wIsC (n : Str) (we : WE) : WE := fun ρ m Q Qx => we ρ m (fun x m1 => match x with
  | .obj n' _ _ => n' = n ∧ Q (.bl true) m1
  | x => typedM m1 x = true ∧ Q (.bl false) m1) Qx
theorem ty_names {m : Mem} {x : D} (h : typedM m x = true) : tyD x = "NoneType" ∨ tyD x = "bool" ∨ tyD x = "int" ∨ tyD x = "str" ∨ tyD x = "list" ∨ tyD x = "tuple" ∨ tyD x = "dict" := by
  cases x <;> first | (cases h; done) | (simp only [tyD]; decide)
theorem tyM_has {G F H : Hp} {m : Mem} {v : V} {d : D} (hW : Wd K G m F H) (r : Rp K G v d) (ht : typedM m d = true) : TyX K H v (.type (tyD d)) := by
  cases d with
  | box a =>
    cases r
    obtain ⟨ds, hm⟩ := Option.isSome_iff_exists.mp ht
    obtain ⟨_, _, xs, hx, _⟩ := hW.own a ds hm
    exact .base (.lst hx)
  | _ => exact ty_of hW.ex r (by exact ht)
theorem kit_same {C : Addr} : PySem.W.kitOne K (.ref C) (.ref C) = some true := by
  unfold PySem.W.kitOne
  exact if_pos (by simp)
theorem pd_isiC {n : Str} {C : Addr} {p p2 : Pos} (hK : ∀ i, (X i).K = K) (hX : ∀ i, (X i).mg = mg) (hm : mg "isinstance" = none) (hi : bootBuiltins "isinstance" = some (.builtin "isinstance")) (c : KlI K mg n C) (he : PD K W X e we) (hg : ∀ i, Gl (X i) "isinstance" := by intro _; rfl) (g1 : ∀ i, Gl (X i) n := by intro _; rfl) (hd : (n == ("__debug__" : Str)) = false := by decide)
    (hs : ∀ i, starEach [e, .Name n p2] (X i).env = (false, eval e (X i).env) :: starEach [.Name n p2] (X i).env := by intro _; rfl) (hpl : ∀ i, (backTo pos (starEach [.Name n p2] (X i).env)).any (·.1) = false := by intro _; rfl) :
    PD K W X (.Call (.Name "isinstance" p) [e, .Name n p2] [] pos) (wIsC n we) := by
  obtain ⟨t, h1, h2⟩ := he
  refine ⟨tCB (rIsi K) (tCons t (tCons (tC (.ref C)) tNil)), fun i => pe_callB (by have q := call_isi (X := X i); rw [hK i] at q; exact q) (hg i) (by rw [hX i]; exact hm) hi
    (L2.pa_cons (h1 i) (L2.pa_cons (pe_glob (v := V.ref C) (g1 i) (by rw [hX i]; exact c.mg) rfl hd) L2.pa_nil) (hs i)) (by decide) (by decide) (hs i) (hpl i), ?_⟩
  intro G m F H σ ρ Q Qd Qx hW hE h hX hQ
  refine h2 G m F H σ ρ _ _ Qx hW hE h hX ?_
  intro d m1 x G1 H1 q e1 W1 r1
  have other : typedM m1 d = true → Qd (.bl false) m1 → rIsi K [x, .ref C] H1 Q := fun ht q =>
    ⟨x, .ref C, _, .ref C, false, rfl, .own C, tyM_has W1 r1 ht, c.no _ (ty_names ht), hQ _ _ _ _ _ q e1 W1 (.bl false)⟩
  cases d with
  | obj n' ks ds =>
    obtain ⟨rfl, q⟩ := q
    cases r1 with
    | obj hn hg hk hv rr =>
      rw [c.own] at hn
      cases hn
      exact ⟨_, .ref C, _, .ref C, true, rfl, .own C, .base (.ins (W1.ex _ _ hg) c.cls c.met.1 c.met.2.1 c.met.2.2.1 c.met.2.2.2), kit_same, hQ _ _ _ _ _ q e1 W1 (.bl true)⟩
  | _ => exact other q.1 q.2
end
end DL
/-! XJ: objects made: __init__, C(e, k = e, ..) -/
namespace DL
open PySem L2 XO
open Evl (Ex)
section
variable {P : Program} {w : World} {K : Fg} {mg : Str → Option Value} {base : Heap} {k : Nat} {N : List Str} {W : Wx} {ι : Type} {X : ι → Cx} {f : Addr} {fd : FuncData} {ps : List Str} {pos : Pos}
/-- a def or method, defaults or not -/
structure FunV (K : Fg) (x qual : Str) (st : Stmt) (f : Addr) (fd : FuncData) : Prop where
  ex : ∃ (oc : Value) (od : Option Addr) (dV kV doc pm : Value) (an : Option Addr) (cdv ct : Value) (osl : Array (Option Value)),
    fd = PySem.W.fnOf x qual (defArgs st) (defBody st) (defScope st) dV kV doc pm an cdv ct ∧ K.lookup f = some ⟨oc, od, .func fd, osl⟩ ∧ PySem.W.codeIn K cdv qual = true
theorem Fun.toV {x qual : Str} {st : Stmt} {f : Addr} {fd : FuncData} (h : Fun K x qual st f fd) : FunV K x qual st f fd := by
  obtain ⟨oc, od, kV, doc, pm, an, cdv, ct, osl, e1, e2, e3⟩ := h.ex
  exact ⟨oc, od, .none, kV, doc, pm, an, cdv, ct, osl, e1, e2, e3⟩
/-- a def of any promise: its body's reading -/
theorem fn_coreV {x qual : Str} {st : Stmt} {sp : Sp} (Fu : FunV K x qual st f fd) (S : FnScope N ps (defScope st)) (size : ∀ vs H Q E, sp vs H Q E → vs.length = ps.length)
    (hb : ∀ (cdv : Value) (A : Around) (oe : List Env) (s : Shared) (H : Hp) (E : XK), FamG P w K mg base k N (fun _ : Unit => cxOf (L2.CX P w) P w K mg base N qual (defScope st) f cdv A oe s H E) →
      (∀ i, Takes ((fun _ : Unit => cxOf (L2.CX P w) P w K mg base N qual (defScope st) f cdv A oe s H E) i) (toWX mg (byName mg fun cls d _ H => E cls d H))) →
      ∃ t : TS, PSs (cxOf (L2.CX P w) P w K mg base N qual (defScope st) f cdv A oe s H E) (defBody st) t ∧ ∀ vs Q, sp vs H Q E → t { nx := fun _ H' => Q .non H', rt := Q } (start N vs) H) :
    FnG P w K mg base (L2.CX P w) (k + 1) f fd ps sp := by
  obtain ⟨oc, od, dV, kV, doc, pm, an, cdv, ct, osl, rfl, lk, hcd⟩ := Fu.ex
  refine ⟨size, ?_⟩
  intro A oe s H ar us vs Q E hgd hrm e0 hbind r hsp
  have hl := size _ _ _ _ hsp
  have old : ∀ b o, base.get? b = some o → s.heap.get? b = some o := fun b o e => (e0.bs b o e).1
  have KX : K.In s.heap := e0.mod.kin.keeps old
  have lim : s.heap.NoLimit := e0.mod.nolimit.keeps old
  have kinds : ∀ y ∈ ps.zip us, (defScope st).names.lookup y.1 = some .local ∨ ((defScope st).names.lookup y.1 = some .cell ∧ ((cellsFrom (s.heap.objs.size + 1) (defScope st).names []).lookup y.1).isSome = true) := by
    rintro ⟨n, v⟩ hy
    rcases S.par n (List.of_mem_zip hy).1 with q | q
    · exact Or.inl q
    · exact Or.inr ⟨q, PySem.W.cellsFrom_some _ _ _ (Or.inl q)⟩
  refine codeAny_call_function hrm.depth (KX _ _ lk) rfl S.co S.gen rfl (PySem.W.codeRec_of KX hcd) (hbind _ _ _ _ ?_)
  refine wpAny_newFunctionEnv_cells S.kind kinds ?_
  rintro env rfl s1 nx
  refine ⟨lim.keeps nx.toInCall.keep, codeAny_func ?_⟩
  have fam : FamG P w K mg base k N (fun _ : Unit => cxOf (L2.CX P w) P w K mg base N qual (defScope st) f cdv A oe s H E) :=
    { prog := fun _ => rfl, w := fun _ => rfl, K := fun _ => rfl, mg := fun _ => rfl, base := fun _ => rfl, hN := fun _ => rfl, calm := fun _ => rfl, room := fun _ => hrm.deeper _, nd := S.nd, guards := fun _ => hgd }
  obtain ⟨t, h1, h2⟩ := hb cdv A oe s H E fam (fun _ => takes_by (takes_of rfl rfl rfl rfl))
  have I : Inv (cxOf (L2.CX P w) P w K mg base N qual (defScope st) f cdv A oe s H E) [] (start N vs) H s1 := inv_start S hrm.hd e0 hl r nx
  refine wpAny_mono (h1.run [] s1 (start N vs) H _ I (h2 vs Q hsp)) ?_ fun e s' z => z
  have fin : ∀ {s' : Shared} {σ' : L2.St} {H' : Hp} {v : V} {u : Value}, Inv (cxOf (L2.CX P w) P w K mg base N qual (defScope st) f cdv A oe s H E) [] σ' H' s' → RelV v u → Q v H' → CE oe P w H s Q u s' := by
    intro s' σ' H' v u J rv q
    exact ⟨v, H', J.os, J.bare, J.base, J.hok, rv, q⟩
  intro fl s' hs
  cases fl
  case ret u =>
    obtain ⟨v, σ', H', J, rv, q⟩ := hs
    exact fin J rv q
  case next =>
    obtain ⟨σ', H', J, q⟩ := hs
    exact fin (v := V.non) (u := Value.none) J rfl q
  case brk =>
    obtain ⟨_, _, _, q⟩ := hs
    exact (q : False).elim
  case cont =>
    obtain ⟨_, _, _, q⟩ := hs
    exact (q : False).elim
theorem fn_core {x qual : Str} {st : Stmt} {sp : Sp} (Fu : Fun K x qual st f fd) (S : FnScope N ps (defScope st)) (size : ∀ vs H Q E, sp vs H Q E → vs.length = ps.length)
    (hb : ∀ (cdv : Value) (A : Around) (oe : List Env) (s : Shared) (H : Hp) (E : XK), FamG P w K mg base k N (fun _ : Unit => cxOf (L2.CX P w) P w K mg base N qual (defScope st) f cdv A oe s H E) →
      (∀ i, Takes ((fun _ : Unit => cxOf (L2.CX P w) P w K mg base N qual (defScope st) f cdv A oe s H E) i) (toWX mg (byName mg fun cls d _ H => E cls d H))) →
      ∃ t : TS, PSs (cxOf (L2.CX P w) P w K mg base N qual (defScope st) f cdv A oe s H E) (defBody st) t ∧ ∀ vs Q, sp vs H Q E → t { nx := fun _ H' => Q .non H', rt := Q } (start N vs) H) :
    FnG P w K mg base (L2.CX P w) (k + 1) f fd ps sp := fn_coreV (Fun.toV Fu) S size hb
/-- a def or method that may raise, defaults or not -/
theorem fn_okV {x qual : Str} {st : Stmt} {fn : DFn} {wb : WS} (Fu : FunV K x qual st f fd) (S : FnScope N ps (defScope st)) (hlen : ∀ ds m Q Qx, fn ds m Q Qx → ds.length = ps.length)
    (hb : ∀ (cdv : Value) (A : Around) (oe : List Env) (s : Shared) (H : Hp) (E : XK), FamG P w K mg base k N (fun _ : Unit => cxOf (L2.CX P w) P w K mg base N qual (defScope st) f cdv A oe s H E) →
      (∀ i, Takes ((fun _ : Unit => cxOf (L2.CX P w) P w K mg base N qual (defScope st) f cdv A oe s H E) i) (toWX mg (byName mg fun cls d _ H => E cls d H))) →
      PDB K (byName mg fun cls d _ H => E cls d H) (fun _ : Unit => cxOf (L2.CX P w) P w K mg base N qual (defScope st) f cdv A oe s H E) (defBody st) wb)
    (hr : ∀ ds m Qd Qx, fn ds m Qd Qx → wb { nx := fun _ m' => Qd .non m', rt := Qd, ex := Qx } (ds.map some ++ List.replicate (N.length - ds.length) none) m) :
    FnG P w K mg base (L2.CX P w) (k + 1) f fd ps (spD K mg fn) := by
  refine fn_coreV Fu S ?_ fun cdv A oe s H E fam tk => ?_
  · rintro vs H Q E ⟨G, m, F, ds, Qd, Qx, _, r, hf, _⟩
    exact r.len.trans (hlen _ _ _ _ hf)
  · obtain ⟨t, h1, h2⟩ := hb cdv A oe s H E fam tk
    refine ⟨t, h1 (), ?_⟩
    rintro vs Q ⟨G, m, F, ds, Qd, Qx, hW, rr, hf, hQ, hQx⟩
    refine h2 G m F H _ _ _ { nx := fun _ m' => Qd .non m', rt := Qd, ex := Qx } hW ?_ (hr ds m Qd Qx hf) ⟨?_, hQ, fun _ _ _ _ _ z => z.elim, fun _ _ _ _ _ z => z.elim, ?_⟩
    · unfold L2.start
      rw [rr.len]
      exact En.start _ rr
    · intro ρ' m' σ' G' H' q e W' _
      exact hQ _ m' _ G' H' q e W' .non
    · intro x m' d σ' G' H' z e W' r cls hc
      exact hQx x m' cls d G' H' z hc e W' r
/-! the body of an __init__: statements, self.f = e -/
abbrev WZ := List D → (List D → Mem → Prop) → XQ → En0 → Mem → Prop
def LiftZ (K : Fg) (W : Wx) (C : Addr) (ks ks' : List Str) (t : TS) (z : WZ) : Prop := ∀ G m F H σ ρ (x dx : Addr) (fs : List (Str × V)) (ds : List D) (S : Ends) (E : List D → Mem → Prop) (Qx : XQ), F x = none → Wd K G m (upd F x (.ins C dx fs)) H → En K G σ ρ → ρ[0]? = some (some (.box x)) →
  fs.map (·.1) = ks → RpA K G (fs.map (·.2)) ds → z ds E Qx ρ m → FitX K W G F Qx →
  (∀ fs' ds' m' σ' G' H', E ds' m' → Ex G G' → Wd K G' m' (upd F x (.ins C dx fs')) H' → fs'.map (·.1) = ks' → RpA K G' (fs'.map (·.2)) ds' → S.nx σ' H') → t S σ H
def PDZ (K : Fg) (W : Wx) {ι : Type} (X : ι → Cx) (C : Addr) (ks ks' : List Str) (b : List Stmt) (z : WZ) : Prop := ∃ t, (∀ i, PSs (X i) b t) ∧ LiftZ K W C ks ks' t z
def zNil : WZ := fun ds E _ _ m => E ds m
def zCons (u : WS) (z : WZ) : WZ := fun ds E Qx ρ m => u { nx := fun ρ' m' => ρ'[0]? = ρ[0]? ∧ z ds E Qx ρ' m', rt := fun _ _ => False, ex := Qx } ρ m
def zSet (v : WE) (z : WZ) : WZ := fun ds E Qx ρ m => v ρ m (fun d m' => z (ds ++ [d]) E Qx ρ m') Qx
variable {C : Addr} {ks ks' : List Str} {sts : List Stmt} {st : Stmt} {u : WS} {z : WZ}
theorem pz_nil : PDZ K W X C ks ks [] zNil := ⟨_, fun _ => pss_nil, fun G m F H σ ρ x dx fs ds S E Qx hF hW hE h0 hk hr h hX hN => hN fs ds m σ G H h (Ex.refl G) hW hk hr⟩
theorem pz_cons (h1 : PDS K W X st u) (h2 : PDZ K W X C ks ks' sts z) : PDZ K W X C ks ks' (st :: sts) (zCons u z) := by
  obtain ⟨t1, a1, a2⟩ := h1
  obtain ⟨t2, b1, b2⟩ := h2
  refine ⟨_, fun i => pss_cons (a1 i) (b1 i), ?_⟩
  intro G m F H σ ρ x dx fs ds S E Qx hF hW hE h0 hk hr h hX hN
  refine a2 G m (upd F x (.ins C dx fs)) H σ ρ _ _ hW hE h ⟨?_, fun _ _ _ _ _ z => z.elim, fun _ _ _ _ _ z => z.elim, fun _ _ _ _ _ z => z.elim, hX.frame hF⟩
  rintro ρ' m' σ' G' H' ⟨e0, q⟩ e W' E'
  refine b2 G' m' F H' σ' ρ' x dx fs ds S E Qx hF W' E' (e0.trans h0) hk (hr.mono e) q (hX.mono e) ?_
  intro fs' ds' m2 σ2 G2 H2 q2 e2
  exact hN fs' ds' m2 σ2 G2 H2 q2 (e.trans e2)
theorem putF_new {f : Str} {v : V} : ∀ {fs : List (Str × V)}, f ∉ fs.map (·.1) → putF f v fs = fs ++ [(f, v)]
  | [], _ => rfl
  | (g, x) :: r, h => by
    have hg : ¬ g = f := fun e => h (by rw [List.map_cons, e]; exact List.mem_cons_self)
    show (if g = f then (g, v) :: r else (g, x) :: putF f v r) = _
    rw [if_neg hg, putF_new fun e => h (by rw [List.map_cons]; exact List.mem_cons_of_mem _ e)]
    rfl
theorem pz_set {self f : Str} {p p' : Pos} {value : Expr} {wv : WE} (hK : ∀ i, (X i).K = K) (c : Cls K C) (nf : NoAttr K C f) (hN : ∀ j, (X j).N = N) (hv : PD K W X value wv) (r : PDZ K W X C (ks ++ [f]) ks' sts z) (hf : f ∉ ks := by decide) (hl : ks.length < 1000 := by decide) (h0 : N[0]? = some self := by rfl)
    (vis : ∀ j, Vis (X j).env.scope self := by intro _; first | exact Or.inl rfl | exact Or.inr (Or.inl rfl) | exact Or.inr (Or.inr rfl)) (hd : (self == ("__debug__" : Str)) = false := by decide) (hcd : (self == ("__classdict__" : Str)) = false := by decide)
    (hs : ∀ i, swapsWith value (some (.Attribute (.Name self p) f p')) pos.line (X i).env = pure false := by intro _; rfl) : PDZ K W X C ks ks' (.Assign [.Attribute (.Name self p) f p'] value pos :: sts) (zSet wv z) := by
  obtain ⟨tv, v1, v2⟩ := hv
  obtain ⟨t2, b1, b2⟩ := r
  refine ⟨_, fun i => pss_cons (t := sFld K (tVar 0) tv f) (by have q := ps_fld (pe_var (X := X i) (i := 0) (pos := p) (by rw [hN i]; exact h0) (vis i) hd hcd) (v1 i) (hs i); rw [hK i] at q; exact q) (b1 i), ?_⟩
  intro G m F H σ ρ x dx fs ds S E Qx hF hW hE hx hk hr h hX hNx
  refine v2 G m (upd F x (.ins C dx fs)) H σ ρ _ _ _ hW hE h (hX.frame hF) ?_
  intro d m1 y G1 H1 q e1 W1 ry
  obtain ⟨u0, hu, ru⟩ := hE.get hx
  cases ru
  refine ⟨.ref x, hu, x, C, dx, fs, rfl, W1.fr _ _ upd_same, c, nf, ?_, ?_⟩
  · rw [← hk, List.length_map] at hl
    exact hl
  · rw [putF_new (by rw [hk]; exact hf)]
    refine b2 G1 m1 F _ σ ρ x dx (fs ++ [(f, y)]) (ds ++ [d]) S E Qx hF ?_ (hE.mono e1) hx ?_ ?_ q (hX.mono e1) ?_
    · have := W1.reframe (HO.ins C dx (fs ++ [(f, y)]))
      exact this
    · rw [List.map_append, hk]; rfl
    · rw [List.map_append]
      exact (hr.mono e1).app (.cons ry .nil)
    · intro fs' ds' m2 σ2 G2 H2 q2 e2
      exact hNx fs' ds' m2 σ2 G2 H2 q2 (e1.trans e2)
/-! an __init__ keeps its promise -/
def spInit (K : Fg) (mg : Str → Option Value) (C : Addr) (fn : DFn) : Sp := fun vs H Q E => ∃ x dx H0 vs0 G m F ds Qd Qx, vs = .ref x :: vs0 ∧ H = upd (upd H0 dx (.own x)) x (.ins C dx []) ∧ H0 x = none ∧ H0 dx = none ∧ dx ≠ x ∧ Wd K G m F H0 ∧ RpA K G vs0 ds ∧ fn ds m Qd Qx ∧
  (∀ d m' G' H', Qd d m' → Ex G G' → Wd K G' m' F H' → Rp K G' (.ref x) d → Q .non H') ∧ FitXc K mg G F Qx E
theorem init_ok {x qual n : Str} {st : Stmt} {fn : DFn} (Fu : Fun K x qual st f fd) (S : FnScope N ps (defScope st)) (c : Kl K mg n C) (hlen : ∀ ds m Q Qx, fn ds m Q Qx → ds.length + 1 = ps.length)
    (hb : ∀ (cdv : Value) (A : Around) (oe : List Env) (s : Shared) (H : Hp) (E : XK), FamG P w K mg base k N (fun _ : Unit => cxOf (L2.CX P w) P w K mg base N qual (defScope st) f cdv A oe s H E) →
      (∀ i, Takes ((fun _ : Unit => cxOf (L2.CX P w) P w K mg base N qual (defScope st) f cdv A oe s H E) i) (toWX mg (byName mg fun cls d _ H => E cls d H))) →
      PDZ K (byName mg fun cls d _ H => E cls d H) (fun _ : Unit => cxOf (L2.CX P w) P w K mg base N qual (defScope st) f cdv A oe s H E) C [] ks (defBody st) z)
    (hr : ∀ ds m Qd Qx, fn ds m Qd Qx → ∀ a, z [] (fun ds' m' => Qd (.obj n ks ds') m') Qx ((D.box a :: ds).map some ++ List.replicate (N.length - (ds.length + 1)) none) m) :
    FnG P w K mg base (L2.CX P w) (k + 1) f fd ps (spInit K mg C fn) := by
  refine fn_core Fu S ?_ ?_
  · rintro vs H Q E ⟨x, dx, H0, vs0, G, m, F, ds, Qd, Qx, rfl, rfl, _, _, _, _, r, h, _, _⟩
    rw [List.length_cons, r.len]
    exact hlen _ _ _ _ h
  · intro cdv A oe s H E fam tk
    obtain ⟨t, h1, h2⟩ := hb cdv A oe s H E fam tk
    refine ⟨t, h1 (), ?_⟩
    rintro vs Q ⟨x, dx, H0, vs0, G, m, F, ds, Qd, Qx, rfl, rfl, hx, hdx, hne, W0, r, h, hQ, hX⟩
    have Fx : F x = none := by
      cases e : F x with
      | none => rfl
      | some o => rw [W0.fr _ _ e] at hx; cases hx
    have Fd : F dx = none := by
      cases e : F dx with
      | none => rfl
      | some o => rw [W0.fr _ _ e] at hdx; cases hdx
    have W1 := W0.frame hdx (.own x)
    have hx1 : upd H0 dx (.own x) x = none := by rw [upd_ne (Ne.symm hne)]; exact hx
    have W2 := W1.frame hx1 (.ins C dx [])
    have Fx1 : upd F dx (.own x) x = none := by rw [upd_ne (Ne.symm hne)]; exact Fx
    have fx : FitX K (byName mg fun cls d _ H => E cls d H) G (upd F dx (.own x)) Qx := by
      refine FitX.frame ?_ Fd
      intro y m' d σ' G' H' q e W' ry cls hc
      exact hX y m' cls d G' H' q hc e W' ry
    refine h2 G m (upd F dx (.own x)) _ _ ((D.box x :: ds).map some ++ List.replicate (N.length - (ds.length + 1)) none) x dx [] [] _ _ Qx Fx1 W2 ?_ rfl rfl .nil (hr ds m Qd Qx h x) fx ?_
    · unfold L2.start
      have := En.start (K := K) (G := G) (N.length - (V.ref x :: vs0).length) (RpA.cons (.box x) r)
      rw [List.length_cons, r.len] at this
      rw [List.length_cons, r.len]
      exact this
    · intro fs' ds' m' σ' G' H' q e W' hk hr'
      obtain ⟨e2, W3⟩ := W'.adopt Fx1
      exact hQ _ m' _ H' q (e.trans e2) (W3.unframe Fd) (.obj c.own upd_same hk rfl (hr'.mono e2))
/-! C(e, .., k = e, ..) -/
theorem run_makeG {X : Cx} {sp : Sp} {E : XK} {nn j : Nat} {g : List Value → List Value → List Value} {gV : List V → List V → List V} {kn : List Str} {pins : List (Addr × Obj)} {σ : L2.St} {H : Hp} {s : Shared} {Q : VK} {us ws : List Value} {vs zs : List V} (M : Mk X.K C f) (Fn : FnG X.prog X.w X.K X.mg X.base (L2.CX X.prog X.w) j f fd ps sp)
    (hgd : X.A.guards = some []) (hr : Room (j + 1) X.A) (hb : KBn X.K fd ps (nn + 1) kn g gV) (hx : PassesAt (L2.CX X.prog X.w) X σ E)
    (I : Inv X pins σ H s) (r : Vals vs us) (rz : Vals zs ws) (l1 : vs.length = nn) (l2 : zs.length = kn.length)
    (h : ∀ x dx, H x = none → H dx = none → dx ≠ x → sp (gV (.ref x :: vs) zs) (upd (upd H dx (.own x)) x (.ins C dx [])) (fun v H2 => v = .non ∧ Q (.ref x) H2) E) :
    wpAny (model X.prog X.w) X.A (call (.ref C) us (kn.zip ws)) (EP X pins σ Q) X.xe s := by
  have fx : H (s.heap.objs.size + 1) = none := I.hok.fresh (Nat.le_add_right _ 1)
  have asked := h _ _ fx (I.hok.fresh (Nat.le_refl s.heap.objs.size)) (Nat.ne_of_lt (Nat.lt_add_one s.heap.objs.size))
  have J := I.made (C := C)
  have self1 : Vals (V.ref (s.heap.objs.size + 1) :: vs) (Value.ref (s.heap.objs.size + 1) :: us) := .cons rfl r
  have many : (Value.ref (s.heap.objs.size + 1) :: us).length = nn + 1 := congrArg (· + 1) (r.length.symm.trans l1)
  have body := Fn.runs _ X.stack _ _ ⟨Value.ref (s.heap.objs.size + 1) :: us, kn.zip ws⟩ (g (Value.ref (s.heap.objs.size + 1) :: us) ws) _ _ E (by exact hgd) (hr.make C us (kn.zip ws)) (J.env0.make C us (kn.zip ws)) (hb.to _ _ ws J.kIn many (rz.length.symm.trans l2)) (hb.rel self1 rz) asked
  refine wpAny_call (make_map (f := f) I.kIn M.makes M.init (beq_iff_eq.mp M.fn) (codeAny_mono body ?_))
  rintro (er | fl) s2 left
  · exact hx pins _ _ er s2 J left
  · cases fl <;> first | exact (left : False).elim | skip
    obtain ⟨v, H2, J2, rv, ev, told⟩ := J.after left
    subst ev
    exact ⟨rv, ⟨V.ref (s.heap.objs.size + 1), H2, J2, rfl, told⟩⟩
section
variable {kws : List Keyword} {wk : WA} {e : Expr} {es : List Expr} {we : WE} {wr : WA}
def PDK (K : Fg) (W : Wx) {ι : Type} (X : ι → Cx) (kws : List Keyword) (w : WA) : Prop := ∃ t, (∀ i, PK (X i) kws t) ∧ LiftA K W t w
theorem pdk_nil : PDK K W X [] wNil := ⟨_, fun _ => L2.pk_nil, fun G m F H σ ρ Q Qd Qx hW hE h hX hQ => hQ [] m [] G H h (Ex.refl G) hW .nil⟩
theorem pdk_cons {nm : Option Str} {kpos : Pos} (ha : PD K W X e we) (hr : PDK K W X kws wk) : PDK K W X (⟨nm, e, kpos⟩ :: kws) (wCons we wk) := by
  obtain ⟨ta, a1, a2⟩ := ha
  obtain ⟨tr, b1, b2⟩ := hr
  refine ⟨_, fun i => L2.pk_cons (a1 i) (b1 i), ?_⟩
  intro G m F H σ ρ Q Qd Qx hW hE h hX hQ
  refine a2 G m F H σ ρ _ _ Qx hW hE h hX ?_
  intro d m1 v G1 H1 q e1 W1 r1
  refine b2 G1 m1 F H1 σ ρ _ _ Qx W1 (hE.mono e1) q (hX.mono e1) ?_
  intro ds m2 vs G2 H2 q2 e2 W2 r2
  exact hQ _ m2 _ G2 H2 q2 (e1.trans e2) W2 (.cons (r1.mono e2) r2)
/-- the class n makes objects as fn tells: nn values by position, the keywords kn; gD: all its arguments -/
def HasC (P : Program) (w : World) (K : Fg) (mg : Str → Option Value) (base : Heap) (j : Nat) (n : Str) (ps : List Str) (nn : Nat) (kn : List Str) (gD : List D → List D → List D) (fn : DFn) : Prop :=
  ∃ C f fd g gV, Kl K mg n C ∧ Mk K C f ∧ FnG P w K mg base (L2.CX P w) j f fd ps (spInit K mg C fn) ∧ KBn K fd ps (nn + 1) kn g gV ∧
    ∀ (G : Hp) (x : Addr) (vs zs : List V) (ds es : List D), RpA K G vs ds → RpA K G zs es → vs.length = nn → zs.length = kn.length → ∃ rest, gV (.ref x :: vs) zs = .ref x :: rest ∧ RpA K G rest (gD ds es)
def wMake (nn kk : Nat) (gD : List D → List D → List D) (fn : DFn) (wr wk : WA) : WE := fun ρ m Q Qx => wr ρ m (fun ds m1 => wk ρ m1 (fun es m2 => ds.length = nn ∧ es.length = kk ∧ fn (gD ds es) m2 Q Qx) Qx) Qx
theorem pd_make {n : Str} {nn j : Nat} {kn : List Str} {gD : List D → List D → List D} {fn : DFn} {p : Pos} (hX : FamG P w K mg base k N X) (tk : ∀ i, Takes (X i) (toWX mg W)) (hh : HasC P w K mg base j n ps nn kn gD fn) (ha : PDA K W X (e :: es) wr) (hkw : PDK K W X kws wk) (hj : j + 1 ≤ k := by decide)
    (hg : ∀ i, Gl (X i) n := by intro _; rfl) (hall : ∀ i, (backToKw pos (keywordEach kws (X i).env)).all (·.1.isSome) = true := by intro _; rfl) (hks : ∀ i, (backToKw pos (keywordEach kws (X i).env)).filterMap (·.1) = kn := by intro _; rfl) (hdb : (n == ("__debug__" : Str)) = false := by decide)
    (he : ∀ i, starEach (e :: es) (X i).env = (false, eval e (X i).env) :: starEach es (X i).env := by intro _; rfl) (hpl : ∀ i, ((backTo pos (starEach (e :: es) (X i).env)).any (·.1) || (backToKw pos (keywordEach kws (X i).env)).any (·.1.isNone)) = false := by intro _; rfl) :
    PD K W X (.Call (.Name n p) (e :: es) kws pos) (wMake nn kn.length gD fn wr wk) := by
  obtain ⟨C, f, fd, g, gV, c, M, Fn, hb, hgv⟩ := hh
  obtain ⟨t, a1, a2⟩ := ha
  obtain ⟨tk', k1, k2⟩ := hkw
  refine ⟨tMakeK C nn kn.length (spInit K mg C fn) gV (fun cls d H' => False) t tk' |> fun _ => fun σ H Q => tMakeK C nn kn.length (spInit K mg C fn) gV (fun cls d H' => toWX mg W cls d σ H') t tk' σ H Q, fun i => ⟨fun pins s σ H Q I h => ?_⟩, ?_⟩
  · have Fi : FnG (X i).prog (X i).w (X i).K (X i).mg (X i).base (L2.CX (X i).prog (X i).w) j f fd ps (spInit K mg C fn) := by rw [hX.prog i, hX.w i, hX.K i, hX.mg i, hX.base i]; exact Fn
    have Mi : Mk (X i).K C f := by rw [hX.K i]; exact M
    refine wpAny_Call_Name_kw (ld_glob I (hg i) (by rw [hX.mg i]; exact c.mg) ?_ hdb)
    refine PySem.W.callWith_KW (h₀ := (X i).base) I.ok.mod.kin Mi.kp (hall i) (thn ((a1 i).run pos pins s σ H _ I h) fun us s1 ⟨vs, H1, I1, r, q⟩ => ?_) (hpl i) (he i)
    refine thn ((k1 i).run pos pins s1 σ H1 _ I1 q) fun ws s2 ⟨zs, H2, I2, rz, l1, l2, q2⟩ => ⟨I2.kIn, ?_⟩
    rw [hks i]
    exact run_makeG Mi Fi (hX.guards i) ((hX.room i).mono hj) (by rw [hX.K i]; exact hb) (passAt (tk i) σ) I2 r rz l1 l2 q2
  · intro G m F H σ ρ Q Qd Qx hW hE h hXx hQ
    refine a2 G m F H σ ρ _ _ Qx hW hE h hXx ?_
    intro ds m1 vs G1 H1 q e1 W1 r1
    refine k2 G1 m1 F H1 σ ρ _ _ Qx W1 (hE.mono e1) q (hXx.mono e1) ?_
    intro es m2 zs G2 H2 q2 e2 W2 r2
    obtain ⟨l1, l2, q2⟩ := q2
    refine ⟨by rw [r1.len]; exact l1, by rw [r2.len]; exact l2, fun x dx hx hdx hne => ?_⟩
    obtain ⟨rest, eg, rr⟩ := hgv G2 x vs zs ds es (r1.mono e2) r2 (by rw [r1.len]; exact l1) (by rw [r2.len]; exact l2)
    refine ⟨x, dx, H2, rest, G2, m2, F, gD ds es, Qd, Qx, eg, rfl, hx, hdx, hne, W2, rr, q2, ?_, ?_⟩
    · intro d m' G' H' z e W' rd
      exact ⟨rfl, hQ d m' _ G' H' z ((e1.trans e2).trans e) W' rd⟩
    · intro y m' cls d G' H' z hmx e W' ry
      exact ⟨y.cls, hmx, hXx y m' d σ G' H' z ((e1.trans e2).trans e) W' ry⟩
end
end
end DL
/-! XS: sorted(text), enumerate, truth, further rules for schemes -/
namespace DL
open PySem L2 XO PyProof.Rows
open Evl (Ex)
/-- a text's signs -/
def signL (z : Str) : List Str := z.cps.toList.map fun c => (⟨#[c]⟩ : Str)
theorem strs_build : ∀ (l : List Value) (cs : List Nat), l.length = cs.length → (∀ (j : Nat) (v : Value), l[j]? = some v → ∃ c u, cs[j]? = some c ∧ v = .str ⟨#[c]⟩ u) → StrsAre l (cs.map fun c => (⟨#[c]⟩ : Str))
  | [], [], _, _ => .nil
  | [], _ :: _, h, _ => by cases h
  | _ :: _, [], h, _ => by cases h
  | v :: l, c :: cs, h, k => by
    obtain ⟨c', u, e1, e2⟩ := k 0 v rfl
    have e1 : some c = some c' := e1
    cases e1
    subst e2
    exact .cons _ _ (strs_build l cs (by simpa using h) fun j w hw => k (j + 1) w hw)
theorem strs_items {x : Str} {acc : Array Value} (h : ItemsOf (SignAt x) acc x.cps.size) : StrsAre acc.toList (signL x) := by
  refine strs_build acc.toList x.cps.toList ?_ ?_
  · rw [Array.length_toList, Array.length_toList]
    exact h.1
  · intro j v hv
    obtain ⟨c, u, e1, e2⟩ := h.2 j v (by rw [← Array.getElem?_toList]; exact hv)
    exact ⟨c, u, by rw [Array.getElem?_toList]; exact e1, e2⟩
section
variable {prog : Program} {w : World} {A : Around} {E : Value → Shared → Prop} {s : Shared}
theorem sorted_text {Q : Value → Shared → Prop} (hh : A.handled = none) (x : Str) (t : Tok) (hn : x.cps.size ≤ 1000000)
    (h : ∀ (s1 : Shared) (vs : List Value) (out : Array Value) (ss' : List Str), (∀ b o, s.heap.get? b = some o → s1.heap.get? b = some o) → s1.gens = s.gens → s1.drawn = s.drawn → s1.os = s.os → StrsAre out.toList ss' → ss'.Perm (signL x) → sortedS ss' = true →
      Q (.ref s1.heap.objs.size) { s1 with heap := sortedHeap (s1.heap.push (seqObj "list" vs.toArray 0)) s1.heap.objs.size vs out }) :
    wpAny (model prog w) A (call (.builtin "sorted") [.str x t]) Q E s := by
  refine Calls.call_function_entry kind_sorted plain_sorted entry_sorted (args_sorted1 _) ?_
  unfold Builtin.«sorted»
  refine wpAny_bind (m := checkCount "sorted" 1 1 _) (wpAny_pure ?_)
  refine wpAny_bind (wpAny_collect_str (by exact hh) x t (fun s1 acc k g d o hacc => ?_) (by rw [sizeLine_eq]; omega))
  have hS := strs_items hacc
  have hL : acc.toList.length ≤ sizeLine := by rw [Array.length_toList, hacc.1, sizeLine_eq]; omega
  refine wpAny_bind (wpAny_newList ?_ hL)
  have hoL : (s1.heap.push (seqObj "list" acc.toList.toArray 0)).get? s1.heap.objs.size = some (seqObj "list" acc.toList.toArray 0) := Heap.get?_push_size _ rfl
  show wpAny _ _ _ _ _ { s1 with heap := s1.heap.push (seqObj "list" acc.toList.toArray 0) }
  refine wpAny_bind (wpAny_holding (wpAny_call_entry slot_list_sort ⟨_, hoL, rfl⟩ entry_list_sort (list_sort_treeKAny strKind_oneLt hoL hS.keysOf (fun v₁ v₂ rest e => keyKind_strs (by rw [← e]; exact hS)) hL fun st' hp hs => ⟨_, rfl, ?_⟩) (args_list_sort _)))
  obtain ⟨ss', h1, h2, h3⟩ := sorted_out_str hS hp hs
  exact wpAny_pure ⟨_, rfl, h s1 acc.toList _ ss' k g d o h1 h2 h3⟩
end
def rSortedTx : List V → Hp → VK → Prop := fun vs H Q => ∃ z : Str, vs = [V.str z] ∧ z.cps.size ≤ 1000000 ∧ ∀ (ys : List Str) (p : Addr), ys.Perm (signL z) → sortedS ys = true → H p = none → Q (.ref p) (upd H p (.lst (ys.map V.str)))
theorem cr_sortedTx {X : Cx} (hc : X.calm = true) : CallR X (.builtin "sorted") rSortedTx := by
  intro pins s σ H vs us Q I r h
  obtain ⟨z, rfl, hz, q⟩ := h
  cases r with
  | cons r1 t0 =>
    cases t0
    obtain ⟨t, rfl⟩ := r1
    refine sorted_text (I.ok.hd hc) z t hz fun s1 vs out ys k g d o h1 h2 h3 => ?_
    obtain ⟨hp, gn, dr, tk, os⟩ := s1
    simp only at k g d o
    subst g d o
    have hlen : (ys.map V.str).length ≤ sizeLine := by
      rw [List.length_map, h2.length_eq]
      unfold signL
      rw [List.length_map, Array.length_toList, sizeLine_eq]
      omega
    have hoL : (hp.push (seqObj "list" vs.toArray 0)).get? hp.objs.size = some (seqObj "list" vs.toArray 0) := Heap.get?_push_size _ rfl
    obtain ⟨ep, he⟩ := sortedHeap_at (out := out) hoL
    have hn : H hp.objs.size = none := (I.hok.kept k).fresh (Nat.le_refl _)
    have h0 : s.heap.get? hp.objs.size = none := by
      cases e : s.heap.get? hp.objs.size with
      | none => rfl
      | some o => exact absurd (Heap.lt_size (k _ _ e)) (Nat.lt_irrefl _)
    have kk : ∀ b u, s.heap.get? b = some u → (sortedHeap (hp.push (seqObj "list" vs.toArray 0)) hp.objs.size vs out).get? b = some u := by
      intro b u e
      have e1 := k b u e
      have hb := Heap.lt_size e1
      rw [sortedHeap_old (Nat.ne_of_lt hb) (by rw [size_push']; exact Nat.lt_succ_of_lt hb)]
      exact Heap.get?_push_of_some _ e1
    exact ⟨.ref _, upd H hp.objs.size (.lst (ys.map V.str)), I.laidN (t' := tk) kk h0 hn ⟨hlen, out.toList, ep, vals_of_strs h1, he⟩, rfl, q ys _ h2 h3 hn⟩
/-- sorted(text): its signs, by code points -/
def dSortedTx : WC := fun xs m Q => match xs with
  | [.str z] => z.cps.size ≤ 1000000 ∧ ∀ ys : List Str, ys.Perm (signL z) → sortedS ys = true → Q (.lst (ys.map D.str)) m
  | _ => False
theorem rp_strs {K : Fg} {G : Hp} : ∀ ys : List Str, RpA K G (ys.map V.str) (ys.map D.str)
  | [] => .nil
  | y :: ys => .cons (.str y) (rp_strs ys)
theorem b_sortedTx {K : Fg} {ι : Type} {X : ι → Cx} (hc : ∀ i, (X i).calm = true) : BiU K X (.builtin "sorted") dSortedTx := by
  refine ⟨_, fun i => cr_sortedTx (hc i), ?_⟩
  intro G m F H xs ds Q Qd hW r h hQ
  unfold dSortedTx at h
  split at h
  · cases r with
    | cons r1 t =>
      cases r1
      cases t
      exact ⟨_, rfl, h.1, fun ys p hp hs hf => hQ.lst hW (h.2 ys hp hs) (rp_strs ys) p hf⟩
  · cases h
end DL
/-! XT: len(set(text)) -/
namespace DL
open PySem L2 XO PyProof.Rows
open Evl (Ex)
/-- how many unlike texts -/
def distinct : List Str → Nat
  | [] => 0
  | x :: l => if l.any (· == x) then distinct l else distinct l + 1
theorem distinct_le : ∀ l, distinct l ≤ l.length
  | [] => Nat.le_refl _
  | x :: l => by
    have := distinct_le l
    unfold distinct
    rw [List.length_cons]
    split <;> omega
section
variable {prog : Program} {w : World} {A : Around} {R : Result → Shared → Prop} {I : Addr} {fp wr : List Addr} {G : Array GenState → Array GenState → Prop} {n : Nat} {St : Nat → Shared → Prop} {x : Str}
/-- the loop of a set's filling over a text: l is what is in it, the last one first -/
theorem fill_signs (W : WalksS prog w A.in1 I fp wr G n (SignAt x) St) (S : Addr) (away : S ∉ fp) (hn : x.cps.toList.length = n) (small : n < 4000) :
    ∀ (rest done : List Nat) (s : Shared), x.cps.toList = done ++ rest → St done.length s →
      s.heap.SetOf (PySem.strKind prog w) S (fun k => ((done.reverse).map fun c => (⟨#[c]⟩ : Str)).any (· == k)) (distinct ((done.reverse).map fun c => (⟨#[c]⟩ : Str))) →
      (∀ s', Moved (S :: wr) G s s' → s'.heap.SetOf (PySem.strKind prog w) S (fun k => ((x.cps.toList.reverse).map fun c => (⟨#[c]⟩ : Str)).any (· == k)) (distinct ((x.cps.toList.reverse).map fun c => (⟨#[c]⟩ : Str))) → R (.ok (.ret .none)) s') →
      codeAny (model prog w) A (.builtin "set.update.loop" ⟨[.ref S, .ref I], []⟩) R s := by
  have outside : S ∉ wr := fun h => away (W.sub _ h)
  have more : ∀ b ∈ wr, b ∈ S :: wr := fun b hb => List.mem_cons_of_mem _ hb
  intro rest
  induction rest with
  | nil =>
    intro done s hx hst hS hR
    rw [List.append_nil] at hx
    have hl : done.length = n := by rw [← hx]; exact hn
    rw [hl] at hst
    refine codeAny_builtin F.entry_set_update_loop ?_
    rw [Around.under_plainId F.plain_set_update_loop _]
    show wpAny _ A.in1 (pyNext (.ref I) >>= _) _ _ s
    refine wpAny_bind (W.done s _ _ hst fun s' hm => ?_)
    show wpAny _ A.in1 (ret Value.none) _ _ s'
    refine wpAny_pure (hR s' (hm.mono more) ?_)
    rw [hx]
    obtain ⟨o, es, ep, t, ho, others⟩ := hS
    exact ⟨o, es, ep, t, hm.heap S _ outside ho, others⟩
  | cons c rest ih =>
    intro done s hx hst hS hR
    have hlt : done.length < n := by
      rw [← hn, hx, List.length_append, List.length_cons]
      omega
    refine codeAny_builtin F.entry_set_update_loop ?_
    rw [Around.under_plainId F.plain_set_update_loop _]
    show wpAny _ A.in1 (pyNext (.ref I) >>= _) _ _ s
    refine wpAny_bind (W.item done.length s _ _ hlt hst fun v s' hP hst' hm => ?_)
    obtain ⟨c', u, hc', rfl⟩ := hP
    have ec : c' = c := by
      have h1 : x.cps.toList[done.length]? = some c' := by rw [Array.getElem?_toList]; exact hc'
      rw [hx, List.getElem?_append_right (Nat.le_refl _), Nat.sub_self] at h1
      exact (Option.some.inj h1).symm
    subst ec
    have hS' : s'.heap.SetOf (PySem.strKind prog w) S (fun k => ((done.reverse).map fun c => (⟨#[c]⟩ : Str)).any (· == k)) (distinct ((done.reverse).map fun c => (⟨#[c]⟩ : Str))) := by
      obtain ⟨o, es, ep, tb, ho, others⟩ := hS
      exact ⟨o, es, ep, tb, hm.heap S _ outside ho, others⟩
    show wpAny _ A.in1 (holding [Value.str ⟨#[c']⟩ u] (setAdd S (.str ⟨#[c']⟩ u)) >>= _) _ _ s'
    refine wpAny_bind (wpAny_holding ?_)
    unfold setAdd
    refine wpAny_holding ?_
    refine wpAny_bind ((PySem.strKind prog w).pyHash (k := (⟨#[c']⟩ : Str)) (strKind_is _ _ _ _) ?_)
    have room : distinct ((done.reverse).map fun c => (⟨#[c]⟩ : Str)) + 1 < scanBound := by
      have := distinct_le ((done.reverse).map fun c => (⟨#[c]⟩ : Str))
      rw [List.length_map, List.length_reverse] at this
      unfold scanBound
      omega
    refine wpAny_setAddHashed_of (knd := PySem.strKind prog w) (s := { s' with toks := s'.toks + 1 }) (strKind_is _ _ _ _) rfl hS' room fun h' hsb hS2 => ?_
    have e1 : ((done ++ [c']).reverse).map (fun c => (⟨#[c]⟩ : Str)) = (⟨#[c']⟩ : Str) :: (done.reverse).map fun c => (⟨#[c]⟩ : Str) := by
      rw [List.reverse_append]; rfl
    have hS3 : h'.SetOf (PySem.strKind prog w) S (fun k => (((done ++ [c']).reverse).map fun c => (⟨#[c]⟩ : Str)).any (· == k)) (distinct (((done ++ [c']).reverse).map fun c => (⟨#[c]⟩ : Str))) := by
      rw [e1]
      refine SetOf_congr hS2 (fun k => ?_) ?_
      · rw [List.any_cons, Bool.or_comm]
        congr 1
        by_cases e : k = (⟨#[c']⟩ : Str)
        · subst e; simp
        · have ne : ((⟨#[c']⟩ : Str) == k) = false := by
            rw [beq_eq_false_iff_ne]
            exact fun z => e z.symm
          rw [ne, decide_eq_false e]
      · rfl
    refine wpAny_pure ⟨plainId_quiet F.plain_set_update_loop _, ih (done ++ [c']) _ (by rw [hx, List.append_assoc]; rfl) ?_ hS3 fun s2 hm2 hS4 => ?_⟩
    · rw [List.length_append, List.length_singleton]
      refine W.frame _ s' _ _ hst' (Nat.le_succ _) fun b hb o e => ?_
      rw [hsb.2 b (fun z : b = S => away (by rw [← z]; exact hb))]
      exact e
    · refine hR s2 (Moved.trans W.gtrans ((hm.mono more).then_heap (Nat.le_succ _) fun b o hb e => ?_) hm2) hS4
      rw [hsb.2 b (fun z : b = S => hb (by rw [z]; exact List.mem_cons_self))]
      exact e
end
section
variable {prog : Program} {w : World} {A : Around} {E : Value → Shared → Prop} {s : Shared}
open PySem.Spec
/-- set(text) -/
theorem call_set_text {x : Str} {t : Tok} {Q : Value → Shared → Prop} (hh : A.handled = none) (small : x.cps.toList.length < 4000)
    (told : ∀ (h' : Heap) (tk : Nat), h'.SetOf (PySem.strKind prog w) s.heap.objs.size (fun k => ((x.cps.toList.reverse).map fun c => (⟨#[c]⟩ : Str)).any (· == k)) (distinct ((x.cps.toList.reverse).map fun c => (⟨#[c]⟩ : Str))) →
      (∀ b o, b < s.heap.objs.size → s.heap.get? b = some o → h'.get? b = some o) → Q (.ref s.heap.objs.size) { s with heap := h', toks := tk }) :
    wpAny (model prog w) A (call (.type "set") [.str x t]) Q E s := by
  obtain ⟨c0, tl0, k_mro⟩ := PySem.F.called_set.mro
  have k_made := PySem.F.called_set.made
  have k_sub := PySem.F.called_set.sub
  refine wpAny_call (codeAny_of_tree ?_)
  show wpAny _ _ (callAny (.type "set") _) _ _ _
  refine wpAny_pure ⟨Code.quiet_builtin _ (by decide +kernel), codeAny_builtin PySem.F.entry_type_call ?_⟩
  rw [Around.under_plain (weight_type_call_type "set" [.str x t] []) rfl]
  have k_not := PySem.F.called_set.notType
  have k_can := PySem.F.called_set.canCreate
  have k_chk := PySem.F.typeCall_set_1 (.str x t)
  repeat (any_goals (first | assumption | wp_step))
  refine codeAny_mono (code_set_new_1 (.str x t) (E := E) (Q₁ := fun obj s1 => ∃ led : Bool, obj = .ref s.heap.objs.size ∧ s1 = { s with heap := s.heap.push { cls := .type "set", dict := none, data := .set #[] 0 (.fresh 0 0 led) } }) fun led => ⟨led, rfl, rfl⟩) fun r s1 hr => ?_
  cases r with
  | error e => exact hr
  | ok fl =>
    cases fl <;> first | exact hr.elim | skip
    rename_i obj
    obtain ⟨led, rfl, rfl⟩ := hr
    have atS : (s.heap.push { cls := .type "set", dict := none, data := .set #[] 0 (.fresh 0 0 led) }).get? s.heap.objs.size = some { cls := .type "set", dict := none, data := .set #[] 0 (.fresh 0 0 led) } := Heap.get?_push_size _ rfl
    have tyS : Shared.TypeIs { s with heap := s.heap.push { cls := .type "set", dict := none, data := .set #[] 0 (.fresh 0 0 led) } } (.ref s.heap.objs.size) "set" := ⟨_, atS, rfl⟩
    have k_look := PySem.F.called_set.init.lookup
    have k_bind := PySem.F.called_set.init.bind (.ref s.heap.objs.size)
    repeat (any_goals (first | assumption | wp_step))
    refine codeAny_mono (codeAny_call_builtin (R := wants (fun r s2 => r = .none ∧ ∃ h' tk, s2 = { s with heap := h', toks := tk } ∧
        h'.SetOf (PySem.strKind prog w) s.heap.objs.size (fun k => ((x.cps.toList.reverse).map fun c => (⟨#[c]⟩ : Str)).any (· == k)) (distinct ((x.cps.toList.reverse).map fun c => (⟨#[c]⟩ : Str))) ∧
        (∀ b o, b < s.heap.objs.size → s.heap.get? b = some o → h'.get? b = some o)) E) PySem.F.called_set.init.plain PySem.F.entry_set_init (check_set_init_1 tyS ?_)) fun r2 s2 hr2 => ?_
    · have no1 := PySem.F.sub_str_set
      have no2 := PySem.F.sub_str_frozenset
      have no3 : (Value.type "str" == Value.type "dict") = false := by decide
      unfold Builtin.«set.__init__» noKeywords Builtin.Frozenset.updateFrom
      generalize hPI : pyIter = PI
      wp_walk
      subst hPI
      refine wpAny_pyIter_str fun o St W hst => ?_
      refine wpAny_bind (wpAny_runValue ?_)
      have calm3 : A.in1.in1.in1.handled = none := by simp [hh]
      have apart : s.heap.objs.size ∉ [(s.heap.push { cls := .type "set", dict := none, data := .set #[] 0 (.fresh 0 0 led) }).objs.size] := by
        rw [Heap.size_push, List.mem_singleton]
        exact Nat.ne_of_lt (Nat.lt_succ_self _)
      refine fill_signs (W _ calm3).toS s.heap.objs.size apart (by rw [Array.length_toList]) (by rw [Array.length_toList] at small; exact small) x.cps.toList [] _ rfl hst ?hS0 ?hR
      case hS0 =>
        have at2 := Heap.get?_push_of_some o atS
        exact SetOf_congr ((setObjOf_fresh (knd := PySem.strKind prog w) led).setOf at2 (by unfold scanBound; omega)) (fun _ => rfl) rfl
      case hR =>
        intro s2 hm hS
        obtain ⟨h2, g2, d2, tk2, os2⟩ := s2
        have eg : g2 = s.gens := hm.gens
        have ed : d2 = s.drawn := hm.drawn
        have eo : os2 = s.os := hm.os
        subst eg ed eo
        refine wpAny_pure ?_
        show wpAny _ _ (ret Value.none) _ _ _
        refine wpAny_pure ⟨rfl, h2, tk2, rfl, hS, fun b o' hb e => ?_⟩
        refine hm.heap b o' (fun hin => ?_) (Heap.get?_push_of_some _ (Heap.get?_push_of_some _ e))
        rcases List.mem_cons.mp hin with z | z
        · exact Nat.ne_of_lt hb z
        · rw [List.mem_singleton, Heap.size_push] at z
          exact Nat.ne_of_lt (Nat.lt_succ_of_lt hb) z
    · cases r2 with
      | error e => exact hr2
      | ok fl2 =>
        cases fl2 <;> first | exact hr2.elim | skip
        obtain ⟨rfl, h', tk, rfl, hS, hk⟩ := hr2
        repeat (any_goals (first | assumption | wp_step))
        exact told _ _ hS hk
end
/-- how many unlike signs -/
def unlike (z : Str) : Nat := distinct ((z.cps.toList.reverse).map fun c => (⟨#[c]⟩ : Str))
def tLenSetT (ta : TE) : TE := fun σ H Q => ta σ H fun x H1 => ∃ z : Str, x = .str z ∧ z.cps.toList.length < 4000 ∧ Q (.int (unlike z : Nat)) H1
theorem pe_lenSetT {X : Cx} {a : Expr} {ta : TE} {p p2 q pos : Pos} (hc : X.calm = true) (hg : Gl X "len") (hm : X.mg "len" = none) (hg2 : Gl X "set") (hm2 : X.mg "set" = none) (ha : PE X a ta)
    (na : starEach [a] X.env = (false, eval a X.env) :: starEach [] X.env := by rfl) : PE X (.Call (.Name "len" p) [.Call (.Name "set" p2) [a] [] q] [] pos) (tLenSetT ta) := by
  refine ⟨fun pins s σ H Q I h => ?_⟩
  refine Call_ (ld_blt I hg hm boot_len (callWith_builtin1 (args_cons ?_ rfl) rfl rfl))
  refine Call_ (ld_blt I hg2 hm2 boot_set (callWith_type1 (args_cons (thn (ha.run pins s σ H _ I h) fun v s1 ⟨x, H1, I1, r1, q1⟩ => args_nil ?_) na) na rfl))
  obtain ⟨z, rfl, small, q1⟩ := q1
  obtain ⟨t, rfl⟩ := r1
  refine call_set_text (I1.ok.hd hc) small fun h' tk hS hk => args_nil ?_
  obtain ⟨o, es, ep, tb, ho, hex, hd, _, _, _, hf, hn⟩ := hS
  have I2 : Inv X pins σ H1 { s1 with heap := h', toks := tk } := I1.kept fun b o e => hk b o (Heap.lt_size e) e
  have le := distinct_le ((z.cps.toList.reverse).map fun c => (⟨#[c]⟩ : Str))
  rw [List.length_map, List.length_reverse] at le
  exact call_len_set ho hex hd hf (by rw [hn] <;> omega) ⟨.int (unlike z : Nat), H1, I2.tok _, ⟨_, by rw [hn]; rfl⟩, q1⟩
def wLenSet (we : WE) : WE := fun ρ m Q Qx => we ρ m (fun d m1 => match d with
  | .str z => z.cps.toList.length < 4000 ∧ Q (.int (unlike z : Nat)) m1
  | _ => False) Qx
theorem pd_lenSet {K : Fg} {W : Wx} {ι : Type} {X : ι → Cx} {mg : Str → Option Value} {a : Expr} {wa : WE} {p p2 q pos : Pos} (hc : ∀ i, (X i).calm = true) (hX : ∀ i, (X i).mg = mg) (hm : mg "len" = none) (hm2 : mg "set" = none) (ha : PD K W X a wa) (hg : ∀ i, Gl (X i) "len" := by intro _; rfl) (hg2 : ∀ i, Gl (X i) "set" := by intro _; rfl)
    (na : ∀ i, starEach [a] (X i).env = (false, eval a (X i).env) :: starEach [] (X i).env := by intro _; rfl) : PD K W X (.Call (.Name "len" p) [.Call (.Name "set" p2) [a] [] q] [] pos) (wLenSet wa) := by
  obtain ⟨t, h1, h2⟩ := ha
  refine ⟨tLenSetT t, fun i => pe_lenSetT (hc i) (hg i) (by rw [hX i]; exact hm) (hg2 i) (by rw [hX i]; exact hm2) (h1 i) (na i), ?_⟩
  intro G m F H σ ρ Q Qd Qx hW hE h hXx hQ
  refine h2 G m F H σ ρ _ _ Qx hW hE h hXx ?_
  intro d m1 x G1 H1 q e1 W1 r1
  cases r1 <;> first | exact (show False from q).elim | skip
  exact ⟨_, rfl, q.1, hQ _ m1 _ G1 H1 q.2 e1 W1 (.int _)⟩
/-- all signs unlike: just as many -/
theorem distinct_all : ∀ l : List Str, distinct l = l.length ↔ l.Nodup
  | [] => by simp [distinct]
  | x :: l => by
    have le := distinct_le l
    have ih := distinct_all l
    rw [List.nodup_cons, List.length_cons]
    unfold distinct
    by_cases c : x ∈ l
    · have e : l.any (· == x) = true := by simpa using c
      rw [e]
      constructor
      · intro z; simp at z; omega
      · intro z; exact absurd c z.1
    · have e : l.any (· == x) = false := by
        rw [Bool.eq_false_iff]
        intro z
        exact c (by simpa using z)
      rw [e]
      constructor
      · intro z; simp at z; exact ⟨c, ih.mp z⟩
      · intro z; simp; exact ih.mpr z.2
end DL
/-! XU: tuple(box), truth, constants of the module -/
namespace DL
open PySem L2 XO
open Evl (Ex)
section
variable {K : Fg} {W : Wx} {ι : Type} {X : ι → Cx} {pos : Pos} {a b c e : Expr} {es : List Expr} {wa wb wc w : WE} {wr : WA}
/-! tuple, list of what may be a box -/
def dTupleM : WC := fun xs m Q => match xs with
  | [.box a] => ∃ ds, m a = some ds ∧ Q (.tup ds) m
  | xs => dTuple xs m Q
def dListM : WC := fun xs m Q => match xs with
  | [.box a] => ∃ ds, m a = some ds ∧ Q (.lst ds) m
  | xs => dList xs m Q
theorem b_tupleM (hK : ∀ i, (X i).K = K) : BiU K X (.type "tuple") dTupleM := by
  refine ⟨_, fun i => hK i ▸ call_tuple_of, ?_⟩
  intro G m F H xs ds Q Qd hW r h hQ
  unfold dTupleM at h
  split at h
  · obtain ⟨ds, hm, q⟩ := h
    obtain ⟨_, _, ys, hy, ry⟩ := hW.own _ ds hm
    cases r with
    | cons r1 t =>
      cases t
      cases r1
      exact ⟨_, _, rfl, Or.inl ⟨SqL.of hy, hQ.tup hW q ry⟩⟩
  · unfold dTuple at h
    split at h
    · cases r with
      | cons r1 t =>
        cases t
        cases r1 with
        | lst hx rr => exact ⟨_, _, rfl, Or.inl ⟨SqL.of (hW.ex _ _ hx), hQ.tup hW h rr⟩⟩
    · cases r with
      | cons r1 t =>
        cases t
        cases r1 with
        | tup hx rr => exact ⟨_, _, rfl, Or.inr ⟨Evl.ex_t hW.ex hx, hQ.here hW h (.tup hx rr)⟩⟩
    · cases h
theorem b_listM (hK : ∀ i, (X i).K = K) : BiU K X (.type "list") dListM := by
  refine ⟨_, fun i => hK i ▸ call_list_of, ?_⟩
  intro G m F H xs ds Q Qd hW r h hQ
  unfold dListM at h
  split at h
  · obtain ⟨ds, hm, q⟩ := h
    obtain ⟨_, _, ys, hy, ry⟩ := hW.own _ ds hm
    cases r with
    | cons r1 t =>
      cases t
      cases r1
      exact ⟨_, _, rfl, Or.inl (SqL.of hy), hQ.lst hW q ry⟩
  · unfold dList at h
    split at h
    · cases r with
      | cons r1 t =>
        cases t
        cases r1 with
        | lst hx rr => exact ⟨_, _, rfl, Or.inl (SqL.of (hW.ex _ _ hx)), hQ.lst hW h rr⟩
    · cases r with
      | cons r1 t =>
        cases t
        cases r1 with
        | tup hx rr => exact ⟨_, _, rfl, Or.inr (Evl.ex_t hW.ex hx), hQ.lst hW h rr⟩
    · cases h
/-! if xs: -/
def truD (m : Mem) : D → Option Bool
  | .non => some false
  | .bl b => some b
  | .int i => some (i != 0)
  | .str z => if z.length ≤ 1000000 then some ((z.length : Int) != 0) else none
  | .lst ds => some (!ds.isEmpty)
  | .tup ds => some (!ds.isEmpty)
  | .scr ns => some (!ns.isEmpty)
  | .box a => (m a).map fun ds => !ds.isEmpty
  | .dct ks _ => some (!ks.isEmpty)
  | _ => none
theorem empty_of {G : Hp} {xs : List V} {ds : List D} (r : RpA K G xs ds) : (!ds.isEmpty) = !xs.isEmpty := by
  cases r <;> rfl
theorem tru_of {G F H : Hp} {m : Mem} {v : V} {d : D} {k : Bool} (hW : Wd K G m F H) (r : Rp K G v d) (h : truD m d = some k) : TruV K v H k := by
  cases r with
  | non => cases h; rfl
  | bl b => cases h; rfl
  | int i => cases h; rfl
  | str z =>
    have h : (if z.length ≤ 1000000 then some ((z.length : Int) != 0) else none) = some k := h
    by_cases hz : z.length ≤ 1000000
    · rw [if_pos hz] at h
      cases h
      exact ⟨by rw [sizeLine_eq]; omega, rfl⟩
    · rw [if_neg hz] at h
      cases h
  | ty n => cases h
  | lst hx rr => cases h; exact Or.inl ⟨_, SqL.of (hW.ex _ _ hx), empty_of rr⟩
  | tup hx rr => cases h; exact Or.inr (Or.inl ⟨_, Evl.ex_t hW.ex hx, empty_of rr⟩)
  | dct hx h1 h2 rr => cases h; exact Or.inr (Or.inr ⟨_, hW.ex _ _ hx, by rw [← h1, List.isEmpty_map]⟩)
  | scr hx => cases h; exact Or.inl ⟨_, Evl.ex_l hW.ex hx, by rw [List.isEmpty_map]⟩
  | box a =>
    have h : (m a).map (fun ds => !ds.isEmpty) = some k := h
    cases e : m a with
    | none => rw [e] at h; cases h
    | some ds =>
      rw [e] at h
      cases h
      obtain ⟨_, _, ys, hy, ry⟩ := hW.own _ ds e
      exact Or.inl ⟨_, SqL.of hy, empty_of ry⟩
  | obj _ _ _ _ _ => cases h
def wTru (w : WE) : WT := fun ρ m Q Qx => w ρ m (fun d m1 => ∃ k, truD m1 d = some k ∧ Q k m1) Qx
theorem pt_tru (hK : ∀ i, (X i).K = K) (ha : PD K W X a wa) (he : ∀ i whole, isTrue a (X i).env whole = (do let v ← whole; standAt a.pos; holding [v] (truthy v)) := by intro _ _; rfl) : PDT K W X a (wTru wa) := by
  obtain ⟨t, h1, h2⟩ := ha
  refine ⟨fun σ H Q => t σ H fun x H' => ∃ k, TruV K x H' k ∧ Q k H', fun i => by have q := pt_truth (h1 i) (he i); rw [hK i] at q; exact q, ?_⟩
  intro G m F H σ ρ Q Qd Qx hW hE h hX hQ
  refine h2 G m F H σ ρ _ _ Qx hW hE h hX ?_
  rintro d m1 x G1 H1 ⟨k, hk, q⟩ e1 W1 r1
  exact ⟨k, tru_of W1 r1 hk, hQ k m1 G1 H1 q e1 W1⟩
/-! a tuple of texts that is a constant of the module -/
theorem pd_globTs {mg : Str → Option Value} {x : Str} {ss : List Str} {at_ : Addr} {o : Obj} {its : Array Value} {n : Nat} (hX : ∀ j, (X j).mg = mg) (hm : mg x = some (.ref at_)) (lk : K.lookup at_ = some o) (oc : o.cls = .type "tuple") (od : o.data = .seq its n) (hz : its.size ≤ sizeLine) (hv : Vals (ss.map V.str) its.toList)
    (hg : ∀ j, Gl (X j) x := by intro _; rfl) (hd : (x == ("__debug__" : Str)) = false := by decide) : PD K W X (.Name x pos) (wC (.tup (ss.map D.str))) :=
  pd_glob (v := V.ref at_) hX hm rfl (fun G => .tup (Or.inr ⟨o, its, n, lk, oc, od, hz, hv⟩) (rp_strs ss)) hg hd
end
end DL
/-! XV: dicts with several texts as keys, d[k]; enumerate(list) -/
namespace DL
open PySem L2 XO
open Evl (Ex)
section
variable {K : Fg} {W : Wx} {ι : Type} {X : ι → Cx} {pos : Pos} {a b c e : Expr} {es : List Expr} {wa wb wc w : WE} {wr : WA}
def PPD (K : Fg) (W : Wx) {ι : Type} (X : ι → Cx) (pos : Pos) (keys : List (Option Expr)) (values : List Expr) (ks : List Str) (wr : WA) : Prop := ∃ trs, (∀ i, PPs (X i) pos keys values trs) ∧
  ∀ G m F H σ ρ (Q : List (V × V) → Hp → Prop) (Qd : List D → Mem → Prop) (Qx : XQ), Wd K G m F H → En K G σ ρ → wr ρ m Qd Qx → FitX K W G F Qx →
    (∀ ds m' vs G' H', Qd ds m' → Ex G G' → Wd K G' m' F H' → RpA K G' vs ds → vs.length = ks.length → Q ((ks.zip vs).map fun p => (V.str p.1, p.2)) H') → tPairs trs σ H Q
theorem ppd_nil : PPD K W X pos [] [] [] wNil := ⟨[], fun _ => pps_nil, fun G m F H σ ρ Q Qd Qx hW hE h hX hQ => hQ [] m [] G H h (Ex.refl G) hW .nil rfl⟩
theorem ppd_cons {k : Str} {j : Nat} {pk : Pos} {v : Expr} {wv : WE} {keys : List (Option Expr)} {values : List Expr} {ks : List Str} (hv : PD K W X v wv) (hr : PPD K W X pos keys values ks wr) : PPD K W X pos (some (.Constant (.str k) j pk) :: keys) (v :: values) (k :: ks) (wCons wv wr) := by
  obtain ⟨tv, h1, h2⟩ := hv
  obtain ⟨trs, r1, r2⟩ := hr
  refine ⟨_, fun i => pps_cons pe_str (h1 i) (r1 i), ?_⟩
  intro G m F H σ ρ Q Qd Qx hW hE h hX hQ
  show tv σ H _
  refine h2 G m F H σ ρ _ _ Qx hW hE h hX ?_
  intro d m1 y G1 H1 q e1 W1 ry
  refine r2 G1 m1 F H1 σ ρ _ _ Qx W1 (hE.mono e1) q (hX.mono e1) ?_
  intro ds m2 vs G2 H2 q2 e2 W2 r hl
  exact hQ _ m2 _ G2 H2 q2 (e1.trans e2) W2 (.cons (ry.mono e2) r) (congrArg (· + 1) hl)
theorem valV_out {ks : List Str} {vs : List V} {k : Str} (h : k ∉ ks) : valV ((ks.zip vs).map fun p => ((.inr p.1 : Key), p.2)) (.inr k) = none := by
  unfold valV
  rw [List.find?_eq_none.mpr ?_]
  · rfl
  · intro x hx
    obtain ⟨p, hp, rfl⟩ := List.mem_map.mp hx
    have := (List.of_mem_zip hp).1
    simp only [decide_eq_true_eq]
    intro z
    cases z
    exact h this
theorem merge_new : ∀ (ks : List Str) (vs : List V) (pre : List Str) (pvs : List V), pre.length = pvs.length → ks.length = vs.length → (pre ++ ks).Nodup →
    mergeK ((pre.zip pvs).map fun p => ((.inr p.1 : Key), p.2)) ((ks.zip vs).map fun p => ((.inr p.1 : Key), p.2)) = ((pre ++ ks).zip (pvs ++ vs)).map fun p => ((.inr p.1 : Key), p.2)
  | [], [], pre, pvs, _, _, _ => by rw [List.append_nil, List.append_nil]; rfl
  | [], _ :: _, _, _, _, h, _ => by cases h
  | _ :: _, [], _, _, _, h, _ => by cases h
  | k :: ks, v :: vs, pre, pvs, hp, h, nd => by
    have hk : k ∉ pre := fun z => (List.nodup_append.mp nd).2.2 k z k List.mem_cons_self rfl
    have e : mergeK ((pre.zip pvs).map fun p => ((.inr p.1 : Key), p.2)) (((k :: ks).zip (v :: vs)).map fun p => ((.inr p.1 : Key), p.2)) = mergeK (putK ((pre.zip pvs).map fun p => ((.inr p.1 : Key), p.2)) (.inr k) v) ((ks.zip vs).map fun p => ((.inr p.1 : Key), p.2)) := rfl
    rw [e, putK_new v (valV_out hk)]
    have e2 : ((pre.zip pvs).map fun p => ((.inr p.1 : Key), p.2)) ++ [((.inr k : Key), v)] = (((pre ++ [k]).zip (pvs ++ [v])).map fun p => ((.inr p.1 : Key), p.2)) := by
      rw [List.zip_append hp, List.map_append]
      rfl
    rw [e2, merge_new ks vs (pre ++ [k]) (pvs ++ [v]) (by rw [List.length_append, List.length_append, hp]; rfl) (by simpa using h) (by rw [List.append_assoc]; exact nd), List.append_assoc, List.append_assoc]
    rfl
/-- {'k': v, ..} -/
def wDctN (ks : List Str) (wr : WA) : WE := fun ρ m Q Qx => wr ρ m (fun ds m1 => Q (.dct (ks.map .inr) ds) m1) Qx
theorem pd_dctN {keys : List (Option Expr)} {values : List Expr} {ks : List Str} (h : PPD K W X pos keys values ks wr) (nd : ks.Nodup := by decide) (hz : ks.length ≤ 15 := by decide) (hall : keys.all (·.isSome) = true := by rfl) (hl : keys.length = values.length := by rfl) (h0 : keys ≠ [] := by exact fun z => nomatch z) (h15 : keys.length ≤ 15 := by decide) : PD K W X (.Dict keys values pos) (wDctN ks wr) := by
  obtain ⟨trs, h1, h2⟩ := h
  refine ⟨_, fun i => pe_disp (h1 i) hall hl h0 h15, ?_⟩
  intro G m F H σ ρ Q Qd Qx hW hE h hX hQ p hp
  obtain ⟨hG, hm, hF⟩ := hW.fresh hp
  have W0 := hW.frame hp (.dK [])
  refine h2 G m (upd F p (.dK [])) _ σ ρ _ _ Qx W0 hE h (hX.frame hF) ?_
  intro ds m1 vs G1 H1 q e1 W1 r hlen
  have hlen2 : ks.length = vs.length := hlen.symm
  refine ⟨W1.fr p _ upd_same, (ks.zip vs).map fun p => ((.inr p.1 : Key), p.2), by rw [List.map_map]; rfl, by rw [List.length_map, List.length_zip]; omega, ?_⟩
  have em := merge_new ks vs [] [] rfl hlen2 nd
  have em : mergeK [] ((ks.zip vs).map fun p => ((.inr p.1 : Key), p.2)) = (ks.zip vs).map fun p => ((.inr p.1 : Key), p.2) := em
  rw [em]
  have W2 := W1.reframe (.dK ((ks.zip vs).map fun p => ((.inr p.1 : Key), p.2)))
  obtain ⟨e3, W3⟩ := W2.adopt hF
  have k1 : ((ks.zip vs).map fun p => ((.inr p.1 : Key), p.2)).map (·.1) = ks.map .inr := by
    rw [List.map_map]
    have : ((·.1) ∘ fun p : Str × V => ((.inr p.1 : Key), p.2)) = (fun s : Str => (.inr s : Key)) ∘ Prod.fst := rfl
    rw [this, ← List.map_map, List.map_fst_zip (by omega)]
  have k2 : ((ks.zip vs).map fun p => ((.inr p.1 : Key), p.2)).map (·.2) = vs := by
    rw [List.map_map]
    have : ((·.2) ∘ fun p : Str × V => ((.inr p.1 : Key), p.2)) = Prod.snd := rfl
    rw [this, List.map_snd_zip (by omega)]
  exact hQ _ m1 _ _ _ q (e1.trans e3) W3 (.dct upd_same k1 k2 (r.mono e3))
/-! d[k] -/
def findD : List Key → List D → Key → Option D
  | k :: ks, d :: ds, x => if k = x then some d else findD ks ds x
  | _, _, _ => none
def wDGet (we wi : WE) : WE := fun ρ m Q Qx => we ρ m (fun x m1 => wi ρ m1 (fun y m2 => match x, y with
  | .dct ks ds, .str s => ∃ d, findD ks ds (.inr s) = some d ∧ Q d m2
  | .dct ks ds, .int i => ∃ d, findD ks ds (.inl i) = some d ∧ Q d m2
  | _, _ => False) Qx) Qx
theorem find_of {G : Hp} {x : Key} : ∀ {kvs : List (Key × V)} {ds : List D} {d : D}, RpA K G (kvs.map (·.2)) ds → findD (kvs.map (·.1)) ds x = some d → ∃ v, valV kvs x = some v ∧ Rp K G v d
  | [], _, _, r, h => by cases r; cases h
  | (k, v) :: kvs, _, d, r, h => by
    cases r with
    | cons r t =>
      have h : (if k = x then some _ else findD (kvs.map (·.1)) _ x) = some d := h
      by_cases c : k = x
      · rw [if_pos c] at h
        cases h
        exact ⟨v, valV_pos c, r⟩
      · rw [if_neg c] at h
        obtain ⟨u, hu, ru⟩ := find_of t h
        refine ⟨u, ?_, ru⟩
        unfold valV at hu ⊢
        rw [List.find?_cons_of_neg (by simpa using c)]
        exact hu
theorem pd_dget {P : Program} {wo : World} {mg : Str → Option Value} {base : Heap} {k : Nat} {N : List Str} (hX : Fam P wo K mg base k N X) (ha : PD K W X a wa) (hb : PD K W X b wb) (hs : NoSl b := by exact fun _ _ => rfl) : PD K W X (.Subscript a b pos) (wDGet wa wb) := by
  obtain ⟨ta, a1, a2⟩ := ha
  obtain ⟨tb, b1, b2⟩ := hb
  refine ⟨_, fun i => pe_dget (by have := (hX.room i).un; omega) (a1 i) (b1 i) hs, ?_⟩
  intro G m F H σ ρ Q Qd Qx hW hE h hXx hQ
  refine a2 G m F H σ ρ _ _ Qx hW hE h hXx ?_
  intro x m1 xv G1 H1 q1 e1 W1 r1
  refine b2 G1 m1 F H1 σ ρ _ _ Qx W1 (hE.mono e1) q1 (hXx.mono e1) ?_
  intro y m2 yv G2 H2 q2 e2 W2 r2
  have r1 := r1.mono e2
  cases r1 <;> first | exact (show False from q2).elim | skip
  rename_i a0 kvs ks vs ds hg h1 h2 rr
  subst h1 h2
  cases r2 <;> first | exact (show False from q2).elim | skip
  · obtain ⟨d, hf, q⟩ := q2
    obtain ⟨v, hv, rv⟩ := find_of rr hf
    exact ⟨a0, v, rfl, Or.inl ⟨kvs, _, Or.inl (W2.ex _ _ hg), rfl, hv.symm⟩, hQ d m2 v G2 H2 q (e1.trans e2) W2 rv⟩
  · obtain ⟨d, hf, q⟩ := q2
    obtain ⟨v, hv, rv⟩ := find_of rr hf
    exact ⟨a0, v, rfl, Or.inl ⟨kvs, _, Or.inl (W2.ex _ _ hg), rfl, hv.symm⟩, hQ d m2 v G2 H2 q (e1.trans e2) W2 rv⟩
end
end DL
/-! XW: a try with several «except C as e» -/
namespace DL
open PySem L2 XO PySem.Spec PyProof.Rows
open Evl (Ex)
abbrev HTs := Addr → Value → Option Addr → TS
inductive HdsAs (X : Cx) (n : Str) : List ExceptHandler → List (Value × HTs) → Prop
  | nil : HdsAs X n [] []
  | cons {x : Str} {c : Value} {ts : HTs} {b0 : Stmt} {suite : List Stmt} {np pos' : Pos} {hds : List ExceptHandler} {l : List (Value × HTs)} (hc : Names X x c)
      (hsu : ∀ (a : Addr) (oe : Obj) (cls : Value) (d : Option Addr) (pn : List (Addr × Obj)), Zc cls d oe → (∃ vs, oe.data = .fields vs) → PSs (X.suite a ((a, oe) :: pn)) (b0 :: suite) (ts a cls d)) (r : HdsAs X n hds l) :
      HdsAs X n (.ExceptHandler (some (.Name x np)) (some n) (b0 :: suite) pos' :: hds) ((c, ts) :: l)
/-- the clauses from the left -/
def wAsL (K : Fg) (i : Nat) (Wout : WX) (D : Ends) : List (Value × HTs) → WX
  | [] => Wout
  | (c, ts) :: r => fun cls d σ H => ∃ b, PySem.W.exmOne K cls c = some b ∧
      (b = true → ∀ a, H a = none → ts a cls d { nx := fun σ' H' => D.nx (σ'.set i none) H', rt := D.rt, bk := fun σ' H' => D.bk (σ'.set i none) H', ct := fun σ' H' => D.ct (σ'.set i none) H' } (σ.set i (some (.ref a))) H) ∧
      (b = false → wAsL K i Wout D r cls d σ H)
section
variable {X : Cx} {n : Str} {i : Nat} {Wout : WX} {D : Ends}
theorem catches (hs : X.stack = X.env :: X.outer) (hf : X.env.frame = some X.env.locals) (hN : X.N.Nodup) (hi : X.N[i]? = some n) (hln : X.env.kindOf n = some .local) (tk : L2.Takes X Wout)
    {pins : List (Addr × Obj)} {sI s' : Shared} {σ' : L2.St} {H' : Hp} {cls : Value} {d : Option Addr} {a : Addr} {B h3 : Heap} (ok : X.Ok) (J : Inv X pins σ' H' sI) (nb : ∀ b o, sI.heap.get? b = some o → b ∉ frs X.stack → B.get? b = some o) (up : sI.heap.UpToSlots s'.heap) (na : H' a = none) (os : s'.os = sI.os) (ag : AllBare s'.gens)
    (fl3 : HandSPX.FlyingZ B (X.env :: X.outer) a (Zc cls d) h3) (up3 : s'.heap.UpToSlots h3) : ∀ {hds : List ExceptHandler} {l : List (Value × HTs)}, HdsAs X n hds l → wAsL X.K i Wout D l cls d σ' H' →
    wpAny (model X.prog X.w) X.A (handleBy (.ref a) X.env hds) (SP X pins D) X.xe { s' with heap := h3 } := by
  have J3 : Inv X pins σ' H' { s' with heap := h3 } := J.landed nb fl3.1 (up.trans up3) os ag
  obtain ⟨oe3, vs3, he3, hz3, hd3⟩ := fl3.there
  have apart : ∀ {h : Heap} {o : Obj} {vs : Array Value}, h.FunFrames B (X.env :: X.outer) → h.get? a = some o → o.data = .fields vs → a ∉ frs (X.env :: X.outer) := by
    intro h o vs ff e dd hm
    obtain ⟨_, o', e', hnf⟩ := ff.mem hm
    cases e.symm.trans e'
    exact hnf _ dd
  have nfr := apart fl3.2.2.1 he3 hd3
  have nL : a ≠ X.env.locals := fun z => nfr (List.mem_filterMap.mpr ⟨X.env, List.mem_cons_self, hf.trans (congrArg some z.symm)⟩)
  have nF : a ∉ X.fs := by
    intro hm
    obtain ⟨e, he, q⟩ := List.mem_filterMap.mp hm
    exact nfr (List.mem_filterMap.mpr ⟨e, List.mem_cons_of_mem _ he, q⟩)
  have S3 := J3.suite he3 hd3 na nL nF
  have looks : PySem.W.Looks (model X.prog X.w) h3 (typeOf (.ref a)) cls := fun A Q E s k q => wpAny_typeOf_ref (k _ _ he3) (hz3.1.symm ▸ q)
  intro hds l hh
  induction hh with
  | nil =>
    intro hw
    refine wpAny_handleBy_nil ?_
    obtain ⟨_, _, _, oe, vs, T, oT, ts', he, hz, hd, h1, hr⟩ := id fl3
    unfold PySem.passOn
    refine wpAny_bind (wpAny_field he hd h1 ?_)
    rw [if_neg (show ¬ ((Value.ref T == Value.none) = true) from by simp)]
    have out : wpAny (model X.prog X.w) X.A (setFlight (.ref a) X.env.frame) (fun _ s4 => wpAny (model X.prog X.w) X.A (throw (.ref a) : Sem Flow) (SP X pins D) X.xe s4) X.xe { s' with heap := h3 } := by
      rw [hf]
      refine HandSPX.setFlight_upZ fl3 fun h4 hh4 up4 => wpAny_throw (tk _ _ ⟨a, B, sI, pins, σ', H', cls, d, rfl, J, nb, (up.trans up3).trans up4, .inr (.inr (hs ▸ hh4)), na, os, ag, hw⟩)
    first | exact wpAny_bind (wpAny_pure (wpAny_bind out)) | exact wpAny_bind out
  | cons hc hsu r ih =>
    rename_i x c ts b0 suite np pos' hds l
    rintro ⟨b, hb, hyes, hno⟩
    have looksM := PySem.W.exm_one (M := model X.prog X.w) J3.kIn looks hb
    refine wpAny_handleBy_cons (codeAny_handlers_test ?_) (by intro q; cases q)
    have test : ∀ {Q E : Value → Shared → Prop}, Q c { s' with heap := h3 } → wpAny (model X.prog X.w) (X.A.mark (some (.ref a))) (eval (.Name x np) X.env) Q E { s' with heap := h3 } := by
      intro Q E q
      obtain ⟨hg, hdbg, hm | ⟨hm, hv, hnn⟩⟩ := hc
      · exact ld_glob (X := X.suite a ((a, oe3) :: (X.pn ++ pins))) S3 hg hm q hdbg
      · exact ld_blt (X := X.suite a ((a, oe3) :: (X.pn ++ pins))) S3 hg hm hv q hnn hdbg
    refine test (looksM.here ?_)
    cases b with
    | false => exact ih (hno rfl)
    | true =>
      refine codeAny_handlers_suite_as (HandSPX.lands_againZ fl3 fun h4 fl4 up4 => ?_)
      have J4 : Inv X pins σ' H' { s' with heap := h4 } := J.landed nb fl4.1 ((up.trans up3).trans up4) os ag
      obtain ⟨oe4, vs4, he4, hz4, hd4⟩ := fl4.there
      have S4 := J4.suite he4 hd4 na nL nF
      refine store_ok (X := X.suite a ((a, oe4) :: (X.pn ++ pins))) (v := .ref a) S4 hN hi (.inl hln) rfl (fun s5 S5 => ?_) (.inr hln)
      refine wpAny_mono ((hsu a oe4 cls d (X.pn ++ pins) hz4 ⟨_, hd4⟩).run [] s5 _ H' _ S5 (hyes rfl a na)) (fun f s6 hsp => ?_) (fun _ _ z => z.elim)
      have gone : ∀ {σ6 : L2.St} {H6 : Hp} {Q : Shared → Prop}, Inv (X.suite a ((a, oe4) :: (X.pn ++ pins))) [] σ6 H6 s6 → (∀ s7, Inv X pins (σ6.set i none) H6 s7 → Q s7) →
          wpAny (model X.prog X.w) X.A (do bindName X.env n .none; unbindBehindTheSuite X.env n pos') (fun _ s7 => Q s7) X.xe s6 := fun S6 hq => gone_ok (S6.unsuite ok) hN hi hln hq
      cases f with
      | ret u =>
        obtain ⟨v6, σ6, H6, S6, r6, q6⟩ := hsp
        exact gone S6 fun s7 J7 => ⟨_, _, _, J7, r6, q6⟩
      | next => obtain ⟨σ6, H6, S6, q6⟩ := hsp; exact gone S6 fun s7 J7 => ⟨_, _, J7, q6⟩
      | brk => obtain ⟨σ6, H6, S6, q6⟩ := hsp; exact gone S6 fun s7 J7 => ⟨_, _, J7, q6⟩
      | cont => obtain ⟨σ6, H6, S6, q6⟩ := hsp; exact gone S6 fun s7 J7 => ⟨_, _, J7, q6⟩
/-- try: body, the clauses from the left -/
theorem try_asL {body : List Stmt} {h0 : ExceptHandler} {hds : List ExceptHandler} {l : List (Value × HTs)} {pos : Pos} {tb : WX → TS} (hs : X.stack = X.env :: X.outer) (hf : X.env.frame = some X.env.locals) (hN : X.N.Nodup) (hi : X.N[i]? = some n) (hln : X.env.kindOf n = some .local) (tk : L2.Takes X Wout)
    (hb : ∀ (W : WX) (pn : List (Addr × Obj)) (xe : Value → Shared → Prop), L2.Takes (X.tr pn xe) W → PassesOwn (model X.prog X.w) X.A X.env xe → PSs (X.tr pn xe) body (tb W)) (hh : HdsAs X n (h0 :: hds) l) :
    PS X (.Try body (h0 :: hds) [] [] pos) (fun D σ H => tb (wAsL X.K i Wout D l) D σ H) := by
  refine ⟨fun pins s σ H D I h => wpAny_Try_except ?_⟩
  have ok := I.ok
  have frames : X.A.frames = some (X.env :: X.outer) := ok.frames.trans (congrArg some hs)
  have caught : ∀ (xe : Value → Shared → Prop) (u : Value) (s' : Shared), L2.XE (X.tr (X.pn ++ pins) xe) (wAsL X.K i Wout D l) u s' → wpAny (model X.prog X.w) X.A (noteFrame u X.env) (fun _ s2 => wpAny (model X.prog X.w) X.A (setFlight u none) (fun _ s3 => wpAny (model X.prog X.w) X.A (handleBy u X.env (h0 :: hds)) (SP X pins D) X.xe s3) X.xe s2) X.xe s' := by
    rintro xe u s' ⟨a, B, sI, pins', σ', H', cls, d, rfl, J', nb, up, sky, na, os, ag, q⟩
    refine Sky.land Zc.steady frames hf (hs ▸ sky) fun h3 fl3 up3 => ?_
    exact catches hs hf hN hi hln tk ok (J'.ofTry ok) nb up na os ag fl3 up3 hh q
  refine wpAny_mono ((hb (wAsL X.K i Wout D l) (X.pn ++ pins) (fun e s1 => wpAny (model X.prog X.w) X.A (noteFrame e X.env) (fun _ s2 => wpAny (model X.prog X.w) X.A (setFlight e none) (fun _ s3 => wpAny (model X.prog X.w) X.A (handleBy e X.env (h0 :: hds)) (SP X pins D) X.xe s3) X.xe s2) X.xe s1) (fun u s' xx => caught _ u s' xx) PassesOwn.looking).run [] s σ H D (I.toTry _) h) (fun f s1 hsp => ?_) (fun e s1 he => he)
  cases f with
  | next => obtain ⟨σ', H', J', q⟩ := hsp; exact wpAny_execs_nil ⟨σ', H', J'.ofTry ok, q⟩
  | brk => obtain ⟨σ', H', J', q⟩ := hsp; exact ⟨σ', H', J'.ofTry ok, q⟩
  | cont => obtain ⟨σ', H', J', q⟩ := hsp; exact ⟨σ', H', J'.ofTry ok, q⟩
  | ret u => obtain ⟨v, σ', H', J', r, q⟩ := hsp; exact ⟨v, σ', H', J'.ofTry ok, r, q⟩
end
/-! at the level of data: each clause «return [tag, e.field]» -/
abbrev Cl := Str × Str × Str
inductive HdD (P : Program) (K : Fg) (mg : Str → Option Value) {ι : Type} (X : ι → Cx) (n : Str) : List ExceptHandler → List Cl → Prop
  | nil : HdD P K mg X n [] []
  | cons {x fld tag : Str} {np p1 p2 p3 p4 p5 pos' : Pos} {j1 : Nat} {hds : List ExceptHandler} {cs : List Cl} (c : XC P K mg x fld) (r : HdD P K mg X n hds cs) (hg : ∀ i, Gl (X i) x := by intro _; rfl) (hd : (x == ("__debug__" : Str)) = false := by decide)
      (hab : ∀ i, attributeBase (.Name n p2) fld (X i).env (eval (.Name n p2) (X i).env) = eval (.Name n p2) (X i).env := by intro _; rfl) :
      HdD P K mg X n (.ExceptHandler (some (.Name x np)) (some n) [.Return (some (.List [.Constant (.str tag) j1 p1, .Attribute (.Name n p2) fld p3] p4)) p5] pos' :: hds) ((x, fld, tag) :: cs)
/-- of a clause and one behind it: who is raised for the later isn't caught by the earlier -/
def Apart (K : Fg) (mg : Str → Option Value) (c c' : Cl) : Prop := ∀ C C', mg c.1 = some (.ref C) → mg c'.1 = some (.ref C') → PySem.W.exmOne K (.ref C') (.ref C) = some false
def tsOf (v : Nat) (C : Addr) (c : Cl) : HTs := fun a cls d => tRet (tLst (tCons (tC (.str c.2.2)) (tCons (tXf a cls d C c.2.1 (tVar v)) tNil)))
inductive LL (K : Fg) (mg : Str → Option Value) (v : Nat) : List Cl → List (Value × HTs) → Prop
  | nil : LL K mg v [] []
  | cons {c : Cl} {C : Addr} {cs : List Cl} {l : List (Value × HTs)} (hm : mg c.1 = some (.ref C)) (he : PySem.W.exmOne K (.ref C) (.ref C) = some true) (r : LL K mg v cs l) : LL K mg v (c :: cs) ((.ref C, tsOf v C c) :: l)
section
variable {P : Program} {w : World} {K : Fg} {mg : Str → Option Value} {base : Heap} {k : Nat} {N : List Str} {W : Wx} {ι : Type} {X : ι → Cx} {n : Str} {v : Nat}
theorem hds_of (hX : FamG P w K mg base k N X) (hi : N[v]? = some n) (hv : ∀ j, Vis (X j).env.scope n) (hdn : (n == ("__debug__" : Str)) = false) (hcn : (n == ("__classdict__" : Str)) = false) :
    ∀ {hds : List ExceptHandler} {cs : List Cl}, HdD P K mg X n hds cs → ∃ l, (∀ i, HdsAs (X i) n hds l) ∧ LL K mg v cs l := by
  intro hds cs hh
  induction hh with
  | nil => exact ⟨[], fun _ => .nil, .nil⟩
  | cons c r hg hd hab ih =>
    obtain ⟨l, h1, h2⟩ := ih
    obtain ⟨C, fI, B, newId, initId, bmB, D, T, hm, hex⟩ := c
    rename_i x fld tag np p1 p2 p3 p4 p5 pos' j1 hds cs
    refine ⟨(.ref C, tsOf v C (x, fld, tag)) :: l, fun i => .cons ⟨hg i, hd, Or.inl (by rw [hX.mg i]; exact hm)⟩ (fun a oe cls d pn hz hfl => ?_) (h1 i), .cons hm hex h2⟩
    refine pss_one (L2.ps_ret (pe_lst (L2.pa_cons pe_str (L2.pa_cons (pe_xf ?_ ?_ hz hfl (pe_var (by exact (hX.hN i) ▸ hi) (hv i) hdn hcn) (hab i)) L2.pa_nil))))
    · show XfC (X i).K C; rw [hX.K i]; exact xfc_of T
    · show PySem.W.findIn (X i).K (.ref C) fld = some none; rw [hX.K i]; exact T.noN
def sTrys (cs : List Cl) (wb : WS) : WS := fun E ρ m => wb { nx := E.nx, rt := E.rt, bk := E.bk, ct := E.ct, ex := fun xx m' => ∃ c ∈ cs, c.1 = xx.cls ∧ c.2.1 = xx.fld ∧ E.rt (.lst [.str c.2.2, xx.val]) m' } ρ m
theorem catch_lift {S : Ends} {Wout : WX} {xx : Xn} {m' : Mem} {d : Option Addr} {σ' : L2.St} {G' F H' : Hp} {cls : Value} {Er : D → Mem → Prop} (hlen : v < σ'.length) (W' : Wd K G' m' F H') (rx : Xr K G' xx d) (hcls : mg xx.cls = some cls)
    (rt : ∀ d m2 v G2 H2, Er d m2 → Ex G' G2 → Wd K G2 m2 F H2 → Rp K G2 v d → S.rt v H2) : ∀ {cs : List Cl} {l : List (Value × HTs)}, LL K mg v cs l → cs.Pairwise (Apart K mg) → (∃ c ∈ cs, c.1 = xx.cls ∧ c.2.1 = xx.fld ∧ Er (.lst [.str c.2.2, xx.val]) m') → wAsL K v Wout S l cls d σ' H' := by
  intro cs l ll
  induction ll with
  | nil => rintro _ ⟨c, hc, _⟩; exact nomatch hc
  | cons hm he r ih =>
    rename_i c C cs l
    intro hp h
    obtain ⟨p1, p2⟩ := List.pairwise_cons.mp hp
    by_cases e : c.1 = xx.cls ∧ c.2.1 = xx.fld ∧ Er (.lst [.str c.2.2, xx.val]) m'
    · obtain ⟨q1, q2, q3⟩ := e
      rw [← q1, hm] at hcls
      cases hcls
      obtain ⟨dd, u, ed, eg, ru⟩ := rx
      refine ⟨true, he, fun _ a ha => ?_, fun z => nomatch z⟩
      refine ⟨.ref a, by rw [List.getElem?_set_self hlen], rfl, rfl, dd, [(xx.fld, u)], u, ed, W'.ex _ _ eg, by rw [q2]; simp [List.lookup], ?_, fun p hp => ?_⟩
      · show 2 ≤ sizeLine
        rw [sizeLine_eq]; decide
      · obtain ⟨e2, W2⟩ := W'.new hp (.lst [.str c.2.2, u])
        exact rt _ m' _ _ _ q3 e2 W2 (.lst upd_same (.cons (.str _) (.cons (ru.mono e2) .nil)))
    · obtain ⟨c', hc', q⟩ := h
      have hin : c' ∈ cs := by
        rcases List.mem_cons.mp hc' with z | z
        · subst z; exact absurd q e
        · exact z
      have hm' : ∃ C', mg c'.1 = some (.ref C') := by
        have look : ∀ {cs : List Cl} {l : List (Value × HTs)}, LL K mg v cs l → ∀ c ∈ cs, ∃ C', mg c.1 = some (.ref C') := by
          intro cs l ll
          induction ll with
          | nil => intro c hc; exact nomatch hc
          | cons hm _ _ ih =>
            intro c hc
            rcases List.mem_cons.mp hc with z | z
            · subst z; exact ⟨_, hm⟩
            · exact ih c z
        exact look r c' hin
      obtain ⟨C', hm'⟩ := hm'
      have ec : cls = .ref C' := by
        rw [← q.1, hm'] at hcls
        exact (Option.some.inj hcls).symm
      refine ⟨false, by rw [ec]; exact p1 c' hin C C' hm hm', (fun z => Bool.noConfusion z), fun _ => ih p2 ⟨c', hin, q⟩⟩
theorem ps_tryRs {body : List Stmt} {wb : WS} {h0 : ExceptHandler} {hds : List ExceptHandler} {cs : List Cl} {pos : Pos} (hX : FamG P w K mg base k N X) (tk : ∀ i, Takes (X i) (toWX mg W)) (v : Nat) (hh : HdD P K mg X n (h0 :: hds) cs) (hp : cs.Pairwise (Apart K mg))
    (hb : ∀ W0 : WX, PDB K (byLen mg N W0) (TrF X W0) body wb) (hi : N[v]? = some n := by rfl)
    (hs : ∀ i, (X i).stack = (X i).env :: (X i).outer := by intro _; rfl) (hf : ∀ i, (X i).env.frame = some (X i).env.locals := by intro _; rfl) (hln : ∀ i, (X i).env.kindOf n = some .local := by intro _; rfl)
    (hv : ∀ j, Vis (X j).env.scope n := by intro _; first | exact Or.inl rfl | exact Or.inr (Or.inl rfl) | exact Or.inr (Or.inr rfl)) (hdn : (n == ("__debug__" : Str)) = false := by decide) (hcn : (n == ("__classdict__" : Str)) = false := by decide) :
    PDS K W X (.Try body (h0 :: hds) [] [] pos) (sTrys cs wb) := by
  obtain ⟨l, h1, h2⟩ := hds_of hX hi hv hdn hcn hh
  refine ⟨fun D σ H => Classical.choose (hb (wAsL K v (toWX mg W) D l)) D σ H, fun i => ?_, ?_⟩
  · have q := try_asL (X := X i) (i := v) (pos := pos) (Wout := toWX mg W) (tb := fun W0 => Classical.choose (hb W0)) (hs i) (hf i) (by rw [hX.hN i]; exact hX.nd) (by rw [hX.hN i]; exact hi) (hln i) (tk i) (fun W0 pn xe t po => (Classical.choose_spec (hb W0)).1 ⟨(i, pn, xe), t, po⟩) (h1 i)
    rw [hX.K i] at q
    exact q
  · intro G m F H σ ρ S E hW hE h ft
    refine (Classical.choose_spec (hb (wAsL K v (toWX mg W) S l))).2 G m F H σ ρ S _ hW hE h ⟨ft.nx, ft.rt, ft.bk, ft.ct, ?_⟩
    intro xx m' d σ' G' H' hx e W' rx hlen cls hcls
    have hvl : v < σ'.length := by
      rw [hlen]
      exact (List.getElem?_eq_some_iff.mp hi).1
    exact catch_lift hvl W' rx hcls (fun d m2 u G2 H2 q e2 => ft.rt d m2 u G2 H2 q (e.trans e2)) h2 hp hx
end
end DL
/-! XY: for i, x in enumerate(list) -/
namespace DL
open PySem L2 XO
open Evl (Ex)
section
variable {K : Fg} {W : Wx} {ι : Type} {X : ι → Cx} {pos : Pos} {a : Expr} {wr : WA}
def enumD (ds : List D) : List D := ds.mapIdx fun i d => .tup [.int (i : Nat), d]
theorem enumD_len (ds : List D) : (enumD ds).length = ds.length := by unfold enumD; rw [List.length_mapIdx]
def iEnumD (wr : WA) : WA := fun ρ m Q Qx => wr ρ m (fun ds m1 => match ds with
  | [.lst xs] => Q (enumD xs) m1
  | _ => False) Qx
theorem pi_enumD {mg : Str → Option Value} {p tpos : Pos} {elts : List Expr} {kk : Nat} (hK : ∀ i, (X i).K = K) (hX : ∀ i, (X i).mg = mg) (hm : mg "enumerate" = none) (ha : PDA K W X [a] wr) (hg : ∀ i, Gl (X i) "enumerate" := by intro _; rfl)
    (hs : ∀ i, starEach [a] (X i).env = [(false, eval a (X i).env)] := by intro _; rfl) : PDI K W X (.Tuple elts kk tpos) (.Call (.Name "enumerate" p) [a] [] pos) (iEnumD wr) := by
  obtain ⟨t, h1, h2⟩ := ha
  refine ⟨iEnum K t, fun i => hK i ▸ pi_enum (hg i) (by rw [hX i]; exact hm) (h1 i) (hs i), ?_⟩
  intro G m F H σ ρ R Qd Qx hW hE h hX hR
  refine h2 G m F H σ ρ _ _ Qx hW hE h hX ?_
  intro ds m1 vs G1 H1 q e1 W1 r1
  split at q
  · rename_i ds
    cases r1 with
    | cons r1 t =>
      cases t
      cases r1 with
      | lst hx rx =>
        refine ⟨_, _, rfl, SqL.of (W1.ex _ _ hx), hR _ _ _ _ _ q e1 W1 ?_⟩
        refine ⟨_, _, by rw [enumD_len, ← rx.len]; exact walk_enum, fun G2 m F H e W => ⟨SqL.of (W.ex _ _ (e _ _ hx)), ?_⟩⟩
        rintro i H' x d hd ⟨T, u, v, rfl, hT, rfl, hu, hv⟩
        unfold enumD at hd
        rw [List.getElem?_mapIdx] at hd
        cases hz : ds[i]? with
        | none => rw [hz] at hd; cases hd
        | some d0 =>
          rw [hz] at hd
          cases hd
          obtain ⟨v', hv', rv⟩ := rx.at hz
          cases hv'.symm.trans hv
          cases (show some (V.int (i : Nat)) = some u from hu)
          obtain ⟨e2, W2⟩ := W.new hT (.tup [.int (i : Nat), v])
          exact ⟨_, e2, W2, .tup (SqT.of upd_same) (.cons (.int _) (.cons (rv.mono (e.trans e2)) .nil))⟩
  · cases q
end
end DL
/-! XZ: enumerate(tuple) -/
namespace DL
open PySem L2 XO
open AutoSeq1 (wpAny_loadPart')
open Evl (Ex)
/-- the iterator of a tuple, as it begins -/
abbrev tupIt (l : Addr) : Obj := { cls := .type "tuple_iterator", data := .fields #[.ref l, .int 0 0] }
abbrev enumOver (it : Addr) : Obj := { cls := .type "enumerate", data := .fields #[.none, .bool false, .ref it, rawInt 0, .none, .none] }
theorem new_enumT (l : Addr) (items : Array Value) (n : Nat) (dct : Option Addr) (sl : Array (Option Value)) :
    Meets (Builtin.«enumerate.__new__» ⟨[.type "enumerate", .ref l], []⟩) (fun _ R s => s.heap.get? l = some { cls := .type "tuple", dict := dct, data := .seq items n, slots := sl } ∧
      R (.ok (.ret (.ref (s.heap.push (tupIt l)).objs.size))) { s with heap := (s.heap.push (tupIt l)).push (enumOver s.heap.objs.size) }) :=
  .of_wp fun prog w A R s h => by
    obtain ⟨hp, gn, dr, tk, os⟩ := s
    obtain ⟨hl, h⟩ := h
    have k_sub := sub_enumerate
    have isT : Heap.IsTuple (Shared.heap ⟨hp, gn, dr, tk, os⟩) l items := ⟨_, hl, rfl, n, rfl⟩
    wp_walk using wpAny_loadPart' hl
    refine wpAny_stack_any fun st => wpAny_pure ?_
    split
    · rename_i c _ _ _ _ _
      cases (c == Value.type "enumerate") <;>
      · wp_walk using wpAny_loadPart' hl, wpAny_pyIter_tuple isT
        exact ⟨_, rfl, h⟩
    · wp_walk using wpAny_loadPart' hl, wpAny_pyIter_tuple isT
      exact ⟨_, rfl, h⟩
section
variable {prog : Program} {w : World} {A : Around} {E : Value → Shared → Prop} {s : Shared}
theorem call_enumT {l : Addr} {items : Array Value} {Q : Value → Shared → Prop} (isT : s.heap.IsTuple l items)
    (told : ∀ h', IsEnum h' (s.heap.objs.size + 1) s.heap.objs.size 0 .none → h'.IsTupleIter s.heap.objs.size l 0 → h'.objs.size = s.heap.objs.size + 2 → (∀ b o, s.heap.get? b = some o → h'.get? b = some o) → Q (.ref (s.heap.objs.size + 1)) { s with heap := h' }) :
    wpAny (model prog w) A (call (.type "enumerate") [.ref l]) Q E s := by
  obtain ⟨⟨c, dct, dt, sl⟩, hl, hc, n, hd⟩ := isT
  obtain rfl : c = .type "tuple" := hc
  obtain rfl : dt = .seq items n := hd
  refine callType_new F.called_enumerate (by decide) (F.typeCall_enumerate_1 _) (F.newCall_enumerate_1 _) (fun obj => F.args_object_init_2 obj _) F.entry_enumerate_new (new_enumT l items n dct sl) ⟨hl, ?_⟩
  have size1 : (s.heap.push (tupIt l)).objs.size = s.heap.objs.size + 1 := Heap.size_push ..
  show _ ∧ _
  rw [size1]
  have he : IsEnum ((s.heap.push (tupIt l)).push (enumOver s.heap.objs.size)) (s.heap.objs.size + 1) s.heap.objs.size 0 .none := by
    have q := Heap.get?_push_size (s.heap.push (tupIt l)) (o := enumOver s.heap.objs.size) rfl
    rw [size1] at q
    exact q
  exact ⟨⟨_, he, rfl⟩, told _ he ⟨_, Heap.get?_push_of_some _ (Heap.get?_push_size _ rfl), rfl, rfl⟩ (by rw [Heap.size_push, size1]) fun b o x => Heap.get?_push_of_some _ (Heap.get?_push_of_some _ x)⟩
end
/-- the tuple at a, each item in a new pair -/
def IteT (K : Fg) (a : Addr) : It :=
  ⟨fun i H => ∃ (xs : List V) (x : V), SqT K H a xs ∧ xs[i]? = some x, fun i H v H' => ∃ T x, v = .ref T ∧ H T = none ∧ H' = upd H T (.tup [.int (i : Nat), x]) ∧ ∀ xs, SqT K H a xs → xs[i]? = some x, fun i H => ∃ xs : List V, SqT K H a xs ∧ xs.length = i⟩
theorem turn_enumT {P : Program} {w : World} {K : Fg} {elts : List Expr} {kk : Nat} {tpos : Pos} (a e it : Addr) :
    Turn P w K (.Tuple elts kk tpos) (IteT K a) [e, it] e (fun i h => (∃ old, IsEnum h e it ((i : Nat) : Int) old) ∧ h.IsTupleIter it a i ∧ e ≠ it ∧ a ≠ it ∧ a ≠ e) where
  mem := List.mem_cons_self
  obj := by
    rintro i h ⟨⟨old, he⟩, ⟨o, ho, hc, hd⟩, _⟩ b hb
    rcases (show b = e ∨ b = it by simpa using hb) with z | z
    · subst z
      exact ⟨_, he, fun v q => nomatch q⟩
    · subst z
      exact ⟨o, ho, fun v q => by rw [hd] at q; cases q⟩
  keep := by
    rintro i h h' ⟨⟨old, he⟩, hi, hne⟩ k
    exact ⟨⟨old, k e (by simp) _ he⟩, hi.at fun o q => k it (by simp) o q, hne⟩
  item := by
    rintro X rfl rfl rfl hc i pins s σ H E I hf ⟨⟨old, he⟩, hit, hne, hai, hae⟩ ⟨xs, x, hq, hx⟩
    obtain ⟨its, rv, p, hz⟩ := I.tuple hq
    obtain ⟨u, hu, ru⟩ := rv.get hx
    have hel : e < s.heap.objs.size := Heap.lt_size he
    have hil : it < s.heap.objs.size := by obtain ⟨_, q, _⟩ := hit; exact Heap.lt_size q
    have isT : s.heap.IsTuple a its.toArray := p
    have calm : X.A.in1.handled = none := I.ok.hd hc
    have far : e ∉ [it, a] := by
      intro z
      rcases (show e = it ∨ e = a by simpa using z) with z | z
      · exact hne z
      · exact hae z.symm
    have hlt : i < its.toArray.size := by
      rw [List.size_toArray]
      exact (List.getElem?_eq_some_iff.mp hu).1
    refine wpAny_pyNext_enum_itemD (Draws.tuple calm it a hai its.toArray) he ⟨hit, isT⟩ hlt hne far fun y h' tk hy ho hst2 hT hsz hk => ?_
    obtain rfl : y = u := by
      have : its.toArray[i]? = some u := by simpa using hu
      exact Option.some.inj (hy.symm.trans this)
    refine ⟨_, rfl, wpAny_letOwnedTupleGo_enum (s := { s with heap := h', toks := tk + 1 }) ho fun h2 he2 sb => ?_⟩
    have hT2 : h2.get? s.heap.objs.size = some { cls := .type "tuple", data := .seq #[.int i tk, y] } := (sb.2 _ (Nat.ne_of_gt hel)).trans hT
    have laid : ObjOk X.prog X.w (upd H s.heap.objs.size (.tup [.int (i : Nat), x])) h2 s.heap.objs.size (.tup [.int (i : Nat), x]) :=
      ⟨by show 2 ≤ sizeLine; decide, [.int i tk, y], .cons ⟨_, rfl⟩ (.cons ru .nil), ⟨_, hT2, rfl, _, rfl⟩⟩
    have J : Inv X pins σ (upd H s.heap.objs.size (.tup [.int (i : Nat), x])) { s with heap := h2, toks := tk + 1 } :=
      I.turnedNew (ch := [e, it]) (fun b ob hb q => (sb.2 b (fun z => hb (by simp [z]))).trans (hk b ob (fun z => hb (by simp [z])) (fun z => hb (by simp [z])) q)) hf (Nat.le_refl _) laid
    refine ⟨.ref s.heap.objs.size, _, J, rfl, ⟨_, x, rfl, I.hok.fresh (Nat.le_refl _), rfl, fun ys hy => by rw [I.tuple_inj hy hq]; exact hx⟩, ⟨⟨y, ?_⟩, hst2.1.at fun o q => (sb.2 it (Ne.symm hne)).trans q, hne, hai, hae⟩, fun b hb => ?_⟩
    · have e1 : ((i + 1 : Nat) : Int) = (i : Int) + 1 := by omega
      rw [e1]
      exact he2
    · have below : b < s.heap.objs.size := by
        rcases (show b = e ∨ b = it by simpa using hb) with z | z
        · exact z ▸ hel
        · exact z ▸ hil
      rw [upd_ne (Nat.ne_of_lt below)]
      exact (hf b hb).1
  done := by
    rintro X rfl rfl rfl hc i pins s σ H E I hf ⟨⟨old, he⟩, hit, hne, hai, hae⟩ ⟨xs, hq, hx⟩
    obtain ⟨its, rv, p, hz⟩ := I.tuple hq
    have isT : s.heap.IsTuple a its.toArray := p
    have calm : X.A.in1.handled = none := I.ok.hd hc
    obtain ⟨f0, f1, f2, f3, f4, f5⟩ := hf it (by simp)
    have ei : i = its.toArray.size := by rw [List.size_toArray, ← rv.length, hx]
    rw [ei] at hit
    exact wpAny_pyNext_enum_endD (Draws.tuple calm it a hai its.toArray) he ⟨hit, isT⟩ fun h' eb => ⟨rfl, I.turned (t' := s.toks) (fun b o hb q => eb b o hb q) f0 f1 f3 f4 f5⟩
  self := fun A i s Q E st h => let ⟨⟨_, he⟩, _⟩ := st; wpAny_pyIter_enum he h
theorem walk_enumT {K : Fg} {a : Addr} {xs : List V} : Walk (IteT K a) xs.length (fun H => SqT K H a xs) (YPair (fun i => some (.int (i : Nat))) (fun i => xs[i]?)) where
  goes := by
    rintro i H hi q
    exact ⟨xs, _, q, List.getElem?_eq_getElem hi⟩
  stops := by
    rintro H q
    exact ⟨xs, q, rfl⟩
  yields := by
    rintro i H v H' hi q ⟨T, x, ev, fresh, eH, kx⟩
    exact ⟨T, _, x, ev, fresh, eH, rfl, kx xs q⟩
def iEnumA (K : Fg) (ta : TA) : TI := fun σ H R => ta σ H fun vs H1 => ∃ a xs, vs = [.ref a] ∧ ((SqL K H1 a xs ∧ R (Ite K a) H1) ∨ (SqT K H1 a xs ∧ R (IteT K a) H1))
theorem pi_enumT {X : Cx} {e : Expr} {ta : TA} {p pos tpos : Pos} {elts : List Expr} {kk : Nat} (hg : Gl X "enumerate") (hm : X.mg "enumerate" = none) (ha : PA X [e] ta) (hs : starEach [e] X.env = [(false, eval e X.env)] := by rfl) :
    PI X (.Tuple elts kk tpos) (.Call (.Name "enumerate" p) [e] [] pos) (iEnumA X.K ta) := by
  refine ⟨fun pins s σ H R I h => ?_⟩
  refine PyProof.Rows.Call_ (ld_blt I hg hm PyProof.Rows.boot_enumerate (PyProof.Rows.callWith_type1 (thn (ha.run pos pins s σ H _ I h) fun us s1 ⟨vs, H1, I1, r1, q1⟩ => ?_) hs rfl))
  obtain ⟨a, xs, rfl, q1⟩ := q1
  cases r1 with
  | cons r rr =>
    cases rr
    cases r
    have two : ∀ b, b ∈ [s1.heap.objs.size + 1, s1.heap.objs.size] → s1.heap.objs.size ≤ b := by
      intro b hb
      rcases (show b = s1.heap.objs.size + 1 ∨ b = s1.heap.objs.size by simpa using hb) with z | z
      · exact z ▸ Nat.le_add_right _ _
      · exact z ▸ Nat.le_refl _
    rcases q1 with ⟨hq, q⟩ | ⟨hq, q⟩
    · obtain ⟨its, rv, p', hz⟩ := I1.list hq
      refine PySem.call_enumerate_list p'.isList fun h' he hit hsz hk => wpAny_pyIter_enum he ?_
      have J : Inv X pins σ H1 { s1 with heap := h' } := I1.kept (t' := s1.toks) hk
      exact ⟨s1.heap.objs.size + 1, [s1.heap.objs.size + 1, s1.heap.objs.size], _, _, H1, rfl, J, turn_enum a (s1.heap.objs.size + 1) s1.heap.objs.size, ⟨⟨.none, he⟩, hit, Nat.succ_ne_self _⟩, fun b hb => I1.fpOk (two b hb) (I1.hok.fresh (two b hb)), q⟩
    · obtain ⟨its, rv, p', hz⟩ := I1.tuple hq
      have isT : s1.heap.IsTuple a its.toArray := p'
      have low : a < s1.heap.objs.size := by obtain ⟨_, e0, _⟩ := isT; exact Heap.lt_size e0
      refine call_enumT isT fun h' he hit hsz hk => wpAny_pyIter_enum he ?_
      have J : Inv X pins σ H1 { s1 with heap := h' } := I1.kept (t' := s1.toks) hk
      exact ⟨s1.heap.objs.size + 1, [s1.heap.objs.size + 1, s1.heap.objs.size], _, _, H1, rfl, J, turn_enumT a (s1.heap.objs.size + 1) s1.heap.objs.size, ⟨⟨.none, he⟩, hit, Nat.succ_ne_self _, Nat.ne_of_lt low, Nat.ne_of_lt (Nat.lt_succ_of_lt low)⟩, fun b hb => I1.fpOk (two b hb) (I1.hok.fresh (two b hb)), q⟩
section
variable {K : Fg} {W : Wx} {ι : Type} {X : ι → Cx} {pos : Pos} {a : Expr} {wr : WA}
def iEnumB (wr : WA) : WA := fun ρ m Q Qx => wr ρ m (fun ds m1 => match ds with
  | [.lst xs] => Q (enumD xs) m1
  | [.tup xs] => Q (enumD xs) m1
  | _ => False) Qx
theorem enum_turn {G G2 : Hp} {xs : List V} {ds : List D} {m : Mem} {F H : Hp} (rx : RpA K G xs ds) (e : Ex G G2) (W : Wd K G2 m F H) : ∀ i H' x d, (enumD ds)[i]? = some d → YPair (fun i => some (.int (i : Nat))) (fun i => xs[i]?) i H x H' → ∃ G', Ex G2 G' ∧ Wd K G' m F H' ∧ Rp K G' x d := by
  rintro i H' x d hd ⟨T, u, v, rfl, hT, rfl, hu, hv⟩
  unfold enumD at hd
  rw [List.getElem?_mapIdx] at hd
  cases hz : ds[i]? with
  | none => rw [hz] at hd; cases hd
  | some d0 =>
    rw [hz] at hd
    cases hd
    obtain ⟨v', hv', rv⟩ := rx.at hz
    cases hv'.symm.trans hv
    cases (show some (V.int (i : Nat)) = some u from hu)
    obtain ⟨e2, W2⟩ := W.new hT (.tup [.int (i : Nat), v])
    exact ⟨_, e2, W2, .tup (SqT.of upd_same) (.cons (.int _) (.cons (rv.mono (e.trans e2)) .nil))⟩
theorem pi_enumB {mg : Str → Option Value} {p tpos : Pos} {elts : List Expr} {kk : Nat} (hK : ∀ i, (X i).K = K) (hX : ∀ i, (X i).mg = mg) (hm : mg "enumerate" = none) (ha : PDA K W X [a] wr) (hg : ∀ i, Gl (X i) "enumerate" := by intro _; rfl)
    (hs : ∀ i, starEach [a] (X i).env = [(false, eval a (X i).env)] := by intro _; rfl) : PDI K W X (.Tuple elts kk tpos) (.Call (.Name "enumerate" p) [a] [] pos) (iEnumB wr) := by
  obtain ⟨t, h1, h2⟩ := ha
  refine ⟨iEnumA K t, fun i => hK i ▸ pi_enumT (hg i) (by rw [hX i]; exact hm) (h1 i) (hs i), ?_⟩
  intro G m F H σ ρ R Qd Qx hW hE h hX hR
  refine h2 G m F H σ ρ _ _ Qx hW hE h hX ?_
  intro ds m1 vs G1 H1 q e1 W1 r1
  split at q
  · cases r1 with
    | cons r1 t =>
      cases t
      cases r1 with
      | lst hx rx => exact ⟨_, _, rfl, Or.inl ⟨SqL.of (W1.ex _ _ hx), hR _ _ _ _ _ q e1 W1 ⟨_, _, by rw [enumD_len, ← rx.len]; exact walk_enum, fun G2 m F H e W => ⟨SqL.of (W.ex _ _ (e _ _ hx)), enum_turn rx e W⟩⟩⟩⟩
  · cases r1 with
    | cons r1 t =>
      cases t
      cases r1 with
      | tup hx rx => exact ⟨_, _, rfl, Or.inr ⟨Evl.ex_t W1.ex hx, hR _ _ _ _ _ q e1 W1 ⟨_, _, by rw [enumD_len, ← rx.len]; exact walk_enumT, fun G2 m F H e W => ⟨Evl.ex_t W.ex (Evl.ex_t e hx), enum_turn rx e W⟩⟩⟩⟩
  · cases q
end
end DL
/-! XL: enumerate(text), repr with boxes, lists beside [], a, b, .. = a list -/
namespace DL
open PySem L2 XO
open AutoSeq1 (wpAny_loadPart')
open Evl (Ex)
/-! enumerate(text) -/
def IteS (z : Str) : It :=
  ⟨fun i _ => i < z.cps.size, fun i H v H' => ∃ T c, v = .ref T ∧ H T = none ∧ H' = upd H T (.tup [.int (i : Nat), .str ⟨#[c]⟩]) ∧ z.cps[i]? = some c, fun i _ => z.cps.size = i⟩
theorem turn_enumS {P : Program} {w : World} {K : Fg} {elts : List Expr} {kk : Nat} {tpos : Pos} (z : Str) (t : Tok) (e it : Addr) :
    Turn P w K (.Tuple elts kk tpos) (IteS z) [e, it] e (fun i h => (∃ old, IsEnum h e it ((i : Nat) : Int) old) ∧ h.IsStrIter it (strIterType z) z t i ∧ e ≠ it) where
  mem := List.mem_cons_self
  obj := by
    rintro i h ⟨⟨old, he⟩, ⟨o, ho, hc, hd⟩, _⟩ b hb
    rcases (show b = e ∨ b = it by simpa using hb) with q | q
    · subst q
      exact ⟨_, he, fun v q => nomatch q⟩
    · subst q
      exact ⟨o, ho, fun v q => by rw [hd] at q; cases q⟩
  keep := by
    rintro i h h' ⟨⟨old, he⟩, hi, hne⟩ k
    obtain ⟨o, ho, hc, hd⟩ := hi
    exact ⟨⟨old, k e (by simp) _ he⟩, ⟨o, k it (by simp) o ho, hc, hd⟩, hne⟩
  item := by
    rintro X rfl rfl rfl hc i pins s σ H E I hf ⟨⟨old, he⟩, hit, hne⟩ hlt
    have hel : e < s.heap.objs.size := Heap.lt_size he
    have hil : it < s.heap.objs.size := by obtain ⟨_, q, _⟩ := hit; exact Heap.lt_size q
    have calm : X.A.in1.handled = none := I.ok.hd hc
    have far : e ∉ [it] := fun q => hne (List.mem_singleton.mp q)
    refine wpAny_pyNext_enum_itemD (Draws.text calm it z t) he hit hlt hne far fun y h' tk hy ho hst2 hT hsz hk => ?_
    obtain ⟨c, u, hcc, rfl⟩ := hy
    refine ⟨_, rfl, wpAny_letOwnedTupleGo_enum (s := { s with heap := h', toks := tk + 1 }) ho fun h2 he2 sb => ?_⟩
    have hT2 : h2.get? s.heap.objs.size = some { cls := .type "tuple", data := .seq #[.int i tk, .str ⟨#[c]⟩ u] } := (sb.2 _ (Nat.ne_of_gt hel)).trans hT
    have laid : ObjOk X.prog X.w (upd H s.heap.objs.size (.tup [.int (i : Nat), .str ⟨#[c]⟩])) h2 s.heap.objs.size (.tup [.int (i : Nat), .str ⟨#[c]⟩]) :=
      ⟨by show 2 ≤ sizeLine; decide, [.int i tk, .str ⟨#[c]⟩ u], .cons ⟨_, rfl⟩ (.cons ⟨_, rfl⟩ .nil), ⟨_, hT2, rfl, _, rfl⟩⟩
    have J : Inv X pins σ (upd H s.heap.objs.size (.tup [.int (i : Nat), .str ⟨#[c]⟩])) { s with heap := h2, toks := tk + 1 } :=
      I.turnedNew (ch := [e, it]) (fun b ob hb q => (sb.2 b (fun z => hb (by simp [z]))).trans (hk b ob (fun z => hb (by simp [z])) (fun z => hb (by simp [z])) q)) hf (Nat.le_refl _) laid
    refine ⟨.ref s.heap.objs.size, _, J, rfl, ⟨_, c, rfl, I.hok.fresh (Nat.le_refl _), rfl, hcc⟩, ⟨⟨.str ⟨#[c]⟩ u, ?_⟩, (by obtain ⟨o, q1, q2, q3⟩ := hst2; exact ⟨o, (sb.2 it (Ne.symm hne)).trans q1, q2, q3⟩), hne⟩, fun b hb => ?_⟩
    · have e1 : ((i + 1 : Nat) : Int) = (i : Int) + 1 := by omega
      rw [e1]
      exact he2
    · have below : b < s.heap.objs.size := by
        rcases (show b = e ∨ b = it by simpa using hb) with q | q
        · exact q ▸ hel
        · exact q ▸ hil
      rw [upd_ne (Nat.ne_of_lt below)]
      exact (hf b hb).1
  done := by
    rintro X rfl rfl rfl hc i pins s σ H E I hf ⟨⟨old, he⟩, hit, hne⟩ hx
    have calm : X.A.in1.handled = none := I.ok.hd hc
    obtain ⟨f0, f1, f2, f3, f4, f5⟩ := hf it (by simp)
    have hx : z.cps.size = i := hx
    rw [← hx] at hit
    exact wpAny_pyNext_enum_endD (Draws.text calm it z t) he hit fun h' eb => ⟨rfl, I.turned (t' := s.toks) (fun b o hb q => eb b o hb q) f0 f1 f3 f4 f5⟩
  self := fun A i s Q E st h => let ⟨⟨_, he⟩, _⟩ := st; wpAny_pyIter_enum he h
theorem walk_enumS {z : Str} : Walk (IteS z) z.cps.size (fun _ => True) (fun i H v H' => ∃ T c, v = .ref T ∧ H T = none ∧ H' = upd H T (.tup [.int (i : Nat), .str ⟨#[c]⟩]) ∧ z.cps[i]? = some c) where
  goes := fun i H hi _ => hi
  stops := fun H _ => rfl
  yields := fun i H v H' hi _ q => q
def iEnumSA (ta : TA) : TI := fun σ H R => ta σ H fun vs H1 => ∃ z, vs = [.str z] ∧ R (IteS z) H1
theorem pi_enumSA {X : Cx} {e : Expr} {ta : TA} {p pos tpos : Pos} {elts : List Expr} {kk : Nat} (hg : Gl X "enumerate") (hm : X.mg "enumerate" = none) (ha : PA X [e] ta) (hs : starEach [e] X.env = [(false, eval e X.env)] := by rfl) :
    PI X (.Tuple elts kk tpos) (.Call (.Name "enumerate" p) [e] [] pos) (iEnumSA ta) := by
  refine ⟨fun pins s σ H R I h => ?_⟩
  refine PyProof.Rows.Call_ (ld_blt I hg hm PyProof.Rows.boot_enumerate (PyProof.Rows.callWith_type1 (thn (ha.run pos pins s σ H _ I h) fun us s1 ⟨vs, H1, I1, r1, q1⟩ => ?_) hs rfl))
  obtain ⟨z, rfl, q1⟩ := q1
  cases r1 with
  | cons r rr =>
    cases rr
    obtain ⟨t, rfl⟩ := r
    have two : ∀ b, b ∈ [s1.heap.objs.size + 1, s1.heap.objs.size] → s1.heap.objs.size ≤ b := by
      intro b hb
      rcases (show b = s1.heap.objs.size + 1 ∨ b = s1.heap.objs.size by simpa using hb) with q | q
      · exact q ▸ Nat.le_add_right _ _
      · exact q ▸ Nat.le_refl _
    refine call_enumerate_str fun h' he hit hsz hk => wpAny_pyIter_enum he ?_
    have J : Inv X pins σ H1 { s1 with heap := h' } := I1.kept (t' := s1.toks) hk
    exact ⟨s1.heap.objs.size + 1, [s1.heap.objs.size + 1, s1.heap.objs.size], _, _, H1, rfl, J, turn_enumS z t (s1.heap.objs.size + 1) s1.heap.objs.size, ⟨⟨.none, he⟩, hit, Nat.succ_ne_self _⟩, fun b hb => I1.fpOk (two b hb) (I1.hok.fresh (two b hb)), q1⟩
section
variable {K : Fg} {W : Wx} {ι : Type} {X : ι → Cx} {pos : Pos} {a : Expr} {wr : WA}
def iEnumS (wr : WA) : WA := fun ρ m Q Qx => wr ρ m (fun ds m1 => match ds with
  | [.str z] => Q (enumD (signs z)) m1
  | _ => False) Qx
theorem pi_enumS {mg : Str → Option Value} {p tpos : Pos} {elts : List Expr} {kk : Nat} (hX : ∀ i, (X i).mg = mg) (hm : mg "enumerate" = none) (ha : PDA K W X [a] wr) (hg : ∀ i, Gl (X i) "enumerate" := by intro _; rfl)
    (hs : ∀ i, starEach [a] (X i).env = [(false, eval a (X i).env)] := by intro _; rfl) : PDI K W X (.Tuple elts kk tpos) (.Call (.Name "enumerate" p) [a] [] pos) (iEnumS wr) := by
  obtain ⟨t, h1, h2⟩ := ha
  refine ⟨iEnumSA t, fun i => pi_enumSA (hg i) (by rw [hX i]; exact hm) (h1 i) (hs i), ?_⟩
  intro G m F H σ ρ R Qd Qx hW hE h hX hR
  refine h2 G m F H σ ρ _ _ Qx hW hE h hX ?_
  intro ds m1 vs G1 H1 q e1 W1 r1
  split at q
  · cases r1 with
    | cons r1 t =>
      cases t
      cases r1
      rename_i z
      refine ⟨z, rfl, hR _ _ _ _ _ q e1 W1 ?_⟩
      have hl : (enumD (signs z)).length = z.cps.size := by
        rw [enumD_len]
        unfold signs
        rw [List.length_map, Array.length_toList]
      refine ⟨_, _, hl ▸ walk_enumS (z := z), fun G2 m F H e W => ⟨trivial, ?_⟩⟩
      rintro i H' x d hd ⟨T, c, rfl, hT, rfl, hcc⟩
      unfold enumD signs at hd
      rw [List.getElem?_mapIdx, List.getElem?_map, Array.getElem?_toList, hcc] at hd
      cases hd
      obtain ⟨e2, W2⟩ := W.new hT (.tup [.int (i : Nat), .str ⟨#[c]⟩])
      exact ⟨_, e2, W2, .tup (SqT.of upd_same) (.cons (.int _) (.cons (.str _) .nil))⟩
  · cases q
end
/-! repr of a list, boxes looked up -/
def dReprM : WC := fun xs m Q => match xs with
  | [x] => ∃ ds, res m x = .lst ds ∧ ShowsU (.lst ds) ∧ Q (.str (py (.lst ds)).shown) m
  | _ => False
theorem b_reprM {P : Program} {w : World} {K : Fg} {mg : Str → Option Value} {base : Heap} {k : Nat} {N : List Str} {ι : Type} {X : ι → Cx} (hX : FamG P w K mg base k N X) : BiU K X (.builtin "repr") dReprM := by
  refine ⟨_, fun i => hX.K i ▸ call_reprU (hX.guards i) (by have := (hX.room i).un; omega), ?_⟩
  intro G m F H xs ds Q Qd hW r h hQ
  unfold dReprM at h
  split at h
  · obtain ⟨es, he, S, q⟩ := h
    cases r with
    | cons r1 t =>
      cases t
      have r2 := rp_res hW.adoptH r1
      rw [he] at r2
      have r3 := r2
      cases r2 with
      | lst hx rr => exact ⟨_, H, _, rfl, Ex.refl H, r3, S, hQ.here hW q (.str _)⟩
  · cases h
/-! a list beside the empty list -/
def rNil (K : Fg) (neg : Bool) : R2 := fun x y H Q => ∃ a b xs, x = .ref a ∧ y = .ref b ∧ SqL K H a xs ∧ SqL K H b [] ∧ Q (.bl (xs.isEmpty ^^ neg)) H
theorem sizes_ne {v : Value} {l : List Value} : ((v :: l).toArray.size != ([] : List Value).toArray.size) = true := by simp
theorem op_eqNil {X : Cx} (hu : X.A.units + 64 < cLine) : OpR X (compareOp .Eq) (rNil X.K false) := by
  rintro pins s σ H x y v u Q I rx ry ⟨a, b, xs, rfl, rfl, h1, h2, q⟩
  cases xs with
  | nil => exact op_eqD hu pins s σ H _ _ v u Q I rx ry ⟨.list [], .list [], .lst h1 .nil, .lst h2 .nil, by decide, by decide, q⟩
  | cons c xs =>
    cases rx; cases ry
    obtain ⟨its, rv, p, hz⟩ := I.list h1
    obtain ⟨its2, rv2, p2, hz2⟩ := I.list h2
    cases rv with
    | cons r1 rr =>
      cases rv2
      exact SeqAt.eq_list_lengthsAt p.isList p2.isList sizes_ne (by omega) ⟨.bl _, H, I, rfl, q⟩
theorem op_neNil {X : Cx} (hu : X.A.units + 64 < cLine) : OpR X (compareOp .NotEq) (rNil X.K true) := by
  rintro pins s σ H x y v u Q I rx ry ⟨a, b, xs, rfl, rfl, h1, h2, q⟩
  cases xs with
  | nil => exact op_neD hu pins s σ H _ _ v u Q I rx ry ⟨.list [], .list [], .lst h1 .nil, .lst h2 .nil, by decide, by decide, q⟩
  | cons c xs =>
    cases rx; cases ry
    obtain ⟨its, rv, p, hz⟩ := I.list h1
    obtain ⟨its2, rv2, p2, hz2⟩ := I.list h2
    cases rv with
    | cons r1 rr =>
      cases rv2
      exact SeqAt.RcNeAt.lists_lengths p.isList p2.isList sizes_ne (by omega) X.prog X.w _ _ ⟨.bl _, H, I, rfl, q⟩
def dNilB (neg : Bool) : WR := fun x y m Q => y = .lst [] ∧ ((∃ ds, x = .lst ds ∧ Q (.bl (ds.isEmpty ^^ neg)) m) ∨ (∃ a ds, x = .box a ∧ m a = some ds ∧ Q (.bl (ds.isEmpty ^^ neg)) m))
theorem lift_nil {K : Fg} {neg : Bool} : LiftR K (rNil K neg) (dNilB neg) := by
  rintro G m F H x y dx dy Q Qd hW rx ry ⟨rfl, h⟩ hQ
  cases ry with
  | lst hy ry =>
    cases ry
    rcases h with ⟨ds, rfl, q⟩ | ⟨a, ds, rfl, hm, q⟩
    · cases rx with
      | lst hx rx =>
        exact ⟨_, _, _, rfl, rfl, SqL.of (hW.ex _ _ hx), SqL.of (hW.ex _ _ hy), by rw [← (show ds.isEmpty = List.isEmpty _ by cases rx <;> rfl)]; exact hQ.here hW q (.bl _)⟩
    · cases rx
      obtain ⟨_, _, xs, hx, rx⟩ := hW.own _ _ hm
      exact ⟨_, _, xs, rfl, rfl, SqL.of hx, SqL.of (hW.ex _ _ hy), by rw [← (show ds.isEmpty = xs.isEmpty by cases rx <;> rfl)]; exact hQ.here hW q (.bl _)⟩
theorem c_eqNil {P : Program} {wo : World} {K : Fg} {mg : Str → Option Value} {base : Heap} {k : Nat} {N : List Str} {ι : Type} {X : ι → Cx} (hX : Fam P wo K mg base k N X) : CmpU K X .Eq (dNilB false) :=
  ⟨_, fun i => hX.K i ▸ op_eqNil (by have := (hX.room i).un; omega), lift_nil⟩
theorem c_neNil {P : Program} {wo : World} {K : Fg} {mg : Str → Option Value} {base : Heap} {k : Nat} {N : List Str} {ι : Type} {X : ι → Cx} (hX : Fam P wo K mg base k N X) : CmpU K X .NotEq (dNilB true) :=
  ⟨_, fun i => hX.K i ▸ op_neNil (by have := (hX.room i).un; omega), lift_nil⟩
/-! a, b, .. = a list, a tuple, a box -/
theorem pg_or {X : Cx} {tg : Expr} {t t' : TG} (h : PG X tg t) (h' : PG X tg t') : PG X tg (fun v σ H Q => t v σ H Q ∨ t' v σ H Q) := by
  refine ⟨fun pins s σ H v u Q I r hw => ?_⟩
  rcases hw with hw | hw
  · exact h.run pins s σ H v u Q I r hw
  · exact h'.run pins s σ H v u Q I r hw
def sUnp (n : Nat) (g : WGs) (w : WE) : WS := fun E ρ m => w ρ m (fun d m1 => ∃ ds, (d = .lst ds ∨ d = .tup ds ∨ ∃ a, d = .box a ∧ m1 a = some ds) ∧ ds.length = n ∧ g ds ρ (fun ρ' => E.nx ρ' m1)) E.ex
theorem ps_unp {K : Fg} {W : Wx} {ι : Type} {X : ι → Cx} {pos p' : Pos} {e : Expr} {es : List Expr} {kx n : Nat} {js : List Nat} {g : WGs} {we : WE} (hK : ∀ i, (X i).K = K) (hc : ∀ i, (X i).calm = true) (he : PD K W X e we) (h : PDGs K X es js g)
    (hn : ∀ i, (assignEach es (X i).env).length = n := by intro _; rfl) (hst : ∀ i, (assignEach es (X i).env).findIdx? (·.1) = none := by intro _; rfl)
    (hs : ∀ i, swapsWithSole [.Tuple es kx p'] e pos.line (X i).env = pure false := by intro _; rfl) (hw : ∀ i, swappedStores [.Tuple es kx p'] e (X i).env = pure none := by intro _; rfl)
    (h1 : ∀ i, (assignEach [.Tuple es kx p'] (X i).env).map (·.2) = [assign (.Tuple es kx p') (X i).env] := by intro _; rfl) : PDS K W X (.Assign [.Tuple es kx p'] e pos) (sUnp n g we) := by
  obtain ⟨te, e1, e2⟩ := he
  obtain ⟨t, a1, a2⟩ := h
  refine ⟨_, fun i => ps_asg (e1 i) (pg_or (hK i ▸ L2.pg_tup (hc i) (a1 i) (hn i) (hst i)) (hK i ▸ L2.pg_lst (hc i) (a1 i) (hn i) (hst i))) (hs i) (hw i) (h1 i), ?_⟩
  intro G m F H σ ρ S E hW hE h f
  refine e2 G m F H σ ρ _ _ E.ex hW hE h f.ex ?_
  rintro d m1 v G1 H1 ⟨ds, hd, hl, q⟩ ex1 W1 r1
  have fin : ∀ (xs : List V), RpA K G1 xs ds → t xs σ H1 S.nx := fun xs rr => a2 G1 m1 F H1 xs ds σ ρ _ _ W1 (hE.mono ex1) rr q fun ρ' σ' h' hE' _ => f.nx ρ' m1 σ' G1 H1 h' ex1 W1 hE'
  rcases hd with rfl | rfl | ⟨a, rfl, hm⟩
  · cases r1 with
    | lst hx rr => exact Or.inr ⟨_, _, rfl, SqL.of (W1.ex _ _ hx), by rw [rr.len]; exact hl, fin _ rr⟩
  · cases r1 with
    | tup hx rr => exact Or.inl ⟨_, _, rfl, Evl.ex_t W1.ex hx, by rw [rr.len]; exact hl, fin _ rr⟩
  · cases r1
    obtain ⟨_, _, xs, hx, rr⟩ := W1.own _ _ hm
    exact Or.inr ⟨_, _, rfl, SqL.of hx, by rw [rr.len]; exact hl, fin _ rr⟩
end DL
/-! XM: a dict beside a text -/
namespace DL
open PySem L2 XO SeqAt
open AutoSeq1 (wpAny_loadPart')
open Evl (Ex)
theorem dict_ne_no (l : Addr) (dt : Data) (dd : Option Addr) (sl : Array (Option Value)) (b : Str) (u : Tok) :
    Meets (Builtin.«dict.__ne__» ⟨[.ref l, .str b u], []⟩) (fun _ R s => s.heap.get? l = some { cls := .type "dict", dict := dd, data := dt, slots := sl } ∧ R (.ok (.ret .notImplemented)) s) :=
  .of_wp fun prog w A R s h => by
    obtain ⟨hp, g, d, tk, os⟩ := s
    obtain ⟨hl, h⟩ := h
    have f1 := F.sub_str_dict
    wp_walk using wpAny_loadPart' hl
    exact ⟨_, rfl, h⟩
theorem str_ne_no (b : Str) (u : Tok) (l : Addr) (c : Value) (ens) (epp) (dd : Option Addr) (sl : Array (Option Value)) :
    Meets (Builtin.«str.__ne__» ⟨[.str b u, .ref l], []⟩) (fun _ R s => s.heap.get? l = some { cls := c, dict := dd, data := .dict ens epp, slots := sl } ∧ R (.ok (.ret .notImplemented)) s) :=
  .of_wp fun prog w A R s h => by
    obtain ⟨hp, g, d, tk, os⟩ := s
    obtain ⟨hl, h⟩ := h
    wp_walk using wpAny_loadPart' hl, wpAny_load hl
    exact ⟨_, rfl, h⟩
theorem ne_dict_str {A : Around} {s : Shared} {l : Addr} {o : Obj} {ens epp} (b : Str) (u : Tok) (ho : s.heap.get? l = some o) (hc : o.cls = .type "dict") (hd : o.data = .dict ens epp) (hu : A.units < cLine) : RcNeAt A s (.ref l) (.str b u) true := fun prog w E Q h => by
  obtain ⟨cls, dd, data, sl⟩ := o
  simp only at hc hd
  subst hc hd
  exact rc_ne_decline_or (k := false) ⟨_, ho, rfl⟩ (typeIs_str s b u) (by decide) F.sub_str_dict F.slot_dict_ne F.slot_str_ne_refl
    (fun _ hq => call_meets F.slot_dict_ne ⟨_, ho, rfl⟩ F.entry_dict_ne (F.args_dict_ne_2 _ _) (dict_ne_no l _ dd sl b u) ⟨ho, hq⟩)
    (fun _ hq => call_meets F.slot_str_ne_refl (typeIs_str s b u) F.entry_str_ne (F.args_str_ne_2 _ _) (str_ne_no b u l (.type "dict") _ _ dd sl) ⟨ho, hq⟩)
    (fun _ hq => wpAny_of_eq (rfl : isSame (.ref l) (.str b u) = pure false) hq) (.inr hu) h
def rNeDS : R2 := fun x y H Q => ∃ a kvs z, x = .ref a ∧ y = .str z ∧ H a = some (.dK kvs) ∧ Q (.bl true) H
theorem op_neDS {X : Cx} (hu : X.A.units + 64 < cLine) : OpR X (compareOp .NotEq) rNeDS := by
  rintro pins s σ H x y v u Q I rx ry ⟨a, kvs, z, rfl, rfl, h1, q⟩
  cases rx
  obtain ⟨t, rfl⟩ := ry
  obtain ⟨_, _, vs, kv, o, es, ep, ho, hex, hd, _⟩ := dk_of I.hok h1
  exact ne_dict_str z t ho hex.1 hd (by omega) X.prog X.w _ _ ⟨.bl _, H, I, rfl, q⟩
/-- x != text, x may be a dict -/
def dNeS : WR := fun x y m Q => match x, y with
  | .dct _ _, .str _ => Q (.bl true) m
  | x, y => dNe x y m Q
theorem c_neS {P : Program} {wo : World} {K : Fg} {mg : Str → Option Value} {base : Heap} {k : Nat} {N : List Str} {ι : Type} {X : ι → Cx} (hX : Fam P wo K mg base k N X) : CmpU K X .NotEq dNeS := by
  obtain ⟨r, h1, h2⟩ := c_ne hX
  refine ⟨fun x y H Q => r x y H Q ∨ rNeDS x y H Q, fun i => (h1 i).or (op_neDS (by have := (hX.room i).un; omega)), ?_⟩
  intro G m F H x y dx dy Q Qd hW rx ry h hQ
  unfold dNeS at h
  split at h
  · cases rx with
    | dct hx _ _ _ =>
      cases ry
      exact Or.inr ⟨_, _, _, rfl, rfl, hW.ex _ _ hx, hQ.here hW h (.bl _)⟩
  · exact Or.inl (h2 G m F H x y dx dy Q Qd hW rx ry h hQ)
end DL
/-! XN: list(e) that is changed later, constants, clauses apart -/
namespace DL
open PySem L2 XO
open Evl (Ex)
section
variable {K : Fg} {W : Wx} {ι : Type} {X : ι → Cx} {pos : Pos}
/-- list(e), owned -/
def itemsD (m : Mem) : D → Option (List D)
  | .lst ds => some ds
  | .tup ds => some ds
  | .box a => m a
  | _ => none
def dListO : WC := fun xs m Q => match xs with
  | [x] => ∃ ds, itemsD m x = some ds ∧ ∀ p, m p = none → Q (.box p) (m.up p ds)
  | _ => False
theorem b_listO (hK : ∀ i, (X i).K = K) : BiU K X (.type "list") dListO := by
  refine ⟨_, fun i => hK i ▸ call_list_of, ?_⟩
  intro G m F H xs ds Q Qd hW r h hQ
  unfold dListO at h
  split at h
  · obtain ⟨es, hi, q⟩ := h
    have fin : ∀ ys, RpA K G ys es → ∀ p, H p = none → Q (.ref p) (upd H p (.lst ys)) := by
      intro ys rr p hp
      obtain ⟨hm, W'⟩ := hW.newOwn hp rr
      exact hQ _ _ _ G _ (q p hm) (Ex.refl G) W' (.box p)
    cases r with
    | cons r1 t =>
      cases t
      cases r1 with
      | lst hx rr => cases hi; exact ⟨_, _, rfl, Or.inl (SqL.of (hW.ex _ _ hx)), fin _ rr⟩
      | tup hx rr => cases hi; exact ⟨_, _, rfl, Or.inr (Evl.ex_t hW.ex hx), fin _ rr⟩
      | box a =>
        obtain ⟨_, _, ys, hy, ry⟩ := hW.own _ _ hi
        exact ⟨_, _, rfl, Or.inl (SqL.of hy), fin _ ry⟩
      | _ => cases hi
  · cases h
/-- a constant that is an object -/
theorem pd_globR {mg : Str → Option Value} {x : Str} {d : D} (hX : ∀ j, (X j).mg = mg) (hm : ∃ a, mg x = some (.ref a) ∧ ∀ G, Rp K G (.ref a) d) (hg : ∀ j, Gl (X j) x := by intro _; rfl) (hd : (x == ("__debug__" : Str)) = false := by decide) : PD K W X (.Name x pos) (wC d) := by
  obtain ⟨a, hm, r⟩ := hm
  exact pd_glob (v := V.ref a) hX hm rfl r hg hd
end
theorem rp_globT {K : Fg} {ss : List Str} {a : Addr} {o : Obj} {its : Array Value} {n : Nat} (lk : K.lookup a = some o) (oc : o.cls = .type "tuple") (od : o.data = .seq its n) (hz : its.size ≤ sizeLine) (hv : Vals (ss.map V.str) its.toList) : ∀ G, Rp K G (.ref a) (.tup (ss.map D.str)) :=
  fun G => .tup (Or.inr ⟨o, its, n, lk, oc, od, hz, hv⟩) (rp_strs ss)
/-- all arguments: those by position, those by name -/
def gApp : List D → List D → List D := fun ds es => ds ++ es
/-- no class of the names catches what is raised for another -/
def ApartAll (K : Fg) (mg : Str → Option Value) (l : List Str) : Prop := ∀ x ∈ l, ∀ y ∈ l, x ≠ y → ∀ C C', mg x = some (.ref C) → mg y = some (.ref C') → PySem.W.exmOne K (.ref C') (.ref C) = some false
theorem pw_of {K : Fg} {mg : Str → Option Value} {l : List Str} (h : ApartAll K mg l) : ∀ {cs : List Cl}, (∀ c ∈ cs, c.1 ∈ l) → (cs.map (·.1)).Nodup → cs.Pairwise (Apart K mg)
  | [], _, _ => .nil
  | c :: cs, hl, hn => by
    rw [List.map_cons, List.nodup_cons] at hn
    refine .cons (fun c' hc' C C' h1 h2 => ?_) (pw_of h (fun c hc => hl c (List.mem_cons_of_mem _ hc)) hn.2)
    refine h c.1 (hl c List.mem_cons_self) c'.1 (hl c' (List.mem_cons_of_mem _ hc')) (fun e => hn.1 ?_) C C' h1 h2
    rw [e]
    exact List.mem_map_of_mem hc'
end DL
namespace DL
open PySem L2 XO
def apartB (K : Fg) (cs : List (Str × Addr)) : Bool := cs.all fun p => cs.all fun q => p.1 == q.1 || PySem.W.exmOne K (.ref q.2) (.ref p.2) == some false
theorem apart_mk {K : Fg} {mg : Str → Option Value} {cs : List (Str × Addr)} (hm : ∀ p ∈ cs, mg p.1 = some (.ref p.2)) (h : apartB K cs = true) : ApartAll K mg (cs.map (·.1)) := by
  intro x hx y hy hne C C' h1 h2
  obtain ⟨p, hp, rfl⟩ := List.mem_map.mp hx
  obtain ⟨q, hq, rfl⟩ := List.mem_map.mp hy
  rw [hm p hp] at h1
  rw [hm q hq] at h2
  cases h1; cases h2
  have a := List.all_eq_true.mp (List.all_eq_true.mp h p hp) q hq
  rcases Bool.or_eq_true_iff.mp a with a | a
  · exact absurd (eq_of_beq a) hne
  · exact eq_of_beq a
end DL
namespace DL
open PySem L2 XO
theorem exm_other {K : Fg} {S T : Addr} (h1 : PySem.W.subIn K (.ref T) (.type "BaseException") = some true) (h2 : PySem.W.isClsIn K T = true) (h3 : PySem.W.typeIn K (.ref T) = some (.type "type")) (h4 : PySem.W.subIn K (.ref S) (.ref T) = some false) : PySem.W.exmOne K (.ref S) (.ref T) = some false := by
  unfold PySem.W.exmOne PySem.W.kitCls
  rw [if_pos (by rw [h1]; rfl)]
  show (if ((PySem.W.clsIn K T).isSome && PySem.W.typeIn K (.ref T) == some (.type "type")) = true then PySem.W.subIn K (.ref S) (.ref T) else none) = some false
  rw [if_pos (by rw [show (PySem.W.clsIn K T).isSome = true from h2, h3]; rfl)]
  exact h4
theorem binds_full {K : Fg} {fd : FuncData} {ps : List Str} (h : ∃ ds, Vals ([] : List V) ds ∧ Binds K fd ps ds) : Binds K fd ps [] := by
  obtain ⟨ds, v, b⟩ := h
  cases v
  exact b
end DL
/-! XP: len(o), x in o, o == p by the own defs of the class of o -/
namespace DL
open PySem L2 XO
open Evl (Ex)
section
variable {P : Program} {w : World} {K : Fg} {mg : Str → Option Value} {base : Heap} {k : Nat} {N : List Str} {W : Wx} {ι : Type} {X : ι → Cx} {f C : Addr} {fd : FuncData} {ps : List Str}
abbrev noX : XK := fun _ _ _ => False
/-- a def that raises nothing, run at A -/
theorem FnG.goesA {X : Cx} {A : Around} {sp : Sp} {pins : List (Addr × Obj)} {σ : L2.St} {H : Hp} {s : Shared} {Q : VK} {us : List Value} {vs : List V} {k : Nat} (Fn : FnG X.prog X.w X.K X.mg X.base (L2.CX X.prog X.w) k f fd ps sp)
    (hg : A.guards = some []) (hr : Room k A) (e0 : Env0 X.prog X.w X.K X.mg X.base A X.stack s H) (hb : Binds X.K fd ps []) (I : Inv X pins σ H s) (r : Vals vs us) (h : sp vs H Q noX) :
    codeAny (model X.prog X.w) A (.call (.ref f) ⟨us, []⟩) (fun r s' => match r with | .ok (.ret v) => EP X pins σ Q v s' | .ok _ => False | .error e => X.xe e s') s := by
  have hlen : (us ++ []).length = ps.length := by
    rw [List.append_nil]
    exact r.length.symm.trans (Fn.size _ _ _ _ h)
  have hbs := hb s us I.kIn hlen
  rw [List.append_nil] at hbs
  refine codeAny_mono (Fn.runs A X.stack s H ⟨us, []⟩ us vs Q noX hg hr e0 hbs r h) ?_
  rintro (e | fl) s' hq
  · obtain ⟨_, _, _, _, _, _, _, _, _, _, _, _, z⟩ := hq
    exact z.elim
  · cases fl <;> first | exact I.after hq | exact (hq : False).elim
/-- len -/
def rLenO (C : Addr) (sp : Sp) : List V → Hp → VK → Prop := fun xs H Q => ∃ a dx fs, xs = [V.ref a] ∧ H a = some (.ins C dx fs) ∧ sp [.ref a] H (fun z H' => ∃ i : Int, z = .int i ∧ 0 ≤ i ∧ i < 2 ^ 62 ∧ Q (.int i) H') noX
theorem call_lenO {X : Cx} {sp : Sp} {k : Nat} (hm : Meth X.K C "__len__" f) (Fn : FnG X.prog X.w X.K X.mg X.base (L2.CX X.prog X.w) k f fd ps sp) (hg : X.A.guards = some []) (hr : Room (k + 1) X.A) (hb : Binds X.K fd ps []) : CallR X (.builtin "len") (rLenO C sp) := by
  intro pins s σ H xs us Q I r h
  obtain ⟨a, dx, fs, rfl, ea, q⟩ := h
  obtain ⟨u, rfl, ru⟩ := r.one
  cases (show u = Value.ref a from ru)
  obtain ⟨mA, O, _⟩ := ins_get I.hok ea
  obtain ⟨od, J, _⟩ := O.look
  obtain ⟨m, hF⟩ := I.fr
  have hr1 : Room k X.A.in1 := Room.in1 hr
  refine PySem.W.len_K hF I.ok.mod.kin J hm.at_ hm.fn (wpAny_mono (wpAny_call (Fn.goesA (us := [.ref a]) (vs := [.ref a]) (A := X.A.in1) hg hr1 I.env0.in1 hb I (.cons rfl .nil) q)) (fun w s' z => ?_) fun _ _ x => x)
  obtain ⟨z', H', I', rz, i, ei, h0, h1, qz⟩ := z
  subst ei
  obtain ⟨t, e⟩ := (show ∃ t, w = Value.int i t from rz)
  cases e
  exact ⟨⟨h0, by omega⟩, .int i, H', I'.tok _, ⟨_, rfl⟩, qz⟩
/-- x in o -/
def rInO (C : Addr) (sp : Sp) : R2 := fun x y H Q => ∃ a dx fs, y = .ref a ∧ H a = some (.ins C dx fs) ∧ sp [y, x] H (fun z H' => ∃ b, z = .bl b ∧ Q (.bl b) H') noX
theorem op_inO {X : Cx} {sp : Sp} {k : Nat} (hm : Meth X.K C "__contains__" f) (Fn : FnG X.prog X.w X.K X.mg X.base (L2.CX X.prog X.w) k f fd ps sp) (hg : X.A.guards = some []) (hr : Room k X.A) (hb : Binds X.K fd ps []) : OpR X (compareOp .In) (rInO C sp) := by
  intro pins s σ H x y v u Q I rx ry h
  obtain ⟨a, dx, fs, rfl, ea, q⟩ := h
  cases (show u = Value.ref a from ry)
  obtain ⟨mA, O, _⟩ := ins_get I.hok ea
  obtain ⟨od, J, _⟩ := O.look
  obtain ⟨m, hF⟩ := I.fr
  refine PySem.W.in_K hF I.ok.mod.kin J hm.at_ hm.fn (wpAny_mono (wpAny_call (Fn.goesA (us := [.ref a, v]) (vs := [.ref a, x]) (A := X.A) hg hr I.env0 hb I (.cons rfl (.cons rx .nil)) q)) (fun w s' z => ?_) fun _ _ x => x)
  obtain ⟨z', H', I', rz, b, ei, qz⟩ := z
  subst ei
  cases (show w = Value.bool b from rz)
  exact wpAny_truthy_bool ⟨.bl b, H', I', rfl, qz⟩
/-- o == y, y no instance of a class under that of o -/
def rEqO (K : Fg) (C : Addr) (sp : Sp) : R2 := fun x y H Q => ∃ a dx fs T, x = .ref a ∧ H a = some (.ins C dx fs) ∧ TyX K H y T ∧ PySem.W.notFirst K C T = true ∧ sp [x, y] H Q noX
theorem op_eqO {X : Cx} {sp : Sp} {k : Nat} (hm : Meth X.K C "__eq__" f) (Fn : FnG X.prog X.w X.K X.mg X.base (L2.CX X.prog X.w) k f fd ps sp) (hg : X.A.guards = some []) (hr : Room k X.A) (hb : Binds X.K fd ps []) : OpR X (compareOp .Eq) (rEqO X.K C sp) := by
  intro pins s σ H x y v u Q I rx ry h
  obtain ⟨a, dx, fs, T, rfl, ea, ty, hn, q⟩ := h
  cases (show v = Value.ref a from rx)
  obtain ⟨mA, O, _⟩ := ins_get I.hok ea
  obtain ⟨od, J, _⟩ := O.look
  obtain ⟨m, hF⟩ := I.fr
  have hu : X.A.units < cLine := hr.units0
  show wpAny (model X.prog X.w) X.A (richCompare .Eq (.ref a) u) (EP X pins σ Q) X.xe s
  obtain ⟨Ph, kx, hp, _⟩ := kit_of I ry ty
  refine PySem.W.cmp_K (op := .Eq) (tb := T) hu hF I.ok.mod.kin J (kx.ty _ _ I.kIn hp) hn hm.at_ hm.fn ?_
  refine wpAny_mono (wpAny_call (Fn.goesA (us := [.ref a, u]) (vs := [.ref a, y]) (A := X.A) hg hr I.env0 hb I (.cons rfl (.cons ry .nil)) q)) (fun w s' z => ?_) fun _ _ x => x
  obtain ⟨z', H', I', rz, qz⟩ := z
  exact SlX.cmpback rz ⟨z', H', I', rz, qz⟩
/-! the same on data -/
def dLenO (n : Str) (fn : DFn) : WC := fun xs m Q => match xs with
  | [.obj n' ks ds] => n' = n ∧ fn [.obj n' ks ds] m (fun z m2 => ∃ i : Int, z = .int i ∧ 0 ≤ i ∧ i < 2 ^ 62 ∧ Q (.int i) m2) (fun _ _ => False)
  | _ => False
def dInO (n : Str) (fn : DFn) : WR := fun x y m Q => match y with
  | .obj n' ks ds => n' = n ∧ fn [.obj n' ks ds, x] m (fun z m2 => ∃ b : Bool, z = .bl b ∧ Q (.bl b) m2) (fun _ _ => False)
  | _ => False
def isObj (n : Str) : D → Bool
  | .obj n' _ _ => n' == n
  | _ => false
def dEqO (n : Str) (fn : DFn) : WR := fun x y m Q => match x with
  | .obj n' ks ds => n' = n ∧ (typedM m y = true ∨ isObj n y = true) ∧ fn [.obj n' ks ds, y] m Q (fun _ _ => False)
  | _ => False
theorem HasM.plain {j : Nat} {n m : Str} {fn : DFn} (hh : HasM P w K mg base j n m ps [] fn) : ∃ C f fd, Kl K mg n C ∧ Meth K C m f ∧ FnG P w K mg base (L2.CX P w) j f fd ps (spD K mg fn) ∧ Binds K fd ps [] := by
  obtain ⟨C, f, fd, dvs, dus, c, hm, Fn, hb, hd, hdd⟩ := hh
  cases hdd (fun _ => none)
  cases hd
  exact ⟨C, f, fd, c, hm, Fn, hb⟩
theorem b_lenO {j : Nat} {n : Str} {fn : DFn} (hX : FamG P w K mg base k N X) (hh : HasM P w K mg base j n "__len__" ps [] fn) (hj : j + 1 ≤ k := by decide) : BiU K X (.builtin "len") (dLenO n fn) := by
  obtain ⟨C, f, fd, c, hm, Fn, hb⟩ := hh.plain
  refine ⟨rLenO C (spD K mg fn), fun i => ?_, ?_⟩
  · have Fi : FnG (X i).prog (X i).w (X i).K (X i).mg (X i).base (L2.CX (X i).prog (X i).w) j f fd ps (spD K mg fn) := by rw [hX.prog i, hX.w i, hX.K i, hX.mg i, hX.base i]; exact Fn
    exact call_lenO (by rw [hX.K i]; exact hm) Fi (hX.guards i) ((hX.room i).mono hj) (by rw [hX.K i]; exact hb)
  · intro G m F H xs ds Q Qd hW r h hQ
    unfold dLenO at h
    split at h
    · rename_i n' ks ds
      obtain ⟨rfl, q⟩ := h
      cases r with
      | cons r1 t =>
        cases t
        have r1' := r1
        cases r1 with
        | obj hn hg hk hv rr =>
          rw [c.own] at hn
          cases hn
          refine ⟨_, _, _, rfl, hW.ex _ _ hg, G, m, F, _, _, (fun _ _ => False), hW, .cons r1' .nil, q, ?_, ?_⟩
          · rintro d m' v G' H' ⟨i, rfl, h0, h1, q⟩ e W' r
            cases r
            exact ⟨i, rfl, h0, h1, hQ _ _ _ _ _ q e W' (.int i)⟩
          · intro x m' cls d G' H' z
            exact z.elim
    · exact h.elim
theorem c_inO {j : Nat} {n : Str} {fn : DFn} (hX : FamG P w K mg base k N X) (hh : HasM P w K mg base j n "__contains__" ps [] fn) (hj : j ≤ k := by decide) : CmpU K X .In (dInO n fn) := by
  obtain ⟨C, f, fd, c, hm, Fn, hb⟩ := hh.plain
  refine ⟨rInO C (spD K mg fn), fun i => ?_, ?_⟩
  · have Fi : FnG (X i).prog (X i).w (X i).K (X i).mg (X i).base (L2.CX (X i).prog (X i).w) j f fd ps (spD K mg fn) := by rw [hX.prog i, hX.w i, hX.K i, hX.mg i, hX.base i]; exact Fn
    exact op_inO (by rw [hX.K i]; exact hm) Fi (hX.guards i) ((hX.room i).mono hj) (by rw [hX.K i]; exact hb)
  · intro G m F H x y dx dy Q Qd hW rx ry h hQ
    unfold dInO at h
    split at h
    · obtain ⟨rfl, q⟩ := h
      have ry' := ry
      cases ry with
      | obj hn hg hk hv rr =>
        rw [c.own] at hn
        cases hn
        refine ⟨_, _, _, rfl, hW.ex _ _ hg, G, m, F, _, _, (fun _ _ => False), hW, .cons ry' (.cons rx .nil), q, ?_, ?_⟩
        · rintro d m' v G' H' ⟨b, rfl, q⟩ e W' r
          cases r
          exact ⟨b, rfl, hQ _ _ _ _ _ q e W' (.bl b)⟩
        · intro x m' cls d G' H' z
          exact z.elim
    · exact h.elim
theorem c_eqO {j : Nat} {n : Str} {C0 : Addr} {fn : DFn} (hX : FamG P w K mg base k N X) (hh : HasM P w K mg base j n "__eq__" ps [] fn) (ci : KlI K mg n C0)
    (hno : ∀ t : String, t = "NoneType" ∨ t = "bool" ∨ t = "int" ∨ t = "str" ∨ t = "list" ∨ t = "tuple" ∨ t = "dict" → PySem.W.notFirst K C0 (.type t) = true) (hj : j ≤ k := by decide) : CmpU K X .Eq (dEqO n fn) := by
  obtain ⟨C, f, fd, c, hm, Fn, hb⟩ := hh.plain
  obtain rfl : C0 = C := by
    have e := ci.own.symm.trans c.own
    cases e
    rfl
  refine ⟨rEqO K C0 (spD K mg fn), fun i => ?_, ?_⟩
  · have Fi : FnG (X i).prog (X i).w (X i).K (X i).mg (X i).base (L2.CX (X i).prog (X i).w) j f fd ps (spD K mg fn) := by rw [hX.prog i, hX.w i, hX.K i, hX.mg i, hX.base i]; exact Fn
    have z := op_eqO (C := C0) (by rw [hX.K i]; exact hm) Fi (hX.guards i) ((hX.room i).mono hj) (by rw [hX.K i]; exact hb)
    rw [hX.K i] at z
    exact z
  · intro G m F H x y dx dy Q Qd hW rx ry h hQ
    unfold dEqO at h
    split at h
    · obtain ⟨rfl, hy, q⟩ := h
      have rx' := rx
      cases rx with
      | obj hn hg hk hv rr =>
        rw [c.own] at hn
        cases hn
        have ty : ∃ T, TyX K H y T ∧ PySem.W.notFirst K C0 T = true := by
          rcases hy with hy | hy
          · exact ⟨_, tyM_has hW ry hy, hno _ (ty_names hy)⟩
          · cases dy <;> first | (cases hy; done) | skip
            rename_i n2 ks2 ds2
            have e2 : n2 = _ := eq_of_beq hy
            subst e2
            cases ry with
            | obj hn2 hg2 hk2 hv2 rr2 =>
              rw [c.own] at hn2
              cases hn2
              exact ⟨.ref C0, .base (.ins (hW.ex _ _ hg2) ci.cls ci.met.1 ci.met.2.1 ci.met.2.2.1 ci.met.2.2.2), by unfold PySem.W.notFirst; simp⟩
        obtain ⟨T, t1, t2⟩ := ty
        refine ⟨_, _, _, T, rfl, hW.ex _ _ hg, t1, t2, G, m, F, _, Qd, (fun _ _ => False), hW, .cons rx' (.cons ry .nil), q, hQ, ?_⟩
        intro x m' cls d G' H' z
        exact z.elim
    · exact h.elim
end
end DL
/-! XPN: o != p by the own == of the class of o -/
namespace HNE
open PySem PySem.Spec PyProof.Rows PySem.SeqAt
section
variable {prog : Program} {w : World} {A : Around} {E : Value → Shared → Prop} {s : Shared} {K : PySem.W.Frag} {x C f L : Addr} {ox : Obj} {od : Option Obj} {u tb : Value}
theorem entry_neO {Q : Fin → Shared → Prop} (hu : A.units < cLine) (X : K.In s.heap) (I : PySem.W.InstAt s.heap x ox C od) (hs : PySem.W.findIn K (.ref C) "__eq__" = some (some (.ref f))) (hf : PySem.W.isFn K (.ref f) = true)
    (hcall : wpAny (model prog w) A (call (.ref f) [.ref x, u]) (fun v s' => ∃ b, v = .bool b ∧ Q (.done (.ret (.bool (!b)))) s') E s) : wpAny (model prog w) A (Builtin.«object.__ne__» ⟨[.ref x, u], []⟩) Q E s := by
  unfold Builtin.«object.__ne__»
  repeat (first
    | with_reducible refine wpAny_cRoomFor hu ?_
    | (refine wpAny_bind (m := callSpecialIfBound? (.ref x) (Str.ofString "__eq__") [u])
        (PySem.W.ifBound_K X I hs hf (wpAny_mono hcall (fun r s' hr => by
          obtain ⟨b, rfl, hq⟩ := hr
          repeat (first | exact hq | exact wpAny_pure hq | exact wpAny_truthy_bool hq | (refine wpAny_bind (m := truthy (.bool _)) (wpAny_truthy_bool ?_)) | wp_step)) fun _ _ e => e)))
    | wp_step)
theorem ifBound_objNe {args : List Value} {Q : Option Value → Shared → Prop} (X : K.In s.heap) (I : PySem.W.InstAt s.heap x ox C od) (hs : PySem.W.findIn K (.ref C) "__ne__" = some (some (.builtin "object.__ne__")))
    (h : wpAny (model prog w) A (call (.builtin "object.__ne__") (.ref x :: args)) (fun v => Q (some v)) E s) : wpAny (model prog w) A (callSpecialIfBound? (.ref x) "__ne__" args) Q E s := by
  simp only [callSpecialIfBound?, bindSpecialIfBound?]
  refine wpAny_holding (wpAny_bind (wpAny_bind (wpAny_bind (I.type.here ((PySem.W.looks_findIn X hs).here ?_)))))
  refine wpAny_bind (wpAny_askSetting (wpAny_ite ?_))
  have fin : wpAny (model prog w) A (call (.builtin "object.__ne__") ([.ref x] ++ args) >>= fun v => pure (some v)) Q E s := wpAny_bind (wpAny_mono h (fun v s' h' => wpAny_pure h') fun _ _ h' => h')
  split
  · exact wpAny_bind (wpAny_of_eq (F.cmp_object.ne.bind _) (wpAny_pure (by exact fin)))
  · exact wpAny_tryCatch (wpAny_bind (wpAny_of_eq (F.cmp_object.ne.bind _) (wpAny_pure (by exact fin))))
theorem cmpNe_K {Q : Value → Shared → Prop} (hu : A.units + 1 < cLine) (X : K.In s.heap) (I : PySem.W.InstAt s.heap x ox C od) (hb : PySem.W.Looks (model prog w) s.heap (typeOf u) tb) (hn : PySem.W.notFirst K C tb = true)
    (he : PySem.W.findIn K (.ref C) "__eq__" = some (some (.ref f))) (hf : PySem.W.isFn K (.ref f) = true) (hne : PySem.W.findIn K (.ref C) "__ne__" = some (some (.builtin "object.__ne__"))) (hm : PySem.W.mroIn K C (.type "object") = some true)
    (h : wpAny (model prog w) A.in1 (call (.ref f) [.ref x, u]) (fun v s' => ∃ b, v = .bool b ∧ Q (.bool (!b)) s') E s) : wpAny (model prog w) A (richCompare .NotEq (.ref x) u) Q E s := by
  have one : wpAny (model prog w) A (tryCompare (.ref x) "__ne__" u) (fun r s' => ∃ v, r = some v ∧ Q v s') E s := by
    unfold tryCompare
    refine wpAny_bind (ifBound_objNe X I hne (wpAny_call (codeAny_call_builtin F.cmp_object.ne.plain F.cmpEntry_ne (PySem.W.check_slot F.cmpKind_ne F.cmpSplit_ne (I.type.andThen (PySem.W.looks_mroIn X hm)) (F.cmpArgs_ne _ _)
      (entry_neO (A := A.in1) (Nat.lt_of_succ_lt_succ (by have : A.in1.units = A.units + 1 := rfl; omega)) X I he hf (wpAny_mono h (fun v s' hv => ?_) fun _ _ e => e))))))
    obtain ⟨b, rfl, hq⟩ := hv
    first | exact ⟨b, rfl, wpAny_pure ⟨_, rfl, hq⟩⟩ | exact ⟨b, rfl, ⟨_, rfl, hq⟩⟩ | exact ⟨b, rfl, wpAny_pure (wpAny_pure ⟨_, rfl, hq⟩)⟩
  unfold richCompare
  simp only [oneThing_ref]
  refine wpAny_holding (wpAny_bind (wpAny_cRoomFor (by omega) ?_))
  rw [cmpInfo_NotEq]
  refine wpAny_bind (I.type.here (wpAny_bind (hb.here ?_)))
  split
  · rename_i q
    have e : PySem.W.subIn K tb (.ref C) = some false := by
      rcases Bool.or_eq_true_iff.mp hn with e | e
      · rw [beq_iff_eq.mp e] at q; simp at q
      · exact beq_iff_eq.mp e
    refine wpAny_bind ((PySem.W.looks_subIn X e).here ?_)
    simp only [Bool.false_eq_true, if_false]
    refine wpAny_bind (wpAny_mono one (fun r s' z => ?_) fun _ _ e => e)
    obtain ⟨v, rfl, hq⟩ := z
    exact wpAny_pure hq
  · refine wpAny_bind (wpAny_pure ?_)
    simp only [Bool.false_eq_true, if_false]
    refine wpAny_bind (wpAny_mono one (fun r s' z => ?_) fun _ _ e => e)
    obtain ⟨v, rfl, hq⟩ := z
    exact wpAny_pure hq
end
end HNE
namespace DL
open PySem L2 XO
open Evl (Ex)
section
variable {P : Program} {w : World} {K : Fg} {mg : Str → Option Value} {base : Heap} {k : Nat} {N : List Str} {W : Wx} {ι : Type} {X : ι → Cx} {f C : Addr} {fd : FuncData} {ps : List Str}
/-- the class has the != of object -/
def NeOf (K : Fg) (C : Addr) : Prop := PySem.W.findIn K (.ref C) "__ne__" = some (some (.builtin "object.__ne__")) ∧ PySem.W.mroIn K C (.type "object") = some true
def rNeO (K : Fg) (C : Addr) (sp : Sp) : R2 := fun x y H Q => ∃ a dx fs T, x = .ref a ∧ H a = some (.ins C dx fs) ∧ TyX K H y T ∧ PySem.W.notFirst K C T = true ∧ sp [x, y] H (fun z H' => ∃ b, z = .bl b ∧ Q (.bl (!b)) H') noX
theorem op_neO {X : Cx} {sp : Sp} {k : Nat} (hm : Meth X.K C "__eq__" f) (hne : NeOf X.K C) (Fn : FnG X.prog X.w X.K X.mg X.base (L2.CX X.prog X.w) k f fd ps sp) (hg : X.A.guards = some []) (hr : Room (k + 1) X.A) (hb : Binds X.K fd ps []) : OpR X (compareOp .NotEq) (rNeO X.K C sp) := by
  intro pins s σ H x y v u Q I rx ry h
  obtain ⟨a, dx, fs, T, rfl, ea, ty, hn, q⟩ := h
  cases (show v = Value.ref a from rx)
  obtain ⟨mA, O, _⟩ := ins_get I.hok ea
  obtain ⟨od, J, _⟩ := O.look
  have hr1 : Room k X.A.in1 := Room.in1 hr
  have hu : X.A.units + 1 < cLine := hr1.units0
  show wpAny (model X.prog X.w) X.A (richCompare .NotEq (.ref a) u) (EP X pins σ Q) X.xe s
  obtain ⟨Ph, kx, hp, _⟩ := kit_of I ry ty
  refine HNE.cmpNe_K (tb := T) hu I.kIn J (kx.ty _ _ I.kIn hp) hn hm.at_ hm.fn hne.1 hne.2 ?_
  refine wpAny_mono (wpAny_call (Fn.goesA (us := [.ref a, u]) (vs := [.ref a, y]) (A := X.A.in1) hg hr1 I.env0.in1 hb I (.cons rfl (.cons ry .nil)) q)) (fun w s' z => ?_) fun _ _ x => x
  obtain ⟨z', H', I', rz, b, ei, qz⟩ := z
  subst ei
  cases (show w = Value.bool b from rz)
  exact ⟨b, rfl, .bl (!b), H', I', rfl, qz⟩
def dNeO (n : Str) (fn : DFn) : WR := fun x y m Q => match x with
  | .obj n' ks ds => n' = n ∧ (typedM m y = true ∨ isObj n y = true) ∧ fn [.obj n' ks ds, y] m (fun z m2 => ∃ b : Bool, z = .bl b ∧ Q (.bl (!b)) m2) (fun _ _ => False)
  | _ => False
theorem c_neO {j : Nat} {n : Str} {C0 : Addr} {fn : DFn} (hX : FamG P w K mg base k N X) (hh : HasM P w K mg base j n "__eq__" ps [] fn) (ci : KlI K mg n C0) (hne : NeOf K C0)
    (hno : ∀ t : String, t = "NoneType" ∨ t = "bool" ∨ t = "int" ∨ t = "str" ∨ t = "list" ∨ t = "tuple" ∨ t = "dict" → PySem.W.notFirst K C0 (.type t) = true) (hj : j + 1 ≤ k := by decide) : CmpU K X .NotEq (dNeO n fn) := by
  obtain ⟨C, f, fd, c, hm, Fn, hb⟩ := hh.plain
  obtain rfl : C0 = C := by
    have e := ci.own.symm.trans c.own
    cases e
    rfl
  refine ⟨rNeO K C0 (spD K mg fn), fun i => ?_, ?_⟩
  · have Fi : FnG (X i).prog (X i).w (X i).K (X i).mg (X i).base (L2.CX (X i).prog (X i).w) j f fd ps (spD K mg fn) := by rw [hX.prog i, hX.w i, hX.K i, hX.mg i, hX.base i]; exact Fn
    have z := op_neO (C := C0) (by rw [hX.K i]; exact hm) (by rw [hX.K i]; exact hne) Fi (hX.guards i) ((hX.room i).mono hj) (by rw [hX.K i]; exact hb)
    rw [hX.K i] at z
    exact z
  · intro G m F H x y dx dy Q Qd hW rx ry h hQ
    unfold dNeO at h
    split at h
    · obtain ⟨rfl, hy, q⟩ := h
      have rx' := rx
      cases rx with
      | obj hn hg hk hv rr =>
        rw [c.own] at hn
        cases hn
        have ty : ∃ T, TyX K H y T ∧ PySem.W.notFirst K C0 T = true := by
          rcases hy with hy | hy
          · exact ⟨_, tyM_has hW ry hy, hno _ (ty_names hy)⟩
          · cases dy <;> first | (cases hy; done) | skip
            rename_i n2 ks2 ds2
            have e2 : n2 = _ := eq_of_beq hy
            subst e2
            cases ry with
            | obj hn2 hg2 hk2 hv2 rr2 =>
              rw [c.own] at hn2
              cases hn2
              exact ⟨.ref C0, .base (.ins (hW.ex _ _ hg2) ci.cls ci.met.1 ci.met.2.1 ci.met.2.2.1 ci.met.2.2.2), by unfold PySem.W.notFirst; simp⟩
        obtain ⟨T, t1, t2⟩ := ty
        refine ⟨_, _, _, T, rfl, hW.ex _ _ hg, t1, t2, G, m, F, _, _, (fun _ _ => False), hW, .cons rx' (.cons ry .nil), q, ?_, ?_⟩
        · rintro d m' v G' H' ⟨b, rfl, q⟩ e W' r
          cases r
          exact ⟨b, rfl, hQ _ _ _ _ _ q e W' (.bl _)⟩
        · intro x m' cls d G' H' z
          exact z.elim
    · exact h.elim
end
end DL
/-! XPA: -x, int(x), max and min of a list -/
namespace DL
open PySem L2 XO
open Evl (Ex)
section
variable {P : Program} {w : World} {K : Fg} {mg : Str → Option Value} {base : Heap} {k : Nat} {N : List Str} {W : Wx} {ι : Type} {X : ι → Cx} {pos : Pos} {a : Expr} {wa : WE}
def wNeg (wa : WE) : WE := fun ρ m Q Qx => wa ρ m (fun d m1 => match d with
  | .int i => Q (.int (-i)) m1
  | _ => False) Qx
theorem pd_neg (ha : PD K W X a wa) : PD K W X (.UnaryOp .USub a pos) (wNeg wa) := by
  obtain ⟨t, h1, h2⟩ := ha
  refine ⟨tUn (rU fun i => .int (-i)) t, fun i => pe_un un_neg (h1 i), ?_⟩
  intro G m F H σ ρ Q Qd Qx hW hE h hX hQ
  refine h2 G m F H σ ρ _ _ Qx hW hE h hX ?_
  intro d m1 v G1 H1 q e1 W1 r1
  cases d <;> first | exact (show False from q).elim | skip
  cases r1
  exact ⟨_, rfl, hQ _ _ _ _ _ q e1 W1 (.int _)⟩
def dInt : WC := fun xs m Q => match xs with
  | [.int i] => Q (.int i) m
  | [.bl b] => Q (.int (if b then 1 else 0)) m
  | _ => False
theorem b_int : BiU K X (.type "int") dInt := by
  refine ⟨_, fun _ => call_int1, ?_⟩
  intro G m F H xs ds Q Qd hW r h hQ
  unfold dInt at h
  split at h
  · cases r with
    | cons r1 t =>
      cases r1
      cases t
      exact Or.inl ⟨_, rfl, hQ.here hW h (.int _)⟩
  · cases r with
    | cons r1 t =>
      cases r1
      cases t
      exact Or.inr ⟨_, rfl, hQ.here hW h (.int _)⟩
  · cases h
/-- the greatest, the least of a list of integers -/
def dMaxL : WC := fun xs m Q => ∃ ns : List Int, xs = [.lst (ns.map D.int)] ∧ 0 < ns.length ∧ ∀ i, i ∈ ns → (∀ y, y ∈ ns → y ≤ i) → Q (.int i) m
def dMinL : WC := fun xs m Q => ∃ ns : List Int, xs = [.lst (ns.map D.int)] ∧ 0 < ns.length ∧ ∀ i, i ∈ ns → (∀ y, y ∈ ns → i ≤ y) → Q (.int i) m
theorem rpa_ints {G : Hp} : ∀ {ns : List Int} {vs : List V}, RpA K G vs (ns.map D.int) → vs = ns.map V.int
  | [], _, r => by cases r; rfl
  | n :: ns, _, r => by
    cases r with
    | cons r t =>
      cases r
      rw [rpa_ints t]
      rfl
theorem b_maxL (hK : ∀ i, (X i).K = K) (hc : ∀ i, (X i).calm = true) : BiU K X (.builtin "max") dMaxL := by
  refine ⟨rMax K, fun i => hK i ▸ cr_max (hc i), ?_⟩
  intro G m F H xs ds Q Qd hW r h hQ
  obtain ⟨ns, rfl, h0, q⟩ := h
  cases r with
  | cons r1 t =>
    cases t
    cases r1 with
    | lst hl rr =>
      have e := rpa_ints rr
      subst e
      exact ⟨_, ns, rfl, SqL.of (hW.ex _ _ hl), h0, fun i hi hm => hQ.here hW (q i hi hm) (.int i)⟩
theorem b_minL (hK : ∀ i, (X i).K = K) (hc : ∀ i, (X i).calm = true) : BiU K X (.builtin "min") dMinL := by
  refine ⟨rMin K, fun i => hK i ▸ cr_min (hc i), ?_⟩
  intro G m F H xs ds Q Qd hW r h hQ
  obtain ⟨ns, rfl, h0, q⟩ := h
  cases r with
  | cons r1 t =>
    cases t
    cases r1 with
    | lst hl rr =>
      have e := rpa_ints rr
      subst e
      exact ⟨_, ns, rfl, SqL.of (hW.ex _ _ hl), h0, fun i hi hm => hQ.here hW (q i hi hm) (.int i)⟩
end
end DL
/-! XA1: starred items, several targets, x op= e, l.pop(i), dict of pairs, d.get -/
namespace DL
open PySem L2 XO
open Evl (Ex)
section
variable {K : Fg} {W : Wx} {ι : Type} {X : ι → Cx} {pos : Pos} {a b c e f : Expr} {es : List Expr} {wa wb wc we wf w : WE} {wr : WA}
/-- *e -/
def wStar (we : WE) (wr : WA) : WA := fun ρ m Q Qx => we ρ m (fun x m1 => match x with
  | .lst ds => wr ρ m1 (fun es m2 => Q (ds ++ es) m2) Qx
  | .tup ds => wr ρ m1 (fun es m2 => Q (ds ++ es) m2) Qx
  | _ => False) Qx
theorem pa_starD {p : Pos} (hK : ∀ i, (X i).K = K) (he : PD K W X e we) (hr : PDA K W X es wr) (hs : ∀ i, starEach (.Starred e p :: es) (X i).env = (true, eval e (X i).env) :: starEach es (X i).env := by intro _; rfl) : PDA K W X (.Starred e p :: es) (wStar we wr) := by
  obtain ⟨te, e1, e2⟩ := he
  obtain ⟨tr, r1, r2⟩ := hr
  refine ⟨_, fun i => hK i ▸ StX.pa_star (e1 i) (r1 i) (hs i), ?_⟩
  intro G m F H σ ρ Q Qd Qx hW hE h hX hQ
  refine e2 G m F H σ ρ _ _ Qx hW hE h hX ?_
  intro d m1 v G1 H1 q f1 W1 r
  cases r <;> first | exact (show False from q).elim | skip
  case lst a xs ds hx rr =>
    refine ⟨a, xs, rfl, Or.inr (SqL.of (W1.ex _ _ hx)), r2 G1 m1 F H1 σ ρ _ _ Qx W1 (hE.mono f1) q (hX.mono f1) ?_⟩
    intro es m2 vs G2 H2 q2 f2 W2 rs
    exact hQ _ m2 _ G2 H2 q2 (f1.trans f2) W2 ((rr.mono f2).app rs)
  case tup a xs ds hx rr =>
    refine ⟨a, xs, rfl, Or.inl (Evl.ex_t W1.ex hx), r2 G1 m1 F H1 σ ρ _ _ Qx W1 (hE.mono f1) q (hX.mono f1) ?_⟩
    intro es m2 vs G2 H2 q2 f2 W2 rs
    exact hQ _ m2 _ G2 H2 q2 (f1.trans f2) W2 ((rr.mono f2).app rs)
/-! t1 = t2 = e, t1 = t2 = t3 = t4 = e -/
theorem wpAny_Assign_four {M : Model} {A : Around} {E : Value → Shared → Prop} {s : Shared} {env : Env} {t₁ t₂ t₃ t₄ value : Expr} {pos : Pos} {Q : Flow → Shared → Prop}
    (h : wpAny M A (eval value env) (fun v s₁ => wpAny M A (assign t₁ env v) (fun _ s₂ => wpAny M A (assign t₂ env v) (fun _ s₃ => wpAny M A (assign t₃ env v) (fun _ s₄ => wpAny M A (assign t₄ env v) (fun _ => Q .next) E s₄) E s₃) E s₂) E s₁) E s)
    (he : (assignEach [t₁, t₂, t₃, t₄] env).map (·.2) = [assign t₁ env, assign t₂ env, assign t₃ env, assign t₄ env] := by rfl)
    (hs : swapsWithSole [t₁, t₂, t₃, t₄] value pos.line env = pure false := by rfl)
    (hw : swappedStores [t₁, t₂, t₃, t₄] value env = pure none := by rfl) :
    wpAny M A (exec (.Assign [t₁, t₂, t₃, t₄] value pos) env) Q E s := by
  refine wpAny_Assign_stores (wpAny_mono h (fun v s₁ h₁ => ?_) fun _ _ x => x) hs hw
  rw [he]
  exact wpAny_bind (wpAny_holding (wpAny_mono h₁ (fun _ s₂ h₂ => wpAny_bind (wpAny_holding (wpAny_mono h₂ (fun _ s₃ h₃ => wpAny_bind (wpAny_holding h₃)) fun _ _ x => x))) fun _ _ x => x))
def sAsg2 (g1 g2 : WG) (we : WE) : WS := fun E ρ m => we ρ m (fun d m1 => g1 d ρ fun ρ1 => g2 d ρ1 fun ρ2 => E.nx ρ2 m1) E.ex
def sAsg4 (g1 g2 g3 g4 : WG) (we : WE) : WS := fun E ρ m => we ρ m (fun d m1 => g1 d ρ fun ρ1 => g2 d ρ1 fun ρ2 => g3 d ρ2 fun ρ3 => g4 d ρ3 fun ρ4 => E.nx ρ4 m1) E.ex
theorem ps_asg2D {t1 t2 : Expr} {j1 j2 : List Nat} {g1 g2 : WG} (he : PD K W X e we) (h1 : PDG K X t1 j1 g1) (h2 : PDG K X t2 j2 g2) (ha : ∀ i, (assignEach [t1, t2] (X i).env).map (·.2) = [assign t1 (X i).env, assign t2 (X i).env] := by intro _; rfl) (hw : ∀ i, swappedStores [t1, t2] e (X i).env = pure none := by intro _; rfl) :
    PDS K W X (.Assign [t1, t2] e pos) (sAsg2 g1 g2 we) := by
  obtain ⟨te, e1, e2⟩ := he
  obtain ⟨u1, a1, a2⟩ := h1
  obtain ⟨u2, b1, b2⟩ := h2
  refine ⟨_, fun i => L2.ps_asg2 (e1 i) (a1 i) (b1 i) (ha i) (hw i), ?_⟩
  intro G m F H σ ρ S E hW hE h fs
  refine e2 G m F H σ ρ _ _ E.ex hW hE h fs.ex ?_
  intro d m1 v G1 H1 q f1 W1 r1
  refine a2 G1 m1 F H1 v d σ ρ _ _ W1 (hE.mono f1) r1 q ?_
  intro ρ1 σ1 q1 E1 _
  refine b2 G1 m1 F H1 v d σ1 ρ1 _ _ W1 E1 r1 q1 ?_
  intro ρ2 σ2 q2 E2 _
  exact fs.nx _ m1 _ G1 _ q2 f1 W1 E2
theorem ps_asg4D {t1 t2 t3 t4 : Expr} {j1 j2 j3 j4 : List Nat} {g1 g2 g3 g4 : WG} (he : PD K W X e we) (h1 : PDG K X t1 j1 g1) (h2 : PDG K X t2 j2 g2) (h3 : PDG K X t3 j3 g3) (h4 : PDG K X t4 j4 g4)
    (ha : ∀ i, (assignEach [t1, t2, t3, t4] (X i).env).map (·.2) = [assign t1 (X i).env, assign t2 (X i).env, assign t3 (X i).env, assign t4 (X i).env] := by intro _; rfl) (hs : ∀ i, swapsWithSole [t1, t2, t3, t4] e pos.line (X i).env = pure false := by intro _; rfl) (hw : ∀ i, swappedStores [t1, t2, t3, t4] e (X i).env = pure none := by intro _; rfl) :
    PDS K W X (.Assign [t1, t2, t3, t4] e pos) (sAsg4 g1 g2 g3 g4 we) := by
  obtain ⟨te, e1, e2⟩ := he
  obtain ⟨u1, a1, a2⟩ := h1
  obtain ⟨u2, b1, b2⟩ := h2
  obtain ⟨u3, c1, c2⟩ := h3
  obtain ⟨u4, d1, d2⟩ := h4
  refine ⟨fun D σ H => te σ H fun x H1 => u1 x σ H1 fun σ1 H2 => u2 x σ1 H2 fun σ2 H3 => u3 x σ2 H3 fun σ3 H4 => u4 x σ3 H4 D.nx, fun i => ⟨fun pins s σ H D I h => ?_⟩, ?_⟩
  · refine wpAny_Assign_four (thn ((e1 i).run pins s σ H _ I h) fun v s1 ⟨x, H1, I1, r1, q1⟩ => ?_) (ha i) (hs i) (hw i)
    refine thn ((a1 i).run pins s1 σ H1 x v _ I1 r1 q1) fun _ s2 ⟨σ2, H2, I2, q2⟩ => ?_
    refine thn ((b1 i).run pins s2 σ2 H2 x v _ I2 r1 q2) fun _ s3 ⟨σ3, H3, I3, q3⟩ => ?_
    refine thn ((c1 i).run pins s3 σ3 H3 x v _ I3 r1 q3) fun _ s4 ⟨σ4, H4, I4, q4⟩ => ?_
    exact thn ((d1 i).run pins s4 σ4 H4 x v _ I4 r1 q4) fun _ s5 q => q
  · intro G m F H σ ρ S E hW hE h fs
    refine e2 G m F H σ ρ _ _ E.ex hW hE h fs.ex ?_
    intro d m1 v G1 H1 q f1 W1 r1
    refine a2 G1 m1 F H1 v d σ ρ _ _ W1 (hE.mono f1) r1 q ?_
    intro ρ1 σ1 q1 E1 _
    refine b2 G1 m1 F H1 v d σ1 ρ1 _ _ W1 E1 r1 q1 ?_
    intro ρ2 σ2 q2 E2 _
    refine c2 G1 m1 F H1 v d σ2 ρ2 _ _ W1 E2 r1 q2 ?_
    intro ρ3 σ3 q3 E3 _
    refine d2 G1 m1 F H1 v d σ3 ρ3 _ _ W1 E3 r1 q3 ?_
    intro ρ4 σ4 q4 E4 _
    exact fs.nx _ m1 _ G1 _ q4 f1 W1 E4
/-! x op= e -/
def InU (K : Fg) {ι : Type} (X : ι → Cx) (op : Operator) (w : WR) : Prop := ∃ r : R2, (∀ i, PIp (X i) op r) ∧ LiftR K r w
def dAddI : WR := fun x y m Q => match x, y with
  | .int i, .int j => Q (.int (i + j)) m
  | _, _ => False
theorem in_addD : InU K X .Add dAddI := by
  refine ⟨L2.rAdd, fun i => in_add, ?_⟩
  intro G m F H x y dx dy Q Qd hW rx ry h hQ
  cases rx <;> cases ry <;> first | exact (show False from h).elim | skip
  case int.int i j => exact ⟨i, j, rfl, rfl, hQ.here hW h (.int _)⟩
def sAug (i : Nat) (r : WR) (we : WE) : WS := fun E ρ m => match ρ[i]? with
  | some (some d) => we ρ m (fun y m1 => r d y m1 fun z m2 => E.nx (ρ.set i (some z)) m2) E.ex
  | _ => False
theorem ps_augD (i : Nat) {op : Operator} {N : List Str} {x : Str} {p' : Pos} {r : WR} (ho : InU K X op r) (hX : ∀ j, (X j).N = N) (hN : N.Nodup) (he : PD K W X e we) (hi : N[i]? = some x := by rfl) (hx : ∀ j, Loc (X j).env.scope x := by intro _; first | exact Or.inl rfl | exact Or.inr rfl)
    (hf : ∀ j, (X j).fn x = true ∨ (X j).env.scope.names.lookup x = some .local := by intro _; first | exact Or.inl rfl | exact Or.inr rfl) : PDS K W X (.AugAssign (.Name x p') op e pos) (sAug i r we) := by
  obtain ⟨te, e1, e2⟩ := he
  obtain ⟨rr, o1, o2⟩ := ho
  refine ⟨_, fun j => L2.ps_aug (i := i) (by rw [hX j]; exact hN) (by rw [hX j]; exact hi) (hx j) (e1 j) (o1 j) (hf j), ?_⟩
  intro G m F H σ ρ S E hW hE h fs
  unfold sAug at h
  split at h
  · rename_i d ed
    obtain ⟨v, h1, h2⟩ := hE.get ed
    refine ⟨v, h1, e2 G m F H σ ρ _ _ E.ex hW hE h fs.ex ?_⟩
    intro y m1 u G1 H1 q f1 W1 ry
    refine o2 G1 m1 F H1 v u d y _ _ W1 (h2.mono f1) ry q ?_
    intro z m2 zv G2 H2 q2 f2 W2 rz
    exact fs.nx _ m2 _ G2 _ q2 (f1.trans f2) W2 ((hE.mono (f1.trans f2)).put rz i)
  · cases h
end
end DL
/-! XA2: tuple * k, also for k = 1 and k ≤ 0 -/
namespace L2
open PySem PySem.Spec PyProof.Rows
theorem tuple_mul1 (l : Addr) (items : Array Value) (n : Nat) (dd : Option Addr) (x : Int) (u : Tok) (sl : Array (Option Value)) (c0 : (decide (x < -(2 ^ 63)) || decide (x ≥ 2 ^ 63)) = false) (c1 : (items.isEmpty || x == 1) = true) :
    Meets (Builtin.«tuple.__mul__» ⟨[.ref l, .int x u], []⟩) (fun _ R s => s.heap.get? l = some { cls := .type "tuple", dict := dd, data := .seq items n, slots := sl } ∧
      R (.ok (.ret (Value.ref l))) s) :=
  .of_wp fun prog w A R s h => by
    obtain ⟨hp, g, d, tk, os⟩ := s
    obtain ⟨hl, h⟩ := h
    have f1 := AutoSeq1.idx_int
    wp_walk using wpAny_loadPart' hl
    repeat (first
      | (refine wpAny_ite_false (decide_eq_false (by rw [c0]; exact Bool.false_ne_true)) ?_; wp_walk using wpAny_loadPart' hl)
      | (refine wpAny_ite_true (decide_eq_true c1) ?_; wp_walk using wpAny_loadPart' hl))
    all_goals exact ⟨_, rfl, h⟩
theorem tuple_mul0 (l : Addr) (items : Array Value) (n : Nat) (dd : Option Addr) (x : Int) (u : Tok) (sl : Array (Option Value)) (c0 : (decide (x < -(2 ^ 63)) || decide (x ≥ 2 ^ 63)) = false) (c1 : (items.isEmpty || x == 1) = false) (c2 : (decide (x ≤ 0) || items.isEmpty) = true) :
    Meets (Builtin.«tuple.__mul__» ⟨[.ref l, .int x u], []⟩) (fun _ R s => s.heap.get? l = some { cls := .type "tuple", dict := dd, data := .seq items n, slots := sl } ∧
      R (.ok (.ret (Value.ref s.heap.objs.size))) { s with heap := s.heap.push { cls := Value.type "tuple", data := Data.seq #[] }, toks := s.toks }) :=
  .of_wp fun prog w A R s h => by
    obtain ⟨hp, g, d, tk, os⟩ := s
    obtain ⟨hl, h⟩ := h
    have f1 := AutoSeq1.idx_int
    wp_walk using wpAny_loadPart' hl
    repeat (first
      | (refine wpAny_ite_false (decide_eq_false (by rw [c0]; exact Bool.false_ne_true)) ?_; wp_walk using wpAny_loadPart' hl)
      | (refine wpAny_ite_false (decide_eq_false (by rw [c1]; exact Bool.false_ne_true)) ?_; wp_walk using wpAny_loadPart' hl)
      | (refine wpAny_ite_true (decide_eq_true c2) ?_; wp_walk using wpAny_loadPart' hl))
    all_goals exact ⟨_, rfl, h⟩
def rRepT0 (K : PySem.W.Frag) : R2 := fun x y H Q => ∃ l k xs, x = .ref l ∧ y = .int k ∧ SqT K H l xs ∧ xs ≠ [] ∧ -1000 ≤ k ∧ k ≤ 0 ∧ ∀ p, H p = none → Q (.ref p) (upd H p (.tup []))
def rRepT1 (K : PySem.W.Frag) : R2 := fun x y H Q => ∃ l xs, x = .ref l ∧ y = .int 1 ∧ SqT K H l xs ∧ Q (.ref l) H
section
variable {X : Cx}
theorem op_repT1 : OpR X (binaryOp .Mult) (rRepT1 X.K) := by
  intro pins s σ H x y v u Q I rx ry h
  obtain ⟨l, xs, rfl, rfl, hT, q⟩ := h
  cases rx
  obtain ⟨t, rfl⟩ := ry
  obtain ⟨its, r, ⟨⟨cls, dd, data, sl⟩, ho, hc, n, hd⟩, hs⟩ := I.tuple hT
  simp only at hc hd
  subst hc hd
  have ty : s.TypeIs (.ref l) "tuple" := ⟨_, ho, rfl⟩
  have c0 : (decide ((1 : Int) < -(2 ^ 63)) || decide ((1 : Int) ≥ 2 ^ 63)) = false := by decide
  refine wpAny_binaryOp_repeat_ref (T := "tuple") (U := "int") (by decide) ⟨_, ho, rfl⟩ (fun s' => typeIs_int s' 1 t) noFill_tuple_mul F.fills_int_mul F.slot_int_rmul repeat_tuple F.slot_int_index.lookup
    (call_meets F.slot_int_rmul (typeIs_int s 1 t) F.entry_int_rmul (F.args_int_rmul_2 _ _) (int_rmul_tuple 1 t l its.toArray n dd sl)
      ⟨ho, rfl, ⟨_, ho, rfl⟩, call_meets F.slot_tuple_mul ⟨_, ho, rfl⟩ F.entry_tuple_mul (F.args_tuple_mul_2 _ _) (tuple_mul1 l its.toArray n dd 1 t sl c0 (by rw [Bool.or_eq_true]; exact Or.inr rfl)) ⟨ho, ?_⟩⟩)
  exact ⟨.ref l, _, I.tok _, rfl, q⟩
theorem op_repT0 : OpR X (binaryOp .Mult) (rRepT0 X.K) := by
  intro pins s σ H x y v u Q I rx ry h
  obtain ⟨l, k, xs, rfl, rfl, hT, hne, h1, h2, q⟩ := h
  cases rx
  obtain ⟨t, rfl⟩ := ry
  obtain ⟨its, r, ⟨⟨cls, dd, data, sl⟩, ho, hc, n, hd⟩, hs⟩ := I.tuple hT
  simp only at hc hd
  subst hc hd
  have hle : its.length = xs.length := r.length.symm
  have hi : its.toArray.isEmpty = false := by
    cases its with
    | nil => exact absurd (List.eq_nil_of_length_eq_zero hle.symm) hne
    | cons a b => rfl
  have c0 : (decide (k < -(2 ^ 63)) || decide (k ≥ 2 ^ 63)) = false := by
    rw [decide_eq_false (by omega), decide_eq_false (by omega)] <;> rfl
  have c1 : (its.toArray.isEmpty || k == 1) = false := by
    rw [hi, Bool.false_or]
    exact beq_eq_false_iff_ne.mpr (by omega)
  have c2 : (decide (k ≤ 0) || its.toArray.isEmpty) = true := by
    rw [decide_eq_true h2]; rfl
  refine wpAny_binaryOp_repeat_ref (T := "tuple") (U := "int") (by decide) ⟨_, ho, rfl⟩ (fun s' => typeIs_int s' k t) noFill_tuple_mul F.fills_int_mul F.slot_int_rmul repeat_tuple F.slot_int_index.lookup
    (call_meets F.slot_int_rmul (typeIs_int s k t) F.entry_int_rmul (F.args_int_rmul_2 _ _) (int_rmul_tuple k t l its.toArray n dd sl)
      ⟨ho, rfl, ⟨_, ho, rfl⟩, call_meets F.slot_tuple_mul ⟨_, ho, rfl⟩ F.entry_tuple_mul (F.args_tuple_mul_2 _ _) (tuple_mul0 l its.toArray n dd k t sl c0 c1 c2) ⟨ho, ?_⟩⟩)
  refine ⟨.ref s.heap.objs.size, _, I.laid (t' := s.toks) (o := .tup []) (fun b ob q => Heap.get?_push_of_some _ q) (Nat.le_refl _) ?_, rfl, q _ (I.hok.fresh (Nat.le_refl _))⟩
  exact ⟨Nat.zero_le _, _, .nil, IsTup.new _ _⟩
end
end L2
/-! XA3: min of a list of pairs of integers -/
namespace L2
open PySem PySem.Spec PyProof.Rows PySem.W
def pairP (p : Int × Int) : PyData := .tuple [.int p.1, .int p.2]
def pairLt (p q : Int × Int) : Prop := p.1 < q.1 ∨ (p.1 = q.1 ∧ p.2 < q.2)
theorem pair_lt (p q : Int × Int) : dataLt (pairP p) (pairP q) = true ↔ pairLt p q := by
  obtain ⟨a, b⟩ := p
  obtain ⟨c, d⟩ := q
  have e1 : keyToks (pairP (a, b)) = [Sum.inl 1, Sum.inl a, Sum.inl 1, Sum.inl b, Sum.inl 0] := by
    simp [pairP, keyToks, keyToksAll]
  have e2 : keyToks (pairP (c, d)) = [Sum.inl 1, Sum.inl c, Sum.inl 1, Sum.inl d, Sum.inl 0] := by
    simp [pairP, keyToks, keyToksAll]
  unfold dataLt pairLt
  rw [e1, e2]
  rw [lex_self (O := itemOrd)]
  by_cases h : a = c
  · subst h
    rw [lex_self (O := itemOrd), lex_self (O := itemOrd)]
    by_cases h2 : b = d
    · subst h2
      rw [lex_self (O := itemOrd), lex_self (O := itemOrd)]
      simp
      rfl
    · rw [lex_diff (O := itemOrd) (fun z => h2 (Sum.inl.inj z))]
      show decide (b < d) = true ↔ _
      rw [decide_eq_true_eq]
      simp
  · rw [lex_diff (O := itemOrd) (fun z => h (Sum.inl.inj z))]
    show decide (a < c) = true ↔ _
    rw [decide_eq_true_eq]
    constructor
    · exact fun x => Or.inl x
    · rintro (x | ⟨x, _⟩)
      · exact x
      · exact absurd x h
theorem best_le (bt : Nat → Nat → Bool) : ∀ n, argBest bt n ≤ n
  | 0 => Nat.le_refl _
  | n + 1 => by
    unfold argBest
    split
    · exact Nat.le_refl _
    · exact Nat.le_succ_of_le (best_le bt n)
theorem best_min (f : Nat → Int × Int) (bt : Nat → Nat → Bool) (N : Nat) (hb : ∀ i j, i ≤ N → j ≤ N → (bt i j = true ↔ pairLt (f i) (f j))) : ∀ n i, n ≤ N → i ≤ n → ¬ pairLt (f i) (f (argBest bt n))
  | 0, i, _, h => by
    have : i = 0 := by omega
    subst this
    unfold argBest pairLt
    omega
  | n + 1, i, hN, h => by
    have ih := best_min f bt N hb n
    have le := best_le bt n
    unfold argBest
    by_cases c : bt (n + 1) (argBest bt n) = true
    · rw [if_pos c]
      have c := (hb _ _ hN (by omega)).mp c
      rcases Nat.lt_or_ge i (n + 1) with hlt | hge
      · have := ih i (by omega) (by omega)
        unfold pairLt at *
        omega
      · have : i = n + 1 := by omega
        subst this
        unfold pairLt
        omega
    · rw [if_neg c]
      have c : ¬ pairLt (f (n + 1)) (f (argBest bt n)) := fun z => c ((hb _ _ hN (by omega)).mpr z)
      rcases Nat.lt_or_ge i (n + 1) with hlt | hge
      · exact ih i (by omega) (by omega)
      · have : i = n + 1 := by omega
        subst this
        exact c
theorem min_list_at {prog : Program} {w : World} {A : Around} {E : Value → Shared → Prop} {s : Shared} {l : Addr} {vs : Array Value} {x : PyData} {xs : List PyData} {as : List Addr} {Q : Value → Shared → Prop} (hh : A.handled = none) (hl : s.heap.IsList l vs) (hr : ReadsAll s.heap vs.toList (x :: xs) as) (ha : AlikeAll (x :: xs)) (hu : A.units + 1 + PyData.depthAll (x :: xs) < cLine)
    (h : ∀ v h' tk, vs[argBest (fun i j => dataLt ((x :: xs).getD i .none) ((x :: xs).getD j .none)) xs.length]? = some v → (∀ b o, s.heap.get? b = some o → h'.get? b = some o) → Q v { s with heap := h', toks := tk }) :
    wpAny (model prog w) A (call (.builtin "min") [.ref l]) Q E s := by
  have hn : vs.size = xs.length + 1 := readsAll_len hr
  refine call_min_walkH (iter_listW (A := A.in1) hh hl fun s₂ e W st hfp hw hk => ?_)
  refine ⟨_, _, _, _, _, _, _, s.heap, _, rfl, W, st, hfp, by omega, hw, hk, cmpIn_lt (A := A.in1) hr ha (by show A.units + 1 + _ < _; exact hu), fun v s' hP m => ?_⟩
  obtain ⟨h', tk, rfl, hk'⟩ := moved_old e rfl m
  have e1 : vs.size - 1 = xs.length := by omega
  rw [e1] at hP
  exact h v h' tk hP hk'
def rMinP (K : PySem.W.Frag) : List V → Hp → VK → Prop := fun vs H Q => ∃ (a : Addr) (ts : List Addr) (ps : List (Int × Int)), vs = [V.ref a] ∧ SqL K H a (ts.map V.ref) ∧ Paired (fun t p => SqT K H t [.int p.1, .int p.2]) ts ps ∧ ps ≠ [] ∧
  ∀ (i : Nat) (t : Addr) (p : Int × Int), ts[i]? = some t → ps[i]? = some p → (∀ q ∈ ps, ¬ pairLt q p) → Q (.ref t) H
theorem dp_pairs {K : PySem.W.Frag} {H : Hp} : ∀ {ts : List Addr} {ps : List (Int × Int)}, Paired (fun t p => SqT K H t [.int p.1, .int p.2]) ts ps → DpAll K H (ts.map V.ref) (ps.map pairP)
  | _, _, .nil => .nil
  | _, _, .cons h t => .cons (.tup h (.cons (.int _) (.cons (.int _) .nil))) (dp_pairs t)
theorem paired_at {α β : Type} {F : α → β → Prop} : ∀ {l : List α} {m : List β}, Paired F l m → l.length = m.length
  | _, _, .nil => rfl
  | _, _, .cons _ t => by rw [List.length_cons, List.length_cons, paired_at t]
theorem depth_pairs : ∀ ps : List (Int × Int), PyData.depthAll (ps.map pairP) ≤ 2
  | [] => by simp [PyData.depthAll]
  | p :: ps => by
    have := depth_pairs ps
    have e : (pairP p).depth ≤ 2 := by simp [pairP, PyData.depth, PyData.depthAll]
    simp only [List.map_cons, PyData.depthAll]
    exact Nat.max_le.mpr ⟨e, this⟩
theorem cr_minP {X : Cx} (hc : X.calm = true) (hu : X.A.units + 64 < cLine) : CallR X (.builtin "min") (rMinP X.K) := by
  intro pins s σ H vs us Q I r h
  obtain ⟨a, ts, ps, rfl, hs, hp, hne, q⟩ := h
  obtain ⟨its, rv, hl, _⟩ := I.list hs
  rw [Vals.ref1 r]
  obtain ⟨as, hr⟩ := Dp.readsAll I (ps.map pairP) _ its (dp_pairs hp) rv
  cases ps with
  | nil => exact absurd rfl hne
  | cons p0 ps =>
    have hr' : ReadsAll s.heap its.toArray.toList (pairP p0 :: ps.map pairP) as := by simpa using hr
    have alk : AlikeAll (pairP p0 :: ps.map pairP) := by
      have e : ∀ x ∈ (pairP p0 :: ps.map pairP), ∃ p, x = pairP p := by
        intro x hx
        rcases List.mem_cons.mp hx with rfl | hx
        · exact ⟨_, rfl⟩
        · obtain ⟨p, _, rfl⟩ := List.mem_map.mp hx
          exact ⟨p, rfl⟩
      refine ⟨fun x hx y hy => ?_, fun x hx => ?_⟩
      · obtain ⟨p, rfl⟩ := e x hx
        obtain ⟨q, rfl⟩ := e y hy
        simp [pairP, alike, alikeAll]
      · obtain ⟨p, rfl⟩ := e x hx
        intro z
        cases z
    have dep := depth_pairs (p0 :: ps)
    refine min_list_at (A := X.A) (I.ok.hd hc) hl.isList hr' alk (by simp only [List.map_cons] at dep; omega) ?_
    intro v h' tk hv hk
    have hlen := paired_at hp
    generalize hI : argBest (fun i j => dataLt ((pairP p0 :: ps.map pairP).getD i .none) ((pairP p0 :: ps.map pairP).getD j .none)) (ps.map pairP).length = ix at hv
    have ile : ix ≤ ps.length := by
      rw [← hI]
      have := best_le (fun i j => dataLt ((pairP p0 :: ps.map pairP).getD i .none) ((pairP p0 :: ps.map pairP).getD j .none)) (ps.map pairP).length
      rw [List.length_map] at this ⊢
      exact this
    have hix : ix < (p0 :: ps).length := by rw [List.length_cons]; omega
    have ht : ix < ts.length := by rw [hlen]; exact hix
    have e1 : ts[ix]? = some ts[ix] := List.getElem?_eq_getElem ht
    have e2 : (p0 :: ps)[ix]? = some (p0 :: ps)[ix] := List.getElem?_eq_getElem hix
    have hv' : its[ix]? = some v := by simpa using hv
    obtain ⟨w, hw, rw'⟩ := Vals.get rv (i := ix) (x := V.ref ts[ix]) (by rw [List.getElem?_map, e1]; rfl)
    rw [hv'] at hw
    cases hw
    cases rw'
    refine ⟨.ref ts[ix], H, I.kept hk, rfl, q ix _ _ e1 e2 ?_⟩
    intro y hy
    obtain ⟨j, hj, ej⟩ := List.mem_iff_getElem.mp hy
    have key := best_min (fun i => (p0 :: ps).getD i (0, 0)) (fun i j => dataLt ((pairP p0 :: ps.map pairP).getD i .none) ((pairP p0 :: ps.map pairP).getD j .none)) ps.length (fun i j hi hj => by
      have g : ∀ i, i ≤ ps.length → (pairP p0 :: ps.map pairP).getD i .none = pairP ((p0 :: ps).getD i (0, 0)) := by
        intro i hi
        have e : (pairP p0 :: ps.map pairP) = (p0 :: ps).map pairP := rfl
        have hi' : i < (p0 :: ps).length := by rw [List.length_cons]; omega
        rw [e, List.getD_eq_getElem?_getD, List.getD_eq_getElem?_getD, List.getElem?_map, List.getElem?_eq_getElem hi']
        rfl
      show dataLt _ _ = true ↔ _
      rw [g i hi, g j hj]
      exact pair_lt _ _) ps.length j (Nat.le_refl _) (by rw [List.length_cons] at hj; omega)
    rw [List.length_map] at hI
    rw [hI] at key
    have g1 : (p0 :: ps).getD j (0, 0) = y := by
      rw [List.getD_eq_getElem?_getD, List.getElem?_eq_getElem hj, ej]
      rfl
    have g2 : (p0 :: ps).getD ix (0, 0) = (p0 :: ps)[ix] := by
      rw [List.getD_eq_getElem?_getD, e2]
      rfl
    simp only [g1, g2] at key
    exact key
end L2
/-! XA4: at the level of data: tuple * k, min of pairs, dict of pairs, d.get(k, x), l.pop(i) as a statement -/
namespace DL
open PySem L2 XO
open Evl (Ex)
section
variable {K : Fg} {W : Wx} {ι : Type} {X : ι → Cx} {pos : Pos} {a b c e f : Expr} {es : List Expr} {wa wb wc we wf w : WE} {wr : WA}
/-! tuple * k -/
def dMulT : WR := fun x y m Q => match x, y with
  | .tup a, .int k => (a ≠ [] ∧ -1000 ≤ k ∧ k ≤ 1000 ∧ a.length ≤ 1000) ∧ Q (.tup (List.replicate k.toNat a).flatten) m
  | _, _ => False
def rMulT (K : Fg) : R2 := fun x y H Q => (rRepT0 K x y H Q ∨ rRepT1 K x y H Q) ∨ rRepT K x y H Q
theorem op_mulT {X : Cx} : OpR X (binaryOp .Mult) (rMulT X.K) := (op_repT0.or op_repT1).or op_repT
theorem lift_mulT {K : Fg} : LiftR K (rMulT K) dMulT := by
  intro G m F H x y dx dy Q Qd hW rx ry h hQ
  cases rx <;> cases ry <;> first | exact (show False from h).elim | skip
  case tup.int a xs ds h1 r1 k =>
    obtain ⟨⟨c1, c2, c3, c4⟩, q⟩ := h
    have hT := Evl.ex_t hW.ex h1
    have hne : xs ≠ [] := fun z => by subst z; cases r1; exact c1 rfl
    rcases Int.lt_trichotomy k 1 with hk | hk | hk
    · refine Or.inl (Or.inl ⟨a, k, xs, rfl, rfl, hT, hne, c2, by omega, ?_⟩)
      have e : k.toNat = 0 := by omega
      have q : Qd (.tup (List.replicate k.toNat ds).flatten) m := q
      rw [e] at q
      exact hQ.tup hW q .nil
    · subst hk
      refine Or.inl (Or.inr ⟨a, xs, rfl, rfl, hT, ?_⟩)
      have e : (List.replicate (1 : Int).toNat ds).flatten = ds := by
        have : (1 : Int).toNat = 1 := rfl
        rw [this]
        simp
      have q : Qd (.tup (List.replicate (1 : Int).toNat ds).flatten) m := q
      rw [e] at q
      exact hQ.here hW q (.tup h1 r1)
    · exact Or.inr ⟨a, k, xs, rfl, rfl, hT, hne, by omega, c3, by rw [r1.len]; exact c4, hQ.tup hW q (r1.rep _)⟩
theorem pd_mulT (hK : ∀ i, (X i).K = K) (ha : PD K W X a wa) (hb : PD K W X b wb) : PD K W X (.BinOp a .Mult b pos) (wOp dMulT wa wb) := bin_of (fun i => hK i ▸ op_mulT) lift_mulT ha hb
/-! min of a list of pairs -/
def pairD (p : Int × Int) : D := .tup [.int p.1, .int p.2]
def dMinP : WC := fun xs m Q => ∃ ps : List (Int × Int), xs = [.lst (ps.map pairD)] ∧ ps ≠ [] ∧ ∀ p ∈ ps, (∀ q ∈ ps, ¬ pairLt q p) → Q (pairD p) m
theorem rp_pairs {G H : Hp} (e : Ex G H) : ∀ {ps : List (Int × Int)} {vs : List V}, RpA K G vs (ps.map pairD) → ∃ ts : List Addr, vs = ts.map V.ref ∧ Paired (fun t p => SqT K H t [.int p.1, .int p.2]) ts ps ∧ ∀ (i : Nat) (t : Addr) (p : Int × Int), ts[i]? = some t → ps[i]? = some p → Rp K G (.ref t) (pairD p)
  | [], _, r => by
    cases r
    exact ⟨[], rfl, .nil, fun i t p h => by simp at h⟩
  | p :: ps, _, r => by
    cases r with
    | cons r t =>
      obtain ⟨ts, rfl, h2, h3⟩ := rp_pairs e t
      have r0 := r
      cases r with
      | tup hx rr =>
        rename_i a xs
        cases rr with
        | cons ra rr =>
          cases rr with
          | cons rb rr =>
            cases rr
            cases ra
            cases rb
            refine ⟨a :: ts, rfl, .cons (Evl.ex_t e hx) h2, ?_⟩
            intro i t p hi hp
            cases i with
            | zero => simp at hi hp; subst hi hp; exact r0
            | succ i => exact h3 i t p (by simpa using hi) (by simpa using hp)
theorem b_minP {P : Program} {wo : World} {mg : Str → Option Value} {base : Heap} {k : Nat} {N : List Str} (hX : Fam P wo K mg base k N X) : BiU K X (.builtin "min") dMinP := by
  refine ⟨rMinP K, fun i => hX.K i ▸ cr_minP (hX.calm i) (by have := (hX.room i).un; omega), ?_⟩
  intro G m F H xs ds Q Qd hW r h hQ
  obtain ⟨ps, rfl, hne, q⟩ := h
  cases r with
  | cons r1 t =>
    cases t
    cases r1 with
    | lst hl rr =>
      obtain ⟨ts, rfl, h2, h3⟩ := rp_pairs hW.ex rr
      refine ⟨_, ts, ps, rfl, SqL.of (hW.ex _ _ hl), h2, hne, fun i t p hi hp hmin => ?_⟩
      exact hQ.here hW (q p (List.mem_of_getElem? hp) hmin) (h3 i t p hi hp)
/-! dict of a list of pairs -/
def keyD : Key → D
  | .inl i => .int i
  | .inr s => .str s
def pairsD (ks : List Key) (ds : List D) : List D := (ks.zip ds).map fun p => .tup [keyD p.1, p.2]
def dDictP : WC := fun xs m Q => ∃ ks ds, xs = [.lst (pairsD ks ds)] ∧ ks.length = ds.length ∧ ks.Nodup ∧ Q (.dct ks ds) m
theorem rp_key {G : Hp} {v : V} {k : Key} (r : Rp K G v (keyD k)) : v = kV k := by
  cases k <;> (cases r; rfl)
theorem rp_kvs {G H : Hp} (e : Ex G H) : ∀ {ks : List Key} {ds : List D} {vs : List V}, ks.length = ds.length → RpA K G vs (pairsD ks ds) → ∃ (ts : List Addr) (us : List V), vs = ts.map V.ref ∧ Paired (fun t kv => SqT K H t [kV kv.1, kv.2]) ts (ks.zip us) ∧ us.length = ks.length ∧ RpA K G us ds
  | [], [], _, _, r => by
    cases r
    exact ⟨[], [], rfl, .nil, rfl, .nil⟩
  | [], _ :: _, _, h, _ => by cases h
  | _ :: _, [], _, h, _ => by cases h
  | k :: ks, d :: ds, _, h, r => by
    cases r with
    | cons r t =>
      obtain ⟨ts, us, rfl, h2, h3, h4⟩ := rp_kvs e (by simpa using h) t
      cases r with
      | tup hx rr =>
        rename_i a xs
        cases rr with
        | cons ra rr =>
          cases rr with
          | cons rb rr =>
            cases rr
            have := rp_key ra
            subst this
            exact ⟨a :: ts, _ :: us, rfl, .cons (Evl.ex_t e hx) h2, by rw [List.length_cons, List.length_cons, h3], .cons rb h4⟩
theorem merge_zip : ∀ (kvs pre : List (Key × V)), ((pre ++ kvs).map (·.1)).Nodup → mergeK pre kvs = pre ++ kvs
  | [], pre, _ => by rw [List.append_nil]; rfl
  | kv :: kvs, pre, nd => by
    have hk : valV pre kv.1 = none := by
      unfold valV
      rw [List.find?_eq_none.mpr ?_]
      · rfl
      · intro x hx
        simp only [decide_eq_true_eq]
        intro z
        rw [List.map_append, List.map_cons] at nd
        exact (List.nodup_append.mp nd).2.2 x.1 (List.mem_map_of_mem hx) kv.1 List.mem_cons_self z
    have e : mergeK pre (kv :: kvs) = mergeK (putK pre kv.1 kv.2) kvs := rfl
    rw [e, putK_new _ hk, merge_zip kvs (pre ++ [(kv.1, kv.2)]) (by rw [List.append_assoc]; exact nd), List.append_assoc]
    rfl
theorem zip_fst {α β : Type} : ∀ {ks : List α} {us : List β}, us.length = ks.length → (ks.zip us).map (·.1) = ks
  | [], [], _ => rfl
  | [], _ :: _, h => by cases h
  | _ :: _, [], h => by cases h
  | k :: ks, u :: us, h => by
    show k :: ((ks.zip us).map (·.1)) = _
    rw [zip_fst (by simpa using h)]
theorem zip_snd {α β : Type} : ∀ {ks : List α} {us : List β}, us.length = ks.length → (ks.zip us).map (·.2) = us
  | [], [], _ => rfl
  | [], _ :: _, h => by cases h
  | _ :: _, [], h => by cases h
  | k :: ks, u :: us, h => by
    show u :: ((ks.zip us).map (·.2)) = _
    rw [zip_snd (by simpa using h)]
theorem b_dictP (hK : ∀ i, (X i).K = K) (hc : ∀ i, (X i).calm = true) : BiU K X (.type "dict") dDictP := by
  refine ⟨fun xs H Q => ∃ (a : Addr) (ps : List Addr) (kvs : List (Key × V)), xs = [.ref a] ∧ SqL K H a (ps.map V.ref) ∧ Paired (fun p kv => SqT K H p [kV kv.1, kv.2]) ps kvs ∧
    ∀ p, H p = none → Q (.ref p) (upd H p (.dK (mergeK [] kvs))), fun i => hK i ▸ call_dictP (hc i), ?_⟩
  intro G m F H xs ds0 Q Qd hW r h hQ
  obtain ⟨ks, ds, rfl, hl, nd, q⟩ := h
  cases r with
  | cons r1 t =>
    cases t
    cases r1 with
    | lst hx rr =>
      obtain ⟨ts, us, rfl, h2, h3, h4⟩ := rp_kvs hW.ex hl rr
      refine ⟨_, ts, ks.zip us, rfl, SqL.of (hW.ex _ _ hx), h2, fun p hp => ?_⟩
      rw [merge_zip _ [] (by rw [List.nil_append, zip_fst h3]; exact nd), List.nil_append]
      obtain ⟨e, W'⟩ := hW.new hp (.dK (ks.zip us))
      exact hQ _ m _ _ _ q e W' (.dct upd_same (zip_fst h3) (zip_snd h3) (h4.mono e))
/-! d.get(k, x) -/
def wGet2 (we wi wx : WE) : WE := fun ρ m Q Qx => we ρ m (fun x m1 => (match x with
  | .dct _ _ => True
  | _ => False) ∧ wi ρ m1 (fun y m2 => wx ρ m2 (fun z m3 => match x, y with
  | .dct ks ds, .str s => Q ((findD ks ds (.inr s)).getD z) m3
  | .dct ks ds, .int i => Q ((findD ks ds (.inl i)).getD z) m3
  | _, _ => False) Qx) Qx) Qx
theorem find_none {G : Hp} {x : Key} : ∀ {kvs : List (Key × V)} {ds : List D}, RpA K G (kvs.map (·.2)) ds → findD (kvs.map (·.1)) ds x = none → valV kvs x = none
  | [], _, r, h => rfl
  | (k, v) :: kvs, _, r, h => by
    cases r with
    | cons r t =>
      have h : (if k = x then some _ else findD (kvs.map (·.1)) _ x) = none := h
      by_cases c : k = x
      · rw [if_pos c] at h; cases h
      · rw [if_neg c] at h
        have := find_none t h
        unfold valV at this ⊢
        rw [List.find?_cons_of_neg (by simpa using c)]
        exact this
theorem get_of {G : Hp} {x : Key} {kvs : List (Key × V)} {ds : List D} {z : V} {d : D} (r : RpA K G (kvs.map (·.2)) ds) (rz : Rp K G z d) : Rp K G ((valV kvs x).getD z) ((findD (kvs.map (·.1)) ds x).getD d) := by
  cases e : findD (kvs.map (·.1)) ds x with
  | none => rw [find_none r e]; exact rz
  | some y =>
    obtain ⟨v, h1, h2⟩ := find_of r e
    rw [h1]
    exact h2
theorem pd_get2 {P : Program} {wo : World} {mg : Str → Option Value} {base : Heap} {k : Nat} {N : List Str} {apos : Pos} (hX : Fam P wo K mg base k N X) (ha : PD K W X a wa) (hb : PD K W X b wb) (hf : PD K W X f wf) (hm : ∀ i, M2 (X i) a "get" apos b f pos := by intro _; exact ⟨rfl, rfl, rfl, rfl⟩) : PD K W X (.Call (.Attribute a "get" apos) [b, f] [] pos) (wGet2 wa wb wf) := by
  obtain ⟨ta, a1, a2⟩ := ha
  obtain ⟨tb, b1, b2⟩ := hb
  obtain ⟨tf, f1, f2⟩ := hf
  refine ⟨_, fun i => pe_dget2 (by have := (hX.room i).un; omega) (a1 i) (b1 i) (f1 i) (hm i), ?_⟩
  intro G m F H σ ρ Q Qd Qx hW hE h hXx hQ
  refine a2 G m F H σ ρ _ _ Qx hW hE h hXx ?_
  intro x m1 xv G1 H1 q1 e1 W1 r1
  obtain ⟨q0, q1⟩ := q1
  cases r1 <;> first | exact (show False from q0).elim | skip
  rename_i a0 kvs ks vs ds hg h1 h2 rr
  subst h1 h2
  refine ⟨a0, rfl, Or.inl ⟨kvs, Or.inl (W1.ex _ _ hg)⟩, ?_⟩
  refine b2 G1 m1 F H1 σ ρ _ _ Qx W1 (hE.mono e1) q1 (hXx.mono e1) ?_
  intro y m2 yv G2 H2 q2 e2 W2 r2
  refine f2 G2 m2 F H2 σ ρ _ _ Qx W2 (hE.mono (e1.trans e2)) q2 (hXx.mono (e1.trans e2)) ?_
  intro z m3 zv G3 H3 q3 e3 W3 r3
  have r2 := r2.mono e3
  have hg := W3.ex _ _ ((e2.trans e3) _ _ hg)
  have rr := rr.mono (e2.trans e3)
  cases r2 <;> first | exact (show False from q3).elim | skip
  · exact ⟨_, Or.inl ⟨kvs, .inl _, Or.inl hg, rfl, rfl⟩, hQ _ m3 _ G3 H3 q3 ((e1.trans e2).trans e3) W3 (get_of rr r3)⟩
  · exact ⟨_, Or.inl ⟨kvs, .inr _, Or.inl hg, rfl, rfl⟩, hQ _ m3 _ G3 H3 q3 ((e1.trans e2).trans e3) W3 (get_of rr r3)⟩
/-! l.pop(i), a statement -/
def sPopAt (o : WE) (wr : WA) : WS := fun E ρ m => o ρ m (fun x m1 => match x with
  | .box p => (m1 p).isSome = true ∧ wr ρ m1 (fun ds m2 => ∃ i xs n, ds = [.int i] ∧ m2 p = some xs ∧ -(2 ^ 63) ≤ i ∧ i < 2 ^ 63 ∧ seqIndex? i xs.length = some n ∧ n < xs.length ∧ E.nx ρ (m2.up p (xs.eraseIdx n))) E.ex
  | _ => False) E.ex
theorem RpA.erase {G : Hp} : ∀ {vs : List V} {ds : List D} (n : Nat), RpA K G vs ds → RpA K G (vs.eraseIdx n) (ds.eraseIdx n)
  | _, _, _, .nil => .nil
  | _, _, 0, .cons _ t => t
  | _, _, n + 1, .cons r t => .cons r (RpA.erase n t)
theorem ps_popAt {o : Expr} {wo : WE} {apos cpos : Pos} (hK : ∀ i, (X i).K = K) (ho : PD K W X o wo) (ha : PDA K W X [e] wr)
    (hbase : ∀ i, attributeBase o "pop" (X i).env (eval o (X i).env) = eval o (X i).env := by intro _; rfl)
    (hfew : ∀ i, ((backTo cpos (starEach [e] (X i).env)).all (fun x => !x.1) && (backToKw cpos (keywordEach [] (X i).env)).all (fun x => x.1.isSome)
      && decide ([e].length + ([] : List Keyword).length + (if ([] : List Keyword).isEmpty then 0 else 1) < 30)) = true := by intro _; rfl)
    (hline : (apos.endLine == cpos.line) = true := by rfl) (hs : ∀ i, starEach [e] (X i).env = (false, eval e (X i).env) :: starEach [] (X i).env := by intro _; rfl) (hplain : ∀ i, (backTo cpos (starEach [] (X i).env)).any (·.1) = false := by intro _; rfl)
    (hsw : ∀ i, swapsWith (.Call (.Attribute o "pop" apos) [e] [] cpos) none pos.line (X i).env = pure false := by intro _; rfl) :
    PDS K W X (.Expr (.Call (.Attribute o "pop" apos) [e] [] cpos) pos) (sPopAt wo wr) := by
  obtain ⟨to, o1, o2⟩ := ho
  obtain ⟨ta, a1, a2⟩ := ha
  refine ⟨_, fun i => L2.ps_expr (te := tBM K "list" rPopAt to ta) (by have q := pe_bm PySem.F.plainAttrs_list PySem.F.slot_list_pop PySem.F.type_list_pop (mt_popAt (X := X i)) (o1 i) (a1 i) (hbase i) (hfew i) hline (hs i) (hplain i); rw [hK i] at q; exact q) (hsw i), ?_⟩
  intro G m F H σ ρ S E hW hE h f
  refine o2 G m F H σ ρ _ _ E.ex hW hE h f.ex ?_
  intro x m1 xv G1 H1 q1 e1 W1 r1
  cases r1 <;> first | exact (show False from q1).elim | skip
  rename_i p
  obtain ⟨hp, q1⟩ := q1
  obtain ⟨ds0, hp⟩ := Option.isSome_iff_exists.mp hp
  obtain ⟨_, _, xs0, hx0, _⟩ := W1.own p ds0 hp
  refine ⟨Or.inl ⟨rfl, _, SqL.of hx0⟩, ?_⟩
  refine a2 G1 m1 F H1 σ ρ _ _ E.ex W1 (hE.mono e1) q1 (f.ex.mono e1) ?_
  rintro ds m2 vs G2 H2 ⟨i, xs, n, rfl, hm, hi1, hi2, hn, hlt, q2⟩ e2 W2 r2
  cases r2 with
  | cons r2 t =>
    cases t
    cases r2
    obtain ⟨_, _, ys, hy, ry⟩ := W2.own p xs hm
    have hlt' : n < ys.length := by rw [ry.len]; exact hlt
    refine ⟨p, ys, i, n, ys[n], rfl, rfl, hy, hi1, hi2, by rw [ry.len]; exact hn, List.getElem?_eq_getElem hlt', ?_⟩
    exact f.nx ρ _ σ G2 _ q2 (e1.trans e2) (W2.put hm (ry.erase n)) (hE.mono (e1.trans e2))
end
end DL
/-! XA5: calls of defs by keywords alone -/
namespace DL
open PySem L2 XO
open Evl (Ex)
section
variable {P : Program} {w : World} {K : Fg} {mg : Str → Option Value} {base : Heap} {k : Nat} {N ps : List Str} {W : Wx} {ι : Type} {X : ι → Cx} {pos : Pos}
/-- a def and what it was made of -/
def HasXF (P : Program) (w : World) (K : Fg) (mg : Str → Option Value) (base : Heap) (j : Nat) (x qual : Str) (st : Stmt) (ps : List Str) (fn : DFn) : Prop :=
  ∃ f fd, FnG P w K mg base (L2.CX P w) j f fd ps (spD K mg fn) ∧ mg x = some (.ref f) ∧ PySem.W.keepIn K (.ref f) = true ∧ Binds K fd ps [] ∧ Fun K x qual st f fd
theorem HasXF.x {j : Nat} {x qual : Str} {st : Stmt} {fn : DFn} (h : HasXF P w K mg base j x qual st ps fn) : HasX P w K mg base j x ps fn := by
  obtain ⟨f, fd, h1, h2, h3, h4, _⟩ := h
  exact ⟨f, fd, h1, h2, h3, h4⟩
theorem has_ofXF {x qual : Str} {st : Stmt} {fn : DFn} {wb : WS} (Fu : FunAt K mg x qual st ps) (S : FnScope N ps (defScope st)) (hlen : ∀ ds m Q Qx, fn ds m Q Qx → ds.length = ps.length)
    (hb : ∀ (f : Addr) (cdv : Value) (A : Around) (oe : List Env) (s : Shared) (H : Hp) (E : XK), FamG P w K mg base k N (fun _ : Unit => cxOf (L2.CX P w) P w K mg base N qual (defScope st) f cdv A oe s H E) →
      (∀ i, Takes ((fun _ : Unit => cxOf (L2.CX P w) P w K mg base N qual (defScope st) f cdv A oe s H E) i) (toWX mg (byName mg (fun cls d _ H' => E cls d H')))) →
      PDB K (byName mg (fun cls d _ H' => E cls d H')) (fun _ : Unit => cxOf (L2.CX P w) P w K mg base N qual (defScope st) f cdv A oe s H E) (defBody st) wb)
    (hr : ∀ ds m Qd Qx, fn ds m Qd Qx → wb { nx := fun _ m' => Qd .non m', rt := Qd, ex := Qx } (ds.map some ++ List.replicate (N.length - ds.length) none) m) : HasXF P w K mg base (k + 1) x qual st ps fn := by
  obtain ⟨f, fd, hm, F, hbi⟩ := Fu
  exact ⟨f, fd, fn_okX F S hlen (hb f) hr, hm, F.kp, hbi, F⟩
/-- called by keywords alone: kn their names as they are written; gD puts the values in the parameters' order -/
def HasKX (P : Program) (w : World) (K : Fg) (mg : Str → Option Value) (base : Heap) (j : Nat) (x : Str) (ps kn : List Str) (gD : List D → List D) (fn : DFn) : Prop :=
  ∃ f fd g gV, FnG P w K mg base (L2.CX P w) j f fd ps (spD K mg fn) ∧ mg x = some (.ref f) ∧ PySem.W.keepIn K (.ref f) = true ∧ KBn K fd ps 0 kn g gV ∧ ∀ (G : Hp) (zs : List V) (es : List D), RpA K G zs es → es.length = kn.length → RpA K G (gV [] zs) (gD es)
theorem HasXF.kw {j : Nat} {x qual : Str} {st : Stmt} {fn : DFn} (h : HasXF P w K mg base j x qual st ps fn) (kn : List Str) (g : {α : Type} → List α → List α)
    (hb : ∀ (kV doc pm : Value) (an : Option Addr) (cdv ct : Value) (ws : List Value), ws.length = kn.length → bindArgs (PySem.W.fnOf x qual (defArgs st) (defBody st) (defScope st) .none kV doc pm an cdv ct) ⟨[], kn.zip ws⟩ = pure (ps.zip (g ws)))
    (hv : ∀ {zs : List V} {ws : List Value}, ws.length = kn.length → Vals zs ws → Vals (g zs) (g ws)) (hd : ∀ (G : Hp) (zs : List V) (es : List D), RpA K G zs es → es.length = kn.length → RpA K G (g zs) (g es))
    (hv0 : ∀ {zs : List V} {ws : List Value}, Vals zs ws → Vals (g zs) (g ws)) : HasKX P w K mg base j x ps kn g fn := by
  obtain ⟨f, fd, h1, h2, h3, h4, h5⟩ := h
  refine ⟨f, fd, fun _ ws => g ws, fun _ zs => g zs, h1, h2, h3, ⟨fun s us ws _ l1 l2 => ?_, fun _ r2 => hv0 r2⟩, hd⟩
  obtain ⟨oc, od, kV, doc, pm, an, cdv, ct, osl, rfl, _, _⟩ := h5.ex
  have : us = [] := List.eq_nil_of_length_eq_zero l1
  subst this
  exact .of_eq (hb kV doc pm an cdv ct ws l2)
def wCallKX (fn : DFn) (n : Nat) (gD : List D → List D) (wk : WA) : WE := fun ρ m Q Qx => wk ρ m (fun es m2 => es.length = n ∧ fn (gD es) m2 Q Qx) Qx
theorem pd_own_callKX {x : Str} {j : Nat} {kn : List Str} {gD : List D → List D} {fn : DFn} {p : Pos} {kws : List Keyword} {wk : WA} (hX : FamG P w K mg base k N X) (tk : ∀ i, Takes (X i) (toWX mg W)) (hh : HasKX P w K mg base j x ps kn gD fn) (hkw : PDK K W X kws wk) (hj : j ≤ k := by decide)
    (hg : ∀ i, Gl (X i) x := by intro _; rfl) (hall : ∀ i, (backToKw pos (keywordEach kws (X i).env)).all (·.1.isSome) = true := by intro _; rfl) (hks : ∀ i, (backToKw pos (keywordEach kws (X i).env)).filterMap (·.1) = kn := by intro _; rfl) (hdb : (x == ("__debug__" : Str)) = false := by decide)
    (hpl : ∀ i, ((backTo pos (starEach [] (X i).env)).any (·.1) || (backToKw pos (keywordEach kws (X i).env)).any (·.1.isNone)) = false := by intro _; rfl) :
    PD K W X (.Call (.Name x p) [] kws pos) (wCallKX fn kn.length gD wk) := by
  obtain ⟨f, fd, g, gV, Fn, hm, hk, hb, hgv⟩ := hh
  obtain ⟨tk', k1, k2⟩ := hkw
  refine ⟨fun σ H Q => tk' σ H fun zs H2 => zs.length = kn.length ∧ spD K mg fn (gV [] zs) H2 Q (fun cls d H' => toWX mg W cls d σ H'), fun i => ⟨fun pins s σ H Q I h => ?_⟩, ?_⟩
  · have hmi : (X i).mg x = some (.ref f) := by rw [hX.mg i]; exact hm
    have Fi : FnG (X i).prog (X i).w (X i).K (X i).mg (X i).base (L2.CX (X i).prog (X i).w) j f fd ps (spD K mg fn) := by rw [hX.prog i, hX.w i, hX.K i, hX.mg i, hX.base i]; exact Fn
    refine wpAny_Call_Name_kw (ld_glob I (hg i) hmi ?_ hdb)
    refine PySem.W.callWith_KW0 (h₀ := (X i).base) I.ok.mod.kin (by rw [hX.K i]; exact hk) (hall i) ?_ (hpl i)
    refine thn ((k1 i).run pos pins s σ H _ I h) fun ws s2 ⟨zs, H2, I2, rz, l2, q2⟩ => ⟨I2.kIn, ?_⟩
    rw [hks i]
    have hb' : KBn (X i).K fd ps 0 kn g gV := by rw [hX.K i]; exact hb
    have r2 := hb'.rel .nil rz
    refine wpAny_call (codeAny_mono (Fi.runs (X i).A (X i).stack s2 H2 ⟨[], kn.zip ws⟩ (g [] ws) (gV [] zs) Q (fun cls d H' => toWX mg W cls d σ H') (hX.guards i) ((hX.room i).mono hj) I2.env0 (hb'.to s2 [] ws I2.kIn rfl (rz.length.symm.trans l2)) r2 q2) ?_)
    rintro (e | fl) s' hq
    · exact passAt (tk i) σ pins _ _ e s' I2 hq
    · cases fl <;> first | exact I2.after hq | exact (hq : False).elim
  · intro G m F H σ ρ Q Qd Qx hW hE h hXx hQ
    refine k2 G m F H σ ρ _ _ Qx hW hE h hXx ?_
    intro es m2 zs G2 H2 q2 e2 W2 r2
    obtain ⟨l2, q2⟩ := q2
    refine ⟨by rw [r2.len]; exact l2, G2, m2, F, gD es, Qd, Qx, W2, hgv G2 zs es r2 l2, q2, ?_, ?_⟩
    · intro d m' v G' H' z e
      exact hQ d m' v G' H' z (e2.trans e)
    · intro x m' cls d G' H' z hmx e W' r
      exact ⟨x.cls, hmx, hXx x m' d σ G' H' z (e2.trans e) W' r⟩
def swap2 {α : Type} : List α → List α
  | [a, b] => [b, a]
  | l => l
theorem swap2_vals : ∀ {zs : List V} {ws : List Value}, Vals zs ws → Vals (swap2 zs) (swap2 ws)
  | _, _, .nil => .nil
  | _, _, .cons a .nil => .cons a .nil
  | _, _, .cons a (.cons b .nil) => .cons b (.cons a .nil)
  | _, _, .cons a (.cons b (.cons c t)) => .cons a (.cons b (.cons c t))
theorem swap2_rp {G : Hp} : ∀ {zs : List V} {es : List D}, RpA K G zs es → RpA K G (swap2 zs) (swap2 es)
  | _, _, .nil => .nil
  | _, _, .cons a .nil => .cons a .nil
  | _, _, .cons a (.cons b .nil) => .cons b (.cons a .nil)
  | _, _, .cons a (.cons b (.cons c t)) => .cons a (.cons b (.cons c t))
/-- two parameters, called by keywords in exchanged order -/
theorem HasXF.swap {j : Nat} {x qual a b : Str} {st : Stmt} {fn : DFn} (h : HasXF P w K mg base j x qual st [a, b] fn)
    (hb : ∀ (kV doc pm : Value) (an : Option Addr) (cdv ct u v : Value), bindArgs (PySem.W.fnOf x qual (defArgs st) (defBody st) (defScope st) .none kV doc pm an cdv ct) ⟨[], [(b, u), (a, v)]⟩ = pure [(a, v), (b, u)]) : HasKX P w K mg base j x [a, b] [b, a] swap2 fn :=
  h.kw [b, a] (fun l => swap2 l) (fun kV doc pm an cdv ct ws hl => match ws, hl with
    | [u, v], _ => hb kV doc pm an cdv ct u v) (fun _ r => swap2_vals r) (fun G zs es r _ => swap2_rp r) (fun r => swap2_vals r)
end
end DL
/-! XA6: zip of two sequences, each a list or a tuple -/
namespace DL
open PySem L2 XO
open AutoSeq1 (wpAny_loadPart')
open Evl (Ex)
/-- a list (false) or a tuple (true) -/
def SqB (b : Bool) (K : Fg) (H : Hp) (a : Addr) (xs : List V) : Prop := match b with
  | true => SqT K H a xs
  | false => SqL K H a xs
def isB (b : Bool) (h : Heap) (a : Addr) (its : Array Value) : Prop := match b with
  | true => h.IsTuple a its
  | false => h.IsList a its
def itB (b : Bool) (h : Heap) (i l : Addr) (k : Nat) : Prop := match b with
  | true => h.IsTupleIter i l k
  | false => h.IsListIter i l k
theorem seqB {X : Cx} {pins : List (Addr × Obj)} {σ : L2.St} {H : Hp} {s : Shared} (I : Inv X pins σ H s) {b : Bool} {a : Addr} {xs : List V} (h : SqB b X.K H a xs) : ∃ its : List Value, Vals xs its ∧ isB b s.heap a its.toArray := by
  cases b with
  | true =>
    obtain ⟨its, r, p, _⟩ := I.tuple h
    exact ⟨its, r, p⟩
  | false =>
    obtain ⟨its, r, p, _⟩ := I.list h
    exact ⟨its, r, p.isList⟩
theorem seqB_inj {X : Cx} {pins : List (Addr × Obj)} {σ : L2.St} {H : Hp} {s : Shared} (I : Inv X pins σ H s) {b : Bool} {a : Addr} {xs ys : List V} (h : SqB b X.K H a xs) (h' : SqB b X.K H a ys) : xs = ys := by
  cases b with
  | true => exact I.tuple_inj h h'
  | false => exact I.list_inj h h'
theorem isB_lt {b : Bool} {h : Heap} {a : Addr} {its : Array Value} (p : isB b h a its) : a < h.objs.size := by
  cases b with
  | true => obtain ⟨o, ho, _⟩ := p; exact Heap.lt_size ho
  | false => obtain ⟨o, ho, _⟩ := p; exact Heap.lt_size ho
theorem itB_get {b : Bool} {h : Heap} {i l : Addr} {k : Nat} (p : itB b h i l k) : ∃ o, h.get? i = some o ∧ ∀ v, o.data ≠ .cell v := by
  cases b with
  | true => obtain ⟨o, ho, _, hd⟩ := p; exact ⟨o, ho, fun v q => by rw [hd] at q; cases q⟩
  | false => obtain ⟨o, ho, _, hd⟩ := p; exact ⟨o, ho, fun v q => by rw [hd] at q; cases q⟩
theorem itB_at {b : Bool} {h h' : Heap} {i l : Addr} {k : Nat} (p : itB b h i l k) (q : ∀ o, h.get? i = some o → h'.get? i = some o) : itB b h' i l k := by
  cases b with
  | true => exact Heap.IsTupleIter.at p q
  | false => exact Heap.IsListIter.at p q
theorem draws_B {prog : Program} {w : World} {A : Around} (calm : A.handled = none) (b : Bool) (it l : Addr) (hne : l ≠ it) (items : Array Value) :
    Draws prog w A it [it, l] items.size (fun i v => items[i]? = some v) (fun i h => itB b h it l i ∧ isB b h l items) := by
  cases b with
  | true => exact Draws.tuple calm it l hne items
  | false => exact Draws.list calm it l hne items
/-- the iterator as it begins -/
abbrev seqIt (b : Bool) (l : Addr) : Obj := { cls := .type (if b then "tuple_iterator" else "list_iterator"), data := .fields #[.ref l, .int 0 0] }
/-- the two at a and b as they stand at each turn, their items in new pairs -/
def ItzB (p q : Bool) (K : Fg) (a b : Addr) : It :=
  ⟨fun i H => ∃ (xs ys : List V) (x y : V), SqB p K H a xs ∧ SqB q K H b ys ∧ xs[i]? = some x ∧ ys[i]? = some y,
    fun i H v H' => ∃ T x y, v = .ref T ∧ H T = none ∧ H' = upd H T (.tup [x, y]) ∧ (∀ xs, SqB p K H a xs → xs[i]? = some x) ∧ ∀ ys, SqB q K H b ys → ys[i]? = some y,
    fun i H => ∃ xs ys : List V, SqB p K H a xs ∧ SqB q K H b ys ∧ i ≤ xs.length ∧ i ≤ ys.length ∧ (i = xs.length ∨ i = ys.length)⟩
theorem sep_of {z TI TO i1 i2 a b : Addr} (D : ZipApart z TI TO i1 i2 a b) : ZipSep2 z TI TO i1 i2 [i1, a] [i2, b] where
  TIz := D.TIz
  TOz := D.TOz
  TITO := D.TITO
  TIi1 := D.TIi1
  mem1 := List.mem_cons_self
  zf1 := by simp [D.i1z.symm, D.l1z.symm]
  Tf1 := by simp [D.TOi1, D.l1TO.symm]
  TIi2 := D.TIi2
  mem2 := List.mem_cons_self
  zf2 := by simp [D.i2z.symm, D.l2z.symm]
  Tf2 := by simp [D.TOi2, D.l2TO.symm]
  sep1_2 := by simp [D.i12, D.l2i1.symm]
  sep2_1 := by simp [D.i12.symm, D.l1i2.symm]
theorem five {α : Type} {c a1 a2 a3 a4 a5 : α} : c ∈ [a1, a2, a3, a4, a5] ↔ (c = a1 ∨ c = a2 ∨ c = a3 ∨ c = a4 ∨ c = a5) := by simp
theorem turn_zipB {P : Program} {w : World} {K : Fg} {elts : List Expr} {kk : Nat} {tpos : Pos} {a b z TI TO i1 i2 : Addr} (p q : Bool) (D : ZipApart z TI TO i1 i2 a b) :
    Turn P w K (.Tuple elts kk tpos) (ItzB p q K a b) [z, TI, TO, i1, i2] z (fun i h => IsZip h z TI TO .none ∧ IsPair h TI (.ref i1) (.ref i2) ∧ (∃ x y, IsPair h TO x y) ∧ itB p h i1 a i ∧ itB q h i2 b i) where
  mem := List.mem_cons_self
  obj := by
    rintro i h ⟨hz, hTI, ⟨x, y, hTO⟩, h1, h2⟩ c hc
    rcases five.mp hc with e | e | e | e | e <;> subst e
    · exact ⟨_, hz, fun v q => nomatch q⟩
    · exact ⟨_, hTI, fun v q => nomatch q⟩
    · exact ⟨_, hTO, fun v q => nomatch q⟩
    · exact itB_get h1
    · exact itB_get h2
  keep := by
    rintro i h h' ⟨hz, hTI, ⟨x, y, hTO⟩, h1, h2⟩ k
    have k5 : ∀ c, (c = z ∨ c = TI ∨ c = TO ∨ c = i1 ∨ c = i2) → ∀ o, h.get? c = some o → h'.get? c = some o := fun c hc => k c (five.mpr hc)
    exact ⟨k5 z (by simp) _ hz, k5 TI (by simp) _ hTI, ⟨x, y, k5 TO (by simp) _ hTO⟩, itB_at h1 (k5 i1 (by simp)), itB_at h2 (k5 i2 (by simp))⟩
  item := by
    rintro X rfl rfl rfl calm i pins s σ H E I hf ⟨hz, hTI, ⟨x0, y0, hTO⟩, h1, h2⟩ ⟨xs, ys, x, y, hqx, hqy, hx, hy⟩
    obtain ⟨its, rv, p1⟩ := seqB I hqx
    obtain ⟨its2, rv2, p2⟩ := seqB I hqy
    obtain ⟨u, hu, ru⟩ := rv.get hx
    obtain ⟨u2, hu2, ru2⟩ := rv2.get hy
    have zlt : z < s.heap.objs.size := Heap.lt_size hz
    have hin : X.A.in1.handled = none := I.ok.hd calm
    have lt1 : i < its.toArray.size := by
      rw [List.size_toArray]
      exact (List.getElem?_eq_some_iff.mp hu).1
    have lt2 : i < its2.toArray.size := by
      rw [List.size_toArray]
      exact (List.getElem?_eq_some_iff.mp hu2).1
    refine wpAny_pyNext_zipD2_item (sep_of D) (draws_B hin p i1 a D.l1i1 its.toArray) (draws_B hin q i2 b D.l2i2 its2.toArray) hz hTI hTO ⟨h1, p1⟩ ⟨h2, p2⟩ lt1 lt2 ?_
    intro y1 y2 h' tk e1 e2 z' TO' st1 st2 hT hsz hk
    have e1 : its.toArray[i]? = some y1 := e1
    have e2 : its2.toArray[i]? = some y2 := e2
    have e1 : y1 = u := by
      have e1 : its[i]? = some y1 := by simpa using e1
      rw [hu] at e1; cases e1; rfl
    have e2 : y2 = u2 := by
      have e2 : its2[i]? = some y2 := by simpa using e2
      rw [hu2] at e2; cases e2; rfl
    subst e1 e2
    refine ⟨_, rfl, wpAny_letOwnedTupleGo_zip (s := { s with heap := h', toks := tk }) z' fun h'' z'' sb => ?_⟩
    have far : ∀ c, c ≠ z → ∀ o, h'.get? c = some o → h''.get? c = some o := fun c hc o e => (sb.2 c hc).trans e
    have new : ObjOk X.prog X.w (upd H s.heap.objs.size (.tup [x, y])) h'' s.heap.objs.size (.tup [x, y]) :=
      ⟨(by show 2 ≤ sizeLine; decide), [y1, y2], .cons ru (.cons ru2 .nil), ⟨_, far _ (Nat.ne_of_gt zlt) _ hT, rfl, _, rfl⟩⟩
    have J : Inv X pins σ (upd H s.heap.objs.size (.tup [x, y])) { s with heap := h'', toks := tk } :=
      I.turnedNew (t' := tk) (ch := [z, TI, TO, i1, i2]) (fun c o hb e => by
        have nz : ¬ (c = z ∨ c = TI ∨ c = TO ∨ c = i1 ∨ c = i2) := fun hc => hb (five.mpr hc)
        exact far c (fun e => nz (Or.inl e)) o (hk c o (fun e => nz (Or.inl e)) (fun e => nz (Or.inr (Or.inr (Or.inl e)))) (fun e => nz (Or.inr (Or.inr (Or.inr (Or.inl e))))) (fun e => nz (Or.inr (Or.inr (Or.inr (Or.inr e))))) e)) hf (Nat.le_refl _) new
    refine ⟨.ref s.heap.objs.size, _, J, rfl, ⟨_, x, y, rfl, I.hok.fresh (Nat.le_refl _), rfl, fun l hl => by rw [seqB_inj I hl hqx]; exact hx, fun l hl => by rw [seqB_inj I hl hqy]; exact hy⟩, ?_, ?_⟩
    · refine ⟨z'', far _ D.TIz _ (hk _ _ D.TIz D.TITO D.TIi1 D.TIi2 hTI), ⟨y1, y2, far _ D.TOz _ TO'⟩, itB_at st1.1 (far _ D.i1z), itB_at st2.1 (far _ D.i2z)⟩
    · intro c hc
      have lt : c < s.heap.objs.size := by
        rcases five.mp hc with e | e | e | e | e <;> subst e
        · exact zlt
        · exact Heap.lt_size hTI
        · exact Heap.lt_size hTO
        · obtain ⟨_, e, _⟩ := itB_get h1; exact Heap.lt_size e
        · obtain ⟨_, e, _⟩ := itB_get h2; exact Heap.lt_size e
      rw [upd_ne (Nat.ne_of_lt lt)]
      exact (hf c hc).1
  done := by
    rintro X rfl rfl rfl calm i pins s σ H E I hf ⟨hz, hTI, ⟨x0, y0, hTO⟩, h1, h2⟩ ⟨xs, ys, hqx, hqy, l1, l2, hend⟩
    obtain ⟨its, rv, p1⟩ := seqB I hqx
    obtain ⟨its2, rv2, p2⟩ := seqB I hqy
    have hin : X.A.in1.handled = none := I.ok.hd calm
    have n1 := rv.length
    have n2 := rv2.length
    refine wpAny_pyNext_zipD2_end (sep_of D) (draws_B hin p i1 a D.l1i1 its.toArray) (draws_B hin q i2 b D.l2i2 its2.toArray) hz hTI hTO ⟨h1, p1⟩ ⟨h2, p2⟩ (by rw [List.size_toArray]; omega) (by rw [List.size_toArray]; omega) (by rw [List.size_toArray, List.size_toArray]; omega) ?_
    intro h' tk hk
    refine ⟨rfl, I.turnedL (t' := tk) (ch := [z, TI, TO, i1, i2]) (fun c o hb e => ?_) hf⟩
    have nz : ¬ (c = z ∨ c = TI ∨ c = TO ∨ c = i1 ∨ c = i2) := fun hc => hb (five.mpr hc)
    exact hk c o (fun e => nz (Or.inl e)) (fun e => nz (Or.inr (Or.inr (Or.inl e)))) (fun e => nz (Or.inr (Or.inr (Or.inr (Or.inl e))))) (fun e => nz (Or.inr (Or.inr (Or.inr (Or.inr e))))) e
  self := fun A i s Q E st told => wpAny_pyIter_zip st.1 told
end DL
namespace DL
open PySem L2 XO
open AutoSeq1 (wpAny_loadPart')
open Evl (Ex)
/-! the call zip(a, b) -/
abbrev zh1 (p : Bool) (h : Heap) (l1 : Addr) : Heap := h.push (seqIt p l1)
abbrev zh2 (p q : Bool) (h : Heap) (l1 l2 : Addr) : Heap := (zh1 p h l1).push (seqIt q l2)
abbrev zh3 (p q : Bool) (h : Heap) (l1 l2 : Addr) : Heap := (zh2 p q h l1 l2).push { cls := .type "tuple", data := .seq #[.ref h.objs.size, .ref (zh1 p h l1).objs.size] }
abbrev zh4 (p q : Bool) (h : Heap) (l1 l2 : Addr) : Heap := (zh3 p q h l1 l2).push { cls := .type "tuple", data := .seq #[.none, .none] }
abbrev zipObj (x y : Addr) : Obj := { cls := .type "zip", data := .fields #[.none, .bool false, .bool false, .ref x, .ref y] }
abbrev zh5 (p q : Bool) (h : Heap) (l1 l2 : Addr) : Heap := (zh4 p q h l1 l2).push (zipObj (zh2 p q h l1 l2).objs.size (zh3 p q h l1 l2).objs.size)
theorem isB_push {b : Bool} {h : Heap} {a : Addr} {its : Array Value} (p : isB b h a its) (o : Obj) : isB b (h.push o) a its := by
  cases b with
  | true => exact Heap.IsTuple.push p o
  | false => exact Heap.IsList.push p o
theorem new_zipTL (l1 l2 : Addr) (xs ys : Array Value) :
    Meets (Builtin.«zip.__new__» ⟨[.type "zip", .ref l1, .ref l2], []⟩) (fun _ R s => isB true s.heap l1 xs ∧ isB false s.heap l2 ys ∧ R (.ok (.ret (.ref (zh4 true false s.heap l1 l2).objs.size))) { s with heap := zh5 true false s.heap l1 l2 }) :=
  .of_wp fun prog w A R s h => by
    obtain ⟨hp, gn, dr, tk, os⟩ := s
    obtain ⟨m1, m2, h⟩ := h
    have k_sub := sub_zip
    have t1 : Heap.IsTuple (Shared.heap ⟨hp, gn, dr, tk, os⟩) l1 xs := m1
    have t2 : Heap.IsList (Shared.heap ⟨hp.push { cls := .type "tuple_iterator", data := .fields #[.ref l1, .int 0 0] }, gn, dr, tk, os⟩) l2 ys := isB_push (b := false) m2 _
    wp_walk using wpAny_pyIter_tuple t1, wpAny_pyIter_list t2
    exact ⟨_, rfl, h⟩
theorem new_zipLT (l1 l2 : Addr) (xs ys : Array Value) :
    Meets (Builtin.«zip.__new__» ⟨[.type "zip", .ref l1, .ref l2], []⟩) (fun _ R s => isB false s.heap l1 xs ∧ isB true s.heap l2 ys ∧ R (.ok (.ret (.ref (zh4 false true s.heap l1 l2).objs.size))) { s with heap := zh5 false true s.heap l1 l2 }) :=
  .of_wp fun prog w A R s h => by
    obtain ⟨hp, gn, dr, tk, os⟩ := s
    obtain ⟨m1, m2, h⟩ := h
    have k_sub := sub_zip
    have t1 : Heap.IsList (Shared.heap ⟨hp, gn, dr, tk, os⟩) l1 xs := m1
    have t2 : Heap.IsTuple (Shared.heap ⟨hp.push { cls := .type "list_iterator", data := .fields #[.ref l1, .int 0 0] }, gn, dr, tk, os⟩) l2 ys := isB_push (b := true) m2 _
    wp_walk using wpAny_pyIter_list t1, wpAny_pyIter_tuple t2
    exact ⟨_, rfl, h⟩
end DL
/-! XA7: for .. in zip(a, b), a and b a list and a tuple, by data -/
namespace DL
open PySem L2 XO
open Evl (Ex)
/-- what the heap holds behind zip(a, b) -/
structure ZipMade (p q : Bool) (h h' : Heap) (l1 l2 : Addr) : Prop where
  z : IsZip h' (h.objs.size + 4) (h.objs.size + 2) (h.objs.size + 3) .none
  ti : IsPair h' (h.objs.size + 2) (.ref h.objs.size) (.ref (h.objs.size + 1))
  to : IsPair h' (h.objs.size + 3) .none .none
  i1 : itB p h' h.objs.size l1 0
  i2 : itB q h' (h.objs.size + 1) l2 0
  up : ∀ c o, h.get? c = some o → h'.get? c = some o
theorem zip_made (p q : Bool) (h : Heap) (l1 l2 : Addr) : (zh4 p q h l1 l2).objs.size = h.objs.size + 4 ∧ ZipMade p q h (zh5 p q h l1 l2) l1 l2 := by
  have s1 : (zh1 p h l1).objs.size = h.objs.size + 1 := Heap.size_push ..
  have s2 : (zh2 p q h l1 l2).objs.size = h.objs.size + 2 := by rw [Heap.size_push, s1]
  have s3 : (zh3 p q h l1 l2).objs.size = h.objs.size + 3 := by rw [Heap.size_push, s2]
  have s4 : (zh4 p q h l1 l2).objs.size = h.objs.size + 4 := by rw [Heap.size_push, s3]
  have u4 : ∀ c o, (zh4 p q h l1 l2).get? c = some o → (zh5 p q h l1 l2).get? c = some o := fun c o e => Heap.get?_push_of_some _ e
  have u3 : ∀ c o, (zh3 p q h l1 l2).get? c = some o → (zh5 p q h l1 l2).get? c = some o := fun c o e => u4 c o (Heap.get?_push_of_some _ e)
  have u2 : ∀ c o, (zh2 p q h l1 l2).get? c = some o → (zh5 p q h l1 l2).get? c = some o := fun c o e => u3 c o (Heap.get?_push_of_some _ e)
  have u1 : ∀ c o, (zh1 p h l1).get? c = some o → (zh5 p q h l1 l2).get? c = some o := fun c o e => u2 c o (Heap.get?_push_of_some _ e)
  have a5 : (zh5 p q h l1 l2).get? (zh4 p q h l1 l2).objs.size = some _ := Heap.get?_push_size _ rfl
  have a4 := u4 (zh3 p q h l1 l2).objs.size _ (Heap.get?_push_size _ rfl)
  have a3 := u3 (zh2 p q h l1 l2).objs.size _ (Heap.get?_push_size _ rfl)
  have a2 := u2 (zh1 p h l1).objs.size _ (Heap.get?_push_size _ (by cases q <;> rfl))
  have a1 := u1 h.objs.size _ (Heap.get?_push_size _ (by cases p <;> rfl))
  refine ⟨s4, ⟨?_, ?_, ?_, ?_, ?_, fun c o e => u1 c o (Heap.get?_push_of_some _ e)⟩⟩
  · rw [s2, s3, s4] at a5; exact a5
  · rw [s1, s2] at a3; exact a3
  · rw [s3] at a4; exact a4
  · cases p <;> exact ⟨_, a1, rfl, rfl⟩
  · rw [s1] at a2
    cases q <;> exact ⟨_, a2, rfl, rfl⟩
section
variable {prog : Program} {w : World} {A : Around} {E : Value → Shared → Prop} {s : Shared}
theorem call_zipB {p q : Bool} {l1 l2 : Addr} {xs ys : Array Value} {Q : Value → Shared → Prop} (m1 : isB p s.heap l1 xs) (m2 : isB q s.heap l2 ys)
    (told : ∀ h', ZipMade p q s.heap h' l1 l2 → Q (.ref (s.heap.objs.size + 4)) { s with heap := h' }) : wpAny (model prog w) A (call (.type "zip") [.ref l1, .ref l2]) Q E s := by
  obtain ⟨e4, zm⟩ := zip_made p q s.heap l1 l2
  have fin : s.heap.objs.size + 4 = (zh4 p q s.heap l1 l2).objs.size := e4.symm
  have isz : (zh5 p q s.heap l1 l2).get? (zh4 p q s.heap l1 l2).objs.size = some (zipObj (zh2 p q s.heap l1 l2).objs.size (zh3 p q s.heap l1 l2).objs.size) := Heap.get?_push_size _ rfl
  cases p with
  | true =>
    cases q with
    | true => exact RZ.call_zipT (xs := xs) (ys := ys) m1 m2 fun h' a b c d e _ k => told h' ⟨a, b, c, d, e, k⟩
    | false =>
      have told := told _ zm
      rw [fin] at told
      exact callType_new F.called_zip (by decide) (F.typeCall_zip_2 _ _) (F.newCall_zip_2 _ _) (fun obj => F.args_object_init_3 obj _ _) F.entry_zip_new (new_zipTL l1 l2 xs ys) ⟨m1, m2, ⟨_, isz, rfl⟩, told⟩
  | false =>
    cases q with
    | false => exact call_zip_2 (xs := xs) (ys := ys) m1 m2 fun h' a b c d e _ k => told h' ⟨a, b, c, d, e, k⟩
    | true =>
      have told := told _ zm
      rw [fin] at told
      exact callType_new F.called_zip (by decide) (F.typeCall_zip_2 _ _) (F.newCall_zip_2 _ _) (fun obj => F.args_object_init_3 obj _ _) F.entry_zip_new (new_zipLT l1 l2 xs ys) ⟨m1, m2, ⟨_, isz, rfl⟩, told⟩
end
def iZipB (K : Fg) (ta : TA) : L2.TI := fun σ H R => ta σ H fun vs H1 => ∃ p q a b xs ys, vs = [.ref a, .ref b] ∧ SqB p K H1 a xs ∧ SqB q K H1 b ys ∧ R (ItzB p q K a b) H1
theorem pi_zipB {X : Cx} {e e2 : Expr} {ta : TA} {np pos tpos : Pos} {elts : List Expr} {kk : Nat} (hg : Gl X "zip") (hm : X.mg "zip" = none) (ha : PA X [e, e2] ta)
    (hs : starEach [e, e2] X.env = (false, eval e X.env) :: starEach [e2] X.env := by rfl) (hpl : (backTo pos (starEach [e2] X.env)).any (·.1) = false := by rfl) : PI X (.Tuple elts kk tpos) (.Call (.Name "zip" np) [e, e2] [] pos) (iZipB X.K ta) := by
  refine ⟨fun pins s σ H R I h => ?_⟩
  refine PyProof.Rows.Call_ (ld_blt I hg hm PyProof.Rows.boot_zip (PyProof.Rows.callWith_type1 (thn (ha.run pos pins s σ H _ I h) ?_) hs hpl))
  rintro us s1 ⟨vs, H1, I1, r1, p, q, a, b, xs, ys, rfl, hqx, hqy, told⟩
  cases r1 with
  | cons ra r1 =>
    cases r1 with
    | cons rb r1 =>
      cases r1
      cases ra
      cases rb
      obtain ⟨its, rv, p1⟩ := seqB I1 hqx
      obtain ⟨its2, rv2, p2⟩ := seqB I1 hqy
      refine call_zipB p1 p2 fun h' zm => wpAny_pyIter_zip zm.z ?_
      have J : Inv X pins σ H1 { s1 with heap := h' } := I1.kept (t' := s1.toks) zm.up
      refine ⟨_, [s1.heap.objs.size + 4, s1.heap.objs.size + 2, s1.heap.objs.size + 3, s1.heap.objs.size, s1.heap.objs.size + 1], _, _, H1, rfl, J, turn_zipB p q (PySem.W.ktu_apart s1.heap.objs.size a b (isB_lt p1) (isB_lt p2)), ⟨zm.z, zm.ti, ⟨_, _, zm.to⟩, zm.i1, zm.i2⟩, ?_, told⟩
      intro c hc
      have big : s1.heap.objs.size ≤ c := by
        rcases five.mp hc with e | e | e | e | e <;> subst e <;> omega
      exact I1.fpOk big (I1.hok.fresh big)
theorem walk_zipB {p q : Bool} {K : Fg} {a b : Addr} {xs ys : List V} {n : Nat} (hn : n = min xs.length ys.length) : Walk (ItzB p q K a b) n (fun H => SqB p K H a xs ∧ SqB q K H b ys) (YPair (fun i => xs[i]?) (fun i => ys[i]?)) where
  goes := by
    rintro i H hi ⟨qa, qb⟩
    have la : i < xs.length := by omega
    have lb : i < ys.length := by omega
    exact ⟨xs, ys, _, _, qa, qb, List.getElem?_eq_getElem la, List.getElem?_eq_getElem lb⟩
  stops := by
    rintro H ⟨qa, qb⟩
    exact ⟨xs, ys, qa, qb, by omega, by omega, by omega⟩
  yields := by
    rintro i H v H' hi ⟨qa, qb⟩ ⟨T, u, u', ev, fresh, eH, ku, ku'⟩
    exact ⟨T, u, u', ev, fresh, eH, ku xs qa, ku' ys qb⟩
/-- the items of a sequence -/
def seqA : D → Option (List D)
  | .tup ds => some ds
  | .lst ds => some ds
  | _ => none
def iZipX (wr : WA) : WA := fun ρ m Q Qx => wr ρ m (fun ds m1 => ∃ x y xs ys, ds = [x, y] ∧ seqA x = some xs ∧ seqA y = some ys ∧ Q (zipD xs ys) m1) Qx
theorem seqA_rp {K : Fg} {G : Hp} {v : V} {d : D} {ds : List D} (r : Rp K G v d) (h : seqA d = some ds) : ∃ b a xs, v = .ref a ∧ RpA K G xs ds ∧ ∀ H, Ex G H → SqB b K H a xs := by
  cases r <;> first | (cases h; done) | skip
  case lst a xs ds' hx rr =>
    cases h
    exact ⟨false, a, xs, rfl, rr, fun H e => SqL.of (e _ _ hx)⟩
  case tup a xs ds' hx rr =>
    cases h
    exact ⟨true, a, xs, rfl, rr, fun H e => Evl.ex_t e hx⟩
theorem pi_zipX {K : Fg} {W : Wx} {ι : Type} {X : ι → Cx} {pos : Pos} {a b : Expr} {wr : WA} {mg : Str → Option Value} {np tpos : Pos} {elts : List Expr} {kk : Nat} (hK : ∀ i, (X i).K = K) (hX : ∀ i, (X i).mg = mg) (hm : mg "zip" = none) (ha : PDA K W X [a, b] wr) (hg : ∀ i, Gl (X i) "zip" := by intro _; rfl)
    (hs : ∀ i, starEach [a, b] (X i).env = (false, eval a (X i).env) :: starEach [b] (X i).env := by intro _; rfl) (hpl : ∀ i, (backTo pos (starEach [b] (X i).env)).any (·.1) = false := by intro _; rfl) :
    PDI K W X (.Tuple elts kk tpos) (.Call (.Name "zip" np) [a, b] [] pos) (iZipX wr) := by
  obtain ⟨t, h1, h2⟩ := ha
  refine ⟨iZipB K t, fun i => hK i ▸ pi_zipB (hg i) (by rw [hX i]; exact hm) (h1 i) (hs i) (hpl i), ?_⟩
  intro G m F H σ ρ R Qd Qx hW hE h hX hR
  refine h2 G m F H σ ρ _ _ Qx hW hE h hX ?_
  rintro ds m1 vs G1 H1 ⟨x, y, xs, ys, rfl, ex, ey, told⟩ e1 W1 r1
  cases r1 with
  | cons rx r1 =>
    cases r1 with
    | cons ry r1 =>
      cases r1
      obtain ⟨p, a1, us, rfl, ru, su⟩ := seqA_rp rx ex
      obtain ⟨q, a2, us2, rfl, ru2, su2⟩ := seqA_rp ry ey
      refine ⟨p, q, _, _, _, _, rfl, su H1 W1.ex, su2 H1 W1.ex, hR _ _ _ _ _ told e1 W1 ?_⟩
      exact ⟨_, _, walk_zipB (zip_len ru ru2), fun G2 m F H e W => ⟨⟨su H (e.trans W.ex), su2 H (e.trans W.ex)⟩, zip_turn (G := G1) ru ru2 e W⟩⟩
end DL
/-! XA8: a comprehension whose list is changed later; constants that are tuples of tuples -/
namespace DL
open PySem L2 XO
open Evl (Ex)
section
variable {K : Fg} {G : Hp} {m : Mem} {F H : Hp}
/-- the frame's list is owned from here on -/
theorem Wd.toOwn {p : Addr} {xs : List V} {ds : List D} (W : Wd K G m (upd F p (.lst xs)) H) (hF : F p = none) (r : RpA K G xs ds) : m p = none ∧ Wd K G (m.up p ds) F H := by
  have hG : G p = none := W.frG p _ upd_same
  have hm : m p = none := by
    cases e : m p with
    | none => rfl
    | some ds =>
      obtain ⟨_, h, _⟩ := W.own p ds e
      rw [upd_same] at h; cases h
  refine ⟨hm, W.ex, fun a es e => ?_, fun a u e => ?_, fun a u e => ?_⟩
  · by_cases q : a = p
    · subst q
      rw [Mem.up_same] at e
      cases e
      exact ⟨hG, hF, xs, W.fr _ _ upd_same, r⟩
    · rw [Mem.up_ne q] at e
      obtain ⟨h1, h2, h3⟩ := W.own a es e
      rw [upd_ne q] at h2
      exact ⟨h1, h2, h3⟩
  · have q : a ≠ p := fun z => by subst z; rw [hF] at e; cases e
    exact W.fr a u (by rw [upd_ne q]; exact e)
  · have q : a ≠ p := fun z => by subst z; rw [hF] at e; cases e
    exact W.frG a u (by rw [upd_ne q]; exact e)
end
section
variable {K : Fg} {W : Wx} {ι : Type} {X : ι → Cx} {pos : Pos}
def wLcOGo (g : WG) (tt : WT) (te : WE) (ρ : En0) (Qx : XQ) : List D → List D → Mem → (D → Mem → Prop) → Prop
  | [], acc, m, Q => ∀ p, m p = none → Q (.box p) (m.up p acc)
  | d :: ds, acc, m, Q => g d ρ fun ρ1 => tt ρ1 m (fun b m1 => if b = true then te ρ1 m1 (fun y m2 => wLcOGo g tt te ρ Qx ds (acc ++ [y]) m2 Q) Qx else wLcOGo g tt te ρ Qx ds acc m1 Q) Qx
def wLcO (wi : WA) (g : WG) (tt : WT) (te : WE) (vs : List Nat) : WE := fun ρ m Q Qx => wi ρ m (fun ds m1 => ds.length ≤ 1000000 ∧ wLcOGo g tt te (wipeD ρ vs) Qx ds [] m1 Q) Qx
theorem lift_lcO {ti : TI} {wi : WA} {tG : TG} {js : List Nat} {g : WG} {tT : TT} {tt : WT} {tE : TE} {te : WE} {vs : List Nat} (hi : LiftI K W ti wi) (hg : LiftG K js tG g) (ht : LiftT K W tT tt) (he : LiftE K W tE te) (hj : ∀ j ∈ js, j ∈ vs) :
    LiftE K W (tLc ti tG tT tE vs) (wLcO wi g tt te vs) := by
  intro G m F H σ ρ Q Qd Qx hW hE h hX hQ
  refine hi G m F H σ ρ _ _ Qx hW hE h hX ?_
  intro ds m1 J G1 H1 h1 e1 W1 dw
  intro Dl hD
  obtain ⟨Gd, Y, wk, st⟩ := dw
  obtain ⟨hG, hm, hF⟩ := W1.fresh hD
  obtain ⟨hz, h1⟩ := h1
  refine lc_it wk (fun i H => ∃ G' m' acc xs, Ex G1 G' ∧ Wd K G' m' (upd F Dl (.lst xs)) H ∧ RpA K G' xs acc ∧ acc.length ≤ i ∧ wLcOGo g tt te (wipeD ρ vs) Qx (ds.drop i) acc m' Qd)
    ⟨G1, m1, [], [], Ex.refl _, W1.frame hD (.lst []), .nil, Nat.le_refl _, h1⟩ ?_ ?_ ?_
  · rintro i H _ ⟨G', m', acc, xs, e', W', _⟩
    exact (st G' m' _ H e' W').1
  · rintro i x H H' hi' ⟨G', m', acc, xs, e', W', ra, hl, l⟩ y
    rw [drop_cons hi'] at l
    obtain ⟨G2, e2, W2, r⟩ := (st G' m' _ H e' W').2 i H' x ds[i] (List.getElem?_eq_getElem hi') y
    have e12 := (e1.trans e').trans e2
    refine hg G2 m' _ H' x _ (L2.wipe σ vs) (wipeD ρ vs) _ _ W2 ((hE.mono e12).wipe vs) r l ?_
    intro ρ1 σ1 q E1 w1
    refine ⟨(w1 vs hj).trans wipe_wipe, ?_⟩
    refine ht G2 m' _ H' σ1 ρ1 _ _ Qx W2 E1 q ((hX.mono e12).frame hF) ?_
    intro b m2 G3 H3 q3 e3 W3
    have e13 := e12.trans e3
    cases b with
    | true =>
      refine he G3 m2 _ H3 σ1 ρ1 _ _ Qx W3 (E1.mono e3) q3 ((hX.mono e13).frame hF) ?_
      intro d m3 v G4 H4 q4 e4 W4 r4
      have rx := (ra.mono e2).mono (e3.trans e4)
      refine ⟨xs, W4.fr _ _ upd_same, ?_, G4, m3, acc ++ [d], xs ++ [v], ((e'.trans e2).trans e3).trans e4, W4.reframe _, rx.app (.cons r4 .nil), ?_, q4⟩
      · rw [ra.len]
        have := line_big
        omega
      · rw [List.length_append, List.length_singleton]; omega
    | false =>
      exact ⟨G3, m2, acc, xs, (e'.trans e2).trans e3, W3, (ra.mono e2).mono e3, by omega, q3⟩
  · rintro H ⟨G', m', acc, xs, e', W', ra, hl, l⟩
    rw [List.drop_length] at l
    obtain ⟨hm', W3⟩ := W'.toOwn hF ra
    exact hQ _ _ _ _ _ (l Dl hm') (e1.trans e') W3 (.box Dl)
theorem ps_setLcO {i : Nat} {y : Str} {py : Pos} {elt tg iter : Expr} {ifs : List Expr} {scope : Scope} {own : List (Str × Nat)} {wi : WA} {js : List Nat} {g : WG} {tt : WT} {te : WE} {N : List Str} {spos : Pos} (hX : ∀ j, (X j).N = N) (hc : ∀ i, (X i).calm = true) (hN : N.Nodup) (hy : N[i]? = some y)
    (hyl : ∀ j, (X j).env.scope.names.lookup y = some .local) (hsw : ∀ j, swapsWith (.ListComp elt [⟨tg, iter, ifs, 0⟩] scope pos) (some (.Name y py)) spos.line (X j).env = pure true) (hi : PDI K W X tg iter wi)
    (ok : ∀ i, BlkOk N (X i).env.scope scope own) (hg : PDG K (Blk X scope) tg js g) (ht : PDTs K W (Blk X scope) ifs tt) (he : PD K W (Blk X scope) elt te) (hj : ∀ j ∈ js, j ∈ own.map (·.2) := by decide) (hs : ∀ i x, foldedSetIterable iter (X i).env x = pure x := by intro _ _; rfl) :
    PDS K W X (.Assign [.Name y py] (.ListComp elt [⟨tg, iter, ifs, 0⟩] scope pos) spos) (sSet i (wLcO wi g tt te (own.map (·.2)))) := by
  obtain ⟨ti, i1, i2⟩ := hi
  obtain ⟨tG, g1, g2⟩ := hg
  obtain ⟨tT, t1, t2⟩ := ht
  obtain ⟨tE, e1, e2⟩ := he
  refine ⟨_, fun j => L2.ps_setLc (i := i) (hc j) (by rw [hX j]; exact hN) (by rw [hX j]; exact hy) (hyl j) (hsw j) (i1 j) (by rw [hX j]; exact ok j) (fun s H C cl fp => g1 (j, s, H, C, cl, fp)) (fun s H C cl fp => t1 (j, s, H, C, cl, fp)) (fun s H C cl fp => e1 (j, s, H, C, cl, fp)) (hs j), ?_⟩
  intro G m F H σ ρ S E hW hE h f
  refine lift_lcO i2 g2 t2 e2 hj G m F H σ ρ _ _ E.ex hW hE h f.ex ?_
  intro d m' v G' H' q e W' r
  exact f.nx _ m' _ G' H' q e W' ((hE.mono e).put r i)
end
/-- a constant tuple, its items told apart -/
theorem rp_globN {K : Fg} {a : Addr} {o : Obj} {its : Array Value} {n : Nat} {vs : List V} {ds : List D} (lk : K.lookup a = some o) (oc : o.cls = .type "tuple") (od : o.data = .seq its n) (hz : its.size ≤ sizeLine) (hv : Vals vs its.toList) (rr : ∀ G, RpA K G vs ds) : ∀ G, Rp K G (.ref a) (.tup ds) :=
  fun G => .tup (Or.inr ⟨o, its, n, lk, oc, od, hz, hv⟩) (rr G)
end DL
/-! XA9: a target of several names, handed a list or a tuple -/
namespace DL
open PySem L2 XO
open Evl (Ex)
def gvSeq (n : Nat) (g : WGs) : WG := fun d ρ Q => ∃ ds, seqA d = some ds ∧ ds.length = n ∧ g ds ρ Q
theorem pg_seq {K : Fg} {ι : Type} {X : ι → Cx} {pos : Pos} {es : List Expr} {n : Nat} {js : List Nat} {g : WGs} {kx : Nat} (hK : ∀ i, (X i).K = K) (hc : ∀ i, (X i).calm = true) (h : PDGs K X es js g) (hn : ∀ i, (assignEach es (X i).env).length = n := by intro _; rfl) (hst : ∀ i, (assignEach es (X i).env).findIdx? (·.1) = none := by intro _; rfl) : PDG K X (.Tuple es kx pos) js (gvSeq n g) := by
  obtain ⟨t, a1, a2⟩ := h
  refine ⟨_, fun j => pg_or (hK j ▸ L2.pg_tup (hc j) (a1 j) (hn j) (hst j)) (hK j ▸ L2.pg_lst (hc j) (a1 j) (hn j) (hst j)), ?_⟩
  rintro G m F H v d σ ρ Q Qd hW hE r ⟨ds, hd, hl, q⟩ hQ
  cases r <;> first | (cases hd; done) | skip
  case lst a0 xs ds' hx rr =>
    cases hd
    exact Or.inr ⟨_, _, rfl, SqL.of (hW.ex _ _ hx), by rw [rr.len]; exact hl, a2 G m F H xs ds σ ρ Q Qd hW hE rr q hQ⟩
  case tup a0 xs ds' hx rr =>
    cases hd
    exact Or.inl ⟨_, _, rfl, Evl.ex_t hW.ex hx, by rw [rr.len]; exact hl, a2 G m F H xs ds σ ρ Q Qd hW hE rr q hQ⟩
end DL
/-! XA10: repr of a truth beside repr of a list -/
namespace DL
open PySem L2 XO
open Evl (Ex)
section
variable {K : Fg} {W : Wx} {ι : Type} {X : ι → Cx} {pos : Pos}
def dReprMB : WC := fun xs m Q => match xs with
  | [.bl b] => Q (.str (if b then "True" else "False")) m
  | xs => dReprM xs m Q
theorem b_reprMB {P : Program} {w : World} {K : Fg} {mg : Str → Option Value} {base : Heap} {k : Nat} {N : List Str} {ι : Type} {X : ι → Cx} (hX : FamG P w K mg base k N X) : BiU K X (.builtin "repr") dReprMB := by
  obtain ⟨r, h1, h2⟩ := b_reprM hX
  refine ⟨fun xs H Q => r xs H Q ∨ rReprB xs H Q, fun i pins s σ H xs us Q I rr h => ?_, ?_⟩
  · rcases h with h | h
    · exact h1 i pins s σ H xs us Q I rr h
    · exact call_reprB pins s σ H xs us Q I rr h
  · intro G m F H xs ds Q Qd hW r h hQ
    unfold dReprMB at h
    split at h
    · cases r with
      | cons r1 t =>
        cases t
        cases r1
        exact Or.inr ⟨_, rfl, hQ.here hW h (.str _)⟩
    · exact Or.inl (h2 G m F H xs _ Q Qd hW r h hQ)
end
end DL
/-! XA11: a comprehension within another -/
namespace DL
open PySem L2 XO
def dEnv (sc : Scope) : Env := { scope := sc, locals := 0, globals := 0, cells := [] }
theorem relabel_env (s : Scope) (e : Env) : relabel s e = relabel s (dEnv e.scope) := rfl
theorem blkOk_in {ι : Type} {X : ι → Cx} {N : List Str} {sc0 sc scope : Scope} {own : List (Str × Nat)} {j : BI ι} (h0 : (X j.1).env.scope = sc0) (h : L2.blkC N (relabel sc (dEnv sc0)) scope own = true) : L2.BlkOk N (Blk X sc j).env.scope scope own := by
  have e : (Blk X sc j).env.scope = relabel sc (dEnv sc0) := by
    rw [← h0]
    exact relabel_env sc (X j.1).env
  rw [e]
  exact L2.blkOk_by h
end DL
/-! XA12: a comprehension over a list that is changed elsewhere, not in the comprehension -/
namespace DL
open PySem L2 XO
open Evl (Ex)
section
variable {K : Fg} {W : Wx} {ι : Type} {X : ι → Cx} {pos : Pos}
theorem walk_box {K : Fg} {a : Addr} {n : Nat} : Walk (Itl K a) n (fun H => ∃ xs, SqL K H a xs ∧ xs.length = n) (fun i H x H' => H' = H ∧ ∀ xs, SqL K H a xs → xs[i]? = some x) := by
  refine ⟨fun i H hi ⟨xs, h, hl⟩ => ?_, fun H ⟨xs, h, hl⟩ => ⟨xs, h, by omega⟩, fun i H x H' hi _ y => y⟩
  exact ⟨xs, xs[i]'(by omega), h, List.getElem?_eq_getElem (by omega)⟩
def wLcBGo (a : Addr) (ds0 : List D) (g : WG) (tt : WT) (te : WE) (ρ : En0) (Qx : XQ) : List D → List D → Mem → (D → Mem → Prop) → Prop
  | [], acc, m, Q => m a = some ds0 ∧ Q (.lst acc) m
  | d :: ds, acc, m, Q => m a = some ds0 ∧ g d ρ fun ρ1 => tt ρ1 m (fun b m1 => if b = true then te ρ1 m1 (fun y m2 => wLcBGo a ds0 g tt te ρ Qx ds (acc ++ [y]) m2 Q) Qx else wLcBGo a ds0 g tt te ρ Qx ds acc m1 Q) Qx
theorem wLcBGo.at {a : Addr} {ds0 : List D} {g : WG} {tt : WT} {te : WE} {ρ : En0} {Qx : XQ} : ∀ {ds acc : List D} {m : Mem} {Q : D → Mem → Prop}, wLcBGo a ds0 g tt te ρ Qx ds acc m Q → m a = some ds0
  | [], _, _, _, h => h.1
  | _ :: _, _, _, _, h => h.1
def wLcB (i : Nat) (g : WG) (tt : WT) (te : WE) (vs : List Nat) : WE := fun ρ m Q Qx => match ρ[i]? with
  | some (some (.box a)) => ∃ ds0, m a = some ds0 ∧ ds0.length ≤ 1000000 ∧ wLcBGo a ds0 g tt te (wipeD ρ vs) Qx ds0 [] m Q
  | _ => False
theorem lift_lcB {i : Nat} {tG : TG} {js : List Nat} {g : WG} {tT : TT} {tt : WT} {tE : TE} {te : WE} {vs : List Nat} (hg : LiftG K js tG g) (ht : LiftT K W tT tt) (he : LiftE K W tE te) (hj : ∀ j ∈ js, j ∈ vs) :
    LiftE K W (tLc (iList K (tVar i)) tG tT tE vs) (wLcB i g tt te vs) := by
  intro G m F H σ ρ Q Qd Qx hW hE h hX hQ
  unfold wLcB at h
  split at h
  case h_2 => exact h.elim
  rename_i a ea
  obtain ⟨ds0, hm, hz, h⟩ := h
  obtain ⟨v, h1, h2⟩ := hE.get ea
  cases h2
  have sq : ∀ {G : Hp} {m : Mem} {F H : Hp}, Wd K G m F H → m a = some ds0 → ∃ xs, SqL K H a xs ∧ RpA K G xs ds0 := by
    intro G m F H W hm
    obtain ⟨_, _, xs, hx, r⟩ := W.own a ds0 hm
    exact ⟨xs, SqL.of hx, r⟩
  refine ⟨_, h1, a, rfl, (sq hW hm).imp fun _ h => h.1, ?_⟩
  intro Dl hD
  obtain ⟨hG, hm', hF⟩ := hW.fresh hD
  refine lc_it (walk_box (K := K) (a := a) (n := ds0.length)) (fun i H => ∃ G' m' acc xs, Ex G G' ∧ Wd K G' m' (upd F Dl (.lst xs)) H ∧ RpA K G' xs acc ∧ acc.length ≤ i ∧ wLcBGo a ds0 g tt te (wipeD ρ vs) Qx (ds0.drop i) acc m' Qd)
    ⟨G, m, [], [], Ex.refl _, hW.frame hD (.lst []), .nil, Nat.le_refl _, h⟩ ?_ ?_ ?_
  · rintro i H _ ⟨G', m', acc, xs, e', W', _, _, l⟩
    obtain ⟨xs, h, r⟩ := sq W' l.at
    exact ⟨xs, h, r.len⟩
  · rintro i x H H' hi' ⟨G', m', acc, xs, e', W', ra, hl, l⟩ ⟨rfl, y⟩
    obtain ⟨ys, hy, ry⟩ := sq W' l.at
    rw [drop_cons hi'] at l
    obtain ⟨v, hv, r⟩ := ry.at (List.getElem?_eq_getElem hi')
    have hx := y ys hy
    rw [hv] at hx
    cases hx
    have l := l.2
    refine hg G' m' _ H' x _ (L2.wipe σ vs) (wipeD ρ vs) _ _ W' ((hE.mono e').wipe vs) r l ?_
    intro ρ1 σ1 q E1 w1
    refine ⟨(w1 vs hj).trans wipe_wipe, ?_⟩
    refine ht G' m' _ H' σ1 ρ1 _ _ Qx W' E1 q ((hX.mono e').frame hF) ?_
    intro b m2 G3 H3 q3 e3 W3
    have e13 := e'.trans e3
    cases b with
    | true =>
      refine he G3 m2 _ H3 σ1 ρ1 _ _ Qx W3 (E1.mono e3) q3 ((hX.mono e13).frame hF) ?_
      intro d m3 v G4 H4 q4 e4 W4 r4
      have rx := ra.mono (e3.trans e4)
      refine ⟨xs, W4.fr _ _ upd_same, ?_, G4, m3, acc ++ [d], xs ++ [v], (e'.trans e3).trans e4, W4.reframe _, rx.app (.cons r4 .nil), ?_, q4⟩
      · rw [ra.len]
        have := line_big
        omega
      · rw [List.length_append, List.length_singleton]; omega
    | false =>
      exact ⟨G3, m2, acc, xs, e'.trans e3, W3, ra.mono e3, by omega, q3⟩
  · rintro H ⟨G', m', acc, xs, e', W', ra, hl, l⟩
    rw [List.drop_length] at l
    obtain ⟨e3, W3⟩ := W'.adopt hF
    exact hQ _ m' _ _ _ l.2 (e'.trans e3) W3 (.lst upd_same (ra.mono e3))
theorem pd_lcB {elt tg : Expr} {ifs : List Expr} {scope : Scope} {own : List (Str × Nat)} {js : List Nat} {g : WG} {tt : WT} {te : WE} {N : List Str} {i : Nat} {x : Str} {p' : Pos} (hX : ∀ j, (X j).N = N) (hc : ∀ i, (X i).calm = true) (hN : N.Nodup) (hK : ∀ i, (X i).K = K)
    (ok : ∀ i, BlkOk N (X i).env.scope scope own) (hg : PDG K (Blk X scope) tg js g) (ht : PDTs K W (Blk X scope) ifs tt) (he : PD K W (Blk X scope) elt te) (hi : N[i]? = some x := by rfl) (hv : ∀ j, Vis (X j).env.scope x := by intro _; first | exact Or.inl rfl | exact Or.inr (Or.inl rfl) | exact Or.inr (Or.inr rfl)) (hd : (x == ("__debug__" : Str)) = false := by decide) (hcd : (x == ("__classdict__" : Str)) = false := by decide)
    (hj : ∀ j ∈ js, j ∈ own.map (·.2) := by decide) (hs : ∀ i y, foldedSetIterable (.Name x p') (X i).env y = pure y := by intro _ _; rfl) :
    PD K W X (.ListComp elt [⟨tg, .Name x p', ifs, 0⟩] scope pos) (wLcB i g tt te (own.map (·.2))) := by
  obtain ⟨tG, g1, g2⟩ := hg
  obtain ⟨tT, t1, t2⟩ := ht
  obtain ⟨tE, e1, e2⟩ := he
  refine ⟨_, fun j => ?_, lift_lcB g2 t2 e2 hj⟩
  have pv : PE (X j) (.Name x p') (tVar i) := pe_var (by rw [hX j]; exact hi) (hv j) hd hcd
  have q := pi_list (tg := tg) pv
  rw [hK j] at q
  exact pe_lc (hc j) (by rw [hX j]; exact hN) q (by rw [hX j]; exact ok j) (fun s H C cl fp => g1 (j, s, H, C, cl, fp)) (fun s H C cl fp => t1 (j, s, H, C, cl, fp)) (fun s H C cl fp => e1 (j, s, H, C, cl, fp)) (hs j)
end
end DL
/-! XB1: sorted(pairs of texts), list(text), list(reversed(xs)), xs * k -/
namespace DL
open PySem L2 XO PyProof.Rows PyProof.Rows.G
open Evl (Ex)
section
variable {prog : Program} {w : World} {A : Around} {E : Value → Shared → Prop} {s : Shared}
theorem sorted_tupsA {shape : Nat → Bool} {it : Addr} {T : String} {o : Obj} {n : Nat} {vs fs : List Value} {Q : Value → Shared → Prop} (hT : T = "list" ∨ T = "tuple") (ho : s.heap.get? it = some o) (hc : o.cls = .type T) (hd : o.data = .seq vs.toArray n)
    (ht : TupsOf s.heap shape vs fs) (hk : ∀ v, v ∈ vs → ∃ l, tupKeyC s.heap shape v = some l) (hL : vs.length ≤ sizeLine)
    (h : ∀ (h' : Heap) (st' : SortSt), (∀ b o', s.heap.get? b = some o' → h'.get? b = some o') → (arrOf st').Perm (pairsOf vs) → SortedToK (tupKindC s.heap shape) (arrOf st') (pairsOf vs).size →
      Q (.ref h'.objs.size) { s with heap := sortedHeap (h'.push (seqObj "list" vs.toArray 0)) h'.objs.size vs ((arrOf st').map (·.2)) }) :
    wpAny (model prog w) A (call (.builtin "sorted") [.ref it]) Q E s := by
  refine Calls.call_function_entry kind_sorted plain_sorted entry_sorted (args_sorted1 _) ?_
  unfold Builtin.«sorted»
  refine wpAny_bind (m := checkCount "sorted" 1 1 _) (wpAny_pure ?_)
  refine wpAny_bind (wpAny_collect_seq it hT ho hc hd (fun h1 k1 => ?_) (by rw [List.size_toArray]; exact hL))
  have el : vs.toArray.toList = vs := by simp
  rw [el]
  refine wpAny_bind (wpAny_newList ?_ hL)
  have hoL : (h1.push (seqObj "list" vs.toArray 0)).get? h1.objs.size = some (seqObj "list" vs.toArray 0) := Heap.get?_push_size _ rfl
  show wpAny _ _ _ _ _ { s with heap := h1.push (seqObj "list" vs.toArray 0) }
  have k0 : KeepsTups s.heap (h1.push (seqObj "list" vs.toArray 0)) := fun b o e _ => Heap.get?_push_of_some _ (k1 b o e)
  have k6 := k0.trans (keeps_sort6 (vs := vs) hoL)
  refine wpAny_bind (wpAny_holding (wpAny_call_entry slot_list_sort ⟨_, hoL, rfl⟩ entry_list_sort (list_sort_treeG (κ := tupKindC s.heap shape) (kd := tuples' true) hoL (tupKeys hk) (tupC_ltAt (s := { s with heap := sortHeap6 (h1.push (seqObj "list" vs.toArray 0)) h1.objs.size vs }) true k6)
    (fun h2 _ hq => tup_kind (s := { s with heap := sortHeap6 (h1.push (seqObj "list" vs.toArray 0)) h1.objs.size vs }) (by rw [TupsOf.length ht]; omega) (TupsOf.keep k6 ht) hq) hL fun st' a1 a2 a3 => ⟨_, rfl, ?_⟩) (args_list_sort _)))
  exact wpAny_pure ⟨_, rfl, h h1 st' k1 a1 a2⟩
end
/-! pairs of texts -/
def keyP (p : Str × Str) : List (Int ⊕ List Nat) := [.inr p.1.cps.toList, .inr p.2.cps.toList]
def leP (p q : Str × Str) : Prop := (listOrd itemOrd).kle (keyP p) (keyP q)
theorem str_eq_of {a b : Str} (h : a.cps.toList = b.cps.toList) : a = b := by
  cases a; cases b
  simp only at h
  congr 1
  exact Array.toList_inj.mp h
theorem keyP_inj {p q : Str × Str} (h : keyP p = keyP q) : p = q := by
  unfold keyP at h
  injection h with h1 h2
  injection h2 with h2 _
  injection h1 with h1
  injection h2 with h2
  exact Prod.ext (str_eq_of h1) (str_eq_of h2)
theorem leP_antisymm {p q : Str × Str} (h1 : leP p q) (h2 : leP q p) : p = q := keyP_inj (KeyOrd.kle_antisymm h1 h2)
/-- two orders of the same pairs, both in order, are the same -/
theorem sorted_same : ∀ {a b : List (Str × Str)}, a.Perm b → a.Pairwise leP → b.Pairwise leP → a = b
  | [], b, h, _, _ => by rw [List.nil_perm.mp h]
  | x :: xs, [], h, _, _ => by have := h.length_eq; simp at this
  | x :: xs, y :: ys, h, ha, hb => by
    obtain ⟨a1, a2⟩ := List.pairwise_cons.mp ha
    obtain ⟨b1, b2⟩ := List.pairwise_cons.mp hb
    have e : x = y := by
      rcases List.mem_cons.mp (h.subset List.mem_cons_self) with e | e
      · exact e
      · rcases List.mem_cons.mp (h.symm.subset List.mem_cons_self) with e' | e'
        · exact e'.symm
        · exact leP_antisymm (a1 _ e') (b1 _ e)
    subst e
    rw [sorted_same ((List.perm_cons x).mp h) a2 b2]
def pairS (p : Str × Str) : D := .tup [.str p.1, .str p.2]
def txOf (h : Heap) : Value → Str × Str
  | .ref a => match h.get? a with
    | some o => match o.data with
      | .seq xs _ => match xs.toList with
        | [.str x _, .str y _] => (x, y)
        | _ => (Str.ofString "", Str.ofString "")
      | _ => (Str.ofString "", Str.ofString "")
    | none => (Str.ofString "", Str.ofString "")
  | _ => (Str.ofString "", Str.ofString "")
def TxAt (h : Heap) (v : Value) (p : Str × Str) : Prop := ∃ a o xs n t u, v = .ref a ∧ h.get? a = some o ∧ o.cls = .type "tuple" ∧ o.data = .seq xs n ∧ xs.toList = [.str p.1 t, .str p.2 u]
theorem TxAt.of {h : Heap} {v : Value} {p : Str × Str} (t : TxAt h v p) : txOf h v = p := by
  obtain ⟨a, o, xs, n, t, u, rfl, ho, hc, hd, hx⟩ := t
  unfold txOf
  simp only [ho, hd, hx]
theorem TxAt.key {h : Heap} {v : Value} {p : Str × Str} (t : TxAt h v p) : tupKeyC h (fun _ => true) v = some (keyP p) := by
  obtain ⟨a, o, xs, n, t, u, rfl, ho, hc, hd, hx⟩ := t
  unfold tupKeyC
  rw [if_pos (by unfold isTupObj; simp only [ho, hc]; rfl)]
  unfold tupKey
  simp only [ho, hd, hx]
  rfl
theorem TxAt.tup {h : Heap} {v : Value} {p : Str × Str} (t : TxAt h v p) : ∃ f, TupOf h (fun _ => true) v f := by
  obtain ⟨a, o, xs, n, t, u, rfl, ho, hc, hd, hx⟩ := t
  refine ⟨.str p.1 t, a, o, xs, n, rfl, ho, hc, hd, ?_, (fun z => nomatch z), fun _ => ⟨_, _, rfl⟩⟩
  rw [← Array.getElem?_toList, hx]
  rfl
theorem tups_of {h : Heap} : ∀ {us : List Value}, (∀ u ∈ us, ∃ p, TxAt h u p) → ∃ fs, TupsOf h (fun _ => true) us fs
  | [], _ => ⟨[], .nil⟩
  | u :: us, hu => by
    obtain ⟨p, hp⟩ := hu u List.mem_cons_self
    obtain ⟨f, hf⟩ := hp.tup
    obtain ⟨fs, hfs⟩ := tups_of fun v hv => hu v (List.mem_cons_of_mem _ hv)
    exact ⟨f :: fs, .cons hf hfs⟩
theorem sorted_out_tx {h : Heap} {us : List Value} (hu : ∀ u ∈ us, ∃ p, TxAt h u p) {xs : Array Keyed} (hp : xs.Perm (pairsOf us)) (hs : SortedToK (tupKindC h (fun _ => true)) xs (pairsOf us).size) :
    (xs.map (·.2)).toList.Perm us ∧ (((xs.map (·.2)).toList).map (txOf h)).Pairwise leP := by
  have hl : xs.toList.Perm (us.zip us) := by rw [← pairsOf_toList]; exact Array.perm_iff_toList_perm.mp hp
  have hmem : ∀ p, p ∈ xs.toList → p.1 = p.2 ∧ p.1 ∈ us := fun p hp' => mem_zip_self (hl.mem_iff.mp hp')
  refine ⟨?_, ?_⟩
  · rw [Array.toList_map]
    have := hl.map (·.2)
    rwa [List.map_snd_zip (Nat.le_refl _)] at this
  · rw [Array.toList_map, List.map_map, List.pairwise_iff_getElem]
    intro i j hi hj hij
    have hi' : i < xs.size := by simpa using hi
    have hj' : j < xs.size := by simpa using hj
    have h1 := hs i j (Nat.le_of_lt hij) (by rw [← hp.size_eq]; exact hj')
    obtain ⟨e1, m1⟩ := hmem xs[i] (by simp)
    obtain ⟨e2, m2⟩ := hmem xs[j] (by simp)
    obtain ⟨p, tp⟩ := hu _ m1
    obtain ⟨q, tq⟩ := hu _ m2
    have k1 : KK (tupKindC h (fun _ => true)) xs i = keyP p := by
      unfold KK
      rw [Array.getElem?_eq_getElem hi']
      show ((tupKeyC h (fun _ => true) xs[i].1).getD []) = _
      rw [tp.key]; rfl
    have k2 : KK (tupKindC h (fun _ => true)) xs j = keyP q := by
      unfold KK
      rw [Array.getElem?_eq_getElem hj']
      show ((tupKeyC h (fun _ => true) xs[j].1).getD []) = _
      rw [tq.key]; rfl
    rw [k1, k2] at h1
    simp only [List.getElem_map, Array.getElem_toList, Function.comp]
    rw [← e1, ← e2, tp.of, tq.of]
    exact h1
section
variable {K : Fg} {W : Wx} {ι : Type} {X : ι → Cx} {pos : Pos} {a b c e f : Expr} {es : List Expr} {wa wb wc we wf w : WE} {wr : WA}
def PairsS (K : Fg) (H : Hp) (xs : List V) (ps : List (Str × Str)) : Prop := xs.length = ps.length ∧ ∀ (i : Nat) x p, xs[i]? = some x → ps[i]? = some p → ∃ t, x = .ref t ∧ SqT K H t [.str p.1, .str p.2]
def rSortedPT (K : Fg) : List V → Hp → VK → Prop := fun vs H Q => ∃ (a : Addr) (xs : List V) (ps : List (Str × Str)), vs = [V.ref a] ∧ (SqL K H a xs ∨ SqT K H a xs) ∧ PairsS K H xs ps ∧
  ∀ (zs : List (V × Str × Str)) (p : Addr), zs.Perm (xs.zip ps) → (zs.map (·.2)).Pairwise leP → H p = none → Q (.ref p) (upd H p (.lst (zs.map (·.1))))
theorem cr_sortedPT {X : Cx} : CallR X (.builtin "sorted") (rSortedPT X.K) := by
  intro pins s σ H vs us Q I r h
  obtain ⟨a, xs, ps, rfl, hx, hp, q⟩ := h
  obtain ⟨u0, rfl, ru⟩ := vals1 r
  obtain rfl : u0 = Value.ref a := ru
  have base : ∃ (its : List Value) (o : Obj) (T : String) (n : Nat), Vals xs its ∧ (T = "list" ∨ T = "tuple") ∧ s.heap.get? a = some o ∧ o.cls = .type T ∧ o.data = .seq its.toArray n ∧ xs.length ≤ sizeLine := by
    rcases hx with hx | hx
    · obtain ⟨its, rv, pl, hz⟩ := I.list hx
      obtain ⟨o, ho, hc, n, hd⟩ := pl.isList
      exact ⟨its, o, "list", n, rv, .inl rfl, ho, hc, hd, hz⟩
    · obtain ⟨its, rv, pl, hz⟩ := I.tuple hx
      obtain ⟨o, ho, hc, n, hd⟩ := id pl
      exact ⟨its, o, "tuple", n, rv, .inr rfl, ho, hc, hd, hz⟩
  obtain ⟨its, o, T, n, rv, hT, ho, hc, hd, hz⟩ := base
  have tx : ∀ (i : Nat) (u : Value) (p : Str × Str), its[i]? = some u → ps[i]? = some p → TxAt s.heap u p ∧ ∃ t, u = .ref t ∧ xs[i]? = some (.ref t) := by
    intro i u p hu hpi
    have hi : i < xs.length := by
      rw [hp.1]
      exact (List.getElem?_eq_some_iff.mp hpi).1
    obtain ⟨x, hxi⟩ : ∃ x, xs[i]? = some x := ⟨_, List.getElem?_eq_getElem hi⟩
    obtain ⟨t, rfl, ht⟩ := hp.2 i x p hxi hpi
    obtain ⟨u', hu', ru'⟩ := rv.get hxi
    rw [hu] at hu'
    cases hu'
    obtain rfl : u = Value.ref t := ru'
    obtain ⟨its2, r2, pl2, _⟩ := I.tuple ht
    obtain ⟨o2, ho2, hc2, n2, hd2⟩ := id pl2
    obtain ⟨v1, v2, rfl, q1, q2⟩ := vals2 r2
    obtain ⟨t1, rfl⟩ := q1
    obtain ⟨t2, rfl⟩ := q2
    exact ⟨⟨t, o2, _, n2, t1, t2, rfl, ho2, hc2, hd2, by simp⟩, t, rfl, hxi⟩
  have len : its.length = ps.length := rv.length.symm.trans hp.1
  have every : ∀ u ∈ its, ∃ p, TxAt s.heap u p := by
    intro u hu
    obtain ⟨i, hi⟩ := List.mem_iff_getElem?.mp hu
    have hl : i < ps.length := by rw [← len]; exact (List.getElem?_eq_some_iff.mp hi).1
    exact ⟨ps[i], (tx i u _ hi (List.getElem?_eq_getElem hl)).1⟩
  have zipE : its.map (fun u => (backV u, txOf s.heap u)) = xs.zip ps := by
    apply List.ext_getElem?
    intro i
    rw [List.getElem?_map]
    by_cases hi : i < its.length
    · have hl : i < ps.length := by rw [← len]; exact hi
      obtain ⟨h1, t, h2, h3⟩ := tx i _ _ (List.getElem?_eq_getElem hi) (List.getElem?_eq_getElem hl)
      rw [List.getElem?_eq_getElem hi, Option.map_some, h1.of, h2]
      exact (List.getElem?_zip_eq_some.mpr ⟨h3, List.getElem?_eq_getElem hl⟩).symm
    · rw [List.getElem?_eq_none (by omega), Option.map_none, List.getElem?_eq_none (by rw [List.length_zip, ← len]; omega)]
  obtain ⟨fs, hfs⟩ := tups_of every
  have hL : its.length ≤ sizeLine := by rw [← rv.length]; exact hz
  refine sorted_tupsA hT ho hc hd hfs (fun v hv => by obtain ⟨p, t⟩ := every v hv; exact ⟨_, t.key⟩) hL fun h' st' k a1 a2 => ?_
  obtain ⟨b1, b2⟩ := sorted_out_tx every a1 a2
  generalize hout : ((arrOf st').map (·.2)) = out at b1 b2 ⊢
  obtain ⟨hp0, gn, dr, tk, os⟩ := s
  simp only at k b1 b2 ⊢
  have hoL : (h'.push (seqObj "list" its.toArray 0)).get? h'.objs.size = some (seqObj "list" its.toArray 0) := Heap.get?_push_size _ rfl
  obtain ⟨ep, he⟩ := sortedHeap_at (out := out) hoL
  have hn : H h'.objs.size = none := (I.hok.kept k).fresh (Nat.le_refl _)
  have h0 : hp0.get? h'.objs.size = none := by
    cases e : hp0.get? h'.objs.size with
    | none => rfl
    | some o => exact absurd (Heap.lt_size (k _ _ e)) (Nat.lt_irrefl _)
  have kk : ∀ b u, hp0.get? b = some u → (sortedHeap (h'.push (seqObj "list" its.toArray 0)) h'.objs.size its out).get? b = some u := by
    intro b u e
    have e1 := k b u e
    have hb := Heap.lt_size e1
    rw [sortedHeap_old (Nat.ne_of_lt hb) (by rw [size_push']; exact Nat.lt_succ_of_lt hb)]
    exact Heap.get?_push_of_some _ e1
  have isRef : ∀ u ∈ its, ∃ a, u = Value.ref a := fun u hu => by obtain ⟨p, a, _, _, _, _, _, e, _⟩ := every u hu; exact ⟨a, e⟩
  have hv : Vals (out.toList.map backV) out.toList := vals_back fun u hu => isRef u (b1.mem_iff.mp hu)
  have hlen : (out.toList.map backV).length ≤ sizeLine := by rw [List.length_map, b1.length_eq]; exact hL
  have zs := q (out.toList.map fun u => (backV u, txOf hp0 u)) h'.objs.size (by rw [← zipE]; exact b1.map _) (by rw [List.map_map]; exact b2) hn
  rw [List.map_map] at zs
  exact ⟨.ref _, upd H h'.objs.size (.lst (out.toList.map backV)), I.laidN (t' := tk) kk h0 hn ⟨hlen, out.toList, ep, hv, by rw [Array.toArray_toList]; exact he⟩, rfl, zs⟩
def dSortedPT : WC := fun xs m Q => ∃ ps : List (Str × Str), (xs = [.lst (ps.map pairS)] ∨ xs = [.tup (ps.map pairS)]) ∧ ∀ qs : List (Str × Str), qs.Perm ps → qs.Pairwise leP → Q (.lst (qs.map pairS)) m
theorem rp_pairsS {G H : Hp} (e : Ex G H) : ∀ {ps : List (Str × Str)} {vs : List V}, RpA K G vs (ps.map pairS) → PairsS K H vs ps ∧ ∀ z ∈ vs.zip ps, Rp K G z.1 (pairS z.2)
  | [], _, r => by
    cases r
    exact ⟨⟨rfl, fun i x p h => by simp at h⟩, fun z hz => by simp at hz⟩
  | p :: ps, _, r => by
    cases r with
    | cons r t =>
      obtain ⟨⟨h1, h2⟩, h3⟩ := rp_pairsS e t
      have r0 := r
      refine ⟨⟨by rw [List.length_cons, List.length_cons, h1], ?_⟩, ?_⟩
      · intro i x q hx hq
        cases i with
        | zero =>
          simp at hx hq
          subst hx hq
          cases r with
          | tup hx rr =>
            cases rr with
            | cons ra rr =>
              cases rr with
              | cons rb rr =>
                cases rr
                cases ra
                cases rb
                exact ⟨_, rfl, Evl.ex_t e hx⟩
        | succ i => exact h2 i x q (by simpa using hx) (by simpa using hq)
      · intro z hz
        rw [List.zip_cons_cons] at hz
        rcases List.mem_cons.mp hz with rfl | hz
        · exact r0
        · exact h3 z hz
theorem rpA_zs {G : Hp} : ∀ {zs : List (V × Str × Str)}, (∀ z ∈ zs, Rp K G z.1 (pairS z.2)) → RpA K G (zs.map (·.1)) ((zs.map (·.2)).map pairS)
  | [], _ => .nil
  | z :: zs, h => .cons (h z List.mem_cons_self) (rpA_zs fun y hy => h y (List.mem_cons_of_mem _ hy))
theorem b_sortedPT (hK : ∀ i, (X i).K = K) : BiU K X (.builtin "sorted") dSortedPT := by
  refine ⟨_, fun i => hK i ▸ cr_sortedPT, ?_⟩
  intro G m F H xs ds Q Qd hW r h hQ
  obtain ⟨ps, hx, q⟩ := h
  have fin : ∀ (a : Addr) (vs : List V), RpA K G vs (ps.map pairS) → (SqL K H a vs ∨ SqT K H a vs) → rSortedPT K [V.ref a] H Q := by
    intro a vs rv hs
    obtain ⟨h1, h2⟩ := rp_pairsS hW.ex rv
    refine ⟨a, vs, ps, rfl, hs, h1, fun zs p hp hs hn => ?_⟩
    have e : (vs.zip ps).map (·.2) = ps := List.map_snd_zip (by rw [h1.1]; exact Nat.le_refl _)
    exact hQ.lst hW (q (zs.map (·.2)) (by have := hp.map (·.2); rwa [e] at this) hs) (rpA_zs fun z hz => h2 z (hp.mem_iff.mp hz)) p hn
  rcases hx with rfl | rfl
  · cases r with
    | cons r1 t =>
      cases t
      cases r1 with
      | lst hx rr => exact fin _ _ rr (Or.inl (SqL.of (hW.ex _ _ hx)))
  · cases r with
    | cons r1 t =>
      cases t
      cases r1 with
      | tup hx rr => exact fin _ _ rr (Or.inr (Evl.ex_t hW.ex hx))
/-! xs * k -/
def dMulL : WR := fun x y m Q => match x, y with
  | .lst a, .int k => (0 ≤ k ∧ k ≤ 1000 ∧ a.length ≤ 100) ∧ Q (.lst (List.replicate k.toNat a).flatten) m
  | _, _ => False
theorem lift_mulL : LiftR K rRep dMulL := by
  intro G m F H x y dx dy Q Qd hW rx ry h hQ
  cases rx <;> cases ry <;> first | exact (show False from h).elim | skip
  case lst.int a xs ds h1 r1 k =>
    obtain ⟨⟨c1, c2, c3⟩, q⟩ := h
    refine ⟨a, k, xs, rfl, rfl, hW.ex _ _ h1, by omega, by omega, ?_, hQ.lst hW q (r1.rep _)⟩
    have h1 : xs.length * k.toNat ≤ 100 * 1000 := Nat.mul_le_mul (by rw [r1.len]; exact c3) (by omega)
    exact Nat.le_trans h1 (by rw [sizeLine_eq]; decide)
theorem pd_mulL (ha : PD K W X a wa) (hb : PD K W X b wb) : PD K W X (.BinOp a .Mult b pos) (wOp dMulL wa wb) := bin_of (fun _ => op_rep) lift_mulL ha hb
/-! list(text) -/
def dListTx : WC := fun xs m Q => match xs with
  | [.str z] => z.cps.size ≤ 1000000 ∧ Q (.lst ((signL z).map D.str)) m
  | _ => False
def rListTx : List V → Hp → VK → Prop := fun vs H Q => ∃ z : Str, vs = [V.str z] ∧ z.cps.size ≤ 1000000 ∧ ∀ p : Addr, H p = none → Q (.ref p) (upd H p (.lst ((signL z).map V.str)))
theorem cr_listTx {X : Cx} (hc : X.calm = true) : CallR X (.type "list") rListTx := by
  intro pins s σ H vs us Q I r h
  obtain ⟨z, rfl, hz, q⟩ := h
  cases r with
  | cons r1 t0 =>
    cases t0
    obtain ⟨t, rfl⟩ := r1
    refine call_list_str (I.ok.hd hc) z t (fun h' tk acc c' k hS hacc => ?_) (by rw [sizeLine_eq]; omega)
    have hlen : ((signL z).map V.str).length ≤ sizeLine := by
      rw [List.length_map]
      unfold signL
      rw [List.length_map, Array.length_toList, sizeLine_eq]
      exact Nat.le_trans hz (by decide)
    have hn : H s.heap.objs.size = none := I.hok.fresh (Nat.le_refl _)
    exact ⟨.ref _, upd H s.heap.objs.size (.lst ((signL z).map V.str)), I.laid (t' := tk) k (Nat.le_refl _) ⟨hlen, acc.toList, c', vals_of_strs (strs_items hacc), by rw [Array.toArray_toList]; exact hS⟩, rfl, q _ hn⟩
theorem b_listTx (hc : ∀ i, (X i).calm = true) : BiU K X (.type "list") dListTx := by
  refine ⟨_, fun i => cr_listTx (hc i), ?_⟩
  intro G m F H xs ds Q Qd hW r h hQ
  unfold dListTx at h
  split at h
  · cases r with
    | cons r1 t =>
      cases r1
      cases t
      exact ⟨_, rfl, h.1, fun p hf => hQ.lst hW h.2 (rp_strs _) p hf⟩
  · cases h
end
end DL
/-! XB2: list(reversed(xs)) -/
namespace RT
open PySem PyProof.Rows
section
variable {prog : Program} {w : World} {A : Around} {E : Value → Shared → Prop} {s : Shared}
theorem ext_rev {R : Result → Shared → Prop} {it l : Addr} {items : Array Value} (hh : A.handled = none) (hit : s.heap.IsRevIter it l ((items.size : Int) - 1)) (hl : s.heap.IsList l items) (hne : l ≠ it) (hn : items.size ≤ sizeLine) (S : Addr) (res : Value) (c₀ : Nat)
    (hS : s.heap.get? S = some { cls := .type "list", data := .seq #[] c₀ }) (hSi : S ≠ it) (hSl : S ≠ l)
    (hR : ∀ h' tk acc' c', (∀ b o, b ≠ S → b ≠ it → s.heap.get? b = some o → h'.get? b = some o) → h'.get? S = some { cls := .type "list", dict := none, data := .seq acc' c', slots := #[] } →
      ItemsOf (fun i v => items[items.size - 1 - i]? = some v) acc' items.size → R (.ok (.ret res)) { s with heap := h', toks := tk }) :
    wpAny (model prog w) A.in1 (Builtin.List.listExtendWith (.ref S) (.ref it) res)
      (fun fin s' => match fin with | .done f => R (.ok f) s' | .again c' => c'.quiet = true ∧ codeAny (model prog w) A c' R s') (fun e s' => R (.error e) s') s := by
  have W := (Walks.listRev (prog := prog) (w := w) (A := A.in1) hh it l hne items).toS
  have hSf : S ∉ [it, l] := by simp only [List.mem_cons, List.not_mem_nil, or_false, not_or]; exact ⟨hSi, hSl⟩
  have hT : s.TypeIs (.ref it) "list_reverseiterator" := Heap.IsRevIter.typeIs hit
  have h1 : Builtin.List.listSameRef (.ref S) (.ref it) = false := by simp [Builtin.List.listSameRef, hSi]
  unfold Builtin.List.listExtendWith
  refine wpAny_bind (wpAny_typeOf hT ?_)
  rw [if_neg (by rw [h1]; decide)]
  refine wpAny_bind (wpAny_pyIter_revIter hit ?_)
  refine wpAny_bind (wpAny_holding ?_)
  unfold Builtin.List.listLengthHint
  refine wpAny_bind (wpAny_specialOf hT nolen_lri ?_)
  show wpAny _ A.in1 (specialOf (Value.ref it) (Str.ofString "__length_hint__") >>= _) _ _ _
  refine wpAny_bind (wpAny_specialOf hT hint_lri ?_)
  generalize hid : ("list_reverseiterator.__length_hint__" : String) = id0
  wp_delta
  rw [show splitId id0 = some ("list_reverseiterator", "__length_hint__") from by subst hid; decide +kernel]
  subst hid
  refine wpAny_bind (wpAny_isInstance (b := true) hT (by rw [isSubtype_type]; kernel_rfl) ?_)
  refine wpAny_pure ?_
  rw [if_neg (by decide)]
  have e0 : ((items.size : Nat) : Int) - 1 - ((0 : Nat) : Int) = (items.size : Int) - 1 := by omega
  refine wpAny_pure ⟨plainId_quiet F.plain_extend_loop _, codeAny_extend_loopS W hn _ hSf _ items.size 0 _ _ _ rfl (Nat.zero_le _) ⟨Nat.zero_le _, by rw [e0]; exact hit, hl⟩ hS (ItemsOf.nil _) fun s' acc' c' hm hS' hacc => ?_⟩
  rw [Moved.eq_with hm]
  refine hR s'.heap s'.toks acc' c' (fun b o hb1 hb2 e => hm.heap b o (fun hmem => ?_) e) hS' hacc
  rcases List.mem_cons.mp hmem with e' | hmem
  · exact hb1 e'
  · exact hb2 (List.mem_singleton.mp hmem)
theorem init_rev {R : Result → Shared → Prop} {it l : Addr} {items : Array Value} (hh : A.handled = none) (hit : s.heap.IsRevIter it l ((items.size : Int) - 1)) (hl : s.heap.IsList l items) (hne : l ≠ it) (hn : items.size ≤ sizeLine) (S : Addr) (hS : s.heap.get? S = some { cls := .type "list", data := .seq #[] }) (hSi : S ≠ it) (hSl : S ≠ l)
    (hR : ∀ h' tk acc' c', (∀ b o, b ≠ S → b ≠ it → s.heap.get? b = some o → h'.get? b = some o) → h'.get? S = some { cls := .type "list", dict := none, data := .seq acc' c', slots := #[] } →
      ItemsOf (fun i v => items[items.size - 1 - i]? = some v) acc' items.size → R (.ok (.ret .none)) { s with heap := h', toks := tk }) :
    wpAny (model prog w) A.in1 (Builtin.«list.__init__» ⟨[.ref S, .ref it], []⟩)
      (fun fin s' => match fin with | .done f => R (.ok f) s' | .again c' => c'.quiet = true ∧ codeAny (model prog w) A c' R s') (fun e s' => R (.error e) s') s := by
  show wpAny _ _ (do let old ← Builtin.List.listItems (.ref S); Builtin.List.listUpdate (.ref S) (fun _ => #[]); letGo old.toList.reverse; Builtin.List.listExtendWith (.ref S) (.ref it) .none) _ _ s
  refine wpAny_bind ?_
  unfold Builtin.List.listItems
  refine wpAny_bind (wpAny_seqItems hS rfl (wpAny_pure ?_))
  show wpAny _ _ (updateSeq S (fun _ => #[]) >>= fun _ => letGo (#[] : Array Value).toList.reverse >>= fun _ => Builtin.List.listExtendWith (.ref S) (.ref it) .none) _ _ s
  refine wpAny_bind (wpAny_updateSeq hS rfl ?_)
  have hS₂ := Heap.get?_update_self (Obj.mapSeq (fun _ => (#[] : Array Value))) hS rfl
  have oth : ∀ b o, b ≠ S → s.heap.get? b = some o → (s.heap.update S (Obj.mapSeq (fun _ => (#[] : Array Value)))).get? b = some o :=
    fun b o hb e => (Heap.get?_update_other _ _ (Ne.symm hb)).trans e
  refine wpAny_bind (wpAny_letGo ?_)
  obtain ⟨ol, hol, hl2⟩ := id hl
  refine ext_rev (s := { s with heap := s.heap.update S (Obj.mapSeq (fun _ => (#[] : Array Value))) }) hh (hit.at fun o e => oth _ _ (Ne.symm hSi) e) ⟨ol, oth _ _ (Ne.symm hSl) hol, hl2⟩ hne hn S .none _ hS₂ hSi hSl fun h' tk acc' c' hk hS' hacc => ?_
  exact hR h' tk acc' c' (fun b o hb1 hb2 e => hk b o hb1 hb2 (oth b o hb1 e)) hS' hacc
theorem call_list_rev {it l : Addr} {items : Array Value} {Q : Value → Shared → Prop} (hh : A.handled = none) (hit : s.heap.IsRevIter it l ((items.size : Int) - 1)) (hl : s.heap.IsList l items) (hne : l ≠ it) (hn : items.size ≤ sizeLine)
    (hQ : ∀ h' tk acc' c', (∀ b o, b ≠ it → s.heap.get? b = some o → h'.get? b = some o) →
      h'.get? s.heap.objs.size = some { cls := .type "list", dict := none, data := .seq acc' c', slots := #[] } → ItemsOf (fun i v => items[items.size - 1 - i]? = some v) acc' items.size → Q (.ref s.heap.objs.size) { s with heap := h', toks := tk }) :
    wpAny (model prog w) A (call (.type "list") [.ref it]) Q E s := by
  obtain ⟨oi, hoi, _⟩ := id hit
  obtain ⟨ol, hol, _⟩ := id hl
  refine callType_codes (Q₁ := fun obj s₁ => obj = .ref s.heap.objs.size ∧ s₁ = { s with heap := s.heap.push { cls := .type "list", data := .seq #[] } }) F.called_list (F.typeCall_list_1 _) F.entry_list_init
    (code_list_new _ ⟨rfl, rfl⟩) fun obj s₁ h₁ => ?_
  obtain ⟨rfl, rfl⟩ := h₁
  have hS : (s.heap.push { cls := .type "list", data := .seq #[] }).get? s.heap.objs.size = some { cls := .type "list", data := .seq #[] } := Heap.get?_push_size _ rfl
  refine ⟨⟨_, hS, rfl⟩, F.args_list_init_2 _ _, init_rev (A := A.in1) (s := { s with heap := s.heap.push { cls := .type "list", data := .seq #[] } }) hh (hit.at fun o e => Heap.get?_push_of_some _ e) (hl.push _) hne hn _ hS (Nat.ne_of_gt (Heap.lt_size hoi)) (Nat.ne_of_gt (Heap.lt_size hol)) fun h' tk acc' c' hk hS' hacc => ?_⟩
  exact ⟨rfl, hQ h' tk acc' c' (fun b o hb e => hk b o (Nat.ne_of_lt (Heap.lt_size e)) hb (Heap.get?_push_of_some _ e)) hS' hacc⟩
end
end RT
namespace DL
open PySem L2 XO PyProof.Rows RT
open Evl (Ex)
def tListRev (K : Fg) (te : TE) : TE := fun σ H Q => te σ H fun v H1 => ∃ (a : Addr) (xs : List V), v = .ref a ∧ SqL K H1 a xs ∧ ∀ q, H1 q = none → Q (.ref q) (upd H1 q (.lst xs.reverse))
section
variable {X : Cx}
theorem pe_listRev {e : Expr} {te : TE} {p p2 pos pos2 : Pos} (hc : X.calm = true) (hg : Gl X "list") (hm : X.mg "list" = none) (hb : bootBuiltins "list" = some (.type "list")) (hg2 : Gl X "reversed") (hm2 : X.mg "reversed" = none) (he : PE X e te)
    (hs : starEach [e] X.env = (false, eval e X.env) :: starEach [] X.env := by rfl)
    (hs2 : starEach [.Call (.Name "reversed" p2) [e] [] pos2] X.env = (false, eval (.Call (.Name "reversed" p2) [e] [] pos2) X.env) :: starEach [] X.env := by rfl) :
    PE X (.Call (.Name "list" p) [.Call (.Name "reversed" p2) [e] [] pos2] [] pos) (tListRev X.K te) := by
  refine ⟨fun pins s σ H Q I h => ?_⟩
  refine Call_ (ld_blt I hg hm hb (PyProof.Rows.callWith_type1 (args_cons (Call_ (ld_blt I hg2 hm2 PyProof.Rows.boot_reversed (PyProof.Rows.callWith_type1 (args_cons (thn (he.run pins s σ H _ I h) fun u s1 ⟨v, H1, I1, r1, q1⟩ => args_nil ?_) hs) hs rfl))) hs2) hs2 rfl))
  obtain ⟨a, xs, ev, hq, q⟩ := q1
  subst ev
  obtain rfl : u = Value.ref a := r1
  obtain ⟨its, rv, p', hz⟩ := I1.list hq
  refine call_reversed_list p'.isList (args_nil ?_)
  have k0 : ∀ b o, s1.heap.get? b = some o → (s1.heap.push (revObj a ((its.toArray.size : Int) - 1))).get? b = some o := fun b o e => Heap.get?_push_of_some _ e
  have I2 : Inv X pins σ H1 { s1 with heap := s1.heap.push (revObj a ((its.toArray.size : Int) - 1)) } := I1.kept (t' := s1.toks) k0
  obtain ⟨f0, f1, f2, f3, f4, f5⟩ := I1.fpOk (H' := H1) (b := s1.heap.objs.size) (Nat.le_refl _) (I1.hok.fresh (Nat.le_refl _))
  have hl := p'.isList
  obtain ⟨ol, hol, _⟩ := id hl
  have hne : a ≠ s1.heap.objs.size := Nat.ne_of_lt (Heap.lt_size hol)
  have hn : its.toArray.size ≤ sizeLine := by rw [List.size_toArray, ← rv.length]; exact hz
  refine call_list_rev (s := { s1 with heap := s1.heap.push (revObj a ((its.toArray.size : Int) - 1)) }) (I1.ok.hd hc) ⟨_, Heap.get?_push_size _ rfl, rfl, rfl⟩ (hl.push _) hne hn fun h' tk acc c' hk hS hi => ?_
  have szE : (s1.heap.push (revObj a ((its.toArray.size : Int) - 1))).objs.size = s1.heap.objs.size + 1 := size_push' ..
  have hS0 : (s1.heap.push (revObj a ((its.toArray.size : Int) - 1))).get? (s1.heap.push (revObj a ((its.toArray.size : Int) - 1))).objs.size = none := by
    cases e : (s1.heap.push (revObj a ((its.toArray.size : Int) - 1))).get? (s1.heap.push (revObj a ((its.toArray.size : Int) - 1))).objs.size with
    | none => rfl
    | some o => exact absurd (Heap.lt_size e) (Nat.lt_irrefl _)
  have hn1 : H1 (s1.heap.push (revObj a ((its.toArray.size : Int) - 1))).objs.size = none := I1.hok.fresh (by rw [szE]; exact Nat.le_succ _)
  obtain ⟨G, g1, g2⟩ := restrict h' fun b => decide (b ≠ (s1.heap.push (revObj a ((its.toArray.size : Int) - 1))).objs.size)
  have ke : ∀ b o, h'.get? b = some o → b ≠ (s1.heap.push (revObj a ((its.toArray.size : Int) - 1))).objs.size → G.get? b = some o := fun b o e hb => by rw [g1 b (decide_eq_true hb)]; exact e
  have I3 : Inv X pins σ H1 { s1 with heap := G, toks := tk } := I2.turned (t' := tk) (fun b o hb e => ke b o (hk b o hb e) (Nat.ne_of_lt (Heap.lt_size e))) f0 f1 f3 f4 f5
  have hG : G.get? (s1.heap.push (revObj a ((its.toArray.size : Int) - 1))).objs.size = none := g2 _ (decide_eq_false fun z => z rfl)
  have kk : ∀ b u, G.get? b = some u → h'.get? b = some u := fun b u e => by
    by_cases hb : b = (s1.heap.push (revObj a ((its.toArray.size : Int) - 1))).objs.size
    · rw [hb, hG] at e; cases e
    · rw [← g1 b (decide_eq_true hb)]; exact e
  exact ⟨.ref _, upd H1 (s1.heap.push (revObj a ((its.toArray.size : Int) - 1))).objs.size (.lst xs.reverse), I3.laidN (t' := tk) kk hG hn1 (show ObjOk X.prog X.w _ _ _ (.lst xs.reverse) from ⟨by rw [List.length_reverse]; exact hz, acc.toList, c', vals_rev rv hi, by rw [Array.toArray_toList]; exact hS⟩), rfl, q _ hn1⟩
end
section
variable {K : Fg} {W : Wx} {ι : Type} {X : ι → Cx} {pos : Pos} {a b c e f : Expr} {es : List Expr} {wa wb wc we wf w : WE} {wr : WA} {mg : Str → Option Value}
def wListRev (we : WE) : WE := fun ρ m Q Qx => we ρ m (fun x m1 => match x with
  | .lst ds => Q (.lst ds.reverse) m1
  | _ => False) Qx
theorem RpA.rev {G : Hp} : ∀ {vs : List V} {ds : List D}, RpA K G vs ds → RpA K G vs.reverse ds.reverse
  | _, _, .nil => .nil
  | _, _, .cons r t => by
    rw [List.reverse_cons, List.reverse_cons]
    exact (RpA.rev t).app (.cons r .nil)
theorem pd_listRev {p p2 pos2 : Pos} (hc : ∀ i, (X i).calm = true) (hK : ∀ i, (X i).K = K) (hX : ∀ i, (X i).mg = mg) (hm : mg "list" = none) (hb : bootBuiltins "list" = some (.type "list")) (hm2 : mg "reversed" = none) (he : PD K W X e we)
    (hg : ∀ i, Gl (X i) "list" := by intro _; rfl) (hg2 : ∀ i, Gl (X i) "reversed" := by intro _; rfl)
    (hs : ∀ i, starEach [e] (X i).env = (false, eval e (X i).env) :: starEach [] (X i).env := by intro _; rfl)
    (hs2 : ∀ i, starEach [.Call (.Name "reversed" p2) [e] [] pos2] (X i).env = (false, eval (.Call (.Name "reversed" p2) [e] [] pos2) (X i).env) :: starEach [] (X i).env := by intro _; rfl) :
    PD K W X (.Call (.Name "list" p) [.Call (.Name "reversed" p2) [e] [] pos2] [] pos) (wListRev we) := by
  obtain ⟨te, h1, h2⟩ := he
  refine ⟨tListRev K te, fun i => by have q := pe_listRev (X := X i) (p := p) (p2 := p2) (pos := pos) (pos2 := pos2) (hc i) (hg i) (by rw [hX i]; exact hm) hb (hg2 i) (by rw [hX i]; exact hm2) (h1 i) (hs i) (hs2 i); rw [hK i] at q; exact q, ?_⟩
  intro G m F H σ ρ Q Qd Qx hW hE h hXx hQ
  refine h2 G m F H σ ρ _ _ Qx hW hE h hXx ?_
  intro x m1 v G1 H1 q e1 W1 r1
  cases r1 <;> first | exact (show False from q).elim | skip
  rename_i a0 xs0 ds0 hx rr
  refine ⟨a0, xs0, rfl, SqL.of (W1.ex _ _ hx), fun p hp => ?_⟩
  obtain ⟨e2, W2⟩ := W1.new hp (.lst xs0.reverse)
  exact hQ _ m1 _ _ _ q (e1.trans e2) W2 (.lst upd_same ((RpA.rev rr).mono e2))
end
end DL
/-! XB3: objects made of borrowed boxes; C(k = e, ..); methods with keywords; isinstance of objects -/
namespace DL
open PySem L2 XO
open Evl (Ex)
section
variable {P : Program} {w : World} {K : Fg} {mg : Str → Option Value} {base : Heap} {k : Nat} {N : List Str} {W : Wx} {ι : Type} {X : ι → Cx} {f : Addr} {fd : FuncData} {ps : List Str} {pos : Pos}
mutual
def noLst : D → Bool
  | .non => true
  | .bl _ => true
  | .int _ => true
  | .str _ => true
  | .tup ds => noLstA ds
  | .obj _ _ ds => noLstA ds
  | _ => false
def noLstA : List D → Bool
  | [] => true
  | d :: ds => noLst d && noLstA ds
end
theorem sqT_noBoxes {G2 : Hp} {m : Mem} (hb : ∀ a, (m a).isSome = true → ∃ xs, G2 a = some (.lst xs)) {a : Addr} {xs : List V} (h : SqT K G2 a xs) : SqT K (noBoxes m G2) a xs := by
  rcases h with h | h
  · refine Or.inl ?_
    have c : ¬ (m a).isSome = true := by
      intro c
      obtain ⟨ys, e⟩ := hb a c
      rcases h with h | ⟨o, h⟩
      · rw [e] at h; cases h
      · rw [e] at h; cases h
    rcases h with h | ⟨o, h⟩
    · exact Or.inl (by unfold noBoxes; rw [if_neg c]; exact h)
    · exact Or.inr ⟨o, by unfold noBoxes; rw [if_neg c]; exact h⟩
  · exact Or.inr h
mutual
theorem rp_noLst {G2 : Hp} {m : Mem} (hb : ∀ a, (m a).isSome = true → ∃ xs, G2 a = some (.lst xs)) : ∀ (d : D) {v : V}, noLst d = true → Rp K G2 v d → Rp K (noBoxes m G2) v d
  | .non, _, _, r => by cases r; exact .non
  | .bl b, _, _, r => by cases r; exact .bl b
  | .int i, _, _, r => by cases r; exact .int i
  | .str x, _, _, r => by cases r; exact .str x
  | .tup ds, _, h, r => by
    cases r with
    | tup hx rr => exact .tup (sqT_noBoxes hb hx) (rps_noLst hb ds (by simpa only [noLst] using h) rr)
  | .obj n ks ds, _, h, r => by
    cases r with
    | obj hn hg hk hv rr =>
      rename_i a C dx fs vs
      refine .obj (a := a) (dx := dx) hn ?_ hk hv (rps_noLst hb ds (by simpa only [noLst] using h) rr)
      unfold noBoxes
      rw [if_neg ?_]
      · exact hg
      · intro c
        obtain ⟨ys, e⟩ := hb a c
        rw [e] at hg; cases hg
  | .ty n, _, h, _ => by simp [noLst] at h
  | .lst _, _, h, _ => by simp [noLst] at h
  | .dct _ _, _, h, _ => by simp [noLst] at h
  | .scr _, _, h, _ => by simp [noLst] at h
  | .box _, _, h, _ => by simp [noLst] at h
theorem rps_noLst {G2 : Hp} {m : Mem} (hb : ∀ a, (m a).isSome = true → ∃ xs, G2 a = some (.lst xs)) : ∀ (ds : List D) {vs : List V}, noLstA ds = true → RpA K G2 vs ds → RpA K (noBoxes m G2) vs ds
  | [], _, _, r => by cases r; exact .nil
  | d :: ds, _, h, r => by
    simp only [noLstA, Bool.and_eq_true] at h
    cases r with
    | cons r t => exact .cons (rp_noLst hb d h.1 r) (rps_noLst hb ds h.2 t)
end
/-- the boxes of m, and the boxes in them, lent -/
def lent2 (fn : DFn) : DFn := fun ds m Q Qx => fn ds m Q Qx ∨ fn (resA m (resA m ds)) (fun _ => none) (fun d _ => noLst d = true ∧ Q d m) (fun _ _ => False)
theorem Adopt.again {G G2 : Hp} {m : Mem} (A : Adopt K G m G2) : Adopt K G2 m G2 := ⟨Ex.refl G2, fun a ds h => by
  obtain ⟨xs, hx, rr⟩ := A.box a ds h
  exact ⟨xs, hx, rr.mono A.ex⟩⟩
theorem lent2_go {fn : DFn} {G F H : Hp} {m : Mem} {vs : List V} {ds : List D} {Q : D → Mem → Prop} {Qx : XQ} {R : VK} {E : XK} (W : Wd K G m F H) (r : RpA K G vs ds) (h : lent2 fn ds m Q Qx)
    (hQ : ∀ d m' v G' H', Q d m' → Ex G G' → Wd K G' m' F H' → Rp K G' v d → R v H') (hX : FitXc K mg G F Qx E) :
    ∃ G1 m1 ds1 Q1 Qx1, Wd K G1 m1 F H ∧ RpA K G1 vs ds1 ∧ fn ds1 m1 Q1 Qx1 ∧ (∀ d m' v G' H', Q1 d m' → Ex G1 G' → Wd K G' m' F H' → Rp K G' v d → R v H') ∧ FitXc K mg G1 F Qx1 E := by
  rcases h with h | h
  · exact ⟨G, m, ds, Q, Qx, W, r, h, hQ, hX⟩
  · obtain ⟨A, W1⟩ := W.lend
    refine ⟨_, _, _, _, _, W1, rps_res A.again (rps_res A r), h, ?_, fun x m' cls d G' H' z => z.elim⟩
    rintro d m' v G' H' ⟨hf, q⟩ e W' rv
    obtain ⟨e2, W2⟩ := W.back e W'
    refine hQ d m v _ H' q e2 W2 (rp_noLst (fun a c => ?_) d hf rv)
    obtain ⟨ds, hm⟩ := Option.isSome_iff_exists.mp c
    obtain ⟨_, _, xs, hx, _⟩ := W.own a ds hm
    exact ⟨xs, e _ _ (by unfold withBoxes; rw [if_pos c]; exact hx)⟩
theorem spInit_lent2 {C : Addr} {fn : DFn} {vs : List V} {H : Hp} {Q : VK} {E : XK} (h : spInit K mg C (lent2 fn) vs H Q E) : spInit K mg C fn vs H Q E := by
  obtain ⟨x, dx, H0, vs0, G, m, F, ds, Qd, Qx, rfl, rfl, hx, hdx, hne, W, r, h, hQ, hX⟩ := h
  obtain ⟨G1, m1, ds1, Q1, Qx1, W1, r1, h1, q1, x1⟩ := lent2_go (R := fun v H' => v = .ref x → Q .non H') W r h (fun d m' v G' H' q e W' rv ev => by subst ev; exact hQ d m' G' H' q e W' rv) hX
  exact ⟨x, dx, H0, vs0, G1, m1, F, ds1, Q1, Qx1, rfl, rfl, hx, hdx, hne, W1, r1, h1, fun d m' G' H' q e W' rv => q1 d m' (.ref x) G' H' q e W' rv rfl, x1⟩
theorem FnG.lentC {C : Addr} {CX : CXT} {fn : DFn} (Fn : FnG P w K mg base CX k f fd ps (spInit K mg C fn)) : FnG P w K mg base CX k f fd ps (spInit K mg C (lent2 fn)) :=
  ⟨fun vs H Q E h => Fn.size vs H Q E (spInit_lent2 h), fun A oe s H ar us vs Q E hg hr e0 hb r h => Fn.runs A oe s H ar us vs Q E hg hr e0 hb r (spInit_lent2 h)⟩
theorem HasC.lent2 {j : Nat} {n : Str} {nn : Nat} {kn : List Str} {gD : List D → List D → List D} {fn : DFn} (h : HasC P w K mg base j n ps nn kn gD fn) : HasC P w K mg base j n ps nn kn gD (DL.lent2 fn) := by
  obtain ⟨C, f, fd, g, gV, c, M, Fn, r⟩ := h
  exact ⟨C, f, fd, g, gV, c, M, Fn.lentC, r⟩
section
variable {kws : List Keyword} {wk : WA} {e : Expr} {es : List Expr} {we : WE} {wr : WA}
/-- C(k = e, ..) -/
theorem pd_make0 {n : Str} {j : Nat} {kn : List Str} {gD : List D → List D → List D} {fn : DFn} {p : Pos} (hX : FamG P w K mg base k N X) (tk : ∀ i, Takes (X i) (toWX mg W)) (hh : HasC P w K mg base j n ps 0 kn gD fn) (hkw : PDK K W X kws wk) (hj : j + 1 ≤ k := by decide)
    (hg : ∀ i, Gl (X i) n := by intro _; rfl) (hall : ∀ i, (backToKw pos (keywordEach kws (X i).env)).all (·.1.isSome) = true := by intro _; rfl) (hks : ∀ i, (backToKw pos (keywordEach kws (X i).env)).filterMap (·.1) = kn := by intro _; rfl) (hdb : (n == ("__debug__" : Str)) = false := by decide)
    (hpl : ∀ i, ((backTo pos (starEach [] (X i).env)).any (·.1) || (backToKw pos (keywordEach kws (X i).env)).any (·.1.isNone)) = false := by intro _; rfl) :
    PD K W X (.Call (.Name n p) [] kws pos) (wMake 0 kn.length gD fn wNil wk) := by
  obtain ⟨C, f, fd, g, gV, c, M, Fn, hb, hgv⟩ := hh
  obtain ⟨tk', k1, k2⟩ := hkw
  refine ⟨fun σ H Q => tMakeK C 0 kn.length (spInit K mg C fn) gV (fun cls d H' => toWX mg W cls d σ H') tNil tk' σ H Q, fun i => ⟨fun pins s σ H Q I h => ?_⟩, ?_⟩
  · have Fi : FnG (X i).prog (X i).w (X i).K (X i).mg (X i).base (L2.CX (X i).prog (X i).w) j f fd ps (spInit K mg C fn) := by rw [hX.prog i, hX.w i, hX.K i, hX.mg i, hX.base i]; exact Fn
    have Mi : Mk (X i).K C f := by rw [hX.K i]; exact M
    refine wpAny_Call_Name_kw (ld_glob I (hg i) (by rw [hX.mg i]; exact c.mg) ?_ hdb)
    refine PySem.W.callWith_KW0 (h₀ := (X i).base) I.ok.mod.kin Mi.kp (hall i) ?_ (hpl i)
    refine thn ((k1 i).run pos pins s σ H _ I h) fun ws s2 ⟨zs, H2, I2, rz, l1, l2, q2⟩ => ⟨I2.kIn, ?_⟩
    rw [hks i]
    exact run_makeG (us := []) (vs := []) Mi Fi (hX.guards i) ((hX.room i).mono hj) (by rw [hX.K i]; exact hb) (passAt (tk i) σ) I2 .nil rz rfl l2 q2
  · intro G m F H σ ρ Q Qd Qx hW hE h hXx hQ
    have h : wk ρ m (fun es m2 => ([] : List D).length = 0 ∧ es.length = kn.length ∧ fn (gD [] es) m2 Qd Qx) Qx := h
    refine k2 G m F H σ ρ _ _ Qx hW hE h hXx ?_
    intro es m2 zs G2 H2 q2 e2 W2 r2
    obtain ⟨l1, l2, q2⟩ := q2
    refine ⟨rfl, by rw [r2.len]; exact l2, fun x dx hx hdx hne => ?_⟩
    obtain ⟨rest, eg, rr⟩ := hgv G2 x [] zs [] es .nil r2 rfl (by rw [r2.len]; exact l2)
    refine ⟨x, dx, H2, rest, G2, m2, F, gD [] es, Qd, Qx, eg, rfl, hx, hdx, hne, W2, rr, q2, ?_, ?_⟩
    · intro d m' G' H' z e W' rd
      exact ⟨rfl, hQ d m' _ G' H' z (e2.trans e) W' rd⟩
    · intro y m' cls d G' H' z hmx e W' ry
      exact ⟨y.cls, hmx, hXx y m' d σ G' H' z (e2.trans e) W' ry⟩
/-- the method m of the class n, called with nn values and the keywords kn -/
def HasMK (P : Program) (w : World) (K : Fg) (mg : Str → Option Value) (base : Heap) (j : Nat) (n m : Str) (ps : List Str) (nn : Nat) (kn : List Str) (gD : List D → List D → List D) (fn : DFn) : Prop :=
  ∃ C f fd g gV, Kl K mg n C ∧ Meth K C m f ∧ FnG P w K mg base (L2.CX P w) j f fd ps (spD K mg fn) ∧ KBn K fd ps (nn + 1) kn g gV ∧
    ∀ (G : Hp) (x : V) (o : D) (vs zs : List V) (ds es : List D), Rp K G x o → RpA K G vs ds → RpA K G zs es → vs.length = nn → zs.length = kn.length → RpA K G (gV (x :: vs) zs) (o :: gD ds es)
def wMethK (n m : Str) (nn kk : Nat) (gD : List D → List D → List D) (fn : DFn) (wo : WE) (wr wk : WA) : WE := fun ρ mm Q Qx => wo ρ mm (fun x m1 => match x with
  | .obj n' ks ds => n' = n ∧ (ks.zip ds).lookup m = none ∧ ks.length = ds.length ∧ wr ρ m1 (fun as m2 => wk ρ m2 (fun es m3 => as.length = nn ∧ es.length = kk ∧ fn (.obj n' ks ds :: gD as es) m3 Q Qx) Qx) Qx
  | _ => False) Qx
theorem FnG.goesK {X : Cx} {sp : Sp} {E : XK} {nn : Nat} {kn : List Str} {g : List Value → List Value → List Value} {gV : List V → List V → List V} {pins : List (Addr × Obj)} {σ : L2.St} {H : Hp} {s : Shared} {Q : VK} {us ws : List Value} {vs zs : List V} {k : Nat} (Fn : FnG X.prog X.w X.K X.mg X.base (L2.CX X.prog X.w) k f fd ps sp)
    (hg : X.A.guards = some []) (hr : Room k X.A) (hb : KBn X.K fd ps nn kn g gV) (hx : PassesAt (L2.CX X.prog X.w) X σ E) (I : Inv X pins σ H s) (r : Vals vs us) (rz : Vals zs ws) (l1 : vs.length = nn) (l2 : zs.length = kn.length) (h : sp (gV vs zs) H Q E) :
    wpAny (model X.prog X.w) X.A (call (.ref f) us (kn.zip ws)) (EP X pins σ Q) X.xe s := by
  have goal := Fn.runs X.A X.stack s H ⟨us, kn.zip ws⟩ (g us ws) (gV vs zs) Q E hg hr I.env0 (hb.to s us ws I.kIn (r.length.symm.trans l1) (rz.length.symm.trans l2)) (hb.rel r rz) h
  refine wpAny_call (codeAny_mono goal ?_)
  rintro (e | fl) s' hq
  · exact hx pins H s e s' I hq
  · cases fl <;> first | exact I.after hq | exact (hq : False).elim
theorem pd_methK {n m : Str} {nn j : Nat} {kn : List Str} {gD : List D → List D → List D} {fn : DFn} {o : Expr} {wo : WE} {apos : Pos} {pl : ι → Sem Bool} (hX : FamG P w K mg base k N X) (tk : ∀ i, Takes (X i) (toWX mg W)) (hh : HasMK P w K mg base j n m ps nn kn gD fn) (ho : PD K W X o wo) (ha : PDA K W X (e :: es) wr) (hkw : PDK K W X kws wk) (hj : j ≤ k := by decide)
    (hall : ∀ i, (backToKw pos (keywordEach kws (X i).env)).all (·.1.isSome) = true := by intro _; rfl) (hks : ∀ i, (backToKw pos (keywordEach kws (X i).env)).filterMap (·.1) = kn := by intro _; rfl)
    (hst : ∀ i, starEach (e :: es) (X i).env = (false, eval e (X i).env) :: starEach es (X i).env := by intro _; rfl) (hpl : ∀ i, ((backTo pos (starEach (e :: es) (X i).env)).any (·.1) || (backToKw pos (keywordEach kws (X i).env)).any (·.1.isNone)) = false := by intro _; rfl)
    (ht : ∀ i, eval (.Call (.Attribute o m apos) (e :: es) kws pos) (X i).env = (do
      let ov ← eval o (X i).env
      standAt apos.atName
      let (f, first) ← holding [ov] (getMethod ov m (pl i))
      callWith pos f first (backTo pos (starEach (e :: es) (X i).env)) (backToKw pos (keywordEach kws (X i).env))) := by intro _; rfl) :
    PD K W X (.Call (.Attribute o m apos) (e :: es) kws pos) (wMethK n m nn kn.length gD fn wo wr wk) := by
  obtain ⟨C, f, fd, g, gV, c, hm, Fn, hb, hgv⟩ := hh
  obtain ⟨to, o1, o2⟩ := ho
  obtain ⟨ta, a1, a2⟩ := ha
  obtain ⟨tk', k1, k2⟩ := hkw
  refine ⟨fun σ H Q => to σ H fun x H1 => ∃ a dx fs, x = .ref a ∧ H1 a = some (.ins C dx fs) ∧ fs.lookup m = none ∧ ta σ H1 fun vs H2 => tk' σ H2 fun zs H3 => vs.length = nn ∧ zs.length = kn.length ∧ spD K mg fn (gV (.ref a :: vs) zs) H3 Q (fun cls d H' => toWX mg W cls d σ H'), fun i => ⟨fun pins s σ H Q I h => ?_⟩, ?_⟩
  · have Fi : FnG (X i).prog (X i).w (X i).K (X i).mg (X i).base (L2.CX (X i).prog (X i).w) j f fd ps (spD K mg fn) := by rw [hX.prog i, hX.w i, hX.K i, hX.mg i, hX.base i]; exact Fn
    have ci : Cls (X i).K C := by rw [hX.K i]; exact c.cls
    have mi : Meth (X i).K C m f := by rw [hX.K i]; exact hm
    refine PySem.W.methodCall_KW (pl := pl i) (thn ((o1 i).run pins s σ H _ I h) fun u s1 ⟨x, H1, I1, rx, a, dx, fs, ex, ea, l, q⟩ => ?_) (ht i)
    subst ex
    obtain rfl : u = Value.ref a := rx
    refine getmeth_ok I1 ea ci mi l ?_
    refine PySem.W.callWith_KW (first := [.ref a]) (h₀ := (X i).base) I.ok.mod.kin mi.kp (hall i) (thn ((a1 i).run pos pins s1 σ H1 _ I1 q) fun us s2 ⟨vs, H2, I2, r, q2⟩ => ?_) (hpl i) (hst i)
    refine thn ((k1 i).run pos pins s2 σ H2 _ I2 q2) fun ws s3 ⟨zs, H3, I3, rz, l1, l2, q3⟩ => ⟨I3.kIn, ?_⟩
    rw [hks i]
    exact Fi.goesK (us := .ref a :: us) (vs := .ref a :: vs) (hX.guards i) ((hX.room i).mono hj) (by rw [hX.K i]; exact hb) (passAt (tk i) σ) I3 (.cons rfl r) rz (by rw [List.length_cons, l1]) l2 q3
  · intro G m0 F H σ ρ Q Qd Qx hW hE h hXx hQ
    refine o2 G m0 F H σ ρ _ _ Qx hW hE h hXx ?_
    intro x m1 v G1 H1 q e1 W1 r1
    have r1' := r1
    cases r1 <;> first | exact (show False from q).elim | skip
    rename_i a0 C0 dx fs n' ks vs ds hn hg hk hv rr
    obtain ⟨rfl, hl, hlen, q⟩ := q
    rw [c.own] at hn
    cases hn
    subst hk hv
    refine ⟨a0, dx, fs, rfl, W1.ex _ _ hg, rp_nolookup (G := G) hlen hl, ?_⟩
    refine a2 G1 m1 F H1 σ ρ _ _ Qx W1 (hE.mono e1) q (hXx.mono e1) ?_
    intro as m2 vs2 G2 H2 q2 e2 W2 r2
    refine k2 G2 m2 F H2 σ ρ _ _ Qx W2 (hE.mono (e1.trans e2)) q2 (hXx.mono (e1.trans e2)) ?_
    intro es m3 zs G3 H3 q3 e3 W3 r3
    obtain ⟨l1, l2, q3⟩ := q3
    refine ⟨by rw [r2.len]; exact l1, by rw [r3.len]; exact l2, G3, m3, F, _, Qd, Qx, W3, hgv G3 _ _ vs2 zs as es (r1'.mono (e2.trans e3)) (r2.mono e3) r3 (by rw [r2.len]; exact l1) (by rw [r3.len]; exact l2), q3, ?_, ?_⟩
    · intro d m' v G' H' z e
      exact hQ d m' v G' H' z ((e1.trans (e2.trans e3)).trans e)
    · intro x m' cls d G' H' z hmx e W' r
      exact ⟨x.cls, hmx, hXx x m' d σ G' H' z ((e1.trans (e2.trans e3)).trans e) W' r⟩
/-- o.m(k = e, ..) -/
theorem pd_methK0 {n m : Str} {j : Nat} {kn : List Str} {gD : List D → List D → List D} {fn : DFn} {o : Expr} {wo : WE} {apos : Pos} {pl : ι → Sem Bool} (hX : FamG P w K mg base k N X) (tk : ∀ i, Takes (X i) (toWX mg W)) (hh : HasMK P w K mg base j n m ps 0 kn gD fn) (ho : PD K W X o wo) (hkw : PDK K W X kws wk) (hj : j ≤ k := by decide)
    (hall : ∀ i, (backToKw pos (keywordEach kws (X i).env)).all (·.1.isSome) = true := by intro _; rfl) (hks : ∀ i, (backToKw pos (keywordEach kws (X i).env)).filterMap (·.1) = kn := by intro _; rfl)
    (hpl : ∀ i, ((backTo pos (starEach [] (X i).env)).any (·.1) || (backToKw pos (keywordEach kws (X i).env)).any (·.1.isNone)) = false := by intro _; rfl)
    (ht : ∀ i, eval (.Call (.Attribute o m apos) [] kws pos) (X i).env = (do
      let ov ← eval o (X i).env
      standAt apos.atName
      let (f, first) ← holding [ov] (getMethod ov m (pl i))
      callWith pos f first (backTo pos (starEach [] (X i).env)) (backToKw pos (keywordEach kws (X i).env))) := by intro _; rfl) :
    PD K W X (.Call (.Attribute o m apos) [] kws pos) (wMethK n m 0 kn.length gD fn wo wNil wk) := by
  obtain ⟨C, f, fd, g, gV, c, hm, Fn, hb, hgv⟩ := hh
  obtain ⟨to, o1, o2⟩ := ho
  obtain ⟨tk', k1, k2⟩ := hkw
  refine ⟨fun σ H Q => to σ H fun x H1 => ∃ a dx fs, x = .ref a ∧ H1 a = some (.ins C dx fs) ∧ fs.lookup m = none ∧ tk' σ H1 fun zs H3 => zs.length = kn.length ∧ spD K mg fn (gV [.ref a] zs) H3 Q (fun cls d H' => toWX mg W cls d σ H'), fun i => ⟨fun pins s σ H Q I h => ?_⟩, ?_⟩
  · have Fi : FnG (X i).prog (X i).w (X i).K (X i).mg (X i).base (L2.CX (X i).prog (X i).w) j f fd ps (spD K mg fn) := by rw [hX.prog i, hX.w i, hX.K i, hX.mg i, hX.base i]; exact Fn
    have ci : Cls (X i).K C := by rw [hX.K i]; exact c.cls
    have mi : Meth (X i).K C m f := by rw [hX.K i]; exact hm
    refine PySem.W.methodCall_KW (pl := pl i) (thn ((o1 i).run pins s σ H _ I h) fun u s1 ⟨x, H1, I1, rx, a, dx, fs, ex, ea, l, q⟩ => ?_) (ht i)
    subst ex
    obtain rfl : u = Value.ref a := rx
    refine getmeth_ok I1 ea ci mi l ?_
    refine PySem.W.callWith_KW0 (first := [.ref a]) (h₀ := (X i).base) I.ok.mod.kin mi.kp (hall i) ?_ (hpl i)
    refine thn ((k1 i).run pos pins s1 σ H1 _ I1 q) fun ws s3 ⟨zs, H3, I3, rz, l2, q3⟩ => ⟨I3.kIn, ?_⟩
    rw [hks i]
    exact Fi.goesK (us := [.ref a]) (vs := [.ref a]) (hX.guards i) ((hX.room i).mono hj) (by rw [hX.K i]; exact hb) (passAt (tk i) σ) I3 (.cons rfl .nil) rz rfl l2 q3
  · intro G m0 F H σ ρ Q Qd Qx hW hE h hXx hQ
    refine o2 G m0 F H σ ρ _ _ Qx hW hE h hXx ?_
    intro x m1 v G1 H1 q e1 W1 r1
    have r1' := r1
    cases r1 <;> first | exact (show False from q).elim | skip
    rename_i a0 C0 dx fs n' ks vs ds hn hg hk hv rr
    obtain ⟨rfl, hl, hlen, q⟩ := q
    rw [c.own] at hn
    cases hn
    subst hk hv
    refine ⟨a0, dx, fs, rfl, W1.ex _ _ hg, rp_nolookup (G := G) hlen hl, ?_⟩
    have q : wk ρ m1 (fun es m3 => ([] : List D).length = 0 ∧ es.length = kn.length ∧ fn (.obj n' (fs.map (·.1)) ds :: gD [] es) m3 Qd Qx) Qx := q
    refine k2 G1 m1 F H1 σ ρ _ _ Qx W1 (hE.mono e1) q (hXx.mono e1) ?_
    intro es m3 zs G3 H3 q3 e3 W3 r3
    obtain ⟨l1, l2, q3⟩ := q3
    refine ⟨by rw [r3.len]; exact l2, G3, m3, F, _, Qd, Qx, W3, hgv G3 _ _ [] zs [] es (r1'.mono e3) .nil r3 rfl (by rw [r3.len]; exact l2), q3, ?_, ?_⟩
    · intro d m' v G' H' z e
      exact hQ d m' v G' H' z ((e1.trans e3).trans e)
    · intro x m' cls d G' H' z hmx e W' r
      exact ⟨x.cls, hmx, hXx x m' d σ G' H' z ((e1.trans e3).trans e) W' r⟩
end
/-- f(e, .., k = v, ..): defaults of parameters by position, no keyword-only ones -/
theorem kbindsD {x qual : Str} {params : Arguments} {body : List Stmt} {scope : Scope} {dvs : List V} (F : FunD K x qual params body scope dvs [] f fd) (n : Nat) (ks : List Str) (g : {α : Type} → List α → List α → List α → List α) (hd : dvs ≠ [])
    (hrel : ∀ {vs ds zs : List V} {us its ws : List Value}, Vals vs us → Vals ds its → Vals zs ws → Vals (g vs ds zs) (g us its ws))
    (h : ∀ (T : Addr) (kV doc pm : Value) (an : Option Addr) (cdv ct : Value) (us its ws : List Value), us.length = n → its.length = dvs.length → ws.length = ks.length →
      ∃ k, bindArgs (PySem.W.fnOf x qual params body scope (.ref T) kV doc pm an cdv ct) ⟨us, ks.zip ws⟩ = seqItems? (.ref T) >>= k ∧ k (some its.toArray) = pure (ps.zip (g us its ws))) :
    ∃ its : List Value, KBn K fd ps n ks (fun us ws => g us its ws) (fun vs zs => g vs dvs zs) := by
  obtain ⟨oc, od, dV, kV, doc, pm, an, cdv, ct, osl, rfl, lk, hcd, hD, hK⟩ := F.ex
  rcases hD with ⟨e, _⟩ | ⟨_, T, o, its, m, rfl, lT, oT, rT⟩
  · exact absurd e hd
  · refine ⟨its, ⟨fun s us ws X l1 l2 => ?_, fun r1 r2 => hrel r1 rT r2⟩⟩
    obtain ⟨k, e1, e2⟩ := h T kV doc pm an cdv ct us its ws l1 rT.length.symm l2
    refine BindsTo.of_looks fun M => ?_
    rw [e1]
    exact looks_items X lT oT (by rw [e2]; exact PySem.W.Looks.of_pure rfl)
/-! isinstance(e, T), e an object or not -/
def dIsiO (n : Str) : WC := fun xs m Q => match xs with
  | [.obj n' _ _, .ty t] => n' = n ∧ (t = "str" ∨ t = "int" ∨ t = "bool" ∨ t = "list" ∨ t = "tuple" ∨ t = "dict") ∧ Q (.bl false) m
  | xs => dIsi xs m Q
structure KlT (K : Fg) (C : Addr) : Prop where
  no : ∀ t : String, t = "str" ∨ t = "int" ∨ t = "bool" ∨ t = "list" ∨ t = "tuple" ∨ t = "dict" → PySem.W.kitOne K (.ref C) (.type t) = some false
theorem b_isiO {n : Str} {C : Addr} (hK : ∀ i, (X i).K = K) (c : KlI K mg n C) (ct : KlT K C) : BiU K X (.builtin "isinstance") (dIsiO n) := by
  obtain ⟨r, h1, h2⟩ := b_isi (X := X) hK
  refine ⟨fun xs H Q => r xs H Q ∨ rIsi K xs H Q, fun i => ?_, ?_⟩
  · intro pins s σ H vs us Q I rv h
    rcases h with h | h
    · exact h1 i pins s σ H vs us Q I rv h
    · have q := call_isi (X := X i)
      rw [hK i] at q
      exact q pins s σ H vs us Q I rv h
  · intro G m F H xs ds Q Qd hW rr h hQ
    unfold dIsiO at h
    split at h
    · obtain ⟨rfl, ht, q⟩ := h
      cases rr with
      | cons r1 t =>
        cases t with
        | cons r2 t =>
          cases r2
          cases t
          cases r1 with
          | obj hn hg hk hv r3 =>
            rw [c.own] at hn
            cases hn
            exact Or.inr ⟨_, _, _, _, false, rfl, .ty _, .base (.ins (hW.ex _ _ hg) c.cls c.met.1 c.met.2.1 c.met.2.2.1 c.met.2.2.2), ct.no _ ht, hQ.here hW q (.bl false)⟩
    · exact Or.inl (h2 G m F H xs ds Q Qd hW rr h hQ)
end
end DL
/-! XB4: a loop over a list that may be changed elsewhere; a comprehension and a sum of lists that are changed later -/
namespace DL
open PySem L2 XO
open Evl (Ex)
section
variable {K : Fg} {W : Wx} {ι : Type} {X : ι → Cx} {pos : Pos} {a b c e : Expr} {wa wb : WE} {sts : List Stmt} {t : WS}
def wLoopB (a : Addr) (ds0 : List D) (g : WG) (body : WS) (E : De) : List D → En0 → Mem → Prop
  | [], ρ, m => m a = some ds0 ∧ E.nx ρ m
  | d :: ds, ρ, m => m a = some ds0 ∧ g d ρ fun ρ1 => body { E with nx := wLoopB a ds0 g body E ds, ct := wLoopB a ds0 g body E ds, bk := E.nx } ρ1 m
theorem wLoopB.at {a : Addr} {ds0 : List D} {g : WG} {body : WS} {E : De} : ∀ {ds : List D} {ρ : En0} {m : Mem}, wLoopB a ds0 g body E ds ρ m → m a = some ds0
  | [], _, _, h => h.1
  | _ :: _, _, _, h => h.1
def sForB (i : Nat) (g : WG) (body : WS) : WS := fun E ρ m => match ρ[i]? with
  | some (some (.box a)) => ∃ ds0, m a = some ds0 ∧ wLoopB a ds0 g body E ds0 ρ m
  | _ => False
theorem ps_forB (i : Nat) {tg : Expr} {js : List Nat} {g : WG} {N : List Str} {x : Str} {p' : Pos} (hp : ∀ i, PassesOwn (model (X i).prog (X i).w) (X i).A (X i).env (X i).xe) (hc : ∀ i, (X i).calm = true) (hK : ∀ i, (X i).K = K) (hX : ∀ j, (X j).N = N) (hg : PDG K X tg js g) (hb : PDB K W X sts t)
    (hN : N[i]? = some x := by rfl) (hv : ∀ j, Vis (X j).env.scope x := by intro _; first | exact Or.inl rfl | exact Or.inr (Or.inl rfl) | exact Or.inr (Or.inr rfl)) (hd : (x == ("__debug__" : Str)) = false := by decide) (hcd : (x == ("__classdict__" : Str)) = false := by decide)
    (hs : ∀ i y, foldedSetIterable (.Name x p') (X i).env y = pure y := by intro _ _; rfl) : PDS K W X (.For tg (.Name x p') sts [] pos) (sForB i g t) := by
  obtain ⟨tg', g1, g2⟩ := hg
  obtain ⟨tb, b1, b2⟩ := hb
  have pv : ∀ j, PE (X j) (.Name x p') (tVar i) := fun j => pe_var (by rw [hX j]; exact hN) (hv j) hd hcd
  refine ⟨_, fun j => L2.ps_for (hp j) (hc j) (by have q := pi_list (tg := tg) (pv j); rw [hK j] at q; exact q) (g1 j) (b1 j) (hs j), ?_⟩
  intro G m F H σ ρ S E hW hE h f
  unfold sForB at h
  split at h
  case h_2 => exact h.elim
  rename_i a ea
  obtain ⟨ds0, hm, h⟩ := h
  obtain ⟨v, h1, h2⟩ := hE.get ea
  cases h2
  have sq : ∀ {G : Hp} {m : Mem} {F H : Hp}, Wd K G m F H → m a = some ds0 → ∃ xs, SqL K H a xs ∧ RpA K G xs ds0 := by
    intro G m F H W hm
    obtain ⟨_, _, xs, hx, r⟩ := W.own a ds0 hm
    exact ⟨xs, SqL.of hx, r⟩
  refine ⟨_, h1, a, rfl, (sq hW hm).imp fun _ h => h.1, ?_⟩
  refine for_it (walk_box (K := K) (a := a) (n := ds0.length)) (fun i σ H => ∃ G' m' ρ', Ex G G' ∧ Wd K G' m' F H ∧ En K G' σ ρ' ∧ wLoopB a ds0 g t E (ds0.drop i) ρ' m') ⟨G, m, ρ, Ex.refl _, hW, hE, h⟩ ?_ ?_ ?_
  · rintro i σ H _ ⟨G', m', ρ', e', W', _, l⟩
    obtain ⟨xs, h, r⟩ := sq W' l.at
    exact ⟨xs, h, r.len⟩
  · rintro i y σ H H' hi ⟨G', m', ρ', e', W', E', l⟩ ⟨rfl, hy⟩
    obtain ⟨ys, hys, ry⟩ := sq W' l.at
    rw [drop_cons hi] at l
    obtain ⟨v, hv, r⟩ := ry.at (List.getElem?_eq_getElem hi)
    have hx := hy ys hys
    rw [hv] at hx
    cases hx
    refine g2 G' m' F H' _ _ σ ρ' _ _ W' E' r l.2 ?_
    intro ρ1 σ1 q E1 _
    refine b2 G' m' F H' σ1 ρ1 _ _ W' E1 q ⟨?_, (f.mono e').rt, ?_, ?_, (f.mono e').ex⟩
    · intro ρ2 m2 σ2 G3 H3 q3 e3 W3 E3
      exact ⟨G3, m2, ρ2, e'.trans e3, W3, E3, q3⟩
    · exact (f.mono e').nx
    · intro ρ2 m2 σ2 G3 H3 q3 e3 W3 E3
      exact ⟨G3, m2, ρ2, e'.trans e3, W3, E3, q3⟩
  · rintro σ H ⟨G', m', ρ', e', W', E', l⟩
    rw [List.drop_length] at l
    exact f.nx ρ' m' σ G' H l.2 e' W' E'
theorem pd_lcO {elt tg iter : Expr} {ifs : List Expr} {scope : Scope} {own : List (Str × Nat)} {wi : WA} {js : List Nat} {g : WG} {tt : WT} {te : WE} {N : List Str} (hX : ∀ j, (X j).N = N) (hc : ∀ i, (X i).calm = true) (hN : N.Nodup) (hi : PDI K W X tg iter wi)
    (ok : ∀ i, BlkOk N (X i).env.scope scope own) (hg : PDG K (Blk X scope) tg js g) (ht : PDTs K W (Blk X scope) ifs tt) (he : PD K W (Blk X scope) elt te) (hj : ∀ j ∈ js, j ∈ own.map (·.2) := by decide) (hs : ∀ i x, foldedSetIterable iter (X i).env x = pure x := by intro _ _; rfl) :
    PD K W X (.ListComp elt [⟨tg, iter, ifs, 0⟩] scope pos) (wLcO wi g tt te (own.map (·.2))) := by
  obtain ⟨ti, i1, i2⟩ := hi
  obtain ⟨tG, g1, g2⟩ := hg
  obtain ⟨tT, t1, t2⟩ := ht
  obtain ⟨tE, e1, e2⟩ := he
  exact ⟨_, fun i => pe_lc (hc i) (by rw [hX i]; exact hN) (i1 i) (by rw [hX i]; exact ok i) (fun s H C cl fp => g1 (i, s, H, C, cl, fp)) (fun s H C cl fp => t1 (i, s, H, C, cl, fp)) (fun s H C cl fp => e1 (i, s, H, C, cl, fp)) (hs i), lift_lcO i2 g2 t2 e2 hj⟩
def dAddO : WR := fun x y m Q => match x, y with
  | .lst a, .lst b => a.length + b.length ≤ sizeLine ∧ ∀ p, m p = none → Q (.box p) (m.up p (a ++ b))
  | _, _ => False
theorem lift_addO {K : Fg} : LiftR K rCat dAddO := by
  intro G m F H x y dx dy Q Qd hW rx ry h hQ
  cases rx <;> cases ry <;> first | exact (show False from h).elim | skip
  case lst.lst a xs ds h1 r1 b ys es h2 r2 =>
    refine ⟨a, b, xs, ys, rfl, rfl, hW.ex _ _ h1, hW.ex _ _ h2, by rw [r1.len, r2.len]; exact h.1, fun p hp => ?_⟩
    obtain ⟨hm, W'⟩ := hW.newOwn hp (r1.app r2)
    exact hQ _ _ _ G _ (h.2 p hm) (Ex.refl G) W' (.box p)
theorem pd_addO (ha : PD K W X a wa) (hb : PD K W X b wb) : PD K W X (.BinOp a .Add b pos) (wOp dAddO wa wb) := bin_of (fun _ => op_cat) lift_addO ha hb
end
end DL
/-! XSM: methods of texts at the level of data -/
namespace DL
open PySem L2
open Evl (Ex)
section
variable {K : Fg} {W : Wx} {ι : Type} {X : ι → Cx} {pos : Pos} {e : Expr} {wa : WE}
abbrev WM := Str → List D → Mem → (D → Mem → Prop) → Prop
def LiftM (K : Fg) (r : V → List V → Hp → VK → Prop) (w : WM) : Prop := ∀ G m F H z xs ds (Q : VK) (Qd : D → Mem → Prop), Wd K G m F H → RpA K G xs ds → w z ds m Qd → FitE K G F Q Qd → r (.str z) xs H Q
def MtU (K : Fg) {ι : Type} (X : ι → Cx) (id : String) (w : WM) : Prop := ∃ r, (∀ i, MtR (X i) id r) ∧ LiftM K r w
/-- o.name() -/
def wM0 (w : WM) (wo : WE) : WE := fun ρ m Q Qx => wo ρ m (fun x m1 => match x with
  | .str z => w z [] m1 Q
  | _ => False) Qx
/-- o.name(e) -/
def wM1 (w : WM) (wo we : WE) : WE := fun ρ m Q Qx => wo ρ m (fun x m1 => match x with
  | .str z => we ρ m1 (fun y m2 => w z [y] m2 Q) Qx
  | _ => False) Qx
theorem pd_m0 {id : String} {name : Str} {o : Expr} {wo : WE} {apos : Pos} {w : WM} (hm : MtU K X id w) (slot : Slot "str" name id) (ty : typeOf (.builtin id) = pure (.type "method_descriptor")) (ho : PD K W X o wo)
    (hb : ∀ i, attributeBase o name (X i).env (eval o (X i).env) = eval o (X i).env := by intro _; rfl) (hl : (apos.endLine == pos.line) = true := by rfl) : PD K W X (.Call (.Attribute o name apos) [] [] pos) (wM0 w wo) := by
  obtain ⟨r, m1, m2⟩ := hm
  obtain ⟨to, o1, o2⟩ := ho
  refine ⟨_, fun i => pe_m0 slot ty (m1 i) (o1 i) (hb i) hl, ?_⟩
  intro G m F H σ ρ Q Qd Qx hW hE h hX hQ
  refine o2 G m F H σ ρ _ _ Qx hW hE h hX ?_
  intro x m1 xv G1 H1 q1 f1 W1 r1
  cases r1 <;> first | exact (show False from q1).elim | skip
  rename_i a
  refine ⟨⟨a, rfl⟩, m2 G1 m1 F H1 a [] [] Q Qd W1 .nil q1 ?_⟩
  exact fun d m' v G' H' q e => hQ d m' v G' H' q (f1.trans e)
theorem pd_m1 {id : String} {name : Str} {o : Expr} {wo : WE} {apos : Pos} {w : WM} (hm : MtU K X id w) (slot : Slot "str" name id) (ty : typeOf (.builtin id) = pure (.type "method_descriptor")) (ho : PD K W X o wo) (he : PD K W X e wa)
    (hs : ∀ i, starEach [e] (X i).env = [(false, eval e (X i).env)] := by intro _; rfl) (hb : ∀ i, attributeBase o name (X i).env (eval o (X i).env) = eval o (X i).env := by intro _; rfl) (hl : (apos.endLine == pos.line) = true := by rfl) : PD K W X (.Call (.Attribute o name apos) [e] [] pos) (wM1 w wo wa) := by
  obtain ⟨r, m1, m2⟩ := hm
  obtain ⟨to, o1, o2⟩ := ho
  obtain ⟨te, e1, e2⟩ := he
  refine ⟨_, fun i => pe_m1 slot ty (m1 i) (o1 i) (e1 i) (hs i) (hb i) hl, ?_⟩
  intro G m F H σ ρ Q Qd Qx hW hE h hX hQ
  refine o2 G m F H σ ρ _ _ Qx hW hE h hX ?_
  intro x m1 xv G1 H1 q1 f1 W1 r1
  cases r1 <;> first | exact (show False from q1).elim | skip
  rename_i a
  refine ⟨⟨a, rfl⟩, e2 G1 m1 F H1 σ ρ _ _ Qx W1 (hE.mono f1) q1 (hX.mono f1) ?_⟩
  intro y m2' yv G2 H2 q2 f2 W2 r2
  refine m2 G2 m2' F H2 a [yv] [y] Q Qd W2 (.cons r2 .nil) q2 ?_
  exact fun d m' v G' H' q e => hQ d m' v G' H' q ((f1.trans f2).trans e)
/-- a method without arguments that says yes or no -/
def wIs (f : Str → Bool) : WM := fun z ds m Q => ds = [] ∧ Q (.bl (f z)) m
theorem lift_is0 {f : Str → Bool} : LiftM K (fun x xs H Q => ∃ a, x = .str a ∧ xs = [] ∧ True ∧ Q (.bl (f a)) H) (wIs f) := by
  intro G m F H z xs ds Q Qd hW r h hQ
  obtain ⟨rfl, q⟩ := h
  cases r
  exact ⟨z, rfl, rfl, trivial, hQ.here hW q (.bl _)⟩
theorem m_isascii : MtU K X "str.isascii" (wIs Txt.isascii) := ⟨_, fun _ => mt_isascii, lift_is0⟩
theorem m_isalpha : MtU K X "str.isalpha" (wIs Txt.isalpha) := ⟨_, fun _ => mt_isalpha, lift_is0⟩
theorem m_islower : MtU K X "str.islower" (wIs Txt.islower) := ⟨_, fun _ => mt_islower, lift_is0⟩
theorem m_isdecimal : MtU K X "str.isdecimal" (wIs Txt.isdecimal) := ⟨_, fun _ => mt_isdecimal, lift_is0⟩
end
/-! small letters -/
def lowC (c : Nat) : Bool := decide (97 ≤ c) && decide (c ≤ 122)
theorem ascii_c : ∀ c, c < 128 → Unicode.isAlpha c = (lowC c || (decide (65 ≤ c) && decide (c ≤ 90))) ∧ Unicode.isLower c = lowC c ∧ (Unicode.isUpper c || Unicode.isTitle c) = (decide (65 ≤ c) && decide (c ≤ 90)) := by decide +kernel
theorem low_big {c : Nat} (h : ¬ c < 128) : lowC c = false := by
  unfold lowC
  have : decide (c ≤ 122) = false := decide_eq_false (by omega)
  rw [this, Bool.and_false]
theorem lower_list {l : List Nat} (h : l.all (fun c => decide (c < 128)) = true) : ((decide (l.length > 0) && l.all Unicode.isAlpha) && (l.any Unicode.isLower && !l.any fun c => Unicode.isUpper c || Unicode.isTitle c)) = (decide (l.length > 0) && l.all lowC) := by
  have h1 : ∀ c ∈ l, Unicode.isAlpha c = (lowC c || (decide (65 ≤ c) && decide (c ≤ 90))) ∧ Unicode.isLower c = lowC c ∧ (Unicode.isUpper c || Unicode.isTitle c) = (decide (65 ≤ c) && decide (c ≤ 90)) := by
    intro c hc
    exact ascii_c c (by simpa using (List.all_eq_true.mp h) c hc)
  rw [Bool.eq_iff_iff]
  simp only [Bool.and_eq_true, decide_eq_true_eq, List.all_eq_true, List.any_eq_true, Bool.not_eq_true', List.any_eq_false]
  constructor
  · rintro ⟨⟨h0, h2⟩, _, h4⟩
    refine ⟨h0, fun c hc => ?_⟩
    have a := h2 c hc
    have u := h4 c hc
    rw [(h1 c hc).1] at a
    rw [(h1 c hc).2.2] at u
    rcases Bool.or_eq_true _ _ |>.mp a with a | a
    · exact a
    · exact absurd a u
  · rintro ⟨h0, h2⟩
    refine ⟨⟨h0, fun c hc => by rw [(h1 c hc).1, h2 c hc]; rfl⟩, ?_, fun c hc => ?_⟩
    · obtain ⟨c, l', rfl⟩ := List.exists_cons_of_length_pos h0
      exact ⟨c, List.mem_cons_self, by rw [(h1 c List.mem_cons_self).2.1, h2 c List.mem_cons_self]⟩
    · rw [(h1 c hc).2.2]
      have := h2 c hc
      unfold lowC at this
      simp only [Bool.and_eq_true, decide_eq_true_eq] at this ⊢
      omega
theorem lettered_eq (z : Str) : (if (Txt.isascii z) = true then (if Txt.isalpha z = true then Txt.islower z else false) else false) = (decide (z.cps.toList.length > 0) && z.cps.toList.all lowC) := by
  unfold Txt.isascii Txt.isalpha Txt.islower
  have e0 : z.length = z.cps.toList.length := by unfold Str.length; simp
  rw [e0]
  rw [← Array.all_toList, ← Array.all_toList, ← Array.any_toList, ← Array.any_toList]
  generalize z.cps.toList = l
  cases ha : l.all (fun c => decide (c < 128)) with
  | true =>
    rw [if_pos rfl, ← lower_list ha]
    cases (decide (l.length > 0) && l.all Unicode.isAlpha) <;> simp
  | false =>
    rw [if_neg Bool.false_ne_true]
    obtain ⟨c, hc, hn⟩ := List.all_eq_false.mp ha
    symm
    rw [Bool.and_eq_false_iff]
    right
    rw [List.all_eq_false]
    exact ⟨c, hc, by rw [low_big (by simpa using hn)]; exact Bool.false_ne_true⟩
end DL
/-! XQ: readings opened one after another -/
namespace DL
open PySem L2 XO
section
variable {ρ : En0} {m : Mem} {Q : D → Mem → Prop} {Qx : XQ} {E : De} {P : Prop}
theorem a_test {w : WE} {Qb : Bool → Mem → Prop} : wTest w ρ m Qb Qx = w ρ m (fun d m' => match d with
  | .bl b => Qb b m'
  | _ => False) Qx := rfl
theorem a_op {r : WR} {a b : WE} : wOp r a b ρ m Q Qx = a ρ m (fun x m1 => b ρ m1 (fun y m2 => r x y m2 Q) Qx) Qx := rfl
theorem a_var {i : Nat} : wVar i ρ m Q Qx = (match ρ[i]? with
  | some (some d) => Q d m
  | _ => False) := rfl
theorem a_c {d : D} : wC d ρ m Q Qx = Q d m := rfl
theorem a_call {fn : DFn} {a : WA} : wCall fn a ρ m Q Qx = a ρ m (fun ds m1 => fn ds m1 Q (fun _ _ => False)) Qx := rfl
theorem a_callX {fn : DFn} {a : WA} : wCallX fn a ρ m Q Qx = a ρ m (fun ds m1 => fn ds m1 Q Qx) Qx := rfl
theorem a_call0 {fn : DFn} : wCall0 fn ρ m Q Qx = fn [] m Q (fun _ _ => False) := rfl
theorem a_nil {Ql : List D → Mem → Prop} : wNil ρ m Ql Qx = Ql [] m := rfl
theorem a_cons {a : WE} {r : WA} {Ql : List D → Mem → Prop} : wCons a r ρ m Ql Qx = a ρ m (fun x m1 => r ρ m1 (fun xs m2 => Ql (x :: xs) m2) Qx) Qx := rfl
theorem a_bi {w : WC} {a : WA} : wBi w a ρ m Q Qx = a ρ m (fun ds m1 => w ds m1 Q) Qx := rfl
theorem a_tnot {a : WT} {Qb : Bool → Mem → Prop} : tvNot a ρ m Qb Qx = a ρ m (fun c m1 => Qb (!c) m1) Qx := rfl
theorem a_tor {a b : WT} {Qb : Bool → Mem → Prop} : tvOr a b ρ m Qb Qx = a ρ m (fun c m1 => if c = true then Qb true m1 else b ρ m1 Qb Qx) Qx := rfl
theorem a_tand {a b : WT} {Qb : Bool → Mem → Prop} : tvAnd a b ρ m Qb Qx = a ρ m (fun c m1 => if c = true then b ρ m1 Qb Qx else Qb false m1) Qx := rfl
theorem a_tru {w : WE} {Qb : Bool → Mem → Prop} : wTru w ρ m Qb Qx = w ρ m (fun d m1 => ∃ k, truD m1 d = some k ∧ Qb k m1) Qx := rfl
theorem a_yes {Qb : Bool → Mem → Prop} : tvYes ρ m Qb Qx = Qb true m := rfl
theorem a_if {t : WT} {a b : WE} : wIf t a b ρ m Q Qx = t ρ m (fun c m1 => if c = true then a ρ m1 Q Qx else b ρ m1 Q Qx) Qx := rfl
theorem a_and {a b : WE} : wAnd a b ρ m Q Qx = a ρ m (fun x m1 => match x with
  | .bl c => if c = true then b ρ m1 Q Qx else Q (.bl false) m1
  | _ => False) Qx := rfl
theorem a_or {a b : WE} : wOr a b ρ m Q Qx = a ρ m (fun x m1 => match x with
  | .bl c => if c = true then Q (.bl true) m1 else b ρ m1 Q Qx
  | _ => False) Qx := rfl
theorem a_not {a : WE} : wNot a ρ m Q Qx = a ρ m (fun x m1 => match x with
  | .bl c => Q (.bl (!c)) m1
  | _ => False) Qx := rfl
theorem a_chain {r r' : WR} {a b c : WE} : wChain r r' a b c ρ m Q Qx = a ρ m (fun x m1 => b ρ m1 (fun y m2 => r x y m2 fun z m3 => match z with
  | .bl k => if k = true then c ρ m3 (fun u m4 => r' y u m4 Q) Qx else Q (.bl false) m3
  | _ => False) Qx) Qx := rfl
theorem a_sl {a : WE} {l h : WO} : wSl a l h ρ m Q Qx = a ρ m (fun x m1 => l ρ m1 (fun lo m2 => h ρ m2 (fun hi m3 => dSl x lo hi m3 Q) Qx) Qx) Qx := rfl
theorem a_noPart {Qo : Option Int → Mem → Prop} : wNoPart ρ m Qo Qx = Qo none m := rfl
theorem a_part {a : WE} {Qo : Option Int → Mem → Prop} : wPart a ρ m Qo Qx = a ρ m (fun d m1 => match d with
  | .int i => Qo (some i) m1
  | _ => False) Qx := rfl
theorem a_lst {r : WA} : wLst r ρ m Q Qx = r ρ m (fun ds m1 => ds.length ≤ sizeLine ∧ Q (.lst ds) m1) Qx := rfl
theorem a_tup {r : WA} : wTup r ρ m Q Qx = r ρ m (fun ds m1 => ds.length ≤ sizeLine ∧ Q (.tup ds) m1) Qx := rfl
theorem a_dct0 : wDct0 ρ m Q Qx = Q (.dct [] []) m := rfl
theorem a_own {r : WA} : wOwn r ρ m Q Qx = r ρ m (fun ds m1 => ds.length ≤ sizeLine ∧ ∀ p, m1 p = none → Q (.box p) (m1.up p ds)) Qx := rfl
theorem a_isT {we : WE} {ns : List String} : wIsiT we ns ρ m Q Qx = we ρ m (fun x m1 => typedM m1 x = true ∧ ∃ b, isaL x ns = some b ∧ Q (.bl b) m1) Qx := rfl
theorem a_next : sNext E ρ m = E.nx ρ m := rfl
theorem a_seq {t u : WS} : sSeq t u E ρ m = t { E with nx := fun ρ' m' => u E ρ' m' } ρ m := rfl
theorem a_ret {w : WE} : sRet w E ρ m = w ρ m E.rt E.ex := rfl
theorem a_drop {w : WE} : sDrop w E ρ m = w ρ m (fun _ m' => E.nx ρ m') E.ex := rfl
theorem a_sif {c : WT} {t u : WS} : sIf c t u E ρ m = c ρ m (fun k m' => if k = true then t E ρ m' else u E ρ m') E.ex := rfl
theorem a_set {i : Nat} {w : WE} : sSet i w E ρ m = w ρ m (fun d m' => E.nx (ρ.set i (some d)) m') E.ex := rfl
theorem a_raise {n fld : Str} {w : WE} : sRaise n fld w E ρ m = w ρ m (fun v m1 => E.ex ⟨n, fld, v⟩ m1) E.ex := rfl
theorem a_for {wi : WA} {g : WG} {body : WS} : sFor wi g body E ρ m = wi ρ m (fun ds m1 => wLoop g body E ds ρ m1) E.ex := rfl
theorem a_iVar {i : Nat} {Ql : List D → Mem → Prop} : iVar i ρ m Ql Qx = (match ρ[i]? with
  | some (some (.lst ds)) => Ql ds m
  | some (some (.tup ds)) => Ql ds m
  | some (some (.scr ns)) => Ql (ns.map D.int) m
  | _ => False) := by
  unfold iVar
  split <;> first | rfl | (split <;> first | rfl | simp_all)
theorem a_fld {n f : Str} {we : WE} : wFld n f we ρ m Q Qx = we ρ m (fun x m1 => match x with
  | .obj n' ks ds => n' = n ∧ ∃ d, (ks.zip ds).lookup f = some d ∧ Q d m1
  | _ => False) Qx := rfl
theorem a_lc {wi : WA} {g : WG} {tt : WT} {te : WE} {vs : List Nat} : wLc wi g tt te vs ρ m Q Qx = wi ρ m (fun ds m1 => ds.length ≤ 1000000 ∧ wLcGo g tt te (wipeD ρ vs) Qx ds [] m1 Q) Qx := rfl
theorem a_iEnumB {wr : WA} {Ql : List D → Mem → Prop} : iEnumB wr ρ m Ql Qx = wr ρ m (fun ds m1 => match ds with
  | [.lst xs] => Ql (enumD xs) m1
  | [.tup xs] => Ql (enumD xs) m1
  | _ => False) Qx := rfl
theorem a_iEnumS {wr : WA} {Ql : List D → Mem → Prop} : iEnumS wr ρ m Ql Qx = wr ρ m (fun ds m1 => match ds with
  | [.str z] => Ql (enumD (signs z)) m1
  | _ => False) Qx := rfl
theorem a_iSg {w : WE} {Ql : List D → Mem → Prop} : iSg w ρ m Ql Qx = w ρ m (fun d m1 => match d with
  | .str z => Ql (signs z) m1
  | _ => False) Qx := rfl
theorem a_iLst {w : WE} {Ql : List D → Mem → Prop} : iLst w ρ m Ql Qx = w ρ m (fun d m1 => match d with
  | .lst ds => Ql ds m1
  | .scr ns => Ql (ns.map D.int) m1
  | _ => False) Qx := rfl
theorem a_iTp {w : WE} {Ql : List D → Mem → Prop} : iTp w ρ m Ql Qx = w ρ m (fun d m1 => match d with
  | .tup ds => Ql ds m1
  | _ => False) Qx := rfl
theorem a_join {o e : WE} : wJoin o e ρ m Q Qx = o ρ m (fun x m1 => match x with
  | .str a => e ρ m1 (fun y m2 => match y with
    | .lst ds => ∃ ys, strsD ds = some ys ∧ (ys.map (·.length)).sum + ys.length * a.length ≤ 16777216 ∧ Q (.str (Txt.join a ys)) m2
    | _ => False) Qx
  | _ => False) Qx := rfl
theorem a_lenSet {we : WE} : wLenSet we ρ m Q Qx = we ρ m (fun d m1 => match d with
  | .str z => z.cps.toList.length < 4000 ∧ Q (.int (unlike z : Nat)) m1
  | _ => False) Qx := rfl
theorem a_append {o : WE} {wr : WA} : sAppend o wr E ρ m = o ρ m (fun x m1 => match x with
  | .box p => (m1 p).isSome = true ∧ wr ρ m1 (fun ds m2 => ∃ d xs, ds = [d] ∧ m2 p = some xs ∧ xs.length < sizeLine ∧ E.nx ρ (m2.up p (xs ++ [d]))) E.ex
  | _ => False) E.ex := rfl
theorem a_put {o i v : WE} : sPut o i v E ρ m = v ρ m (fun d m1 => o ρ m1 (fun x m2 => i ρ m2 (fun k m3 => match x, k with
  | .box a, .int j => ∃ ds n, m3 a = some ds ∧ ixN ds.length j = some n ∧ E.nx ρ (m3.up a (ds.set n d))
  | _, _ => False) E.ex) E.ex) E.ex := rfl
theorem a_par {i j : Nat} {wr : WA} : sPar i j wr E ρ m = wr ρ m (fun ds m1 => ∃ d1 d2, ds = [d1, d2] ∧ E.nx ((ρ.set i (some d1)).set j (some d2)) m1) E.ex := rfl
theorem a_unp {n : Nat} {g : WGs} {w : WE} : sUnp n g w E ρ m = w ρ m (fun d m1 => ∃ ds, (d = .lst ds ∨ d = .tup ds ∨ ∃ a, d = .box a ∧ m1 a = some ds) ∧ ds.length = n ∧ g ds ρ (fun ρ' => E.nx ρ' m1)) E.ex := rfl
theorem a_meth {n mm : Str} {dds : List D} {fn : DFn} {wo : WE} {wr : WA} : wMeth n mm dds fn wo wr ρ m Q Qx = wo ρ m (fun x m1 => match x with
  | .obj n' ks ds => n' = n ∧ (ks.zip ds).lookup mm = none ∧ ks.length = ds.length ∧ wr ρ m1 (fun as m2 => fn (.obj n' ks ds :: (as ++ dds)) m2 Q Qx) Qx
  | _ => False) Qx := rfl
theorem a_make {nn kk : Nat} {gD : List D → List D → List D} {fn : DFn} {wr wk : WA} : wMake nn kk gD fn wr wk ρ m Q Qx = wr ρ m (fun ds m1 => wk ρ m1 (fun es m2 => ds.length = nn ∧ es.length = kk ∧ fn (gD ds es) m2 Q Qx) Qx) Qx := rfl
theorem a_rg1 {w : WA} {Ql : List D → Mem → Prop} : iRg1 w ρ m Ql Qx = w ρ m (fun ds m1 => match ds with
  | [.int n] => (-(2 ^ 62) ≤ n ∧ n < 2 ^ 62) ∧ Ql ((List.range n.toNat).map fun i => D.int (0 + (i : Nat))) m1
  | _ => False) Qx := rfl
theorem a_gTup {n : Nat} {g : WGs} {ds : List D} {Qe : En0 → Prop} : gvTup n g (.tup ds) ρ Qe = (ds.length = n ∧ g ds ρ Qe) := rfl
theorem a_gName {i : Nat} {d : D} {Qe : En0 → Prop} : gvName i d ρ Qe = Qe (ρ.set i (some d)) := rfl
theorem a_gNil {Qe : En0 → Prop} : gvNil [] ρ Qe = Qe ρ := by
  show (([] : List D) = [] ∧ Qe ρ) = Qe ρ
  simp
theorem a_gCons {g : WG} {r : WGs} {d : D} {ds : List D} {Qe : En0 → Prop} : gvCons g r (d :: ds) ρ Qe = g d ρ fun ρ1 => r ds ρ1 Qe := by
  apply propext
  constructor
  · rintro ⟨d', t, e, h⟩
    cases e
    exact h
  · intro h
    exact ⟨d, ds, rfl, h⟩
theorem a_loopN {g : WG} {body : WS} : wLoop g body E [] ρ m = E.nx ρ m := rfl
theorem a_loopC {g : WG} {body : WS} {d : D} {ds : List D} : wLoop g body E (d :: ds) ρ m = g d ρ fun ρ1 => body { E with nx := wLoop g body E ds, ct := wLoop g body E ds, bk := E.nx } ρ1 m := rfl
end
end DL
/-! XQQ: slots by their numbers -/
namespace DL
open PySem L2 XO
/-- the statements that follow, not opened yet -/
def Hold (u : WS) (E : De) : En0 → Mem → Prop := fun ρ m => u E ρ m
theorem a_hold {u : WS} {E : De} {ρ : En0} {m : Mem} : Hold u E ρ m = u E ρ m := rfl
theorem a_seqH {t u : WS} {E : De} {ρ : En0} {m : Mem} : sSeq t u E ρ m = t { E with nx := Hold u E } ρ m := rfl
section
variable {m : Mem} {Q : D → Mem → Prop} {Qx : XQ} {E : De} {w : WE} {ρ : En0} {d : D} {Qe : En0 → Prop} {Ql : List D → Mem → Prop}
theorem a_v0 : wVar 0 (some d :: ρ) m Q Qx = Q d m := rfl
theorem a_s0 {p : Option D} : sSet 0 w E (p :: ρ) m = w (p :: ρ) m (fun d m' => E.nx (some d :: ρ) m') E.ex := rfl
theorem a_g0 {p : Option D} : gvName 0 d (p :: ρ) Qe = Qe (some d :: ρ) := rfl
theorem a_ilst0 {ds : List D} : iVar 0 (some (.lst ds) :: ρ) m Ql Qx = Ql ds m := rfl
theorem a_itup0 {ds : List D} : iVar 0 (some (.tup ds) :: ρ) m Ql Qx = Ql ds m := rfl
theorem a_v1 {o0 : Option D} : wVar 1 (o0 :: some d :: ρ) m Q Qx = Q d m := rfl
theorem a_s1 {o0 : Option D} {p : Option D} : sSet 1 w E (o0 :: p :: ρ) m = w (o0 :: p :: ρ) m (fun d m' => E.nx (o0 :: some d :: ρ) m') E.ex := rfl
theorem a_g1 {o0 : Option D} {p : Option D} : gvName 1 d (o0 :: p :: ρ) Qe = Qe (o0 :: some d :: ρ) := rfl
theorem a_ilst1 {o0 : Option D} {ds : List D} : iVar 1 (o0 :: some (.lst ds) :: ρ) m Ql Qx = Ql ds m := rfl
theorem a_itup1 {o0 : Option D} {ds : List D} : iVar 1 (o0 :: some (.tup ds) :: ρ) m Ql Qx = Ql ds m := rfl
theorem a_v2 {o0 o1 : Option D} : wVar 2 (o0 :: o1 :: some d :: ρ) m Q Qx = Q d m := rfl
theorem a_s2 {o0 o1 : Option D} {p : Option D} : sSet 2 w E (o0 :: o1 :: p :: ρ) m = w (o0 :: o1 :: p :: ρ) m (fun d m' => E.nx (o0 :: o1 :: some d :: ρ) m') E.ex := rfl
theorem a_g2 {o0 o1 : Option D} {p : Option D} : gvName 2 d (o0 :: o1 :: p :: ρ) Qe = Qe (o0 :: o1 :: some d :: ρ) := rfl
theorem a_ilst2 {o0 o1 : Option D} {ds : List D} : iVar 2 (o0 :: o1 :: some (.lst ds) :: ρ) m Ql Qx = Ql ds m := rfl
theorem a_itup2 {o0 o1 : Option D} {ds : List D} : iVar 2 (o0 :: o1 :: some (.tup ds) :: ρ) m Ql Qx = Ql ds m := rfl
theorem a_v3 {o0 o1 o2 : Option D} : wVar 3 (o0 :: o1 :: o2 :: some d :: ρ) m Q Qx = Q d m := rfl
theorem a_s3 {o0 o1 o2 : Option D} {p : Option D} : sSet 3 w E (o0 :: o1 :: o2 :: p :: ρ) m = w (o0 :: o1 :: o2 :: p :: ρ) m (fun d m' => E.nx (o0 :: o1 :: o2 :: some d :: ρ) m') E.ex := rfl
theorem a_g3 {o0 o1 o2 : Option D} {p : Option D} : gvName 3 d (o0 :: o1 :: o2 :: p :: ρ) Qe = Qe (o0 :: o1 :: o2 :: some d :: ρ) := rfl
theorem a_ilst3 {o0 o1 o2 : Option D} {ds : List D} : iVar 3 (o0 :: o1 :: o2 :: some (.lst ds) :: ρ) m Ql Qx = Ql ds m := rfl
theorem a_itup3 {o0 o1 o2 : Option D} {ds : List D} : iVar 3 (o0 :: o1 :: o2 :: some (.tup ds) :: ρ) m Ql Qx = Ql ds m := rfl
theorem a_v4 {o0 o1 o2 o3 : Option D} : wVar 4 (o0 :: o1 :: o2 :: o3 :: some d :: ρ) m Q Qx = Q d m := rfl
theorem a_s4 {o0 o1 o2 o3 : Option D} {p : Option D} : sSet 4 w E (o0 :: o1 :: o2 :: o3 :: p :: ρ) m = w (o0 :: o1 :: o2 :: o3 :: p :: ρ) m (fun d m' => E.nx (o0 :: o1 :: o2 :: o3 :: some d :: ρ) m') E.ex := rfl
theorem a_g4 {o0 o1 o2 o3 : Option D} {p : Option D} : gvName 4 d (o0 :: o1 :: o2 :: o3 :: p :: ρ) Qe = Qe (o0 :: o1 :: o2 :: o3 :: some d :: ρ) := rfl
theorem a_ilst4 {o0 o1 o2 o3 : Option D} {ds : List D} : iVar 4 (o0 :: o1 :: o2 :: o3 :: some (.lst ds) :: ρ) m Ql Qx = Ql ds m := rfl
theorem a_itup4 {o0 o1 o2 o3 : Option D} {ds : List D} : iVar 4 (o0 :: o1 :: o2 :: o3 :: some (.tup ds) :: ρ) m Ql Qx = Ql ds m := rfl
theorem a_v5 {o0 o1 o2 o3 o4 : Option D} : wVar 5 (o0 :: o1 :: o2 :: o3 :: o4 :: some d :: ρ) m Q Qx = Q d m := rfl
theorem a_s5 {o0 o1 o2 o3 o4 : Option D} {p : Option D} : sSet 5 w E (o0 :: o1 :: o2 :: o3 :: o4 :: p :: ρ) m = w (o0 :: o1 :: o2 :: o3 :: o4 :: p :: ρ) m (fun d m' => E.nx (o0 :: o1 :: o2 :: o3 :: o4 :: some d :: ρ) m') E.ex := rfl
theorem a_g5 {o0 o1 o2 o3 o4 : Option D} {p : Option D} : gvName 5 d (o0 :: o1 :: o2 :: o3 :: o4 :: p :: ρ) Qe = Qe (o0 :: o1 :: o2 :: o3 :: o4 :: some d :: ρ) := rfl
theorem a_ilst5 {o0 o1 o2 o3 o4 : Option D} {ds : List D} : iVar 5 (o0 :: o1 :: o2 :: o3 :: o4 :: some (.lst ds) :: ρ) m Ql Qx = Ql ds m := rfl
theorem a_itup5 {o0 o1 o2 o3 o4 : Option D} {ds : List D} : iVar 5 (o0 :: o1 :: o2 :: o3 :: o4 :: some (.tup ds) :: ρ) m Ql Qx = Ql ds m := rfl
theorem a_v6 {o0 o1 o2 o3 o4 o5 : Option D} : wVar 6 (o0 :: o1 :: o2 :: o3 :: o4 :: o5 :: some d :: ρ) m Q Qx = Q d m := rfl
theorem a_s6 {o0 o1 o2 o3 o4 o5 : Option D} {p : Option D} : sSet 6 w E (o0 :: o1 :: o2 :: o3 :: o4 :: o5 :: p :: ρ) m = w (o0 :: o1 :: o2 :: o3 :: o4 :: o5 :: p :: ρ) m (fun d m' => E.nx (o0 :: o1 :: o2 :: o3 :: o4 :: o5 :: some d :: ρ) m') E.ex := rfl
theorem a_g6 {o0 o1 o2 o3 o4 o5 : Option D} {p : Option D} : gvName 6 d (o0 :: o1 :: o2 :: o3 :: o4 :: o5 :: p :: ρ) Qe = Qe (o0 :: o1 :: o2 :: o3 :: o4 :: o5 :: some d :: ρ) := rfl
theorem a_ilst6 {o0 o1 o2 o3 o4 o5 : Option D} {ds : List D} : iVar 6 (o0 :: o1 :: o2 :: o3 :: o4 :: o5 :: some (.lst ds) :: ρ) m Ql Qx = Ql ds m := rfl
theorem a_itup6 {o0 o1 o2 o3 o4 o5 : Option D} {ds : List D} : iVar 6 (o0 :: o1 :: o2 :: o3 :: o4 :: o5 :: some (.tup ds) :: ρ) m Ql Qx = Ql ds m := rfl
theorem a_v7 {o0 o1 o2 o3 o4 o5 o6 : Option D} : wVar 7 (o0 :: o1 :: o2 :: o3 :: o4 :: o5 :: o6 :: some d :: ρ) m Q Qx = Q d m := rfl
theorem a_s7 {o0 o1 o2 o3 o4 o5 o6 : Option D} {p : Option D} : sSet 7 w E (o0 :: o1 :: o2 :: o3 :: o4 :: o5 :: o6 :: p :: ρ) m = w (o0 :: o1 :: o2 :: o3 :: o4 :: o5 :: o6 :: p :: ρ) m (fun d m' => E.nx (o0 :: o1 :: o2 :: o3 :: o4 :: o5 :: o6 :: some d :: ρ) m') E.ex := rfl
theorem a_g7 {o0 o1 o2 o3 o4 o5 o6 : Option D} {p : Option D} : gvName 7 d (o0 :: o1 :: o2 :: o3 :: o4 :: o5 :: o6 :: p :: ρ) Qe = Qe (o0 :: o1 :: o2 :: o3 :: o4 :: o5 :: o6 :: some d :: ρ) := rfl
theorem a_ilst7 {o0 o1 o2 o3 o4 o5 o6 : Option D} {ds : List D} : iVar 7 (o0 :: o1 :: o2 :: o3 :: o4 :: o5 :: o6 :: some (.lst ds) :: ρ) m Ql Qx = Ql ds m := rfl
theorem a_itup7 {o0 o1 o2 o3 o4 o5 o6 : Option D} {ds : List D} : iVar 7 (o0 :: o1 :: o2 :: o3 :: o4 :: o5 :: o6 :: some (.tup ds) :: ρ) m Ql Qx = Ql ds m := rfl
theorem a_v8 {o0 o1 o2 o3 o4 o5 o6 o7 : Option D} : wVar 8 (o0 :: o1 :: o2 :: o3 :: o4 :: o5 :: o6 :: o7 :: some d :: ρ) m Q Qx = Q d m := rfl
theorem a_s8 {o0 o1 o2 o3 o4 o5 o6 o7 : Option D} {p : Option D} : sSet 8 w E (o0 :: o1 :: o2 :: o3 :: o4 :: o5 :: o6 :: o7 :: p :: ρ) m = w (o0 :: o1 :: o2 :: o3 :: o4 :: o5 :: o6 :: o7 :: p :: ρ) m (fun d m' => E.nx (o0 :: o1 :: o2 :: o3 :: o4 :: o5 :: o6 :: o7 :: some d :: ρ) m') E.ex := rfl
theorem a_g8 {o0 o1 o2 o3 o4 o5 o6 o7 : Option D} {p : Option D} : gvName 8 d (o0 :: o1 :: o2 :: o3 :: o4 :: o5 :: o6 :: o7 :: p :: ρ) Qe = Qe (o0 :: o1 :: o2 :: o3 :: o4 :: o5 :: o6 :: o7 :: some d :: ρ) := rfl
theorem a_ilst8 {o0 o1 o2 o3 o4 o5 o6 o7 : Option D} {ds : List D} : iVar 8 (o0 :: o1 :: o2 :: o3 :: o4 :: o5 :: o6 :: o7 :: some (.lst ds) :: ρ) m Ql Qx = Ql ds m := rfl
theorem a_itup8 {o0 o1 o2 o3 o4 o5 o6 o7 : Option D} {ds : List D} : iVar 8 (o0 :: o1 :: o2 :: o3 :: o4 :: o5 :: o6 :: o7 :: some (.tup ds) :: ρ) m Ql Qx = Ql ds m := rfl
theorem a_v9 {o0 o1 o2 o3 o4 o5 o6 o7 o8 : Option D} : wVar 9 (o0 :: o1 :: o2 :: o3 :: o4 :: o5 :: o6 :: o7 :: o8 :: some d :: ρ) m Q Qx = Q d m := rfl
theorem a_s9 {o0 o1 o2 o3 o4 o5 o6 o7 o8 : Option D} {p : Option D} : sSet 9 w E (o0 :: o1 :: o2 :: o3 :: o4 :: o5 :: o6 :: o7 :: o8 :: p :: ρ) m = w (o0 :: o1 :: o2 :: o3 :: o4 :: o5 :: o6 :: o7 :: o8 :: p :: ρ) m (fun d m' => E.nx (o0 :: o1 :: o2 :: o3 :: o4 :: o5 :: o6 :: o7 :: o8 :: some d :: ρ) m') E.ex := rfl
theorem a_g9 {o0 o1 o2 o3 o4 o5 o6 o7 o8 : Option D} {p : Option D} : gvName 9 d (o0 :: o1 :: o2 :: o3 :: o4 :: o5 :: o6 :: o7 :: o8 :: p :: ρ) Qe = Qe (o0 :: o1 :: o2 :: o3 :: o4 :: o5 :: o6 :: o7 :: o8 :: some d :: ρ) := rfl
theorem a_ilst9 {o0 o1 o2 o3 o4 o5 o6 o7 o8 : Option D} {ds : List D} : iVar 9 (o0 :: o1 :: o2 :: o3 :: o4 :: o5 :: o6 :: o7 :: o8 :: some (.lst ds) :: ρ) m Ql Qx = Ql ds m := rfl
theorem a_itup9 {o0 o1 o2 o3 o4 o5 o6 o7 o8 : Option D} {ds : List D} : iVar 9 (o0 :: o1 :: o2 :: o3 :: o4 :: o5 :: o6 :: o7 :: o8 :: some (.tup ds) :: ρ) m Ql Qx = Ql ds m := rfl
theorem a_v10 {o0 o1 o2 o3 o4 o5 o6 o7 o8 o9 : Option D} : wVar 10 (o0 :: o1 :: o2 :: o3 :: o4 :: o5 :: o6 :: o7 :: o8 :: o9 :: some d :: ρ) m Q Qx = Q d m := rfl
theorem a_s10 {o0 o1 o2 o3 o4 o5 o6 o7 o8 o9 : Option D} {p : Option D} : sSet 10 w E (o0 :: o1 :: o2 :: o3 :: o4 :: o5 :: o6 :: o7 :: o8 :: o9 :: p :: ρ) m = w (o0 :: o1 :: o2 :: o3 :: o4 :: o5 :: o6 :: o7 :: o8 :: o9 :: p :: ρ) m (fun d m' => E.nx (o0 :: o1 :: o2 :: o3 :: o4 :: o5 :: o6 :: o7 :: o8 :: o9 :: some d :: ρ) m') E.ex := rfl
theorem a_g10 {o0 o1 o2 o3 o4 o5 o6 o7 o8 o9 : Option D} {p : Option D} : gvName 10 d (o0 :: o1 :: o2 :: o3 :: o4 :: o5 :: o6 :: o7 :: o8 :: o9 :: p :: ρ) Qe = Qe (o0 :: o1 :: o2 :: o3 :: o4 :: o5 :: o6 :: o7 :: o8 :: o9 :: some d :: ρ) := rfl
theorem a_ilst10 {o0 o1 o2 o3 o4 o5 o6 o7 o8 o9 : Option D} {ds : List D} : iVar 10 (o0 :: o1 :: o2 :: o3 :: o4 :: o5 :: o6 :: o7 :: o8 :: o9 :: some (.lst ds) :: ρ) m Ql Qx = Ql ds m := rfl
theorem a_itup10 {o0 o1 o2 o3 o4 o5 o6 o7 o8 o9 : Option D} {ds : List D} : iVar 10 (o0 :: o1 :: o2 :: o3 :: o4 :: o5 :: o6 :: o7 :: o8 :: o9 :: some (.tup ds) :: ρ) m Ql Qx = Ql ds m := rfl
theorem a_v11 {o0 o1 o2 o3 o4 o5 o6 o7 o8 o9 o10 : Option D} : wVar 11 (o0 :: o1 :: o2 :: o3 :: o4 :: o5 :: o6 :: o7 :: o8 :: o9 :: o10 :: some d :: ρ) m Q Qx = Q d m := rfl
theorem a_s11 {o0 o1 o2 o3 o4 o5 o6 o7 o8 o9 o10 : Option D} {p : Option D} : sSet 11 w E (o0 :: o1 :: o2 :: o3 :: o4 :: o5 :: o6 :: o7 :: o8 :: o9 :: o10 :: p :: ρ) m = w (o0 :: o1 :: o2 :: o3 :: o4 :: o5 :: o6 :: o7 :: o8 :: o9 :: o10 :: p :: ρ) m (fun d m' => E.nx (o0 :: o1 :: o2 :: o3 :: o4 :: o5 :: o6 :: o7 :: o8 :: o9 :: o10 :: some d :: ρ) m') E.ex := rfl
theorem a_g11 {o0 o1 o2 o3 o4 o5 o6 o7 o8 o9 o10 : Option D} {p : Option D} : gvName 11 d (o0 :: o1 :: o2 :: o3 :: o4 :: o5 :: o6 :: o7 :: o8 :: o9 :: o10 :: p :: ρ) Qe = Qe (o0 :: o1 :: o2 :: o3 :: o4 :: o5 :: o6 :: o7 :: o8 :: o9 :: o10 :: some d :: ρ) := rfl
theorem a_ilst11 {o0 o1 o2 o3 o4 o5 o6 o7 o8 o9 o10 : Option D} {ds : List D} : iVar 11 (o0 :: o1 :: o2 :: o3 :: o4 :: o5 :: o6 :: o7 :: o8 :: o9 :: o10 :: some (.lst ds) :: ρ) m Ql Qx = Ql ds m := rfl
theorem a_itup11 {o0 o1 o2 o3 o4 o5 o6 o7 o8 o9 o10 : Option D} {ds : List D} : iVar 11 (o0 :: o1 :: o2 :: o3 :: o4 :: o5 :: o6 :: o7 :: o8 :: o9 :: o10 :: some (.tup ds) :: ρ) m Ql Qx = Ql ds m := rfl
theorem a_v12 {o0 o1 o2 o3 o4 o5 o6 o7 o8 o9 o10 o11 : Option D} : wVar 12 (o0 :: o1 :: o2 :: o3 :: o4 :: o5 :: o6 :: o7 :: o8 :: o9 :: o10 :: o11 :: some d :: ρ) m Q Qx = Q d m := rfl
theorem a_s12 {o0 o1 o2 o3 o4 o5 o6 o7 o8 o9 o10 o11 : Option D} {p : Option D} : sSet 12 w E (o0 :: o1 :: o2 :: o3 :: o4 :: o5 :: o6 :: o7 :: o8 :: o9 :: o10 :: o11 :: p :: ρ) m = w (o0 :: o1 :: o2 :: o3 :: o4 :: o5 :: o6 :: o7 :: o8 :: o9 :: o10 :: o11 :: p :: ρ) m (fun d m' => E.nx (o0 :: o1 :: o2 :: o3 :: o4 :: o5 :: o6 :: o7 :: o8 :: o9 :: o10 :: o11 :: some d :: ρ) m') E.ex := rfl
theorem a_g12 {o0 o1 o2 o3 o4 o5 o6 o7 o8 o9 o10 o11 : Option D} {p : Option D} : gvName 12 d (o0 :: o1 :: o2 :: o3 :: o4 :: o5 :: o6 :: o7 :: o8 :: o9 :: o10 :: o11 :: p :: ρ) Qe = Qe (o0 :: o1 :: o2 :: o3 :: o4 :: o5 :: o6 :: o7 :: o8 :: o9 :: o10 :: o11 :: some d :: ρ) := rfl
theorem a_ilst12 {o0 o1 o2 o3 o4 o5 o6 o7 o8 o9 o10 o11 : Option D} {ds : List D} : iVar 12 (o0 :: o1 :: o2 :: o3 :: o4 :: o5 :: o6 :: o7 :: o8 :: o9 :: o10 :: o11 :: some (.lst ds) :: ρ) m Ql Qx = Ql ds m := rfl
theorem a_itup12 {o0 o1 o2 o3 o4 o5 o6 o7 o8 o9 o10 o11 : Option D} {ds : List D} : iVar 12 (o0 :: o1 :: o2 :: o3 :: o4 :: o5 :: o6 :: o7 :: o8 :: o9 :: o10 :: o11 :: some (.tup ds) :: ρ) m Ql Qx = Ql ds m := rfl
theorem a_v13 {o0 o1 o2 o3 o4 o5 o6 o7 o8 o9 o10 o11 o12 : Option D} : wVar 13 (o0 :: o1 :: o2 :: o3 :: o4 :: o5 :: o6 :: o7 :: o8 :: o9 :: o10 :: o11 :: o12 :: some d :: ρ) m Q Qx = Q d m := rfl
theorem a_s13 {o0 o1 o2 o3 o4 o5 o6 o7 o8 o9 o10 o11 o12 : Option D} {p : Option D} : sSet 13 w E (o0 :: o1 :: o2 :: o3 :: o4 :: o5 :: o6 :: o7 :: o8 :: o9 :: o10 :: o11 :: o12 :: p :: ρ) m = w (o0 :: o1 :: o2 :: o3 :: o4 :: o5 :: o6 :: o7 :: o8 :: o9 :: o10 :: o11 :: o12 :: p :: ρ) m (fun d m' => E.nx (o0 :: o1 :: o2 :: o3 :: o4 :: o5 :: o6 :: o7 :: o8 :: o9 :: o10 :: o11 :: o12 :: some d :: ρ) m') E.ex := rfl
theorem a_g13 {o0 o1 o2 o3 o4 o5 o6 o7 o8 o9 o10 o11 o12 : Option D} {p : Option D} : gvName 13 d (o0 :: o1 :: o2 :: o3 :: o4 :: o5 :: o6 :: o7 :: o8 :: o9 :: o10 :: o11 :: o12 :: p :: ρ) Qe = Qe (o0 :: o1 :: o2 :: o3 :: o4 :: o5 :: o6 :: o7 :: o8 :: o9 :: o10 :: o11 :: o12 :: some d :: ρ) := rfl
theorem a_ilst13 {o0 o1 o2 o3 o4 o5 o6 o7 o8 o9 o10 o11 o12 : Option D} {ds : List D} : iVar 13 (o0 :: o1 :: o2 :: o3 :: o4 :: o5 :: o6 :: o7 :: o8 :: o9 :: o10 :: o11 :: o12 :: some (.lst ds) :: ρ) m Ql Qx = Ql ds m := rfl
theorem a_itup13 {o0 o1 o2 o3 o4 o5 o6 o7 o8 o9 o10 o11 o12 : Option D} {ds : List D} : iVar 13 (o0 :: o1 :: o2 :: o3 :: o4 :: o5 :: o6 :: o7 :: o8 :: o9 :: o10 :: o11 :: o12 :: some (.tup ds) :: ρ) m Ql Qx = Ql ds m := rfl
end
end DL
/-! XQ3: more openings -/
namespace DL
open PySem L2 XO
section
variable {ρ : En0} {m : Mem} {d : D} {w : WE} {Q : D → Mem → Prop} {Ql : List D → Mem → Prop} {Qe : En0 → Prop} {Qx : XQ} {E : De}
theorem a_v14 {o0 o1 o2 o3 o4 o5 o6 o7 o8 o9 o10 o11 o12 o13 : Option D} : wVar 14 (o0 :: o1 :: o2 :: o3 :: o4 :: o5 :: o6 :: o7 :: o8 :: o9 :: o10 :: o11 :: o12 :: o13 :: some d :: ρ) m Q Qx = Q d m := rfl
theorem a_s14 {o0 o1 o2 o3 o4 o5 o6 o7 o8 o9 o10 o11 o12 o13 : Option D} {p : Option D} : sSet 14 w E (o0 :: o1 :: o2 :: o3 :: o4 :: o5 :: o6 :: o7 :: o8 :: o9 :: o10 :: o11 :: o12 :: o13 :: p :: ρ) m = w (o0 :: o1 :: o2 :: o3 :: o4 :: o5 :: o6 :: o7 :: o8 :: o9 :: o10 :: o11 :: o12 :: o13 :: p :: ρ) m (fun d m' => E.nx (o0 :: o1 :: o2 :: o3 :: o4 :: o5 :: o6 :: o7 :: o8 :: o9 :: o10 :: o11 :: o12 :: o13 :: some d :: ρ) m') E.ex := rfl
theorem a_g14 {o0 o1 o2 o3 o4 o5 o6 o7 o8 o9 o10 o11 o12 o13 : Option D} {p : Option D} : gvName 14 d (o0 :: o1 :: o2 :: o3 :: o4 :: o5 :: o6 :: o7 :: o8 :: o9 :: o10 :: o11 :: o12 :: o13 :: p :: ρ) Qe = Qe (o0 :: o1 :: o2 :: o3 :: o4 :: o5 :: o6 :: o7 :: o8 :: o9 :: o10 :: o11 :: o12 :: o13 :: some d :: ρ) := rfl
theorem a_v15 {o0 o1 o2 o3 o4 o5 o6 o7 o8 o9 o10 o11 o12 o13 o14 : Option D} : wVar 15 (o0 :: o1 :: o2 :: o3 :: o4 :: o5 :: o6 :: o7 :: o8 :: o9 :: o10 :: o11 :: o12 :: o13 :: o14 :: some d :: ρ) m Q Qx = Q d m := rfl
theorem a_s15 {o0 o1 o2 o3 o4 o5 o6 o7 o8 o9 o10 o11 o12 o13 o14 : Option D} {p : Option D} : sSet 15 w E (o0 :: o1 :: o2 :: o3 :: o4 :: o5 :: o6 :: o7 :: o8 :: o9 :: o10 :: o11 :: o12 :: o13 :: o14 :: p :: ρ) m = w (o0 :: o1 :: o2 :: o3 :: o4 :: o5 :: o6 :: o7 :: o8 :: o9 :: o10 :: o11 :: o12 :: o13 :: o14 :: p :: ρ) m (fun d m' => E.nx (o0 :: o1 :: o2 :: o3 :: o4 :: o5 :: o6 :: o7 :: o8 :: o9 :: o10 :: o11 :: o12 :: o13 :: o14 :: some d :: ρ) m') E.ex := rfl
theorem a_g15 {o0 o1 o2 o3 o4 o5 o6 o7 o8 o9 o10 o11 o12 o13 o14 : Option D} {p : Option D} : gvName 15 d (o0 :: o1 :: o2 :: o3 :: o4 :: o5 :: o6 :: o7 :: o8 :: o9 :: o10 :: o11 :: o12 :: o13 :: o14 :: p :: ρ) Qe = Qe (o0 :: o1 :: o2 :: o3 :: o4 :: o5 :: o6 :: o7 :: o8 :: o9 :: o10 :: o11 :: o12 :: o13 :: o14 :: some d :: ρ) := rfl
theorem a_v16 {o0 o1 o2 o3 o4 o5 o6 o7 o8 o9 o10 o11 o12 o13 o14 o15 : Option D} : wVar 16 (o0 :: o1 :: o2 :: o3 :: o4 :: o5 :: o6 :: o7 :: o8 :: o9 :: o10 :: o11 :: o12 :: o13 :: o14 :: o15 :: some d :: ρ) m Q Qx = Q d m := rfl
theorem a_s16 {o0 o1 o2 o3 o4 o5 o6 o7 o8 o9 o10 o11 o12 o13 o14 o15 : Option D} {p : Option D} : sSet 16 w E (o0 :: o1 :: o2 :: o3 :: o4 :: o5 :: o6 :: o7 :: o8 :: o9 :: o10 :: o11 :: o12 :: o13 :: o14 :: o15 :: p :: ρ) m = w (o0 :: o1 :: o2 :: o3 :: o4 :: o5 :: o6 :: o7 :: o8 :: o9 :: o10 :: o11 :: o12 :: o13 :: o14 :: o15 :: p :: ρ) m (fun d m' => E.nx (o0 :: o1 :: o2 :: o3 :: o4 :: o5 :: o6 :: o7 :: o8 :: o9 :: o10 :: o11 :: o12 :: o13 :: o14 :: o15 :: some d :: ρ) m') E.ex := rfl
theorem a_g16 {o0 o1 o2 o3 o4 o5 o6 o7 o8 o9 o10 o11 o12 o13 o14 o15 : Option D} {p : Option D} : gvName 16 d (o0 :: o1 :: o2 :: o3 :: o4 :: o5 :: o6 :: o7 :: o8 :: o9 :: o10 :: o11 :: o12 :: o13 :: o14 :: o15 :: p :: ρ) Qe = Qe (o0 :: o1 :: o2 :: o3 :: o4 :: o5 :: o6 :: o7 :: o8 :: o9 :: o10 :: o11 :: o12 :: o13 :: o14 :: o15 :: some d :: ρ) := rfl
theorem a_v17 {o0 o1 o2 o3 o4 o5 o6 o7 o8 o9 o10 o11 o12 o13 o14 o15 o16 : Option D} : wVar 17 (o0 :: o1 :: o2 :: o3 :: o4 :: o5 :: o6 :: o7 :: o8 :: o9 :: o10 :: o11 :: o12 :: o13 :: o14 :: o15 :: o16 :: some d :: ρ) m Q Qx = Q d m := rfl
theorem a_s17 {o0 o1 o2 o3 o4 o5 o6 o7 o8 o9 o10 o11 o12 o13 o14 o15 o16 : Option D} {p : Option D} : sSet 17 w E (o0 :: o1 :: o2 :: o3 :: o4 :: o5 :: o6 :: o7 :: o8 :: o9 :: o10 :: o11 :: o12 :: o13 :: o14 :: o15 :: o16 :: p :: ρ) m = w (o0 :: o1 :: o2 :: o3 :: o4 :: o5 :: o6 :: o7 :: o8 :: o9 :: o10 :: o11 :: o12 :: o13 :: o14 :: o15 :: o16 :: p :: ρ) m (fun d m' => E.nx (o0 :: o1 :: o2 :: o3 :: o4 :: o5 :: o6 :: o7 :: o8 :: o9 :: o10 :: o11 :: o12 :: o13 :: o14 :: o15 :: o16 :: some d :: ρ) m') E.ex := rfl
theorem a_g17 {o0 o1 o2 o3 o4 o5 o6 o7 o8 o9 o10 o11 o12 o13 o14 o15 o16 : Option D} {p : Option D} : gvName 17 d (o0 :: o1 :: o2 :: o3 :: o4 :: o5 :: o6 :: o7 :: o8 :: o9 :: o10 :: o11 :: o12 :: o13 :: o14 :: o15 :: o16 :: p :: ρ) Qe = Qe (o0 :: o1 :: o2 :: o3 :: o4 :: o5 :: o6 :: o7 :: o8 :: o9 :: o10 :: o11 :: o12 :: o13 :: o14 :: o15 :: o16 :: some d :: ρ) := rfl
theorem a_v18 {o0 o1 o2 o3 o4 o5 o6 o7 o8 o9 o10 o11 o12 o13 o14 o15 o16 o17 : Option D} : wVar 18 (o0 :: o1 :: o2 :: o3 :: o4 :: o5 :: o6 :: o7 :: o8 :: o9 :: o10 :: o11 :: o12 :: o13 :: o14 :: o15 :: o16 :: o17 :: some d :: ρ) m Q Qx = Q d m := rfl
theorem a_s18 {o0 o1 o2 o3 o4 o5 o6 o7 o8 o9 o10 o11 o12 o13 o14 o15 o16 o17 : Option D} {p : Option D} : sSet 18 w E (o0 :: o1 :: o2 :: o3 :: o4 :: o5 :: o6 :: o7 :: o8 :: o9 :: o10 :: o11 :: o12 :: o13 :: o14 :: o15 :: o16 :: o17 :: p :: ρ) m = w (o0 :: o1 :: o2 :: o3 :: o4 :: o5 :: o6 :: o7 :: o8 :: o9 :: o10 :: o11 :: o12 :: o13 :: o14 :: o15 :: o16 :: o17 :: p :: ρ) m (fun d m' => E.nx (o0 :: o1 :: o2 :: o3 :: o4 :: o5 :: o6 :: o7 :: o8 :: o9 :: o10 :: o11 :: o12 :: o13 :: o14 :: o15 :: o16 :: o17 :: some d :: ρ) m') E.ex := rfl
theorem a_g18 {o0 o1 o2 o3 o4 o5 o6 o7 o8 o9 o10 o11 o12 o13 o14 o15 o16 o17 : Option D} {p : Option D} : gvName 18 d (o0 :: o1 :: o2 :: o3 :: o4 :: o5 :: o6 :: o7 :: o8 :: o9 :: o10 :: o11 :: o12 :: o13 :: o14 :: o15 :: o16 :: o17 :: p :: ρ) Qe = Qe (o0 :: o1 :: o2 :: o3 :: o4 :: o5 :: o6 :: o7 :: o8 :: o9 :: o10 :: o11 :: o12 :: o13 :: o14 :: o15 :: o16 :: o17 :: some d :: ρ) := rfl
theorem a_v19 {o0 o1 o2 o3 o4 o5 o6 o7 o8 o9 o10 o11 o12 o13 o14 o15 o16 o17 o18 : Option D} : wVar 19 (o0 :: o1 :: o2 :: o3 :: o4 :: o5 :: o6 :: o7 :: o8 :: o9 :: o10 :: o11 :: o12 :: o13 :: o14 :: o15 :: o16 :: o17 :: o18 :: some d :: ρ) m Q Qx = Q d m := rfl
theorem a_s19 {o0 o1 o2 o3 o4 o5 o6 o7 o8 o9 o10 o11 o12 o13 o14 o15 o16 o17 o18 : Option D} {p : Option D} : sSet 19 w E (o0 :: o1 :: o2 :: o3 :: o4 :: o5 :: o6 :: o7 :: o8 :: o9 :: o10 :: o11 :: o12 :: o13 :: o14 :: o15 :: o16 :: o17 :: o18 :: p :: ρ) m = w (o0 :: o1 :: o2 :: o3 :: o4 :: o5 :: o6 :: o7 :: o8 :: o9 :: o10 :: o11 :: o12 :: o13 :: o14 :: o15 :: o16 :: o17 :: o18 :: p :: ρ) m (fun d m' => E.nx (o0 :: o1 :: o2 :: o3 :: o4 :: o5 :: o6 :: o7 :: o8 :: o9 :: o10 :: o11 :: o12 :: o13 :: o14 :: o15 :: o16 :: o17 :: o18 :: some d :: ρ) m') E.ex := rfl
theorem a_g19 {o0 o1 o2 o3 o4 o5 o6 o7 o8 o9 o10 o11 o12 o13 o14 o15 o16 o17 o18 : Option D} {p : Option D} : gvName 19 d (o0 :: o1 :: o2 :: o3 :: o4 :: o5 :: o6 :: o7 :: o8 :: o9 :: o10 :: o11 :: o12 :: o13 :: o14 :: o15 :: o16 :: o17 :: o18 :: p :: ρ) Qe = Qe (o0 :: o1 :: o2 :: o3 :: o4 :: o5 :: o6 :: o7 :: o8 :: o9 :: o10 :: o11 :: o12 :: o13 :: o14 :: o15 :: o16 :: o17 :: o18 :: some d :: ρ) := rfl
theorem a_v20 {o0 o1 o2 o3 o4 o5 o6 o7 o8 o9 o10 o11 o12 o13 o14 o15 o16 o17 o18 o19 : Option D} : wVar 20 (o0 :: o1 :: o2 :: o3 :: o4 :: o5 :: o6 :: o7 :: o8 :: o9 :: o10 :: o11 :: o12 :: o13 :: o14 :: o15 :: o16 :: o17 :: o18 :: o19 :: some d :: ρ) m Q Qx = Q d m := rfl
theorem a_s20 {o0 o1 o2 o3 o4 o5 o6 o7 o8 o9 o10 o11 o12 o13 o14 o15 o16 o17 o18 o19 : Option D} {p : Option D} : sSet 20 w E (o0 :: o1 :: o2 :: o3 :: o4 :: o5 :: o6 :: o7 :: o8 :: o9 :: o10 :: o11 :: o12 :: o13 :: o14 :: o15 :: o16 :: o17 :: o18 :: o19 :: p :: ρ) m = w (o0 :: o1 :: o2 :: o3 :: o4 :: o5 :: o6 :: o7 :: o8 :: o9 :: o10 :: o11 :: o12 :: o13 :: o14 :: o15 :: o16 :: o17 :: o18 :: o19 :: p :: ρ) m (fun d m' => E.nx (o0 :: o1 :: o2 :: o3 :: o4 :: o5 :: o6 :: o7 :: o8 :: o9 :: o10 :: o11 :: o12 :: o13 :: o14 :: o15 :: o16 :: o17 :: o18 :: o19 :: some d :: ρ) m') E.ex := rfl
theorem a_g20 {o0 o1 o2 o3 o4 o5 o6 o7 o8 o9 o10 o11 o12 o13 o14 o15 o16 o17 o18 o19 : Option D} {p : Option D} : gvName 20 d (o0 :: o1 :: o2 :: o3 :: o4 :: o5 :: o6 :: o7 :: o8 :: o9 :: o10 :: o11 :: o12 :: o13 :: o14 :: o15 :: o16 :: o17 :: o18 :: o19 :: p :: ρ) Qe = Qe (o0 :: o1 :: o2 :: o3 :: o4 :: o5 :: o6 :: o7 :: o8 :: o9 :: o10 :: o11 :: o12 :: o13 :: o14 :: o15 :: o16 :: o17 :: o18 :: o19 :: some d :: ρ) := rfl
theorem a_v21 {o0 o1 o2 o3 o4 o5 o6 o7 o8 o9 o10 o11 o12 o13 o14 o15 o16 o17 o18 o19 o20 : Option D} : wVar 21 (o0 :: o1 :: o2 :: o3 :: o4 :: o5 :: o6 :: o7 :: o8 :: o9 :: o10 :: o11 :: o12 :: o13 :: o14 :: o15 :: o16 :: o17 :: o18 :: o19 :: o20 :: some d :: ρ) m Q Qx = Q d m := rfl
theorem a_s21 {o0 o1 o2 o3 o4 o5 o6 o7 o8 o9 o10 o11 o12 o13 o14 o15 o16 o17 o18 o19 o20 : Option D} {p : Option D} : sSet 21 w E (o0 :: o1 :: o2 :: o3 :: o4 :: o5 :: o6 :: o7 :: o8 :: o9 :: o10 :: o11 :: o12 :: o13 :: o14 :: o15 :: o16 :: o17 :: o18 :: o19 :: o20 :: p :: ρ) m = w (o0 :: o1 :: o2 :: o3 :: o4 :: o5 :: o6 :: o7 :: o8 :: o9 :: o10 :: o11 :: o12 :: o13 :: o14 :: o15 :: o16 :: o17 :: o18 :: o19 :: o20 :: p :: ρ) m (fun d m' => E.nx (o0 :: o1 :: o2 :: o3 :: o4 :: o5 :: o6 :: o7 :: o8 :: o9 :: o10 :: o11 :: o12 :: o13 :: o14 :: o15 :: o16 :: o17 :: o18 :: o19 :: o20 :: some d :: ρ) m') E.ex := rfl
theorem a_g21 {o0 o1 o2 o3 o4 o5 o6 o7 o8 o9 o10 o11 o12 o13 o14 o15 o16 o17 o18 o19 o20 : Option D} {p : Option D} : gvName 21 d (o0 :: o1 :: o2 :: o3 :: o4 :: o5 :: o6 :: o7 :: o8 :: o9 :: o10 :: o11 :: o12 :: o13 :: o14 :: o15 :: o16 :: o17 :: o18 :: o19 :: o20 :: p :: ρ) Qe = Qe (o0 :: o1 :: o2 :: o3 :: o4 :: o5 :: o6 :: o7 :: o8 :: o9 :: o10 :: o11 :: o12 :: o13 :: o14 :: o15 :: o16 :: o17 :: o18 :: o19 :: o20 :: some d :: ρ) := rfl
theorem a_v22 {o0 o1 o2 o3 o4 o5 o6 o7 o8 o9 o10 o11 o12 o13 o14 o15 o16 o17 o18 o19 o20 o21 : Option D} : wVar 22 (o0 :: o1 :: o2 :: o3 :: o4 :: o5 :: o6 :: o7 :: o8 :: o9 :: o10 :: o11 :: o12 :: o13 :: o14 :: o15 :: o16 :: o17 :: o18 :: o19 :: o20 :: o21 :: some d :: ρ) m Q Qx = Q d m := rfl
theorem a_s22 {o0 o1 o2 o3 o4 o5 o6 o7 o8 o9 o10 o11 o12 o13 o14 o15 o16 o17 o18 o19 o20 o21 : Option D} {p : Option D} : sSet 22 w E (o0 :: o1 :: o2 :: o3 :: o4 :: o5 :: o6 :: o7 :: o8 :: o9 :: o10 :: o11 :: o12 :: o13 :: o14 :: o15 :: o16 :: o17 :: o18 :: o19 :: o20 :: o21 :: p :: ρ) m = w (o0 :: o1 :: o2 :: o3 :: o4 :: o5 :: o6 :: o7 :: o8 :: o9 :: o10 :: o11 :: o12 :: o13 :: o14 :: o15 :: o16 :: o17 :: o18 :: o19 :: o20 :: o21 :: p :: ρ) m (fun d m' => E.nx (o0 :: o1 :: o2 :: o3 :: o4 :: o5 :: o6 :: o7 :: o8 :: o9 :: o10 :: o11 :: o12 :: o13 :: o14 :: o15 :: o16 :: o17 :: o18 :: o19 :: o20 :: o21 :: some d :: ρ) m') E.ex := rfl
theorem a_g22 {o0 o1 o2 o3 o4 o5 o6 o7 o8 o9 o10 o11 o12 o13 o14 o15 o16 o17 o18 o19 o20 o21 : Option D} {p : Option D} : gvName 22 d (o0 :: o1 :: o2 :: o3 :: o4 :: o5 :: o6 :: o7 :: o8 :: o9 :: o10 :: o11 :: o12 :: o13 :: o14 :: o15 :: o16 :: o17 :: o18 :: o19 :: o20 :: o21 :: p :: ρ) Qe = Qe (o0 :: o1 :: o2 :: o3 :: o4 :: o5 :: o6 :: o7 :: o8 :: o9 :: o10 :: o11 :: o12 :: o13 :: o14 :: o15 :: o16 :: o17 :: o18 :: o19 :: o20 :: o21 :: some d :: ρ) := rfl
theorem a_v23 {o0 o1 o2 o3 o4 o5 o6 o7 o8 o9 o10 o11 o12 o13 o14 o15 o16 o17 o18 o19 o20 o21 o22 : Option D} : wVar 23 (o0 :: o1 :: o2 :: o3 :: o4 :: o5 :: o6 :: o7 :: o8 :: o9 :: o10 :: o11 :: o12 :: o13 :: o14 :: o15 :: o16 :: o17 :: o18 :: o19 :: o20 :: o21 :: o22 :: some d :: ρ) m Q Qx = Q d m := rfl
theorem a_s23 {o0 o1 o2 o3 o4 o5 o6 o7 o8 o9 o10 o11 o12 o13 o14 o15 o16 o17 o18 o19 o20 o21 o22 : Option D} {p : Option D} : sSet 23 w E (o0 :: o1 :: o2 :: o3 :: o4 :: o5 :: o6 :: o7 :: o8 :: o9 :: o10 :: o11 :: o12 :: o13 :: o14 :: o15 :: o16 :: o17 :: o18 :: o19 :: o20 :: o21 :: o22 :: p :: ρ) m = w (o0 :: o1 :: o2 :: o3 :: o4 :: o5 :: o6 :: o7 :: o8 :: o9 :: o10 :: o11 :: o12 :: o13 :: o14 :: o15 :: o16 :: o17 :: o18 :: o19 :: o20 :: o21 :: o22 :: p :: ρ) m (fun d m' => E.nx (o0 :: o1 :: o2 :: o3 :: o4 :: o5 :: o6 :: o7 :: o8 :: o9 :: o10 :: o11 :: o12 :: o13 :: o14 :: o15 :: o16 :: o17 :: o18 :: o19 :: o20 :: o21 :: o22 :: some d :: ρ) m') E.ex := rfl
theorem a_g23 {o0 o1 o2 o3 o4 o5 o6 o7 o8 o9 o10 o11 o12 o13 o14 o15 o16 o17 o18 o19 o20 o21 o22 : Option D} {p : Option D} : gvName 23 d (o0 :: o1 :: o2 :: o3 :: o4 :: o5 :: o6 :: o7 :: o8 :: o9 :: o10 :: o11 :: o12 :: o13 :: o14 :: o15 :: o16 :: o17 :: o18 :: o19 :: o20 :: o21 :: o22 :: p :: ρ) Qe = Qe (o0 :: o1 :: o2 :: o3 :: o4 :: o5 :: o6 :: o7 :: o8 :: o9 :: o10 :: o11 :: o12 :: o13 :: o14 :: o15 :: o16 :: o17 :: o18 :: o19 :: o20 :: o21 :: o22 :: some d :: ρ) := rfl
theorem a_v24 {o0 o1 o2 o3 o4 o5 o6 o7 o8 o9 o10 o11 o12 o13 o14 o15 o16 o17 o18 o19 o20 o21 o22 o23 : Option D} : wVar 24 (o0 :: o1 :: o2 :: o3 :: o4 :: o5 :: o6 :: o7 :: o8 :: o9 :: o10 :: o11 :: o12 :: o13 :: o14 :: o15 :: o16 :: o17 :: o18 :: o19 :: o20 :: o21 :: o22 :: o23 :: some d :: ρ) m Q Qx = Q d m := rfl
theorem a_s24 {o0 o1 o2 o3 o4 o5 o6 o7 o8 o9 o10 o11 o12 o13 o14 o15 o16 o17 o18 o19 o20 o21 o22 o23 : Option D} {p : Option D} : sSet 24 w E (o0 :: o1 :: o2 :: o3 :: o4 :: o5 :: o6 :: o7 :: o8 :: o9 :: o10 :: o11 :: o12 :: o13 :: o14 :: o15 :: o16 :: o17 :: o18 :: o19 :: o20 :: o21 :: o22 :: o23 :: p :: ρ) m = w (o0 :: o1 :: o2 :: o3 :: o4 :: o5 :: o6 :: o7 :: o8 :: o9 :: o10 :: o11 :: o12 :: o13 :: o14 :: o15 :: o16 :: o17 :: o18 :: o19 :: o20 :: o21 :: o22 :: o23 :: p :: ρ) m (fun d m' => E.nx (o0 :: o1 :: o2 :: o3 :: o4 :: o5 :: o6 :: o7 :: o8 :: o9 :: o10 :: o11 :: o12 :: o13 :: o14 :: o15 :: o16 :: o17 :: o18 :: o19 :: o20 :: o21 :: o22 :: o23 :: some d :: ρ) m') E.ex := rfl
theorem a_g24 {o0 o1 o2 o3 o4 o5 o6 o7 o8 o9 o10 o11 o12 o13 o14 o15 o16 o17 o18 o19 o20 o21 o22 o23 : Option D} {p : Option D} : gvName 24 d (o0 :: o1 :: o2 :: o3 :: o4 :: o5 :: o6 :: o7 :: o8 :: o9 :: o10 :: o11 :: o12 :: o13 :: o14 :: o15 :: o16 :: o17 :: o18 :: o19 :: o20 :: o21 :: o22 :: o23 :: p :: ρ) Qe = Qe (o0 :: o1 :: o2 :: o3 :: o4 :: o5 :: o6 :: o7 :: o8 :: o9 :: o10 :: o11 :: o12 :: o13 :: o14 :: o15 :: o16 :: o17 :: o18 :: o19 :: o20 :: o21 :: o22 :: o23 :: some d :: ρ) := rfl
theorem a_v25 {o0 o1 o2 o3 o4 o5 o6 o7 o8 o9 o10 o11 o12 o13 o14 o15 o16 o17 o18 o19 o20 o21 o22 o23 o24 : Option D} : wVar 25 (o0 :: o1 :: o2 :: o3 :: o4 :: o5 :: o6 :: o7 :: o8 :: o9 :: o10 :: o11 :: o12 :: o13 :: o14 :: o15 :: o16 :: o17 :: o18 :: o19 :: o20 :: o21 :: o22 :: o23 :: o24 :: some d :: ρ) m Q Qx = Q d m := rfl
theorem a_s25 {o0 o1 o2 o3 o4 o5 o6 o7 o8 o9 o10 o11 o12 o13 o14 o15 o16 o17 o18 o19 o20 o21 o22 o23 o24 : Option D} {p : Option D} : sSet 25 w E (o0 :: o1 :: o2 :: o3 :: o4 :: o5 :: o6 :: o7 :: o8 :: o9 :: o10 :: o11 :: o12 :: o13 :: o14 :: o15 :: o16 :: o17 :: o18 :: o19 :: o20 :: o21 :: o22 :: o23 :: o24 :: p :: ρ) m = w (o0 :: o1 :: o2 :: o3 :: o4 :: o5 :: o6 :: o7 :: o8 :: o9 :: o10 :: o11 :: o12 :: o13 :: o14 :: o15 :: o16 :: o17 :: o18 :: o19 :: o20 :: o21 :: o22 :: o23 :: o24 :: p :: ρ) m (fun d m' => E.nx (o0 :: o1 :: o2 :: o3 :: o4 :: o5 :: o6 :: o7 :: o8 :: o9 :: o10 :: o11 :: o12 :: o13 :: o14 :: o15 :: o16 :: o17 :: o18 :: o19 :: o20 :: o21 :: o22 :: o23 :: o24 :: some d :: ρ) m') E.ex := rfl
theorem a_g25 {o0 o1 o2 o3 o4 o5 o6 o7 o8 o9 o10 o11 o12 o13 o14 o15 o16 o17 o18 o19 o20 o21 o22 o23 o24 : Option D} {p : Option D} : gvName 25 d (o0 :: o1 :: o2 :: o3 :: o4 :: o5 :: o6 :: o7 :: o8 :: o9 :: o10 :: o11 :: o12 :: o13 :: o14 :: o15 :: o16 :: o17 :: o18 :: o19 :: o20 :: o21 :: o22 :: o23 :: o24 :: p :: ρ) Qe = Qe (o0 :: o1 :: o2 :: o3 :: o4 :: o5 :: o6 :: o7 :: o8 :: o9 :: o10 :: o11 :: o12 :: o13 :: o14 :: o15 :: o16 :: o17 :: o18 :: o19 :: o20 :: o21 :: o22 :: o23 :: o24 :: some d :: ρ) := rfl
theorem a_v26 {o0 o1 o2 o3 o4 o5 o6 o7 o8 o9 o10 o11 o12 o13 o14 o15 o16 o17 o18 o19 o20 o21 o22 o23 o24 o25 : Option D} : wVar 26 (o0 :: o1 :: o2 :: o3 :: o4 :: o5 :: o6 :: o7 :: o8 :: o9 :: o10 :: o11 :: o12 :: o13 :: o14 :: o15 :: o16 :: o17 :: o18 :: o19 :: o20 :: o21 :: o22 :: o23 :: o24 :: o25 :: some d :: ρ) m Q Qx = Q d m := rfl
theorem a_s26 {o0 o1 o2 o3 o4 o5 o6 o7 o8 o9 o10 o11 o12 o13 o14 o15 o16 o17 o18 o19 o20 o21 o22 o23 o24 o25 : Option D} {p : Option D} : sSet 26 w E (o0 :: o1 :: o2 :: o3 :: o4 :: o5 :: o6 :: o7 :: o8 :: o9 :: o10 :: o11 :: o12 :: o13 :: o14 :: o15 :: o16 :: o17 :: o18 :: o19 :: o20 :: o21 :: o22 :: o23 :: o24 :: o25 :: p :: ρ) m = w (o0 :: o1 :: o2 :: o3 :: o4 :: o5 :: o6 :: o7 :: o8 :: o9 :: o10 :: o11 :: o12 :: o13 :: o14 :: o15 :: o16 :: o17 :: o18 :: o19 :: o20 :: o21 :: o22 :: o23 :: o24 :: o25 :: p :: ρ) m (fun d m' => E.nx (o0 :: o1 :: o2 :: o3 :: o4 :: o5 :: o6 :: o7 :: o8 :: o9 :: o10 :: o11 :: o12 :: o13 :: o14 :: o15 :: o16 :: o17 :: o18 :: o19 :: o20 :: o21 :: o22 :: o23 :: o24 :: o25 :: some d :: ρ) m') E.ex := rfl
theorem a_g26 {o0 o1 o2 o3 o4 o5 o6 o7 o8 o9 o10 o11 o12 o13 o14 o15 o16 o17 o18 o19 o20 o21 o22 o23 o24 o25 : Option D} {p : Option D} : gvName 26 d (o0 :: o1 :: o2 :: o3 :: o4 :: o5 :: o6 :: o7 :: o8 :: o9 :: o10 :: o11 :: o12 :: o13 :: o14 :: o15 :: o16 :: o17 :: o18 :: o19 :: o20 :: o21 :: o22 :: o23 :: o24 :: o25 :: p :: ρ) Qe = Qe (o0 :: o1 :: o2 :: o3 :: o4 :: o5 :: o6 :: o7 :: o8 :: o9 :: o10 :: o11 :: o12 :: o13 :: o14 :: o15 :: o16 :: o17 :: o18 :: o19 :: o20 :: o21 :: o22 :: o23 :: o24 :: o25 :: some d :: ρ) := rfl
theorem a_v27 {o0 o1 o2 o3 o4 o5 o6 o7 o8 o9 o10 o11 o12 o13 o14 o15 o16 o17 o18 o19 o20 o21 o22 o23 o24 o25 o26 : Option D} : wVar 27 (o0 :: o1 :: o2 :: o3 :: o4 :: o5 :: o6 :: o7 :: o8 :: o9 :: o10 :: o11 :: o12 :: o13 :: o14 :: o15 :: o16 :: o17 :: o18 :: o19 :: o20 :: o21 :: o22 :: o23 :: o24 :: o25 :: o26 :: some d :: ρ) m Q Qx = Q d m := rfl
theorem a_s27 {o0 o1 o2 o3 o4 o5 o6 o7 o8 o9 o10 o11 o12 o13 o14 o15 o16 o17 o18 o19 o20 o21 o22 o23 o24 o25 o26 : Option D} {p : Option D} : sSet 27 w E (o0 :: o1 :: o2 :: o3 :: o4 :: o5 :: o6 :: o7 :: o8 :: o9 :: o10 :: o11 :: o12 :: o13 :: o14 :: o15 :: o16 :: o17 :: o18 :: o19 :: o20 :: o21 :: o22 :: o23 :: o24 :: o25 :: o26 :: p :: ρ) m = w (o0 :: o1 :: o2 :: o3 :: o4 :: o5 :: o6 :: o7 :: o8 :: o9 :: o10 :: o11 :: o12 :: o13 :: o14 :: o15 :: o16 :: o17 :: o18 :: o19 :: o20 :: o21 :: o22 :: o23 :: o24 :: o25 :: o26 :: p :: ρ) m (fun d m' => E.nx (o0 :: o1 :: o2 :: o3 :: o4 :: o5 :: o6 :: o7 :: o8 :: o9 :: o10 :: o11 :: o12 :: o13 :: o14 :: o15 :: o16 :: o17 :: o18 :: o19 :: o20 :: o21 :: o22 :: o23 :: o24 :: o25 :: o26 :: some d :: ρ) m') E.ex := rfl
theorem a_g27 {o0 o1 o2 o3 o4 o5 o6 o7 o8 o9 o10 o11 o12 o13 o14 o15 o16 o17 o18 o19 o20 o21 o22 o23 o24 o25 o26 : Option D} {p : Option D} : gvName 27 d (o0 :: o1 :: o2 :: o3 :: o4 :: o5 :: o6 :: o7 :: o8 :: o9 :: o10 :: o11 :: o12 :: o13 :: o14 :: o15 :: o16 :: o17 :: o18 :: o19 :: o20 :: o21 :: o22 :: o23 :: o24 :: o25 :: o26 :: p :: ρ) Qe = Qe (o0 :: o1 :: o2 :: o3 :: o4 :: o5 :: o6 :: o7 :: o8 :: o9 :: o10 :: o11 :: o12 :: o13 :: o14 :: o15 :: o16 :: o17 :: o18 :: o19 :: o20 :: o21 :: o22 :: o23 :: o24 :: o25 :: o26 :: some d :: ρ) := rfl
theorem a_star {we : WE} {wr : WA} : wStar we wr ρ m Ql Qx = we ρ m (fun x m1 => match x with
  | .lst ds => wr ρ m1 (fun es m2 => Ql (ds ++ es) m2) Qx
  | .tup ds => wr ρ m1 (fun es m2 => Ql (ds ++ es) m2) Qx
  | _ => False) Qx := rfl
theorem a_asg2 {g1 g2 : WG} {we : WE} : sAsg2 g1 g2 we E ρ m = we ρ m (fun d m1 => g1 d ρ fun ρ1 => g2 d ρ1 fun ρ2 => E.nx ρ2 m1) E.ex := rfl
theorem a_asg4 {g1 g2 g3 g4 : WG} {we : WE} : sAsg4 g1 g2 g3 g4 we E ρ m = we ρ m (fun d m1 => g1 d ρ fun ρ1 => g2 d ρ1 fun ρ2 => g3 d ρ2 fun ρ3 => g4 d ρ3 fun ρ4 => E.nx ρ4 m1) E.ex := rfl
theorem a_neg {wa : WE} : wNeg wa ρ m Q Qx = wa ρ m (fun d m1 => match d with
  | .int i => Q (.int (-i)) m1
  | _ => False) Qx := rfl
theorem a_zipX {wr : WA} : iZipX wr ρ m Ql Qx = wr ρ m (fun ds m1 => ∃ x y xs ys, ds = [x, y] ∧ seqA x = some xs ∧ seqA y = some ys ∧ Ql (zipD xs ys) m1) Qx := rfl
theorem a_callKX {fn : DFn} {n : Nat} {gD : List D → List D} {wk : WA} : wCallKX fn n gD wk ρ m Q Qx = wk ρ m (fun es m2 => es.length = n ∧ fn (gD es) m2 Q Qx) Qx := rfl
theorem a_get2 {we wi wx : WE} : wGet2 we wi wx ρ m Q Qx = we ρ m (fun x m1 => (match x with
  | .dct _ _ => True
  | _ => False) ∧ wi ρ m1 (fun y m2 => wx ρ m2 (fun z m3 => match x, y with
  | .dct ks ds, .str s => Q ((findD ks ds (.inr s)).getD z) m3
  | .dct ks ds, .int i => Q ((findD ks ds (.inl i)).getD z) m3
  | _, _ => False) Qx) Qx) Qx := rfl
theorem a_lcO {wi : WA} {g : WG} {tt : WT} {te : WE} {vs : List Nat} : wLcO wi g tt te vs ρ m Q Qx = wi ρ m (fun ds m1 => ds.length ≤ 1000000 ∧ wLcOGo g tt te (wipeD ρ vs) Qx ds [] m1 Q) Qx := rfl
theorem a_popAt {o : WE} {wr : WA} : sPopAt o wr E ρ m = o ρ m (fun x m1 => match x with
  | .box p => (m1 p).isSome = true ∧ wr ρ m1 (fun ds m2 => ∃ i xs n, ds = [.int i] ∧ m2 p = some xs ∧ -(2 ^ 63) ≤ i ∧ i < 2 ^ 63 ∧ seqIndex? i xs.length = some n ∧ n < xs.length ∧ E.nx ρ (m2.up p (xs.eraseIdx n))) E.ex
  | _ => False) E.ex := rfl
theorem a_m0 {w : WM} {wo : WE} : wM0 w wo ρ m Q Qx = wo ρ m (fun x m1 => match x with
  | .str z => w z [] m1 Q
  | _ => False) Qx := rfl
end
end DL
/-! GB: what the readings of several laws share -/
namespace GB
open PySem L2 XO DL
def listB : D → Option (List D)
  | .lst ds => some ds
  | .tup ds => some ds
  | _ => none
def isL (x : D) : Bool := lstB x || tupB x || (match x with | .box _ => true | _ => false)
def typM (m : Mem) (x : D) : Prop := typedM m x = true
def Sub (m m' : Mem) : Prop := ∀ b ds, m b = some ds → m' b = some ds
/-- the box: three ints; the third counts -/
def Box (l : List D) (c : Int) : Prop := ∃ x y z : Int, l = [.int x, .int y, .int z] ∧ 0 ≤ x ∧ 0 ≤ y ∧ y < 2147483648 ∧ 0 ≤ z ∧ z ≤ c
/-- the box at a was drawn from, new objects beside it -/
def Nx (a : Addr) (c : Int) (m m' : Mem) : Prop := (∀ b ds, b ≠ a → m b = some ds → m' b = some ds) ∧ ∃ l, m' a = some l ∧ Box l c
mutual
def okD : D → Nat → Bool
  | .non, _ => true
  | .bl _, _ => true
  | .int i, _ => decide (i.natAbs < 10 ^ 100)
  | .str z, _ => decide (z.length ≤ 20) && PyData.strOk z
  | .lst ds, n + 1 => decide (ds.length ≤ 100000) && okA ds n
  | .tup ds, n + 1 => decide (ds.length ≤ 100000) && okA ds n
  | .dct [] [], _ + 1 => true
  | _, _ => false
def okA : List D → Nat → Bool
  | [], _ => true
  | d :: ds, n => okD d n && okA ds n
end
mutual
def wtD : D → Nat
  | .lst ds => 10 + wtA ds
  | .tup ds => 10 + wtA ds
  | _ => 300
def wtA : List D → Nat
  | [] => 0
  | d :: ds => wtD d + 2 + wtA ds
end
theorem ifb {c : Bool} {A B : Prop} (h1 : c = true → A) (h2 : c = false → B) : if c = true then A else B := by
  cases c
  · exact h2 rfl
  · exact h1 rfl
theorem dec_le {a b : Nat} {i j : Int} (ha : i = a) (hb : j = b) : decide (i ≤ j) = decide (a ≤ b) := by
  subst ha hb
  by_cases c : a ≤ b
  · rw [decide_eq_true c, decide_eq_true (by omega)]
  · rw [decide_eq_false c, decide_eq_false (by omega)]
theorem dec_eq {a b : Nat} {i j : Int} (ha : i = a) (hb : j = b) : decide (i = j) = decide (a = b) := by
  subst ha hb
  by_cases c : a = b
  · rw [decide_eq_true c, decide_eq_true (by omega)]
  · rw [decide_eq_false c, decide_eq_false (by omega)]
theorem small_line {n : Nat} (h : n ≤ 1000) : n ≤ sizeLine := Nat.le_trans h (by rw [sizeLine_eq]; decide)
/-! data -/
theorem okD.ty {d : D} {n : Nat} (h : okD d n = true) : isTyped d = true := by
  cases d with
  | dct ks ds => rfl
  | lst ds => rfl
  | tup ds => rfl
  | _ => first | rfl | (simp [okD] at h)
theorem okD.str {z : Str} {n : Nat} (h : okD (.str z) n = true) : z.length ≤ 20 ∧ PyData.strOk z = true := by
  simp only [okD, Bool.and_eq_true, decide_eq_true_eq] at h
  exact h
theorem okA.mem {n : Nat} : ∀ {ds : List D}, okA ds n = true → ∀ d ∈ ds, okD d n = true
  | [], _, d, h => nomatch h
  | e :: ds, h, d, hd => by
    simp only [okA, Bool.and_eq_true] at h
    rcases List.mem_cons.mp hd with rfl | hd
    · exact h.1
    · exact okA.mem h.2 d hd
theorem okA.of {n : Nat} : ∀ {ds : List D}, (∀ d ∈ ds, okD d n = true) → okA ds n = true
  | [], _ => by simp [okA]
  | e :: ds, h => by
    simp only [okA, Bool.and_eq_true]
    exact ⟨h e List.mem_cons_self, okA.of fun d hd => h d (List.mem_cons_of_mem _ hd)⟩
theorem okD.len {x : D} {n : Nat} (h : okD x n = true) {ds : List D} (hl : listB x = some ds) : ds.length ≤ 100000 := by
  cases x with
  | lst es =>
    cases hl
    cases n with
    | zero => simp [okD] at h
    | succ n => simp only [okD, Bool.and_eq_true, decide_eq_true_eq] at h; exact h.1
  | tup es =>
    cases hl
    cases n with
    | zero => simp [okD] at h
    | succ n => simp only [okD, Bool.and_eq_true, decide_eq_true_eq] at h; exact h.1
  | _ => cases hl
theorem okD.items {x : D} {n : Nat} (h : okD x n = true) {ds : List D} (hl : listB x = some ds) : ∃ k, ∀ d ∈ ds, okD d k = true := by
  cases x with
  | lst es =>
    cases hl
    cases n with
    | zero => simp [okD] at h
    | succ n => simp only [okD, Bool.and_eq_true, decide_eq_true_eq] at h; exact ⟨n, okA.mem h.2⟩
  | tup es =>
    cases hl
    cases n with
    | zero => simp [okD] at h
    | succ n => simp only [okD, Bool.and_eq_true, decide_eq_true_eq] at h; exact ⟨n, okA.mem h.2⟩
  | _ => cases hl
mutual
theorem okD.up : ∀ {d : D} {n k : Nat}, okD d n = true → n ≤ k → okD d k = true
  | .non, _, _, _, _ => by simp [okD]
  | .bl _, _, _, _, _ => by simp [okD]
  | .int _, _, _, h, _ => by simpa [okD] using h
  | .str _, _, _, h, _ => by simpa [okD] using h
  | .lst ds, 0, _, h, _ => by simp [okD] at h
  | .lst ds, n + 1, 0, _, hk => absurd hk (by omega)
  | .lst ds, n + 1, k + 1, h, hk => by
    simp only [okD, Bool.and_eq_true, decide_eq_true_eq] at h ⊢
    exact ⟨h.1, okA.up h.2 (by omega)⟩
  | .tup ds, 0, _, h, _ => by simp [okD] at h
  | .tup ds, n + 1, 0, _, hk => absurd hk (by omega)
  | .tup ds, n + 1, k + 1, h, hk => by
    simp only [okD, Bool.and_eq_true, decide_eq_true_eq] at h ⊢
    exact ⟨h.1, okA.up h.2 (by omega)⟩
  | .dct [] [], 0, _, h, _ => by simp [okD] at h
  | .dct [] [], n + 1, 0, _, hk => absurd hk (by omega)
  | .dct [] [], n + 1, k + 1, _, _ => by simp [okD]
  | .dct (_ :: _) _, _, _, h, _ => by simp [okD] at h
  | .dct [] (_ :: _), _, _, h, _ => by simp [okD] at h
  | .ty _, _, _, h, _ => by simp [okD] at h
  | .scr _, _, _, h, _ => by simp [okD] at h
  | .box _, _, _, h, _ => by simp [okD] at h
  | .obj _ _ _, _, _, h, _ => by simp [okD] at h
theorem okA.up : ∀ {ds : List D} {n k : Nat}, okA ds n = true → n ≤ k → okA ds k = true
  | [], _, _, _, _ => by simp [okA]
  | d :: ds, n, k, h, hk => by
    simp only [okA, Bool.and_eq_true] at h ⊢
    exact ⟨okD.up h.1 hk, okA.up h.2 hk⟩
end
theorem log_small {i : Int} (h : i.natAbs < 10 ^ 100) : i.natAbs.log2 < 1920 := PySem.Flt.log2_lt_of (by decide) (Nat.lt_of_lt_of_le h (by decide +kernel))
theorem str_shown {z : Str} (h1 : z.length ≤ 20) (h2 : PyData.strOk z = true) : (reprText z).length ≤ 300 := by
  have a := StrLaws.reprText_len z fun c hc => by
    unfold PyData.strOk at h2
    rw [Array.all_eq_true'] at h2
    have := of_decide_eq_true (h2 c (Array.mem_toList_iff.mp hc))
    exact Nat.lt_of_lt_of_le this (by decide)
  omega
/-- what repr writes -/
structure Shw (d : D) (n : Nat) : Prop where
  plain : plainD d = true
  show1 : (py d).showable = true
  deep : (py d).depth ≤ n
  size : (py d).shown.length ≤ wtD d
structure ShwA (ds : List D) (n : Nat) : Prop where
  plain : plainA ds = true
  show1 : PyData.showableAll (pyA ds) = true
  deep : PyData.depthAll (pyA ds) ≤ n
  size : ((PyData.shownAll (pyA ds)).map (·.length)).sum + 2 * (PyData.shownAll (pyA ds)).length ≤ wtA ds
theorem int_shown {i : Int} (h : i.natAbs < 10 ^ 100) : (PyData.shown (.int i)).length ≤ 101 := by
  rw [PyData.shown_int, PySem.ofString_length]
  exact int_text_length_le10 (by decide) h
mutual
theorem shw : ∀ (d : D) (n : Nat), okD d n = true → Shw d n
  | .non, n, _ => ⟨by simp [plainD], by simp [py, PyData.showable], by simp [py, PyData.depth], by simp only [py, wtD]; decide⟩
  | .bl b, n, _ => ⟨by simp [plainD], by simp [py, PyData.showable], by simp [py, PyData.depth], by cases b <;> (simp only [py, wtD]; decide)⟩
  | .int i, n, h => by
    have h : i.natAbs < 10 ^ 100 := by simpa [okD] using h
    exact ⟨by simp [plainD], by simp only [py, PyData.showable]; exact decide_eq_true (log_small h), by simp [py, PyData.depth], by simp only [py, wtD]; have := int_shown h; omega⟩
  | .str z, n, h => by
    obtain ⟨h1, h2⟩ := okD.str h
    exact ⟨by simp [plainD], by simp [py, PyData.showable], by simp [py, PyData.depth], by simp only [py, wtD, PyData.shown]; exact str_shown h1 h2⟩
  | .lst ds, 0, h => by simp [okD] at h
  | .lst ds, n + 1, h => by
    simp only [okD, Bool.and_eq_true] at h
    have a := shwA ds n h.2
    refine ⟨by simp only [plainD]; exact a.plain, by simp only [py, PyData.showable]; exact a.show1, by simp only [py, PyData.depth]; have := a.deep; omega, ?_⟩
    simp only [py, wtD, PyData.shown]
    have := listText_len_le (PyData.shownAll (pyA ds))
    have := a.size
    omega
  | .tup ds, 0, h => by simp [okD] at h
  | .tup ds, n + 1, h => by
    simp only [okD, Bool.and_eq_true] at h
    have a := shwA ds n h.2
    refine ⟨by simp only [plainD]; exact a.plain, by simp only [py, PyData.showable]; exact a.show1, by simp only [py, PyData.depth]; have := a.deep; omega, ?_⟩
    simp only [py, wtD, PyData.shown]
    have := tupleText_len_le (PyData.shownAll (pyA ds))
    have := a.size
    omega
  | .dct [] [], 0, h => by simp [okD] at h
  | .dct [] [], n + 1, _ => ⟨by simp [plainD], by simp [py, PyData.showable, PyData.showableKv], by simp [py, PyData.depth, PyData.depthKv], by simp only [py, wtD]; decide⟩
  | .dct (_ :: _) _, _, h => by simp [okD] at h
  | .dct [] (_ :: _), _, h => by simp [okD] at h
  | .ty _, _, h => by simp [okD] at h
  | .scr _, _, h => by simp [okD] at h
  | .box _, _, h => by simp [okD] at h
  | .obj _ _ _, _, h => by simp [okD] at h
theorem shwA : ∀ (ds : List D) (n : Nat), okA ds n = true → ShwA ds n
  | [], n, _ => ⟨by simp [plainA], by simp [pyA, PyData.showableAll], by simp [pyA, PyData.depthAll], by simp [pyA, PyData.shownAll, wtA]⟩
  | d :: ds, n, h => by
    simp only [okA, Bool.and_eq_true] at h
    have a := shw d n h.1
    have b := shwA ds n h.2
    refine ⟨by simp only [plainA, Bool.and_eq_true]; exact ⟨a.plain, b.plain⟩, by simp only [pyA, PyData.showableAll, Bool.and_eq_true]; exact ⟨a.show1, b.show1⟩, by simp only [pyA, PyData.depthAll]; have := a.deep; have := b.deep; omega, ?_⟩
    simp only [pyA, PyData.shownAll, wtA, List.map_cons, List.sum_cons, List.length_cons]
    have := a.size
    have := b.size
    omega
end
theorem showsU {ds : List D} {n : Nat} (h : okD (.lst ds) n = true) (hn : n ≤ 50) (hw : wtD (.lst ds) ≤ 1000000) : ShowsU (.lst ds) := by
  have a := shw _ _ h
  refine ⟨a.plain, a.show1, by have := a.deep; omega, Nat.le_trans a.size (Nat.le_trans hw ?_)⟩
  rw [sizeLine_eq]; decide
mutual
theorem res_plain (m : Mem) : ∀ d : D, plainD d = true → res m d = d
  | .non, _ => by simp only [res]
  | .bl _, _ => by simp only [res]
  | .int _, _ => by simp only [res]
  | .str _, _ => by simp only [res]
  | .lst ds, h => by simp only [plainD] at h; simp only [res, resA_plain m ds h]
  | .tup ds, h => by simp only [plainD] at h; simp only [res, resA_plain m ds h]
  | .dct [] [], _ => by simp only [res, resA]
  | .dct (_ :: _) _, h => by simp [plainD] at h
  | .dct [] (_ :: _), h => by simp [plainD] at h
  | .ty _, _ => by simp only [res]
  | .scr _, _ => by simp only [res]
  | .box _, h => by simp [plainD] at h
  | .obj _ _ _, h => by simp [plainD] at h
theorem resA_plain (m : Mem) : ∀ ds : List D, plainA ds = true → resA m ds = ds
  | [], _ => by simp only [resA]
  | d :: ds, h => by
    simp only [plainA, Bool.and_eq_true] at h
    simp only [resA, res_plain m d h.1, resA_plain m ds h.2]
end
theorem wtA_app : ∀ a b : List D, wtA (a ++ b) = wtA a + wtA b
  | [], b => by simp [wtA]
  | d :: a, b => by simp only [List.cons_append, wtA, wtA_app a b]; omega
theorem wtA_sub {a b : List D} (h : List.Sublist a b) : wtA a ≤ wtA b := by
  induction h with
  | slnil => exact Nat.le_refl _
  | cons x _ ih => simp only [wtA]; omega
  | cons_cons x _ ih => simp only [wtA]; omega
theorem len_wtA : ∀ a : List D, a.length ≤ wtA a
  | [] => Nat.zero_le _
  | d :: a => by have := len_wtA a; simp only [wtA, List.length_cons]; omega
theorem wtD_mem {d : D} {ds : List D} (h : d ∈ ds) : wtD d ≤ wtA ds := by
  induction ds with
  | nil => cases h
  | cons e ds ih =>
    simp only [wtA]
    rcases List.mem_cons.mp h with rfl | h
    · omega
    · have := ih h; omega
theorem cut_sub (ds : List D) (lo hi : Option Int) : List.Sublist (cutD ds lo hi) ds := (List.take_sublist _ _).trans (List.drop_sublist _ _)
/-! one thing -/
theorem typedM_of {m : Mem} {x : D} (h : isTyped x = true) : typedM m x = true := by
  cases x <;> first | exact h | cases h
theorem isaLT (x : D) : isaL x ["list", "tuple"] = some (isL x) := by
  have e : ∀ y : D, isL y = (lstB y || tupB y || (match y with | .box _ => true | _ => false)) := fun _ => rfl
  cases x with
  | box a =>
    rw [isaL_box]
    unfold isaL
    rw [isa_list]
    rfl
  | _ =>
    unfold isaL
    rw [isa_list]
    first
      | rfl
      | (show isaL _ ["tuple"] = _; unfold isaL; rw [isa_tuple]; rfl)
theorem bls_map (f : D → Bool) : ∀ ds : List D, blsD (ds.map fun d => .bl (f d)) = some (ds.map f)
  | [] => rfl
  | d :: ds => by
    rw [List.map_cons, List.map_cons]
    unfold blsD
    rw [bls_map f ds]
    rfl
theorem sign_ok {z : Str} (hs : PyData.strOk z = true) {d : D} (hd : d ∈ signs z) : ∃ c, d = .str ⟨#[c]⟩ ∧ c ∈ z.cps.toList ∧ PyData.strOk ⟨#[c]⟩ = true := by
  obtain ⟨c, hc, rfl⟩ := List.mem_map.mp hd
  refine ⟨c, rfl, hc, ?_⟩
  unfold PyData.strOk at hs ⊢
  rw [Array.all_eq_true'] at hs
  have := hs c (Array.mem_toList_iff.mp hc)
  simpa using this
theorem ok_sign {c : Nat} (h : PyData.strOk ⟨#[c]⟩ = true) : okD (.str ⟨#[c]⟩) 0 = true := by
  simp only [okD, Bool.and_eq_true, decide_eq_true_eq]
  exact ⟨(by decide : (1 : Nat) ≤ 20), h⟩
theorem signs_len (z : Str) : (signs z).length = z.length := by
  unfold signs
  rw [List.length_map, Array.length_toList]
  rfl
end GB
/-! GC: the law's drawing box, loops, repr -/
namespace GB
open PySem L2 XO DL
def F_law_cell : DFn := fun ds m Q _ => ∃ (ns : List Int) (k : Int), ds = [.scr ns, .int k] ∧ 0 ≤ k ∧ k < 1000 ∧ ∀ i : Int, Q (.int i) m
def F_law_box : DFn := fun ds m Q _ => ∃ i : Int, ds = [.int i] ∧ ∀ p l, m p = none → Box l 0 → Q (.box p) (m.up p l)
def F_law_take : DFn := fun ds m Q _ => ∃ (a : Addr) (n c : Int) (l : List D), ds = [.box a, .int n] ∧ m a = some l ∧ Box l c ∧ c ≤ 1000000 ∧ 0 < n ∧ n < 2 ^ 200 ∧ ∀ (d : Int) (m' : Mem), 0 ≤ d → d < n → Nx a (c + 1) m m' → Q (.int d) m'
theorem ixN_lt {n : Nat} {i : Int} (h0 : 0 ≤ i) (h1 : i < n) : ixN n i = some i.toNat := by
  unfold ixN
  rw [if_pos h0, if_pos h1]
theorem atI_lt {α : Type} {xs : List α} {i : Int} (h0 : 0 ≤ i) (h1 : i < xs.length) : ∃ x, atI xs i = some x ∧ x ∈ xs := by
  unfold L2.atI
  rw [ixN_lt h0 h1]
  have h : i.toNat < xs.length := by omega
  exact ⟨xs[i.toNat], List.getElem?_eq_getElem h, List.getElem_mem h⟩
theorem div_ok {j : Int} (h0 : 0 < j) (h1 : j < 2 ^ 200) (i : Int) : CDivW i j := by
  refine wide_div (b := 200) h0 ?_ (by decide) (by decide)
  have : (j.natAbs : Int) = j := Int.natAbs_of_nonneg (Int.le_of_lt h0)
  have h2 : (j.natAbs : Int) < ((2 ^ 200 : Nat) : Int) := by rw [this]; exact_mod_cast h1
  exact_mod_cast h2
theorem Nx.mk_ {a : Addr} {k : Int} {m : Mem} {l l' : List D} (hm : m a = some l) (hb : Box l' k) : Nx a k m (m.up a l') :=
  ⟨fun b ds hb e => by rw [Mem.up_ne hb]; exact e, l', Mem.up_same, hb⟩
theorem Nx.refl {b : Addr} {k : Int} {m : Mem} {l : List D} (h : m b = some l) (hb : Box l k) : Nx b k m m := ⟨fun _ _ _ e => e, l, h, hb⟩
theorem Nx.step {b : Addr} {k k' : Int} {m m1 m2 : Mem} (h : Nx b k m m1) (h' : Nx b k' m1 m2) : Nx b k' m m2 := ⟨fun x ds hx e => h'.1 x ds hx (h.1 x ds hx e), h'.2⟩
theorem Nx.isSome {b : Addr} {k : Int} {m m1 : Mem} (h : Nx b k m m1) {p : Addr} (hp : m1 p = none) : p ≠ b := by
  obtain ⟨l, e, _⟩ := h.2
  exact fun z => by subst z; rw [hp] at e; cases e
theorem Nx.up {b : Addr} {k : Int} {m m1 : Mem} (h : Nx b k m m1) {p : Addr} (hm : m p = none) (hb : p ≠ b) (l : List D) : Nx b k m (m1.up p l) := by
  refine ⟨fun x ds hx e => ?_, ?_⟩
  · have : x ≠ p := fun z => by subst z; rw [hm] at e; cases e
    rw [Mem.up_ne this]
    exact h.1 x ds hx e
  · obtain ⟨l', e, q⟩ := h.2
    exact ⟨l', by rw [Mem.up_ne (Ne.symm hb)]; exact e, q⟩
theorem Nx.new {b : Addr} {k : Int} {m m1 : Mem} (h : Nx b k m m1) {p : Addr} (hp : m1 p = none) (l : List D) : Nx b k m (m1.up p l) := by
  have hb := h.isSome hp
  refine h.up ?_ hb l
  cases e : m p with
  | none => rfl
  | some ds => rw [h.1 p ds hb e] at hp; cases hp
theorem Nx.le {b : Addr} {k k' : Int} {m m1 : Mem} (h : Nx b k m m1) (hk : k ≤ k') : Nx b k' m m1 := by
  obtain ⟨h1, l, e, x, y, z, q1, q2, q3, q4, q5, q6⟩ := h
  exact ⟨h1, l, e, x, y, z, q1, q2, q3, q4, q5, by omega⟩
theorem take_ok {b : Addr} {n k : Int} {m m1 : Mem} {Q : D → Mem → Prop} {Qx : XQ} (h : Nx b k m m1) (hk : k ≤ 1000000) (h0 : 0 < n) (h1 : n < 2 ^ 200) (q : ∀ d m2, 0 ≤ d → d < n → Nx b (k + 1) m m2 → Nx b (k + 1) m1 m2 → Q (.int d) m2) : F_law_take [.box b, .int n] m1 Q Qx := by
  obtain ⟨l, e, hb⟩ := h.2
  exact ⟨b, n, k, l, rfl, e, hb, hk, h0, h1, fun d m2 a1 a2 hn => q d m2 a1 a2 (h.step hn) hn⟩
theorem add_int {i j : Int} {m : Mem} {Q : D → Mem → Prop} (q : Q (.int (i + j)) m) : dAdd (.int i) (.int j) m Q := q
theorem sl_lst {ds : List D} {lo hi : Option Int} {m : Mem} {Q : D → Mem → Prop} (q : Q (.lst (cutD ds lo hi)) m) : dSl (.lst ds) lo hi m Q := q
theorem isNon_ok {x : D} {m : Mem} {Q : D → Mem → Prop} (q : Q (.bl (isNonD x)) m) : dIsB false x .non m Q := by
  show Q (.bl (isNonD x ^^ false)) m
  rw [Bool.xor_false]
  exact q
theorem loop_ind {g : WG} {body : WS} {E : De} {P : List D → En0 → Mem → Prop} (hnil : ∀ ρ m, P [] ρ m → E.nx ρ m)
    (hcons : ∀ d ds ρ m, P (d :: ds) ρ m → (∀ ρ' m', P ds ρ' m' → wLoop g body E ds ρ' m') → g d ρ fun ρ1 => body { E with nx := wLoop g body E ds, ct := wLoop g body E ds, bk := E.nx } ρ1 m) :
    ∀ ds ρ m, P ds ρ m → wLoop g body E ds ρ m
  | [], ρ, m, h => by rw [a_loopN]; exact hnil ρ m h
  | d :: ds, ρ, m, h => by
    rw [a_loopC]
    exact hcons d ds ρ m h fun ρ' m' h' => loop_ind hnil hcons ds ρ' m' h'
theorem dNe_str {a b : Str} {m : Mem} {Q : D → Mem → Prop} (q : Q (.bl (!decide (a = b))) m) : dNe (.str a) (.str b) m Q := by
  show Q (.bl (decide (a = b) ^^ true)) m
  rw [Bool.xor_true]; exact q
/-- repr of data that is good -/
theorem repr_ok {m : Mem} {x : D} {l : List D} {n : Nat} {Q : D → Mem → Prop} (hr : res m x = .lst l) (ok : okD (.lst l) n = true) (hn : n ≤ 50) (hw : wtD (.lst l) ≤ 1000000) (q : Q (.str (py (.lst l)).shown) m) : dReprM [x] m Q := ⟨l, hr, showsU ok hn hw, q⟩
theorem res_ok {m : Mem} {x : D} {n : Nat} (h : okD x n = true) : res m x = x := res_plain m x (shw x n h).plain
theorem a_trys {cs : List Cl} {wb : WS} {E : De} {ρ : En0} {m : Mem} : sTrys cs wb E ρ m = wb { nx := E.nx, rt := E.rt, bk := E.bk, ct := E.ct, ex := fun xx m' => ∃ c ∈ cs, c.1 = xx.cls ∧ c.2.1 = xx.fld ∧ E.rt (.lst [.str c.2.2, xx.val]) m' } ρ m := rfl
theorem nil_lst {ds : List D} {neg : Bool} {m : Mem} {Q : D → Mem → Prop} (q : Q (.bl (ds.isEmpty ^^ neg)) m) : dNilB neg (.lst ds) (.lst []) m Q := ⟨rfl, Or.inl ⟨ds, rfl, q⟩⟩
theorem add_lst {a b : List D} {m : Mem} {Q : D → Mem → Prop} (h : a.length + b.length ≤ 1000000) (q : Q (.lst (a ++ b)) m) : dAdd (.lst a) (.lst b) m Q := ⟨Nat.le_trans h (by rw [sizeLine_eq]; decide), q⟩
theorem line_of {n : Nat} (h : n ≤ 1000000) : n ≤ sizeLine := Nat.le_trans h (by rw [sizeLine_eq]; decide)
theorem Nx.at {b : Addr} {k : Int} {m m1 : Mem} (h : Nx b k m m1) : ∃ l, m1 b = some l ∧ Box l k := h.2
/-- a comprehension whose items draw -/
theorem lc_draw {g : WG} {te : WE} {ρ : En0} {Qx : XQ} {b : Addr} {per lim : Int} (hper : 0 ≤ per) (G : D → Prop) {m0 : Mem} : ∀ (xs : List D) (acc : List D) (c : Int) (m : Mem) (Q : D → Mem → Prop), Nx b c m0 m → c + per * xs.length ≤ lim → (∀ d ∈ acc, G d) →
    (∀ x ∈ xs, ∀ (c : Int) (m : Mem) (K : D → Mem → Prop), Nx b c m0 m → c ≤ lim → (∀ y m', G y → Nx b (c + per) m m' → K y m') → g x ρ fun ρ1 => te ρ1 m K Qx) →
    (∀ l m', l.length = acc.length + xs.length → (∀ d ∈ l, G d) → Nx b (c + per * xs.length) m0 m' → Q (.lst l) m') → wLcGo g tvYes te ρ Qx xs acc m Q
  | [], acc, c, m, Q, hn, hc, ha, hs, q => by
    have := q acc m rfl ha (by rw [List.length_nil, Int.natCast_zero, Int.mul_zero, Int.add_zero]; exact hn)
    exact this
  | x :: xs, acc, c, m, Q, hn, hc, ha, hs, q => by
    have e : per * ((x :: xs).length : Int) = per + per * (xs.length : Int) := by
      rw [List.length_cons, Int.natCast_add, Int.mul_add, Int.natCast_one, Int.mul_one, Int.add_comm]
    have hp : 0 ≤ per * (xs.length : Int) := Int.mul_nonneg hper (Int.natCast_nonneg _)
    rw [e] at hc q
    refine hs x List.mem_cons_self c m (fun y m2 => wLcGo g tvYes te ρ Qx xs (acc ++ [y]) m2 Q) hn (by omega) fun y m' hy hm => ?_
    refine lc_draw hper G xs (acc ++ [y]) (c + per) m' Q (hn.step hm) (by omega) (fun d hd => ?_) (fun x' hx' => hs x' (List.mem_cons_of_mem _ hx')) fun l m2 hl hg hm2 => ?_
    · rcases List.mem_append.mp hd with hd | hd
      · exact ha d hd
      · rw [List.mem_singleton] at hd; subst hd; exact hy
    · refine q l m2 ?_ hg (by rw [← Int.add_assoc]; exact hm2)
      rw [hl, List.length_append, List.length_cons, List.length_cons, List.length_nil]; omega
end GB
namespace K04
open PySem L2 XO DL GB
/-! what is wrong -/
inductive Fl where
  | part (x : D) | name (x : D) | twice (x : D) | cost (x : D) | group (x : D)
def Fl.xn : Fl → Xn
  | .part x => ⟨"InvalidPart", "value", x⟩
  | .name x => ⟨"InvalidName", "value", x⟩
  | .twice x => ⟨"Duplicate", "label", x⟩
  | .cost x => ⟨"UnknownCost", "label", x⟩
  | .group x => ⟨"InvalidGroup", "value", x⟩
def Fl.told : Fl → List D
  | .part x => [.str (Str.ofString "part"), x]
  | .name x => [.str (Str.ofString "name"), x]
  | .twice x => [.str (Str.ofString "twice"), x]
  | .cost x => [.str (Str.ofString "cost"), x]
  | .group x => [.str (Str.ofString "group"), x]
def told : Option Fl → List D
  | none => [.str (Str.ofString "scheme")]
  | some f => f.told
def some_ : Option Fl → List D
  | none => []
  | some f => f.told
def letS (z : Str) : Bool := decide (z.length = 1) && (!decide (z.cps.toList < [97]) && !decide ([122] < z.cps.toList))
def letters (z : Str) : Bool := z.cps.toList.all fun c => letS ⟨#[c]⟩
def isLetter : D → Bool
  | .str z => letS z
  | _ => false
def isLettered : D → Bool
  | .str z => letters z
  | _ => false
def isName : D → Bool
  | .str z => letters z && (decide (1 ≤ z.length) && decide (z.length ≤ 8))
  | _ => false
def dueNames : List D → List D → Option Fl
  | _, [] => none
  | pre, x :: xs => if isName x = true then (if inD x pre = true then some (.twice x) else dueNames (pre ++ [x]) xs) else some (.name x)
def dueCosts (c : D) : Option Fl := match listB c with
  | none => some (.part c)
  | some ds => if 1 ≤ ds.length ∧ ds.length ≤ 4 then dueNames [] ds else some (.part c)
def costB (ns : List D) (x : D) : Bool := strB x && inD x ns
def dueFirst (ns : List D) : List D → Option Fl
  | [] => none
  | x :: xs => if costB ns x = true then dueFirst ns xs else some (.cost x)
def grpL : List D → Option (Str × D)
  | [.str z, c] => if (letters z && (decide (2 ≤ z.length) && decide z.cps.toList.Nodup)) = true then some (z, c) else none
  | _ => none
def grpB (x : D) : Option (Str × D) := match listB x with
  | some ds => grpL ds
  | none => none
def dueGroups (ns : List D) : List Nat → List D → Option Fl
  | _, [] => none
  | tk, g :: gs => match grpB g with
    | none => some (.group g)
    | some (z, c) => if (z.cps.toList.any fun k => decide (k ∈ tk)) = true then some (.group g) else if costB ns c = true then dueGroups ns (tk ++ z.cps.toList) gs else some (.cost c)
def dueSets (ns : List D) (s : D) : Option Fl := match listB s with
  | none => some (.part s)
  | some gs => dueGroups ns [] gs
def dueTurn (ns : List D) (a : D) : Option Fl := if (isNonD a || costB ns a) = true then none else some (.cost a)
def andThen (o o' : Option Fl) : Option Fl := match o with
  | none => o'
  | some f => some f
def itemsOr (c : D) : List D := (listB c).getD []
def due (c p mi ch s a : D) : Option Fl := andThen (dueCosts c) (andThen (dueFirst (itemsOr c) [p, mi, ch]) (andThen (dueSets (itemsOr c) s) (dueTurn (itemsOr c) a)))

/-! the order of letters -/
def insN (x : Nat) : List Nat → List Nat
  | [] => [x]
  | y :: ys => if x ≤ y then x :: y :: ys else y :: insN x ys
def sortN : List Nat → List Nat
  | [] => []
  | x :: xs => insN x (sortN xs)
def nz (z : Str) : Str := ⟨(sortN z.cps.toList).toArray⟩
def nrm (g : D) : D := match grpB g with
  | some (z, c) => .tup [.str (nz z), c]
  | none => g
def nrmP (p : Str × Str) : Str × Str := (nz p.1, p.2)
/-! models -/
structure Md where
  own : List Str
  p : Str
  mi : Str
  ch : Str
  sets : List (Str × Str)
  ab : Option Str
def abD : Option Str → D
  | none => .non
  | some a => .str a
def gOk (z : Str) : Bool := letters z && (decide (2 ≤ z.length) && decide z.cps.toList.Nodup)
structure Own (own : List Str) : Prop where
  nm : ∀ s ∈ own, isName (.str s) = true
  so : ∀ s ∈ own, s.length ≤ 20 ∧ PyData.strOk s = true
  nd : own.Nodup
  lo : 1 ≤ own.length
  hi : own.length ≤ 4
structure Sets (own : List Str) (sets : List (Str × Str)) : Prop where
  ok : ∀ p ∈ sets, gOk p.1 = true ∧ p.1.length ≤ 20 ∧ PyData.strOk p.1 = true ∧ p.2 ∈ own
  nd : ((sets.map fun p => p.1.cps.toList).flatten).Nodup
  len : sets.length ≤ 4
structure Ok (M : Md) : Prop where
  own : Own M.own
  p : M.p ∈ M.own
  mi : M.mi ∈ M.own
  ch : M.ch ∈ M.own
  sets : Sets M.own M.sets
  ab : ∀ a, M.ab = some a → a ∈ M.own
abbrev ownD (own : List Str) : List D := own.map D.str
abbrev setsD (sets : List (Str × Str)) : List D := sets.map pairS
def Md.items (M : Md) : List D := [.lst (ownD M.own), .str M.p, .str M.mi, .str M.ch, .lst (setsD M.sets), abD M.ab]
abbrev attrs : List Str := ["_costs", "_add", "_drop", "_swap", "_groups", "_turn"]
def Md.obj (M : Md) : D := .obj "Scheme" attrs [.tup (ownD M.own), .str M.p, .str M.mi, .str M.ch, .tup (setsD (M.sets.map nrmP)), abD M.ab]
def nine : List Str := ["ab", "ca", "cd", "qr", "st", "bc", "ad", "abcdef", "xyz"]
def A9 (M : Md) : Prop := ∀ p ∈ M.sets, p.1 ∈ nine
/-- as schemes the same -/
def EqO (M M' : Md) : Prop := M.own = M'.own ∧ M.p = M'.p ∧ M.mi = M'.mi ∧ M.ch = M'.ch ∧ M.ab = M'.ab ∧ (M.sets.map nrmP).Perm (M'.sets.map nrmP)
def one (c : Nat) : Str := ⟨#[c]⟩
def dueC (M : Md) (x y : Nat) : Str := match M.sets.find? fun p => decide (x ∈ p.1.cps.toList) && decide (y ∈ p.1.cps.toList) with
  | some p => p.2
  | none => M.ch

/-! ### what each def is worth -/
def F_is_list : DFn := fun ds m Q _ => ∃ x, ds = [x] ∧ typM m x ∧ Q (.bl (isL x)) m
def fun1 (f : D → Bool) : DFn := fun ds m Q _ => ∃ x, ds = [x] ∧ (∃ n, okD x n = true) ∧ Q (.bl (f x)) m
def F_is_letter : DFn := fun1 isLetter
def F_is_lettered : DFn := fun1 isLettered
def F_is_name : DFn := fun1 isName
def F_check_cost : DFn := fun ds m Q Qx => ∃ nm x ns, ds = [nm, x] ∧ listB nm = some ns ∧ ns.all strB = true ∧ (∃ n, okD x n = true) ∧ (if costB ns x = true then Q .non m else Qx (Fl.cost x).xn m)
def F_check_names : DFn := fun ds m Q Qx => ∃ x, ds = [x] ∧
  (((∃ n, okD x n = true) ∧ match dueCosts x with
    | none => Q .non m
    | some f => Qx f.xn m) ∨ (∃ a, x = .box a ∧ m a = some [] ∧ Qx (Fl.part x).xn m))
def F_is_group : DFn := fun ds m Q _ => ∃ x, ds = [x] ∧ (((∃ n, okD x n = true) ∧ Q (.bl (grpB x).isSome) m) ∨ (∃ a l, x = .box a ∧ m a = some l ∧ l.length ≠ 2 ∧ Q (.bl false) m))

def flatL (x : D) : Bool := match listB x with
  | some ds => ds.all flatD
  | none => true
def lastL : List D → Bool
  | [l] => isLetter l
  | _ => false
def stepB (x : D) : Bool := match listB x with
  | some (h :: t) => if inD h [.str (Str.ofString "keep"), .str (Str.ofString "drop"), .str (Str.ofString "turn")] = true then t.isEmpty
    else inD h [.str (Str.ofString "add"), .str (Str.ofString "swap")] && lastL t
  | _ => false
def F_is_step : DFn := fun ds m Q _ => ∃ x, ds = [x] ∧ (∃ n, okD x n = true) ∧ flatL x = true ∧ Q (.bl (stepB x)) m


def F_checked_groups : DFn := fun ds m Q _ => ∃ nm s ns gs, ds = [nm, s] ∧ listB nm = some ns ∧ ns.all strB = true ∧ listB s = some gs ∧ (∃ n, okD s n = true) ∧ dueGroups ns [] gs = none ∧ ∀ m', Sub m m' → Q (.tup (gs.map nrm)) m'
def F_Scheme : DFn := fun ds m Q _ => ∃ c p mi ch s a ns gs, ds = [c, p, mi, ch, s, a] ∧ (∀ x ∈ [c, p, mi, ch, s, a], ∃ n, okD x n = true) ∧ listB c = some ns ∧ ns.all strB = true ∧ dueCosts c = none ∧ dueFirst ns [p, mi, ch] = none ∧
  listB s = some gs ∧ dueGroups ns [] gs = none ∧ (isNonD a || costB ns a) = true ∧ ∀ m', Sub m m' → Q (.obj "Scheme" attrs [.tup ns, p, mi, ch, .tup (gs.map nrm), a]) m'
def F_Scheme___len__ : DFn := fun ds m Q _ => ∃ M : Md, ds = [M.obj] ∧ Q (.int (M.own.length : Nat)) m
/-- what may be asked to be in a scheme -/
def askD (x : D) : Bool := isTyped x || isObj "Scheme" x
def inS (x : D) (own : List Str) : Bool := match x with
  | .str s => decide (s ∈ own)
  | _ => false
def F_Scheme___contains__ : DFn := fun ds m Q _ => ∃ (M : Md) (x : D), ds = [M.obj, x] ∧ askD x = true ∧ Q (.bl (inS x M.own)) m
def F_Scheme___eq__ : DFn := fun ds m Q _ => ∃ (M : Md) (x : D), ds = [M.obj, x] ∧ Ok M ∧ ((isTyped x = true ∧ Q (.bl false) m) ∨ (∃ M' : Md, x = M'.obj ∧ Ok M' ∧ ∀ b : Bool, (b = true ↔ EqO M M') → ∀ m', Sub m m' → Q (.bl b) m'))
def F_Scheme_swap_cost : DFn := fun ds m Q _ => ∃ (M : Md) (x y : Nat), ds = [M.obj, .str (one x), .str (one y)] ∧ letS (one x) = true ∧ letS (one y) = true ∧ PyData.strOk (one x) = true ∧ PyData.strOk (one y) = true ∧ x ≠ y ∧ Ok M ∧ Q (.str (dueC M x y)) m
def F_Scheme_step_cost : DFn := fun ds m Q _ => ∃ (M : Md) (st l : D), ds = [M.obj, st, l] ∧ Ok M ∧ (∃ n, okD l n = true) ∧
  (((st = .tup [.str (Str.ofString "keep")]) ∧ Q .non m) ∨ ((st = .tup [.str (Str.ofString "drop")] ∨ st = .lst [.str (Str.ofString "drop")]) ∧ Q (.str M.mi) m) ∨
   ((∃ z, st = .tup [.str (Str.ofString "add"), .str z] ∧ letS z = true ∧ z.length ≤ 20 ∧ PyData.strOk z = true) ∧ Q (.str M.p) m) ∨ (st = .tup [.str (Str.ofString "turn")] ∧ (∃ a, M.ab = some a ∧ Q (.str a) m)) ∨
   (∃ x y : Nat, st = .tup [.str (Str.ofString "swap"), .str (one y)] ∧ l = .str (one x) ∧ letS (one x) = true ∧ letS (one y) = true ∧ PyData.strOk (one x) = true ∧ PyData.strOk (one y) = true ∧ x ≠ y ∧ Q (.str (dueC M x y)) m))
def gD_Scheme_0 (ds es : List D) : List D := ds ++ es
def gD_Scheme_1 (_ : List D) (es : List D) : List D := match es with
  | [costs, turn, swap, drop, add, groups] => [costs, add, drop, swap, groups, turn]
  | _ => []
def gD_Scheme_2 (ds es : List D) : List D := ds ++ es ++ [.tup [], .non]
def gK_Scheme_step_cost_0 (ds es : List D) : List D := ds ++ es
def gK_Scheme_step_cost_1 (ds _ : List D) : List D := ds ++ [.non]
def gK_Scheme_step_cost_2 (_ es : List D) : List D := es ++ [.non]
def gK_Scheme_swap_cost_0 (_ es : List D) : List D := swap2 es
/-! the law's -/
def F_law_model : DFn := fun ds m Q _ => ∃ (b : Addr) (k : Int) (l : List D), ds = [.box b] ∧ m b = some l ∧ Box l k ∧ k ≤ 100000 ∧ ∀ m' (M : Md), Nx b (k + 20) m m' → Ok M → A9 M → Str.ofString "zz" ∉ M.own → Q (.lst M.items) m'
/-- the items of a model whose groups may be a list that grows -/
def itemsB (M : Md) (s : D) : List D := [.lst (ownD M.own), .str M.p, .str M.mi, .str M.ch, s, abD M.ab]
def F_law_scheme : DFn := fun ds m Q _ => ∃ (M : Md) (s : D), ds = [.lst (itemsB M s)] ∧ itemsD m s = some (setsD M.sets) ∧ Ok M ∧ ∀ m', Sub m m' → Q M.obj m'
def F_law_due_swap : DFn := fun ds m Q _ => ∃ (M : Md) (x y : Nat), ds = [.lst M.items, .str (one x), .str (one y)] ∧ M.sets.length ≤ 1000 ∧ Q (.str (dueC M x y)) m
def F_law_told_right : DFn := fun ds m Q _ => ∃ M : Md, ds = [M.obj, .lst M.items] ∧ Ok M ∧ Str.ofString "zz" ∉ M.own ∧ ∀ m', Sub m m' → Q (.bl true) m'
def F_law_steps_right : DFn := fun ds m Q _ => ∃ M : Md, ds = [M.obj, .lst M.items] ∧ Ok M ∧ ∀ m', Sub m m' → Q (.bl true) m'
def F_law_with : DFn := fun ds m Q _ => ∃ (l : List D) (k : Nat) (x : D), ds = [.lst l, .int (k : Nat), x] ∧ l.length = 6 ∧ k < 6 ∧ Q (.lst (l.set k x)) m
def F_law_equal_right : DFn := fun ds m Q _ => ∃ (M : Md) (b : Addr) (k : Int) (l : List D), ds = [.box b, M.obj, .lst M.items] ∧ m b = some l ∧ Box l k ∧ k ≤ 90000 ∧ Ok M ∧ A9 M ∧ ∀ m', Nx b (k + 100) m m' → Q (.bl true) m'
def F_law : DFn := lawFn 63

def w_is_list : WS := (sRet (wIsiT (wVar 0) ["list", "tuple"]))
def w_is_letter : WS := (sRet (wAnd (wBi dIsi (wCons (wVar 0) (wCons (wC (.ty "str")) wNil))) (wAnd (wOp dEq (wBi dLen (wCons (wVar 0) wNil)) (wC (.int 1))) (wChain dLe dLe (wC (.str (Str.ofString "a"))) (wVar 0) (wC (.str (Str.ofString "z")))))))
def w_is_lettered : WS := (sSeq (sIf (tvNot (wTest (wBi dIsi (wCons (wVar 0) (wCons (wC (.ty "str")) wNil))))) (sRet (wC (.bl false))) sNext) (sRet (wOr (wOp dEq (wVar 0) (wC (.str (Str.ofString "")))) (wAnd (wM0 (wIs Txt.isascii) (wVar 0)) (wAnd (wM0 (wIs Txt.isalpha) (wVar 0)) (wM0 (wIs Txt.islower) (wVar 0)))))))
def w_check_cost : WS := (sIf (tvOr (tvNot (wTest (wBi dIsi (wCons (wVar 1) (wCons (wC (.ty "str")) wNil))))) (wTest (wOp dNotIn (wVar 1) (wVar 0)))) (sRaise "UnknownCost" "label" (wVar 1)) sNext)
def w__law_cell : WS := (sSeq (sIf (wTest (wOp dLt (wVar 1) (wBi dLen (wCons (wVar 0) wNil)))) (sRet (wOp dIx (wVar 0) (wVar 1))) sNext) (sRet (wOp dAdd (wOp dMul (wC (.int 15489799)) (wVar 1)) (wC (.int 1789)))))
def w__law_box : WS := (sRet (wOwn (wCons (wBi dMax (wCons (wC (.int 0)) (wCons (wOp dSub (wVar 0) (wOp dPow (wC (.int 10)) (wC (.int 18)))) wNil))) (wCons (wOp dMod (wVar 0) (wC (.int 2147483629))) (wCons (wC (.int 0)) wNil)))))
def w__law_take : WS := (sSeq (sIf (wTest (wOp dGt (wOp dIx (wVar 0) (wC (.int 0))) (wC (.int 0)))) (sSeq (sSet 3 (wOp dMod (wOp dIx (wVar 0) (wC (.int 0))) (wVar 1))) (sSeq (sPut (wVar 0) (wC (.int 0)) (wOp dDiv (wOp dIx (wVar 0) (wC (.int 0))) (wVar 1))) (sRet (wVar 3)))) sNext) (sSeq (sPut (wVar 0) (wC (.int 2)) (wOp dAdd (wOp dIx (wVar 0) (wC (.int 2))) (wC (.int 1)))) (sSeq (sSet 2 (wOp dMod (wOp dPow (wOp dAdd (wOp dAdd (wOp dIx (wVar 0) (wC (.int 1))) (wOp dMul (wC (.int 15489799)) (wOp dIx (wVar 0) (wC (.int 2))))) (wC (.int 1789))) (wC (.int 5))) (wC (.int 2147483647)))) (sSeq (sSet 2 (wOp dMod (wOp dPow (wOp dAdd (wVar 2) (wOp dMul (wC (.int 104711)) (wOp dIx (wVar 0) (wC (.int 2))))) (wC (.int 3))) (wC (.int 2147483587)))) (sRet (wOp dMod (wOp dDiv (wVar 2) (wC (.int 32))) (wVar 1)))))))
def w__law_due_swap : WS := (sSeq (sSet 3 (wLc (iLst (wOp dIx (wVar 0) (wC (.int 4)))) (gvTup 2 (gvCons (gvName 4) (gvCons (gvName 5) gvNil))) (tvAnd (wTest (wOp dIn (wVar 1) (wVar 4))) (wTest (wOp dIn (wVar 2) (wVar 4)))) (wVar 5) [4, 5])) (sRet (wIf (wTest (wOp (dNilB true) (wVar 3) (wLst wNil))) (wOp dIx (wVar 3) (wC (.int 0))) (wOp dIx (wVar 0) (wC (.int 3))))))
def w__law_with : WS := (sRet (wOp dAdd (wOp dAdd (wSl (wVar 0) wNoPart (wPart (wVar 1))) (wLst (wCons (wVar 2) wNil))) (wSl (wVar 0) (wPart (wOp dAdd (wVar 1) (wC (.int 1)))) wNoPart)))
def w_is_name : WS := (sRet (wAnd (wCall F_is_lettered (wCons (wVar 0) wNil)) (wChain dLe dLe (wC (.int 1)) (wBi dLen (wCons (wVar 0) wNil)) (wC (.int 8)))))
def w_is_group : WS := (sSeq (sIf (tvOr (tvNot (wTest (wCall F_is_list (wCons (wVar 0) wNil)))) (tvOr (wTest (wOp dNe (wBi dLen (wCons (wVar 0) wNil)) (wC (.int 2)))) (tvNot (wTest (wCall F_is_lettered (wCons (wOp dIx (wVar 0) (wC (.int 0))) wNil)))))) (sRet (wC (.bl false))) sNext) (sRet (wAnd (wOp dGe (wBi dLen (wCons (wOp dIx (wVar 0) (wC (.int 0))) wNil)) (wC (.int 2))) (wOp dEq (wLenSet (wOp dIx (wVar 0) (wC (.int 0)))) (wBi dLen (wCons (wOp dIx (wVar 0) (wC (.int 0))) wNil))))))
def w_is_step : WS := (sSeq (sIf (tvOr (tvNot (wTest (wCall F_is_list (wCons (wVar 0) wNil)))) (tvNot (wTru (wVar 0)))) (sRet (wC (.bl false))) sNext) (sSeq (sIf (wTest (wOp dIn (wOp dIx (wVar 0) (wC (.int 0))) (wC (.tup ((["keep", "drop", "turn"] : List Str).map D.str))))) (sRet (wOp dEq (wBi dLen (wCons (wVar 0) wNil)) (wC (.int 1)))) sNext) (sRet (wAnd (wOp dIn (wOp dIx (wVar 0) (wC (.int 0))) (wC (.tup ((["add", "swap"] : List Str).map D.str)))) (wAnd (wOp dEq (wBi dLen (wCons (wVar 0) wNil)) (wC (.int 2))) (wCall F_is_letter (wCons (wOp dIx (wVar 0) (wC (.int 1))) wNil)))))))
def w__law_model : WS := (sSeq (sSet 1 (wLst (wCons (wLst (wCons (wC (.str (Str.ofString "c"))) (wCons (wC (.str (Str.ofString "cc"))) (wCons (wC (.str (Str.ofString "near"))) (wCons (wC (.str (Str.ofString "zzzzzzzz"))) wNil))))) (wCons (wLst (wCons (wC (.str (Str.ofString "b"))) (wCons (wC (.str (Str.ofString "a"))) (wCons (wC (.str (Str.ofString "ab"))) (wCons (wC (.str (Str.ofString "abc"))) wNil))))) (wCons (wLst (wCons (wC (.str (Str.ofString "add"))) (wCons (wC (.str (Str.ofString "drop"))) (wCons (wC (.str (Str.ofString "swap"))) (wCons (wC (.str (Str.ofString "turn"))) wNil))))) wNil))))) (sSeq (sSet 2 (wOp dIx (wVar 1) (wCall F_law_take (wCons (wVar 0) (wCons (wC (.int 3)) wNil))))) (sSeq (sSet 2 (wSl (wVar 2) wNoPart (wPart (wOp dAdd (wC (.int 1)) (wCall F_law_take (wCons (wVar 0) (wCons (wC (.int 4)) wNil))))))) (sSeq (sSet 3 (wLc (iRg1 (wCons (wC (.int 6)) wNil)) (gvName 5) tvYes (wOp dIx (wVar 2) (wCall F_law_take (wCons (wVar 0) (wCons (wBi dLen (wCons (wVar 2) wNil)) wNil)))) [5])) (sSeq (sSet 4 (wOwn (wCons (wLst wNil) (wCons (wLst (wCons (wTup (wCons (wC (.str (Str.ofString "ab"))) (wCons (wOp dIx (wVar 3) (wC (.int 3))) wNil))) wNil)) (wCons (wLst (wCons (wTup (wCons (wC (.str (Str.ofString "ca"))) (wCons (wOp dIx (wVar 3) (wC (.int 3))) wNil))) wNil)) (wCons (wLst (wCons (wTup (wCons (wC (.str (Str.ofString "ab"))) (wCons (wOp dIx (wVar 3) (wC (.int 3))) wNil))) (wCons (wTup (wCons (wC (.str (Str.ofString "cd"))) (wCons (wOp dIx (wVar 3) (wC (.int 4))) wNil))) wNil))) wNil)))))) (sSeq (sAppend (wVar 4) (wCons (wLst (wCons (wTup (wCons (wC (.str (Str.ofString "qr"))) (wCons (wOp dIx (wVar 3) (wC (.int 4))) wNil))) (wCons (wTup (wCons (wC (.str (Str.ofString "st"))) (wCons (wOp dIx (wVar 3) (wC (.int 0))) wNil))) (wCons (wTup (wCons (wC (.str (Str.ofString "bc"))) (wCons (wOp dIx (wVar 3) (wC (.int 3))) wNil))) (wCons (wTup (wCons (wC (.str (Str.ofString "ad"))) (wCons (wOp dIx (wVar 3) (wC (.int 5))) wNil))) wNil))))) wNil)) (sSeq (sAppend (wVar 4) (wCons (wLst (wCons (wTup (wCons (wC (.str (Str.ofString "abcdef"))) (wCons (wOp dIx (wVar 3) (wC (.int 3))) wNil))) (wCons (wTup (wCons (wC (.str (Str.ofString "xyz"))) (wCons (wOp dIx (wVar 3) (wC (.int 4))) wNil))) wNil))) wNil)) (sSeq (sSet 4 (wOp dIx (wVar 4) (wCall F_law_take (wCons (wVar 0) (wCons (wC (.int 6)) wNil))))) (sRet (wLst (wCons (wVar 2) (wCons (wOp dIx (wVar 3) (wC (.int 0))) (wCons (wOp dIx (wVar 3) (wC (.int 1))) (wCons (wOp dIx (wVar 3) (wC (.int 2))) (wCons (wVar 4) (wCons (wOp dIx (wLst (wCons (wC .non) (wCons (wOp dIx (wVar 3) (wC (.int 5))) wNil))) (wCall F_law_take (wCons (wVar 0) (wCons (wC (.int 2)) wNil)))) wNil))))))))))))))))
def w_check_names : WS := (sSeq (sIf (tvOr (tvNot (wTest (wCall F_is_list (wCons (wVar 0) wNil)))) (tvNot (wTest (wChain dLe dLe (wC (.int 1)) (wBi dLen (wCons (wVar 0) wNil)) (wC (.int 4)))))) (sRaise "InvalidPart" "value" (wVar 0)) sNext) (sFor (iEnumB (wCons (wVar 0) wNil)) (gvTup 2 (gvCons (gvName 1) (gvCons (gvName 2) gvNil))) (sSeq (sIf (tvNot (wTest (wCall F_is_name (wCons (wVar 2) wNil)))) (sRaise "InvalidName" "value" (wVar 2)) sNext) (sIf (wTest (wOp dIn (wVar 2) (wSl (wVar 0) wNoPart (wPart (wVar 1))))) (sRaise "Duplicate" "label" (wVar 2)) sNext))))
def w_checked_groups : WS := (sSeq (sIf (tvNot (wTest (wCall F_is_list (wCons (wVar 1) wNil)))) (sRaise "InvalidPart" "value" (wVar 1)) sNext) (sSeq (sSet 2 (wOwn wNil)) (sSeq (sSet 3 (wC (.str (Str.ofString "")))) (sSeq (sFor (iVar 1) (gvName 4) (sSeq (sIf (tvOr (tvNot (wTest (wCall F_is_group (wCons (wVar 4) wNil)))) (wTest (wBi (dBls fun bs => bs.any id) (wCons (wLc (iSg (wOp dIx (wVar 4) (wC (.int 0)))) (gvName 5) tvYes (wOp dIn (wVar 5) (wVar 3)) [5]) wNil)))) (sRaise "InvalidGroup" "value" (wVar 4)) sNext) (sSeq (sDrop (wCallX F_check_cost (wCons (wVar 0) (wCons (wOp dIx (wVar 4) (wC (.int 1))) wNil)))) (sSeq (sAppend (wVar 2) (wCons (wTup (wCons (wJoin (wC (.str (Str.ofString ""))) (wBi dSortedTx (wCons (wOp dIx (wVar 4) (wC (.int 0))) wNil))) (wCons (wOp dIx (wVar 4) (wC (.int 1))) wNil))) wNil)) (sSet 3 (wOp dAdd (wVar 3) (wOp dIx (wVar 4) (wC (.int 0))))))))) (sRet (wBi dTupleM (wCons (wVar 2) wNil)))))))
def w_Scheme___len__ : WS := (sRet (wBi dLen (wCons (wFld "Scheme" "_costs" (wVar 0)) wNil)))
def w_Scheme___contains__ : WS := (sRet (wAnd (wBi (dIsiO "Scheme") (wCons (wVar 1) (wCons (wC (.ty "str")) wNil))) (wOp dIn (wVar 1) (wFld "Scheme" "_costs" (wVar 0)))))
def w_Scheme___eq__ : WS := (sRet (wAnd (wIsC "Scheme" (wVar 1)) (wAnd (wOp dEq (wFld "Scheme" "_costs" (wVar 0)) (wFld "Scheme" "_costs" (wVar 1))) (wAnd (wOp dEq (wFld "Scheme" "_add" (wVar 0)) (wFld "Scheme" "_add" (wVar 1))) (wAnd (wOp dEq (wFld "Scheme" "_drop" (wVar 0)) (wFld "Scheme" "_drop" (wVar 1))) (wAnd (wOp dEq (wFld "Scheme" "_swap" (wVar 0)) (wFld "Scheme" "_swap" (wVar 1))) (wAnd (wOp dEq (wFld "Scheme" "_turn" (wVar 0)) (wFld "Scheme" "_turn" (wVar 1))) (wOp dEq (wBi dSortedPT (wCons (wFld "Scheme" "_groups" (wVar 0)) wNil)) (wBi dSortedPT (wCons (wFld "Scheme" "_groups" (wVar 1)) wNil))))))))))
def w_Scheme_swap_cost : WS := (sSeq (sFor (iTp (wTup (wCons (wVar 1) (wCons (wVar 2) wNil)))) (gvName 3) (sIf (tvNot (wTest (wCall F_is_letter (wCons (wVar 3) wNil)))) (sRaise "InvalidLetter" "value" (wVar 3)) sNext)) (sSeq (sIf (wTest (wOp dEq (wVar 1) (wVar 2))) (sRaise "InvalidLetter" "value" (wVar 2)) sNext) (sSeq (sFor (iTp (wFld "Scheme" "_groups" (wVar 0))) (gvTup 2 (gvCons (gvName 4) (gvCons (gvName 5) gvNil))) (sIf (tvAnd (wTest (wOp dIn (wVar 1) (wVar 4))) (wTest (wOp dIn (wVar 2) (wVar 4)))) (sRet (wVar 5)) sNext)) (sRet (wFld "Scheme" "_swap" (wVar 0))))))
def w_Scheme_init : WZ := (zCons (sDrop (wCallX F_check_names (wCons (wVar 1) wNil))) (zCons (sFor (iTp (wTup (wCons (wVar 2) (wCons (wVar 3) (wCons (wVar 4) wNil))))) (gvName 7) (sDrop (wCallX F_check_cost (wCons (wVar 1) (wCons (wVar 7) wNil))))) (zCons (sSet 8 (wCallX F_checked_groups (wCons (wVar 1) (wCons (wVar 5) wNil)))) (zCons (sIf (wTest (wOp (dIsB true) (wVar 6) (wC .non))) (sDrop (wCallX F_check_cost (wCons (wVar 1) (wCons (wVar 6) wNil)))) sNext) (zSet (wBi dTupleM (wCons (wVar 1) wNil)) (zSet (wVar 2) (zSet (wVar 3) (zSet (wVar 4) (zSet (wVar 8) (zSet (wVar 6) zNil))))))))))
def w_Scheme_step_cost : WS := (sSeq (sIf (tvOr (tvNot (wTest (wCall F_is_step (wCons (wVar 1) wNil)))) (tvAnd (wTest (wOp dEq (wOp dIx (wVar 1) (wC (.int 0))) (wC (.str (Str.ofString "turn"))))) (wTest (wOp (dIsB false) (wFld "Scheme" "_turn" (wVar 0)) (wC .non))))) (sRaise "InvalidStep" "value" (wVar 1)) sNext) (sSeq (sIf (wTest (wOp dEq (wOp dIx (wVar 1) (wC (.int 0))) (wC (.str (Str.ofString "swap"))))) (sSeq (sIf (tvOr (tvNot (wTest (wCall F_is_letter (wCons (wVar 2) wNil)))) (wTest (wOp dEq (wVar 2) (wOp dIx (wVar 1) (wC (.int 1)))))) (sRaise "InvalidLetter" "value" (wVar 2)) sNext) (sRet (wMeth "Scheme" "swap_cost" [] F_Scheme_swap_cost (wVar 0) (wCons (wVar 2) (wCons (wOp dIx (wVar 1) (wC (.int 1))) wNil))))) sNext) (sSeq (sSet 3 (wDctN ["keep", "add", "drop", "turn"] (wCons (wC .non) (wCons (wFld "Scheme" "_add" (wVar 0)) (wCons (wFld "Scheme" "_drop" (wVar 0)) (wCons (wFld "Scheme" "_turn" (wVar 0)) wNil)))))) (sRet (wDGet (wVar 3) (wOp dIx (wVar 1) (wC (.int 0))))))))
def w__law_told_right : WS := (sSeq (sUnp 6 (gvCons (gvName 2) (gvCons (gvName 3) (gvCons (gvName 4) (gvCons (gvName 5) (gvCons (gvName 6) (gvCons (gvName 7) gvNil)))))) (wVar 1)) (sSeq (sSet 8 (wBi dTupleM (wCons (wLc (iLst (wVar 6)) (gvTup 2 (gvCons (gvName 11) (gvCons (gvName 12) gvNil))) tvYes (wTup (wCons (wJoin (wC (.str (Str.ofString ""))) (wBi dSortedTx (wCons (wVar 11) wNil))) (wCons (wVar 12) wNil))) [11, 12]) wNil))) (sSeq (sIf (tvOr (wTest (wOp dNe (wFld "Scheme" "_costs" (wVar 0)) (wBi dTupleM (wCons (wVar 2) wNil)))) (tvOr (wTest (wOp dNe (wFld "Scheme" "_groups" (wVar 0)) (wVar 8))) (wTest (wOp dNe (wBi (dLenO "Scheme" F_Scheme___len__) (wCons (wVar 0) wNil)) (wBi dLen (wCons (wVar 2) wNil)))))) (sRet (wC (.bl false))) sNext) (sSeq (sSet 9 (wLst (wCons (wFld "Scheme" "_add" (wVar 0)) (wCons (wFld "Scheme" "_drop" (wVar 0)) (wCons (wFld "Scheme" "_swap" (wVar 0)) (wCons (wFld "Scheme" "_turn" (wVar 0)) wNil)))))) (sSeq (sIf (tvOr (wTest (wOp dNe (wVar 9) (wLst (wCons (wVar 3) (wCons (wVar 4) (wCons (wVar 5) (wCons (wVar 7) wNil))))))) (wTest (wOp dNe (wLc (iLst (wVar 2)) (gvName 14) tvYes (wOp (dInO "Scheme" F_Scheme___contains__) (wVar 14) (wVar 0)) [14]) (wOp dMul (wLst (wCons (wC (.bl true)) wNil)) (wBi dLen (wCons (wVar 2) wNil)))))) (sRet (wC (.bl false))) sNext) (sSeq (sSet 10 (wLst (wCons (wC (.str (Str.ofString "zz"))) (wCons (wC (.str (Str.ofString ""))) (wCons (wC .non) (wCons (wC (.int 3)) (wCons (wLst (wCons (wC (.str (Str.ofString "c"))) wNil)) (wCons (wTup (wCons (wC (.str (Str.ofString "c"))) wNil)) (wCons (wVar 2) (wCons (wC (.bl true)) (wCons wDct0 wNil))))))))))) (sRet (wOp dEq (wLc (iLst (wVar 10)) (gvName 13) tvYes (wOp (dInO "Scheme" F_Scheme___contains__) (wVar 13) (wVar 0)) [13]) (wOp dMul (wLst (wCons (wC (.bl false)) wNil)) (wC (.int 9)))))))))))
def w__law_steps_right : WS := (sSeq (sUnp 6 (gvCons (gvName 2) (gvCons (gvName 3) (gvCons (gvName 4) (gvCons (gvName 5) (gvCons (gvName 6) (gvCons (gvName 7) gvNil)))))) (wVar 1)) (sSeq (sSet 8 (wLst (wCons (wMethK "Scheme" "step_cost" 1 ([] : List Str).length gK_Scheme_step_cost_1 F_Scheme_step_cost (wVar 0) (wCons (wTup (wCons (wC (.str (Str.ofString "keep"))) wNil)) wNil) wNil) (wCons (wMethK "Scheme" "step_cost" 1 ([] : List Str).length gK_Scheme_step_cost_1 F_Scheme_step_cost (wVar 0) (wCons (wLst (wCons (wC (.str (Str.ofString "drop"))) wNil)) wNil) wNil) (wCons (wMethK "Scheme" "step_cost" 1 (["letter"] : List Str).length gK_Scheme_step_cost_0 F_Scheme_step_cost (wVar 0) (wCons (wTup (wCons (wC (.str (Str.ofString "add"))) (wCons (wC (.str (Str.ofString "q"))) wNil))) wNil) (wCons (wC (.str (Str.ofString "a"))) wNil)) wNil))))) (sSeq (sIf (tvOr (wTest (wOp dNe (wMeth "Scheme" "step_cost" [] F_Scheme_step_cost (wVar 0) (wCons (wTup (wCons (wC (.str (Str.ofString "add"))) (wCons (wC (.str (Str.ofString "a"))) wNil))) (wCons (wC (.str (Str.ofString "a"))) wNil))) (wVar 3))) (tvOr (wTest (wOp dNe (wMeth "Scheme" "step_cost" [] F_Scheme_step_cost (wVar 0) (wCons (wTup (wCons (wC (.str (Str.ofString "drop"))) wNil)) (wCons (wC (.str (Str.ofString "A"))) wNil))) (wVar 4))) (wTest (wOp (dInO "Scheme" F_Scheme___contains__) (wVar 0) (wVar 0))))) (sRet (wC (.bl false))) sNext) (sSeq (sIf (tvOr (wTest (wOp dNe (wVar 8) (wLst (wCons (wC .non) (wCons (wVar 4) (wCons (wVar 3) wNil)))))) (tvAnd (wTest (wOp (dIsB true) (wVar 7) (wC .non))) (wTest (wOp dNe (wMethK "Scheme" "step_cost" 0 (["step"] : List Str).length gK_Scheme_step_cost_2 F_Scheme_step_cost (wVar 0) wNil (wCons (wTup (wCons (wC (.str (Str.ofString "turn"))) wNil)) wNil)) (wVar 7))))) (sRet (wC (.bl false))) sNext) (sSeq (sFor (iSg (wC (.str (Str.ofString "abcdqrst")))) (gvName 9) (sFor (iSg (wC (.str (Str.ofString "abcdqrst")))) (gvName 10) (sIf (wTest (wOp dNe (wVar 9) (wVar 10))) (sSeq (sSet 11 (wCall F_law_due_swap (wCons (wVar 1) (wCons (wVar 9) (wCons (wVar 10) wNil))))) (sSeq (sIf (tvOr (wTest (wOp dNe (wMeth "Scheme" "swap_cost" [] F_Scheme_swap_cost (wVar 0) (wCons (wVar 9) (wCons (wVar 10) wNil))) (wVar 11))) (wTest (wOp dNe (wMethK "Scheme" "swap_cost" 0 (["other", "one"] : List Str).length gK_Scheme_swap_cost_0 F_Scheme_swap_cost (wVar 0) wNil (wCons (wVar 9) (wCons (wVar 10) wNil))) (wVar 11)))) (sRet (wC (.bl false))) sNext) (sIf (wTest (wOp dNe (wMeth "Scheme" "step_cost" [] F_Scheme_step_cost (wVar 0) (wCons (wTup (wCons (wC (.str (Str.ofString "swap"))) (wCons (wVar 10) wNil))) (wCons (wVar 9) wNil))) (wVar 11))) (sRet (wC (.bl false))) sNext))) sNext))) (sRet (wC (.bl true))))))))
def w__law_scheme : WS := (sSeq (sUnp 6 (gvCons (gvName 1) (gvCons (gvName 2) (gvCons (gvName 3) (gvCons (gvName 4) (gvCons (gvName 5) (gvCons (gvName 6) gvNil)))))) (wVar 0)) (sRet (wMake 1 (["add", "drop", "swap", "groups", "turn"] : List Str).length gD_Scheme_0 F_Scheme (wCons (wBi dListM (wCons (wVar 1) wNil)) wNil) (wCons (wVar 2) (wCons (wVar 3) (wCons (wVar 4) (wCons (wBi dListM (wCons (wVar 5) wNil)) (wCons (wVar 6) wNil))))))))
def w__law_equal_right : WS := (sSeq (sPar 3 4 (wCons (wOp dIx (wVar 2) (wC (.int 0))) (wCons (wOp dIx (wVar 2) (wC (.int 4))) wNil))) (sSeq (sSet 5 (wOwn wNil)) (sSeq (sFor (iLst (wListRev (wVar 4))) (gvTup 2 (gvCons (gvName 6) (gvCons (gvName 7) gvNil))) (sAppend (wVar 5) (wCons (wTup (wCons (wJoin (wC (.str (Str.ofString ""))) (wListRev (wBi dListTx (wCons (wVar 6) wNil)))) (wCons (wVar 7) wNil))) wNil))) (sSeq (sSet 8 (wCall F_law_with (wCons (wVar 2) (wCons (wC (.int 4)) (wCons (wVar 5) wNil))))) (sSeq (sIf (tvOr (tvNot (wTest (wOp (dEqO "Scheme" F_Scheme___eq__) (wCall F_law_scheme (wCons (wVar 8) wNil)) (wVar 1)))) (tvOr (wTest (wOp (dNeO "Scheme" F_Scheme___eq__) (wVar 1) (wCall F_law_scheme (wCons (wVar 2) wNil)))) (tvOr (wTest (wOp (dEqO "Scheme" F_Scheme___eq__) (wVar 1) (wC (.int 3)))) (wTest (wOp (dEqO "Scheme" F_Scheme___eq__) (wVar 1) (wC (.str (Str.ofString "scheme")))))))) (sRet (wC (.bl false))) sNext) (sSeq (sSet 9 (wOp dIx (wVar 3) (wCall F_law_take (wCons (wVar 0) (wCons (wBi dLen (wCons (wVar 3) wNil)) wNil))))) (sSeq (sSet 10 (wOp dAddO (wLc (iLst (wLst (wCons (wC (.int 1)) (wCons (wC (.int 2)) (wCons (wC (.int 3)) (wCons (wC (.int 5)) wNil)))))) (gvName 13) tvYes (wCall F_law_with (wCons (wVar 2) (wCons (wVar 13) (wCons (wVar 9) wNil)))) [13]) (wLst (wCons (wCall F_law_with (wCons (wVar 2) (wCons (wC (.int 4)) (wCons (wSl (wVar 4) (wPart (wC (.int 1))) wNoPart) wNil)))) (wCons (wCall F_law_model (wCons (wVar 0) wNil)) wNil))))) (sSeq (sAppend (wVar 10) (wCons (wCall F_law_with (wCons (wVar 2) (wCons (wC (.int 0)) (wCons (wListRev (wVar 3)) wNil)))) wNil)) (sSeq (sAppend (wVar 10) (wCons (wCall F_law_with (wCons (wVar 2) (wCons (wC (.int 4)) (wCons (wLc (iLst (wVar 4)) (gvTup 2 (gvCons (gvName 6) (gvCons (gvName 7) gvNil))) tvYes (wTup (wCons (wVar 6) (wCons (wVar 9) wNil))) [6, 7]) wNil)))) wNil)) (sSeq (sForB 10 (gvName 11) (sSeq (sSet 12 (wAnd (wOp dEq (wSl (wVar 11) wNoPart (wPart (wC (.int 4)))) (wSl (wVar 2) wNoPart (wPart (wC (.int 4))))) (wAnd (wOp dEq (wOp dIx (wVar 11) (wC (.int 5))) (wOp dIx (wVar 2) (wC (.int 5)))) (wOp dEq (wBi dSortedPT (wCons (wOp dIx (wVar 11) (wC (.int 4))) wNil)) (wBi dSortedPT (wCons (wVar 4) wNil)))))) (sIf (tvOr (wTest (wOp dNe (wOp (dEqO "Scheme" F_Scheme___eq__) (wVar 1) (wCall F_law_scheme (wCons (wVar 11) wNil))) (wVar 12))) (wTest (wOp dEq (wOp (dNeO "Scheme" F_Scheme___eq__) (wCall F_law_scheme (wCons (wVar 11) wNil)) (wVar 1)) (wVar 12)))) (sRet (wC (.bl false))) sNext))) (sRet (wC (.bl true)))))))))))))
def w_law : WS := (sSeq (sFor (iRg1 (wCons (wBi dMax (wCons (wC (.int 2)) (wCons (wBi dMin (wCons (wC (.int 8)) (wCons (wBi dLen (wCons (wVar 0) wNil)) wNil))) wNil))) wNil)) (gvName 1) (sSeq (sSet 2 (wCall F_law_box (wCons (wCall F_law_cell (wCons (wVar 0) (wCons (wVar 1) wNil))) wNil))) (sSeq (sSet 3 (wCall F_law_model (wCons (wVar 2) wNil))) (sSeq (sUnp 6 (gvCons (gvName 4) (gvCons (gvName 5) (gvCons (gvName 6) (gvCons (gvName 7) (gvCons (gvName 8) (gvCons (gvName 9) gvNil)))))) (wVar 3)) (sSeq (sPar 10 11 (wCons (wBi dListO (wCons (wVar 4) wNil)) (wCons (wLcO (iLst (wVar 8)) (gvName 13) tvYes (wBi dListO (wCons (wVar 13) wNil)) [13]) wNil))) (sSeq (sSet 12 (wMake 0 (["costs", "turn", "swap", "drop", "add", "groups"] : List Str).length gD_Scheme_1 (lent2 F_Scheme) wNil (wCons (wVar 10) (wCons (wVar 9) (wCons (wVar 7) (wCons (wVar 6) (wCons (wVar 5) (wCons (wVar 11) wNil)))))))) (sSeq (sAppend (wVar 10) (wCons (wC (.str (Str.ofString "late"))) wNil)) (sSeq (sAppend (wVar 11) (wCons (wOwn (wCons (wC (.str (Str.ofString "xy"))) (wCons (wC (.str (Str.ofString "late"))) wNil))) wNil)) (sSeq (sForB 11 (gvName 13) (sPut (wVar 13) (wC (.int 1)) (wC (.str (Str.ofString "late"))))) (sSeq (sIf (tvOr (tvNot (wTest (wCall F_law_told_right (wCons (wVar 12) (wCons (wVar 3) wNil))))) (tvNot (wTest (wCall F_law_steps_right (wCons (wVar 12) (wCons (wVar 3) wNil)))))) (sRet (wC (.bl false))) sNext) (sSeq (sIf (tvNot (wTest (wCall F_law_equal_right (wCons (wVar 2) (wCons (wVar 12) (wCons (wVar 3) wNil)))))) (sRet (wC (.bl false))) sNext) (sIf (tvAnd (wTest (wOp (dNilB false) (wVar 8) (wLst wNil))) (wTest (wOp (dIsB false) (wVar 9) (wC .non)))) (sIf (wTest (wOp (dNeO "Scheme" F_Scheme___eq__) (wMake 1 (["add", "drop", "swap"] : List Str).length gD_Scheme_2 F_Scheme (wCons (wBi dTupleM (wCons (wVar 4) wNil)) wNil) (wCons (wVar 5) (wCons (wVar 6) (wCons (wVar 7) wNil)))) (wVar 12))) (sRet (wC (.bl false))) sNext) sNext)))))))))))) (sRet (wC (.bl true))))
end K04
namespace K04
open PySem L2 XO DL GB
theorem r_is_list : ∀ ds m Qd Qx, F_is_list ds m Qd Qx → w_is_list { nx := fun _ m' => Qd .non m', rt := Qd } (ds.map some ++ List.replicate (1 - ds.length) none) m := by
  rintro ds m Qd Qx ⟨x, rfl, hx, h⟩
  exact ⟨hx, _, isaLT x, h⟩
theorem r_is_letter : ∀ ds m Qd Qx, F_is_letter ds m Qd Qx → w_is_letter { nx := fun _ m' => Qd .non m', rt := Qd } (ds.map some ++ List.replicate (1 - ds.length) none) m := by
  rintro ds m Qd Qx ⟨x, rfl, ⟨n, hx⟩, h⟩
  refine ⟨okD.ty hx, _, isa_str, ifb (fun e => ?_) (fun e => ?_)⟩
  · cases x <;> first | (cases e; done) | skip
    rename_i z
    refine ⟨small_line (by have := (okD.str hx).1; omega), ?_⟩
    have h : Qd (.bl (letS z)) m := h
    unfold letS at h
    show if (decide ((z.length : Int) = 1) ^^ false) = true then _ else _
    have e1 : decide ((z.length : Int) = 1) = decide (z.length = 1) := dec_eq rfl rfl
    rw [Bool.xor_false, e1]
    refine ifb (fun e => ?_) (fun e => ?_)
    · rw [e, Bool.true_and] at h
      show if (!decide (z.cps.toList < [97])) = true then _ else _
      refine ifb (fun e => ?_) (fun e => ?_)
      · rw [e, Bool.true_and] at h
        exact h
      · rw [e] at h
        exact h
    · rw [e] at h
      exact h
  · cases x <;> first | (cases e; done) | exact h
theorem letS_low (c : Nat) : letS ⟨#[c]⟩ = lowC c := by
  unfold letS lowC
  have e1 : (⟨#[c]⟩ : Str).length = 1 := rfl
  have e2 : (⟨#[c]⟩ : Str).cps.toList = [c] := rfl
  rw [e1, e2]
  simp only [decide_true, Bool.true_and]
  rw [Bool.eq_iff_iff]
  simp only [Bool.and_eq_true, Bool.not_eq_true', decide_eq_true_eq, decide_eq_false_iff_not, List.cons_lt_cons_iff, List.not_lt_nil, and_false, or_false]
  omega
theorem letters_low (z : Str) : letters z = z.cps.toList.all lowC := by
  unfold letters
  congr 1
  funext c
  exact letS_low c
theorem letters_ans (z : Str) : (decide (z = Str.ofString "") || (if (Txt.isascii z) = true then (if Txt.isalpha z = true then Txt.islower z else false) else false)) = letters z := by
  rw [lettered_eq, letters_low]
  cases e : z.cps.toList with
  | nil =>
    have : z = Str.ofString "" := by
      obtain ⟨⟨l⟩⟩ := z
      have e : l = [] := e
      subst e
      rfl
    rw [decide_eq_true this]
    rfl
  | cons c l =>
    have : z ≠ Str.ofString "" := fun h => by
      subst h
      have e : ([] : List Nat) = c :: l := e
      cases e
    rw [decide_eq_false this, Bool.false_or]
    rfl
theorem lettered_go {z : Str} {m : Mem} {Q : D → Mem → Prop} (h : Q (.bl (letters z)) m) : if (decide (z = Str.ofString "") ^^ false) = true then Q (.bl true) m else (wIs Txt.isascii z [] m fun x m1 => match x with
      | .bl c => if c = true then wIs Txt.isalpha z [] m1 (fun x m2 => match x with
        | .bl c => if c = true then wIs Txt.islower z [] m2 Q else Q (.bl false) m2
        | _ => False) else Q (.bl false) m1
      | _ => False) := by
  rw [← letters_ans z] at h
  rw [Bool.xor_false]
  refine ifb (fun e => ?_) (fun e => ?_)
  · rw [e] at h; exact h
  · rw [e, Bool.false_or] at h
    refine ⟨rfl, ?_⟩
    refine ifb (fun e => ?_) (fun e => ?_)
    · rw [if_pos e] at h
      refine ⟨rfl, ?_⟩
      refine ifb (fun e => ?_) (fun e => ?_)
      · rw [if_pos e] at h
        exact ⟨rfl, h⟩
      · rw [if_neg (by rw [e]; exact Bool.false_ne_true)] at h
        exact h
    · rw [if_neg (by rw [e]; exact Bool.false_ne_true)] at h
      exact h
theorem r_is_lettered : ∀ ds m Qd Qx, F_is_lettered ds m Qd Qx → w_is_lettered { nx := fun _ m' => Qd .non m', rt := Qd } (ds.map some ++ List.replicate (1 - ds.length) none) m := by
  rintro ds m Qd Qx ⟨x, rfl, ⟨n, hx⟩, h⟩
  refine ⟨okD.ty hx, _, isa_str, ?_⟩
  refine ifb (fun e => ?_) (fun e => ?_)
  · cases x <;> first | (cases e; done) | exact h
  · cases x <;> first | (cases e; done) | skip
    exact lettered_go h
theorem r_is_name : ∀ ds m Qd Qx, F_is_name ds m Qd Qx → w_is_name { nx := fun _ m' => Qd .non m', rt := Qd } (ds.map some ++ List.replicate (1 - ds.length) none) m := by
  rintro ds m Qd Qx ⟨x, rfl, ⟨n, hx⟩, h⟩
  refine ⟨x, rfl, ⟨n, hx⟩, ifb (fun e => ?_) (fun e => ?_)⟩
  · cases x <;> first | (cases e; done) | skip
    rename_i z
    refine ⟨small_line (by have := (okD.str hx).1; omega), ?_⟩
    have h : Qd (.bl (letters z && (decide (1 ≤ z.length) && decide (z.length ≤ 8)))) m := h
    have e : letters z = true := e
    rw [e, Bool.true_and] at h
    show if decide ((1 : Int) ≤ z.length) = true then _ else _
    have e1 : decide ((1 : Int) ≤ z.length) = decide (1 ≤ z.length) := dec_le rfl rfl
    rw [e1]
    refine ifb (fun e => ?_) (fun e => ?_)
    · rw [e, Bool.true_and] at h
      show Qd (.bl (decide ((z.length : Int) ≤ 8))) m
      have e2 : decide ((z.length : Int) ≤ 8) = decide (z.length ≤ 8) := dec_le rfl rfl
      rw [e2]
      exact h
    · rw [e] at h
      exact h
  · cases x <;> first | exact h | skip
    rename_i z
    have h : Qd (.bl (letters z && (decide (1 ≤ z.length) && decide (z.length ≤ 8)))) m := h
    have e : letters z = false := e
    rw [e] at h
    exact h
end K04
namespace K04
open PySem L2 XO DL GB
local macro_rules | `(tactic| walk_at "wg") => `(tactic| simp only [a_test, a_op, a_var, a_c, a_call, a_callX, a_call0, a_nil, a_cons, a_bi, a_tnot, a_tor, a_tand, a_tru, a_yes, a_if, a_and, a_or, a_not, a_chain, a_sl, a_noPart, a_part, a_lst, a_tup, a_dct0, a_own, a_isT, a_next, a_seq, a_ret, a_drop, a_sif, a_set, a_raise, a_for, a_iVar, a_fld, a_lc, a_iEnumB, a_iEnumS, a_iSg, a_iLst, a_iTp, a_join, a_lenSet, a_append, a_put, a_par, a_unp, a_meth, a_make, a_rg1, a_gTup, a_gName, a_gNil, a_gCons, a_loopN, wipeD, List.map_cons, List.map_nil, List.length_cons, List.length_nil, List.cons_append, List.nil_append, List.replicate_succ, List.replicate_zero, List.append_nil, List.getElem?_cons_zero, List.getElem?_cons_succ, List.set_cons_zero, List.set_cons_succ, Nat.reduceAdd, Nat.reduceSub, Bool.not_true, Bool.not_false, reduceIte, Bool.false_eq_true, true_and])
theorem flat_strs {ns : List D} (h : ns.all strB = true) : ns.all flatD = true := by
  rw [List.all_eq_true] at h ⊢
  intro x hx
  have := h x hx
  cases x <;> first | rfl | cases this
theorem listB_cases {x : D} {ds : List D} (h : listB x = some ds) : x = .lst ds ∨ x = .tup ds := by
  cases x <;> first | (cases h; exact Or.inl rfl) | (cases h; exact Or.inr rfl) | cases h
theorem listB_isL {x : D} {ds : List D} (h : listB x = some ds) : isL x = true := by
  rcases listB_cases h with rfl | rfl <;> rfl
theorem no_list {x : D} (h : listB x = none) {n : Nat} (hx : okD x n = true) : isL x = false := by
  cases x <;> first | rfl | (cases h; done) | (simp [okD] at hx)
theorem notIn_list {x nm : D} {ns : List D} {m : Mem} {Q : D → Mem → Prop} (hl : listB nm = some ns) (hx : flatD x = true) (hs : ns.all flatD = true) (q : Q (.bl (inD x ns ^^ true)) m) : dNotIn x nm m Q := by
  rcases listB_cases hl with rfl | rfl
  · cases x <;> first | exact ⟨rfl, hs, q⟩ | cases hx
  · cases x <;> first | exact ⟨rfl, hs, q⟩ | cases hx
theorem in_list {x nm : D} {ns : List D} {m : Mem} {Q : D → Mem → Prop} (hl : listB nm = some ns) (hx : flatD x = true) (hs : ns.all flatD = true) (q : Q (.bl (inD x ns)) m) : dIn x nm m Q := by
  have q : Q (.bl (inD x ns ^^ false)) m := by rw [Bool.xor_false]; exact q
  rcases listB_cases hl with rfl | rfl
  · cases x <;> first | exact ⟨rfl, hs, q⟩ | cases hx
  · cases x <;> first | exact ⟨rfl, hs, q⟩ | cases hx
theorem isi_str {x : D} {n : Nat} {m : Mem} {Q : D → Mem → Prop} (hx : okD x n = true) (q : Q (.bl (strB x)) m) : dIsi [x, .ty "str"] m Q := ⟨okD.ty hx, _, isa_str, q⟩
theorem isi_list {x : D} {n : Nat} {m : Mem} {Q : D → Mem → Prop} (hx : okD x n = true) (q : Q (.bl (lstB x)) m) : dIsi [x, .ty "list"] m Q := ⟨okD.ty hx, _, isa_list, q⟩
theorem r_check_cost : ∀ ds m Qd Qx, F_check_cost ds m Qd Qx → w_check_cost { nx := fun _ m' => Qd .non m', rt := Qd, ex := Qx } (ds.map some ++ List.replicate (2 - ds.length) none) m := by
  rintro ds m Qd Qx ⟨nm, x, ns, rfl, hl, hs, ⟨n, hx⟩, h⟩
  unfold w_check_cost
  walk_at "wg"
  refine isi_str hx ?_
  cases e : strB x with
  | false =>
    have c : costB ns x = false := by unfold costB; rw [e]; rfl
    rw [c] at h
    exact h
  | true =>
    have fx : flatD x = true := by cases x <;> first | rfl | cases e
    walk_at "wg"
    refine notIn_list hl fx (flat_strs hs) ?_
    have c : costB ns x = inD x ns := by unfold costB; rw [e]; rfl
    rw [c] at h
    cases e2 : inD x ns with
    | false => rw [e2] at h; exact h
    | true => rw [e2] at h; exact h
/-! a list's items with their numbers -/
def enumF (k : Nat) : List D → List D
  | [] => []
  | d :: ds => .tup [.int (k : Nat), d] :: enumF (k + 1) ds
theorem enumF_eq (ds : List D) : enumD ds = enumF 0 ds := by
  have go : ∀ (ds : List D) (k : Nat), (ds.mapIdx fun i d => D.tup [.int ((i + k : Nat) : Int), d]) = enumF k ds := by
    intro ds
    induction ds with
    | nil => intro k; rfl
    | cons d ds ih =>
      intro k
      rw [List.mapIdx_cons]
      unfold enumF
      congr 1
      · rw [Nat.zero_add]
      · rw [← ih (k + 1)]
        congr 1
        funext i e
        rw [Nat.add_assoc, Nat.add_comm 1 k]
  exact go ds 0
theorem cut_pre (pre xs : List D) : cutD (pre ++ xs) none (some (pre.length : Int)) = pre := by
  unfold cutD
  rw [HT.sIx_nat, HT.sIx_none, List.length_append, Nat.min_eq_left (by omega), List.drop_zero, Nat.sub_zero, List.take_left']
  rfl
theorem names_flat {pre : List D} (h : ∀ d ∈ pre, isName d = true) : pre.all flatD = true := by
  rw [List.all_eq_true]
  intro x hx
  have := h x hx
  cases x <;> first | rfl | cases this
theorem name_flat {d : D} (h : isName d = true) : flatD d = true := by
  cases d <;> first | rfl | cases h
theorem ok_flat_in {x nm : D} {m : Mem} {Q : D → Mem → Prop} {pre xs : List D} (hl : listB nm = some (pre ++ xs)) (hx : isName x = true) (hp : ∀ d ∈ pre, isName d = true) (q : Q (.bl (inD x pre)) m) :
    dSl nm none (some (pre.length : Int)) m (fun y m1 => dIn x y m1 Q) := by
  have fx := name_flat hx
  rcases listB_cases hl with rfl | rfl
  · show dIn x (.lst (cutD (pre ++ xs) none (some (pre.length : Int)))) m Q
    rw [cut_pre]
    exact in_list rfl fx (names_flat hp) q
  · show dIn x (.tup (cutD (pre ++ xs) none (some (pre.length : Int)))) m Q
    rw [cut_pre]
    exact in_list rfl fx (names_flat hp) q
abbrev namesBody : WS := sSeq (sIf (tvNot (wTest (wCall F_is_name (wCons (wVar 2) wNil)))) (sRaise "InvalidName" "value" (wVar 2)) sNext) (sIf (wTest (wOp dIn (wVar 2) (wSl (wVar 0) wNoPart (wPart (wVar 1))))) (sRaise "Duplicate" "label" (wVar 2)) sNext)
theorem names_loop {c : D} {m : Mem} {E : De} {n : Nat} : ∀ (xs pre : List D) (o1 o2 : Option D), listB c = some (pre ++ xs) → (∀ d ∈ xs, okD d n = true) → (∀ d ∈ pre, isName d = true) →
    (match dueNames pre xs with
      | none => ∀ o1 o2, E.nx [some c, o1, o2] m
      | some f => E.ex f.xn m) → wLoop (gvTup 2 (gvCons (gvName 1) (gvCons (gvName 2) gvNil))) namesBody E (enumF pre.length xs) [some c, o1, o2] m
  | [], pre, o1, o2, _, _, _, h => h o1 o2
  | x :: xs, pre, o1, o2, hl, hx, hp, h => by
    refine ⟨rfl, _, _, rfl, _, _, rfl, rfl, ?_⟩
    refine ⟨x, rfl, ⟨n, hx x List.mem_cons_self⟩, ?_⟩
    unfold dueNames at h
    refine ifb (fun e => ?_) (fun e => ?_)
    · have e : isName x = false := by simpa using e
      rw [e] at h
      exact h
    · have e : isName x = true := by simpa using e
      rw [if_pos e] at h
      refine ok_flat_in hl e hp ?_
      refine ifb (fun e2 => ?_) (fun e2 => ?_)
      · rw [if_pos e2] at h
        exact h
      · rw [if_neg (by rw [e2]; exact Bool.false_ne_true)] at h
        have len : pre.length + 1 = (pre ++ [x]).length := by rw [List.length_append]; rfl
        show wLoop _ _ E (enumF (pre.length + 1) xs) _ m
        rw [len]
        refine names_loop xs (pre ++ [x]) _ _ (by rw [List.append_assoc]; exact hl) (fun d hd => hx d (List.mem_cons_of_mem _ hd)) ?_ h
        intro d hd
        rcases List.mem_append.mp hd with hd | hd
        · exact hp d hd
        · rw [List.mem_singleton] at hd; subst hd; exact e
theorem len_list {x : D} {ds : List D} {m : Mem} {Q : D → Mem → Prop} (h : listB x = some ds) (q : Q (.int (ds.length : Nat)) m) : dLen [x] m Q := by
  rcases listB_cases h with rfl | rfl <;> exact q
theorem r_check_names : ∀ ds m Qd Qx, F_check_names ds m Qd Qx → w_check_names { nx := fun _ m' => Qd .non m', rt := Qd, ex := Qx } (ds.map some ++ List.replicate (3 - ds.length) none) m := by
  rintro ds m Qd Qx ⟨x, rfl, ⟨⟨n, hx⟩, h⟩ | ⟨a, rfl, hm, h⟩⟩
  · unfold w_check_names
    walk_at "wg"
    refine ⟨x, rfl, typedM_of (okD.ty hx), ?_⟩
    cases hl : listB x with
    | none =>
      rw [no_list hl hx]
      unfold dueCosts at h
      rw [hl] at h
      exact h
    | some ds =>
      rw [listB_isL hl]
      have h : (match (if 1 ≤ ds.length ∧ ds.length ≤ 4 then dueNames [] ds else some (Fl.part x)) with
            | none => Qd .non m
            | some f => Qx f.xn m) := by
        unfold dueCosts at h
        rw [hl] at h
        exact h
      walk_at "wg"
      refine len_list hl ?_
      show if decide ((1 : Int) ≤ (ds.length : Nat)) = true then _ else _
      rw [dec_le (i := 1) (j := (ds.length : Nat)) (a := 1) (b := ds.length) rfl rfl]
      by_cases c1 : 1 ≤ ds.length
      · rw [if_pos (decide_eq_true c1)]
        show if (!decide (((ds.length : Nat) : Int) ≤ 4)) = true then _ else _
        rw [dec_le (i := (ds.length : Nat)) (j := 4) (a := ds.length) (b := 4) rfl rfl]
        by_cases c2 : ds.length ≤ 4
        · rw [if_pos ⟨c1, c2⟩] at h
          rw [decide_eq_true c2]
          obtain ⟨k, hk⟩ := okD.items hx hl
          have fin : wLoop (gvTup 2 (gvCons (gvName 1) (gvCons (gvName 2) gvNil))) namesBody { nx := fun _ m' => Qd .non m', rt := Qd, ex := Qx } (enumD ds) [some x, none, none] m := by
            rw [enumF_eq]
            refine names_loop (n := k) ds [] none none hl hk (fun d hd => nomatch hd) ?_
            revert h
            cases dueNames [] ds with
            | none => intro h _ _; exact h
            | some f => exact fun h => h
          rcases listB_cases hl with rfl | rfl <;> exact fin
        · rw [if_neg fun z => c2 z.2] at h
          rw [decide_eq_false c2]
          exact h
      · rw [if_neg fun z => c1 z.1] at h
        rw [decide_eq_false c1]
        exact h
  · exact ⟨_, rfl, by show (m a).isSome = true; rw [hm]; rfl, ⟨_, hm, h⟩⟩
end K04
namespace K04
open PySem L2 XO DL GB
local macro_rules | `(tactic| walk_at "wg") => `(tactic| simp only [a_test, a_op, a_var, a_c, a_call, a_callX, a_call0, a_nil, a_cons, a_bi, a_tnot, a_tor, a_tand, a_tru, a_yes, a_if, a_and, a_or, a_not, a_chain, a_sl, a_noPart, a_part, a_lst, a_tup, a_dct0, a_own, a_isT, a_next, a_seq, a_ret, a_drop, a_sif, a_set, a_raise, a_for, a_iVar, a_fld, a_lc, a_iEnumB, a_iEnumS, a_iSg, a_iLst, a_iTp, a_join, a_lenSet, a_append, a_put, a_par, a_unp, a_meth, a_make, a_rg1, a_gTup, a_gName, a_gNil, a_gCons, a_loopN, wipeD, List.map_cons, List.map_nil, List.length_cons, List.length_nil, List.cons_append, List.nil_append, List.replicate_succ, List.replicate_zero, List.append_nil, List.getElem?_cons_zero, List.getElem?_cons_succ, List.set_cons_zero, List.set_cons_succ, Nat.reduceAdd, Nat.reduceSub, Bool.not_true, Bool.not_false, reduceIte, Bool.false_eq_true, true_and])
/-! groups -/
theorem atI_zero {α : Type} {x : α} {xs : List α} : atI (x :: xs) (0 : Int) = some x := by
  unfold L2.atI ixN
  rw [if_pos (Int.le_refl 0), if_pos (by rw [List.length_cons]; omega)]
  rfl
theorem atI_one {α : Type} {x y : α} {xs : List α} : atI (x :: y :: xs) (1 : Int) = some y := by
  unfold L2.atI ixN
  rw [if_pos (by decide), if_pos (by rw [List.length_cons, List.length_cons]; omega)]
  rfl
theorem ix_list {x : D} {ds : List D} {i : Int} {d : D} {m : Mem} {Q : D → Mem → Prop} (h : listB x = some ds) (hi : atI ds i = some d) (q : Q d m) : dIx x (.int i) m Q := by
  rcases listB_cases h with rfl | rfl <;> exact ⟨d, hi, q⟩
theorem sign_inj {a b : Nat} (h : (⟨#[a]⟩ : Str) = ⟨#[b]⟩) : a = b := by
  have h1 : (#[a] : Array Nat) = #[b] := congrArg Str.cps h
  simpa using h1
theorem nodup_map {α β : Type} {f : α → β} (hf : ∀ a b, f a = f b → a = b) : ∀ {l : List α}, (l.map f).Nodup ↔ l.Nodup
  | [] => by simp
  | a :: l => by
    rw [List.map_cons, List.nodup_cons, List.nodup_cons, nodup_map hf]
    constructor
    · rintro ⟨h1, h2⟩
      exact ⟨fun h => h1 (List.mem_map_of_mem h), h2⟩
    · rintro ⟨h1, h2⟩
      refine ⟨fun h => h1 ?_, h2⟩
      obtain ⟨b, hb, e⟩ := List.mem_map.mp h
      exact hf _ _ e ▸ hb
theorem nodup_rev {α : Type} {l : List α} : l.reverse.Nodup ↔ l.Nodup := by
  unfold List.Nodup
  rw [List.pairwise_reverse]
  constructor <;> exact fun h => h.imp fun h e => h e.symm
theorem unlike_eq (z : Str) : decide ((unlike z : Nat) = z.length) = decide z.cps.toList.Nodup := by
  have h := distinct_all ((z.cps.toList.reverse).map fun c => (⟨#[c]⟩ : Str))
  rw [List.length_map, List.length_reverse, nodup_map (fun a b => sign_inj), nodup_rev] at h
  have e : z.cps.toList.length = z.length := by rw [Array.length_toList]; rfl
  rw [e] at h
  have h : (unlike z : Nat) = z.length ↔ z.cps.toList.Nodup := h
  by_cases c : z.cps.toList.Nodup
  · rw [decide_eq_true c, decide_eq_true (h.mpr c)]
  · rw [decide_eq_false c, decide_eq_false fun z => c (h.mp z)]
theorem two_of {ds : List D} (h : ds.length = 2) : ∃ a b, ds = [a, b] := by
  match ds, h with
  | [a, b], _ => exact ⟨a, b, rfl⟩
theorem dNe_int {i j : Int} {m : Mem} {Q : D → Mem → Prop} (q : Q (.bl (!decide (i = j))) m) : dNe (.int i) (.int j) m Q := by
  show Q (.bl (decide (i = j) ^^ true)) m
  rw [Bool.xor_true]; exact q
theorem dEq_int {i j : Int} {m : Mem} {Q : D → Mem → Prop} (q : Q (.bl (decide (i = j))) m) : dEq (.int i) (.int j) m Q := by
  show Q (.bl (decide (i = j) ^^ false)) m
  rw [Bool.xor_false]; exact q
theorem grpL_ne {ds : List D} (h : ¬ ds.length = 2) : grpL ds = none := by
  unfold grpL
  split
  · exact absurd rfl h
  · rfl
theorem r_is_group : ∀ ds m Qd Qx, F_is_group ds m Qd Qx → w_is_group { nx := fun _ m' => Qd .non m', rt := Qd } (ds.map some ++ List.replicate (1 - ds.length) none) m := by
  rintro ds m Qd Qx ⟨x, rfl, ⟨⟨n, hx⟩, h⟩ | ⟨a, l, rfl, hm, hl, h⟩⟩
  · unfold w_is_group
    walk_at "wg"
    refine ⟨x, rfl, typedM_of (okD.ty hx), ?_⟩
    cases hl : listB x with
    | none =>
      rw [no_list hl hx]
      unfold grpB at h
      rw [hl] at h
      exact h
    | some ds =>
      rw [listB_isL hl]
      obtain ⟨k, hk⟩ := okD.items hx hl
      walk_at "wg"
      refine len_list hl ?_
      refine dNe_int ?_
      rw [dec_eq (i := (ds.length : Nat)) (j := 2) (a := ds.length) (b := 2) rfl rfl]
      by_cases c : ds.length = 2
      · obtain ⟨u, v, rfl⟩ := two_of c
        rw [decide_eq_true c]
        walk_at "wg"
        refine ix_list hl atI_zero ?_
        refine ⟨u, rfl, ⟨k, hk u List.mem_cons_self⟩, ?_⟩
        have hg : grpB x = grpL [u, v] := by unfold grpB; rw [hl]
        rw [hg] at h
        cases u with
        | str z =>
          have h : Qd (.bl (if (letters z && (decide (2 ≤ z.length) && decide z.cps.toList.Nodup)) = true then some (z, v) else none).isSome) m := h
          have hz := okD.str (hk _ List.mem_cons_self)
          cases e : letters z with
          | false =>
            rw [e] at h
            show if (!letters z) = true then _ else _
            rw [e]
            exact h
          | true =>
            rw [e] at h
            show if (!letters z) = true then _ else _
            rw [e]
            walk_at "wg"
            refine ix_list hl atI_zero ?_
            refine ⟨small_line (by omega), ?_⟩
            show if decide ((2 : Int) ≤ (z.length : Nat)) = true then _ else _
            rw [dec_le (i := 2) (j := (z.length : Nat)) (a := 2) (b := z.length) rfl rfl]
            by_cases c2 : 2 ≤ z.length
            · rw [decide_eq_true c2] at h ⊢
              rw [if_pos rfl]
              refine ix_list hl atI_zero ?_
              refine ⟨?_, ?_⟩
              · rw [Array.length_toList]
                show z.length < 4000
                omega
              refine ix_list hl atI_zero ?_
              refine ⟨small_line (by omega), ?_⟩
              refine dEq_int ?_
              rw [dec_eq (i := (unlike z : Nat)) (j := (z.length : Nat)) rfl rfl, unlike_eq]
              rw [Bool.true_and, Bool.true_and] at h
              cases e3 : decide z.cps.toList.Nodup with
              | false => rw [e3] at h; exact h
              | true => rw [e3] at h; exact h
            · rw [decide_eq_false c2] at h ⊢
              exact h
        | _ => exact h
      · rw [decide_eq_false c]
        have hg : grpB x = none := by
          unfold grpB
          rw [hl]
          exact grpL_ne c
        rw [hg] at h
        exact h
  · unfold w_is_group
    walk_at "wg"
    refine ⟨_, rfl, by show (m a).isSome = true; rw [hm]; rfl, ?_⟩
    show if (!true) = true then _ else _
    walk_at "wg"
    refine ⟨_, hm, ?_⟩
    refine dNe_int ?_
    rw [dec_eq (i := (l.length : Nat)) (j := 2) (a := l.length) (b := 2) rfl rfl, decide_eq_false hl]
    exact h
/-! signs in a comprehension -/
theorem lc_signs {j : Nat} {te : WE} {ρ : En0} {Qx : XQ} {m : Mem} (f : Nat → Bool) : ∀ (cs : List Nat) (acc : List D) (Q : D → Mem → Prop), (∀ c ∈ cs, ∀ Q : D → Mem → Prop, Q (.bl (f c)) m → te (ρ.set j (some (.str ⟨#[c]⟩))) m Q Qx) →
    Q (.lst (acc ++ cs.map fun c => D.bl (f c))) m → wLcGo (gvName j) tvYes te ρ Qx (cs.map fun c => D.str ⟨#[c]⟩) acc m Q
  | [], acc, Q, _, h => by
    rw [List.map_nil, List.append_nil] at h
    exact h
  | c :: cs, acc, Q, h1, h => by
    refine h1 c List.mem_cons_self _ ?_
    refine lc_signs f cs (acc ++ [.bl (f c)]) Q (fun e he => h1 e (List.mem_cons_of_mem _ he)) ?_
    rw [List.append_assoc]
    exact h
theorem bls_signs (f : Nat → Bool) : ∀ cs : List Nat, blsD (cs.map fun c => D.bl (f c)) = some (cs.map f)
  | [] => rfl
  | c :: cs => by
    rw [List.map_cons, List.map_cons]
    unfold blsD
    rw [bls_signs f cs]
    rfl
theorem strs_strs : ∀ ys : List Str, strsD (ys.map D.str) = some ys
  | [] => rfl
  | y :: ys => by
    rw [List.map_cons]
    unfold strsD
    rw [strs_strs ys]
    rfl
theorem _root_.GB.Sub.refl (m : Mem) : Sub m m := fun _ _ h => h
theorem _root_.GB.Sub.trans {m m' m'' : Mem} (h : Sub m m') (h' : Sub m' m'') : Sub m m'' := fun b ds e => h' b ds (h b ds e)
theorem _root_.GB.Sub.up {m m' : Mem} (h : Sub m m') {p : Addr} (hp : m p = none) (l : List D) : Sub m (m'.up p l) := by
  intro b ds e
  have : b ≠ p := fun z => by subst z; rw [hp] at e; cases e
  rw [Mem.up_ne this]
  exact h b ds e
abbrev groupBody : WS := sSeq (sIf (tvOr (tvNot (wTest (wCall F_is_group (wCons (wVar 4) wNil)))) (wTest (wBi (dBls fun bs => bs.any id) (wCons (wLc (iSg (wOp dIx (wVar 4) (wC (.int 0)))) (gvName 5) tvYes (wOp dIn (wVar 5) (wVar 3)) [5]) wNil)))) (sRaise "InvalidGroup" "value" (wVar 4)) sNext) (sSeq (sDrop (wCallX F_check_cost (wCons (wVar 0) (wCons (wOp dIx (wVar 4) (wC (.int 1))) wNil)))) (sSeq (sAppend (wVar 2) (wCons (wTup (wCons (wJoin (wC (.str (Str.ofString ""))) (wBi dSortedTx (wCons (wOp dIx (wVar 4) (wC (.int 0))) wNil))) (wCons (wOp dIx (wVar 4) (wC (.int 1))) wNil))) wNil)) (sSet 3 (wOp dAdd (wVar 3) (wOp dIx (wVar 4) (wC (.int 0)))))))
theorem grp_some {x : D} {z : Str} {c : D} (h : grpB x = some (z, c)) : listB x = some [.str z, c] ∧ letters z = true := by
  unfold grpB at h
  split at h
  · rename_i ds e
    unfold grpL at h
    split at h
    · split at h
      · rename_i g
        cases h
        exact ⟨e, (Bool.and_eq_true_iff.mp g).1⟩
      · cases h
    · cases h
  · cases h
theorem sorted_len {ys : List Str} {z : Str} (h : ys.Perm (signL z)) : (ys.map (·.length)).sum + ys.length * (Str.ofString "").length ≤ ys.length ∧ ys.length = z.length := by
  have e1 : ys.length = z.length := by
    rw [h.length_eq]
    unfold signL
    rw [List.length_map, Array.length_toList]
    rfl
  have all1 : ∀ y ∈ ys, y.length = 1 := by
    intro y hy
    obtain ⟨c, _, rfl⟩ := List.mem_map.mp (h.mem_iff.mp hy)
    rfl
  have e2 : (ys.map (·.length)).sum = ys.length := by
    clear h e1
    induction ys with
    | nil => rfl
    | cons y ys ih =>
      rw [List.map_cons, List.sum_cons, List.length_cons, all1 y List.mem_cons_self, ih fun y hy => all1 y (List.mem_cons_of_mem _ hy)]
      omega
  have e3 : (Str.ofString "").length = 0 := by decide
  rw [e2, e3]
  exact ⟨by omega, e1⟩
/-! the letters in order -/
theorem insN_perm (x : Nat) : ∀ l, (insN x l).Perm (x :: l)
  | [] => List.Perm.refl _
  | y :: ys => by
    unfold insN
    split
    · exact List.Perm.refl _
    · exact ((insN_perm x ys).cons y).trans (List.Perm.swap x y ys)
theorem sortN_perm : ∀ l, (sortN l).Perm l
  | [] => List.Perm.refl _
  | x :: xs => (insN_perm x (sortN xs)).trans ((sortN_perm xs).cons x)
theorem insN_sorted (x : Nat) : ∀ l : List Nat, l.Pairwise (· ≤ ·) → (insN x l).Pairwise (· ≤ ·)
  | [], _ => List.pairwise_singleton _ _
  | y :: ys, h => by
    obtain ⟨h1, h2⟩ := List.pairwise_cons.mp h
    unfold insN
    split
    · rename_i c
      refine List.pairwise_cons.mpr ⟨fun z hz => ?_, h⟩
      rcases List.mem_cons.mp hz with rfl | hz
      · exact c
      · exact Nat.le_trans c (h1 z hz)
    · rename_i c
      refine List.pairwise_cons.mpr ⟨fun z hz => ?_, insN_sorted x ys h2⟩
      rcases List.mem_cons.mp ((insN_perm x ys).mem_iff.mp hz) with rfl | hz
      · omega
      · exact h1 z hz
theorem sortN_sorted : ∀ l, (sortN l).Pairwise (· ≤ ·)
  | [] => List.Pairwise.nil
  | x :: xs => insN_sorted x _ (sortN_sorted xs)
theorem sorted_nat : ∀ {a b : List Nat}, a.Perm b → a.Pairwise (· ≤ ·) → b.Pairwise (· ≤ ·) → a = b
  | [], b, h, _, _ => by rw [List.nil_perm.mp h]
  | x :: xs, [], h, _, _ => by have := h.length_eq; simp at this
  | x :: xs, y :: ys, h, ha, hb => by
    obtain ⟨a1, a2⟩ := List.pairwise_cons.mp ha
    obtain ⟨b1, b2⟩ := List.pairwise_cons.mp hb
    have e : x = y := by
      rcases List.mem_cons.mp (h.subset List.mem_cons_self) with e | e
      · exact e
      · rcases List.mem_cons.mp (h.symm.subset List.mem_cons_self) with e' | e'
        · exact e'.symm
        · exact Nat.le_antisymm (a1 _ e') (b1 _ e)
    subst e
    rw [sorted_nat ((List.perm_cons x).mp h) a2 b2]
theorem nz_perm {z z' : Str} (h : z.cps.toList.Perm z'.cps.toList) : nz z = nz z' := by
  unfold nz
  rw [sorted_nat (((sortN_perm _).trans h).trans (sortN_perm _).symm) (sortN_sorted _) (sortN_sorted _)]
theorem nz_cps (z : Str) : (nz z).cps.toList = sortN z.cps.toList := by
  unfold nz
  simp
theorem join_cps : ∀ ys : List Str, (Str.join (Str.ofString "") ys).cps.toList = (ys.map fun y => y.cps.toList).flatten
  | [] => by decide
  | [y] => by
    show y.cps.toList = _
    simp
  | x :: y :: r => by
    show (x ++ Str.ofString "" ++ Str.join (Str.ofString "") (y :: r)).cps.toList = _
    have e0 : (Str.ofString "").cps.toList = [] := by decide
    have ap : ∀ a b : Str, (a ++ b).cps.toList = a.cps.toList ++ b.cps.toList := fun a b => by
      show (a.cps ++ b.cps).toList = _
      rw [Array.toList_append]
    rw [ap, ap, e0, List.append_nil, join_cps (y :: r)]
    simp
theorem singles : ∀ l : List Nat, ((l.map fun c => (⟨#[c]⟩ : Str)).map fun y => y.cps.toList).flatten = l
  | [] => rfl
  | c :: l => by
    rw [List.map_cons, List.map_cons, List.flatten_cons, singles l]
    rfl
theorem ltCps_one (a b : Nat) : PySem.Spec.ltCps [a] [b] = decide (a < b) := by
  by_cases h : a < b
  · rw [decide_eq_true h]; simp [PySem.Spec.ltCps, h]
  · by_cases h2 : a = b
    · subst h2; simp [PySem.Spec.ltCps]
    · rw [decide_eq_false h]; simp [PySem.Spec.ltCps, h]; try omega
theorem rising_nat : ∀ (l : List Nat) (p : Nat), PyProof.Rows.risingS ⟨#[p]⟩ (l.map fun c => (⟨#[c]⟩ : Str)) = true → (p :: l).Pairwise (· ≤ ·)
  | [], p, _ => List.pairwise_singleton _ _
  | x :: l, p, h => by
    have h : (!PySem.Spec.ltCps [x] [p] && PyProof.Rows.risingS ⟨#[x]⟩ (l.map fun c => (⟨#[c]⟩ : Str))) = true := h
    rw [Bool.and_eq_true, ltCps_one, Bool.not_eq_true', decide_eq_false_iff_not] at h
    have r := rising_nat l x h.2
    refine List.pairwise_cons.mpr ⟨fun z hz => ?_, r⟩
    rcases List.mem_cons.mp hz with rfl | hz
    · omega
    · have := (List.pairwise_cons.mp r).1 z hz
      omega
theorem sorted_nat_of {l : List Nat} (h : PyProof.Rows.sortedS (l.map fun c => (⟨#[c]⟩ : Str)) = true) : l.Pairwise (· ≤ ·) := by
  cases l with
  | nil => exact List.Pairwise.nil
  | cons x l => exact rising_nat l x h
/-- the signs of a text, sorted and joined -/
theorem join_nz {z : Str} {ys : List Str} (hp : ys.Perm (signL z)) (hs : PyProof.Rows.sortedS ys = true) : Txt.join (Str.ofString "") ys = nz z := by
  rw [TL.join_eq]
  have base : ∃ l : List Nat, ys = l.map fun c => (⟨#[c]⟩ : Str) := by
    refine ⟨ys.map fun y => y.cps.toList.headD 0, ?_⟩
    rw [List.map_map]
    conv => lhs; rw [← List.map_id ys]
    refine List.map_congr_left fun y hy => ?_
    obtain ⟨c, _, rfl⟩ := List.mem_map.mp (hp.mem_iff.mp hy)
    rfl
  obtain ⟨l, rfl⟩ := base
  have hl : l.Perm z.cps.toList := by
    have h1 := (hp.map fun y => y.cps.toList).flatten
    rw [singles] at h1
    unfold signL at h1
    rw [singles] at h1
    exact h1
  apply str_eq_of
  rw [join_cps, singles, nz_cps]
  exact sorted_nat (hl.trans (sortN_perm _).symm) (sorted_nat_of hs) (sortN_sorted _)
theorem groups_loop {nm s : D} {ns : List D} {m : Mem} {p : Addr} {E : De} {n : Nat} (hnl : listB nm = some ns) (hs : ns.all strB = true) (hp : m p = none) : ∀ (gs : List D) (tk : Str) (out : List D) (m1 : Mem) (o4 o5 : Option D), (∀ d ∈ gs, okD d n = true) → Sub m m1 → m1 p = some out →
    tk.length + 20 * gs.length ≤ 2000000 → out.length + gs.length ≤ 100000 → dueGroups ns tk.cps.toList gs = none →
    (∀ m' tk o4 o5, Sub m m' → m' p = some (out ++ gs.map nrm) → E.nx [some nm, some s, some (.box p), some (.str tk), o4, o5] m') → wLoop (gvName 4) groupBody E gs [some nm, some s, some (.box p), some (.str tk), o4, o5] m1
  | [], tk, out, m1, o4, o5, _, hsub, ho, _, _, _, h => h m1 tk o4 o5 hsub (by rw [List.map_nil, List.append_nil]; exact ho)
  | g :: gs, tk, out, m1, o4, o5, hx, hsub, ho, hb1, hb2, hd, h => by
    rw [a_loopC]
    unfold groupBody
    walk_at "wg"
    refine ⟨g, rfl, Or.inl ⟨⟨n, hx g List.mem_cons_self⟩, ?_⟩⟩
    rw [List.length_cons] at hb1 hb2
    unfold dueGroups at hd
    cases hg : grpB g with
    | none => rw [hg] at hd; cases hd
    | some zc =>
      obtain ⟨z, c⟩ := zc
      rw [hg] at hd
      have hd : (if (z.cps.toList.any fun k => decide (k ∈ tk.cps.toList)) = true then some (Fl.group g) else if costB ns c = true then dueGroups ns (tk.cps.toList ++ z.cps.toList) gs else some (Fl.cost c)) = none := hd
      obtain ⟨hgl, hzl⟩ := grp_some hg
      obtain ⟨k, hk⟩ := okD.items (hx g List.mem_cons_self) hgl
      have hz := okD.str (hk _ List.mem_cons_self)
      have hnrm : nrm g = .tup [.str (nz z), c] := by unfold nrm; rw [hg]
      show if (!true) = true then _ else _
      walk_at "wg"
      refine ix_list hgl atI_zero ?_
      refine ⟨by rw [signs_len]; omega, ?_⟩
      refine lc_signs (fun k => decide (k ∈ tk.cps.toList)) _ _ _ (fun e he Q q => ?_) ?_
      · walk_at "wg"
        refine ⟨e, rfl, ?_⟩
        rw [Bool.xor_false]
        exact q
      · rw [List.nil_append]
        refine ⟨_, bls_signs _ _, ?_⟩
        have ea : ((z.cps.toList.map fun k => decide (k ∈ tk.cps.toList)).any id) = z.cps.toList.any fun k => decide (k ∈ tk.cps.toList) := by
          rw [List.any_map]; rfl
        show if ((z.cps.toList.map fun k => decide (k ∈ tk.cps.toList)).any id) = true then _ else _
        rw [ea]
        refine ifb (fun e1 => ?_) (fun e1 => ?_)
        · rw [if_pos e1] at hd; cases hd
        · rw [if_neg (by rw [e1]; exact Bool.false_ne_true)] at hd
          refine ix_list hgl atI_one ?_
          refine ⟨nm, c, ns, rfl, hnl, hs, ⟨k, hk c (by simp)⟩, ?_⟩
          cases e2 : costB ns c with
          | false => rw [e2] at hd; cases hd
          | true =>
            rw [e2, if_pos rfl] at hd
            rw [if_pos rfl]
            refine ⟨by rw [ho]; rfl, ?_⟩
            refine ix_list hgl atI_zero ?_
            refine ⟨by show z.length ≤ 1000000; omega, fun ys hperm hsort => ?_⟩
            obtain ⟨l1, l2⟩ := sorted_len hperm
            refine ⟨ys, strs_strs ys, by omega, ?_⟩
            rw [join_nz hperm hsort]
            refine ix_list hgl atI_one ?_
            refine ⟨small_line (by decide), ?_⟩
            refine ⟨_, out, rfl, ho, Nat.lt_of_le_of_lt (show out.length ≤ 100000 by omega) (by rw [sizeLine_eq]; decide), ?_⟩
            refine ix_list hgl atI_zero ?_
            refine ⟨Nat.le_trans (show tk.length + z.length ≤ 2000000 by omega) (by rw [sizeLine_eq]; decide), ?_⟩
            have ez : (tk ++ z).cps.toList = tk.cps.toList ++ z.cps.toList := by
              show (tk.cps ++ z.cps).toList = _
              rw [Array.toList_append]
            have lz : (tk ++ z).length = tk.length + z.length := by
              show (tk.cps ++ z.cps).size = _
              rw [Array.size_append]; rfl
            refine groups_loop hnl hs hp gs (tk ++ z) _ _ _ _ (fun d hd => hx d (List.mem_cons_of_mem _ hd)) (hsub.up hp _) Mem.up_same (by rw [lz]; omega) (by rw [List.length_append]; show out.length + 1 + _ ≤ _; omega) (by rw [ez]; exact hd) ?_
            intro m' tk' o4 o5 hs' ho'
            refine h m' tk' o4 o5 hs' ?_
            rw [ho', List.map_cons, hnrm, List.append_assoc]
            rfl
theorem r_checked_groups : ∀ ds m Qd Qx, F_checked_groups ds m Qd Qx → w_checked_groups { nx := fun _ m' => Qd .non m', rt := Qd, ex := Qx } (ds.map some ++ List.replicate (6 - ds.length) none) m := by
  rintro ds m Qd Qx ⟨nm, s, ns, gs, rfl, hl, hs, hsl, ⟨n, hx⟩, hd, h⟩
  unfold w_checked_groups
  walk_at "wg"
  refine ⟨s, rfl, typedM_of (okD.ty hx), ?_⟩
  rw [listB_isL hsl]
  walk_at "wg"
  refine ⟨small_line (by decide), fun p hp => ?_⟩
  obtain ⟨k, hk⟩ := okD.items hx hsl
  have hlen := okD.len hx hsl
  have fin : wLoop (gvName 4) groupBody { nx := fun ρ' m' => wBi dTupleM (wCons (wVar 2) wNil) ρ' m' Qd Qx, rt := Qd, ex := Qx } gs [some nm, some s, some (.box p), some (.str (Str.ofString "")), none, none] (m.up p []) := by
    refine groups_loop (n := k) hl hs hp gs _ [] _ _ _ hk ((GB.Sub.refl m).up hp _) Mem.up_same ?_ ?_ ?_ ?_
    · show (Str.ofString "").length + 20 * gs.length ≤ 2000000
      have : (Str.ofString "").length = 0 := by decide
      omega
    · show 0 + gs.length ≤ 100000
      omega
    · have e0 : (Str.ofString "").cps.toList = [] := by decide
      rw [e0]
      exact hd
    · intro m' tk o4 o5 hsub ho
      exact ⟨_, ho, h m' hsub⟩
  rcases listB_cases hsl with rfl | rfl <;> exact fin

end K04
/-! XQ4: the readings of XB1 to XB4, opened one by one -/
namespace DL
open PySem L2 XO
variable {ρ : En0} {m : Mem} {Q : D → Mem → Prop} {Qx : XQ} {E : De} {w : WE} {d : D}
theorem a_listRev {we : WE} : wListRev we ρ m Q Qx = we ρ m (fun x m1 => match x with
  | .lst ds => Q (.lst ds.reverse) m1
  | _ => False) Qx := rfl
theorem a_methK {n mm : Str} {nn kk : Nat} {gD : List D → List D → List D} {fn : DFn} {wo : WE} {wr wk : WA} : wMethK n mm nn kk gD fn wo wr wk ρ m Q Qx = wo ρ m (fun x m1 => match x with
  | .obj n' ks ds => n' = n ∧ (ks.zip ds).lookup mm = none ∧ ks.length = ds.length ∧ wr ρ m1 (fun as m2 => wk ρ m2 (fun es m3 => as.length = nn ∧ es.length = kk ∧ fn (.obj n' ks ds :: gD as es) m3 Q Qx) Qx) Qx
  | _ => False) Qx := rfl
theorem a_isC {n : Str} {we : WE} : wIsC n we ρ m Q Qx = we ρ m (fun x m1 => match x with
  | .obj n' _ _ => n' = n ∧ Q (.bl true) m1
  | x => typedM m1 x = true ∧ Q (.bl false) m1) Qx := rfl
theorem a_forB {i : Nat} {g : WG} {body : WS} : sForB i g body E ρ m = match ρ[i]? with
  | some (some (.box a)) => ∃ ds0, m a = some ds0 ∧ wLoopB a ds0 g body E ds0 ρ m
  | _ => False := rfl
theorem a_dctN {ks : List Str} {wr : WA} : wDctN ks wr ρ m Q Qx = wr ρ m (fun ds m1 => Q (.dct (ks.map .inr) ds) m1) Qx := rfl
theorem a_dget {we wi : WE} : wDGet we wi ρ m Q Qx = we ρ m (fun x m1 => wi ρ m1 (fun y m2 => match x, y with
  | .dct ks ds, .str s => ∃ d, findD ks ds (.inr s) = some d ∧ Q d m2
  | .dct ks ds, .int i => ∃ d, findD ks ds (.inl i) = some d ∧ Q d m2
  | _, _ => False) Qx) Qx := rfl
theorem a_loopBN {a : Addr} {ds0 : List D} {g : WG} {body : WS} : wLoopB a ds0 g body E [] ρ m = (m a = some ds0 ∧ E.nx ρ m) := rfl
theorem a_loopBC {a : Addr} {ds0 : List D} {g : WG} {body : WS} {ds : List D} : wLoopB a ds0 g body E (d :: ds) ρ m = (m a = some ds0 ∧ g d ρ fun ρ1 => body { E with nx := wLoopB a ds0 g body E ds, ct := wLoopB a ds0 g body E ds, bk := E.nx } ρ1 m) := rfl
/-- a loop over a list that may change elsewhere, by induction -/
theorem loopB_ind {a : Addr} {ds0 : List D} {g : WG} {body : WS} {E : De} {P : List D → En0 → Mem → Prop} (hm : ∀ ds ρ m, P ds ρ m → m a = some ds0) (hnil : ∀ ρ m, P [] ρ m → E.nx ρ m)
    (hcons : ∀ d ds ρ m, P (d :: ds) ρ m → (∀ ρ' m', P ds ρ' m' → wLoopB a ds0 g body E ds ρ' m') → g d ρ fun ρ1 => body { E with nx := wLoopB a ds0 g body E ds, ct := wLoopB a ds0 g body E ds, bk := E.nx } ρ1 m) :
    ∀ ds ρ m, P ds ρ m → wLoopB a ds0 g body E ds ρ m
  | [], ρ, m, h => by rw [a_loopBN]; exact ⟨hm _ _ _ h, hnil ρ m h⟩
  | d :: ds, ρ, m, h => by
    rw [a_loopBC]
    exact ⟨hm _ _ _ h, hcons d ds ρ m h fun ρ' m' h' => loopB_ind hm hnil hcons ds ρ' m' h'⟩
end DL
namespace K04
open PySem L2 XO DL GB
/-! data compared -/
mutual
def shD : D → Nat → Bool
  | .non, _ => true
  | .bl _, _ => true
  | .int _, _ => true
  | .str z, _ => PyData.strOk z
  | .lst ds, n + 1 => shA ds n
  | .tup ds, n + 1 => shA ds n
  | _, _ => false
def shA : List D → Nat → Bool
  | [], _ => true
  | d :: ds, n => shD d n && shA ds n
end
mutual
theorem shD.ok : ∀ (d : D) (n : Nat), shD d n = true → (py d).canLay0 = true ∧ (py d).depth ≤ n
  | .non, n, _ => ⟨by simp [py, PyData.canLay0], by simp [py, PyData.depth]⟩
  | .bl b, n, _ => ⟨by simp [py, PyData.canLay0], by simp [py, PyData.depth]⟩
  | .int i, n, _ => ⟨by simp [py, PyData.canLay0], by simp [py, PyData.depth]⟩
  | .str z, n, h => ⟨by simpa [py, PyData.canLay0, shD] using h, by simp [py, PyData.depth]⟩
  | .lst ds, 0, h => by simp [shD] at h
  | .tup ds, 0, h => by simp [shD] at h
  | .lst ds, n + 1, h => by
    obtain ⟨h1, h2⟩ := shA.ok ds n (by simpa [shD] using h)
    exact ⟨by simpa [py, PyData.canLay0] using h1, by simp only [py, PyData.depth]; omega⟩
  | .tup ds, n + 1, h => by
    obtain ⟨h1, h2⟩ := shA.ok ds n (by simpa [shD] using h)
    exact ⟨by simpa [py, PyData.canLay0] using h1, by simp only [py, PyData.depth]; omega⟩
  | .ty _, _, h => by simp [shD] at h
  | .dct _ _, _, h => by simp [shD] at h
  | .scr _, _, h => by simp [shD] at h
  | .box _, _, h => by simp [shD] at h
  | .obj _ _ _, _, h => by simp [shD] at h
theorem shA.ok : ∀ (ds : List D) (n : Nat), shA ds n = true → PyData.canLayAll0 (pyA ds) = true ∧ PyData.depthAll (pyA ds) ≤ n
  | [], n, _ => ⟨by simp [pyA, PyData.canLayAll0], by simp [pyA, PyData.depthAll]⟩
  | d :: ds, n, h => by
    simp only [shA, Bool.and_eq_true] at h
    obtain ⟨h1, h2⟩ := shD.ok d n h.1
    obtain ⟨h3, h4⟩ := shA.ok ds n h.2
    exact ⟨by simp only [pyA, PyData.canLayAll0, h1, h3, Bool.and_self], by simp only [pyA, PyData.depthAll]; omega⟩
end
theorem shaped_of {d : D} (h : shD d 60 = true) : SeqAt.shaped (py d) = true := by
  obtain ⟨h1, h2⟩ := shD.ok d 60 h
  unfold SeqAt.shaped
  rw [h1, decide_eq_true (by omega)]
  rfl
mutual
/-- no truths, no integers -/
def nbD : D → Bool
  | .non => true
  | .str _ => true
  | .lst ds => nbA ds
  | .tup ds => nbA ds
  | _ => false
def nbA : List D → Bool
  | [] => true
  | d :: ds => nbD d && nbA ds
end
mutual
theorem eqv_nb : ∀ (x y : D), nbD x = true → nbD y = true → PyData.eqv (py x) (py y) = true → x = y
  | .non, y, hx, hy, h => by cases y <;> first | rfl | (simp [nbD] at hy; done) | (simp [py, PyData.eqv] at h)
  | .str a, y, hx, hy, h => by
    cases y <;> first | (simp [nbD] at hy; done) | (simp [py, PyData.eqv] at h; done) | skip
    rename_i b
    have h : a = b := by simpa [py, PyData.eqv] using h
    rw [h]
  | .lst ds, y, hx, hy, h => by
    cases y <;> first | (simp [nbD] at hy; done) | (simp [py, PyData.eqv] at h; done) | skip
    rename_i es
    rw [eqv_nbA ds es (by simpa [nbD] using hx) (by simpa [nbD] using hy) (by simpa [py, PyData.eqv] using h)]
  | .tup ds, y, hx, hy, h => by
    cases y <;> first | (simp [nbD] at hy; done) | (simp [py, PyData.eqv] at h; done) | skip
    rename_i es
    rw [eqv_nbA ds es (by simpa [nbD] using hx) (by simpa [nbD] using hy) (by simpa [py, PyData.eqv] using h)]
  | .bl _, _, h, _, _ => by simp [nbD] at h
  | .int _, _, h, _, _ => by simp [nbD] at h
  | .ty _, _, h, _, _ => by simp [nbD] at h
  | .dct _ _, _, h, _, _ => by simp [nbD] at h
  | .scr _, _, h, _, _ => by simp [nbD] at h
  | .box _, _, h, _, _ => by simp [nbD] at h
  | .obj _ _ _, _, h, _, _ => by simp [nbD] at h
theorem eqv_nbA : ∀ (xs ys : List D), nbA xs = true → nbA ys = true → PyData.eqvAll (pyA xs) (pyA ys) = true → xs = ys
  | [], [], _, _, _ => rfl
  | [], y :: ys, _, _, h => by simp [pyA, PyData.eqvAll] at h
  | x :: xs, [], _, _, h => by simp [pyA, PyData.eqvAll] at h
  | x :: xs, y :: ys, hx, hy, h => by
    simp only [nbA, Bool.and_eq_true] at hx hy
    simp only [pyA, PyData.eqvAll, Bool.and_eq_true] at h
    rw [eqv_nb x y hx.1 hy.1 h.1, eqv_nbA xs ys hx.2 hy.2 h.2]
end
theorem dEq_str {a b : Str} {m : Mem} {Q : D → Mem → Prop} (q : Q (.bl (decide (a = b))) m) : dEq (.str a) (.str b) m Q := by
  show Q (.bl (decide (a = b) ^^ false)) m
  rw [Bool.xor_false]; exact q
section
variable {x y : D} {m : Mem} {Q : D → Mem → Prop}
theorem dEq_nb (hx : shD x 60 = true) (hy : shD y 60 = true) (nx : nbD x = true) (ny : nbD y = true) (q : ∀ b : Bool, (b = true ↔ x = y) → Q (.bl b) m) : dEq x y m Q := by
  have gen : SeqAt.shaped (py x) = true ∧ SeqAt.shaped (py y) = true ∧ Q (.bl (PyData.eqv (py x) (py y) ^^ false)) m := by
    refine ⟨shaped_of hx, shaped_of hy, ?_⟩
    rw [Bool.xor_false]
    refine q _ ⟨fun h => eqv_nb x y nx ny h, fun h => ?_⟩
    subst h
    exact SeqAt.eqv_refl _ (shaped_lay (shaped_of hx))
  cases x <;> first | exact gen | (simp [nbD] at nx; done) | skip
  cases y <;> first | exact gen | (simp [nbD] at ny; done) | skip
  refine dEq_str (q _ ?_)
  rw [decide_eq_true_iff]
  exact ⟨fun h => by rw [h], fun h => by cases h; rfl⟩
theorem dNe_nb (hx : shD x 60 = true) (hy : shD y 60 = true) (nx : nbD x = true) (ny : nbD y = true) (q : ∀ b : Bool, (b = true ↔ x ≠ y) → Q (.bl b) m) : dNe x y m Q := by
  have gen : SeqAt.shaped (py x) = true ∧ SeqAt.shaped (py y) = true ∧ Q (.bl (PyData.eqv (py x) (py y) ^^ true)) m := by
    refine ⟨shaped_of hx, shaped_of hy, ?_⟩
    rw [Bool.xor_true]
    refine q _ ?_
    rw [Bool.not_eq_true']
    refine ⟨fun h e => ?_, fun h => ?_⟩
    · subst e
      rw [SeqAt.eqv_refl _ (shaped_lay (shaped_of hx))] at h
      cases h
    · cases e : PyData.eqv (py x) (py y) with
      | false => rfl
      | true => exact absurd (eqv_nb x y nx ny e) h
  cases x <;> first | exact gen | (simp [nbD] at nx; done) | skip
  cases y <;> first | exact gen | (simp [nbD] at ny; done) | skip
  refine dNe_str (q _ ?_)
  rw [Bool.not_eq_true', decide_eq_false_iff_not]
  exact ⟨fun h e => h (by cases e; rfl), fun h e => h (by rw [e])⟩
theorem dEq_same (hx : shD x 60 = true) (q : Q (.bl true) m) : dEq x x m Q := by
  have gen : SeqAt.shaped (py x) = true ∧ SeqAt.shaped (py x) = true ∧ Q (.bl (PyData.eqv (py x) (py x) ^^ false)) m := by
    refine ⟨shaped_of hx, shaped_of hx, ?_⟩
    rw [Bool.xor_false, SeqAt.eqv_refl _ (shaped_lay (shaped_of hx))]
    exact q
  cases x <;> first | exact gen | skip
  · rename_i b
    show Q (.bl (decide (b = b) ^^ false)) m
    rw [decide_eq_true rfl]; exact q
  · rename_i b
    show Q (.bl (decide (b = b) ^^ false)) m
    rw [decide_eq_true rfl]; exact q
  · rename_i b
    show Q (.bl (decide (b = b) ^^ false)) m
    rw [decide_eq_true rfl]; exact q
theorem dNe_same (hx : shD x 60 = true) (q : Q (.bl false) m) : dNe x x m Q := by
  have gen : SeqAt.shaped (py x) = true ∧ SeqAt.shaped (py x) = true ∧ Q (.bl (PyData.eqv (py x) (py x) ^^ true)) m := by
    refine ⟨shaped_of hx, shaped_of hx, ?_⟩
    rw [Bool.xor_true, SeqAt.eqv_refl _ (shaped_lay (shaped_of hx))]
    exact q
  cases x <;> first | exact gen | skip
  · rename_i b
    show Q (.bl (decide (b = b) ^^ true)) m
    rw [decide_eq_true rfl]; exact q
  · rename_i b
    show Q (.bl (decide (b = b) ^^ true)) m
    rw [decide_eq_true rfl]; exact q
  · rename_i b
    show Q (.bl (decide (b = b) ^^ true)) m
    rw [decide_eq_true rfl]; exact q
theorem dNe_bl {a b : Bool} (q : Q (.bl (a != b)) m) : dNe (.bl a) (.bl b) m Q := by
  show Q (.bl (decide (a = b) ^^ true)) m
  cases a <;> cases b <;> exact q
theorem dEq_bl {a b : Bool} (q : Q (.bl (a == b)) m) : dEq (.bl a) (.bl b) m Q := by
  show Q (.bl (decide (a = b) ^^ false)) m
  cases a <;> cases b <;> exact q
end
/-! texts -/
theorem inD_strs (s : Str) : ∀ l : List Str, inD (.str s) (ownD l) = decide (s ∈ l)
  | [] => rfl
  | x :: l => by
    show (eqD (.str x) (.str s) || inD (.str s) (ownD l)) = _
    rw [inD_strs s l]
    have e : eqD (.str x) (.str s) = decide (s = x) := by
      show (x == s) = _
      by_cases h : x = s
      · subst h; simp
      · rw [decide_eq_false (fun e => h e.symm)]
        exact beq_false_of_ne h
    rw [e, ← Bool.decide_or]
    congr 1
    rw [List.mem_cons]
theorem own_strB (l : List Str) : (ownD l).all strB = true := by
  rw [List.all_map, List.all_eq_true]
  intro _ _; rfl
theorem costB_own {l : List Str} {s : Str} : costB (ownD l) (.str s) = decide (s ∈ l) := by
  show (true && inD (.str s) (ownD l)) = _
  rw [inD_strs, Bool.true_and]
theorem dueNames_own : ∀ (xs pre : List Str), (∀ s ∈ xs, isName (.str s) = true) → (pre ++ xs).Nodup → dueNames (ownD pre) (ownD xs) = none
  | [], _, _, _ => rfl
  | x :: xs, pre, h, hn => by
    show (if isName (.str x) = true then (if inD (.str x) (ownD pre) = true then some (.twice (.str x)) else dueNames (ownD pre ++ [.str x]) (ownD xs)) else some (.name (.str x))) = none
    rw [if_pos (h x List.mem_cons_self), inD_strs, if_neg ?_]
    · have e : ownD pre ++ [.str x] = ownD (pre ++ [x]) := by rw [ownD, ownD, List.map_append]; rfl
      rw [e]
      refine dueNames_own xs (pre ++ [x]) (fun s hs => h s (List.mem_cons_of_mem _ hs)) ?_
      rw [List.append_assoc]; exact hn
    · rw [decide_eq_true_iff]
      intro hx
      rw [List.nodup_append] at hn
      exact hn.2.2 x hx x List.mem_cons_self rfl
section
variable {M : Md} {own : List Str} {sets : List (Str × Str)}
theorem Own.due (h : Own own) {c : D} (hc : listB c = some (ownD own)) : dueCosts c = none := by
  unfold dueCosts
  rw [hc]
  show (if 1 ≤ (ownD own).length ∧ (ownD own).length ≤ 4 then dueNames [] (ownD own) else some (.part c)) = none
  rw [if_pos (by rw [List.length_map]; exact ⟨h.lo, h.hi⟩)]
  exact dueNames_own own [] h.nm (by rw [List.nil_append]; exact h.nd)
theorem Own.okA (h : Own own) : GB.okA (ownD own) 0 = true := by
  refine okA.of fun d hd => ?_
  obtain ⟨s, hs, rfl⟩ := List.mem_map.mp hd
  obtain ⟨h1, h2⟩ := h.so s hs
  simp only [okD, Bool.and_eq_true, decide_eq_true_eq]
  exact ⟨h1, h2⟩
theorem Own.ok1 (h : Own own) {s : Str} (hs : s ∈ own) : ∃ n, okD (.str s) n = true := ⟨0, okA.mem h.okA _ (List.mem_map.mpr ⟨s, hs, rfl⟩)⟩
theorem Own.okL (h : Own own) : okD (.lst (ownD own)) 1 = true := by
  simp only [okD, Bool.and_eq_true, decide_eq_true_eq, List.length_map]
  exact ⟨by have := h.hi; omega, h.okA⟩
theorem Own.okT (h : Own own) : okD (.tup (ownD own)) 1 = true := by
  simp only [okD, Bool.and_eq_true, decide_eq_true_eq, List.length_map]
  exact ⟨by have := h.hi; omega, h.okA⟩
theorem Sets.okA (h : Sets own sets) (ho : Own own) : GB.okA (setsD sets) 1 = true := by
  refine okA.of fun d hd => ?_
  obtain ⟨p, hp, rfl⟩ := List.mem_map.mp hd
  obtain ⟨h1, h2, h3, h4⟩ := h.ok p hp
  unfold pairS
  simp only [okD, GB.okA, Bool.and_eq_true, decide_eq_true_eq]
  exact ⟨by simp, ⟨h2, h3⟩, ho.so p.2 h4, trivial⟩
theorem Sets.okL (h : Sets own sets) (ho : Own own) : okD (.lst (setsD sets)) 2 = true := by
  simp only [okD, Bool.and_eq_true, decide_eq_true_eq, List.length_map]
  exact ⟨by have := h.len; omega, h.okA ho⟩
theorem Sets.okT (h : Sets own sets) (ho : Own own) : okD (.tup (setsD sets)) 2 = true := by
  simp only [okD, Bool.and_eq_true, decide_eq_true_eq, List.length_map]
  exact ⟨by have := h.len; omega, h.okA ho⟩
theorem grp_of {p : Str × Str} (h : gOk p.1 = true) : grpB (pairS p) = some (p.1, .str p.2) := by
  show (if gOk p.1 = true then some (p.1, D.str p.2) else none) = _
  rw [if_pos h]
/-- two letters and a name, as a list or a tuple -/
theorem dueGroups_own {own : List Str} {x : D} {z c : Str} {tk : List Nat} {gs : List D} (hx : listB x = some [.str z, .str c]) (hg : gOk z = true) (hc : c ∈ own) (ht : ∀ k ∈ z.cps.toList, k ∉ tk) (h : dueGroups (ownD own) (tk ++ z.cps.toList) gs = none) :
    dueGroups (ownD own) tk (x :: gs) = none := by
  have e : grpB x = some (z, .str c) := by
    unfold grpB
    rw [hx]
    show (if gOk z = true then some (z, D.str c) else none) = _
    rw [if_pos hg]
  unfold dueGroups
  rw [e]
  show (if (z.cps.toList.any fun k => decide (k ∈ tk)) = true then some (Fl.group x) else if costB (ownD own) (.str c) = true then dueGroups (ownD own) (tk ++ z.cps.toList) gs else some (Fl.cost (.str c))) = none
  rw [if_neg ?_, costB_own, if_pos (decide_eq_true hc)]
  · exact h
  · rw [Bool.not_eq_true, List.any_eq_false]
    intro k hk
    rw [decide_eq_true_eq]
    exact ht k hk
/-- groups as they may be given: lists or tuples of the same -/
def Likes (gs : List D) (sets : List (Str × Str)) : Prop := gs.length = sets.length ∧ ∀ (i : Nat) g p, gs[i]? = some g → sets[i]? = some p → listB g = some [.str p.1, .str p.2]
theorem Likes.nil : Likes [] [] := ⟨rfl, fun i g p h => by simp at h⟩
theorem Likes.cons {g : D} {p : Str × Str} {gs : List D} {sets : List (Str × Str)} (h : listB g = some [.str p.1, .str p.2]) (t : Likes gs sets) : Likes (g :: gs) (p :: sets) :=
  ⟨by rw [List.length_cons, List.length_cons, t.1], fun i g' p' hg hp => by
    cases i with
    | zero => simp at hg hp; subst hg hp; exact h
    | succ i => exact t.2 i g' p' (by simpa using hg) (by simpa using hp)⟩
theorem Likes.of_map {f : Str × Str → D} (hf : ∀ p, listB (f p) = some [.str p.1, .str p.2]) : ∀ sets : List (Str × Str), Likes (sets.map f) sets
  | [] => .nil
  | p :: sets => .cons (hf p) (Likes.of_map hf sets)
theorem Likes.uncons {g : D} {p : Str × Str} {gs : List D} {sets : List (Str × Str)} (h : Likes (g :: gs) (p :: sets)) : listB g = some [.str p.1, .str p.2] ∧ Likes gs sets :=
  ⟨h.2 0 g p rfl rfl, by have := h.1; simpa using this, fun i g' p' hg hp => h.2 (i + 1) g' p' (by simpa using hg) (by simpa using hp)⟩
theorem dueGroups_sets {own : List Str} : ∀ (sets : List (Str × Str)) (gs : List D) (tk : List Nat), Likes gs sets → (∀ p ∈ sets, gOk p.1 = true ∧ p.2 ∈ own) → (tk ++ (sets.map fun p => p.1.cps.toList).flatten).Nodup → dueGroups (ownD own) tk gs = none
  | [], [], _, _, _, _ => rfl
  | [], g :: gs, _, h, _, _ => by have := h.1; simp at this
  | p :: sets, [], _, h, _, _ => by have := h.1; simp at this
  | p :: sets, g :: gs, tk, h, hp, hn => by
    obtain ⟨h1, h2⟩ := h.uncons
    rw [List.map_cons, List.flatten_cons, ← List.append_assoc] at hn
    obtain ⟨q1, q2⟩ := hp p List.mem_cons_self
    refine dueGroups_own h1 q1 q2 (fun k hk ht => ?_) (dueGroups_sets sets gs _ h2 (fun x hx => hp x (List.mem_cons_of_mem _ hx)) hn)
    rw [List.append_assoc, List.nodup_append] at hn
    exact hn.2.2 k ht k (List.mem_append_left _ hk) rfl
theorem nrm_sets : ∀ (sets : List (Str × Str)) (gs : List D), Likes gs sets → (∀ p ∈ sets, gOk p.1 = true) → gs.map nrm = setsD (sets.map nrmP)
  | [], [], _, _ => rfl
  | [], g :: gs, h, _ => by have := h.1; simp at this
  | p :: sets, [], h, _ => by have := h.1; simp at this
  | p :: sets, g :: gs, h, hp => by
    obtain ⟨h1, h2⟩ := h.uncons
    rw [List.map_cons, nrm_sets sets gs h2 fun x hx => hp x (List.mem_cons_of_mem _ hx)]
    show _ :: _ = pairS (nrmP p) :: setsD (sets.map nrmP)
    congr 1
    have e : grpB g = some (p.1, .str p.2) := by
      unfold grpB
      rw [h1]
      show (if gOk p.1 = true then some (p.1, D.str p.2) else none) = _
      rw [if_pos (hp p List.mem_cons_self)]
    unfold nrm
    rw [e]
    rfl
theorem Ok.first (h : Ok M) : dueFirst (ownD M.own) [.str M.p, .str M.mi, .str M.ch] = none := by
  unfold dueFirst
  rw [costB_own, if_pos (decide_eq_true h.p)]
  unfold dueFirst
  rw [costB_own, if_pos (decide_eq_true h.mi)]
  unfold dueFirst
  rw [costB_own, if_pos (decide_eq_true h.ch)]
  rfl
theorem Ok.turn (h : Ok M) : (isNonD (abD M.ab) || costB (ownD M.own) (abD M.ab)) = true := by
  cases e : M.ab with
  | none => rfl
  | some a =>
    show (false || costB (ownD M.own) (.str a)) = true
    rw [costB_own, decide_eq_true (h.ab a e)]
    rfl
theorem Ok.okAb (h : Ok M) : ∃ n, okD (abD M.ab) n = true := by
  cases e : M.ab with
  | none => exact ⟨0, by simp [abD, okD]⟩
  | some a => exact h.own.ok1 (h.ab a e)
/-- a scheme is made of it -/
theorem make_ok (h : Ok M) {c s : D} {gs : List D} (hc : listB c = some (ownD M.own)) (hco : ∃ n, okD c n = true) (hs : listB s = some gs) (hso : ∃ n, okD s n = true) (hl : Likes gs M.sets) {m : Mem} {Q : D → Mem → Prop} {Qx : XQ} (q : ∀ m', Sub m m' → Q M.obj m') :
    F_Scheme [c, .str M.p, .str M.mi, .str M.ch, s, abD M.ab] m Q Qx := by
  refine ⟨c, _, _, _, s, _, ownD M.own, gs, rfl, ?_, hc, own_strB _, h.own.due hc, h.first, hs, ?_, h.turn, fun m' hs' => ?_⟩
  · intro x hx
    simp only [List.mem_cons, List.not_mem_nil, or_false] at hx
    rcases hx with rfl | rfl | rfl | rfl | rfl | rfl
    · exact hco
    · exact h.own.ok1 h.p
    · exact h.own.ok1 h.mi
    · exact h.own.ok1 h.ch
    · exact hso
    · exact h.okAb
  · exact dueGroups_sets M.sets gs [] hl (fun p hp => ⟨(h.sets.ok p hp).1, (h.sets.ok p hp).2.2.2⟩) (by rw [List.nil_append]; exact h.sets.nd)
  · rw [nrm_sets M.sets gs hl fun p hp => (h.sets.ok p hp).1]
    exact q m' hs'
end
end K04
namespace K04
open PySem L2 XO DL GB
local macro_rules | `(tactic| walk_at "wg") => `(tactic| simp only [a_test, a_op, a_var, a_c, a_call, a_callX, a_call0, a_nil, a_cons, a_bi, a_tnot, a_tor, a_tand, a_tru, a_yes, a_if, a_and, a_or, a_not, a_chain, a_sl, a_noPart, a_part, a_lst, a_tup, a_dct0, a_own, a_isT, a_next, a_seq, a_ret, a_drop, a_sif, a_set, a_raise, a_for, a_iVar, a_fld, a_lc, a_iEnumB, a_iEnumS, a_iSg, a_iLst, a_iTp, a_join, a_lenSet, a_append, a_put, a_par, a_unp, a_meth, a_make, a_rg1, a_gTup, a_gName, a_gNil, a_gCons, a_loopN, wipeD, List.map_cons, List.map_nil, List.length_cons, List.length_nil, List.cons_append, List.nil_append, List.replicate_succ, List.replicate_zero, List.append_nil, List.getElem?_cons_zero, List.getElem?_cons_succ, List.set_cons_zero, List.set_cons_succ, Nat.reduceAdd, Nat.reduceSub, Bool.not_true, Bool.not_false, reduceIte, Bool.false_eq_true, true_and])
/-! steps -/
theorem in_texts {x : D} {ss : List Str} {m : Mem} {Q : D → Mem → Prop} (hx : flatD x = true) (q : Q (.bl (inD x (ss.map D.str))) m) : dIn x (.tup (ss.map D.str)) m Q := by
  refine in_list rfl hx ?_ q
  rw [List.all_map, List.all_eq_true]
  intro _ _; rfl
theorem truD_list {x : D} {ds : List D} {m : Mem} (h : listB x = some ds) : truD m x = some (!ds.isEmpty) := by
  rcases listB_cases h with rfl | rfl <;> rfl
theorem r_is_step : ∀ ds m Qd Qx, F_is_step ds m Qd Qx → w_is_step { nx := fun _ m' => Qd .non m', rt := Qd } (ds.map some ++ List.replicate (1 - ds.length) none) m := by
  rintro ds m Qd Qx ⟨x, rfl, ⟨n, hx⟩, hf, h⟩
  unfold w_is_step
  walk_at "wg"
  refine ⟨x, rfl, typedM_of (okD.ty hx), ?_⟩
  cases hl : listB x with
  | none =>
    rw [no_list hl hx]
    unfold stepB at h
    rw [hl] at h
    exact h
  | some ds =>
    rw [listB_isL hl]
    walk_at "wg"
    refine ⟨_, truD_list hl, ?_⟩
    obtain ⟨k, hk⟩ := okD.items hx hl
    unfold stepB at h
    unfold flatL at hf
    rw [hl] at h hf
    cases ds with
    | nil => exact h
    | cons u t =>
      have hf : (u :: t).all flatD = true := hf
      rw [List.all_cons, Bool.and_eq_true] at hf
      have h : Qd (.bl (if inD u [.str (Str.ofString "keep"), .str (Str.ofString "drop"), .str (Str.ofString "turn")] = true then t.isEmpty
        else inD u [.str (Str.ofString "add"), .str (Str.ofString "swap")] && lastL t)) m := h
      show if (!(!(u :: t).isEmpty)) = true then _ else _
      rw [show (!(!(u :: t).isEmpty)) = false from rfl]
      walk_at "wg"
      refine ix_list hl atI_zero ?_
      refine in_list rfl hf.1 rfl ?_
      show if inD u [.str (Str.ofString "keep"), .str (Str.ofString "drop"), .str (Str.ofString "turn")] = true then _ else _
      refine ifb (fun e => ?_) (fun e => ?_)
      · rw [if_pos e] at h
        refine len_list hl ?_
        refine dEq_int ?_
        rw [dec_eq (i := ((u :: t).length : Nat)) (j := 1) (a := (u :: t).length) (b := 1) rfl rfl]
        cases t with
        | nil => exact h
        | cons v t =>
          rw [decide_eq_false (by rw [List.length_cons, List.length_cons]; omega)]
          exact h
      · rw [if_neg (by rw [e]; exact Bool.false_ne_true)] at h
        refine ix_list hl atI_zero ?_
        refine in_list rfl hf.1 rfl ?_
        show if inD u [.str (Str.ofString "add"), .str (Str.ofString "swap")] = true then _ else _
        refine ifb (fun e2 => ?_) (fun e2 => ?_)
        · rw [e2, Bool.true_and] at h
          refine len_list hl ?_
          refine dEq_int ?_
          rw [dec_eq (i := ((u :: t).length : Nat)) (j := 2) (a := (u :: t).length) (b := 2) rfl rfl]
          cases t with
          | nil => exact h
          | cons v t =>
            cases t with
            | nil =>
              show if decide ([u, v].length = 2) = true then _ else _
              rw [decide_eq_true (show [u, v].length = 2 from rfl), if_pos rfl]
              refine ix_list hl atI_one ?_
              exact ⟨v, rfl, ⟨k, hk v (by simp)⟩, h⟩
            | cons w t =>
              rw [decide_eq_false (by rw [List.length_cons, List.length_cons, List.length_cons]; omega)]
              exact h
        · rw [e2, Bool.false_and] at h
          exact h
/-! a scheme is made -/
theorem dueFirst_loop {c : D} {ns : List D} {m : Mem} {E : De} {a : Addr} {v1 v2 v3 v4 v5 : D} (hl : listB c = some ns) (hs : ns.all strB = true) : ∀ (xs : List D) (o7 : Option D), (∀ x ∈ xs, ∃ n, okD x n = true) →
    (match dueFirst ns xs with
      | none => ∀ o7, E.nx [some (.box a), some c, some v1, some v2, some v3, some v4, some v5, o7, none] m
      | some f => E.ex f.xn m) → wLoop (gvName 7) (sDrop (wCallX F_check_cost (wCons (wVar 1) (wCons (wVar 7) wNil)))) E xs [some (.box a), some c, some v1, some v2, some v3, some v4, some v5, o7, none] m
  | [], o7, _, h => h o7
  | x :: xs, o7, hx, h => by
    rw [a_loopC]
    walk_at "wg"
    refine ⟨c, x, ns, rfl, hl, hs, hx x List.mem_cons_self, ?_⟩
    unfold dueFirst at h
    cases e : costB ns x with
    | true =>
      rw [e, if_pos rfl] at h
      rw [if_pos rfl]
      exact dueFirst_loop hl hs xs _ (fun y hy => hx y (List.mem_cons_of_mem _ hy)) h
    | false =>
      rw [e] at h
      exact h
theorem names_str {ds : List D} : ∀ (xs pre : List D), dueNames pre xs = none → xs.all strB = true
  | [], _, _ => rfl
  | x :: xs, pre, h => by
    unfold dueNames at h
    split at h
    · rename_i e
      split at h
      · cases h
      · rw [List.all_cons, names_str (ds := ds) xs _ h, Bool.and_true]
        cases x <;> first | rfl | cases e
    · cases h
theorem costs_none {c : D} (h : dueCosts c = none) : ∃ ns, listB c = some ns ∧ ns.all strB = true := by
  unfold dueCosts at h
  cases hl : listB c with
  | none => rw [hl] at h; cases h
  | some ds =>
    rw [hl] at h
    have h : (if 1 ≤ ds.length ∧ ds.length ≤ 4 then dueNames [] ds else some (.part c)) = none := h
    split at h
    · exact ⟨ds, rfl, names_str (ds := ds) _ _ h⟩
    · cases h
theorem z_set {v : WE} {z : WZ} {ds : List D} {E : List D → Mem → Prop} {Qx : XQ} {ρ : En0} {m : Mem} : zSet v z ds E Qx ρ m = v ρ m (fun d m' => z (ds ++ [d]) E Qx ρ m') Qx := rfl
theorem z_nil {ds : List D} {E : List D → Mem → Prop} {Qx : XQ} {ρ : En0} {m : Mem} : zNil ds E Qx ρ m = E ds m := rfl
theorem z_cons {u : WS} {z : WZ} {ds : List D} {E : List D → Mem → Prop} {Qx : XQ} {ρ : En0} {m : Mem} : zCons u z ds E Qx ρ m = u { nx := fun ρ' m' => ρ'[0]? = ρ[0]? ∧ z ds E Qx ρ' m', rt := fun _ _ => False, ex := Qx } ρ m := rfl
theorem tupleM_list {x : D} {ds : List D} {m : Mem} {Q : D → Mem → Prop} (h : listB x = some ds) (q : Q (.tup ds) m) : dTupleM [x] m Q := by
  rcases listB_cases h with rfl | rfl <;> exact q
theorem r_Scheme_init : ∀ ds m Qd Qx, F_Scheme ds m Qd Qx → ∀ a, w_Scheme_init [] (fun ds' m' => Qd (.obj "Scheme" ["_costs", "_add", "_drop", "_swap", "_groups", "_turn"] ds') m') Qx ((D.box a :: ds).map some ++ List.replicate (9 - (ds.length + 1)) none) m := by
  rintro ds m Qd Qx ⟨c, p, mi, ch, s, t, ns, gs, rfl, hx, hl, hs, hc, h1, hsl, h2, h3, h⟩ a
  unfold w_Scheme_init
  simp only [z_cons, z_set, z_nil]
  walk_at "wg"
  refine ⟨c, rfl, Or.inl ⟨hx c (by simp), ?_⟩⟩
  rw [hc]
  refine ⟨small_line (by decide), ?_⟩
  refine dueFirst_loop hl hs [p, mi, ch] none (fun x hxx => hx x ?_) ?_
  · simp only [List.mem_cons, List.not_mem_nil, or_false] at hxx ⊢
    rcases hxx with rfl | rfl | rfl <;> simp
  rw [h1]
  intro o7
  refine ⟨rfl, ?_⟩
  refine ⟨c, s, ns, gs, rfl, hl, hs, hsl, hx s (by simp), h2, fun m' hsub => ?_⟩
  have h := h m' hsub
  refine ⟨rfl, ?_⟩
  have fin : dTupleM [c] m' (fun d m'_1 => Qd (D.obj "Scheme" ["_costs", "_add", "_drop", "_swap", "_groups", "_turn"] ([] ++ [d] ++ [p] ++ [mi] ++ [ch] ++ [D.tup (gs.map nrm)] ++ [t])) m'_1) := tupleM_list hl h
  show if (isNonD t ^^ true) = true then _ else _
  rw [Bool.xor_true]
  cases e : isNonD t with
  | true => exact fin
  | false =>
    rw [e, Bool.false_or] at h3
    refine ⟨c, t, ns, rfl, hl, hs, hx t (by simp), ?_⟩
    rw [h3, if_pos rfl]
    exact fin
theorem l_Scheme_init : ∀ ds m Q Qx, F_Scheme ds m Q Qx → ds.length + 1 = 7 := by
  rintro ds m Q Qx ⟨c, p, mi, ch, s, a, ns, gs, rfl, _⟩; rfl

end K04
namespace K04
open PySem L2 XO DL GB
local macro_rules | `(tactic| walk_at "wg") => `(tactic| ((try dsimp only); (try rw [a_hold]); (try simp only [List.map_cons, List.map_nil, List.length_cons, List.length_nil, List.cons_append, List.nil_append, List.replicate_succ, List.replicate_zero, Nat.reduceAdd, Nat.reduceSub]); (try simp only [↓a_test, ↓a_v0, ↓a_s0, ↓a_g0, ↓a_v1, ↓a_s1, ↓a_g1, ↓a_v2, ↓a_s2, ↓a_g2, ↓a_v3, ↓a_s3, ↓a_g3, ↓a_v4, ↓a_s4, ↓a_g4, ↓a_v5, ↓a_s5, ↓a_g5, ↓a_v6, ↓a_s6, ↓a_g6, ↓a_v7, ↓a_s7, ↓a_g7, ↓a_v8, ↓a_s8, ↓a_g8, ↓a_v9, ↓a_s9, ↓a_g9, ↓a_v10, ↓a_s10, ↓a_g10, ↓a_v11, ↓a_s11, ↓a_g11, ↓a_v12, ↓a_s12, ↓a_g12, ↓a_v13, ↓a_s13, ↓a_g13, ↓a_v14, ↓a_s14, ↓a_g14, ↓a_v15, ↓a_s15, ↓a_g15, ↓a_v16, ↓a_s16, ↓a_g16, ↓a_v17, ↓a_s17, ↓a_g17, ↓a_v18, ↓a_s18, ↓a_g18, ↓a_v19, ↓a_s19, ↓a_g19, ↓a_v20, ↓a_s20, ↓a_g20, ↓a_v21, ↓a_s21, ↓a_g21, ↓a_v22, ↓a_s22, ↓a_g22, ↓a_v23, ↓a_s23, ↓a_g23, ↓a_v24, ↓a_s24, ↓a_g24, ↓a_v25, ↓a_s25, ↓a_g25, ↓a_v26, ↓a_s26, ↓a_g26, ↓a_v27, ↓a_s27, ↓a_g27, ↓a_star, ↓a_asg2, ↓a_asg4, ↓a_neg, ↓a_zipX, ↓a_callKX, ↓a_get2, ↓a_lcO, ↓a_popAt, ↓a_m0, ↓a_op, ↓a_c, ↓a_call, ↓a_callX, ↓a_call0, ↓a_nil, ↓a_cons, ↓a_bi, ↓a_tnot, ↓a_tor, ↓a_tand, ↓a_tru, ↓a_yes, ↓a_if, ↓a_and, ↓a_or, ↓a_not, ↓a_chain, ↓a_sl, ↓a_noPart, ↓a_part, ↓a_lst, ↓a_tup, ↓a_dct0, ↓a_own, ↓a_isT, ↓a_next, ↓a_seqH, ↓a_ret, ↓a_drop, ↓a_sif, ↓a_raise, ↓a_for, ↓a_iVar, ↓a_fld, ↓a_lc, ↓a_iEnumB, ↓a_iEnumS, ↓a_iSg, ↓a_iLst, ↓a_iTp, ↓a_join, ↓a_lenSet, ↓a_append, ↓a_put, ↓a_par, ↓a_unp, ↓a_meth, ↓a_make, ↓a_listRev, ↓a_methK, ↓a_isC, ↓a_forB, ↓a_dctN, ↓a_dget, ↓a_rg1, ↓a_gTup, ↓a_gNil, ↓a_gCons, ↓a_loopN, wipeD, List.map_cons, List.map_nil, List.length_cons, List.length_nil, List.cons_append, List.nil_append, List.replicate_succ, List.replicate_zero, List.append_nil, List.getElem?_cons_zero, List.getElem?_cons_succ, List.set_cons_zero, List.set_cons_succ, Nat.reduceAdd, Nat.reduceSub, Bool.not_true, Bool.not_false, reduceIte, Bool.false_eq_true, true_and])))
theorem strOk_iff {z : Str} : PyData.strOk z = true ↔ ∀ c ∈ z.cps.toList, PyData.strOk (one c) = true := by
  have e : ∀ c, PyData.strOk (one c) = decide (c < 0x110000) := fun c => by simp [PyData.strOk, one]
  unfold PyData.strOk
  rw [Array.all_eq_true']
  constructor
  · intro h c hc
    have := h c (Array.mem_toList_iff.mp hc)
    show PyData.strOk (one c) = true
    rw [e]; exact this
  · intro h c hc
    have := h c (Array.mem_toList_iff.mpr hc)
    have this : PyData.strOk (one c) = true := this
    rw [e] at this; exact this
theorem r_Scheme___len__ : ∀ ds m Qd Qx, F_Scheme___len__ ds m Qd Qx → w_Scheme___len__ { nx := fun _ m' => Qd .non m', rt := Qd, ex := Qx } (ds.map some ++ List.replicate (1 - ds.length) none) m := by
  rintro ds m Qd Qx ⟨M, rfl, h⟩
  unfold w_Scheme___len__ Md.obj
  walk_at "wg"
  refine ⟨_, rfl, ?_⟩
  refine len_list (ds := ownD M.own) rfl ?_
  rw [List.length_map]
  exact h
theorem r_Scheme___contains__ : ∀ ds m Qd Qx, F_Scheme___contains__ ds m Qd Qx → w_Scheme___contains__ { nx := fun _ m' => Qd .non m', rt := Qd, ex := Qx } (ds.map some ++ List.replicate (2 - ds.length) none) m := by
  rintro ds m Qd Qx ⟨M, x, rfl, hx, h⟩
  unfold w_Scheme___contains__ Md.obj
  walk_at "wg"
  unfold askD at hx
  rw [Bool.or_eq_true] at hx
  rcases hx with hx | hx
  · cases x <;> first | (simp [isTyped] at hx; done) | skip
    case str s =>
      refine ⟨rfl, _, isa_str, ?_⟩
      refine ⟨_, rfl, ?_⟩
      refine in_list (ns := ownD M.own) rfl rfl (flat_strs (own_strB _)) ?_
      rw [inD_strs]
      exact h
    all_goals exact ⟨rfl, _, isa_str, h⟩
  · cases x <;> first | (cases hx; done) | skip
    case obj n ks ds =>
      have e : n = "Scheme" := eq_of_beq hx
      subst e
      exact ⟨rfl, Or.inl rfl, h⟩
/-! equal schemes -/
theorem shA_of {n : Nat} : ∀ {ds : List D}, (∀ d ∈ ds, shD d n = true) → shA ds n = true
  | [], _ => rfl
  | d :: ds, h => by
    simp only [shA, Bool.and_eq_true]
    exact ⟨h d List.mem_cons_self, shA_of fun x hx => h x (List.mem_cons_of_mem _ hx)⟩
theorem nbA_of : ∀ {ds : List D}, (∀ d ∈ ds, nbD d = true) → nbA ds = true
  | [], _ => rfl
  | d :: ds, h => by
    simp only [nbA, Bool.and_eq_true]
    exact ⟨h d List.mem_cons_self, nbA_of fun x hx => h x (List.mem_cons_of_mem _ hx)⟩
theorem Own.shA {own : List Str} (h : Own own) (n : Nat) : K04.shA (ownD own) n = true := shA_of fun d hd => by
  obtain ⟨s, hs, rfl⟩ := List.mem_map.mp hd
  simpa [shD] using (h.so s hs).2
theorem own_nbA (own : List Str) : nbA (ownD own) = true := nbA_of fun d hd => by
  obtain ⟨s, hs, rfl⟩ := List.mem_map.mp hd
  rfl
theorem own_inj {a b : List Str} (h : ownD a = ownD b) : a = b := by
  induction a generalizing b with
  | nil => cases b with
    | nil => rfl
    | cons y b => cases h
  | cons x a ih => cases b with
    | nil => cases h
    | cons y b =>
      injection h with h1 h2
      injection h1 with h1
      rw [h1, ih h2]
theorem sets_inj {a b : List (Str × Str)} (h : setsD a = setsD b) : a = b := by
  induction a generalizing b with
  | nil => cases b with
    | nil => rfl
    | cons y b => cases h
  | cons x a ih => cases b with
    | nil => cases h
    | cons y b =>
      injection h with h1 h2
      unfold pairS at h1
      injection h1 with h1
      injection h1 with h1 h3
      injection h3 with h3 _
      injection h1 with h1
      injection h3 with h3
      rw [ih h2, show x = y from Prod.ext h1 h3]
/-- pairs of texts that can be compared -/
def Tx (ps : List (Str × Str)) : Prop := ∀ p ∈ ps, PyData.strOk p.1 = true ∧ PyData.strOk p.2 = true
theorem Tx.shA {ps : List (Str × Str)} (h : Tx ps) (n : Nat) : K04.shA (setsD ps) (n + 1) = true := shA_of fun d hd => by
  obtain ⟨p, hp, rfl⟩ := List.mem_map.mp hd
  obtain ⟨h1, h2⟩ := h p hp
  simp [pairS, shD, K04.shA, h1, h2]
theorem tx_nbA (ps : List (Str × Str)) : nbA (setsD ps) = true := nbA_of fun d hd => by
  obtain ⟨s, hs, rfl⟩ := List.mem_map.mp hd
  rfl
theorem Tx.perm {ps qs : List (Str × Str)} (h : Tx ps) (hp : qs.Perm ps) : Tx qs := fun p hq => h p (hp.mem_iff.mp hq)
theorem Sets.tx {own : List Str} {sets : List (Str × Str)} (h : Sets own sets) (ho : Own own) : Tx sets := fun p hp => ⟨(h.ok p hp).2.2.1, (ho.so p.2 (h.ok p hp).2.2.2).2⟩
theorem strOk_nz {z : Str} (h : PyData.strOk z = true) : PyData.strOk (nz z) = true := by
  rw [strOk_iff] at h ⊢
  intro c hc
  rw [nz_cps] at hc
  exact h c ((sortN_perm _).mem_iff.mp hc)
theorem Tx.nrm {ps : List (Str × Str)} (h : Tx ps) : Tx (ps.map nrmP) := fun p hp => by
  obtain ⟨q, hq, rfl⟩ := List.mem_map.mp hp
  exact ⟨strOk_nz (h q hq).1, (h q hq).2⟩
theorem perm_sorted {ps ps' qs qs' : List (Str × Str)} (h : qs.Perm ps) (h' : qs'.Perm ps') (s : qs.Pairwise leP) (s' : qs'.Pairwise leP) : qs = qs' ↔ ps.Perm ps' := by
  constructor
  · intro e
    subst e
    exact h.symm.trans h'
  · intro e
    exact sorted_same ((h.trans e).trans h'.symm) s s'
theorem Ok.shAb {M : Md} (h : Ok M) : shD (abD M.ab) 60 = true := by
  cases e : M.ab with
  | none => simp [abD, shD]
  | some a => simpa [abD, shD] using (h.own.so a (h.ab a e)).2
theorem ab_nb (o : Option Str) : nbD (abD o) = true := by cases o <;> rfl
theorem ab_inj {a b : Option Str} (h : abD a = abD b) : a = b := by
  cases a <;> cases b <;> first | rfl | (cases h; done) | skip
  injection h with h
  rw [h]
theorem str_sh {s : Str} (h : PyData.strOk s = true) : shD (.str s) 60 = true := by simpa [shD] using h
theorem r_Scheme___eq__ : ∀ ds m Qd Qx, F_Scheme___eq__ ds m Qd Qx → w_Scheme___eq__ { nx := fun _ m' => Qd .non m', rt := Qd, ex := Qx } (ds.map some ++ List.replicate (2 - ds.length) none) m := by
  rintro ds m Qd Qx ⟨M, x, rfl, hM, h⟩
  unfold w_Scheme___eq__ Md.obj
  walk_at "wg"
  rcases h with ⟨hx, h⟩ | ⟨M', rfl, hM', h⟩
  · cases x <;> first | (simp [isTyped] at hx; done) | exact ⟨rfl, h⟩
  unfold Md.obj
  have no : (¬ EqO M M') → Qd (.bl false) m := fun e => h false ⟨fun z => (nomatch z), fun z => absurd z e⟩ m (Sub.refl m)
  refine ⟨rfl, ?_⟩
  refine ⟨_, rfl, rfl, _, rfl, ?_⟩
  refine dEq_nb (by simpa [shD] using hM.own.shA 59) (by simpa [shD] using hM'.own.shA 59) (by simpa [nbD] using own_nbA _) (by simpa [nbD] using own_nbA _) fun b hb => ?_
  cases b with
  | false => exact no fun e => absurd (hb.mpr (by rw [e.1])) (by decide)
  | true =>
  have e1 : M.own = M'.own := by
    have := hb.mp rfl
    injection this with this
    exact own_inj this
  refine ⟨_, rfl, rfl, _, rfl, ?_⟩
  refine dEq_nb (str_sh (hM.own.so _ hM.p).2) (str_sh (hM'.own.so _ hM'.p).2) rfl rfl fun b hb => ?_
  cases b with
  | false => exact no fun e => absurd (hb.mpr (by rw [e.2.1])) (by decide)
  | true =>
  have e2 : M.p = M'.p := by
    have := hb.mp rfl
    injection this
  refine ⟨_, rfl, rfl, _, rfl, ?_⟩
  refine dEq_nb (str_sh (hM.own.so _ hM.mi).2) (str_sh (hM'.own.so _ hM'.mi).2) rfl rfl fun b hb => ?_
  cases b with
  | false => exact no fun e => absurd (hb.mpr (by rw [e.2.2.1])) (by decide)
  | true =>
  have e3 : M.mi = M'.mi := by
    have := hb.mp rfl
    injection this
  refine ⟨_, rfl, rfl, _, rfl, ?_⟩
  refine dEq_nb (str_sh (hM.own.so _ hM.ch).2) (str_sh (hM'.own.so _ hM'.ch).2) rfl rfl fun b hb => ?_
  cases b with
  | false => exact no fun e => absurd (hb.mpr (by rw [e.2.2.2.1])) (by decide)
  | true =>
  have e4 : M.ch = M'.ch := by
    have := hb.mp rfl
    injection this
  refine ⟨_, rfl, rfl, _, rfl, ?_⟩
  refine dEq_nb hM.shAb hM'.shAb (ab_nb _) (ab_nb _) fun b hb => ?_
  cases b with
  | false => exact no fun e => absurd (hb.mpr (by rw [e.2.2.2.2.1])) (by decide)
  | true =>
  have e5 : M.ab = M'.ab := ab_inj (hb.mp rfl)
  refine ⟨_, rfl, M.sets.map nrmP, Or.inr rfl, fun qs p1 s1 => ?_⟩
  refine ⟨rfl, _, rfl, M'.sets.map nrmP, Or.inr rfl, fun qs' p2 s2 => ?_⟩
  have t1 := (hM.sets.tx hM.own).nrm.perm p1
  have t2 := (hM'.sets.tx hM'.own).nrm.perm p2
  refine dEq_nb (by simpa [shD] using t1.shA 58) (by simpa [shD] using t2.shA 58) (by simpa [nbD] using tx_nbA _) (by simpa [nbD] using tx_nbA _) fun b hb => ?_
  refine h b ?_ m (Sub.refl m)
  rw [hb]
  constructor
  · intro e
    injection e with e
    exact ⟨e1, e2, e3, e4, e5, (perm_sorted p1 p2 s1 s2).mp (sets_inj e)⟩
  · intro e
    rw [(perm_sorted p1 p2 s1 s2).mpr e.2.2.2.2.2]
/-! the cost of a letter for another -/
theorem in_sign {c : Nat} {z : Str} {m : Mem} {Q : D → Mem → Prop} (q : Q (.bl (decide (c ∈ z.cps.toList))) m) : dIn (.str (one c)) (.str z) m Q := by
  refine ⟨c, rfl, ?_⟩
  rw [Bool.xor_false]
  exact q
def inG (x y : Nat) (p : Str × Str) : Bool := decide (x ∈ p.1.cps.toList) && decide (y ∈ p.1.cps.toList)
theorem mem_nz {c : Nat} {z : Str} : decide (c ∈ (nz z).cps.toList) = decide (c ∈ z.cps.toList) := by
  rw [nz_cps]
  by_cases h : c ∈ z.cps.toList
  · rw [decide_eq_true h, decide_eq_true ((sortN_perm _).mem_iff.mpr h)]
  · rw [decide_eq_false h, decide_eq_false fun e => h ((sortN_perm _).mem_iff.mp e)]
theorem dueC_eq {M : Md} {x y : Nat} : dueC M x y = (match M.sets.find? (inG x y) with
  | some p => p.2
  | none => M.ch) := rfl
theorem swap_loop {m : Mem} {E : De} {x y : Nat} {o1 o4 : Option D} : ∀ (sets : List (Str × Str)) (o5 o6 : Option D), (match sets.find? (inG x y) with
    | some p => E.rt (.str p.2) m
    | none => ∀ o5 o6, E.nx [o1, some (.str (one x)), some (.str (one y)), o4, o5, o6] m) →
    wLoop (gvTup 2 (gvCons (gvName 4) (gvCons (gvName 5) gvNil))) (sIf (tvAnd (wTest (wOp dIn (wVar 1) (wVar 4))) (wTest (wOp dIn (wVar 2) (wVar 4)))) (sRet (wVar 5)) sNext) E (setsD (sets.map nrmP)) [o1, some (.str (one x)), some (.str (one y)), o4, o5, o6] m
  | [], o5, o6, h => h o5 o6
  | p :: sets, o5, o6, h => by
    have cons : setsD ((p :: sets).map nrmP) = .tup [.str (nz p.1), .str p.2] :: setsD (sets.map nrmP) := rfl
    rw [cons, a_loopC]
    walk_at "wg"
    rw [List.find?_cons] at h
    refine in_sign ?_
    rw [mem_nz]
    by_cases h1 : x ∈ p.1.cps.toList
    · rw [decide_eq_true h1]
      walk_at "wg"
      refine in_sign ?_
      rw [mem_nz]
      by_cases h2 : y ∈ p.1.cps.toList
      · rw [decide_eq_true h2]
        rw [show inG x y p = true by unfold inG; rw [decide_eq_true h1, decide_eq_true h2]; rfl] at h
        exact h
      · rw [decide_eq_false h2]
        rw [show inG x y p = false by unfold inG; rw [decide_eq_true h1, decide_eq_false h2]; rfl] at h
        exact swap_loop sets _ _ h
    · rw [decide_eq_false h1]
      rw [show inG x y p = false by unfold inG; rw [decide_eq_false h1]; rfl] at h
      exact swap_loop sets _ _ h
theorem one_ok {c : Nat} (h : PyData.strOk (one c) = true) : okD (.str (one c)) 0 = true := by
  simp only [okD, Bool.and_eq_true, decide_eq_true_eq]
  exact ⟨by show 1 ≤ 20; decide, h⟩
theorem r_Scheme_swap_cost : ∀ ds m Qd Qx, F_Scheme_swap_cost ds m Qd Qx → w_Scheme_swap_cost { nx := fun _ m' => Qd .non m', rt := Qd, ex := Qx } (ds.map some ++ List.replicate (6 - ds.length) none) m := by
  rintro ds m Qd Qx ⟨M, x, y, rfl, l1, l2, s1, s2, hxy, hM, h⟩
  unfold w_Scheme_swap_cost Md.obj
  walk_at "wg"
  refine ⟨small_line (by decide), ?_⟩
  have e1 : isLetter (.str (one x)) = true := l1
  have e2 : isLetter (.str (one y)) = true := l2
  rw [a_loopC]
  walk_at "wg"
  refine ⟨_, rfl, ⟨0, one_ok s1⟩, ?_⟩
  rw [e1]
  walk_at "wg"
  rw [a_loopC]
  walk_at "wg"
  refine ⟨_, rfl, ⟨0, one_ok s2⟩, ?_⟩
  rw [e2]
  walk_at "wg"
  refine dEq_str ?_
  have e3 : decide (one x = one y) = false := decide_eq_false (fun e => hxy (sign_inj e))
  rw [e3]
  walk_at "wg"
  refine ⟨_, rfl, ?_⟩
  refine swap_loop M.sets _ _ ?_
  rw [dueC_eq] at h
  cases hf : M.sets.find? (inG x y) with
  | some p => rw [hf] at h; exact h
  | none =>
    rw [hf] at h
    intro o5 o6
    walk_at "wg"
    exact ⟨_, rfl, h⟩

end K04
namespace K04
open PySem L2 XO DL GB
local macro_rules | `(tactic| walk_at "wg") => `(tactic| ((try dsimp only); (try rw [a_hold]); (try simp only [List.map_cons, List.map_nil, List.length_cons, List.length_nil, List.cons_append, List.nil_append, List.replicate_succ, List.replicate_zero, Nat.reduceAdd, Nat.reduceSub]); (try simp only [↓a_test, ↓a_v0, ↓a_s0, ↓a_g0, ↓a_v1, ↓a_s1, ↓a_g1, ↓a_v2, ↓a_s2, ↓a_g2, ↓a_v3, ↓a_s3, ↓a_g3, ↓a_v4, ↓a_s4, ↓a_g4, ↓a_v5, ↓a_s5, ↓a_g5, ↓a_v6, ↓a_s6, ↓a_g6, ↓a_v7, ↓a_s7, ↓a_g7, ↓a_v8, ↓a_s8, ↓a_g8, ↓a_v9, ↓a_s9, ↓a_g9, ↓a_v10, ↓a_s10, ↓a_g10, ↓a_v11, ↓a_s11, ↓a_g11, ↓a_v12, ↓a_s12, ↓a_g12, ↓a_v13, ↓a_s13, ↓a_g13, ↓a_v14, ↓a_s14, ↓a_g14, ↓a_v15, ↓a_s15, ↓a_g15, ↓a_v16, ↓a_s16, ↓a_g16, ↓a_v17, ↓a_s17, ↓a_g17, ↓a_v18, ↓a_s18, ↓a_g18, ↓a_v19, ↓a_s19, ↓a_g19, ↓a_v20, ↓a_s20, ↓a_g20, ↓a_v21, ↓a_s21, ↓a_g21, ↓a_v22, ↓a_s22, ↓a_g22, ↓a_v23, ↓a_s23, ↓a_g23, ↓a_v24, ↓a_s24, ↓a_g24, ↓a_v25, ↓a_s25, ↓a_g25, ↓a_v26, ↓a_s26, ↓a_g26, ↓a_v27, ↓a_s27, ↓a_g27, ↓a_star, ↓a_asg2, ↓a_asg4, ↓a_neg, ↓a_zipX, ↓a_callKX, ↓a_get2, ↓a_lcO, ↓a_popAt, ↓a_m0, ↓a_op, ↓a_c, ↓a_call, ↓a_callX, ↓a_call0, ↓a_nil, ↓a_cons, ↓a_bi, ↓a_tnot, ↓a_tor, ↓a_tand, ↓a_tru, ↓a_yes, ↓a_if, ↓a_and, ↓a_or, ↓a_not, ↓a_chain, ↓a_sl, ↓a_noPart, ↓a_part, ↓a_lst, ↓a_tup, ↓a_dct0, ↓a_own, ↓a_isT, ↓a_next, ↓a_seqH, ↓a_ret, ↓a_drop, ↓a_sif, ↓a_raise, ↓a_for, ↓a_iVar, ↓a_fld, ↓a_lc, ↓a_iEnumB, ↓a_iEnumS, ↓a_iSg, ↓a_iLst, ↓a_iTp, ↓a_join, ↓a_lenSet, ↓a_append, ↓a_put, ↓a_par, ↓a_unp, ↓a_meth, ↓a_make, ↓a_listRev, ↓a_methK, ↓a_isC, ↓a_forB, ↓a_dctN, ↓a_dget, ↓a_rg1, ↓a_gTup, ↓a_gNil, ↓a_gCons, ↓a_loopN, wipeD, List.map_cons, List.map_nil, List.length_cons, List.length_nil, List.cons_append, List.nil_append, List.replicate_succ, List.replicate_zero, List.append_nil, List.getElem?_cons_zero, List.getElem?_cons_succ, List.set_cons_zero, List.set_cons_succ, Nat.reduceAdd, Nat.reduceSub, Bool.not_true, Bool.not_false, reduceIte, Bool.false_eq_true, true_and])))
theorem step_go {M : Md} {st l v : D} {k : Str} {t : List D} {m : Mem} {Qd : D → Mem → Prop} {Qx : XQ} (hx : ∃ n, okD st n = true) (hf : flatL st = true) (hs : stepB st = true) (hl : listB st = some (.str k :: t)) (hk : k ≠ Str.ofString "swap")
    (ht : k = Str.ofString "turn" → M.ab.isSome = true) (hv : findD (([Str.ofString "keep", Str.ofString "add", Str.ofString "drop", Str.ofString "turn"] : List Str).map .inr) [.non, .str M.p, .str M.mi, abD M.ab] (.inr k) = some v) (h : Qd v m) :
    w_Scheme_step_cost { nx := fun _ m' => Qd .non m', rt := Qd, ex := Qx } [some M.obj, some st, some l, none] m := by
  unfold w_Scheme_step_cost Md.obj
  walk_at "wg"
  refine ⟨_, rfl, hx, hf, ?_⟩
  rw [hs]
  walk_at "wg"
  refine ix_list hl atI_zero ?_
  refine dEq_str ?_
  have rest : sSeq (sIf (wTest (wOp dEq (wOp dIx (wVar 1) (wC (.int 0))) (wC (.str (Str.ofString "swap"))))) (sSeq (sIf (tvOr (tvNot (wTest (wCall F_is_letter (wCons (wVar 2) wNil)))) (wTest (wOp dEq (wVar 2) (wOp dIx (wVar 1) (wC (.int 1)))))) (sRaise "InvalidLetter" "value" (wVar 2)) sNext) (sRet (wMeth "Scheme" "swap_cost" [] F_Scheme_swap_cost (wVar 0) (wCons (wVar 2) (wCons (wOp dIx (wVar 1) (wC (.int 1))) wNil))))) sNext) (sSeq (sSet 3 (wDctN ["keep", "add", "drop", "turn"] (wCons (wC .non) (wCons (wFld "Scheme" "_add" (wVar 0)) (wCons (wFld "Scheme" "_drop" (wVar 0)) (wCons (wFld "Scheme" "_turn" (wVar 0)) wNil)))))) (sRet (wDGet (wVar 3) (wOp dIx (wVar 1) (wC (.int 0))))))
      { nx := fun _ m' => Qd .non m', rt := Qd, ex := Qx } [some (.obj "Scheme" attrs [.tup (ownD M.own), .str M.p, .str M.mi, .str M.ch, .tup (setsD (M.sets.map nrmP)), abD M.ab]), some st, some l, none] m := by
    walk_at "wg"
    refine ix_list hl atI_zero ?_
    refine dEq_str ?_
    rw [decide_eq_false hk]
    walk_at "wg"
    refine ⟨_, rfl, _, rfl, _, rfl, ?_⟩
    walk_at "wg"
    refine ix_list hl atI_zero ?_
    exact ⟨v, hv, h⟩
  by_cases c : k = Str.ofString "turn"
  · rw [decide_eq_true c]
    walk_at "wg"
    refine ⟨_, rfl, ?_⟩
    refine isNon_ok ?_
    have e : isNonD (abD M.ab) = false := by
      have := ht c
      cases e : M.ab with
      | none => rw [e] at this; cases this
      | some a => rfl
    rw [e]
    exact rest
  · rw [decide_eq_false c]
    exact rest
theorem r_Scheme_step_cost : ∀ ds m Qd Qx, F_Scheme_step_cost ds m Qd Qx → w_Scheme_step_cost { nx := fun _ m' => Qd .non m', rt := Qd, ex := Qx } (ds.map some ++ List.replicate (4 - ds.length) none) m := by
  rintro ds m Qd Qx ⟨M, st, l, rfl, hM, hl, h⟩
  rcases h with ⟨rfl, h⟩ | ⟨hst, h⟩ | ⟨⟨z, rfl, hz, hz2, hz3⟩, h⟩ | ⟨rfl, a, ha, h⟩ | ⟨x, y, rfl, rfl, l1, l2, s1, s2, hxy, h⟩
  · exact step_go ⟨1, by decide +kernel⟩ (by decide +kernel) (by decide +kernel) rfl (by decide) (fun e => absurd e (by decide)) rfl h
  · rcases hst with rfl | rfl
    · exact step_go ⟨1, by decide +kernel⟩ (by decide +kernel) (by decide +kernel) rfl (by decide) (fun e => absurd e (by decide)) rfl h
    · exact step_go ⟨1, by decide +kernel⟩ (by decide +kernel) (by decide +kernel) rfl (by decide) (fun e => absurd e (by decide)) rfl h
  · refine step_go ⟨1, ?_⟩ rfl ?_ rfl (by decide) (fun e => absurd e (by decide)) rfl h
    · simp only [okD, okA, Bool.and_eq_true, decide_eq_true_eq]
      exact ⟨by simp, ⟨by decide, by decide +kernel⟩, ⟨hz2, hz3⟩, trivial⟩
    · have e : stepB (.tup [.str (Str.ofString "add"), .str z]) = letS z := by
        show (if inD (.str (Str.ofString "add")) [.str (Str.ofString "keep"), .str (Str.ofString "drop"), .str (Str.ofString "turn")] = true then false else inD (.str (Str.ofString "add")) [.str (Str.ofString "add"), .str (Str.ofString "swap")] && letS z) = _
        rw [if_neg (by decide +kernel), show inD (.str (Str.ofString "add")) [.str (Str.ofString "add"), .str (Str.ofString "swap")] = true by decide +kernel, Bool.true_and]
      rw [e]; exact hz
  · refine step_go ⟨1, by decide +kernel⟩ (by decide +kernel) (by decide +kernel) rfl (by decide) (fun _ => by rw [ha]; rfl) ?_ h
    show some (abD M.ab) = _
    rw [ha]
    rfl
  · simp only [List.map_cons, List.map_nil, List.length_cons, List.length_nil, List.cons_append, List.nil_append, List.replicate_succ, List.replicate_zero, Nat.reduceAdd, Nat.reduceSub]
    unfold w_Scheme_step_cost
    have oy := one_ok s2
    have e : stepB (.tup [.str (Str.ofString "swap"), .str (one y)]) = letS (one y) := by
      show (if inD (.str (Str.ofString "swap")) [.str (Str.ofString "keep"), .str (Str.ofString "drop"), .str (Str.ofString "turn")] = true then false else inD (.str (Str.ofString "swap")) [.str (Str.ofString "add"), .str (Str.ofString "swap")] && letS (one y)) = _
      rw [if_neg (by decide +kernel), show inD (.str (Str.ofString "swap")) [.str (Str.ofString "add"), .str (Str.ofString "swap")] = true by decide +kernel, Bool.true_and]
    have hok : okD (.tup [.str (Str.ofString "swap"), .str (one y)]) 1 = true := by
      simp only [okD, okA, Bool.and_eq_true, decide_eq_true_eq] at oy ⊢
      exact ⟨by simp, ⟨by decide, by decide +kernel⟩, oy, trivial⟩
    walk_at "wg"
    refine ⟨_, rfl, ⟨1, hok⟩, rfl, ?_⟩
    rw [e, l2]
    walk_at "wg"
    refine ⟨_, atI_zero, ?_⟩
    refine dEq_str ?_
    have e1 : decide (Str.ofString "swap" = Str.ofString "turn") = false := by decide
    rw [e1]
    walk_at "wg"
    refine ⟨_, atI_zero, ?_⟩
    refine dEq_str ?_
    rw [decide_eq_true rfl]
    walk_at "wg"
    refine ⟨_, rfl, ⟨0, one_ok s1⟩, ?_⟩
    have e2 : isLetter (.str (one x)) = true := l1
    rw [e2]
    walk_at "wg"
    refine ⟨_, atI_one, ?_⟩
    refine dEq_str ?_
    have e3 : decide (one x = one y) = false := decide_eq_false (fun e => hxy (sign_inj e))
    rw [e3]
    walk_at "wg"
    unfold Md.obj
    walk_at "wg"
    refine ⟨rfl, _, atI_one, ?_⟩
    exact ⟨M, x, y, rfl, l1, l2, s1, s2, hxy, hM, h⟩

end K04
namespace K04
open PySem L2 XO DL GB
local macro_rules | `(tactic| walk_at "wg") => `(tactic| ((try dsimp only); (try rw [a_hold]); (try simp only [List.map_cons, List.map_nil, List.length_cons, List.length_nil, List.cons_append, List.nil_append, List.replicate_succ, List.replicate_zero, Nat.reduceAdd, Nat.reduceSub]); (try simp only [↓a_test, ↓a_v0, ↓a_s0, ↓a_g0, ↓a_v1, ↓a_s1, ↓a_g1, ↓a_v2, ↓a_s2, ↓a_g2, ↓a_v3, ↓a_s3, ↓a_g3, ↓a_v4, ↓a_s4, ↓a_g4, ↓a_v5, ↓a_s5, ↓a_g5, ↓a_v6, ↓a_s6, ↓a_g6, ↓a_v7, ↓a_s7, ↓a_g7, ↓a_v8, ↓a_s8, ↓a_g8, ↓a_v9, ↓a_s9, ↓a_g9, ↓a_v10, ↓a_s10, ↓a_g10, ↓a_v11, ↓a_s11, ↓a_g11, ↓a_v12, ↓a_s12, ↓a_g12, ↓a_v13, ↓a_s13, ↓a_g13, ↓a_v14, ↓a_s14, ↓a_g14, ↓a_v15, ↓a_s15, ↓a_g15, ↓a_v16, ↓a_s16, ↓a_g16, ↓a_v17, ↓a_s17, ↓a_g17, ↓a_v18, ↓a_s18, ↓a_g18, ↓a_v19, ↓a_s19, ↓a_g19, ↓a_v20, ↓a_s20, ↓a_g20, ↓a_v21, ↓a_s21, ↓a_g21, ↓a_v22, ↓a_s22, ↓a_g22, ↓a_v23, ↓a_s23, ↓a_g23, ↓a_v24, ↓a_s24, ↓a_g24, ↓a_v25, ↓a_s25, ↓a_g25, ↓a_v26, ↓a_s26, ↓a_g26, ↓a_v27, ↓a_s27, ↓a_g27, ↓a_star, ↓a_asg2, ↓a_asg4, ↓a_neg, ↓a_zipX, ↓a_callKX, ↓a_get2, ↓a_lcO, ↓a_popAt, ↓a_m0, ↓a_op, ↓a_c, ↓a_call, ↓a_callX, ↓a_call0, ↓a_nil, ↓a_cons, ↓a_bi, ↓a_tnot, ↓a_tor, ↓a_tand, ↓a_tru, ↓a_yes, ↓a_if, ↓a_and, ↓a_or, ↓a_not, ↓a_chain, ↓a_sl, ↓a_noPart, ↓a_part, ↓a_lst, ↓a_tup, ↓a_dct0, ↓a_own, ↓a_isT, ↓a_next, ↓a_seqH, ↓a_ret, ↓a_drop, ↓a_sif, ↓a_raise, ↓a_for, ↓a_iVar, ↓a_fld, ↓a_lc, ↓a_iEnumB, ↓a_iEnumS, ↓a_iSg, ↓a_iLst, ↓a_iTp, ↓a_join, ↓a_lenSet, ↓a_append, ↓a_put, ↓a_par, ↓a_unp, ↓a_meth, ↓a_make, ↓a_listRev, ↓a_methK, ↓a_isC, ↓a_forB, ↓a_dctN, ↓a_dget, ↓a_rg1, ↓a_gTup, ↓a_gNil, ↓a_gCons, ↓a_loopN, wipeD, List.map_cons, List.map_nil, List.length_cons, List.length_nil, List.cons_append, List.nil_append, List.replicate_succ, List.replicate_zero, List.append_nil, List.getElem?_cons_zero, List.getElem?_cons_succ, List.set_cons_zero, List.set_cons_succ, Nat.reduceAdd, Nat.reduceSub, Bool.not_true, Bool.not_false, reduceIte, Bool.false_eq_true, true_and])))
theorem r__law_cell : ∀ ds m Qd Qx, F_law_cell ds m Qd Qx → w__law_cell { nx := fun _ m' => Qd .non m', rt := Qd } (ds.map some ++ List.replicate (2 - ds.length) none) m := by
  rintro ds m Qd Qx ⟨ns, k, rfl, h0, h1, h⟩
  show if decide (k < (ns.length : Int)) = true then _ else _
  refine ifb (fun e => ?_) (fun e => ?_)
  · obtain ⟨x, hx, _⟩ := atI_lt h0 (of_decide_eq_true e)
    exact ⟨x, hx, h x⟩
  · exact ⟨Or.inl (Or.inl ⟨by decide, by decide⟩), h _⟩
theorem r__law_box : ∀ ds m Qd Qx, F_law_box ds m Qd Qx → w__law_box { nx := fun _ m' => Qd .non m', rt := Qd } (ds.map some ++ List.replicate (1 - ds.length) none) m := by
  rintro ds m Qd Qx ⟨i, rfl, h⟩
  refine ⟨⟨by decide, by decide, by decide⟩, ?_⟩
  refine ⟨by decide, ?_⟩
  refine ⟨by show 3 ≤ sizeLine; rw [sizeLine_eq]; decide, fun p hp => ?_⟩
  refine h p _ hp ⟨_, _, _, rfl, ?_, Int.emod_nonneg _ (by decide), ?_, Int.le_refl _, Int.le_refl _⟩
  · show (0 : Int) ≤ if i - 10 ^ 18 > 0 then i - 10 ^ 18 else 0
    split <;> omega
  · have := Int.emod_lt_of_pos i (show (0 : Int) < 2147483629 by decide)
    omega
theorem r__law_take : ∀ ds m Qd Qx, F_law_take ds m Qd Qx → w__law_take { nx := fun _ m' => Qd .non m', rt := Qd } (ds.map some ++ List.replicate (4 - ds.length) none) m := by
  rintro ds m Qd Qx ⟨a, n, c, l, rfl, hm, ⟨x, y, z, rfl, hx, hy0, hy, hz0, hz⟩, hc, hn0, hn, h⟩
  refine ⟨_, _, hm, rfl, ?_⟩
  show if decide (0 < x) = true then _ else _
  refine ifb (fun e => ?_) (fun e => ?_)
  · refine ⟨_, _, hm, rfl, hn0, ?_⟩
    refine ⟨_, _, hm, rfl, div_ok hn0 hn x, ?_⟩
    refine ⟨_, 0, hm, rfl, ?_⟩
    refine h _ _ (Int.emod_nonneg _ (by omega)) (Int.emod_lt_of_pos _ hn0) (Nx.mk_ hm ⟨x / n, y, z, rfl, Int.ediv_nonneg hx (by omega), hy0, hy, hz0, by omega⟩)
  · refine ⟨_, _, hm, rfl, ?_⟩
    refine ⟨_, 2, hm, rfl, ?_⟩
    refine ⟨_, _, Mem.up_same, rfl, ?_⟩
    refine ⟨_, _, Mem.up_same, rfl, ?_⟩
    refine ⟨Or.inl (Or.inl ⟨by decide, by decide⟩), ?_⟩
    refine ⟨⟨by decide, by decide, by omega⟩, ?_⟩
    refine ⟨by decide, ?_⟩
    have q0 := Int.emod_nonneg ((y + 15489799 * (z + 1) + 1789) ^ Int.toNat 5) (show (2147483647 : Int) ≠ 0 by decide)
    have q1 := Int.emod_lt_of_pos ((y + 15489799 * (z + 1) + 1789) ^ Int.toNat 5) (show (0 : Int) < 2147483647 by decide)
    generalize (y + 15489799 * (z + 1) + 1789) ^ Int.toNat 5 % 2147483647 = v at q0 q1 ⊢
    refine ⟨_, _, Mem.up_same, rfl, ?_⟩
    refine ⟨Or.inl (Or.inl ⟨by decide, by decide⟩), ?_⟩
    refine ⟨⟨by decide, by decide, by omega⟩, ?_⟩
    refine ⟨by decide, ?_⟩
    refine ⟨wide_div (b := 10) (by decide) (by decide) (by decide) (by decide), ?_⟩
    refine ⟨hn0, ?_⟩
    exact h _ _ (Int.emod_nonneg _ (by omega)) (Int.emod_lt_of_pos _ hn0) (Nx.mk_ hm ⟨x, y, z + 1, rfl, hx, hy0, hy, by omega, by omega⟩)
/-! the names of costs that are drawn -/
abbrev S (x : String) : D := .str (Str.ofString x)
def stock : List (List D) := [[S "c", S "cc", S "near", S "zzzzzzzz"], [S "b", S "a", S "ab", S "abc"], [S "add", S "drop", S "swap", S "turn"]]
def stockS : List (List Str) := [["c", "cc", "near", "zzzzzzzz"], ["b", "a", "ab", "abc"], ["add", "drop", "swap", "turn"]]
def ownB (own : List Str) : Bool := own.all (fun s => isName (.str s)) && own.all (fun s => decide (s.length ≤ 20) && PyData.strOk s) && decide own.Nodup && decide (1 ≤ own.length) && decide (own.length ≤ 4)
theorem own_of {own : List Str} (h : ownB own = true) : Own own := by
  unfold ownB at h
  simp only [Bool.and_eq_true, decide_eq_true_eq, List.all_eq_true] at h
  exact ⟨h.1.1.1.1, h.1.1.1.2, h.1.1.2, h.1.2, h.2⟩
theorem own_stock {i d : Int} (hi0 : 0 ≤ i) (hi : i < 3) (hd0 : 0 ≤ d) (hd : d < 4) : ∃ l own, atI stock i = some l ∧ cutD l none (some (1 + d)) = ownD own ∧ Own own ∧ Str.ofString "zz" ∉ own := by
  have hi : i = 0 ∨ i = 1 ∨ i = 2 := by omega
  have hd : d = 0 ∨ d = 1 ∨ d = 2 ∨ d = 3 := by omega
  rcases hi with rfl | rfl | rfl
  · rcases hd with rfl | rfl | rfl | rfl
    · exact ⟨[S "c", S "cc", S "near", S "zzzzzzzz"], ["c"], rfl, rfl, own_of (by decide +kernel), by decide +kernel⟩
    · exact ⟨[S "c", S "cc", S "near", S "zzzzzzzz"], ["c", "cc"], rfl, rfl, own_of (by decide +kernel), by decide +kernel⟩
    · exact ⟨[S "c", S "cc", S "near", S "zzzzzzzz"], ["c", "cc", "near"], rfl, rfl, own_of (by decide +kernel), by decide +kernel⟩
    · exact ⟨[S "c", S "cc", S "near", S "zzzzzzzz"], ["c", "cc", "near", "zzzzzzzz"], rfl, rfl, own_of (by decide +kernel), by decide +kernel⟩
  · rcases hd with rfl | rfl | rfl | rfl
    · exact ⟨[S "b", S "a", S "ab", S "abc"], ["b"], rfl, rfl, own_of (by decide +kernel), by decide +kernel⟩
    · exact ⟨[S "b", S "a", S "ab", S "abc"], ["b", "a"], rfl, rfl, own_of (by decide +kernel), by decide +kernel⟩
    · exact ⟨[S "b", S "a", S "ab", S "abc"], ["b", "a", "ab"], rfl, rfl, own_of (by decide +kernel), by decide +kernel⟩
    · exact ⟨[S "b", S "a", S "ab", S "abc"], ["b", "a", "ab", "abc"], rfl, rfl, own_of (by decide +kernel), by decide +kernel⟩
  · rcases hd with rfl | rfl | rfl | rfl
    · exact ⟨[S "add", S "drop", S "swap", S "turn"], ["add"], rfl, rfl, own_of (by decide +kernel), by decide +kernel⟩
    · exact ⟨[S "add", S "drop", S "swap", S "turn"], ["add", "drop"], rfl, rfl, own_of (by decide +kernel), by decide +kernel⟩
    · exact ⟨[S "add", S "drop", S "swap", S "turn"], ["add", "drop", "swap"], rfl, rfl, own_of (by decide +kernel), by decide +kernel⟩
    · exact ⟨[S "add", S "drop", S "swap", S "turn"], ["add", "drop", "swap", "turn"], rfl, rfl, own_of (by decide +kernel), by decide +kernel⟩
def zsB (zs : List Str) : Bool := zs.all gOk && zs.all (fun z => decide (z.length ≤ 20) && PyData.strOk z) && decide ((zs.map fun z => z.cps.toList).flatten).Nodup && decide (zs.length ≤ 4)
theorem zip_fst {zs es : List Str} (h : zs.length = es.length) : ((zs.zip es).map fun p => p.1.cps.toList) = zs.map fun z => z.cps.toList := by
  have e : (zs.zip es).map Prod.fst = zs := List.map_fst_zip (Nat.le_of_eq h)
  conv => rhs; rw [← e]
  rw [List.map_map]
  rfl
theorem sets_of {own zs es : List Str} (hz : zsB zs = true) (h : zs.length = es.length) (he : ∀ e ∈ es, e ∈ own) : Sets own (zs.zip es) := by
  unfold zsB at hz
  simp only [Bool.and_eq_true, decide_eq_true_eq, List.all_eq_true] at hz
  obtain ⟨⟨⟨h1, h2⟩, h3⟩, h4⟩ := hz
  refine ⟨fun p hp => ?_, ?_, ?_⟩
  · obtain ⟨q1, q2⟩ := List.of_mem_zip hp
    exact ⟨h1 _ q1, (h2 _ q1).1, (h2 _ q1).2, he _ q2⟩
  · rw [zip_fst h]; exact h3
  · rw [List.length_zip]; omega
theorem a9_of {zs es : List Str} (h : (zs.all fun z => decide (z ∈ nine)) = true) : ∀ p ∈ zs.zip es, p.1 ∈ nine := by
  intro p hp
  have := List.all_eq_true.mp h _ (List.of_mem_zip hp).1
  exact of_decide_eq_true this
theorem six {l : List D} (h : l.length = 6) : ∃ a b c d e f, l = [a, b, c, d, e, f] := by
  match l, h with
  | [a, b, c, d, e, f], _ => exact ⟨a, b, c, d, e, f, rfl⟩
theorem r__law_model : ∀ ds m Qd Qx, F_law_model ds m Qd Qx → w__law_model { nx := fun _ m' => Qd .non m', rt := Qd } (ds.map some ++ List.replicate (6 - ds.length) none) m := by
  rintro ds m Qd Qx ⟨b, k, l, rfl, hm, hb, hk, h⟩
  have n0 := Nx.refl hm hb
  simp only [List.map_cons, List.map_nil, List.length_cons, List.length_nil, List.cons_append, List.nil_append, List.replicate_succ, List.replicate_zero, Nat.reduceAdd, Nat.reduceSub]
  unfold w__law_model
  walk_at "wg"
  refine ⟨small_line (by decide), small_line (by decide), small_line (by decide), small_line (by decide), ?_⟩
  walk_at "wg"
  refine take_ok n0 (by omega) (by decide) (by decide) fun i m1 i0 i1 n1 _ => ?_
  have at1 : ∃ l, atI stock i = some l := let ⟨l, _, e, _⟩ := own_stock i0 i1 (Int.le_refl 0) (by decide); ⟨l, e⟩
  obtain ⟨nm, en⟩ := at1
  have en2 : atI ([.lst [S "c", S "cc", S "near", S "zzzzzzzz"], .lst [S "b", S "a", S "ab", S "abc"], .lst [S "add", S "drop", S "swap", S "turn"]] : List D) i = some (.lst nm) := atI_map (f := D.lst) (xs := stock) en
  refine ⟨_, en2, ?_⟩
  walk_at "wg"
  refine take_ok n1 (by omega) (by decide) (by decide) fun d m2 d0 d1 n2 _ => ?_
  obtain ⟨nm', own, en', ec, hown, hzz⟩ := own_stock i0 i1 d0 d1
  rw [en] at en'
  cases en'
  refine add_int ?_
  walk_at "wg"
  refine sl_lst ?_
  rw [ec]
  walk_at "wg"
  refine ⟨by decide, ?_⟩
  refine ⟨by rw [List.length_map, List.length_range]; decide, ?_⟩
  refine lc_inv (fun acc m' => Nx b (k + 1 + 1 + acc.length) m m' ∧ ∀ e ∈ acc, ∃ s, e = .str s ∧ s ∈ own) 6 _ _ _ _ ?_ ⟨by simpa using n2, fun e he => nomatch he⟩ ?_ ?_
  · rw [List.length_map, List.length_range]; rfl
  · rintro x hx acc m' hlen ⟨hn, ha⟩ Q hQ
    walk_at "wg"
    refine len_list (x := .lst (ownD own)) rfl ?_
    have ll : (ownD own).length = own.length := List.length_map _
    refine take_ok hn (by omega) (by have := hown.lo; show (0 : Int) < ((ownD own).length : Nat); omega) (Int.lt_of_le_of_lt (show (((ownD own).length : Nat) : Int) ≤ 4 by have := hown.hi; omega) (by decide)) fun j m3 j0 j1 n3 _ => ?_
    obtain ⟨e, he, hmem⟩ := atI_lt (xs := ownD own) j0 j1
    refine ⟨e, he, hQ e m3 ⟨?_, ?_⟩⟩
    · rw [List.length_append, List.length_singleton]
      exact n3.le (by omega)
    · intro y hy
      rcases List.mem_append.mp hy with hy | hy
      · exact ha y hy
      · rw [List.mem_singleton] at hy
        subst hy
        obtain ⟨s, hs, rfl⟩ := List.mem_map.mp hmem
        exact ⟨s, rfl, hs⟩
  · rintro acc m3 hl6 ⟨n3, ha⟩
    obtain ⟨x0, x1, x2, x3, x4, x5, rfl⟩ := six hl6
    have n3 : Nx b (k + 8) m m3 := n3.le (by simp only [List.length_cons, List.length_nil]; omega)
    obtain ⟨e0, rfl, m0⟩ := ha x0 (by simp)
    obtain ⟨e1, rfl, m1'⟩ := ha x1 (by simp)
    obtain ⟨e2, rfl, m2'⟩ := ha x2 (by simp)
    obtain ⟨e3, rfl, m3'⟩ := ha x3 (by simp)
    obtain ⟨e4, rfl, m4'⟩ := ha x4 (by simp)
    obtain ⟨e5, rfl, m5'⟩ := ha x5 (by simp)
    walk_at "wg"
    refine ⟨Nat.zero_le _, ⟨.str e3, rfl, small_line (by decide), small_line (by decide), ⟨.str e3, rfl, small_line (by decide), small_line (by decide), ⟨.str e3, rfl, small_line (by decide), ⟨.str e4, rfl, small_line (by decide), small_line (by decide), small_line (by decide), fun p hp => ?_⟩⟩⟩⟩⟩
    have hpb := n3.isSome hp
    have n4 := n3.new hp
    walk_at "wg"
    refine ⟨by rw [Mem.up_same]; rfl, ⟨.str e4, rfl, small_line (by decide), ⟨.str e0, rfl, small_line (by decide), ⟨.str e3, rfl, small_line (by decide), ⟨.str e5, rfl, small_line (by decide), small_line (by decide), ?_⟩⟩⟩⟩⟩
    refine ⟨_, _, rfl, Mem.up_same, Nat.lt_of_lt_of_le (show 4 < 1000 by decide) (small_line (Nat.le_refl _)), ?_⟩
    walk_at "wg"
    refine ⟨by rw [Mem.up_same]; rfl, ⟨.str e3, rfl, small_line (by decide), ⟨.str e4, rfl, small_line (by decide), small_line (by decide), ?_⟩⟩⟩
    refine ⟨_, _, rfl, Mem.up_same, Nat.lt_of_lt_of_le (show 5 < 1000 by decide) (small_line (Nat.le_refl _)), ?_⟩
    rw [Mem.up_up, Mem.up_up]
    walk_at "wg"
    refine take_ok (n4 _) (by omega) (by decide) (by decide) fun j m5 j0 j1 n5 n5' => ?_
    have hp5 : m5 p = some _ := n5'.1 p _ hpb Mem.up_same
    have gs : ∃ s, atI (([.lst (setsD ([] : List (Str × Str))), .lst (setsD [("ab", e3)]), .lst (setsD [("ca", e3)]), .lst (setsD [("ab", e3), ("cd", e4)]),
        .lst (setsD [("qr", e4), ("st", e0), ("bc", e3), ("ad", e5)]), .lst (setsD [("abcdef", e3), ("xyz", e4)])] : List D)) j = some (.lst (setsD s)) ∧ Sets own s ∧ ∀ p ∈ s, p.1 ∈ nine := by
      have hj : j = 0 ∨ j = 1 ∨ j = 2 ∨ j = 3 ∨ j = 4 ∨ j = 5 := by omega
      rcases hj with rfl | rfl | rfl | rfl | rfl | rfl
      · exact ⟨_, rfl, sets_of (zs := []) (es := []) (by decide +kernel) rfl (by simp), by simp⟩
      · exact ⟨_, rfl, sets_of (zs := ["ab"]) (es := [e3]) (by decide +kernel) rfl (by simp [m3']), a9_of (zs := ["ab"]) (es := [e3]) (by decide +kernel)⟩
      · exact ⟨_, rfl, sets_of (zs := ["ca"]) (es := [e3]) (by decide +kernel) rfl (by simp [m3']), a9_of (zs := ["ca"]) (es := [e3]) (by decide +kernel)⟩
      · exact ⟨_, rfl, sets_of (zs := ["ab", "cd"]) (es := [e3, e4]) (by decide +kernel) rfl (by simp [m3', m4']), a9_of (zs := ["ab", "cd"]) (es := [e3, e4]) (by decide +kernel)⟩
      · exact ⟨_, rfl, sets_of (zs := ["qr", "st", "bc", "ad"]) (es := [e4, e0, e3, e5]) (by decide +kernel) rfl (by simp [m3', m4', m0, m5']), a9_of (zs := ["qr", "st", "bc", "ad"]) (es := [e4, e0, e3, e5]) (by decide +kernel)⟩
      · exact ⟨_, rfl, sets_of (zs := ["abcdef", "xyz"]) (es := [e3, e4]) (by decide +kernel) rfl (by simp [m3', m4']), a9_of (zs := ["abcdef", "xyz"]) (es := [e3, e4]) (by decide +kernel)⟩
    obtain ⟨s, es, hgs, h9⟩ := gs
    refine ⟨_, _, hp5, es, ?_⟩
    walk_at "wg"
    refine ⟨.str e0, rfl, .str e1, rfl, .str e2, rfl, ?_⟩
    refine ⟨.str e5, rfl, small_line (by decide), ?_⟩
    refine take_ok n5 (by omega) (by decide) (by decide) fun q m6 q0 q1 n6 _ => ?_
    have hq : q = 0 ∨ q = 1 := by omega
    rcases hq with rfl | rfl
    · exact ⟨.non, rfl, small_line (by decide), h m6 ⟨own, e0, e1, e2, s, none⟩ (n6.le (by omega)) ⟨hown, m0, m1', m2', hgs, fun a ha => nomatch ha⟩ h9 hzz⟩
    · exact ⟨.str e5, rfl, small_line (by decide), h m6 ⟨own, e0, e1, e2, s, some e5⟩ (n6.le (by omega)) ⟨hown, m0, m1', m2', hgs, fun a ha => by cases ha; exact m5'⟩ h9 hzz⟩

end K04
namespace K04
open PySem L2 XO DL GB
local macro_rules | `(tactic| walk_at "wg") => `(tactic| ((try dsimp only); (try rw [a_hold]); (try simp only [List.map_cons, List.map_nil, List.length_cons, List.length_nil, List.cons_append, List.nil_append, List.replicate_succ, List.replicate_zero, Nat.reduceAdd, Nat.reduceSub]); (try simp only [↓a_test, ↓a_v0, ↓a_s0, ↓a_g0, ↓a_v1, ↓a_s1, ↓a_g1, ↓a_v2, ↓a_s2, ↓a_g2, ↓a_v3, ↓a_s3, ↓a_g3, ↓a_v4, ↓a_s4, ↓a_g4, ↓a_v5, ↓a_s5, ↓a_g5, ↓a_v6, ↓a_s6, ↓a_g6, ↓a_v7, ↓a_s7, ↓a_g7, ↓a_v8, ↓a_s8, ↓a_g8, ↓a_v9, ↓a_s9, ↓a_g9, ↓a_v10, ↓a_s10, ↓a_g10, ↓a_v11, ↓a_s11, ↓a_g11, ↓a_v12, ↓a_s12, ↓a_g12, ↓a_v13, ↓a_s13, ↓a_g13, ↓a_v14, ↓a_s14, ↓a_g14, ↓a_v15, ↓a_s15, ↓a_g15, ↓a_v16, ↓a_s16, ↓a_g16, ↓a_v17, ↓a_s17, ↓a_g17, ↓a_v18, ↓a_s18, ↓a_g18, ↓a_v19, ↓a_s19, ↓a_g19, ↓a_v20, ↓a_s20, ↓a_g20, ↓a_v21, ↓a_s21, ↓a_g21, ↓a_v22, ↓a_s22, ↓a_g22, ↓a_v23, ↓a_s23, ↓a_g23, ↓a_v24, ↓a_s24, ↓a_g24, ↓a_v25, ↓a_s25, ↓a_g25, ↓a_v26, ↓a_s26, ↓a_g26, ↓a_v27, ↓a_s27, ↓a_g27, ↓a_star, ↓a_asg2, ↓a_asg4, ↓a_neg, ↓a_zipX, ↓a_callKX, ↓a_get2, ↓a_lcO, ↓a_popAt, ↓a_m0, ↓a_op, ↓a_c, ↓a_call, ↓a_callX, ↓a_call0, ↓a_nil, ↓a_cons, ↓a_bi, ↓a_tnot, ↓a_tor, ↓a_tand, ↓a_tru, ↓a_yes, ↓a_if, ↓a_and, ↓a_or, ↓a_not, ↓a_chain, ↓a_sl, ↓a_noPart, ↓a_part, ↓a_lst, ↓a_tup, ↓a_dct0, ↓a_own, ↓a_isT, ↓a_next, ↓a_seqH, ↓a_ret, ↓a_drop, ↓a_sif, ↓a_raise, ↓a_for, ↓a_iVar, ↓a_fld, ↓a_lc, ↓a_iEnumB, ↓a_iEnumS, ↓a_iSg, ↓a_iLst, ↓a_iTp, ↓a_join, ↓a_lenSet, ↓a_append, ↓a_put, ↓a_par, ↓a_unp, ↓a_meth, ↓a_make, ↓a_listRev, ↓a_methK, ↓a_isC, ↓a_forB, ↓a_dctN, ↓a_dget, ↓a_rg1, ↓a_gTup, ↓a_gNil, ↓a_gCons, ↓a_loopN, wipeD, List.map_cons, List.map_nil, List.length_cons, List.length_nil, List.cons_append, List.nil_append, List.replicate_succ, List.replicate_zero, List.append_nil, List.getElem?_cons_zero, List.getElem?_cons_succ, List.set_cons_zero, List.set_cons_succ, Nat.reduceAdd, Nat.reduceSub, Bool.not_true, Bool.not_false, reduceIte, Bool.false_eq_true, true_and])))
theorem r__law_with : ∀ ds m Qd Qx, F_law_with ds m Qd Qx → w__law_with { nx := fun _ m' => Qd .non m', rt := Qd } (ds.map some ++ List.replicate (3 - ds.length) none) m := by
  rintro ds m Qd Qx ⟨l, k, x, rfl, hl, hk, h⟩
  unfold w__law_with
  obtain ⟨a, b, c, d, e, f, rfl⟩ := six hl
  have cl : ∀ lo hi, (cutD [a, b, c, d, e, f] lo hi).length ≤ 6 := fun lo hi => (cut_sub _ lo hi).length_le
  walk_at "wg"
  refine sl_lst ?_
  refine ⟨small_line (by decide), ?_⟩
  refine add_lst (by have := cl none (some (k : Int)); simp only [List.length_cons, List.length_nil]; omega) ?_
  refine add_int ?_
  refine sl_lst ?_
  refine add_lst (by have := cl none (some (k : Int)); have := cl (some ((k : Int) + 1)) none; simp only [List.length_append, List.length_cons, List.length_nil]; omega) ?_
  have hk : k = 0 ∨ k = 1 ∨ k = 2 ∨ k = 3 ∨ k = 4 ∨ k = 5 := by omega
  rcases hk with rfl | rfl | rfl | rfl | rfl | rfl <;> exact h
theorem listM_items {x : D} {ds : List D} {m : Mem} {Q : D → Mem → Prop} (h : itemsD m x = some ds) (q : Q (.lst ds) m) : dListM [x] m Q := by
  cases x <;> first | (cases h; done) | skip
  case lst es => cases h; exact q
  case tup es => cases h; exact q
  case box a => exact ⟨ds, h, q⟩
theorem like_pairs (sets : List (Str × Str)) : Likes (setsD sets) sets := Likes.of_map (fun _ => rfl) sets
theorem r__law_scheme : ∀ ds m Qd Qx, F_law_scheme ds m Qd Qx → w__law_scheme { nx := fun _ m' => Qd .non m', rt := Qd } (ds.map some ++ List.replicate (7 - ds.length) none) m := by
  rintro ds m Qd Qx ⟨M, s, rfl, hs, hM, h⟩
  unfold w__law_scheme itemsB
  walk_at "wg"
  refine ⟨_, Or.inl rfl, rfl, ?_⟩
  walk_at "wg"
  walk_at "wg"
  refine listM_items (x := .lst (ownD M.own)) (ds := ownD M.own) rfl ?_
  refine listM_items hs ?_
  exact make_ok hM (c := .lst (ownD M.own)) (s := .lst (setsD M.sets)) rfl ⟨1, hM.own.okL⟩ rfl ⟨2, hM.sets.okL hM.own⟩ (like_pairs _) h
/-! the cost by the law's list -/
theorem lc_swap {m : Mem} {Qx : XQ} {x y : Nat} {o0 o3 : Option D} : ∀ (sets : List (Str × Str)) (o4 o5 : Option D) (acc : List D) (Q : D → Mem → Prop), Q (.lst (acc ++ ((sets.filter (inG x y)).map fun p => D.str p.2))) m →
    wLcGo (gvTup 2 (gvCons (gvName 4) (gvCons (gvName 5) gvNil))) (tvAnd (wTest (wOp dIn (wVar 1) (wVar 4))) (wTest (wOp dIn (wVar 2) (wVar 4)))) (wVar 5) [o0, some (.str (one x)), some (.str (one y)), o3, o4, o5] Qx (setsD sets) acc m Q
  | [], o4, o5, acc, Q, h => by
    rw [List.filter_nil, List.map_nil, List.append_nil] at h
    exact h
  | p :: sets, o4, o5, acc, Q, h => by
    show gvTup 2 (gvCons (gvName 4) (gvCons (gvName 5) gvNil)) (.tup [.str p.1, .str p.2]) _ _
    walk_at "wg"
    rw [List.filter_cons] at h
    refine in_sign ?_
    by_cases h1 : x ∈ p.1.cps.toList
    · rw [decide_eq_true h1]
      walk_at "wg"
      refine in_sign ?_
      by_cases h2 : y ∈ p.1.cps.toList
      · rw [decide_eq_true h2]
        walk_at "wg"
        rw [if_pos (by unfold inG; rw [decide_eq_true h1, decide_eq_true h2]; rfl)] at h
        refine lc_swap sets _ _ _ _ ?_
        rw [List.append_assoc]
        exact h
      · rw [decide_eq_false h2]
        rw [if_neg (by unfold inG; rw [decide_eq_true h1, decide_eq_false h2]; exact Bool.false_ne_true)] at h
        exact lc_swap sets _ _ _ _ h
    · rw [decide_eq_false h1]
      rw [if_neg (by unfold inG; rw [decide_eq_false h1]; exact Bool.false_ne_true)] at h
      exact lc_swap sets _ _ _ _ h
theorem r__law_due_swap : ∀ ds m Qd Qx, F_law_due_swap ds m Qd Qx → w__law_due_swap { nx := fun _ m' => Qd .non m', rt := Qd } (ds.map some ++ List.replicate (6 - ds.length) none) m := by
  rintro ds m Qd Qx ⟨M, x, y, rfl, hl, h⟩
  unfold w__law_due_swap Md.items
  walk_at "wg"
  refine ⟨_, rfl, ?_⟩
  refine ⟨by rw [List.length_map]; omega, ?_⟩
  refine lc_swap M.sets _ _ [] _ ?_
  rw [List.nil_append]
  walk_at "wg"
  refine ⟨Nat.zero_le _, nil_lst ?_⟩
  rw [dueC_eq, ← List.head?_filter] at h
  cases hf : M.sets.filter (inG x y) with
  | nil =>
    rw [hf] at h
    walk_at "wg"
    exact ⟨_, rfl, h⟩
  | cons p ps =>
    rw [hf] at h
    walk_at "wg"
    exact ⟨_, atI_zero, h⟩
/-! objects asked -/
theorem in_obj {M : Md} {x : D} {m : Mem} {Q : D → Mem → Prop} (h : askD x = true) (q : Q (.bl (inS x M.own)) m) : dInO "Scheme" F_Scheme___contains__ x M.obj m Q := by
  show ("Scheme" : Str) = "Scheme" ∧ F_Scheme___contains__ [M.obj, x] m (fun z m2 => ∃ b : Bool, z = .bl b ∧ Q (.bl b) m2) (fun _ _ => False)
  exact ⟨rfl, M, x, rfl, h, _, rfl, q⟩
theorem isObj_obj (M : Md) : isObj "Scheme" M.obj = true := by
  show (("Scheme" : Str) == "Scheme") = true
  exact beq_self_eq_true _
theorem eq_obj {M M' : Md} {m : Mem} {Q : D → Mem → Prop} (hM : Ok M) (hM' : Ok M') (q : ∀ b : Bool, (b = true ↔ EqO M M') → ∀ m', Sub m m' → Q (.bl b) m') : dEqO "Scheme" F_Scheme___eq__ M.obj M'.obj m Q := by
  show ("Scheme" : Str) = "Scheme" ∧ (typedM m M'.obj = true ∨ isObj "Scheme" M'.obj = true) ∧ F_Scheme___eq__ [M.obj, M'.obj] m Q (fun _ _ => False)
  exact ⟨rfl, Or.inr (isObj_obj _), M, M'.obj, rfl, hM, Or.inr ⟨M', rfl, hM', q⟩⟩
theorem eq_odd {M : Md} {x : D} {m : Mem} {Q : D → Mem → Prop} (hM : Ok M) (hx : isTyped x = true) (q : Q (.bl false) m) : dEqO "Scheme" F_Scheme___eq__ M.obj x m Q := by
  show ("Scheme" : Str) = "Scheme" ∧ (typedM m x = true ∨ isObj "Scheme" x = true) ∧ F_Scheme___eq__ [M.obj, x] m Q (fun _ _ => False)
  exact ⟨rfl, Or.inl (typedM_of hx), M, x, rfl, hM, Or.inl ⟨hx, q⟩⟩
theorem ne_obj {M M' : Md} {m : Mem} {Q : D → Mem → Prop} (hM : Ok M) (hM' : Ok M') (q : ∀ b : Bool, (b = true ↔ EqO M M') → ∀ m', Sub m m' → Q (.bl (!b)) m') : dNeO "Scheme" F_Scheme___eq__ M.obj M'.obj m Q := by
  show ("Scheme" : Str) = "Scheme" ∧ (typedM m M'.obj = true ∨ isObj "Scheme" M'.obj = true) ∧ F_Scheme___eq__ [M.obj, M'.obj] m (fun z m2 => ∃ b : Bool, z = .bl b ∧ Q (.bl (!b)) m2) (fun _ _ => False)
  exact ⟨rfl, Or.inr (isObj_obj _), M, M'.obj, rfl, hM, Or.inr ⟨M', rfl, hM', fun b hb m' hs => ⟨b, rfl, q b hb m' hs⟩⟩⟩
/-! what the properties tell -/
theorem lc_norm {m : Mem} {Qx : XQ} {r0 r1 r2 r3 r4 r5 r6 r7 r8 r9 r10 r13 r14 : Option D} : ∀ (sets : List (Str × Str)) (o11 o12 : Option D) (acc : List D) (Q : D → Mem → Prop), (∀ p ∈ sets, p.1.length ≤ 20) → Q (.lst (acc ++ setsD (sets.map nrmP))) m →
    wLcGo (gvTup 2 (gvCons (gvName 11) (gvCons (gvName 12) gvNil))) tvYes (wTup (wCons (wJoin (wC (.str (Str.ofString ""))) (wBi dSortedTx (wCons (wVar 11) wNil))) (wCons (wVar 12) wNil))) [r0, r1, r2, r3, r4, r5, r6, r7, r8, r9, r10, o11, o12, r13, r14] Qx (setsD sets) acc m Q
  | [], o11, o12, acc, Q, _, h => by
    rw [List.map_nil] at h
    have e : acc ++ setsD [] = acc := List.append_nil _
    rw [e] at h
    exact h
  | p :: sets, o11, o12, acc, Q, hp, h => by
    show gvTup 2 (gvCons (gvName 11) (gvCons (gvName 12) gvNil)) (.tup [.str p.1, .str p.2]) _ _
    walk_at "wg"
    have hz := hp p List.mem_cons_self
    refine ⟨by show p.1.length ≤ 1000000; omega, fun ys hperm hsort => ?_⟩
    obtain ⟨l1, l2⟩ := sorted_len hperm
    refine ⟨ys, strs_strs ys, by omega, small_line (by decide), ?_⟩
    rw [join_nz hperm hsort]
    refine lc_norm sets _ _ _ _ (fun q hq => hp q (List.mem_cons_of_mem _ hq)) ?_
    rw [List.append_assoc]
    exact h
theorem lc_in {M : Md} {m : Mem} {Qx : XQ} {j : Nat} {ρ : En0} (hv : ∀ (x : D) (Q : D → Mem → Prop), Q x m → wVar j (ρ.set j (some x)) m Q Qx) (h0 : ∀ (x : D) (Q : D → Mem → Prop), Q M.obj m → wVar 0 (ρ.set j (some x)) m Q Qx) : ∀ (xs acc : List D) (Q : D → Mem → Prop), (∀ x ∈ xs, askD x = true) →
    Q (.lst (acc ++ xs.map fun x => D.bl (inS x M.own))) m → wLcGo (gvName j) tvYes (wOp (dInO "Scheme" F_Scheme___contains__) (wVar j) (wVar 0)) ρ Qx xs acc m Q
  | [], acc, Q, _, h => by
    rw [List.map_nil, List.append_nil] at h
    exact h
  | x :: xs, acc, Q, hx, h => by
    show wVar j (ρ.set j (some x)) m (fun u m1 => wVar 0 (ρ.set j (some x)) m1 (fun v m2 => dInO "Scheme" F_Scheme___contains__ u v m2 fun y m2 => wLcGo (gvName j) tvYes (wOp (dInO "Scheme" F_Scheme___contains__) (wVar j) (wVar 0)) ρ Qx xs (acc ++ [y]) m2 Q) Qx) Qx
    refine hv x _ ?_
    refine h0 x _ ?_
    refine in_obj (hx x List.mem_cons_self) ?_
    refine lc_in hv h0 xs _ _ (fun y hy => hx y (List.mem_cons_of_mem _ hy)) ?_
    rw [List.append_assoc]
    exact h
theorem mul_bl {b : Bool} {n : Nat} {m : Mem} {Q : D → Mem → Prop} (hn : n ≤ 1000) (q : Q (.lst (List.replicate n (.bl b))) m) : dMul (.lst [.bl b]) (.int (n : Nat)) m Q := by
  refine ⟨⟨by omega, by omega, ?_⟩, ?_⟩
  · refine small_line ?_
    show 1 * (Int.toNat (n : Int)) ≤ 1000
    rw [Int.toNat_natCast]; omega
  · rw [Int.toNat_natCast]
    have e : ∀ n : Nat, (List.replicate n [D.bl b]).flatten = List.replicate n (D.bl b) := by
      intro n
      induction n with
      | zero => rfl
      | succ n ih => rw [List.replicate_succ, List.flatten_cons, ih, List.replicate_succ]; rfl
    rw [e]
    exact q

end K04
namespace K04
open PySem L2 XO DL GB
local macro_rules | `(tactic| walk_at "wg") => `(tactic| ((try dsimp only); (try rw [a_hold]); (try simp only [List.map_cons, List.map_nil, List.length_cons, List.length_nil, List.cons_append, List.nil_append, List.replicate_succ, List.replicate_zero, Nat.reduceAdd, Nat.reduceSub]); (try simp only [↓a_test, ↓a_v0, ↓a_s0, ↓a_g0, ↓a_v1, ↓a_s1, ↓a_g1, ↓a_v2, ↓a_s2, ↓a_g2, ↓a_v3, ↓a_s3, ↓a_g3, ↓a_v4, ↓a_s4, ↓a_g4, ↓a_v5, ↓a_s5, ↓a_g5, ↓a_v6, ↓a_s6, ↓a_g6, ↓a_v7, ↓a_s7, ↓a_g7, ↓a_v8, ↓a_s8, ↓a_g8, ↓a_v9, ↓a_s9, ↓a_g9, ↓a_v10, ↓a_s10, ↓a_g10, ↓a_v11, ↓a_s11, ↓a_g11, ↓a_v12, ↓a_s12, ↓a_g12, ↓a_v13, ↓a_s13, ↓a_g13, ↓a_v14, ↓a_s14, ↓a_g14, ↓a_v15, ↓a_s15, ↓a_g15, ↓a_v16, ↓a_s16, ↓a_g16, ↓a_v17, ↓a_s17, ↓a_g17, ↓a_v18, ↓a_s18, ↓a_g18, ↓a_v19, ↓a_s19, ↓a_g19, ↓a_v20, ↓a_s20, ↓a_g20, ↓a_v21, ↓a_s21, ↓a_g21, ↓a_v22, ↓a_s22, ↓a_g22, ↓a_v23, ↓a_s23, ↓a_g23, ↓a_v24, ↓a_s24, ↓a_g24, ↓a_v25, ↓a_s25, ↓a_g25, ↓a_v26, ↓a_s26, ↓a_g26, ↓a_v27, ↓a_s27, ↓a_g27, ↓a_star, ↓a_asg2, ↓a_asg4, ↓a_neg, ↓a_zipX, ↓a_callKX, ↓a_get2, ↓a_lcO, ↓a_popAt, ↓a_m0, ↓a_op, ↓a_c, ↓a_call, ↓a_callX, ↓a_call0, ↓a_nil, ↓a_cons, ↓a_bi, ↓a_tnot, ↓a_tor, ↓a_tand, ↓a_tru, ↓a_yes, ↓a_if, ↓a_and, ↓a_or, ↓a_not, ↓a_chain, ↓a_sl, ↓a_noPart, ↓a_part, ↓a_lst, ↓a_tup, ↓a_dct0, ↓a_own, ↓a_isT, ↓a_next, ↓a_seqH, ↓a_ret, ↓a_drop, ↓a_sif, ↓a_raise, ↓a_for, ↓a_iVar, ↓a_fld, ↓a_lc, ↓a_iEnumB, ↓a_iEnumS, ↓a_iSg, ↓a_iLst, ↓a_iTp, ↓a_join, ↓a_lenSet, ↓a_append, ↓a_put, ↓a_par, ↓a_unp, ↓a_meth, ↓a_make, ↓a_listRev, ↓a_methK, ↓a_isC, ↓a_forB, ↓a_dctN, ↓a_dget, ↓a_rg1, ↓a_gTup, ↓a_gNil, ↓a_gCons, ↓a_loopN, wipeD, List.map_cons, List.map_nil, List.length_cons, List.length_nil, List.cons_append, List.nil_append, List.replicate_succ, List.replicate_zero, List.append_nil, List.getElem?_cons_zero, List.getElem?_cons_succ, List.set_cons_zero, List.set_cons_succ, Nat.reduceAdd, Nat.reduceSub, Bool.not_true, Bool.not_false, reduceIte, Bool.false_eq_true, true_and])))
theorem shR {b : Bool} : ∀ (n k : Nat), shA (List.replicate n (D.bl b)) k = true
  | 0, _ => rfl
  | n + 1, k => by
    rw [List.replicate_succ]
    simp only [shA, shD, shR n k, Bool.and_self]
theorem len_obj {M : Md} {m : Mem} {Q : D → Mem → Prop} (h : M.own.length ≤ 4) (q : Q (.int (M.own.length : Nat)) m) : dLenO "Scheme" F_Scheme___len__ [M.obj] m Q := by
  show ("Scheme" : Str) = "Scheme" ∧ F_Scheme___len__ [M.obj] m (fun z m2 => ∃ i : Int, z = .int i ∧ 0 ≤ i ∧ i < 2 ^ 62 ∧ Q (.int i) m2) (fun _ _ => False)
  exact ⟨rfl, M, rfl, _, rfl, Int.natCast_nonneg _, Int.lt_of_le_of_lt (show ((M.own.length : Nat) : Int) ≤ 4 by omega) (by decide), q⟩
theorem in_own (own : List Str) : ((ownD own).map fun x => D.bl (inS x own)) = List.replicate own.length (D.bl true) := by
  have e : ∀ l : List Str, (∀ s ∈ l, s ∈ own) → ((ownD l).map fun x => D.bl (inS x own)) = List.replicate l.length (D.bl true) := by
    intro l
    induction l with
    | nil => intro _; rfl
    | cons s l ih =>
      intro h
      show D.bl (decide (s ∈ own)) :: ((ownD l).map fun x => D.bl (inS x own)) = _
      rw [decide_eq_true (h s List.mem_cons_self), ih fun x hx => h x (List.mem_cons_of_mem _ hx), List.length_cons, List.replicate_succ]
  exact e own fun _ h => h
theorem r__law_told_right : ∀ ds m Qd Qx, F_law_told_right ds m Qd Qx → w__law_told_right { nx := fun _ m' => Qd .non m', rt := Qd } (ds.map some ++ List.replicate (15 - ds.length) none) m := by
  rintro ds m Qd Qx ⟨M, rfl, hM, hzz, h⟩
  unfold w__law_told_right Md.items Md.obj
  walk_at "wg"
  refine ⟨_, Or.inl rfl, rfl, ?_⟩
  walk_at "wg"
  walk_at "wg"
  refine ⟨by rw [List.length_map]; have := hM.sets.len; omega, ?_⟩
  refine lc_norm M.sets _ _ [] _ (fun p hp => (hM.sets.ok p hp).2.1) ?_
  rw [List.nil_append]
  refine tupleM_list (x := .lst (setsD (M.sets.map nrmP))) rfl ?_
  walk_at "wg"
  refine ⟨_, rfl, ?_⟩
  refine tupleM_list (x := .lst (ownD M.own)) rfl ?_
  refine dNe_same (by simpa [shD] using hM.own.shA 59) ?_
  walk_at "wg"
  refine ⟨_, rfl, ?_⟩
  refine dNe_same (by simpa [shD] using (hM.sets.tx hM.own).nrm.shA 58) ?_
  walk_at "wg"
  refine len_obj (M := M) hM.own.hi ?_
  refine len_list (x := .lst (ownD M.own)) rfl ?_
  rw [List.length_map]
  refine dNe_same rfl ?_
  walk_at "wg"
  refine ⟨_, rfl, _, rfl, _, rfl, _, rfl, small_line (by decide), ?_⟩
  walk_at "wg"
  refine ⟨small_line (by decide), ?_⟩
  have shF : shD (.lst [.str M.p, .str M.mi, .str M.ch, abD M.ab]) 60 = true := by
    have h1 := (hM.own.so _ hM.p).2
    have h2 := (hM.own.so _ hM.mi).2
    have h3 := (hM.own.so _ hM.ch).2
    have h4 : shD (abD M.ab) 59 = true := by
      cases e : M.ab with
      | none => rfl
      | some a => exact (hM.own.so a (hM.ab a e)).2
    show (PyData.strOk M.p && (PyData.strOk M.mi && (PyData.strOk M.ch && (shD (abD M.ab) 59 && true)))) = true
    rw [h1, h2, h3, h4]
    rfl
  refine dNe_same shF ?_
  walk_at "wg"
  refine ⟨by rw [List.length_map]; have := hM.own.hi; omega, ?_⟩
  refine lc_in (M := M) ?_ ?_ (ownD M.own) [] _ (fun x hx => ?_) ?_
  · exact fun _ _ q => q
  · exact fun _ _ q => q
  · obtain ⟨s, _, rfl⟩ := List.mem_map.mp hx
    rfl
  rw [List.nil_append, in_own]
  refine ⟨small_line (by decide), ?_⟩
  refine len_list (x := .lst (ownD M.own)) rfl ?_
  rw [List.length_map]
  refine mul_bl (by have := hM.own.hi; omega) ?_
  refine dNe_same (by simpa [shD] using shR M.own.length 59) ?_
  walk_at "wg"
  refine ⟨small_line (by decide), small_line (by decide), small_line (by decide), ?_⟩
  walk_at "wg"
  refine ⟨by decide, ?_⟩
  refine lc_in (M := M) ?_ ?_ _ [] _ (fun x hx => ?_) ?_
  · exact fun _ _ q => q
  · exact fun _ _ q => q
  · simp only [List.mem_cons, List.not_mem_nil, or_false] at hx
    rcases hx with rfl | rfl | rfl | rfl | rfl | rfl | rfl | rfl | rfl <;> rfl
  rw [List.nil_append]
  have e0 : Str.ofString "" ∉ M.own := fun hm => by
    have := hM.own.nm _ hm
    revert this
    decide +kernel
  have el : ([D.str (Str.ofString "zz"), D.str (Str.ofString ""), D.non, D.int 3, D.lst [D.str (Str.ofString "c")], D.tup [D.str (Str.ofString "c")], D.lst (ownD M.own), D.bl true, D.dct [] []].map fun x => D.bl (inS x M.own)) = List.replicate 9 (D.bl false) := by
    show [D.bl (decide (Str.ofString "zz" ∈ M.own)), D.bl (decide (Str.ofString "" ∈ M.own)), D.bl false, D.bl false, D.bl false, D.bl false, D.bl false, D.bl false, D.bl false] = _
    rw [decide_eq_false hzz, decide_eq_false e0]
    rfl
  rw [el]
  refine ⟨small_line (by decide), ?_⟩
  refine mul_bl (n := 9) (by decide) ?_
  refine dEq_same (by simpa [shD] using shR 9 59) ?_
  exact h m (Sub.refl m)

end K04
namespace K04
open PySem L2 XO DL GB
local macro_rules | `(tactic| walk_at "wg") => `(tactic| ((try dsimp only); (try rw [a_hold]); (try simp only [List.map_cons, List.map_nil, List.length_cons, List.length_nil, List.cons_append, List.nil_append, List.replicate_succ, List.replicate_zero, Nat.reduceAdd, Nat.reduceSub]); (try simp only [↓a_test, ↓a_v0, ↓a_s0, ↓a_g0, ↓a_v1, ↓a_s1, ↓a_g1, ↓a_v2, ↓a_s2, ↓a_g2, ↓a_v3, ↓a_s3, ↓a_g3, ↓a_v4, ↓a_s4, ↓a_g4, ↓a_v5, ↓a_s5, ↓a_g5, ↓a_v6, ↓a_s6, ↓a_g6, ↓a_v7, ↓a_s7, ↓a_g7, ↓a_v8, ↓a_s8, ↓a_g8, ↓a_v9, ↓a_s9, ↓a_g9, ↓a_v10, ↓a_s10, ↓a_g10, ↓a_v11, ↓a_s11, ↓a_g11, ↓a_v12, ↓a_s12, ↓a_g12, ↓a_v13, ↓a_s13, ↓a_g13, ↓a_v14, ↓a_s14, ↓a_g14, ↓a_v15, ↓a_s15, ↓a_g15, ↓a_v16, ↓a_s16, ↓a_g16, ↓a_v17, ↓a_s17, ↓a_g17, ↓a_v18, ↓a_s18, ↓a_g18, ↓a_v19, ↓a_s19, ↓a_g19, ↓a_v20, ↓a_s20, ↓a_g20, ↓a_v21, ↓a_s21, ↓a_g21, ↓a_v22, ↓a_s22, ↓a_g22, ↓a_v23, ↓a_s23, ↓a_g23, ↓a_v24, ↓a_s24, ↓a_g24, ↓a_v25, ↓a_s25, ↓a_g25, ↓a_v26, ↓a_s26, ↓a_g26, ↓a_v27, ↓a_s27, ↓a_g27, ↓a_star, ↓a_asg2, ↓a_asg4, ↓a_neg, ↓a_zipX, ↓a_callKX, ↓a_get2, ↓a_lcO, ↓a_popAt, ↓a_m0, ↓a_op, ↓a_c, ↓a_call, ↓a_callX, ↓a_call0, ↓a_nil, ↓a_cons, ↓a_bi, ↓a_tnot, ↓a_tor, ↓a_tand, ↓a_tru, ↓a_yes, ↓a_if, ↓a_and, ↓a_or, ↓a_not, ↓a_chain, ↓a_sl, ↓a_noPart, ↓a_part, ↓a_lst, ↓a_tup, ↓a_dct0, ↓a_own, ↓a_isT, ↓a_next, ↓a_seqH, ↓a_ret, ↓a_drop, ↓a_sif, ↓a_raise, ↓a_for, ↓a_iVar, ↓a_fld, ↓a_lc, ↓a_iEnumB, ↓a_iEnumS, ↓a_iSg, ↓a_iLst, ↓a_iTp, ↓a_join, ↓a_lenSet, ↓a_append, ↓a_put, ↓a_par, ↓a_unp, ↓a_meth, ↓a_make, ↓a_listRev, ↓a_methK, ↓a_isC, ↓a_forB, ↓a_dctN, ↓a_dget, ↓a_rg1, ↓a_gTup, ↓a_gNil, ↓a_gCons, ↓a_loopN, wipeD, List.map_cons, List.map_nil, List.length_cons, List.length_nil, List.cons_append, List.nil_append, List.replicate_succ, List.replicate_zero, List.append_nil, List.getElem?_cons_zero, List.getElem?_cons_succ, List.set_cons_zero, List.set_cons_succ, Nat.reduceAdd, Nat.reduceSub, Bool.not_true, Bool.not_false, reduceIte, Bool.false_eq_true, true_and])))
theorem swap_go {M : Md} {x y : Nat} {m : Mem} {Q : D → Mem → Prop} {Qx : XQ} (hM : Ok M) (l1 : letS (one x) = true) (l2 : letS (one y) = true) (s1 : PyData.strOk (one x) = true) (s2 : PyData.strOk (one y) = true) (h : x ≠ y) (q : Q (.str (dueC M x y)) m) : F_Scheme_swap_cost [M.obj, .str (one x), .str (one y)] m Q Qx :=
  ⟨M, x, y, rfl, l1, l2, s1, s2, h, hM, q⟩
def eight : List Nat := [97, 98, 99, 100, 113, 114, 115, 116]
theorem eight_ok {c : Nat} (h : c ∈ eight) : letS (one c) = true ∧ PyData.strOk (one c) = true := by
  have : (eight.all fun c => letS (one c) && PyData.strOk (one c)) = true := by decide +kernel
  have := List.all_eq_true.mp this c h
  rw [Bool.and_eq_true] at this
  exact this
theorem dueC_comm (M : Md) (x y : Nat) : dueC M x y = dueC M y x := by
  rw [dueC_eq, dueC_eq]
  have e : inG x y = inG y x := by
    funext p
    unfold inG
    rw [Bool.and_comm]
  rw [e]
theorem dueC_ok {M : Md} (hM : Ok M) (x y : Nat) : PyData.strOk (dueC M x y) = true := by
  rw [dueC_eq]
  cases hf : M.sets.find? (inG x y) with
  | none => exact (hM.own.so _ hM.ch).2
  | some p => exact (hM.own.so _ (hM.sets.ok p (List.mem_of_find?_eq_some hf)).2.2.2).2
abbrev innerBody : WS := (sIf (wTest (wOp dNe (wVar 9) (wVar 10))) (sSeq (sSet 11 (wCall F_law_due_swap (wCons (wVar 1) (wCons (wVar 9) (wCons (wVar 10) wNil))))) (sSeq (sIf (tvOr (wTest (wOp dNe (wMeth "Scheme" "swap_cost" [] F_Scheme_swap_cost (wVar 0) (wCons (wVar 9) (wCons (wVar 10) wNil))) (wVar 11))) (wTest (wOp dNe (wMethK "Scheme" "swap_cost" 0 (["other", "one"] : List Str).length gK_Scheme_swap_cost_0 F_Scheme_swap_cost (wVar 0) wNil (wCons (wVar 9) (wCons (wVar 10) wNil))) (wVar 11)))) (sRet (wC (.bl false))) sNext) (sIf (wTest (wOp dNe (wMeth "Scheme" "step_cost" [] F_Scheme_step_cost (wVar 0) (wCons (wTup (wCons (wC (.str (Str.ofString "swap"))) (wCons (wVar 10) wNil))) (wCons (wVar 9) wNil))) (wVar 11))) (sRet (wC (.bl false))) sNext))) sNext)
theorem inner_loop {M : Md} (hM : Ok M) {m : Mem} {E : De} {x : Nat} {r2 r3 r4 r5 r6 r7 r8 : Option D} (hx : x ∈ eight) (hE : ∀ o10 o11, E.nx [some M.obj, some (.lst M.items), r2, r3, r4, r5, r6, r7, r8, some (.str (one x)), o10, o11] m) : ∀ (cs : List Nat) (o10 o11 : Option D), (∀ c ∈ cs, c ∈ eight) →
    wLoop (gvName 10) innerBody E (cs.map fun c => .str (one c)) [some M.obj, some (.lst M.items), r2, r3, r4, r5, r6, r7, r8, some (.str (one x)), o10, o11] m
  | [], o10, o11, _ => hE o10 o11
  | y :: cs, o10, o11, hc => by
    have rest := fun o10 o11 => inner_loop hM hx hE cs o10 o11 fun c h => hc c (List.mem_cons_of_mem _ h)
    obtain ⟨x1, x2⟩ := eight_ok hx
    obtain ⟨y1, y2⟩ := eight_ok (hc y List.mem_cons_self)
    rw [List.map_cons, a_loopC]
    unfold innerBody
    walk_at "wg"
    refine dNe_str ?_
    by_cases c : x = y
    · subst c
      rw [decide_eq_true rfl]
      exact rest _ _
    have e3 : decide (one x = one y) = false := decide_eq_false fun e => c (sign_inj e)
    rw [e3]
    walk_at "wg"
    refine ⟨M, x, y, rfl, by have := hM.sets.len; omega, ?_⟩
    walk_at "wg"
    have sh := str_sh (dueC_ok hM x y)
    unfold Md.obj
    dsimp only
    refine ⟨rfl, rfl, rfl, ?_⟩
    refine swap_go (M := M) hM x1 y1 x2 y2 c ?_
    refine dNe_same sh ?_
    walk_at "wg"
    refine ⟨rfl, ?_⟩
    show F_Scheme_swap_cost [M.obj, .str (one y), .str (one x)] m _ _
    refine swap_go (M := M) hM y1 x1 y2 x2 (fun e => c e.symm) ?_
    rw [dueC_comm M y x]
    refine dNe_same sh ?_
    walk_at "wg"
    refine ⟨rfl, small_line (by decide), ?_⟩
    refine ⟨M, _, _, rfl, hM, ⟨0, one_ok x2⟩, Or.inr (Or.inr (Or.inr (Or.inr ⟨x, y, rfl, rfl, x1, y1, x2, y2, c, ?_⟩)))⟩
    refine dNe_same sh ?_
    exact rest _ _
theorem signs_eight : signs (Str.ofString "abcdqrst") = eight.map fun c => .str (one c) := by
  show ((Str.ofString "abcdqrst").cps.toList.map fun c => D.str ⟨#[c]⟩) = _
  have e : (Str.ofString "abcdqrst").cps.toList = eight := by decide +kernel
  rw [e]
  rfl
theorem outer_loop {z : Str} (hz : signs z = eight.map fun c => .str (one c)) {M : Md} (hM : Ok M) {m : Mem} {E : De} {r2 r3 r4 r5 r6 r7 r8 : Option D} (hE : ∀ o9 o10 o11, E.nx [some M.obj, some (.lst M.items), r2, r3, r4, r5, r6, r7, r8, o9, o10, o11] m) : ∀ (cs : List Nat) (o9 o10 o11 : Option D), (∀ c ∈ cs, c ∈ eight) →
    wLoop (gvName 9) (sFor (iSg (wC (.str z))) (gvName 10) innerBody) E (cs.map fun c => .str (one c)) [some M.obj, some (.lst M.items), r2, r3, r4, r5, r6, r7, r8, o9, o10, o11] m
  | [], o9, o10, o11, _ => hE o9 o10 o11
  | x :: cs, o9, o10, o11, hc => by
    have rest := fun o9 o10 o11 => outer_loop hz hM hE cs o9 o10 o11 fun c h => hc c (List.mem_cons_of_mem _ h)
    rw [List.map_cons, a_loopC]
    walk_at "wg"
    rw [hz]
    exact inner_loop hM (hc x List.mem_cons_self) (fun o10 o11 => rest _ o10 o11) eight _ _ fun c h => h
theorem steps_tail {z : Str} (hz : signs z = eight.map fun c => .str (one c)) {M : Md} (hM : Ok M) {m : Mem} {E : De} {r2 r3 r4 r5 r6 r7 r8 : Option D} (hE : E.rt (.bl true) m) (o9 o10 o11 : Option D) :
    (sSeq (sFor (iSg (wC (.str z))) (gvName 9) (sFor (iSg (wC (.str z))) (gvName 10) innerBody)) (sRet (wC (.bl true)))) E [some M.obj, some (.lst M.items), r2, r3, r4, r5, r6, r7, r8, o9, o10, o11] m := by
  walk_at "wg"
  rw [hz]
  refine outer_loop hz hM (fun o9 o10 o11 => ?_) eight _ _ _ fun c h => h
  walk_at "wg"
  exact hE

end K04
namespace K04
open PySem L2 XO DL GB
local macro_rules | `(tactic| walk_at "wg") => `(tactic| ((try dsimp only); (try rw [a_hold]); (try simp only [List.map_cons, List.map_nil, List.length_cons, List.length_nil, List.cons_append, List.nil_append, List.replicate_succ, List.replicate_zero, Nat.reduceAdd, Nat.reduceSub]); (try simp only [↓a_test, ↓a_v0, ↓a_s0, ↓a_g0, ↓a_v1, ↓a_s1, ↓a_g1, ↓a_v2, ↓a_s2, ↓a_g2, ↓a_v3, ↓a_s3, ↓a_g3, ↓a_v4, ↓a_s4, ↓a_g4, ↓a_v5, ↓a_s5, ↓a_g5, ↓a_v6, ↓a_s6, ↓a_g6, ↓a_v7, ↓a_s7, ↓a_g7, ↓a_v8, ↓a_s8, ↓a_g8, ↓a_v9, ↓a_s9, ↓a_g9, ↓a_v10, ↓a_s10, ↓a_g10, ↓a_v11, ↓a_s11, ↓a_g11, ↓a_v12, ↓a_s12, ↓a_g12, ↓a_v13, ↓a_s13, ↓a_g13, ↓a_v14, ↓a_s14, ↓a_g14, ↓a_v15, ↓a_s15, ↓a_g15, ↓a_v16, ↓a_s16, ↓a_g16, ↓a_v17, ↓a_s17, ↓a_g17, ↓a_v18, ↓a_s18, ↓a_g18, ↓a_v19, ↓a_s19, ↓a_g19, ↓a_v20, ↓a_s20, ↓a_g20, ↓a_v21, ↓a_s21, ↓a_g21, ↓a_v22, ↓a_s22, ↓a_g22, ↓a_v23, ↓a_s23, ↓a_g23, ↓a_v24, ↓a_s24, ↓a_g24, ↓a_v25, ↓a_s25, ↓a_g25, ↓a_v26, ↓a_s26, ↓a_g26, ↓a_v27, ↓a_s27, ↓a_g27, ↓a_star, ↓a_asg2, ↓a_asg4, ↓a_neg, ↓a_zipX, ↓a_callKX, ↓a_get2, ↓a_lcO, ↓a_popAt, ↓a_m0, ↓a_op, ↓a_c, ↓a_call, ↓a_callX, ↓a_call0, ↓a_nil, ↓a_cons, ↓a_bi, ↓a_tnot, ↓a_tor, ↓a_tand, ↓a_tru, ↓a_yes, ↓a_if, ↓a_and, ↓a_or, ↓a_not, ↓a_chain, ↓a_sl, ↓a_noPart, ↓a_part, ↓a_lst, ↓a_tup, ↓a_dct0, ↓a_own, ↓a_isT, ↓a_next, ↓a_seqH, ↓a_ret, ↓a_drop, ↓a_sif, ↓a_raise, ↓a_for, ↓a_iVar, ↓a_fld, ↓a_lc, ↓a_iEnumB, ↓a_iEnumS, ↓a_iSg, ↓a_iLst, ↓a_iTp, ↓a_join, ↓a_lenSet, ↓a_append, ↓a_put, ↓a_par, ↓a_unp, ↓a_meth, ↓a_make, ↓a_listRev, ↓a_methK, ↓a_isC, ↓a_forB, ↓a_dctN, ↓a_dget, ↓a_rg1, ↓a_gTup, ↓a_gNil, ↓a_gCons, ↓a_loopN, wipeD, List.map_cons, List.map_nil, List.length_cons, List.length_nil, List.cons_append, List.nil_append, List.replicate_succ, List.replicate_zero, List.append_nil, List.getElem?_cons_zero, List.getElem?_cons_succ, List.set_cons_zero, List.set_cons_succ, Nat.reduceAdd, Nat.reduceSub, Bool.not_true, Bool.not_false, reduceIte, Bool.false_eq_true, true_and])))
def S1 : WS := (sUnp 6 (gvCons (gvName 2) (gvCons (gvName 3) (gvCons (gvName 4) (gvCons (gvName 5) (gvCons (gvName 6) (gvCons (gvName 7) gvNil)))))) (wVar 1))
def S2 : WS := (sSet 8 (wLst (wCons (wMethK "Scheme" "step_cost" 1 ([] : List Str).length gK_Scheme_step_cost_1 F_Scheme_step_cost (wVar 0) (wCons (wTup (wCons (wC (.str (Str.ofString "keep"))) wNil)) wNil) wNil) (wCons (wMethK "Scheme" "step_cost" 1 ([] : List Str).length gK_Scheme_step_cost_1 F_Scheme_step_cost (wVar 0) (wCons (wLst (wCons (wC (.str (Str.ofString "drop"))) wNil)) wNil) wNil) (wCons (wMethK "Scheme" "step_cost" 1 (["letter"] : List Str).length gK_Scheme_step_cost_0 F_Scheme_step_cost (wVar 0) (wCons (wTup (wCons (wC (.str (Str.ofString "add"))) (wCons (wC (.str (Str.ofString "q"))) wNil))) wNil) (wCons (wC (.str (Str.ofString "a"))) wNil)) wNil)))))
def S3 : WS := (sIf (tvOr (wTest (wOp dNe (wMeth "Scheme" "step_cost" [] F_Scheme_step_cost (wVar 0) (wCons (wTup (wCons (wC (.str (Str.ofString "add"))) (wCons (wC (.str (Str.ofString "a"))) wNil))) (wCons (wC (.str (Str.ofString "a"))) wNil))) (wVar 3))) (tvOr (wTest (wOp dNe (wMeth "Scheme" "step_cost" [] F_Scheme_step_cost (wVar 0) (wCons (wTup (wCons (wC (.str (Str.ofString "drop"))) wNil)) (wCons (wC (.str (Str.ofString "A"))) wNil))) (wVar 4))) (wTest (wOp (dInO "Scheme" F_Scheme___contains__) (wVar 0) (wVar 0))))) (sRet (wC (.bl false))) sNext)
def S4 : WS := (sIf (tvOr (wTest (wOp dNe (wVar 8) (wLst (wCons (wC .non) (wCons (wVar 4) (wCons (wVar 3) wNil)))))) (tvAnd (wTest (wOp (dIsB true) (wVar 7) (wC .non))) (wTest (wOp dNe (wMethK "Scheme" "step_cost" 0 (["step"] : List Str).length gK_Scheme_step_cost_2 F_Scheme_step_cost (wVar 0) wNil (wCons (wTup (wCons (wC (.str (Str.ofString "turn"))) wNil)) wNil)) (wVar 7))))) (sRet (wC (.bl false))) sNext)
def ST (z : Str) : WS := sSeq (sFor (iSg (wC (.str z))) (gvName 9) (sFor (iSg (wC (.str z))) (gvName 10) innerBody)) (sRet (wC (.bl true)))
theorem steps_eq : w__law_steps_right = sSeq S1 (sSeq S2 (sSeq S3 (sSeq S4 (ST (Str.ofString "abcdqrst"))))) := rfl
section
variable {M : Md} {m : Mem} {E : De}
abbrev rows (M : Md) (r8 : Option D) : En0 := [some M.obj, some (.lst M.items), some (.lst (ownD M.own)), some (.str M.p), some (.str M.mi), some (.str M.ch), some (.lst (setsD M.sets)), some (abD M.ab), r8, none, none, none]
theorem S1_ok (q : E.nx (rows M none) m) : S1 E [some M.obj, some (.lst M.items), none, none, none, none, none, none, none, none, none, none] m := by
  unfold S1 Md.items
  walk_at "wg"
  refine ⟨_, Or.inl rfl, rfl, ?_⟩
  walk_at "wg"
  exact q
abbrev fnd (M : Md) : D := .lst [.non, .str M.mi, .str M.p]
theorem S2_ok (hM : Ok M) (q : E.nx (rows M (some (fnd M))) m) : S2 E (rows M none) m := by
  have okA' : ∃ n, okD (.str (Str.ofString "a")) n = true := ⟨0, by decide +kernel⟩
  unfold S2 rows
  unfold Md.obj
  walk_at "wg"
  refine ⟨rfl, small_line (by decide), M, _, .non, rfl, hM, ⟨0, rfl⟩, Or.inl ⟨rfl, ?_⟩⟩
  refine ⟨rfl, small_line (by decide), M, _, .non, rfl, hM, ⟨0, rfl⟩, Or.inr (Or.inl ⟨Or.inr rfl, ?_⟩)⟩
  refine ⟨rfl, small_line (by decide), M, _, .str (Str.ofString "a"), rfl, hM, okA', Or.inr (Or.inr (Or.inl ⟨⟨_, rfl, by decide +kernel, by decide, by decide +kernel⟩, ?_⟩))⟩
  exact ⟨small_line (by decide), q⟩
theorem S3_ok (hM : Ok M) (q : E.nx (rows M (some (fnd M))) m) : S3 E (rows M (some (fnd M))) m := by
  have okA' : ∃ n, okD (.str (Str.ofString "a")) n = true := ⟨0, by decide +kernel⟩
  unfold S3 rows
  unfold Md.obj
  walk_at "wg"
  refine ⟨rfl, small_line (by decide), M, _, .str (Str.ofString "a"), rfl, hM, okA', Or.inr (Or.inr (Or.inl ⟨⟨_, rfl, by decide +kernel, by decide, by decide +kernel⟩, ?_⟩))⟩
  refine dNe_same (str_sh (hM.own.so _ hM.p).2) ?_
  walk_at "wg"
  refine ⟨rfl, small_line (by decide), M, _, .str (Str.ofString "A"), rfl, hM, ⟨0, by decide +kernel⟩, Or.inr (Or.inl ⟨Or.inl rfl, ?_⟩)⟩
  refine dNe_same (str_sh (hM.own.so _ hM.mi).2) ?_
  walk_at "wg"
  refine in_obj (M := M) (x := M.obj) ?_ ?_
  · unfold askD
    rw [isObj_obj, Bool.or_true]
  exact q
theorem S4_ok (hM : Ok M) (q : E.nx (rows M (some (fnd M))) m) : S4 E (rows M (some (fnd M))) m := by
  have shF : shD (fnd M) 60 = true := by
    have h1 := (hM.own.so _ hM.p).2
    have h2 := (hM.own.so _ hM.mi).2
    show (true && (PyData.strOk M.mi && (PyData.strOk M.p && true))) = true
    rw [h1, h2]
    rfl
  cases M with
  | mk own p mi ch sets ab =>
  unfold S4 rows
  unfold Md.obj
  walk_at "wg"
  refine ⟨small_line (by decide), ?_⟩
  refine dNe_same shF ?_
  cases ab with
  | none => exact q
  | some a =>
    have sa := str_sh (hM.own.so a (hM.ab a rfl)).2
    show _ ∧ _
    refine ⟨rfl, small_line (by decide), ?_⟩
    refine ⟨_, _, .non, rfl, hM, ⟨0, rfl⟩, Or.inr (Or.inr (Or.inr (Or.inl ⟨rfl, a, rfl, ?_⟩)))⟩
    refine dNe_same sa ?_
    exact q
end
theorem r__law_steps_right : ∀ ds m Qd Qx, F_law_steps_right ds m Qd Qx → w__law_steps_right { nx := fun _ m' => Qd .non m', rt := Qd } (ds.map some ++ List.replicate (12 - ds.length) none) m := by
  rintro ds m Qd Qx ⟨M, rfl, hM, h⟩
  rw [steps_eq]
  refine S1_ok ?_
  refine S2_ok hM ?_
  refine S3_ok hM ?_
  refine S4_ok hM ?_
  exact steps_tail signs_eight hM (h m (Sub.refl m)) none none none

end K04
namespace K04
open PySem L2 XO DL GB
local macro_rules | `(tactic| walk_at "wg") => `(tactic| ((try dsimp only); (try rw [a_hold]); (try simp only [List.map_cons, List.map_nil, List.length_cons, List.length_nil, List.cons_append, List.nil_append, List.replicate_succ, List.replicate_zero, Nat.reduceAdd, Nat.reduceSub]); (try simp only [↓a_test, ↓a_v0, ↓a_s0, ↓a_g0, ↓a_v1, ↓a_s1, ↓a_g1, ↓a_v2, ↓a_s2, ↓a_g2, ↓a_v3, ↓a_s3, ↓a_g3, ↓a_v4, ↓a_s4, ↓a_g4, ↓a_v5, ↓a_s5, ↓a_g5, ↓a_v6, ↓a_s6, ↓a_g6, ↓a_v7, ↓a_s7, ↓a_g7, ↓a_v8, ↓a_s8, ↓a_g8, ↓a_v9, ↓a_s9, ↓a_g9, ↓a_v10, ↓a_s10, ↓a_g10, ↓a_v11, ↓a_s11, ↓a_g11, ↓a_v12, ↓a_s12, ↓a_g12, ↓a_v13, ↓a_s13, ↓a_g13, ↓a_v14, ↓a_s14, ↓a_g14, ↓a_v15, ↓a_s15, ↓a_g15, ↓a_v16, ↓a_s16, ↓a_g16, ↓a_v17, ↓a_s17, ↓a_g17, ↓a_v18, ↓a_s18, ↓a_g18, ↓a_v19, ↓a_s19, ↓a_g19, ↓a_v20, ↓a_s20, ↓a_g20, ↓a_v21, ↓a_s21, ↓a_g21, ↓a_v22, ↓a_s22, ↓a_g22, ↓a_v23, ↓a_s23, ↓a_g23, ↓a_v24, ↓a_s24, ↓a_g24, ↓a_v25, ↓a_s25, ↓a_g25, ↓a_v26, ↓a_s26, ↓a_g26, ↓a_v27, ↓a_s27, ↓a_g27, ↓a_star, ↓a_asg2, ↓a_asg4, ↓a_neg, ↓a_zipX, ↓a_callKX, ↓a_get2, ↓a_lcO, ↓a_popAt, ↓a_m0, ↓a_op, ↓a_c, ↓a_call, ↓a_callX, ↓a_call0, ↓a_nil, ↓a_cons, ↓a_bi, ↓a_tnot, ↓a_tor, ↓a_tand, ↓a_tru, ↓a_yes, ↓a_if, ↓a_and, ↓a_or, ↓a_not, ↓a_chain, ↓a_sl, ↓a_noPart, ↓a_part, ↓a_lst, ↓a_tup, ↓a_dct0, ↓a_own, ↓a_isT, ↓a_next, ↓a_seqH, ↓a_ret, ↓a_drop, ↓a_sif, ↓a_raise, ↓a_for, ↓a_iVar, ↓a_fld, ↓a_lc, ↓a_iEnumB, ↓a_iEnumS, ↓a_iSg, ↓a_iLst, ↓a_iTp, ↓a_join, ↓a_lenSet, ↓a_append, ↓a_put, ↓a_par, ↓a_unp, ↓a_meth, ↓a_make, ↓a_listRev, ↓a_methK, ↓a_isC, ↓a_forB, ↓a_dctN, ↓a_dget, ↓a_rg1, ↓a_gTup, ↓a_gNil, ↓a_gCons, ↓a_loopN, wipeD, List.map_cons, List.map_nil, List.length_cons, List.length_nil, List.cons_append, List.nil_append, List.replicate_succ, List.replicate_zero, List.append_nil, List.getElem?_cons_zero, List.getElem?_cons_succ, List.set_cons_zero, List.set_cons_succ, Nat.reduceAdd, Nat.reduceSub, Bool.not_true, Bool.not_false, reduceIte, Bool.false_eq_true, true_and])))
/-! turned groups -/
def rv (z : Str) : Str := ⟨z.cps.toList.reverse.toArray⟩
def turnS (sets : List (Str × Str)) : List (Str × Str) := sets.reverse.map fun p => (rv p.1, p.2)
theorem rv_cps (z : Str) : (rv z).cps.toList = z.cps.toList.reverse := by unfold rv; simp
theorem rv_len (z : Str) : (rv z).length = z.length := by
  show (rv z).cps.size = z.cps.size
  rw [← Array.length_toList, rv_cps, List.length_reverse, Array.length_toList]
theorem rv_nz (z : Str) : nz (rv z) = nz z := nz_perm (by rw [rv_cps]; exact List.reverse_perm _)
theorem rv_ok {z : Str} (h : PyData.strOk z = true) : PyData.strOk (rv z) = true := by
  rw [strOk_iff] at h ⊢
  intro c hc
  rw [rv_cps, List.mem_reverse] at hc
  exact h c hc
theorem rv_gOk {z : Str} (h : gOk z = true) : gOk (rv z) = true := by
  unfold gOk letters at h ⊢
  rw [rv_len, rv_cps]
  simp only [Bool.and_eq_true, decide_eq_true_eq, List.all_eq_true] at h ⊢
  refine ⟨fun c hc => h.1 c (List.mem_reverse.mp hc), h.2.1, ?_⟩
  exact nodup_rev.mpr h.2.2
theorem turn_flat (sets : List (Str × Str)) : (((turnS sets).map fun p => p.1.cps.toList).flatten).Perm ((sets.map fun p => p.1.cps.toList).flatten) := by
  unfold turnS
  rw [List.map_map]
  have e : (sets.reverse.map ((fun p : Str × Str => p.1.cps.toList) ∘ fun p => (rv p.1, p.2))) = ((sets.map fun p => p.1.cps.toList).map List.reverse).reverse := by
    rw [List.map_map, ← List.map_reverse]
    refine List.map_congr_left fun p _ => ?_
    exact rv_cps p.1
  rw [e, ← List.reverse_flatten]
  exact List.reverse_perm _
theorem turn_sets {own : List Str} {sets : List (Str × Str)} (h : Sets own sets) : Sets own (turnS sets) := by
  refine ⟨fun p hp => ?_, (turn_flat sets).nodup_iff.mpr h.nd, by unfold turnS; rw [List.length_map, List.length_reverse]; exact h.len⟩
  obtain ⟨q, hq, rfl⟩ := List.mem_map.mp hp
  obtain ⟨h1, h2, h3, h4⟩ := h.ok q (List.mem_reverse.mp hq)
  exact ⟨rv_gOk h1, by rw [rv_len]; exact h2, rv_ok h3, h4⟩
def Md.turn (M : Md) : Md := { M with sets := turnS M.sets }
theorem turn_ok {M : Md} (h : Ok M) : Ok M.turn := ⟨h.own, h.p, h.mi, h.ch, turn_sets h.sets, h.ab⟩
theorem turn_eq (M : Md) : EqO M.turn M := by
  refine ⟨rfl, rfl, rfl, rfl, rfl, ?_⟩
  show ((turnS M.sets).map nrmP).Perm (M.sets.map nrmP)
  unfold turnS
  rw [List.map_map]
  have e : (M.sets.reverse.map (nrmP ∘ fun p => (rv p.1, p.2))) = M.sets.reverse.map nrmP := by
    refine List.map_congr_left fun p _ => ?_
    show (nz (rv p.1), p.2) = (nz p.1, p.2)
    rw [rv_nz]
  rw [e]
  exact (List.reverse_perm M.sets).map nrmP
theorem same_eq (M : Md) : EqO M M := ⟨rfl, rfl, rfl, rfl, rfl, List.Perm.refl _⟩
/-! as the law compares -/
def EqR (N M : Md) : Prop := N.own = M.own ∧ N.p = M.p ∧ N.mi = M.mi ∧ N.ch = M.ch ∧ N.ab = M.ab ∧ N.sets.Perm M.sets
def unP (p : Str × Str) : Str × Str := ((nine.find? fun w => decide (nz w = p.1)).getD p.1, p.2)
theorem un_nrm {p : Str × Str} (h : p.1 ∈ nine) : unP (nrmP p) = p := by
  have all : (nine.all fun z => decide ((nine.find? fun w => decide (nz w = nz z)) = some z)) = true := by decide +kernel
  have := of_decide_eq_true (List.all_eq_true.mp all p.1 h)
  show ((nine.find? fun w => decide (nz w = nz p.1)).getD (nz p.1), p.2) = p
  rw [this]
  rfl
theorem un_sets : ∀ {sets : List (Str × Str)}, (∀ p ∈ sets, p.1 ∈ nine) → (sets.map nrmP).map unP = sets
  | [], _ => rfl
  | p :: sets, h => by
    rw [List.map_cons, List.map_cons, un_nrm (h p List.mem_cons_self), un_sets fun q hq => h q (List.mem_cons_of_mem _ hq)]
theorem eqO_iff {M N : Md} (hM : A9 M) (hN : A9 N) : EqO M N ↔ EqR N M := by
  constructor
  · rintro ⟨h1, h2, h3, h4, h5, h6⟩
    refine ⟨h1.symm, h2.symm, h3.symm, h4.symm, h5.symm, ?_⟩
    have := h6.map unP
    rw [un_sets hM, un_sets hN] at this
    exact this.symm
  · rintro ⟨h1, h2, h3, h4, h5, h6⟩
    exact ⟨h1.symm, h2.symm, h3.symm, h4.symm, h5.symm, (h6.map nrmP).symm⟩
theorem eqO_comm {M N : Md} : EqO M N ↔ EqO N M := by
  constructor <;> (rintro ⟨h1, h2, h3, h4, h5, h6⟩; exact ⟨h1.symm, h2.symm, h3.symm, h4.symm, h5.symm, h6.symm⟩)
/-! texts turned -/
theorem strs_rev (z : Str) : strsD ((signL z).map D.str).reverse = some (signL z).reverse := by
  rw [← List.map_reverse]
  exact strs_strs _
theorem join_rv (z : Str) : Txt.join (Str.ofString "") (signL z).reverse = rv z := by
  rw [TL.join_eq]
  apply str_eq_of
  rw [join_cps, rv_cps]
  unfold signL
  rw [← List.map_reverse, singles]

end K04
namespace K04
open PySem L2 XO DL GB
local macro_rules | `(tactic| walk_at "wg") => `(tactic| ((try dsimp only); (try rw [a_hold]); (try simp only [List.map_cons, List.map_nil, List.length_cons, List.length_nil, List.cons_append, List.nil_append, List.replicate_succ, List.replicate_zero, Nat.reduceAdd, Nat.reduceSub]); (try simp only [↓a_test, ↓a_v0, ↓a_s0, ↓a_g0, ↓a_v1, ↓a_s1, ↓a_g1, ↓a_v2, ↓a_s2, ↓a_g2, ↓a_v3, ↓a_s3, ↓a_g3, ↓a_v4, ↓a_s4, ↓a_g4, ↓a_v5, ↓a_s5, ↓a_g5, ↓a_v6, ↓a_s6, ↓a_g6, ↓a_v7, ↓a_s7, ↓a_g7, ↓a_v8, ↓a_s8, ↓a_g8, ↓a_v9, ↓a_s9, ↓a_g9, ↓a_v10, ↓a_s10, ↓a_g10, ↓a_v11, ↓a_s11, ↓a_g11, ↓a_v12, ↓a_s12, ↓a_g12, ↓a_v13, ↓a_s13, ↓a_g13, ↓a_v14, ↓a_s14, ↓a_g14, ↓a_v15, ↓a_s15, ↓a_g15, ↓a_v16, ↓a_s16, ↓a_g16, ↓a_v17, ↓a_s17, ↓a_g17, ↓a_v18, ↓a_s18, ↓a_g18, ↓a_v19, ↓a_s19, ↓a_g19, ↓a_v20, ↓a_s20, ↓a_g20, ↓a_v21, ↓a_s21, ↓a_g21, ↓a_v22, ↓a_s22, ↓a_g22, ↓a_v23, ↓a_s23, ↓a_g23, ↓a_v24, ↓a_s24, ↓a_g24, ↓a_v25, ↓a_s25, ↓a_g25, ↓a_v26, ↓a_s26, ↓a_g26, ↓a_v27, ↓a_s27, ↓a_g27, ↓a_star, ↓a_asg2, ↓a_asg4, ↓a_neg, ↓a_zipX, ↓a_callKX, ↓a_get2, ↓a_lcO, ↓a_popAt, ↓a_m0, ↓a_op, ↓a_c, ↓a_call, ↓a_callX, ↓a_call0, ↓a_nil, ↓a_cons, ↓a_bi, ↓a_tnot, ↓a_tor, ↓a_tand, ↓a_tru, ↓a_yes, ↓a_if, ↓a_and, ↓a_or, ↓a_not, ↓a_chain, ↓a_sl, ↓a_noPart, ↓a_part, ↓a_lst, ↓a_tup, ↓a_dct0, ↓a_own, ↓a_isT, ↓a_next, ↓a_seqH, ↓a_ret, ↓a_drop, ↓a_sif, ↓a_raise, ↓a_for, ↓a_iVar, ↓a_fld, ↓a_lc, ↓a_iEnumB, ↓a_iEnumS, ↓a_iSg, ↓a_iLst, ↓a_iTp, ↓a_join, ↓a_lenSet, ↓a_append, ↓a_put, ↓a_par, ↓a_unp, ↓a_meth, ↓a_make, ↓a_listRev, ↓a_methK, ↓a_isC, ↓a_forB, ↓a_dctN, ↓a_dget, ↓a_rg1, ↓a_gTup, ↓a_gNil, ↓a_gCons, ↓a_loopN, wipeD, List.map_cons, List.map_nil, List.length_cons, List.length_nil, List.cons_append, List.nil_append, List.replicate_succ, List.replicate_zero, List.append_nil, List.getElem?_cons_zero, List.getElem?_cons_succ, List.set_cons_zero, List.set_cons_succ, Nat.reduceAdd, Nat.reduceSub, Bool.not_true, Bool.not_false, reduceIte, Bool.false_eq_true, true_and])))
def Q1 : WS := (sPar 3 4 (wCons (wOp dIx (wVar 2) (wC (.int 0))) (wCons (wOp dIx (wVar 2) (wC (.int 4))) wNil)))
def Q2 : WS := (sSet 5 (wOwn wNil))
def Q4 : WS := (sSet 8 (wCall F_law_with (wCons (wVar 2) (wCons (wC (.int 4)) (wCons (wVar 5) wNil)))))
def Q5 : WS := (sIf (tvOr (tvNot (wTest (wOp (dEqO "Scheme" F_Scheme___eq__) (wCall F_law_scheme (wCons (wVar 8) wNil)) (wVar 1)))) (tvOr (wTest (wOp (dNeO "Scheme" F_Scheme___eq__) (wVar 1) (wCall F_law_scheme (wCons (wVar 2) wNil)))) (tvOr (wTest (wOp (dEqO "Scheme" F_Scheme___eq__) (wVar 1) (wC (.int 3)))) (wTest (wOp (dEqO "Scheme" F_Scheme___eq__) (wVar 1) (wC (.str (Str.ofString "scheme")))))))) (sRet (wC (.bl false))) sNext)
def Q6 : WS := (sSet 9 (wOp dIx (wVar 3) (wCall F_law_take (wCons (wVar 0) (wCons (wBi dLen (wCons (wVar 3) wNil)) wNil)))))
def Q7 : WS := (sSet 10 (wOp dAddO (wLc (iLst (wLst (wCons (wC (.int 1)) (wCons (wC (.int 2)) (wCons (wC (.int 3)) (wCons (wC (.int 5)) wNil)))))) (gvName 13) tvYes (wCall F_law_with (wCons (wVar 2) (wCons (wVar 13) (wCons (wVar 9) wNil)))) [13]) (wLst (wCons (wCall F_law_with (wCons (wVar 2) (wCons (wC (.int 4)) (wCons (wSl (wVar 4) (wPart (wC (.int 1))) wNoPart) wNil)))) (wCons (wCall F_law_model (wCons (wVar 0) wNil)) wNil)))))
def Q8 : WS := (sAppend (wVar 10) (wCons (wCall F_law_with (wCons (wVar 2) (wCons (wC (.int 0)) (wCons (wListRev (wVar 3)) wNil)))) wNil))
def Q9 : WS := (sAppend (wVar 10) (wCons (wCall F_law_with (wCons (wVar 2) (wCons (wC (.int 4)) (wCons (wLc (iLst (wVar 4)) (gvTup 2 (gvCons (gvName 6) (gvCons (gvName 7) gvNil))) tvYes (wTup (wCons (wVar 6) (wCons (wVar 9) wNil))) [6, 7]) wNil)))) wNil))
def G3 : WS := (sAppend (wVar 5) (wCons (wTup (wCons (wJoin (wC (.str (Str.ofString ""))) (wListRev (wBi dListTx (wCons (wVar 6) wNil)))) (wCons (wVar 7) wNil))) wNil))
def I3 : WA := (iLst (wListRev (wVar 4)))
def V1 : WS := (sSet 12 (wAnd (wOp dEq (wSl (wVar 11) wNoPart (wPart (wC (.int 4)))) (wSl (wVar 2) wNoPart (wPart (wC (.int 4))))) (wAnd (wOp dEq (wOp dIx (wVar 11) (wC (.int 5))) (wOp dIx (wVar 2) (wC (.int 5)))) (wOp dEq (wBi dSortedPT (wCons (wOp dIx (wVar 11) (wC (.int 4))) wNil)) (wBi dSortedPT (wCons (wVar 4) wNil))))))
def V2 : WS := (sIf (tvOr (wTest (wOp dNe (wOp (dEqO "Scheme" F_Scheme___eq__) (wVar 1) (wCall F_law_scheme (wCons (wVar 11) wNil))) (wVar 12))) (wTest (wOp dEq (wOp (dNeO "Scheme" F_Scheme___eq__) (wCall F_law_scheme (wCons (wVar 11) wNil)) (wVar 1)) (wVar 12)))) (sRet (wC (.bl false))) sNext)
def VW : WS := sSeq V1 V2
theorem equal_eq : w__law_equal_right = sSeq Q1 (sSeq Q2 (sSeq (sFor I3 (gvTup 2 (gvCons (gvName 6) (gvCons (gvName 7) gvNil))) G3) (sSeq Q4 (sSeq Q5 (sSeq Q6 (sSeq Q7 (sSeq Q8 (sSeq Q9 (sSeq (sForB 10 (gvName 11) VW) (sRet (wC (.bl true)))))))))))) := rfl
section
variable {M : Md} {m m0 : Mem} {E : De} {b p p2 : Addr} {k : Int} {nm : Str} {o0 o1 o2 o3 o4 o5 o6 o7 o8 o9 o10 o11 o12 o13 : Option D}
theorem nx_sub {m' : Mem} (h : Nx b k m0 m) (s : Sub m m') : Nx b k m0 m' := by
  obtain ⟨h1, l, h2, h3⟩ := h
  exact ⟨fun x ds hx e => s _ _ (h1 x ds hx e), l, s _ _ h2, h3⟩
theorem Q1_ok (q : E.nx [some (.box b), some (M.obj), some (.lst M.items), some (.lst (ownD M.own)), some (.lst (setsD M.sets)), o5, o6, o7, o8, o9, o10, o11, o12, o13] m) : Q1 E [some (.box b), some (M.obj), some (.lst M.items), o3, o4, o5, o6, o7, o8, o9, o10, o11, o12, o13] m := by
  unfold Q1 Md.items
  walk_at "wg"
  refine ⟨_, rfl, _, rfl, ?_⟩
  trace_state
  exact ⟨_, _, rfl, q⟩
theorem Q2_ok (q : ∀ p, m p = none → E.nx [some (.box b), some (M.obj), some (.lst M.items), some (.lst (ownD M.own)), some (.lst (setsD M.sets)), some (.box p), o6, o7, o8, o9, o10, o11, o12, o13] (m.up p [])) : Q2 E [some (.box b), some (M.obj), some (.lst M.items), some (.lst (ownD M.own)), some (.lst (setsD M.sets)), o5, o6, o7, o8, o9, o10, o11, o12, o13] m := by
  unfold Q2
  walk_at "wg"
  exact ⟨small_line (by decide), q⟩
theorem turn_loop : ∀ (sets : List (Str × Str)) (acc : List D) (o6 o7 : Option D), (∀ q ∈ sets, q.1.length ≤ 20) → acc.length + sets.length ≤ 100 →
    (∀ o6 o7, E.nx [some (.box b), some (M.obj), some (.lst M.items), some (.lst (ownD M.own)), some (.lst (setsD M.sets)), some (.box p), o6, o7, o8, o9, o10, o11, o12, o13] (m.up p (acc ++ setsD (sets.map fun p => (rv p.1, p.2))))) → wLoop (gvTup 2 (gvCons (gvName 6) (gvCons (gvName 7) gvNil))) G3 E (setsD sets) [some (.box b), some (M.obj), some (.lst M.items), some (.lst (ownD M.own)), some (.lst (setsD M.sets)), some (.box p), o6, o7, o8, o9, o10, o11, o12, o13] (m.up p acc)
  | [], acc, o6, o7, _, _, q => by
    have e : acc ++ setsD (([] : List (Str × Str)).map fun p => (rv p.1, p.2)) = acc := List.append_nil _
    rw [e] at q
    exact q o6 o7
  | x :: sets, acc, o6, o7, hx, hl, q => by
    rw [List.length_cons] at hl
    have cons : setsD (x :: sets) = .tup [.str x.1, .str x.2] :: setsD sets := rfl
    rw [cons, a_loopC]
    unfold G3
    walk_at "wg"
    have hz := hx x List.mem_cons_self
    refine ⟨by rw [Mem.up_same]; rfl, ?_⟩
    refine ⟨by show x.1.length ≤ 1000000; omega, ?_⟩
    obtain ⟨l1, l2⟩ := sorted_len (z := x.1) (List.reverse_perm _)
    refine ⟨_, strs_rev _, by omega, small_line (by decide), ?_⟩
    rw [join_rv]
    refine ⟨_, acc, rfl, Mem.up_same, Nat.lt_of_lt_of_le (show acc.length < 1000 by omega) (small_line (Nat.le_refl _)), ?_⟩
    rw [Mem.up_up]
    refine turn_loop sets _ _ _ (fun q hq => hx q (List.mem_cons_of_mem _ hq)) (by rw [List.length_append]; show acc.length + 1 + sets.length ≤ 100; omega) ?_
    intro o6 o7
    rw [List.append_assoc]
    exact q o6 o7
theorem Q3_ok (hM : Ok M) (q : ∀ o6 o7, E.nx [some (.box b), some (M.obj), some (.lst M.items), some (.lst (ownD M.own)), some (.lst (setsD M.sets)), some (.box p), o6, o7, o8, o9, o10, o11, o12, o13] (m.up p (setsD (turnS M.sets)))) : sFor I3 (gvTup 2 (gvCons (gvName 6) (gvCons (gvName 7) gvNil))) G3 E [some (.box b), some (M.obj), some (.lst M.items), some (.lst (ownD M.own)), some (.lst (setsD M.sets)), some (.box p), o6, o7, o8, o9, o10, o11, o12, o13] (m.up p []) := by
  unfold I3
  walk_at "wg"
  rw [← List.map_reverse]
  refine turn_loop M.sets.reverse [] _ _ (fun x hx => (hM.sets.ok x (List.mem_reverse.mp hx)).2.1) (by rw [List.length_reverse]; have := hM.sets.len; show 0 + _ ≤ _; omega) ?_
  exact q
theorem Q4_ok (q : E.nx [some (.box b), some (M.obj), some (.lst M.items), some (.lst (ownD M.own)), some (.lst (setsD M.sets)), some (.box p), o6, o7, some (.lst (itemsB M (.box p))), o9, o10, o11, o12, o13] m) : Q4 E [some (.box b), some (M.obj), some (.lst M.items), some (.lst (ownD M.own)), some (.lst (setsD M.sets)), some (.box p), o6, o7, o8, o9, o10, o11, o12, o13] m := by
  unfold Q4
  walk_at "wg"
  exact ⟨M.items, 4, .box p, rfl, rfl, by decide, q⟩
theorem Q5_ok (hM : Ok M) (hp : m p = some (setsD (turnS M.sets))) (q : ∀ m', Sub m m' → E.nx [some (.box b), some (M.obj), some (.lst M.items), some (.lst (ownD M.own)), some (.lst (setsD M.sets)), some (.box p), o6, o7, some (.lst (itemsB M (.box p))), o9, o10, o11, o12, o13] m') : Q5 E [some (.box b), some (M.obj), some (.lst M.items), some (.lst (ownD M.own)), some (.lst (setsD M.sets)), some (.box p), o6, o7, some (.lst (itemsB M (.box p))), o9, o10, o11, o12, o13] m := by
  unfold Q5
  walk_at "wg"
  refine ⟨M.turn, .box p, rfl, hp, turn_ok hM, fun m1 s1 => ?_⟩
  refine eq_obj (turn_ok hM) hM fun e he m2 s2 => ?_
  rw [he.mpr (turn_eq M)]
  walk_at "wg"
  refine ⟨M, .lst (setsD M.sets), rfl, rfl, hM, fun m3 s3 => ?_⟩
  refine ne_obj hM hM fun e he m4 s4 => ?_
  rw [he.mpr (same_eq M)]
  walk_at "wg"
  refine eq_odd hM rfl ?_
  walk_at "wg"
  refine eq_odd hM rfl ?_
  walk_at "wg"
  exact q m4 (((s1.trans s2).trans s3).trans s4)
theorem Q6_ok (hM : Ok M) (hn : Nx b k m0 m) (hk : k ≤ 100000) (q : ∀ nm m', nm ∈ M.own → Nx b (k + 1) m0 m' → E.nx [some (.box b), some (M.obj), some (.lst M.items), some (.lst (ownD M.own)), some (.lst (setsD M.sets)), some (.box p), o6, o7, some (.lst (itemsB M (.box p))), some (.str nm), o10, o11, o12, o13] m') : Q6 E [some (.box b), some (M.obj), some (.lst M.items), some (.lst (ownD M.own)), some (.lst (setsD M.sets)), some (.box p), o6, o7, some (.lst (itemsB M (.box p))), o9, o10, o11, o12, o13] m := by
  unfold Q6
  walk_at "wg"
  refine len_list (x := .lst (ownD M.own)) rfl ?_
  have ll : (ownD M.own).length = M.own.length := List.length_map _
  refine take_ok hn (by omega) (by have := hM.own.lo; show (0 : Int) < ((ownD M.own).length : Nat); omega) (Int.lt_of_le_of_lt (show (((ownD M.own).length : Nat) : Int) ≤ 4 by have := hM.own.hi; omega) (by decide)) fun j m3 j0 j1 n3 _ => ?_
  obtain ⟨e, he, hmem⟩ := atI_lt (xs := ownD M.own) j0 j1
  obtain ⟨s, hs, rfl⟩ := List.mem_map.mp hmem
  exact ⟨_, he, q s m3 hs n3⟩
/-! other models -/
def itm (N : Md) : D := .lst N.items
def Gd (N : Md) : Prop := Ok N ∧ A9 N
theorem gd_p (h : Gd M) (hn : nm ∈ M.own) : Gd { M with p := nm } := ⟨⟨h.1.own, hn, h.1.mi, h.1.ch, h.1.sets, h.1.ab⟩, h.2⟩
theorem gd_mi (h : Gd M) (hn : nm ∈ M.own) : Gd { M with mi := nm } := ⟨⟨h.1.own, h.1.p, hn, h.1.ch, h.1.sets, h.1.ab⟩, h.2⟩
theorem gd_ch (h : Gd M) (hn : nm ∈ M.own) : Gd { M with ch := nm } := ⟨⟨h.1.own, h.1.p, h.1.mi, hn, h.1.sets, h.1.ab⟩, h.2⟩
theorem gd_ab (h : Gd M) (hn : nm ∈ M.own) : Gd { M with ab := some nm } := ⟨⟨h.1.own, h.1.p, h.1.mi, h.1.ch, h.1.sets, fun a ha => by cases ha; exact hn⟩, h.2⟩
theorem gd_drop (h : Gd M) : Gd { M with sets := M.sets.drop 1 } := by
  have sub := List.drop_sublist 1 M.sets
  refine ⟨⟨h.1.own, h.1.p, h.1.mi, h.1.ch, ⟨fun p hp => h.1.sets.ok p (sub.subset hp), ?_, Nat.le_trans sub.length_le h.1.sets.len⟩, h.1.ab⟩, fun p hp => h.2 p (sub.subset hp)⟩
  have nd := h.1.sets.nd
  show (((M.sets.drop 1).map fun p => p.1.cps.toList).flatten).Nodup
  cases e : M.sets with
  | nil => rw [e] at nd; exact nd
  | cons x xs =>
    rw [e, List.map_cons, List.flatten_cons, List.nodup_append] at nd
    exact nd.2.1
theorem gd_rev (h : Gd M) : Gd { M with own := M.own.reverse } := by
  have e : ∀ s, s ∈ M.own.reverse ↔ s ∈ M.own := fun s => List.mem_reverse
  refine ⟨⟨⟨fun s hs => h.1.own.nm s ((e s).mp hs), fun s hs => h.1.own.so s ((e s).mp hs), nodup_rev.mpr h.1.own.nd, ?_, ?_⟩, (e _).mpr h.1.p, (e _).mpr h.1.mi, (e _).mpr h.1.ch, ⟨fun p hp => ?_, h.1.sets.nd, h.1.sets.len⟩, fun a ha => (e _).mpr (h.1.ab a ha)⟩, h.2⟩
  · show 1 ≤ M.own.reverse.length
    rw [List.length_reverse]; exact h.1.own.lo
  · show M.own.reverse.length ≤ 4
    rw [List.length_reverse]; exact h.1.own.hi
  · obtain ⟨q1, q2, q3, q4⟩ := h.1.sets.ok p hp
    exact ⟨q1, q2, q3, (e _).mpr q4⟩
def reS (nm : Str) (sets : List (Str × Str)) : List (Str × Str) := sets.map fun p => (p.1, nm)
theorem gd_re (h : Gd M) (hn : nm ∈ M.own) : Gd { M with sets := reS nm M.sets } := by
  refine ⟨⟨h.1.own, h.1.p, h.1.mi, h.1.ch, ⟨fun p hp => ?_, ?_, ?_⟩, h.1.ab⟩, fun p hp => ?_⟩
  · obtain ⟨q, hq, rfl⟩ := List.mem_map.mp hp
    obtain ⟨q1, q2, q3, q4⟩ := h.1.sets.ok q hq
    exact ⟨q1, q2, q3, hn⟩
  · show ((reS nm M.sets).map fun p => p.1.cps.toList).flatten.Nodup
    unfold reS
    rw [List.map_map]
    exact h.1.sets.nd
  · show (reS nm M.sets).length ≤ 4
    unfold reS
    rw [List.length_map]; exact h.1.sets.len
  · obtain ⟨q, hq, rfl⟩ := List.mem_map.mp hp
    exact h.2 q hq
theorem cut1 {ds : List D} : cutD ds (some 1) none = ds.drop 1 := by
  unfold cutD
  cases ds with
  | nil => rfl
  | cons x xs =>
    have e1 : HT.sIx (x :: xs).length 0 (some 1) = 1 := by
      simp only [HT.sIx, List.length_cons]
      have : ¬ (1 : Int) < 0 := by decide
      simp [this] <;> omega
    have e2 : HT.sIx (x :: xs).length (x :: xs).length none = (x :: xs).length := rfl
    rw [e1, e2]
    exact List.take_of_length_le (by simp)
theorem Q7_ok (hM : Gd M) (hn : Nx b k m0 m) (hk : k ≤ 99000) (hnm : nm ∈ M.own) (q : ∀ p2 (Ns : List Md) m', Nx b (k + 20) m0 m' → m0 p2 = none → p2 ≠ b → m' p2 = some (Ns.map itm) → (∀ N ∈ Ns, Gd N) → Ns.length ≤ 10 → E.nx [some (.box b), some (M.obj), some (.lst M.items), some (.lst (ownD M.own)), some (.lst (setsD M.sets)), some (.box p), o6, o7, some (.lst (itemsB M (.box p))), some (.str nm), some (.box p2), o11, o12, o13] m') : Q7 E [some (.box b), some (M.obj), some (.lst M.items), some (.lst (ownD M.own)), some (.lst (setsD M.sets)), some (.box p), o6, o7, some (.lst (itemsB M (.box p))), some (.str nm), o10, o11, o12, o13] m := by
  unfold Q7
  walk_at "wg"
  refine ⟨small_line (by decide), by decide, ?_⟩
  refine lc_inv (fun acc m' => m' = m ∧ ∃ Ns : List Md, acc = Ns.map itm ∧ ∀ N ∈ Ns, Gd N) 4 _ _ _ _ rfl ⟨rfl, [], rfl, fun N h => nomatch h⟩ ?_ ?_
  · rintro d hd acc m1 hlen ⟨rfl, Ns, rfl, hNs⟩ Q hQ
    have fin : ∀ N, Gd N → Q (itm N) m1 := fun N hN => hQ _ _ ⟨rfl, Ns ++ [N], by rw [List.map_append]; rfl, fun N' h => by
      rcases List.mem_append.mp h with h | h
      · exact hNs N' h
      · rw [List.mem_singleton] at h; subst h; exact hN⟩
    simp only [List.mem_cons, List.not_mem_nil, or_false] at hd
    walk_at "wg"
    rcases hd with rfl | rfl | rfl | rfl
    · exact ⟨M.items, 1, .str nm, rfl, rfl, by decide, fin _ (gd_p hM hnm)⟩
    · exact ⟨M.items, 2, .str nm, rfl, rfl, by decide, fin _ (gd_mi hM hnm)⟩
    · exact ⟨M.items, 3, .str nm, rfl, rfl, by decide, fin _ (gd_ch hM hnm)⟩
    · exact ⟨M.items, 5, .str nm, rfl, rfl, by decide, fin _ (gd_ab hM hnm)⟩
  · rintro acc m1 hlen ⟨rfl, Ns, rfl, hNs⟩
    walk_at "wg"
    refine sl_lst ?_
    rw [cut1]
    have e : (setsD M.sets).drop 1 = setsD (M.sets.drop 1) := (List.map_drop ..).symm
    rw [e]
    refine ⟨M.items, 4, _, rfl, rfl, by decide, ?_⟩
    obtain ⟨l, hm, hb⟩ := hn.2
    refine ⟨b, k, l, rfl, hm, hb, by omega, fun m2 N hn2 hN h9 hz => ?_⟩
    refine ⟨small_line (by decide), ?_⟩
    rw [List.length_map] at hlen
    refine ⟨line_of (by rw [List.length_map]; show Ns.length + 2 ≤ _; omega), fun p2 hp2 => ?_⟩
    have n2 := hn.step hn2
    have hb2 := n2.isSome hp2
    have h0 : m0 p2 = none := by
      cases e0 : m0 p2 with
      | none => rfl
      | some ds => rw [n2.1 p2 ds hb2 e0] at hp2; cases hp2
    refine q p2 (Ns ++ [{ M with sets := M.sets.drop 1 }, N]) _ (n2.new hp2 _) h0 hb2 ?_ ?_ ?_
    · rw [Mem.up_same, List.map_append]
      rfl
    · intro N' h
      rcases List.mem_append.mp h with h | h
      · exact hNs N' h
      · simp only [List.mem_cons, List.not_mem_nil, or_false] at h
        rcases h with rfl | rfl
        · exact gd_drop hM
        · exact ⟨hN, h9⟩
    · rw [List.length_append]; show Ns.length + 2 ≤ 10; omega
theorem Q8_ok (hM : Gd M) {Ns : List Md} (hp2 : m p2 = some (Ns.map itm)) (hl : Ns.length ≤ 10) (hN : ∀ N ∈ Ns, Gd N) (q : ∀ Ns' : List Md, (∀ N ∈ Ns', Gd N) → Ns'.length ≤ 11 → E.nx [some (.box b), some (M.obj), some (.lst M.items), some (.lst (ownD M.own)), some (.lst (setsD M.sets)), some (.box p), o6, o7, some (.lst (itemsB M (.box p))), some (.str nm), some (.box p2), o11, o12, o13] (m.up p2 (Ns'.map itm))) : Q8 E [some (.box b), some (M.obj), some (.lst M.items), some (.lst (ownD M.own)), some (.lst (setsD M.sets)), some (.box p), o6, o7, some (.lst (itemsB M (.box p))), some (.str nm), some (.box p2), o11, o12, o13] m := by
  unfold Q8
  walk_at "wg"
  refine ⟨by rw [hp2]; rfl, ?_⟩
  refine ⟨M.items, 0, _, rfl, rfl, by decide, ?_⟩
  refine ⟨_, _, rfl, hp2, Nat.lt_of_lt_of_le (show (Ns.map itm).length < 1000 by rw [List.length_map]; omega) (small_line (Nat.le_refl _)), ?_⟩
  have e : Ns.map itm ++ [D.lst (M.items.set 0 (.lst (ownD M.own).reverse))] = (Ns ++ [{ M with own := M.own.reverse }]).map itm := by
    rw [List.map_append, ← List.map_reverse]
    rfl
  rw [e]
  refine q _ (fun N' h => ?_) (by rw [List.length_append]; show Ns.length + 1 ≤ 11; omega)
  rcases List.mem_append.mp h with h | h
  · exact hN N' h
  · rw [List.mem_singleton] at h; subst h; exact gd_rev hM
theorem lc_re {Qx : XQ} : ∀ (sets : List (Str × Str)) (o6 o7 : Option D) (acc : List D) (Q : D → Mem → Prop), Q (.lst (acc ++ setsD (reS nm sets))) m →
    wLcGo (gvTup 2 (gvCons (gvName 6) (gvCons (gvName 7) gvNil))) tvYes (wTup (wCons (wVar 6) (wCons (wVar 9) wNil))) [o0, o1, o2, o3, o4, o5, o6, o7, o8, some (.str nm), o10, o11, o12, o13] Qx (setsD sets) acc m Q
  | [], o6, o7, acc, Q, h => by
    have e : acc ++ setsD (reS nm []) = acc := List.append_nil _
    rw [e] at h
    exact h
  | x :: sets, o6, o7, acc, Q, h => by
    show gvTup 2 (gvCons (gvName 6) (gvCons (gvName 7) gvNil)) (.tup [.str x.1, .str x.2]) _ _
    walk_at "wg"
    refine ⟨small_line (by decide), ?_⟩
    refine lc_re sets _ _ _ _ ?_
    rw [List.append_assoc]
    exact h
theorem Q9_ok (hM : Gd M) (hnm : nm ∈ M.own) {Ns : List Md} (hp2 : m p2 = some (Ns.map itm)) (hl : Ns.length ≤ 11) (hN : ∀ N ∈ Ns, Gd N) (q : ∀ Ns' : List Md, (∀ N ∈ Ns', Gd N) → Ns'.length ≤ 12 → E.nx [some (.box b), some (M.obj), some (.lst M.items), some (.lst (ownD M.own)), some (.lst (setsD M.sets)), some (.box p), o6, o7, some (.lst (itemsB M (.box p))), some (.str nm), some (.box p2), o11, o12, o13] (m.up p2 (Ns'.map itm))) : Q9 E [some (.box b), some (M.obj), some (.lst M.items), some (.lst (ownD M.own)), some (.lst (setsD M.sets)), some (.box p), o6, o7, some (.lst (itemsB M (.box p))), some (.str nm), some (.box p2), o11, o12, o13] m := by
  unfold Q9
  walk_at "wg"
  refine ⟨by rw [hp2]; rfl, ?_⟩
  refine ⟨by rw [List.length_map]; have := hM.1.sets.len; omega, ?_⟩
  refine lc_re M.sets _ _ [] _ ?_
  rw [List.nil_append]
  refine ⟨M.items, 4, _, rfl, rfl, by decide, ?_⟩
  refine ⟨_, _, rfl, hp2, Nat.lt_of_lt_of_le (show (Ns.map itm).length < 1000 by rw [List.length_map]; omega) (small_line (Nat.le_refl _)), ?_⟩
  have e : Ns.map itm ++ [D.lst (M.items.set 4 (.lst (setsD (reS nm M.sets))))] = (Ns ++ [{ M with sets := reS nm M.sets }]).map itm := by
    rw [List.map_append]
    rfl
  rw [e]
  refine q _ (fun N' h => ?_) (by rw [List.length_append]; show Ns.length + 1 ≤ 12; omega)
  rcases List.mem_append.mp h with h | h
  · exact hN N' h
  · rw [List.mem_singleton] at h; subst h; exact gd_re hM hnm
end

end K04
namespace K04
open PySem L2 XO DL GB
local macro_rules | `(tactic| walk_at "wg") => `(tactic| ((try dsimp only); (try rw [a_hold]); (try simp only [List.map_cons, List.map_nil, List.length_cons, List.length_nil, List.cons_append, List.nil_append, List.replicate_succ, List.replicate_zero, Nat.reduceAdd, Nat.reduceSub]); (try simp only [↓a_test, ↓a_v0, ↓a_s0, ↓a_g0, ↓a_v1, ↓a_s1, ↓a_g1, ↓a_v2, ↓a_s2, ↓a_g2, ↓a_v3, ↓a_s3, ↓a_g3, ↓a_v4, ↓a_s4, ↓a_g4, ↓a_v5, ↓a_s5, ↓a_g5, ↓a_v6, ↓a_s6, ↓a_g6, ↓a_v7, ↓a_s7, ↓a_g7, ↓a_v8, ↓a_s8, ↓a_g8, ↓a_v9, ↓a_s9, ↓a_g9, ↓a_v10, ↓a_s10, ↓a_g10, ↓a_v11, ↓a_s11, ↓a_g11, ↓a_v12, ↓a_s12, ↓a_g12, ↓a_v13, ↓a_s13, ↓a_g13, ↓a_v14, ↓a_s14, ↓a_g14, ↓a_v15, ↓a_s15, ↓a_g15, ↓a_v16, ↓a_s16, ↓a_g16, ↓a_v17, ↓a_s17, ↓a_g17, ↓a_v18, ↓a_s18, ↓a_g18, ↓a_v19, ↓a_s19, ↓a_g19, ↓a_v20, ↓a_s20, ↓a_g20, ↓a_v21, ↓a_s21, ↓a_g21, ↓a_v22, ↓a_s22, ↓a_g22, ↓a_v23, ↓a_s23, ↓a_g23, ↓a_v24, ↓a_s24, ↓a_g24, ↓a_v25, ↓a_s25, ↓a_g25, ↓a_v26, ↓a_s26, ↓a_g26, ↓a_v27, ↓a_s27, ↓a_g27, ↓a_star, ↓a_asg2, ↓a_asg4, ↓a_neg, ↓a_zipX, ↓a_callKX, ↓a_get2, ↓a_lcO, ↓a_popAt, ↓a_m0, ↓a_op, ↓a_c, ↓a_call, ↓a_callX, ↓a_call0, ↓a_nil, ↓a_cons, ↓a_bi, ↓a_tnot, ↓a_tor, ↓a_tand, ↓a_tru, ↓a_yes, ↓a_if, ↓a_and, ↓a_or, ↓a_not, ↓a_chain, ↓a_sl, ↓a_noPart, ↓a_part, ↓a_lst, ↓a_tup, ↓a_dct0, ↓a_own, ↓a_isT, ↓a_next, ↓a_seqH, ↓a_ret, ↓a_drop, ↓a_sif, ↓a_raise, ↓a_for, ↓a_iVar, ↓a_fld, ↓a_lc, ↓a_iEnumB, ↓a_iEnumS, ↓a_iSg, ↓a_iLst, ↓a_iTp, ↓a_join, ↓a_lenSet, ↓a_append, ↓a_put, ↓a_par, ↓a_unp, ↓a_meth, ↓a_make, ↓a_listRev, ↓a_methK, ↓a_isC, ↓a_forB, ↓a_dctN, ↓a_dget, ↓a_rg1, ↓a_gTup, ↓a_gNil, ↓a_gCons, ↓a_loopN, wipeD, List.map_cons, List.map_nil, List.length_cons, List.length_nil, List.cons_append, List.nil_append, List.replicate_succ, List.replicate_zero, List.append_nil, List.getElem?_cons_zero, List.getElem?_cons_succ, List.set_cons_zero, List.set_cons_succ, Nat.reduceAdd, Nat.reduceSub, Bool.not_true, Bool.not_false, reduceIte, Bool.false_eq_true, true_and])))
section
variable {M N : Md} {m m0 : Mem} {E : De} {b p p2 : Addr} {k : Int} {nm : Str} {bs : Bool} {o0 o1 o2 o3 o4 o5 o6 o7 o8 o9 o10 o11 o12 o13 : Option D}
theorem c4 (N : Md) : cutD N.items none (some 4) = [.lst (ownD N.own), .str N.p, .str N.mi, .str N.ch] := rfl
theorem sh4 (h : Ok N) : shD (.lst [.lst (ownD N.own), .str N.p, .str N.mi, .str N.ch]) 60 = true := by
  have h1 := (h.own.so _ h.p).2
  have h2 := (h.own.so _ h.mi).2
  have h3 := (h.own.so _ h.ch).2
  show (shA (ownD N.own) 58 && (PyData.strOk N.p && (PyData.strOk N.mi && (PyData.strOk N.ch && true)))) = true
  rw [h.own.shA, h1, h2, h3]
  rfl
theorem nb4 (N : Md) : nbD (.lst [.lst (ownD N.own), .str N.p, .str N.mi, .str N.ch]) = true := by
  show (nbA (ownD N.own) && (true && (true && (true && true)))) = true
  rw [own_nbA]
  rfl
theorem V1_ok (hM : Ok M) (hN : Ok N) (q : ∀ bs : Bool, (bs = true ↔ EqR N M) → E.nx [some (.box b), some (M.obj), some (.lst M.items), some (.lst (ownD M.own)), some (.lst (setsD M.sets)), some (.box p), o6, o7, some (.lst (itemsB M (.box p))), some (.str nm), some (.box p2), some (.lst N.items), some (.bl bs), o13] m) : V1 E [some (.box b), some (M.obj), some (.lst M.items), some (.lst (ownD M.own)), some (.lst (setsD M.sets)), some (.box p), o6, o7, some (.lst (itemsB M (.box p))), some (.str nm), some (.box p2), some (.lst N.items), o12, o13] m := by
  unfold V1
  walk_at "wg"
  refine sl_lst ?_
  refine sl_lst ?_
  rw [c4, c4]
  refine dEq_nb (sh4 hN) (sh4 hM) (nb4 N) (nb4 M) fun b1 h1 => ?_
  cases b1 with
  | false =>
    refine q false ⟨(fun z => nomatch z), fun e => ?_⟩
    exact absurd (h1.mpr (by rw [e.1, e.2.1, e.2.2.1, e.2.2.2.1])) (by decide)
  | true =>
  have h1 := h1.mp rfl
  injection h1 with h1
  injection h1 with i1 h1
  injection h1 with i2 h1
  injection h1 with i3 h1
  injection h1 with i4 _
  injection i1 with i1
  injection i2 with i2
  injection i3 with i3
  injection i4 with i4
  have i1 := own_inj i1
  refine ⟨_, rfl, _, rfl, ?_⟩
  refine dEq_nb hN.shAb hM.shAb (ab_nb _) (ab_nb _) fun b2 h2 => ?_
  cases b2 with
  | false =>
    refine q false ⟨(fun z => nomatch z), fun e => ?_⟩
    exact absurd (h2.mpr (by rw [e.2.2.2.2.1])) (by decide)
  | true =>
  have i5 := ab_inj (h2.mp rfl)
  refine ⟨_, rfl, N.sets, Or.inl rfl, fun qs p1 s1 => ?_⟩
  refine ⟨M.sets, Or.inl rfl, fun qs' p2 s2 => ?_⟩
  have t1 := (hN.sets.tx hN.own).perm p1
  have t2 := (hM.sets.tx hM.own).perm p2
  refine dEq_nb (by simpa [shD] using t1.shA 58) (by simpa [shD] using t2.shA 58) (by simpa [nbD] using tx_nbA _) (by simpa [nbD] using tx_nbA _) fun b3 h3 => ?_
  refine q b3 ?_
  rw [h3]
  constructor
  · intro e
    injection e with e
    exact ⟨i1, i2, i3, i4, i5, (perm_sorted p1 p2 s1 s2).mp (sets_inj e)⟩
  · intro e
    rw [(perm_sorted p1 p2 s1 s2).mpr e.2.2.2.2.2]
theorem V2_ok (hM : Gd M) (hN : Gd N) (hb : bs = true ↔ EqR N M) (q : ∀ m', Sub m m' → E.nx [some (.box b), some (M.obj), some (.lst M.items), some (.lst (ownD M.own)), some (.lst (setsD M.sets)), some (.box p), o6, o7, some (.lst (itemsB M (.box p))), some (.str nm), some (.box p2), some (.lst N.items), some (.bl bs), o13] m') : V2 E [some (.box b), some (M.obj), some (.lst M.items), some (.lst (ownD M.own)), some (.lst (setsD M.sets)), some (.box p), o6, o7, some (.lst (itemsB M (.box p))), some (.str nm), some (.box p2), some (.lst N.items), some (.bl bs), o13] m := by
  unfold V2
  walk_at "wg"
  refine ⟨N, .lst (setsD N.sets), rfl, rfl, hN.1, fun m1 s1 => ?_⟩
  refine eq_obj hM.1 hN.1 fun e he m2 s2 => ?_
  have e1 : e = bs := Bool.eq_iff_iff.mpr (he.trans ((eqO_iff hM.2 hN.2).trans hb.symm))
  subst e1
  refine dNe_bl ?_
  rw [show (e != e) = false by cases e <;> rfl]
  walk_at "wg"
  refine ⟨N, .lst (setsD N.sets), rfl, rfl, hN.1, fun m3 s3 => ?_⟩
  refine ne_obj hN.1 hM.1 fun e' he' m4 s4 => ?_
  have e2 : e' = e := Bool.eq_iff_iff.mpr (he'.trans (eqO_comm.trans he.symm))
  subst e2
  refine dEq_bl ?_
  rw [show ((!e') == e') = false by cases e' <;> rfl]
  walk_at "wg"
  exact q m4 (((s1.trans s2).trans s3).trans s4)
theorem V_loop (hM : Gd M) {Ns : List Md} (hp2 : m p2 = some (Ns.map itm)) (hNs : ∀ N ∈ Ns, Gd N) (q : ∀ o11 o12 m', Sub m m' → E.nx [some (.box b), some (M.obj), some (.lst M.items), some (.lst (ownD M.own)), some (.lst (setsD M.sets)), some (.box p), o6, o7, some (.lst (itemsB M (.box p))), some (.str nm), some (.box p2), o11, o12, o13] m') : sForB 10 (gvName 11) VW E [some (.box b), some (M.obj), some (.lst M.items), some (.lst (ownD M.own)), some (.lst (setsD M.sets)), some (.box p), o6, o7, some (.lst (itemsB M (.box p))), some (.str nm), some (.box p2), o11, o12, o13] m := by
  show ∃ ds0, m p2 = some ds0 ∧ wLoopB p2 ds0 (gvName 11) VW E ds0 _ m
  refine ⟨_, hp2, ?_⟩
  have main : ∀ (Ls : List Md) (o11 o12 : Option D) (m' : Mem), (∀ N ∈ Ls, Gd N) → Sub m m' → wLoopB p2 (Ns.map itm) (gvName 11) VW E (Ls.map itm) [some (.box b), some (M.obj), some (.lst M.items), some (.lst (ownD M.own)), some (.lst (setsD M.sets)), some (.box p), o6, o7, some (.lst (itemsB M (.box p))), some (.str nm), some (.box p2), o11, o12, o13] m' := by
    intro Ls
    induction Ls with
    | nil =>
      intro o11 o12 m' _ hs
      rw [List.map_nil, a_loopBN]
      exact ⟨hs _ _ hp2, q o11 o12 m' hs⟩
    | cons N Ls ih =>
      intro o11 o12 m' hL hs
      rw [List.map_cons, a_loopBC]
      refine ⟨hs _ _ hp2, ?_⟩
      show VW _ [some (.box b), some (M.obj), some (.lst M.items), some (.lst (ownD M.own)), some (.lst (setsD M.sets)), some (.box p), o6, o7, some (.lst (itemsB M (.box p))), some (.str nm), some (.box p2), some (.lst N.items), o12, o13] m'
      unfold VW
      rw [a_seqH]
      have hN := hL N List.mem_cons_self
      refine V1_ok hM.1 hN.1 fun bs hb => ?_
      refine V2_ok hM hN hb fun m2 s2 => ?_
      exact ih _ _ m2 (fun x hx => hL x (List.mem_cons_of_mem _ hx)) (hs.trans s2)
  exact main Ns o11 o12 m hNs (Sub.refl m)
end
theorem r__law_equal_right : ∀ ds m Qd Qx, F_law_equal_right ds m Qd Qx → w__law_equal_right { nx := fun _ m' => Qd .non m', rt := Qd } (ds.map some ++ List.replicate (14 - ds.length) none) m := by
  rintro ds m Qd Qx ⟨M, b, k, l, rfl, hm, hb, hk, hM, h9, h⟩
  have hG : Gd M := ⟨hM, h9⟩
  have hn0 := Nx.refl hm hb
  rw [equal_eq]
  refine Q1_ok ?_
  refine Q2_ok fun p hp => ?_
  have hpb := hn0.isSome hp
  refine Q3_ok hM fun o6 o7 => ?_
  have hn1 := hn0.up hp hpb (setsD (turnS M.sets))
  refine Q4_ok ?_
  refine Q5_ok hM Mem.up_same fun m1 s1 => ?_
  have hn2 := nx_sub hn1 s1
  refine Q6_ok hM hn2 (by omega) fun nm m2 hnm hn3 => ?_
  refine Q7_ok hG hn3 (by omega) hnm fun p2 Ns m3 hn4 h0 hb2 hp2 hNs hl => ?_
  refine Q8_ok hG hp2 hl hNs fun Ns1 hN1 hl1 => ?_
  refine Q9_ok hG hnm Mem.up_same hl1 hN1 fun Ns2 hN2 hl2 => ?_
  rw [Mem.up_up]
  refine V_loop hG Mem.up_same hN2 fun o11 o12 m4 s4 => ?_
  refine h m4 ?_
  exact (nx_sub (hn4.up h0 hb2 _) s4).le (by omega)

end K04
namespace K04
open PySem L2 XO DL GB
local macro_rules | `(tactic| walk_at "wg") => `(tactic| ((try dsimp only); (try rw [a_hold]); (try simp only [List.map_cons, List.map_nil, List.length_cons, List.length_nil, List.cons_append, List.nil_append, List.replicate_succ, List.replicate_zero, Nat.reduceAdd, Nat.reduceSub]); (try simp only [↓a_test, ↓a_v0, ↓a_s0, ↓a_g0, ↓a_v1, ↓a_s1, ↓a_g1, ↓a_v2, ↓a_s2, ↓a_g2, ↓a_v3, ↓a_s3, ↓a_g3, ↓a_v4, ↓a_s4, ↓a_g4, ↓a_v5, ↓a_s5, ↓a_g5, ↓a_v6, ↓a_s6, ↓a_g6, ↓a_v7, ↓a_s7, ↓a_g7, ↓a_v8, ↓a_s8, ↓a_g8, ↓a_v9, ↓a_s9, ↓a_g9, ↓a_v10, ↓a_s10, ↓a_g10, ↓a_v11, ↓a_s11, ↓a_g11, ↓a_v12, ↓a_s12, ↓a_g12, ↓a_v13, ↓a_s13, ↓a_g13, ↓a_v14, ↓a_s14, ↓a_g14, ↓a_v15, ↓a_s15, ↓a_g15, ↓a_v16, ↓a_s16, ↓a_g16, ↓a_v17, ↓a_s17, ↓a_g17, ↓a_v18, ↓a_s18, ↓a_g18, ↓a_v19, ↓a_s19, ↓a_g19, ↓a_v20, ↓a_s20, ↓a_g20, ↓a_v21, ↓a_s21, ↓a_g21, ↓a_v22, ↓a_s22, ↓a_g22, ↓a_v23, ↓a_s23, ↓a_g23, ↓a_v24, ↓a_s24, ↓a_g24, ↓a_v25, ↓a_s25, ↓a_g25, ↓a_v26, ↓a_s26, ↓a_g26, ↓a_v27, ↓a_s27, ↓a_g27, ↓a_star, ↓a_asg2, ↓a_asg4, ↓a_neg, ↓a_zipX, ↓a_callKX, ↓a_get2, ↓a_lcO, ↓a_popAt, ↓a_m0, ↓a_op, ↓a_c, ↓a_call, ↓a_callX, ↓a_call0, ↓a_nil, ↓a_cons, ↓a_bi, ↓a_tnot, ↓a_tor, ↓a_tand, ↓a_tru, ↓a_yes, ↓a_if, ↓a_and, ↓a_or, ↓a_not, ↓a_chain, ↓a_sl, ↓a_noPart, ↓a_part, ↓a_lst, ↓a_tup, ↓a_dct0, ↓a_own, ↓a_isT, ↓a_next, ↓a_seqH, ↓a_ret, ↓a_drop, ↓a_sif, ↓a_raise, ↓a_for, ↓a_iVar, ↓a_fld, ↓a_lc, ↓a_iEnumB, ↓a_iEnumS, ↓a_iSg, ↓a_iLst, ↓a_iTp, ↓a_join, ↓a_lenSet, ↓a_append, ↓a_put, ↓a_par, ↓a_unp, ↓a_meth, ↓a_make, ↓a_listRev, ↓a_methK, ↓a_isC, ↓a_forB, ↓a_dctN, ↓a_dget, ↓a_rg1, ↓a_gTup, ↓a_gNil, ↓a_gCons, ↓a_loopN, wipeD, List.map_cons, List.map_nil, List.length_cons, List.length_nil, List.cons_append, List.nil_append, List.replicate_succ, List.replicate_zero, List.append_nil, List.getElem?_cons_zero, List.getElem?_cons_succ, List.set_cons_zero, List.set_cons_succ, Nat.reduceAdd, Nat.reduceSub, Bool.not_true, Bool.not_false, reduceIte, Bool.false_eq_true, true_and])))
def B1 : WS := (sSet 2 (wCall F_law_box (wCons (wCall F_law_cell (wCons (wVar 0) (wCons (wVar 1) wNil))) wNil)))
def B2 : WS := (sSet 3 (wCall F_law_model (wCons (wVar 2) wNil)))
def B3 : WS := (sUnp 6 (gvCons (gvName 4) (gvCons (gvName 5) (gvCons (gvName 6) (gvCons (gvName 7) (gvCons (gvName 8) (gvCons (gvName 9) gvNil)))))) (wVar 3))
def B4 : WS := (sPar 10 11 (wCons (wBi dListO (wCons (wVar 4) wNil)) (wCons (wLcO (iLst (wVar 8)) (gvName 13) tvYes (wBi dListO (wCons (wVar 13) wNil)) [13]) wNil)))
def B5 : WS := (sSet 12 (wMake 0 (["costs", "turn", "swap", "drop", "add", "groups"] : List Str).length gD_Scheme_1 (lent2 F_Scheme) wNil (wCons (wVar 10) (wCons (wVar 9) (wCons (wVar 7) (wCons (wVar 6) (wCons (wVar 5) (wCons (wVar 11) wNil))))))))
def B6 : WS := (sAppend (wVar 10) (wCons (wC (.str (Str.ofString "late"))) wNil))
def B7 : WS := (sAppend (wVar 11) (wCons (wOwn (wCons (wC (.str (Str.ofString "xy"))) (wCons (wC (.str (Str.ofString "late"))) wNil))) wNil))
def B9 : WS := (sIf (tvOr (tvNot (wTest (wCall F_law_told_right (wCons (wVar 12) (wCons (wVar 3) wNil))))) (tvNot (wTest (wCall F_law_steps_right (wCons (wVar 12) (wCons (wVar 3) wNil)))))) (sRet (wC (.bl false))) sNext)
def B10 : WS := (sIf (tvNot (wTest (wCall F_law_equal_right (wCons (wVar 2) (wCons (wVar 12) (wCons (wVar 3) wNil)))))) (sRet (wC (.bl false))) sNext)
def B11 : WS := (sIf (tvAnd (wTest (wOp (dNilB false) (wVar 8) (wLst wNil))) (wTest (wOp (dIsB false) (wVar 9) (wC .non)))) (sIf (wTest (wOp (dNeO "Scheme" F_Scheme___eq__) (wMake 1 (["add", "drop", "swap"] : List Str).length gD_Scheme_2 F_Scheme (wCons (wBi dTupleM (wCons (wVar 4) wNil)) wNil) (wCons (wVar 5) (wCons (wVar 6) (wCons (wVar 7) wNil)))) (wVar 12))) (sRet (wC (.bl false))) sNext) sNext)
def T8 : WS := (sPut (wVar 13) (wC (.int 1)) (wC (.str (Str.ofString "late"))))
def I0 : WA := (iRg1 (wCons (wBi dMax (wCons (wC (.int 2)) (wCons (wBi dMin (wCons (wC (.int 8)) (wCons (wBi dLen (wCons (wVar 0) wNil)) wNil))) wNil))) wNil))
def B0 : WS := sSeq B1 (sSeq B2 (sSeq B3 (sSeq B4 (sSeq B5 (sSeq B6 (sSeq B7 (sSeq (sForB 11 (gvName 13) T8) (sSeq B9 (sSeq B10 B11)))))))))
theorem law_eq : w_law = sSeq (sFor I0 (gvName 1) B0) (sRet (wC (.bl true))) := rfl
def Bxs (m : Mem) (no : List Addr) (bx : List D) (sets : List (Str × Str)) : Prop := bx.length = sets.length ∧ ∀ (i : Nat) x p, bx[i]? = some x → sets[i]? = some p → ∃ a, x = .box a ∧ a ∉ no ∧ m a = some [.str p.1, .str p.2]
def lstP (p : Str × Str) : D := .lst [.str p.1, .str p.2]
theorem Bxs.sub {m m' : Mem} {no bx sets} (h : Bxs m no bx sets) (s : Sub m m') : Bxs m' no bx sets := ⟨h.1, fun i x p hx hp => by
  obtain ⟨a, e, ha, hm⟩ := h.2 i x p hx hp
  exact ⟨a, e, ha, s _ _ hm⟩⟩
theorem bxs_res {m : Mem} {no : List Addr} : ∀ {bx : List D} {sets : List (Str × Str)}, Bxs m no bx sets → resA m bx = sets.map lstP
  | [], [], _ => by simp [resA]
  | [], p :: sets, h => by have := h.1; simp at this
  | x :: bx, [], h => by have := h.1; simp at this
  | x :: bx, p :: sets, h => by
    obtain ⟨a, e, _, hm⟩ := h.2 0 x p rfl rfl
    subst e
    have t : Bxs m no bx sets := ⟨by have := h.1; simpa using this, fun i x p hx hp => h.2 (i + 1) x p (by simpa using hx) (by simpa using hp)⟩
    simp only [resA, List.map_cons, bxs_res t]
    congr 1
    unfold res
    rw [hm]
    rfl
theorem Bxs.snoc {m : Mem} {no : List Addr} {bx : List D} {sets : List (Str × Str)} {p : Str × Str} {a : Addr} (h : Bxs m no bx sets) (ha : a ∉ no) (hm : m a = some [.str p.1, .str p.2]) : Bxs m no (bx ++ [.box a]) (sets ++ [p]) := by
  refine ⟨by rw [List.length_append, List.length_append, h.1]; rfl, fun i x q hx hq => ?_⟩
  by_cases hi : i < bx.length
  · rw [List.getElem?_append_left hi] at hx
    rw [List.getElem?_append_left (by rw [← h.1]; exact hi)] at hq
    exact h.2 i x q hx hq
  · rw [List.getElem?_append_right (by omega)] at hx
    rw [List.getElem?_append_right (by rw [← h.1]; omega), ← h.1] at hq
    cases e : i - bx.length with
    | zero =>
      rw [e] at hx hq
      simp at hx hq
      subst hx hq
      exact ⟨a, rfl, ha, hm⟩
    | succ n => rw [e] at hx; simp at hx
section
variable {M : Md} {m m0 : Mem} {E : De} {b p pn ps : Addr} {ns : List Int} {i : Int} {o0 o1 o2 o3 o4 o5 o6 o7 o8 o9 o10 o11 o12 o13 : Option D}
theorem B1_ok (k0 : 0 ≤ i) (k1 : i < 1000) (q : ∀ b l, m b = none → Box l 0 → E.nx [some (.scr ns), some (.int i), some (.box b), o3, o4, o5, o6, o7, o8, o9, o10, o11, o12, o13] (m.up b l)) : B1 E [some (.scr ns), some (.int i), o2, o3, o4, o5, o6, o7, o8, o9, o10, o11, o12, o13] m := by
  unfold B1
  walk_at "wg"
  refine ⟨ns, i, rfl, k0, k1, fun i => ?_⟩
  exact ⟨i, rfl, q⟩
theorem B2_ok {l : List D} (hm : m b = some l) (hb : Box l 0) (q : ∀ m' (M : Md), Nx b 20 m m' → Ok M → A9 M → Str.ofString "zz" ∉ M.own → E.nx [some (.scr ns), some (.int i), some (.box b), some (.lst M.items), o4, o5, o6, o7, o8, o9, o10, o11, o12, o13] m') : B2 E [some (.scr ns), some (.int i), some (.box b), o3, o4, o5, o6, o7, o8, o9, o10, o11, o12, o13] m := by
  unfold B2
  walk_at "wg"
  exact ⟨b, 0, l, rfl, hm, hb, by decide, fun m' M hn h1 h2 h3 => q m' M hn h1 h2 h3⟩
theorem B3_ok (q : E.nx [some (.scr ns), some (.int i), some (.box b), some (.lst M.items), some (.lst (ownD M.own)), some (.str M.p), some (.str M.mi), some (.str M.ch), some (.lst (setsD M.sets)), some (abD M.ab), o10, o11, o12, o13] m) : B3 E [some (.scr ns), some (.int i), some (.box b), some (.lst M.items), o4, o5, o6, o7, o8, o9, o10, o11, o12, o13] m := by
  unfold B3 Md.items
  walk_at "wg"
  refine ⟨_, Or.inl rfl, rfl, ?_⟩
  walk_at "wg"
  exact q
theorem lcO_box {no : List Addr} {Qx : XQ} : ∀ (sets dn : List (Str × Str)) (acc : List D) (m1 : Mem) (o13 : Option D) (Q : D → Mem → Prop), Bxs m1 no acc dn → (∀ a ∈ no, (m1 a).isSome = true) →
    (∀ ps bx m2, Bxs m2 (ps :: no) bx (dn ++ sets) → m2 ps = some bx → Sub m1 m2 → ps ∉ no → Q (.box ps) m2) →
    wLcOGo (gvName 13) tvYes (wBi dListO (wCons (wVar 13) wNil)) [o0, o1, o2, o3, o4, o5, o6, o7, o8, o9, o10, o11, o12, o13] Qx (setsD sets) acc m1 Q
  | [], dn, acc, m1, o13, Q, hb, hno, q => by
    show ∀ p, m1 p = none → Q (.box p) (m1.up p acc)
    intro ps hp
    have hs : Sub m1 (m1.up ps acc) := (Sub.refl m1).up hp acc
    rw [List.append_nil] at q
    have hps : ps ∉ no := fun h => by have := hno ps h; rw [hp] at this; cases this
    refine q ps acc _ ⟨hb.1, fun i x p hx hq => ?_⟩ Mem.up_same hs hps
    obtain ⟨a, e, ha, hm⟩ := hb.2 i x p hx hq
    refine ⟨a, e, ?_, hs _ _ hm⟩
    rw [List.mem_cons, not_or]
    exact ⟨(fun z => by subst z; rw [hp] at hm; cases hm), ha⟩
  | x :: sets, dn, acc, m1, o13, Q, hb, hno, q => by
    show gvName 13 (.tup [.str x.1, .str x.2]) _ _
    walk_at "wg"
    refine ⟨_, rfl, fun a ha => ?_⟩
    have hs : Sub m1 (m1.up a [.str x.1, .str x.2]) := (Sub.refl m1).up ha _
    have hno' : a ∉ no := fun h => by have := hno a h; rw [ha] at this; cases this
    refine lcO_box sets (dn ++ [x]) _ _ _ _ ((hb.sub hs).snoc hno' Mem.up_same) (fun c hc => ?_) ?_
    · obtain ⟨ds, hd⟩ := Option.isSome_iff_exists.mp (hno c hc)
      rw [hs _ _ hd]; rfl
    · intro ps bx m2 h1 h2 h3 h4
      rw [List.append_assoc] at h1
      exact q ps bx m2 h1 h2 (hs.trans h3) h4
theorem B4_ok (hM : Ok M) {l : List D} (hb : m b = some l) (q : ∀ pn ps bx m', Sub m m' → m' pn = some (ownD M.own) → m' ps = some bx → Bxs m' [ps, pn, b] bx M.sets → pn ≠ b → ps ≠ b → ps ≠ pn → E.nx [some (.scr ns), some (.int i), some (.box b), some (.lst M.items), some (.lst (ownD M.own)), some (.str M.p), some (.str M.mi), some (.str M.ch), some (.lst (setsD M.sets)), some (abD M.ab), some (.box pn), some (.box ps), o12, o13] m') : B4 E [some (.scr ns), some (.int i), some (.box b), some (.lst M.items), some (.lst (ownD M.own)), some (.str M.p), some (.str M.mi), some (.str M.ch), some (.lst (setsD M.sets)), some (abD M.ab), o10, o11, o12, o13] m := by
  unfold B4
  walk_at "wg"
  refine ⟨_, rfl, fun pn hp => ?_⟩
  have hpb : pn ≠ b := fun z => by subst z; rw [hp] at hb; cases hb
  have s1 : Sub m (m.up pn (ownD M.own)) := (Sub.refl m).up hp _
  refine ⟨by rw [List.length_map]; have := hM.sets.len; omega, ?_⟩
  refine lcO_box (no := [pn, b]) M.sets [] [] _ _ _ ⟨rfl, fun i x p hx => by simp at hx⟩ (fun a ha => ?_) ?_
  · simp only [List.mem_cons, List.not_mem_nil, or_false] at ha
    rcases ha with rfl | rfl
    · rw [Mem.up_same]; rfl
    · rw [s1 _ _ hb]; rfl
  · intro ps bx m2 h1 h2 h3 h4
    simp only [List.mem_cons, List.not_mem_nil, or_false, not_or] at h4
    refine ⟨_, _, rfl, ?_⟩
    exact q pn ps bx m2 (s1.trans h3) (h3 _ _ Mem.up_same) h2 h1 hpb h4.2 h4.1
theorem own_plain (own : List Str) (m : Mem) : resA m (ownD own) = ownD own := by
  induction own with
  | nil => simp [resA]
  | cons s own ih =>
    show resA m (.str s :: ownD own) = _
    simp only [resA, res, ih]
    rfl
theorem ab_res (m : Mem) (o : Option Str) : res m (abD o) = abD o := by cases o <;> simp [abD, res]
theorem noLst_own (own : List Str) : noLstA (ownD own) = true := by
  induction own with
  | nil => rfl
  | cons s own ih =>
    show (noLst (.str s) && noLstA (ownD own)) = true
    rw [ih]; rfl
theorem noLst_sets (sets : List (Str × Str)) : noLstA (setsD sets) = true := by
  induction sets with
  | nil => rfl
  | cons s sets ih =>
    show (noLst (pairS s) && noLstA (setsD sets)) = true
    rw [ih]; rfl
theorem noLst_obj (M : Md) : noLst M.obj = true := by
  have h : noLst (abD M.ab) = true := by cases M.ab <;> rfl
  show (noLstA (ownD M.own) && (true && (true && (true && (noLstA (setsD (M.sets.map nrmP)) && (noLst (abD M.ab) && true)))))) = true
  rw [noLst_own, noLst_sets, h]
  rfl
theorem lst_ok (hM : Ok M) : okD (.lst (M.sets.map lstP)) 2 = true := by
  simp only [okD, Bool.and_eq_true, decide_eq_true_eq, List.length_map]
  refine ⟨by have := hM.sets.len; omega, okA.of fun d hd => ?_⟩
  obtain ⟨p, hp, rfl⟩ := List.mem_map.mp hd
  obtain ⟨h1, h2, h3, h4⟩ := hM.sets.ok p hp
  unfold lstP
  simp only [okD, GB.okA, Bool.and_eq_true, decide_eq_true_eq]
  exact ⟨by simp, ⟨h2, h3⟩, hM.own.so p.2 h4, trivial⟩
theorem B5_ok (hM : Ok M) {no : List Addr} {bx : List D} (h1 : m pn = some (ownD M.own)) (h2 : m ps = some bx) (h3 : Bxs m no bx M.sets) (q : E.nx [some (.scr ns), some (.int i), some (.box b), some (.lst M.items), some (.lst (ownD M.own)), some (.str M.p), some (.str M.mi), some (.str M.ch), some (.lst (setsD M.sets)), some (abD M.ab), some (.box pn), some (.box ps), some (M.obj), o13] m) : B5 E [some (.scr ns), some (.int i), some (.box b), some (.lst M.items), some (.lst (ownD M.own)), some (.str M.p), some (.str M.mi), some (.str M.ch), some (.lst (setsD M.sets)), some (abD M.ab), some (.box pn), some (.box ps), o12, o13] m := by
  unfold B5
  walk_at "wg"
  have goal : lent2 F_Scheme [.box pn, .str M.p, .str M.mi, .str M.ch, .box ps, abD M.ab] m (fun d m' => E.nx [some (.scr ns), some (.int i), some (.box b), some (.lst M.items), some (.lst (ownD M.own)), some (.str M.p), some (.str M.mi), some (.str M.ch), some (.lst (setsD M.sets)), some (abD M.ab), some (.box pn), some (.box ps), some (d), o13] m') E.ex := by
    refine Or.inr ?_
    have e : resA m (resA m [.box pn, .str M.p, .str M.mi, .str M.ch, .box ps, abD M.ab]) = [.lst (ownD M.own), .str M.p, .str M.mi, .str M.ch, .lst (M.sets.map lstP), abD M.ab] := by
      have a1 : res m (.box pn) = .lst (ownD M.own) := by unfold res; rw [h1]
      have a2 : res m (.box ps) = .lst bx := by unfold res; rw [h2]
      simp only [resA, a1, a2, ab_res]
      simp only [res, own_plain, bxs_res h3]
    rw [e]
    refine make_ok hM (c := .lst (ownD M.own)) (s := .lst (M.sets.map lstP)) rfl ⟨1, hM.own.okL⟩ rfl ⟨2, lst_ok hM⟩ (Likes.of_map (fun _ => rfl) _) fun _ _ => ?_
    exact ⟨noLst_obj M, q⟩
  exact goal
theorem B6_ok (hM : Ok M) (h1 : m pn = some (ownD M.own)) (q : ∀ l, E.nx [some (.scr ns), some (.int i), some (.box b), some (.lst M.items), some (.lst (ownD M.own)), some (.str M.p), some (.str M.mi), some (.str M.ch), some (.lst (setsD M.sets)), some (abD M.ab), some (.box pn), some (.box ps), some (M.obj), o13] (m.up pn l)) : B6 E [some (.scr ns), some (.int i), some (.box b), some (.lst M.items), some (.lst (ownD M.own)), some (.str M.p), some (.str M.mi), some (.str M.ch), some (.lst (setsD M.sets)), some (abD M.ab), some (.box pn), some (.box ps), some (M.obj), o13] m := by
  unfold B6
  walk_at "wg"
  refine ⟨by rw [h1]; rfl, ?_⟩
  exact ⟨_, _, rfl, h1, Nat.lt_of_lt_of_le (show (ownD M.own).length < 1000 by rw [List.length_map]; have := hM.own.hi; omega) (small_line (Nat.le_refl _)), q _⟩
def Two (m : Mem) (no : List Addr) (x : D) : Prop := ∃ a, x = .box a ∧ a ∉ no ∧ ∃ l, m a = some l ∧ l.length = 2
theorem B7_ok {l : List D} {bx : List D} (hl : bx.length ≤ 4) (h2 : m ps = some bx) (hb : m b = some l) (hpb : ps ≠ b) (hx : ∀ x ∈ bx, Two m [ps, b] x) (q : ∀ bx' m', m' b = some l → m' ps = some bx' → (∀ x ∈ bx', Two m' [ps, b] x) → E.nx [some (.scr ns), some (.int i), some (.box b), some (.lst M.items), some (.lst (ownD M.own)), some (.str M.p), some (.str M.mi), some (.str M.ch), some (.lst (setsD M.sets)), some (abD M.ab), some (.box pn), some (.box ps), some (M.obj), o13] m') : B7 E [some (.scr ns), some (.int i), some (.box b), some (.lst M.items), some (.lst (ownD M.own)), some (.str M.p), some (.str M.mi), some (.str M.ch), some (.lst (setsD M.sets)), some (abD M.ab), some (.box pn), some (.box ps), some (M.obj), o13] m := by
  unfold B7
  walk_at "wg"
  refine ⟨by rw [h2]; rfl, ?_⟩
  refine ⟨small_line (by decide), fun p3 hp3 => ?_⟩
  have n1 : p3 ≠ ps := fun z => by subst z; rw [hp3] at h2; cases h2
  have n2 : p3 ≠ b := fun z => by subst z; rw [hp3] at hb; cases hb
  refine ⟨_, bx, rfl, by rw [Mem.up_ne (Ne.symm n1)]; exact h2, Nat.lt_of_lt_of_le (show bx.length < 1000 by omega) (small_line (Nat.le_refl _)), ?_⟩
  refine q (bx ++ [.box p3]) _ ?_ Mem.up_same ?_
  · rw [Mem.up_ne (Ne.symm hpb), Mem.up_ne (Ne.symm n2)]; exact hb
  · intro x hx'
    rcases List.mem_append.mp hx' with hx' | hx'
    · obtain ⟨a, e, ha, l', hm, hl'⟩ := hx x hx'
      have ha1 : a ≠ ps := fun z => ha (by simp [z])
      have ha2 : a ≠ p3 := fun z => by subst z; rw [hp3] at hm; cases hm
      exact ⟨a, e, ha, l', by rw [Mem.up_ne ha1, Mem.up_ne ha2]; exact hm, hl'⟩
    · rw [List.mem_singleton] at hx'
      subst hx'
      refine ⟨p3, rfl, by simp [n1, n2], _, by rw [Mem.up_ne n1, Mem.up_same], rfl⟩
theorem B8_ok {l : List D} {bx : List D} (h2 : m ps = some bx) (hb : m b = some l) (hx : ∀ x ∈ bx, Two m [ps, b] x) (q : ∀ o13 m', m' b = some l → E.nx [some (.scr ns), some (.int i), some (.box b), some (.lst M.items), some (.lst (ownD M.own)), some (.str M.p), some (.str M.mi), some (.str M.ch), some (.lst (setsD M.sets)), some (abD M.ab), some (.box pn), some (.box ps), some (M.obj), o13] m') : sForB 11 (gvName 13) T8 E [some (.scr ns), some (.int i), some (.box b), some (.lst M.items), some (.lst (ownD M.own)), some (.str M.p), some (.str M.mi), some (.str M.ch), some (.lst (setsD M.sets)), some (abD M.ab), some (.box pn), some (.box ps), some (M.obj), o13] m := by
  show ∃ ds0, m ps = some ds0 ∧ wLoopB ps ds0 (gvName 13) T8 E ds0 _ m
  refine ⟨_, h2, ?_⟩
  have main : ∀ (Ls : List D) (o13 : Option D) (m' : Mem), m' ps = some bx → m' b = some l → (∀ x ∈ Ls, Two m' [ps, b] x) → wLoopB ps bx (gvName 13) T8 E Ls [some (.scr ns), some (.int i), some (.box b), some (.lst M.items), some (.lst (ownD M.own)), some (.str M.p), some (.str M.mi), some (.str M.ch), some (.lst (setsD M.sets)), some (abD M.ab), some (.box pn), some (.box ps), some (M.obj), o13] m' := by
    intro Ls
    induction Ls with
    | nil =>
      intro o13 m' h2 hb _
      rw [a_loopBN]
      exact ⟨h2, q o13 m' hb⟩
    | cons x Ls ih =>
      intro o13 m' h2 hb hx
      rw [a_loopBC]
      refine ⟨h2, ?_⟩
      obtain ⟨a, rfl, ha, l', hm, hl'⟩ := hx x List.mem_cons_self
      have ha1 : a ≠ ps := fun z => ha (by simp [z])
      have ha2 : a ≠ b := fun z => ha (by simp [z])
      unfold T8
      walk_at "wg"
      refine ⟨l', 1, hm, by rw [hl']; rfl, ?_⟩
      refine ih _ _ (by rw [Mem.up_ne (Ne.symm ha1)]; exact h2) (by rw [Mem.up_ne (Ne.symm ha2)]; exact hb) fun y hy => ?_
      obtain ⟨c, rfl, hc, l2, hm2, hl2⟩ := hx y (List.mem_cons_of_mem _ hy)
      by_cases e : c = a
      · subst e
        exact ⟨c, rfl, hc, _, Mem.up_same, by rw [List.length_set]; exact hl'⟩
      · exact ⟨c, rfl, hc, l2, by rw [Mem.up_ne e]; exact hm2, hl2⟩
  exact main bx o13 m h2 hb hx
theorem B9_ok (hM : Ok M) (hz : Str.ofString "zz" ∉ M.own) (q : ∀ m', Sub m m' → E.nx [some (.scr ns), some (.int i), some (.box b), some (.lst M.items), some (.lst (ownD M.own)), some (.str M.p), some (.str M.mi), some (.str M.ch), some (.lst (setsD M.sets)), some (abD M.ab), some (.box pn), some (.box ps), some (M.obj), o13] m') : B9 E [some (.scr ns), some (.int i), some (.box b), some (.lst M.items), some (.lst (ownD M.own)), some (.str M.p), some (.str M.mi), some (.str M.ch), some (.lst (setsD M.sets)), some (abD M.ab), some (.box pn), some (.box ps), some (M.obj), o13] m := by
  unfold B9
  walk_at "wg"
  refine ⟨M, rfl, hM, hz, fun m1 s1 => ?_⟩
  walk_at "wg"
  refine ⟨M, rfl, hM, fun m2 s2 => ?_⟩
  walk_at "wg"
  exact q m2 (s1.trans s2)
theorem B10_ok (hM : Ok M) (h9 : A9 M) {l : List D} (hb : m b = some l) (hl : Box l 20) (q : ∀ m', E.nx [some (.scr ns), some (.int i), some (.box b), some (.lst M.items), some (.lst (ownD M.own)), some (.str M.p), some (.str M.mi), some (.str M.ch), some (.lst (setsD M.sets)), some (abD M.ab), some (.box pn), some (.box ps), some (M.obj), o13] m') : B10 E [some (.scr ns), some (.int i), some (.box b), some (.lst M.items), some (.lst (ownD M.own)), some (.str M.p), some (.str M.mi), some (.str M.ch), some (.lst (setsD M.sets)), some (abD M.ab), some (.box pn), some (.box ps), some (M.obj), o13] m := by
  unfold B10
  walk_at "wg"
  refine ⟨M, b, 20, l, rfl, hb, hl, by decide, hM, h9, fun m1 s1 => ?_⟩
  walk_at "wg"
  exact q m1
theorem B11_ok (hM : Ok M) (q : ∀ m', E.nx [some (.scr ns), some (.int i), some (.box b), some (.lst M.items), some (.lst (ownD M.own)), some (.str M.p), some (.str M.mi), some (.str M.ch), some (.lst (setsD M.sets)), some (abD M.ab), some (.box pn), some (.box ps), some (M.obj), o13] m') : B11 E [some (.scr ns), some (.int i), some (.box b), some (.lst M.items), some (.lst (ownD M.own)), some (.str M.p), some (.str M.mi), some (.str M.ch), some (.lst (setsD M.sets)), some (abD M.ab), some (.box pn), some (.box ps), some (M.obj), o13] m := by
  unfold B11
  walk_at "wg"
  refine ⟨Nat.zero_le _, nil_lst ?_⟩
  cases M with
  | mk own p mi ch sets ab =>
  cases sets with
  | cons x sets => exact q m
  | nil =>
  cases ab with
  | some a => exact q m
  | none =>
    walk_at "wg"
    rw [if_pos (show (([] : List D).isEmpty ^^ false) = true from rfl)]
    refine isNon_ok ?_
    walk_at "wg"
    rw [if_pos (show isNonD (abD none) = true from rfl)]
    refine tupleM_list (x := .lst (ownD own)) rfl ?_
    refine make_ok hM (c := .tup (ownD own)) (s := .tup []) (gs := []) rfl ⟨1, hM.own.okT⟩ rfl ⟨1, by decide +kernel⟩ Likes.nil fun m1 s1 => ?_
    refine ne_obj hM hM fun e he m2 s2 => ?_
    rw [he.mpr (same_eq _)]
    exact q m2
end
theorem b0_ok {ns : List Int} {i : Int} {E : De} {m : Mem} {o2 o3 o4 o5 o6 o7 o8 o9 o10 o11 o12 o13 : Option D} (k0 : 0 ≤ i) (k1 : i < 1000) (q : ∀ o1 o2 o3 o4 o5 o6 o7 o8 o9 o10 o11 o12 o13 m2, E.nx [some (.scr ns), o1, o2, o3, o4, o5, o6, o7, o8, o9, o10, o11, o12, o13] m2) : B0 E [some (.scr ns), some (.int i), o2, o3, o4, o5, o6, o7, o8, o9, o10, o11, o12, o13] m := by
  unfold B0
  rw [a_seqH]
  refine B1_ok k0 k1 fun b l hb hl => ?_
  dsimp only
  rw [a_hold, a_seqH]
  refine B2_ok Mem.up_same hl fun m1 M n1 hM h9 hz => ?_
  obtain ⟨l1, hb1, hl1⟩ := n1.2
  dsimp only
  rw [a_hold, a_seqH]
  refine B3_ok ?_
  dsimp only
  rw [a_hold, a_seqH]
  refine B4_ok hM hb1 fun pn ps bx m2 s2 g1 g2 g3 d1 d2 d3 => ?_
  have hb2 := s2 _ _ hb1
  dsimp only
  rw [a_hold, a_seqH]
  refine B5_ok hM g1 g2 g3 ?_
  dsimp only
  rw [a_hold, a_seqH]
  refine B6_ok hM g1 fun ln => ?_
  dsimp only
  rw [a_hold, a_seqH]
  refine B7_ok (l := l1) (bx := bx) (by rw [g3.1]; exact hM.sets.len) (by rw [Mem.up_ne d3]; exact g2) (by rw [Mem.up_ne (Ne.symm d1)]; exact hb2) d2 (fun x hx => ?_) fun bx' m3 hb3 h3 hx3 => ?_
  · obtain ⟨j, hj⟩ := List.mem_iff_getElem?.mp hx
    have hlt : j < M.sets.length := by rw [← g3.1]; exact (List.getElem?_eq_some_iff.mp hj).1
    obtain ⟨a, e, ha, hm⟩ := g3.2 j x _ hj (List.getElem?_eq_getElem hlt)
    simp only [List.mem_cons, List.not_mem_nil, or_false, not_or] at ha
    exact ⟨a, e, by simp [ha.1, ha.2.2], _, by rw [Mem.up_ne ha.2.1]; exact hm, rfl⟩
  dsimp only
  rw [a_hold, a_seqH]
  refine B8_ok h3 hb3 hx3 fun o13 m4 hb4 => ?_
  dsimp only
  rw [a_hold, a_seqH]
  refine B9_ok hM hz fun m5 s5 => ?_
  dsimp only
  rw [a_hold, a_seqH]
  refine B10_ok hM h9 (s5 _ _ hb4) hl1 fun m6 => ?_
  dsimp only
  rw [a_hold]
  refine B11_ok hM fun m7 => ?_
  exact q _ _ _ _ _ _ _ _ _ _ _ _ _ m7
theorem r_law : ∀ ds m Qd Qx, F_law ds m Qd Qx → w_law { nx := fun _ m' => Qd .non m', rt := Qd } (ds.map some ++ List.replicate (14 - ds.length) none) m := by
  rintro ds m Qd Qx ⟨ns, rfl, hl, h⟩
  rw [law_eq]
  have hb : ∃ n : Int, (if (if (ns.length : Int) < 8 then (ns.length : Int) else 8) > 2 then (if (ns.length : Int) < 8 then (ns.length : Int) else 8) else 2) = n ∧ 0 ≤ n ∧ n ≤ 8 := by
    refine ⟨_, rfl, ?_, ?_⟩
    · split <;> split <;> omega
    · split <;> split <;> omega
  obtain ⟨n, en, hn0, hn6⟩ := hb
  rw [a_seqH]
  unfold I0
  walk_at "wg"
  refine ⟨?_, ?_⟩
  · show -(2 ^ 62) ≤ (if (if (ns.length : Int) < 8 then (ns.length : Int) else 8) > 2 then (if (ns.length : Int) < 8 then (ns.length : Int) else 8) else 2) ∧ (if (if (ns.length : Int) < 8 then (ns.length : Int) else 8) > 2 then (if (ns.length : Int) < 8 then (ns.length : Int) else 8) else 2) < 2 ^ 62
    rw [en]
    omega
  refine loop_ind (P := fun ds ρ m' => (∀ d ∈ ds, ∃ k : Int, d = .int k ∧ 0 ≤ k ∧ k < 1000) ∧ ∃ o1 o2 o3 o4 o5 o6 o7 o8 o9 o10 o11 o12 o13, ρ = [some (.scr ns), o1, o2, o3, o4, o5, o6, o7, o8, o9, o10, o11, o12, o13]) ?_ ?_ _ _ _ ⟨?_, none, none, none, none, none, none, none, none, none, none, none, none, none, rfl⟩
  · rintro ρ m' ⟨_, o1, o2, o3, o4, o5, o6, o7, o8, o9, o10, o11, o12, o13, rfl⟩
    walk_at "wg"
    exact h m'
  · rintro d ds ρ m1 ⟨hd, o1, o2, o3, o4, o5, o6, o7, o8, o9, o10, o11, o12, o13, rfl⟩ ih
    obtain ⟨k, rfl, k0, k1⟩ := hd d List.mem_cons_self
    have nxt : ∀ o1 o2 o3 o4 o5 o6 o7 o8 o9 o10 o11 o12 o13 m2, wLoop _ _ _ ds [some (.scr ns), o1, o2, o3, o4, o5, o6, o7, o8, o9, o10, o11, o12, o13] m2 := fun o1 o2 o3 o4 o5 o6 o7 o8 o9 o10 o11 o12 o13 m2 => ih _ _ ⟨fun d hd' => hd d (List.mem_cons_of_mem _ hd'), o1, o2, o3, o4, o5, o6, o7, o8, o9, o10, o11, o12, o13, rfl⟩
    clear ih
    generalize wLoop _ _ _ ds = NX at nxt ⊢
    show B0 _ [some (.scr ns), some (.int k), o2, o3, o4, o5, o6, o7, o8, o9, o10, o11, o12, o13] m1
    exact b0_ok k0 k1 nxt
  · intro d hd
    obtain ⟨i, hi, rfl⟩ := List.mem_map.mp hd
    have hi : i < (if (if (ns.length : Int) < 8 then (ns.length : Int) else 8) > 2 then (if (ns.length : Int) < 8 then (ns.length : Int) else 8) else 2).toNat := List.mem_range.mp hi
    rw [en] at hi
    exact ⟨_, rfl, by omega, by omega⟩

end K04
namespace K04
open PySem L2 XO DL GB
local macro_rules | `(tactic| walk_at "wg") => `(tactic| ((try dsimp only); (try rw [a_hold]); (try simp only [List.map_cons, List.map_nil, List.length_cons, List.length_nil, List.cons_append, List.nil_append, List.replicate_succ, List.replicate_zero, Nat.reduceAdd, Nat.reduceSub]); (try simp only [↓a_test, ↓a_v0, ↓a_s0, ↓a_g0, ↓a_v1, ↓a_s1, ↓a_g1, ↓a_v2, ↓a_s2, ↓a_g2, ↓a_v3, ↓a_s3, ↓a_g3, ↓a_v4, ↓a_s4, ↓a_g4, ↓a_v5, ↓a_s5, ↓a_g5, ↓a_v6, ↓a_s6, ↓a_g6, ↓a_v7, ↓a_s7, ↓a_g7, ↓a_v8, ↓a_s8, ↓a_g8, ↓a_v9, ↓a_s9, ↓a_g9, ↓a_v10, ↓a_s10, ↓a_g10, ↓a_v11, ↓a_s11, ↓a_g11, ↓a_v12, ↓a_s12, ↓a_g12, ↓a_v13, ↓a_s13, ↓a_g13, ↓a_v14, ↓a_s14, ↓a_g14, ↓a_v15, ↓a_s15, ↓a_g15, ↓a_v16, ↓a_s16, ↓a_g16, ↓a_v17, ↓a_s17, ↓a_g17, ↓a_v18, ↓a_s18, ↓a_g18, ↓a_v19, ↓a_s19, ↓a_g19, ↓a_v20, ↓a_s20, ↓a_g20, ↓a_v21, ↓a_s21, ↓a_g21, ↓a_v22, ↓a_s22, ↓a_g22, ↓a_v23, ↓a_s23, ↓a_g23, ↓a_v24, ↓a_s24, ↓a_g24, ↓a_v25, ↓a_s25, ↓a_g25, ↓a_v26, ↓a_s26, ↓a_g26, ↓a_v27, ↓a_s27, ↓a_g27, ↓a_star, ↓a_asg2, ↓a_asg4, ↓a_neg, ↓a_zipX, ↓a_callKX, ↓a_get2, ↓a_lcO, ↓a_popAt, ↓a_m0, ↓a_op, ↓a_c, ↓a_call, ↓a_callX, ↓a_call0, ↓a_nil, ↓a_cons, ↓a_bi, ↓a_tnot, ↓a_tor, ↓a_tand, ↓a_tru, ↓a_yes, ↓a_if, ↓a_and, ↓a_or, ↓a_not, ↓a_chain, ↓a_sl, ↓a_noPart, ↓a_part, ↓a_lst, ↓a_tup, ↓a_dct0, ↓a_own, ↓a_isT, ↓a_next, ↓a_seqH, ↓a_ret, ↓a_drop, ↓a_sif, ↓a_raise, ↓a_for, ↓a_iVar, ↓a_fld, ↓a_lc, ↓a_iEnumB, ↓a_iEnumS, ↓a_iSg, ↓a_iLst, ↓a_iTp, ↓a_join, ↓a_lenSet, ↓a_append, ↓a_put, ↓a_par, ↓a_unp, ↓a_meth, ↓a_make, ↓a_listRev, ↓a_methK, ↓a_isC, ↓a_forB, ↓a_dctN, ↓a_dget, ↓a_rg1, ↓a_gTup, ↓a_gNil, ↓a_gCons, ↓a_loopN, wipeD, List.map_cons, List.map_nil, List.length_cons, List.length_nil, List.cons_append, List.nil_append, List.replicate_succ, List.replicate_zero, List.append_nil, List.getElem?_cons_zero, List.getElem?_cons_succ, List.set_cons_zero, List.set_cons_succ, Nat.reduceAdd, Nat.reduceSub, Bool.not_true, Bool.not_false, reduceIte, Bool.false_eq_true, true_and])))
theorem l_is_list : ∀ ds m Q Qx, F_is_list ds m Q Qx → ds.length = 1 := by
  intro ds m Q Qx h
  unfold F_is_list at h
  repeat (rcases h with ⟨_, h⟩)
  all_goals (first | (subst_vars; rfl) | (rcases h with h | h <;> (repeat (rcases h with ⟨_, h⟩)) <;> subst_vars <;> rfl))
theorem l_is_letter : ∀ ds m Q Qx, F_is_letter ds m Q Qx → ds.length = 1 := by
  intro ds m Q Qx h
  unfold F_is_letter fun1 at h
  repeat (rcases h with ⟨_, h⟩)
  all_goals (first | (subst_vars; rfl) | (rcases h with h | h <;> (repeat (rcases h with ⟨_, h⟩)) <;> subst_vars <;> rfl))
theorem l_is_lettered : ∀ ds m Q Qx, F_is_lettered ds m Q Qx → ds.length = 1 := by
  intro ds m Q Qx h
  unfold F_is_lettered fun1 at h
  repeat (rcases h with ⟨_, h⟩)
  all_goals (first | (subst_vars; rfl) | (rcases h with h | h <;> (repeat (rcases h with ⟨_, h⟩)) <;> subst_vars <;> rfl))
theorem l_check_cost : ∀ ds m Q Qx, F_check_cost ds m Q Qx → ds.length = 2 := by
  intro ds m Q Qx h
  unfold F_check_cost at h
  repeat (rcases h with ⟨_, h⟩)
  all_goals (first | (subst_vars; rfl) | (rcases h with h | h <;> (repeat (rcases h with ⟨_, h⟩)) <;> subst_vars <;> rfl))
theorem l__law_cell : ∀ ds m Q Qx, F_law_cell ds m Q Qx → ds.length = 2 := by
  intro ds m Q Qx h
  unfold F_law_cell at h
  repeat (rcases h with ⟨_, h⟩)
  all_goals (first | (subst_vars; rfl) | (rcases h with h | h <;> (repeat (rcases h with ⟨_, h⟩)) <;> subst_vars <;> rfl))
theorem l__law_box : ∀ ds m Q Qx, F_law_box ds m Q Qx → ds.length = 1 := by
  intro ds m Q Qx h
  unfold F_law_box at h
  repeat (rcases h with ⟨_, h⟩)
  all_goals (first | (subst_vars; rfl) | (rcases h with h | h <;> (repeat (rcases h with ⟨_, h⟩)) <;> subst_vars <;> rfl))
theorem l__law_take : ∀ ds m Q Qx, F_law_take ds m Q Qx → ds.length = 2 := by
  intro ds m Q Qx h
  unfold F_law_take at h
  repeat (rcases h with ⟨_, h⟩)
  all_goals (first | (subst_vars; rfl) | (rcases h with h | h <;> (repeat (rcases h with ⟨_, h⟩)) <;> subst_vars <;> rfl))
theorem l__law_due_swap : ∀ ds m Q Qx, F_law_due_swap ds m Q Qx → ds.length = 3 := by
  intro ds m Q Qx h
  unfold F_law_due_swap at h
  repeat (rcases h with ⟨_, h⟩)
  all_goals (first | (subst_vars; rfl) | (rcases h with h | h <;> (repeat (rcases h with ⟨_, h⟩)) <;> subst_vars <;> rfl))
theorem l__law_with : ∀ ds m Q Qx, F_law_with ds m Q Qx → ds.length = 3 := by
  intro ds m Q Qx h
  unfold F_law_with at h
  repeat (rcases h with ⟨_, h⟩)
  all_goals (first | (subst_vars; rfl) | (rcases h with h | h <;> (repeat (rcases h with ⟨_, h⟩)) <;> subst_vars <;> rfl))
theorem l_is_name : ∀ ds m Q Qx, F_is_name ds m Q Qx → ds.length = 1 := by
  intro ds m Q Qx h
  unfold F_is_name fun1 at h
  repeat (rcases h with ⟨_, h⟩)
  all_goals (first | (subst_vars; rfl) | (rcases h with h | h <;> (repeat (rcases h with ⟨_, h⟩)) <;> subst_vars <;> rfl))
theorem l_is_group : ∀ ds m Q Qx, F_is_group ds m Q Qx → ds.length = 1 := by
  intro ds m Q Qx h
  unfold F_is_group at h
  repeat (rcases h with ⟨_, h⟩)
  all_goals (first | (subst_vars; rfl) | (rcases h with h | h <;> (repeat (rcases h with ⟨_, h⟩)) <;> subst_vars <;> rfl))
theorem l_is_step : ∀ ds m Q Qx, F_is_step ds m Q Qx → ds.length = 1 := by
  intro ds m Q Qx h
  unfold F_is_step at h
  repeat (rcases h with ⟨_, h⟩)
  all_goals (first | (subst_vars; rfl) | (rcases h with h | h <;> (repeat (rcases h with ⟨_, h⟩)) <;> subst_vars <;> rfl))
theorem l__law_model : ∀ ds m Q Qx, F_law_model ds m Q Qx → ds.length = 1 := by
  intro ds m Q Qx h
  unfold F_law_model at h
  repeat (rcases h with ⟨_, h⟩)
  all_goals (first | (subst_vars; rfl) | (rcases h with h | h <;> (repeat (rcases h with ⟨_, h⟩)) <;> subst_vars <;> rfl))
theorem l_check_names : ∀ ds m Q Qx, F_check_names ds m Q Qx → ds.length = 1 := by
  intro ds m Q Qx h
  unfold F_check_names at h
  repeat (rcases h with ⟨_, h⟩)
  all_goals (first | (subst_vars; rfl) | (rcases h with h | h <;> (repeat (rcases h with ⟨_, h⟩)) <;> subst_vars <;> rfl))
theorem l_checked_groups : ∀ ds m Q Qx, F_checked_groups ds m Q Qx → ds.length = 2 := by
  intro ds m Q Qx h
  unfold F_checked_groups at h
  repeat (rcases h with ⟨_, h⟩)
  all_goals (first | (subst_vars; rfl) | (rcases h with h | h <;> (repeat (rcases h with ⟨_, h⟩)) <;> subst_vars <;> rfl))
theorem l_Scheme___len__ : ∀ ds m Q Qx, F_Scheme___len__ ds m Q Qx → ds.length = 1 := by
  intro ds m Q Qx h
  unfold F_Scheme___len__ at h
  repeat (rcases h with ⟨_, h⟩)
  all_goals (first | (subst_vars; rfl) | (rcases h with h | h <;> (repeat (rcases h with ⟨_, h⟩)) <;> subst_vars <;> rfl))
theorem l_Scheme___contains__ : ∀ ds m Q Qx, F_Scheme___contains__ ds m Q Qx → ds.length = 2 := by
  intro ds m Q Qx h
  unfold F_Scheme___contains__ at h
  repeat (rcases h with ⟨_, h⟩)
  all_goals (first | (subst_vars; rfl) | (rcases h with h | h <;> (repeat (rcases h with ⟨_, h⟩)) <;> subst_vars <;> rfl))
theorem l_Scheme___eq__ : ∀ ds m Q Qx, F_Scheme___eq__ ds m Q Qx → ds.length = 2 := by
  intro ds m Q Qx h
  unfold F_Scheme___eq__ at h
  repeat (rcases h with ⟨_, h⟩)
  all_goals (first | (subst_vars; rfl) | (rcases h with h | h <;> (repeat (rcases h with ⟨_, h⟩)) <;> subst_vars <;> rfl))
theorem l_Scheme_swap_cost : ∀ ds m Q Qx, F_Scheme_swap_cost ds m Q Qx → ds.length = 3 := by
  intro ds m Q Qx h
  unfold F_Scheme_swap_cost at h
  repeat (rcases h with ⟨_, h⟩)
  all_goals (first | (subst_vars; rfl) | (rcases h with h | h <;> (repeat (rcases h with ⟨_, h⟩)) <;> subst_vars <;> rfl))
theorem l_Scheme_step_cost : ∀ ds m Q Qx, F_Scheme_step_cost ds m Q Qx → ds.length = 3 := by
  intro ds m Q Qx h
  unfold F_Scheme_step_cost at h
  repeat (rcases h with ⟨_, h⟩)
  all_goals (first | (subst_vars; rfl) | (rcases h with h | h <;> (repeat (rcases h with ⟨_, h⟩)) <;> subst_vars <;> rfl))
theorem l__law_told_right : ∀ ds m Q Qx, F_law_told_right ds m Q Qx → ds.length = 2 := by
  intro ds m Q Qx h
  unfold F_law_told_right at h
  repeat (rcases h with ⟨_, h⟩)
  all_goals (first | (subst_vars; rfl) | (rcases h with h | h <;> (repeat (rcases h with ⟨_, h⟩)) <;> subst_vars <;> rfl))
theorem l__law_steps_right : ∀ ds m Q Qx, F_law_steps_right ds m Q Qx → ds.length = 2 := by
  intro ds m Q Qx h
  unfold F_law_steps_right at h
  repeat (rcases h with ⟨_, h⟩)
  all_goals (first | (subst_vars; rfl) | (rcases h with h | h <;> (repeat (rcases h with ⟨_, h⟩)) <;> subst_vars <;> rfl))
theorem l__law_scheme : ∀ ds m Q Qx, F_law_scheme ds m Q Qx → ds.length = 1 := by
  intro ds m Q Qx h
  unfold F_law_scheme at h
  repeat (rcases h with ⟨_, h⟩)
  all_goals (first | (subst_vars; rfl) | (rcases h with h | h <;> (repeat (rcases h with ⟨_, h⟩)) <;> subst_vars <;> rfl))
theorem l__law_equal_right : ∀ ds m Q Qx, F_law_equal_right ds m Q Qx → ds.length = 3 := by
  intro ds m Q Qx h
  unfold F_law_equal_right at h
  repeat (rcases h with ⟨_, h⟩)
  all_goals (first | (subst_vars; rfl) | (rcases h with h | h <;> (repeat (rcases h with ⟨_, h⟩)) <;> subst_vars <;> rfl))
theorem l_law : ∀ ds m Q Qx, F_law ds m Q Qx → ds.length = 1 := lawFn_len

end K04
namespace K04
open PySem L2 XO DL GB
/-! arguments put in order -/
def perm6 {α : Type} : List α → List α
  | [a, b, c, d, e, f] => [a, e, d, c, f, b]
  | l => l
theorem perm6_vals {zs : List V} {ws : List Value} (r : Vals zs ws) : Vals (perm6 zs) (perm6 ws) := by
  cases r with
  | nil => exact .nil
  | cons a r => cases r with
    | nil => exact .cons a .nil
    | cons b r => cases r with
      | nil => exact .cons a (.cons b .nil)
      | cons c r => cases r with
        | nil => exact .cons a (.cons b (.cons c .nil))
        | cons d r => cases r with
          | nil => exact .cons a (.cons b (.cons c (.cons d .nil)))
          | cons e r => cases r with
            | nil => exact .cons a (.cons b (.cons c (.cons d (.cons e .nil))))
            | cons f r => cases r with
              | nil => exact .cons a (.cons e (.cons d (.cons c (.cons f (.cons b .nil)))))
              | cons g r => exact .cons a (.cons b (.cons c (.cons d (.cons e (.cons f (.cons g r))))))
section
variable {K : Fg} {G : Hp} {C : Addr}
theorem make_perm6 {x : Addr} {vs zs : List V} {ds es : List D} (r1 : RpA K G vs ds) (r2 : RpA K G zs es) (h1 : vs.length = 0) (h2 : zs.length = (["costs", "turn", "swap", "drop", "add", "groups"] : List Str).length) : ∃ rest, (V.ref x :: vs) ++ perm6 zs = V.ref x :: rest ∧ RpA K G rest (gD_Scheme_1 ds es) := by
  have h2 : zs.length = 6 := h2
  match zs, h2, es, r2 with
  | [_, _, _, _, _, _], _, _, .cons a (.cons b (.cons c (.cons d (.cons e (.cons f .nil))))) =>
    cases vs with
    | nil => exact ⟨_, rfl, .cons a (.cons e (.cons d (.cons c (.cons f (.cons b .nil)))))⟩
    | cons y vs => cases h1
theorem gk_Scheme_step_cost_0 (G : Hp) (x : V) (o : D) (vs zs : List V) (ds es : List D) (r0 : Rp K G x o) (r1 : RpA K G vs ds) (r2 : RpA K G zs es) (h1 : vs.length = 1) (h2 : zs.length = (["letter"] : List Str).length) : RpA K G ((x :: vs) ++ zs) (o :: gK_Scheme_step_cost_0 ds es) :=
  (RpA.cons r0 r1).app r2
theorem gk_Scheme_step_cost_1 (G : Hp) (x : V) (o : D) (vs zs : List V) (ds es : List D) (r0 : Rp K G x o) (r1 : RpA K G vs ds) (r2 : RpA K G zs es) (h1 : vs.length = 1) (h2 : zs.length = ([] : List Str).length) : RpA K G ((x :: vs) ++ zs ++ [V.non]) (o :: gK_Scheme_step_cost_1 ds es) := by
  cases zs with
  | nil =>
    rw [List.append_nil]
    exact (RpA.cons r0 r1).app (.cons .non .nil)
  | cons y zs => cases h2
theorem gk_Scheme_step_cost_2 (G : Hp) (x : V) (o : D) (vs zs : List V) (ds es : List D) (r0 : Rp K G x o) (r1 : RpA K G vs ds) (r2 : RpA K G zs es) (h1 : vs.length = 0) (h2 : zs.length = (["step"] : List Str).length) : RpA K G ((x :: vs) ++ zs ++ [V.non]) (o :: gK_Scheme_step_cost_2 ds es) := by
  cases vs with
  | nil => exact (RpA.cons r0 r2).app (.cons .non .nil)
  | cons y vs => cases h1
theorem gk_Scheme_swap_cost_0 (G : Hp) (x : V) (o : D) (vs zs : List V) (ds es : List D) (r0 : Rp K G x o) (r1 : RpA K G vs ds) (r2 : RpA K G zs es) (h1 : vs.length = 0) (h2 : zs.length = (["other", "one"] : List Str).length) : RpA K G ((x :: vs) ++ swap2 zs) (o :: gK_Scheme_swap_cost_0 ds es) := by
  cases vs with
  | nil => exact .cons r0 (swap2_rp r2)
  | cons y vs => cases h1
theorem rp_unit {a : Addr} {od : Option Addr} {n : Nat} {sl : Array (Option Value)} (h : K.lookup a = some ⟨.type "tuple", od, .seq #[] n, sl⟩) : Rp K G (.ref a) (.tup []) :=
  .tup (xs := []) (Or.inr ⟨_, _, _, h, rfl, rfl, Nat.zero_le _, .nil⟩) .nil
theorem kit_no {t : String} (h1 : PySem.W.isClsIn K C = true) (h2 : PySem.W.typeIn K (.ref C) = some (.type "type")) (h3 : PySem.W.subIn K (.type t) (.ref C) = some false) : PySem.W.kitOne K (.type t) (.ref C) = some false := by
  unfold PySem.W.kitOne PySem.W.kitCls
  rw [if_neg (by simp)]
  show (if ((PySem.W.clsIn K C).isSome && PySem.W.typeIn K (.ref C) == some (.type "type")) = true then PySem.W.subIn K (.type t) (.ref C) else none) = some false
  rw [if_pos (by rw [show (PySem.W.clsIn K C).isSome = true from h1, h2]; rfl)]
  exact h3
theorem kit_no2 {t : String} (h1 : PySem.W.kitMeta t = true) (h3 : PySem.W.subIn K (.ref C) (.type t) = some false) : PySem.W.kitOne K (.ref C) (.type t) = some false := by
  unfold PySem.W.kitOne PySem.W.kitCls
  rw [if_neg (by simp)]
  show (if PySem.W.kitMeta t = true then PySem.W.subIn K (.ref C) (.type t) else none) = some false
  rw [if_pos h1]
  exact h3
theorem ty7 {P : String → Prop} (h1 : P "NoneType") (h2 : P "bool") (h3 : P "int") (h4 : P "str") (h5 : P "list") (h6 : P "tuple") (h7 : P "dict") : ∀ t : String, t = "NoneType" ∨ t = "bool" ∨ t = "int" ∨ t = "str" ∨ t = "list" ∨ t = "tuple" ∨ t = "dict" → P t := by
  rintro t (rfl | rfl | rfl | rfl | rfl | rfl | rfl) <;> assumption
theorem ty6 {P : String → Prop} (h1 : P "str") (h2 : P "int") (h3 : P "bool") (h4 : P "list") (h5 : P "tuple") (h6 : P "dict") : ∀ t : String, t = "str" ∨ t = "int" ∨ t = "bool" ∨ t = "list" ∨ t = "tuple" ∨ t = "dict" → P t := by
  rintro t (rfl | rfl | rfl | rfl | rfl | rfl) <;> assumption
theorem kws2 {D : Addr} {a b : Str} {x y : V} {u v : Value} (h1 : PySem.W.nsIn K D a = some (some u)) (r1 : RelV x u) (h2 : PySem.W.nsIn K D b = some (some v)) (r2 : RelV y v) : ∀ q ∈ [(a, x), (b, y)], ∃ u, PySem.W.nsIn K D q.1 = some (some u) ∧ RelV q.2 u := by
  intro q hq
  simp only [List.mem_cons, List.not_mem_nil, or_false] at hq
  rcases hq with rfl | rfl
  · exact ⟨u, h1, r1⟩
  · exact ⟨v, h2, r2⟩
end
end K04
namespace K04
open PySem L2 XO DL GB
def top (i : Nat) : Stmt := PySem.Challenge.pw_seenchoices_k04_schemes_told.main.body.getD i (.Pass ⟨0, 0, 0, 0⟩)
def inCls (s : Stmt) (j : Nat) : Stmt := match s with
  | .ClassDef _ _ _ body _ _ _ _ _ _ _ => body.getD j (.Pass ⟨0, 0, 0, 0⟩)
  | _ => .Pass ⟨0, 0, 0, 0⟩
theorem bt_any : bootBuiltins "any" = some (.builtin "any") := by decide +kernel
theorem bt_enumerate : bootBuiltins "enumerate" = some (.type "enumerate") := by decide +kernel
theorem bt_isinstance : bootBuiltins "isinstance" = some (.builtin "isinstance") := by decide +kernel
theorem bt_len : bootBuiltins "len" = some (.builtin "len") := by decide +kernel
theorem bt_list : bootBuiltins "list" = some (.type "list") := by decide +kernel
theorem bt_max : bootBuiltins "max" = some (.builtin "max") := by decide +kernel
theorem bt_min : bootBuiltins "min" = some (.builtin "min") := by decide +kernel
theorem bt_range : bootBuiltins "range" = some (.type "range") := by decide +kernel
theorem bt_reversed : bootBuiltins "reversed" = some (.type "reversed") := by decide +kernel
theorem bt_set : bootBuiltins "set" = some (.type "set") := by decide +kernel
theorem bt_sorted : bootBuiltins "sorted" = some (.builtin "sorted") := by decide +kernel
theorem bt_str : bootBuiltins "str" = some (.type "str") := by decide +kernel
theorem bt_tuple : bootBuiltins "tuple" = some (.type "tuple") := by decide +kernel
abbrev s_is_list : Stmt := top 12
theorem sc_is_list : FnScope ["value"] ["value"] (defScope s_is_list) := ⟨rfl, rfl, rfl, by decide +kernel, rfl, by decide +kernel, by decide +kernel⟩
abbrev s_is_letter : Stmt := top 13
theorem sc_is_letter : FnScope ["value"] ["value"] (defScope s_is_letter) := ⟨rfl, rfl, rfl, by decide +kernel, rfl, by decide +kernel, by decide +kernel⟩
abbrev s_is_lettered : Stmt := top 14
theorem sc_is_lettered : FnScope ["value"] ["value"] (defScope s_is_lettered) := ⟨rfl, rfl, rfl, by decide +kernel, rfl, by decide +kernel, by decide +kernel⟩
abbrev s_check_cost : Stmt := top 21
theorem sc_check_cost : FnScope ["names", "cost"] ["names", "cost"] (defScope s_check_cost) := ⟨rfl, rfl, rfl, by decide +kernel, rfl, by decide +kernel, by decide +kernel⟩
abbrev s__law_cell : Stmt := top 27
theorem sc__law_cell : FnScope ["_law_script", "_law_k"] ["_law_script", "_law_k"] (defScope s__law_cell) := ⟨rfl, rfl, rfl, by decide +kernel, rfl, by decide +kernel, by decide +kernel⟩
abbrev s__law_box : Stmt := top 28
theorem sc__law_box : FnScope ["_law_cell_here"] ["_law_cell_here"] (defScope s__law_box) := ⟨rfl, rfl, rfl, by decide +kernel, rfl, by decide +kernel, by decide +kernel⟩
abbrev s__law_take : Stmt := top 29
theorem sc__law_take : FnScope ["_law_box_here", "_law_many", "_law_mixed", "_law_digit"] ["_law_box_here", "_law_many"] (defScope s__law_take) := ⟨rfl, rfl, rfl, by decide +kernel, rfl, by decide +kernel, by decide +kernel⟩
abbrev s__law_due_swap : Stmt := top 32
theorem sc__law_due_swap : FnScope ["_law_model_here", "_law_left", "_law_right", "_law_near", "_law_letters", "_law_cost"] ["_law_model_here", "_law_left", "_law_right"] (defScope s__law_due_swap) := ⟨rfl, rfl, rfl, by decide +kernel, rfl, by decide +kernel, by decide +kernel⟩
abbrev s__law_with : Stmt := top 35
theorem sc__law_with : FnScope ["_law_model_here", "_law_at", "_law_thing"] ["_law_model_here", "_law_at", "_law_thing"] (defScope s__law_with) := ⟨rfl, rfl, rfl, by decide +kernel, rfl, by decide +kernel, by decide +kernel⟩
abbrev s_is_name : Stmt := top 15
theorem sc_is_name : FnScope ["value"] ["value"] (defScope s_is_name) := ⟨rfl, rfl, rfl, by decide +kernel, rfl, by decide +kernel, by decide +kernel⟩
abbrev s_is_group : Stmt := top 22
theorem sc_is_group : FnScope ["value"] ["value"] (defScope s_is_group) := ⟨rfl, rfl, rfl, by decide +kernel, rfl, by decide +kernel, by decide +kernel⟩
abbrev s_is_step : Stmt := top 24
theorem sc_is_step : FnScope ["value"] ["value"] (defScope s_is_step) := ⟨rfl, rfl, rfl, by decide +kernel, rfl, by decide +kernel, by decide +kernel⟩
abbrev s__law_model : Stmt := top 30
theorem sc__law_model : FnScope ["_law_box_here", "_law_names", "_law_own", "_law_edits", "_law_sets", "_law_k"] ["_law_box_here"] (defScope s__law_model) := ⟨rfl, rfl, rfl, by decide +kernel, rfl, by decide +kernel, by decide +kernel⟩
abbrev s_check_names : Stmt := top 20
theorem sc_check_names : FnScope ["costs", "position", "cost"] ["costs"] (defScope s_check_names) := ⟨rfl, rfl, rfl, by decide +kernel, rfl, by decide +kernel, by decide +kernel⟩
abbrev s_checked_groups : Stmt := top 23
theorem sc_checked_groups : FnScope ["names", "groups", "found", "taken", "group", "letter"] ["names", "groups"] (defScope s_checked_groups) := ⟨rfl, rfl, rfl, by decide +kernel, rfl, by decide +kernel, by decide +kernel⟩
abbrev s_Scheme___len__ : Stmt := inCls (top 25) 7
theorem sc_Scheme___len__ : FnScope ["self"] ["self"] (defScope s_Scheme___len__) := ⟨rfl, rfl, rfl, by decide +kernel, rfl, by decide +kernel, by decide +kernel⟩
abbrev s_Scheme___contains__ : Stmt := inCls (top 25) 8
theorem sc_Scheme___contains__ : FnScope ["self", "value"] ["self", "value"] (defScope s_Scheme___contains__) := ⟨rfl, rfl, rfl, by decide +kernel, rfl, by decide +kernel, by decide +kernel⟩
abbrev s_Scheme___eq__ : Stmt := inCls (top 25) 9
theorem sc_Scheme___eq__ : FnScope ["self", "other"] ["self", "other"] (defScope s_Scheme___eq__) := ⟨rfl, rfl, rfl, by decide +kernel, rfl, by decide +kernel, by decide +kernel⟩
abbrev s_Scheme_swap_cost : Stmt := inCls (top 25) 10
theorem sc_Scheme_swap_cost : FnScope ["self", "one", "other", "letter", "letters", "cost"] ["self", "one", "other"] (defScope s_Scheme_swap_cost) := ⟨rfl, rfl, rfl, by decide +kernel, rfl, by decide +kernel, by decide +kernel⟩
abbrev s_Scheme_init : Stmt := inCls (top 25) 0
theorem sc_Scheme_init : FnScope ["self", "costs", "add", "drop", "swap", "groups", "turn", "cost", "ordered"] ["self", "costs", "add", "drop", "swap", "groups", "turn"] (defScope s_Scheme_init) := ⟨rfl, rfl, rfl, by decide +kernel, rfl, by decide +kernel, by decide +kernel⟩
abbrev s_Scheme_step_cost : Stmt := inCls (top 25) 11
theorem sc_Scheme_step_cost : FnScope ["self", "step", "letter", "table"] ["self", "step", "letter"] (defScope s_Scheme_step_cost) := ⟨rfl, rfl, rfl, by decide +kernel, rfl, by decide +kernel, by decide +kernel⟩
abbrev s__law_told_right : Stmt := top 33
theorem sc__law_told_right : FnScope ["_law_scheme_here", "_law_model_here", "_law_own", "_law_plus", "_law_minus", "_law_change", "_law_sets", "_law_about", "_law_due", "_law_found", "_law_odd", "_law_letters", "_law_cost", "_law_thing", "_law_name"] ["_law_scheme_here", "_law_model_here"] (defScope s__law_told_right) := ⟨rfl, rfl, rfl, by decide +kernel, rfl, by decide +kernel, by decide +kernel⟩
abbrev s__law_steps_right : Stmt := top 34
theorem sc__law_steps_right : FnScope ["_law_scheme_here", "_law_model_here", "_law_own", "_law_plus", "_law_minus", "_law_change", "_law_sets", "_law_about", "_law_found", "_law_left", "_law_right", "_law_due"] ["_law_scheme_here", "_law_model_here"] (defScope s__law_steps_right) := ⟨rfl, rfl, rfl, by decide +kernel, rfl, by decide +kernel, by decide +kernel⟩
abbrev s__law_scheme : Stmt := top 31
theorem sc__law_scheme : FnScope ["_law_model_here", "_law_own", "_law_plus", "_law_minus", "_law_change", "_law_sets", "_law_about"] ["_law_model_here"] (defScope s__law_scheme) := ⟨rfl, rfl, rfl, by decide +kernel, rfl, by decide +kernel, by decide +kernel⟩
abbrev s__law_equal_right : Stmt := top 36
theorem sc__law_equal_right : FnScope ["_law_box_here", "_law_scheme_here", "_law_model_here", "_law_own", "_law_sets", "_law_turned", "_law_letters", "_law_cost", "_law_back", "_law_name", "_law_others", "_law_another", "_law_same", "_law_at"] ["_law_box_here", "_law_scheme_here", "_law_model_here"] (defScope s__law_equal_right) := ⟨rfl, rfl, rfl, by decide +kernel, rfl, by decide +kernel, by decide +kernel⟩
abbrev s_law : Stmt := top 37
theorem sc_law : FnScope ["_law_script", "_law_k", "_law_box_here", "_law_model_here", "_law_own", "_law_plus", "_law_minus", "_law_change", "_law_sets", "_law_about", "_law_names", "_law_some", "_law_scheme_here", "_law_group"] ["_law_script"] (defScope s_law) := ⟨rfl, rfl, rfl, by decide +kernel, rfl, by decide +kernel, by decide +kernel⟩
abbrev s_prop_Scheme_costs : Stmt := inCls (top 25) 1
theorem sc_prop_Scheme_costs : FnScope ["self"] ["self"] (defScope s_prop_Scheme_costs) := ⟨rfl, rfl, rfl, by decide +kernel, rfl, by decide +kernel, by decide +kernel⟩
abbrev s_prop_Scheme_cost_to_add : Stmt := inCls (top 25) 2
theorem sc_prop_Scheme_cost_to_add : FnScope ["self"] ["self"] (defScope s_prop_Scheme_cost_to_add) := ⟨rfl, rfl, rfl, by decide +kernel, rfl, by decide +kernel, by decide +kernel⟩
abbrev s_prop_Scheme_cost_to_drop : Stmt := inCls (top 25) 3
theorem sc_prop_Scheme_cost_to_drop : FnScope ["self"] ["self"] (defScope s_prop_Scheme_cost_to_drop) := ⟨rfl, rfl, rfl, by decide +kernel, rfl, by decide +kernel, by decide +kernel⟩
abbrev s_prop_Scheme_cost_to_swap : Stmt := inCls (top 25) 4
theorem sc_prop_Scheme_cost_to_swap : FnScope ["self"] ["self"] (defScope s_prop_Scheme_cost_to_swap) := ⟨rfl, rfl, rfl, by decide +kernel, rfl, by decide +kernel, by decide +kernel⟩
abbrev s_prop_Scheme_groups : Stmt := inCls (top 25) 5
theorem sc_prop_Scheme_groups : FnScope ["self"] ["self"] (defScope s_prop_Scheme_groups) := ⟨rfl, rfl, rfl, by decide +kernel, rfl, by decide +kernel, by decide +kernel⟩
abbrev s_prop_Scheme_cost_to_turn : Stmt := inCls (top 25) 6
theorem sc_prop_Scheme_cost_to_turn : FnScope ["self"] ["self"] (defScope s_prop_Scheme_cost_to_turn) := ⟨rfl, rfl, rfl, by decide +kernel, rfl, by decide +kernel, by decide +kernel⟩
structure Txt (K : Fg) (mg : Str → Option Value) : Prop where
  z_any : mg "any" = none
  z_enumerate : mg "enumerate" = none
  z_isinstance : mg "isinstance" = none
  z_len : mg "len" = none
  z_list : mg "list" = none
  z_max : mg "max" = none
  z_min : mg "min" = none
  z_range : mg "range" = none
  z_reversed : mg "reversed" = none
  z_set : mg "set" = none
  z_sorted : mg "sorted" = none
  z_str : mg "str" = none
  z_tuple : mg "tuple" = none
  c_LONGEST_NAME : ∃ t, mg "LONGEST_NAME" = some (.int 8 t)
  c_MOST_COSTS : ∃ t, mg "MOST_COSTS" = some (.int 4 t)
  c_STEPS_ALONE : ∃ a, mg "STEPS_ALONE" = some (.ref a) ∧ ∀ G, Rp K G (.ref a) (.tup ((["keep", "drop", "turn"] : List Str).map D.str))
  c_STEPS_WITH_LETTER : ∃ a, mg "STEPS_WITH_LETTER" = some (.ref a) ∧ ∀ G, Rp K G (.ref a) (.tup ((["add", "swap"] : List Str).map D.str))
structure ClsF (K : Fg) (mg : Str → Option Value) (C : Addr) : Prop where
  kl : Kl K mg "Scheme" C
  ki : KlI K mg "Scheme" C
  kt : KlT K C
  ne : NeOf K C
  no : ∀ t : String, t = "NoneType" ∨ t = "bool" ∨ t = "int" ∨ t = "str" ∨ t = "list" ∨ t = "tuple" ∨ t = "dict" → PySem.W.notFirst K C (.type t) = true
  na_costs : NoAttr K C "_costs"
  na_add : NoAttr K C "_add"
  na_drop : NoAttr K C "_drop"
  na_swap : NoAttr K C "_swap"
  na_groups : NoAttr K C "_groups"
  na_turn : NoAttr K C "_turn"
  pr_costs : PropAt K C "costs" "_costs"
  pr_cost_to_add : PropAt K C "cost_to_add" "_add"
  pr_cost_to_drop : PropAt K C "cost_to_drop" "_drop"
  pr_cost_to_swap : PropAt K C "cost_to_swap" "_swap"
  pr_groups : PropAt K C "groups" "_groups"
  pr_cost_to_turn : PropAt K C "cost_to_turn" "_turn"
def apart (K : Fg) (mg : Str → Option Value) : Prop := ApartAll K mg ["Duplicate", "InvalidGroup", "InvalidLetter", "InvalidName", "InvalidPart", "InvalidStep", "UnknownCost"]
section
variable {P : Program} {w : World} {K : Fg} {mg : Str → Option Value} {base : Heap}
theorem ok_is_list (T : Txt K mg) (FA : FunAt K mg "is_list" "is_list" s_is_list ["value"]) : Has P w K mg base 1 "is_list"  ["value"] F_is_list :=
  has_of (W := fun _ _ _ _ => False) FA sc_is_list l_is_list (wb := w_is_list) (fun f cdv A oe s H E hX => (pb_one (ps_ret (pd_isiT2 hX.K hX.mg T.z_isinstance bt_isinstance T.z_list bt_list T.z_tuple bt_tuple (pd_var 0 hX.hN))))) r_is_list
theorem ok_is_letter (T : Txt K mg) (FA : FunAt K mg "is_letter" "is_letter" s_is_letter ["value"]) : Has P w K mg base 1 "is_letter"  ["value"] F_is_letter :=
  has_of (W := fun _ _ _ _ => False) FA sc_is_letter l_is_letter (wb := w_is_letter) (fun f cdv A oe s H E hX => (pb_one (ps_ret (pd_and (pd_bi (b_isi hX.K) hX.mg T.z_isinstance bt_isinstance (pa_cons (pd_var 0 hX.hN) (pa_cons (pd_ty hX.mg T.z_str bt_str) pa_nil))) (pd_and (pd_cmp (c_eq hX.toFam) (pd_bi (b_len hX.K) hX.mg T.z_len bt_len (pa_cons (pd_var 0 hX.hN) pa_nil)) pd_int) (pd_one (pd_chain (c_le) (c_le) pd_str (pd_var 0 hX.hN) pd_str))))))) r_is_letter
theorem ok_is_lettered (T : Txt K mg) (FA : FunAt K mg "is_lettered" "is_lettered" s_is_lettered ["value"]) : Has P w K mg base 1 "is_lettered"  ["value"] F_is_lettered :=
  has_of (W := fun _ _ _ _ => False) FA sc_is_lettered l_is_lettered (wb := w_is_lettered) (fun f cdv A oe s H E hX => (pb_cons (ps_if (pt_not (pt_val (pd_bi (b_isi hX.K) hX.mg T.z_isinstance bt_isinstance (pa_cons (pd_var 0 hX.hN) (pa_cons (pd_ty hX.mg T.z_str bt_str) pa_nil))))) (pb_one (ps_ret pd_bl)) pb_nil) (pb_one (ps_ret (pd_or (pd_cmp (c_eq hX.toFam) (pd_var 0 hX.hN) pd_str) (pd_one (pd_and (pd_m0 m_isascii PySem.F.slot_str_isascii PySem.F.type_str_isascii (pd_var 0 hX.hN)) (pd_and (pd_m0 m_isalpha PySem.F.slot_str_isalpha PySem.F.type_str_isalpha (pd_var 0 hX.hN)) (pd_one (pd_m0 m_islower PySem.F.slot_str_islower PySem.F.type_str_islower (pd_var 0 hX.hN))))))))))) r_is_lettered
theorem ok_check_cost (T : Txt K mg) (FA : FunAt K mg "check_cost" "check_cost" s_check_cost ["names", "cost"]) (SU : Sup P mg) (XC_UnknownCost : XC P K mg "UnknownCost" "label") : HasX P w K mg base 1 "check_cost"  ["names", "cost"] F_check_cost :=
  has_ofX FA sc_check_cost l_check_cost (wb := w_check_cost) (fun f cdv A oe s H E hX tk => (pb_one (ps_if (pw_pt (pw_or (pt_not (pt_val (pd_bi (b_isi hX.K) hX.mg T.z_isinstance bt_isinstance (pa_cons (pd_var 1 hX.hN) (pa_cons (pd_ty hX.mg T.z_str bt_str) pa_nil))))) (pw_or1 (pt_cmp (c_notIn hX.K) (pd_var 1 hX.hN) (pd_var 0 hX.hN))))) (pb_one (ps_raiseX hX tk SU XC_UnknownCost (pd_var 1 hX.hN))) pb_nil))) r_check_cost
theorem ok__law_cell (T : Txt K mg) (FA : FunAt K mg "_law_cell" "_law_cell" s__law_cell ["_law_script", "_law_k"]) : Has P w K mg base 1 "_law_cell"  ["_law_script", "_law_k"] F_law_cell :=
  has_of (W := fun _ _ _ _ => False) FA sc__law_cell l__law_cell (wb := w__law_cell) (fun f cdv A oe s H E hX => (pb_cons (ps_if (pt_cmp (c_lt) (pd_var 1 hX.hN) (pd_bi (b_len hX.K) hX.mg T.z_len bt_len (pa_cons (pd_var 0 hX.hN) pa_nil))) (pb_one (ps_ret (pd_ix hX.K (pd_var 0 hX.hN) (pd_var 1 hX.hN)))) pb_nil) (pb_one (ps_ret (pd_add hX.K (pd_mul pd_int (pd_var 1 hX.hN)) pd_int))))) r__law_cell
theorem ok__law_box (T : Txt K mg) (FA : FunAt K mg "_law_box" "_law_box" s__law_box ["_law_cell_here"]) : Has P w K mg base 1 "_law_box"  ["_law_cell_here"] F_law_box :=
  has_of (W := fun _ _ _ _ => False) FA sc__law_box l__law_box (wb := w__law_box) (fun f cdv A oe s H E hX => (pb_one (ps_ret (pd_own (pa_cons (pd_bi (b_max hX.calm) hX.mg T.z_max bt_max (pa_cons pd_int (pa_cons (pd_sub (pd_var 0 hX.hN) (pd_pow pd_int pd_int)) pa_nil))) (pa_cons (pd_mod (pd_var 0 hX.hN) pd_int) (pa_cons pd_int pa_nil))))))) r__law_box
theorem ok__law_take (T : Txt K mg) (FA : FunAt K mg "_law_take" "_law_take" s__law_take ["_law_box_here", "_law_many"]) : Has P w K mg base 1 "_law_take"  ["_law_box_here", "_law_many"] F_law_take :=
  has_of (W := fun _ _ _ _ => False) FA sc__law_take l__law_take (wb := w__law_take) (fun f cdv A oe s H E hX => (pb_cons (ps_if (pt_cmp (c_gt) (pd_ix hX.K (pd_var 0 hX.hN) pd_int) pd_int) (pb_cons (ps_set 3 hX.hN hX.nd (pd_mod (pd_ix hX.K (pd_var 0 hX.hN) pd_int) (pd_var 1 hX.hN))) (pb_cons (ps_put (pd_div (pd_ix hX.K (pd_var 0 hX.hN) pd_int) (pd_var 1 hX.hN)) (pd_var 0 hX.hN) pd_int) (pb_one (ps_ret (pd_var 3 hX.hN))))) pb_nil) (pb_cons (ps_put (pd_add hX.K (pd_ix hX.K (pd_var 0 hX.hN) pd_int) pd_int) (pd_var 0 hX.hN) pd_int) (pb_cons (ps_set 2 hX.hN hX.nd (pd_mod (pd_pow (pd_add hX.K (pd_add hX.K (pd_ix hX.K (pd_var 0 hX.hN) pd_int) (pd_mul pd_int (pd_ix hX.K (pd_var 0 hX.hN) pd_int))) pd_int) pd_int) pd_int)) (pb_cons (ps_set 2 hX.hN hX.nd (pd_mod (pd_pow (pd_add hX.K (pd_var 2 hX.hN) (pd_mul pd_int (pd_ix hX.K (pd_var 0 hX.hN) pd_int))) pd_int) pd_int)) (pb_one (ps_ret (pd_mod (pd_div (pd_var 2 hX.hN) pd_int) (pd_var 1 hX.hN))))))))) r__law_take
theorem ok__law_due_swap (T : Txt K mg) (FA : FunAt K mg "_law_due_swap" "_law_due_swap" s__law_due_swap ["_law_model_here", "_law_left", "_law_right"]) : Has P w K mg base 1 "_law_due_swap"  ["_law_model_here", "_law_left", "_law_right"] F_law_due_swap :=
  has_of (W := fun _ _ _ _ => False) FA sc__law_due_swap l__law_due_swap (wb := w__law_due_swap) (fun f cdv A oe s H E hX => (pb_cons (ps_setLc (i := 3) (own := [(("_law_letters" : Str), 4), (("_law_cost" : Str), 5)]) hX.hN hX.calm hX.nd rfl (fun _ => rfl) (fun _ => sw_true rfl rfl rfl (by decide +kernel)) (pi_lst hX.K (pd_ix hX.K (pd_var 0 hX.hN) pd_int)) (fun _ => blkOk_by (sc := defScope s__law_due_swap) (by decide +kernel)) (pg_tup (hX.blk _).K (hX.blk _).calm (pgs_cons (pg_name 4 (hX.blk _).hN hX.nd) (pgs_cons (pg_name 5 (hX.blk _).hN hX.nd) pgs_nil))) (pts_one (pw_pt (pw_and (pt_cmp (c_in (hX.blk _).K) (pd_var 1 (hX.blk _).hN) (pd_var 4 (hX.blk _).hN)) (pw_and1 (pt_cmp (c_in (hX.blk _).K) (pd_var 2 (hX.blk _).hN) (pd_var 4 (hX.blk _).hN)))))) (pd_var 5 (hX.blk _).hN)) (pb_one (ps_ret (pd_if (pt_cmp (c_neNil hX.toFam) (pd_var 3 hX.hN) (pd_lst pa_nil)) (pd_ix hX.K (pd_var 3 hX.hN) pd_int) (pd_ix hX.K (pd_var 0 hX.hN) pd_int)))))) r__law_due_swap
theorem ok__law_with (T : Txt K mg) (FA : FunAt K mg "_law_with" "_law_with" s__law_with ["_law_model_here", "_law_at", "_law_thing"]) : Has P w K mg base 1 "_law_with"  ["_law_model_here", "_law_at", "_law_thing"] F_law_with :=
  has_of (W := fun _ _ _ _ => False) FA sc__law_with l__law_with (wb := w__law_with) (fun f cdv A oe s H E hX => (pb_one (ps_ret (pd_add hX.K (pd_add hX.K (pd_sl hX.K (pd_var 0 hX.hN) po_none (po_some (pd_var 1 hX.hN))) (pd_lst (pa_cons (pd_var 2 hX.hN) pa_nil))) (pd_sl hX.K (pd_var 0 hX.hN) (po_some (pd_add hX.K (pd_var 1 hX.hN) pd_int)) po_none))))) r__law_with
theorem ok_is_name (T : Txt K mg) (FA : FunAt K mg "is_name" "is_name" s_is_name ["value"]) (h_is_lettered : Has P w K mg base 1 "is_lettered" ["value"] F_is_lettered) : Has P w K mg base 2 "is_name"  ["value"] F_is_name :=
  has_of (W := fun _ _ _ _ => False) FA sc_is_name l_is_name (wb := w_is_name) (fun f cdv A oe s H E hX => (pb_one (ps_ret (pd_and (pd_own_call hX h_is_lettered (pa_cons (pd_var 0 hX.hN) pa_nil)) (pd_one (pd_chain (c_le) (c_le) pd_int (pd_bi (b_len hX.K) hX.mg T.z_len bt_len (pa_cons (pd_var 0 hX.hN) pa_nil)) (pd_globI hX.mg T.c_LONGEST_NAME))))))) r_is_name
theorem ok_is_group (T : Txt K mg) (FA : FunAt K mg "is_group" "is_group" s_is_group ["value"]) (h_is_list : Has P w K mg base 1 "is_list" ["value"] F_is_list) (h_is_lettered : Has P w K mg base 1 "is_lettered" ["value"] F_is_lettered) : Has P w K mg base 2 "is_group"  ["value"] F_is_group :=
  has_of (W := fun _ _ _ _ => False) FA sc_is_group l_is_group (wb := w_is_group) (fun f cdv A oe s H E hX => (pb_cons (ps_if (pw_pt (pw_or (pt_not (pt_val (pd_own_call hX h_is_list (pa_cons (pd_var 0 hX.hN) pa_nil)))) (pw_or (pt_cmp (c_ne hX.toFam) (pd_bi (b_len hX.K) hX.mg T.z_len bt_len (pa_cons (pd_var 0 hX.hN) pa_nil)) pd_int) (pw_or1 (pt_not (pt_val (pd_own_call hX h_is_lettered (pa_cons (pd_ix hX.K (pd_var 0 hX.hN) pd_int) pa_nil)))))))) (pb_one (ps_ret pd_bl)) pb_nil) (pb_one (ps_ret (pd_and (pd_cmp (c_ge) (pd_bi (b_len hX.K) hX.mg T.z_len bt_len (pa_cons (pd_ix hX.K (pd_var 0 hX.hN) pd_int) pa_nil)) pd_int) (pd_one (pd_cmp (c_eq hX.toFam) (pd_lenSet hX.calm hX.mg T.z_len T.z_set (pd_ix hX.K (pd_var 0 hX.hN) pd_int)) (pd_bi (b_len hX.K) hX.mg T.z_len bt_len (pa_cons (pd_ix hX.K (pd_var 0 hX.hN) pd_int) pa_nil))))))))) r_is_group
theorem ok_is_step (T : Txt K mg) (FA : FunAt K mg "is_step" "is_step" s_is_step ["value"]) (h_is_list : Has P w K mg base 1 "is_list" ["value"] F_is_list) (h_is_letter : Has P w K mg base 1 "is_letter" ["value"] F_is_letter) : Has P w K mg base 2 "is_step"  ["value"] F_is_step :=
  has_of (W := fun _ _ _ _ => False) FA sc_is_step l_is_step (wb := w_is_step) (fun f cdv A oe s H E hX => (pb_cons (ps_if (pw_pt (pw_or (pt_not (pt_val (pd_own_call hX h_is_list (pa_cons (pd_var 0 hX.hN) pa_nil)))) (pw_or1 (pt_not (pt_tru hX.K (pd_var 0 hX.hN)))))) (pb_one (ps_ret pd_bl)) pb_nil) (pb_cons (ps_if (pt_cmp (c_in hX.K) (pd_ix hX.K (pd_var 0 hX.hN) pd_int) (pd_globR hX.mg T.c_STEPS_ALONE)) (pb_one (ps_ret (pd_cmp (c_eq hX.toFam) (pd_bi (b_len hX.K) hX.mg T.z_len bt_len (pa_cons (pd_var 0 hX.hN) pa_nil)) pd_int))) pb_nil) (pb_one (ps_ret (pd_and (pd_cmp (c_in hX.K) (pd_ix hX.K (pd_var 0 hX.hN) pd_int) (pd_globR hX.mg T.c_STEPS_WITH_LETTER)) (pd_and (pd_cmp (c_eq hX.toFam) (pd_bi (b_len hX.K) hX.mg T.z_len bt_len (pa_cons (pd_var 0 hX.hN) pa_nil)) pd_int) (pd_one (pd_own_call hX h_is_letter (pa_cons (pd_ix hX.K (pd_var 0 hX.hN) pd_int) pa_nil)))))))))) r_is_step
theorem ok__law_model (T : Txt K mg) (FA : FunAt K mg "_law_model" "_law_model" s__law_model ["_law_box_here"]) (h__law_take : Has P w K mg base 1 "_law_take" ["_law_box_here", "_law_many"] F_law_take) : Has P w K mg base 2 "_law_model"  ["_law_box_here"] F_law_model :=
  has_of (W := fun _ _ _ _ => False) FA sc__law_model l__law_model (wb := w__law_model) (fun f cdv A oe s H E hX => (pb_cons (ps_set 1 hX.hN hX.nd (pd_lst (pa_cons (pd_lst (pa_cons pd_str (pa_cons pd_str (pa_cons pd_str (pa_cons pd_str pa_nil))))) (pa_cons (pd_lst (pa_cons pd_str (pa_cons pd_str (pa_cons pd_str (pa_cons pd_str pa_nil))))) (pa_cons (pd_lst (pa_cons pd_str (pa_cons pd_str (pa_cons pd_str (pa_cons pd_str pa_nil))))) pa_nil))))) (pb_cons (ps_set 2 hX.hN hX.nd (pd_ix hX.K (pd_var 1 hX.hN) (pd_own_call hX h__law_take (pa_cons (pd_var 0 hX.hN) (pa_cons pd_int pa_nil))))) (pb_cons (ps_set 2 hX.hN hX.nd (pd_sl hX.K (pd_var 2 hX.hN) po_none (po_some (pd_add hX.K pd_int (pd_own_call hX h__law_take (pa_cons (pd_var 0 hX.hN) (pa_cons pd_int pa_nil))))))) (pb_cons (ps_setLc (i := 3) (own := [(("_law_k" : Str), 5)]) hX.hN hX.calm hX.nd rfl (fun _ => rfl) (fun _ => sw_true rfl rfl rfl (by decide +kernel)) (pi_rg1 hX.mg T.z_range (pa_cons pd_int pa_nil)) (fun _ => blkOk_by (sc := defScope s__law_model) (by decide +kernel)) (pg_name 5 (hX.blk _).hN hX.nd) pts_nil (pd_ix (hX.blk _).K (pd_var 2 (hX.blk _).hN) (pd_own_call (hX.blk _) h__law_take (pa_cons (pd_var 0 (hX.blk _).hN) (pa_cons (pd_bi (b_len (hX.blk _).K) (hX.blk _).mg T.z_len bt_len (pa_cons (pd_var 2 (hX.blk _).hN) pa_nil)) pa_nil))))) (pb_cons (ps_set 4 hX.hN hX.nd (pd_own (pa_cons (pd_lst pa_nil) (pa_cons (pd_lst (pa_cons (pd_tup (pa_cons pd_str (pa_cons (pd_ix hX.K (pd_var 3 hX.hN) pd_int) pa_nil))) pa_nil)) (pa_cons (pd_lst (pa_cons (pd_tup (pa_cons pd_str (pa_cons (pd_ix hX.K (pd_var 3 hX.hN) pd_int) pa_nil))) pa_nil)) (pa_cons (pd_lst (pa_cons (pd_tup (pa_cons pd_str (pa_cons (pd_ix hX.K (pd_var 3 hX.hN) pd_int) pa_nil))) (pa_cons (pd_tup (pa_cons pd_str (pa_cons (pd_ix hX.K (pd_var 3 hX.hN) pd_int) pa_nil))) pa_nil))) pa_nil)))))) (pb_cons (ps_appendD hX.K (pd_var 4 hX.hN) (pa_cons (pd_lst (pa_cons (pd_tup (pa_cons pd_str (pa_cons (pd_ix hX.K (pd_var 3 hX.hN) pd_int) pa_nil))) (pa_cons (pd_tup (pa_cons pd_str (pa_cons (pd_ix hX.K (pd_var 3 hX.hN) pd_int) pa_nil))) (pa_cons (pd_tup (pa_cons pd_str (pa_cons (pd_ix hX.K (pd_var 3 hX.hN) pd_int) pa_nil))) (pa_cons (pd_tup (pa_cons pd_str (pa_cons (pd_ix hX.K (pd_var 3 hX.hN) pd_int) pa_nil))) pa_nil))))) pa_nil)) (pb_cons (ps_appendD hX.K (pd_var 4 hX.hN) (pa_cons (pd_lst (pa_cons (pd_tup (pa_cons pd_str (pa_cons (pd_ix hX.K (pd_var 3 hX.hN) pd_int) pa_nil))) (pa_cons (pd_tup (pa_cons pd_str (pa_cons (pd_ix hX.K (pd_var 3 hX.hN) pd_int) pa_nil))) pa_nil))) pa_nil)) (pb_cons (ps_set 4 hX.hN hX.nd (pd_ix hX.K (pd_var 4 hX.hN) (pd_own_call hX h__law_take (pa_cons (pd_var 0 hX.hN) (pa_cons pd_int pa_nil))))) (pb_one (ps_ret (pd_lst (pa_cons (pd_var 2 hX.hN) (pa_cons (pd_ix hX.K (pd_var 3 hX.hN) pd_int) (pa_cons (pd_ix hX.K (pd_var 3 hX.hN) pd_int) (pa_cons (pd_ix hX.K (pd_var 3 hX.hN) pd_int) (pa_cons (pd_var 4 hX.hN) (pa_cons (pd_ix hX.K (pd_lst (pa_cons pd_non (pa_cons (pd_ix hX.K (pd_var 3 hX.hN) pd_int) pa_nil))) (pd_own_call hX h__law_take (pa_cons (pd_var 0 hX.hN) (pa_cons pd_int pa_nil)))) pa_nil)))))))))))))))))) r__law_model
theorem ok_check_names (T : Txt K mg) (FA : FunAt K mg "check_names" "check_names" s_check_names ["costs"]) (SU : Sup P mg) (XC_InvalidPart : XC P K mg "InvalidPart" "value") (XC_InvalidName : XC P K mg "InvalidName" "value") (XC_Duplicate : XC P K mg "Duplicate" "label") (h_is_list : Has P w K mg base 1 "is_list" ["value"] F_is_list) (h_is_name : Has P w K mg base 2 "is_name" ["value"] F_is_name) : HasX P w K mg base 3 "check_names"  ["costs"] F_check_names :=
  has_ofX FA sc_check_names l_check_names (wb := w_check_names) (fun f cdv A oe s H E hX tk => (pb_cons (ps_if (pw_pt (pw_or (pt_not (pt_val (pd_own_call hX h_is_list (pa_cons (pd_var 0 hX.hN) pa_nil)))) (pw_or1 (pt_not (pt_chainD (c_le) (c_le) pd_int (pd_bi (b_len hX.K) hX.mg T.z_len bt_len (pa_cons (pd_var 0 hX.hN) pa_nil)) (pd_globI hX.mg T.c_MOST_COSTS)))))) (pb_one (ps_raiseX hX tk SU XC_InvalidPart (pd_var 0 hX.hN))) pb_nil) (pb_one (ps_for (fun _ => passes_of rfl) hX.calm (pi_enumB hX.K hX.mg T.z_enumerate (pa_cons (pd_var 0 hX.hN) pa_nil)) (pg_tup hX.K hX.calm (pgs_cons (pg_name 1 hX.hN hX.nd) (pgs_cons (pg_name 2 hX.hN hX.nd) pgs_nil))) (pb_cons (ps_if (pt_not (pt_val (pd_own_call hX h_is_name (pa_cons (pd_var 2 hX.hN) pa_nil)))) (pb_one (ps_raiseX hX tk SU XC_InvalidName (pd_var 2 hX.hN))) pb_nil) (pb_one (ps_if (pt_cmp (c_in hX.K) (pd_var 2 hX.hN) (pd_sl hX.K (pd_var 0 hX.hN) po_none (po_some (pd_var 1 hX.hN)))) (pb_one (ps_raiseX hX tk SU XC_Duplicate (pd_var 2 hX.hN))) pb_nil))))))) r_check_names
theorem ok_checked_groups (T : Txt K mg) (FA : FunAt K mg "checked_groups" "checked_groups" s_checked_groups ["names", "groups"]) (SU : Sup P mg) (XC_InvalidPart : XC P K mg "InvalidPart" "value") (XC_InvalidGroup : XC P K mg "InvalidGroup" "value") (h_is_list : Has P w K mg base 1 "is_list" ["value"] F_is_list) (h_is_group : Has P w K mg base 2 "is_group" ["value"] F_is_group) (h_check_cost : HasX P w K mg base 1 "check_cost" ["names", "cost"] F_check_cost) : HasX P w K mg base 3 "checked_groups"  ["names", "groups"] F_checked_groups :=
  has_ofX FA sc_checked_groups l_checked_groups (wb := w_checked_groups) (fun f cdv A oe s H E hX tk => (pb_cons (ps_if (pt_not (pt_val (pd_own_call hX h_is_list (pa_cons (pd_var 1 hX.hN) pa_nil)))) (pb_one (ps_raiseX hX tk SU XC_InvalidPart (pd_var 1 hX.hN))) pb_nil) (pb_cons (ps_set 2 hX.hN hX.nd (pd_own pa_nil)) (pb_cons (ps_set 3 hX.hN hX.nd pd_str) (pb_cons (ps_for (fun _ => passes_of rfl) hX.calm (pi_var hX.K 1 hX.hN) (pg_name 4 hX.hN hX.nd) (pb_cons (ps_if (pw_pt (pw_or (pt_not (pt_val (pd_own_call hX h_is_group (pa_cons (pd_var 4 hX.hN) pa_nil)))) (pw_or1 (pt_val (pd_bi (b_any hX.K hX.calm) hX.mg T.z_any bt_any (pa_cons (pd_lc (own := [(("letter" : Str), 5)]) hX.hN hX.calm hX.nd (pi_sg (pd_ix hX.K (pd_var 4 hX.hN) pd_int)) (fun _ => blkOk_by (sc := defScope s_checked_groups) (by decide +kernel)) (pg_name 5 (hX.blk _).hN hX.nd) pts_nil (pd_cmp (c_in (hX.blk _).K) (pd_var 5 (hX.blk _).hN) (pd_var 3 (hX.blk _).hN))) pa_nil)))))) (pb_one (ps_raiseX hX tk SU XC_InvalidGroup (pd_var 4 hX.hN))) pb_nil) (pb_cons (ps_expr (pd_own_callX hX tk h_check_cost (pa_cons (pd_var 0 hX.hN) (pa_cons (pd_ix hX.K (pd_var 4 hX.hN) pd_int) pa_nil)))) (pb_cons (ps_appendD hX.K (pd_var 2 hX.hN) (pa_cons (pd_tup (pa_cons (pd_join hX.K pd_str (pd_bi (b_sortedTx hX.calm) hX.mg T.z_sorted bt_sorted (pa_cons (pd_ix hX.K (pd_var 4 hX.hN) pd_int) pa_nil))) (pa_cons (pd_ix hX.K (pd_var 4 hX.hN) pd_int) pa_nil))) pa_nil)) (pb_one (ps_set 3 hX.hN hX.nd (pd_add hX.K (pd_var 3 hX.hN) (pd_ix hX.K (pd_var 4 hX.hN) pd_int)))))))) (pb_one (ps_ret (pd_bt (b_tupleM hX.K) hX.mg T.z_tuple bt_tuple (pa_cons (pd_var 2 hX.hN) pa_nil))))))))) r_checked_groups
theorem ok_Scheme___len__ (T : Txt K mg) {C : Addr} (CF : ClsF K mg C) {f : Addr} {fd : FuncData} (FA : FunV K "__len__" "Scheme.__len__" s_Scheme___len__ f fd) : FnG P w K mg base (L2.CX P w) 3 f fd ["self"] (spD K mg F_Scheme___len__) :=
  fn_okV FA sc_Scheme___len__ l_Scheme___len__ (wb := w_Scheme___len__) (fun cdv A oe s H E hX tk => (pb_one (ps_ret (pd_bi (b_len hX.K) hX.mg T.z_len bt_len (pa_cons (pd_fld hX.K CF.kl CF.na_costs (pd_var 0 hX.hN)) pa_nil))))) r_Scheme___len__
theorem ok_Scheme___contains__ (T : Txt K mg) {C : Addr} (CF : ClsF K mg C) {f : Addr} {fd : FuncData} (FA : FunV K "__contains__" "Scheme.__contains__" s_Scheme___contains__ f fd) : FnG P w K mg base (L2.CX P w) 3 f fd ["self", "value"] (spD K mg F_Scheme___contains__) :=
  fn_okV FA sc_Scheme___contains__ l_Scheme___contains__ (wb := w_Scheme___contains__) (fun cdv A oe s H E hX tk => (pb_one (ps_ret (pd_and (pd_bi (b_isiO hX.K CF.ki CF.kt) hX.mg T.z_isinstance bt_isinstance (pa_cons (pd_var 1 hX.hN) (pa_cons (pd_ty hX.mg T.z_str bt_str) pa_nil))) (pd_one (pd_cmp (c_in hX.K) (pd_var 1 hX.hN) (pd_fld hX.K CF.kl CF.na_costs (pd_var 0 hX.hN)))))))) r_Scheme___contains__
theorem ok_Scheme___eq__ (T : Txt K mg) {C : Addr} (CF : ClsF K mg C) {f : Addr} {fd : FuncData} (FA : FunV K "__eq__" "Scheme.__eq__" s_Scheme___eq__ f fd) : FnG P w K mg base (L2.CX P w) 3 f fd ["self", "other"] (spD K mg F_Scheme___eq__) :=
  fn_okV FA sc_Scheme___eq__ l_Scheme___eq__ (wb := w_Scheme___eq__) (fun cdv A oe s H E hX tk => (pb_one (ps_ret (pd_and (pd_isiC hX.K hX.mg T.z_isinstance bt_isinstance CF.ki (pd_var 1 hX.hN)) (pd_and (pd_cmp (c_eq hX.toFam) (pd_fld hX.K CF.kl CF.na_costs (pd_var 0 hX.hN)) (pd_fld hX.K CF.kl CF.na_costs (pd_var 1 hX.hN))) (pd_and (pd_cmp (c_eq hX.toFam) (pd_fld hX.K CF.kl CF.na_add (pd_var 0 hX.hN)) (pd_fld hX.K CF.kl CF.na_add (pd_var 1 hX.hN))) (pd_and (pd_cmp (c_eq hX.toFam) (pd_fld hX.K CF.kl CF.na_drop (pd_var 0 hX.hN)) (pd_fld hX.K CF.kl CF.na_drop (pd_var 1 hX.hN))) (pd_and (pd_cmp (c_eq hX.toFam) (pd_fld hX.K CF.kl CF.na_swap (pd_var 0 hX.hN)) (pd_fld hX.K CF.kl CF.na_swap (pd_var 1 hX.hN))) (pd_and (pd_cmp (c_eq hX.toFam) (pd_fld hX.K CF.kl CF.na_turn (pd_var 0 hX.hN)) (pd_fld hX.K CF.kl CF.na_turn (pd_var 1 hX.hN))) (pd_one (pd_cmp (c_eq hX.toFam) (pd_bi (b_sortedPT hX.K) hX.mg T.z_sorted bt_sorted (pa_cons (pd_fld hX.K CF.kl CF.na_groups (pd_var 0 hX.hN)) pa_nil)) (pd_bi (b_sortedPT hX.K) hX.mg T.z_sorted bt_sorted (pa_cons (pd_fld hX.K CF.kl CF.na_groups (pd_var 1 hX.hN)) pa_nil))))))))))))) r_Scheme___eq__
theorem ok_Scheme_swap_cost (T : Txt K mg) {C : Addr} (CF : ClsF K mg C) (SU : Sup P mg) (XC_InvalidLetter : XC P K mg "InvalidLetter" "value") (h_is_letter : Has P w K mg base 1 "is_letter" ["value"] F_is_letter) {f : Addr} {fd : FuncData} (FA : FunV K "swap_cost" "Scheme.swap_cost" s_Scheme_swap_cost f fd) : FnG P w K mg base (L2.CX P w) 3 f fd ["self", "one", "other"] (spD K mg F_Scheme_swap_cost) :=
  fn_okV FA sc_Scheme_swap_cost l_Scheme_swap_cost (wb := w_Scheme_swap_cost) (fun cdv A oe s H E hX tk => (pb_cons (ps_for (fun _ => passes_of rfl) hX.calm (pi_tp hX.K (pd_tup (pa_cons (pd_var 1 hX.hN) (pa_cons (pd_var 2 hX.hN) pa_nil)))) (pg_name 3 hX.hN hX.nd) (pb_one (ps_if (pt_not (pt_val (pd_own_call hX h_is_letter (pa_cons (pd_var 3 hX.hN) pa_nil)))) (pb_one (ps_raiseX hX tk SU XC_InvalidLetter (pd_var 3 hX.hN))) pb_nil))) (pb_cons (ps_if (pt_cmp (c_eq hX.toFam) (pd_var 1 hX.hN) (pd_var 2 hX.hN)) (pb_one (ps_raiseX hX tk SU XC_InvalidLetter (pd_var 2 hX.hN))) pb_nil) (pb_cons (ps_for (fun _ => passes_of rfl) hX.calm (pi_tp hX.K (pd_fld hX.K CF.kl CF.na_groups (pd_var 0 hX.hN))) (pg_tup hX.K hX.calm (pgs_cons (pg_name 4 hX.hN hX.nd) (pgs_cons (pg_name 5 hX.hN hX.nd) pgs_nil))) (pb_one (ps_if (pw_pt (pw_and (pt_cmp (c_in hX.K) (pd_var 1 hX.hN) (pd_var 4 hX.hN)) (pw_and1 (pt_cmp (c_in hX.K) (pd_var 2 hX.hN) (pd_var 4 hX.hN))))) (pb_one (ps_ret (pd_var 5 hX.hN))) pb_nil))) (pb_one (ps_ret (pd_fld hX.K CF.kl CF.na_swap (pd_var 0 hX.hN)))))))) r_Scheme_swap_cost
theorem ok_Scheme_init (T : Txt K mg) {C : Addr} (CF : ClsF K mg C) (h_check_names : HasX P w K mg base 3 "check_names" ["costs"] F_check_names) (h_check_cost : HasX P w K mg base 1 "check_cost" ["names", "cost"] F_check_cost) (h_checked_groups : HasX P w K mg base 3 "checked_groups" ["names", "groups"] F_checked_groups) {f : Addr} {fd : FuncData} (FA : Fun K "__init__" "Scheme.__init__" s_Scheme_init f fd) : FnG P w K mg base (L2.CX P w) 4 f fd ["self", "costs", "add", "drop", "swap", "groups", "turn"] (spInit K mg C F_Scheme) :=
  init_ok (ks := ["_costs", "_add", "_drop", "_swap", "_groups", "_turn"]) FA sc_Scheme_init CF.kl l_Scheme_init (z := w_Scheme_init) (fun cdv A oe s H E hX tk => (pz_cons (ps_expr (pd_own_callX hX tk h_check_names (pa_cons (pd_var 1 hX.hN) pa_nil))) (pz_cons (ps_for (fun _ => passes_of rfl) hX.calm (pi_tp hX.K (pd_tup (pa_cons (pd_var 2 hX.hN) (pa_cons (pd_var 3 hX.hN) (pa_cons (pd_var 4 hX.hN) pa_nil))))) (pg_name 7 hX.hN hX.nd) (pb_one (ps_expr (pd_own_callX hX tk h_check_cost (pa_cons (pd_var 1 hX.hN) (pa_cons (pd_var 7 hX.hN) pa_nil)))))) (pz_cons (ps_set 8 hX.hN hX.nd (pd_own_callX hX tk h_checked_groups (pa_cons (pd_var 1 hX.hN) (pa_cons (pd_var 5 hX.hN) pa_nil)))) (pz_cons (ps_if (pt_cmp (c_isNot) (pd_var 6 hX.hN) pd_non) (pb_one (ps_expr (pd_own_callX hX tk h_check_cost (pa_cons (pd_var 1 hX.hN) (pa_cons (pd_var 6 hX.hN) pa_nil))))) pb_nil) (pz_set hX.K CF.kl.cls CF.na_costs hX.hN (pd_bt (b_tupleM hX.K) hX.mg T.z_tuple bt_tuple (pa_cons (pd_var 1 hX.hN) pa_nil)) (pz_set hX.K CF.kl.cls CF.na_add hX.hN (pd_var 2 hX.hN) (pz_set hX.K CF.kl.cls CF.na_drop hX.hN (pd_var 3 hX.hN) (pz_set hX.K CF.kl.cls CF.na_swap hX.hN (pd_var 4 hX.hN) (pz_set hX.K CF.kl.cls CF.na_groups hX.hN (pd_var 8 hX.hN) (pz_set hX.K CF.kl.cls CF.na_turn hX.hN (pd_var 6 hX.hN) pz_nil))))))))))) r_Scheme_init
theorem ok_Scheme_step_cost (T : Txt K mg) {C : Addr} (CF : ClsF K mg C) (SU : Sup P mg) (XC_InvalidStep : XC P K mg "InvalidStep" "value") (XC_InvalidLetter : XC P K mg "InvalidLetter" "value") (h_is_step : Has P w K mg base 2 "is_step" ["value"] F_is_step) (h_is_letter : Has P w K mg base 1 "is_letter" ["value"] F_is_letter) (h_Scheme_swap_cost : HasM P w K mg base 3 "Scheme" "swap_cost" ["self", "one", "other"] [] F_Scheme_swap_cost) {f : Addr} {fd : FuncData} (FA : FunV K "step_cost" "Scheme.step_cost" s_Scheme_step_cost f fd) : FnG P w K mg base (L2.CX P w) 4 f fd ["self", "step", "letter"] (spD K mg F_Scheme_step_cost) :=
  fn_okV FA sc_Scheme_step_cost l_Scheme_step_cost (wb := w_Scheme_step_cost) (fun cdv A oe s H E hX tk => (pb_cons (ps_if (pw_pt (pw_or (pt_not (pt_val (pd_own_call hX h_is_step (pa_cons (pd_var 1 hX.hN) pa_nil)))) (pw_or1 (pw_pt (pw_and (pt_cmp (c_eq hX.toFam) (pd_ix hX.K (pd_var 1 hX.hN) pd_int) pd_str) (pw_and1 (pt_cmp (c_is) (pd_fld hX.K CF.kl CF.na_turn (pd_var 0 hX.hN)) pd_non))))))) (pb_one (ps_raiseX hX tk SU XC_InvalidStep (pd_var 1 hX.hN))) pb_nil) (pb_cons (ps_if (pt_cmp (c_eq hX.toFam) (pd_ix hX.K (pd_var 1 hX.hN) pd_int) pd_str) (pb_cons (ps_if (pw_pt (pw_or (pt_not (pt_val (pd_own_call hX h_is_letter (pa_cons (pd_var 2 hX.hN) pa_nil)))) (pw_or1 (pt_cmp (c_eq hX.toFam) (pd_var 2 hX.hN) (pd_ix hX.K (pd_var 1 hX.hN) pd_int))))) (pb_one (ps_raiseX hX tk SU XC_InvalidLetter (pd_var 2 hX.hN))) pb_nil) (pb_one (ps_ret (pd_meth hX tk h_Scheme_swap_cost (pd_var 0 hX.hN) (pa_cons (pd_var 2 hX.hN) (pa_cons (pd_ix hX.K (pd_var 1 hX.hN) pd_int) pa_nil)))))) pb_nil) (pb_cons (ps_set 3 hX.hN hX.nd (pd_dctN (ppd_cons pd_non (ppd_cons (pd_fld hX.K CF.kl CF.na_add (pd_var 0 hX.hN)) (ppd_cons (pd_fld hX.K CF.kl CF.na_drop (pd_var 0 hX.hN)) (ppd_cons (pd_fld hX.K CF.kl CF.na_turn (pd_var 0 hX.hN)) ppd_nil)))))) (pb_one (ps_ret (pd_dget hX.toFam (pd_var 3 hX.hN) (pd_ix hX.K (pd_var 1 hX.hN) pd_int)))))))) r_Scheme_step_cost
theorem ok__law_told_right (T : Txt K mg) (FA : FunAt K mg "_law_told_right" "_law_told_right" s__law_told_right ["_law_scheme_here", "_law_model_here"]) {C : Addr} (CF : ClsF K mg C) (h_Scheme___len__ : HasM P w K mg base 3 "Scheme" "__len__" ["self"] [] F_Scheme___len__) (h_Scheme___contains__ : HasM P w K mg base 3 "Scheme" "__contains__" ["self", "value"] [] F_Scheme___contains__) : Has P w K mg base 5 "_law_told_right"  ["_law_scheme_here", "_law_model_here"] F_law_told_right :=
  has_of (W := fun _ _ _ _ => False) FA sc__law_told_right l__law_told_right (wb := w__law_told_right) (fun f cdv A oe s H E hX => (pb_cons (ps_unp hX.K hX.calm (pd_var 1 hX.hN) (pgs_cons (pg_name 2 hX.hN hX.nd) (pgs_cons (pg_name 3 hX.hN hX.nd) (pgs_cons (pg_name 4 hX.hN hX.nd) (pgs_cons (pg_name 5 hX.hN hX.nd) (pgs_cons (pg_name 6 hX.hN hX.nd) (pgs_cons (pg_name 7 hX.hN hX.nd) pgs_nil))))))) (pb_cons (ps_set 8 hX.hN hX.nd (pd_bt (b_tupleM hX.K) hX.mg T.z_tuple bt_tuple (pa_cons (pd_lc (own := [(("_law_letters" : Str), 11), (("_law_cost" : Str), 12)]) hX.hN hX.calm hX.nd (pi_lst hX.K (pd_var 6 hX.hN)) (fun _ => blkOk_by (sc := defScope s__law_told_right) (by decide +kernel)) (pg_tup (hX.blk _).K (hX.blk _).calm (pgs_cons (pg_name 11 (hX.blk _).hN hX.nd) (pgs_cons (pg_name 12 (hX.blk _).hN hX.nd) pgs_nil))) pts_nil (pd_tup (pa_cons (pd_join (hX.blk _).K pd_str (pd_bi (b_sortedTx (hX.blk _).calm) (hX.blk _).mg T.z_sorted bt_sorted (pa_cons (pd_var 11 (hX.blk _).hN) pa_nil))) (pa_cons (pd_var 12 (hX.blk _).hN) pa_nil)))) pa_nil))) (pb_cons (ps_if (pw_pt (pw_or (pt_cmp (c_ne hX.toFam) (pd_prop hX CF.kl CF.pr_costs (pd_var 0 hX.hN)) (pd_bt (b_tupleM hX.K) hX.mg T.z_tuple bt_tuple (pa_cons (pd_var 2 hX.hN) pa_nil))) (pw_or (pt_cmp (c_ne hX.toFam) (pd_prop hX CF.kl CF.pr_groups (pd_var 0 hX.hN)) (pd_var 8 hX.hN)) (pw_or1 (pt_cmp (c_ne hX.toFam) (pd_bi (b_lenO hX h_Scheme___len__) hX.mg T.z_len bt_len (pa_cons (pd_var 0 hX.hN) pa_nil)) (pd_bi (b_len hX.K) hX.mg T.z_len bt_len (pa_cons (pd_var 2 hX.hN) pa_nil))))))) (pb_one (ps_ret pd_bl)) pb_nil) (pb_cons (ps_set 9 hX.hN hX.nd (pd_lst (pa_cons (pd_prop hX CF.kl CF.pr_cost_to_add (pd_var 0 hX.hN)) (pa_cons (pd_prop hX CF.kl CF.pr_cost_to_drop (pd_var 0 hX.hN)) (pa_cons (pd_prop hX CF.kl CF.pr_cost_to_swap (pd_var 0 hX.hN)) (pa_cons (pd_prop hX CF.kl CF.pr_cost_to_turn (pd_var 0 hX.hN)) pa_nil)))))) (pb_cons (ps_if (pw_pt (pw_or (pt_cmp (c_ne hX.toFam) (pd_var 9 hX.hN) (pd_lst (pa_cons (pd_var 3 hX.hN) (pa_cons (pd_var 4 hX.hN) (pa_cons (pd_var 5 hX.hN) (pa_cons (pd_var 7 hX.hN) pa_nil)))))) (pw_or1 (pt_cmp (c_ne hX.toFam) (pd_lc (own := [(("_law_name" : Str), 14)]) hX.hN hX.calm hX.nd (pi_lst hX.K (pd_var 2 hX.hN)) (fun _ => blkOk_by (sc := defScope s__law_told_right) (by decide +kernel)) (pg_name 14 (hX.blk _).hN hX.nd) pts_nil (pd_cmp (c_inO (hX.blk _) h_Scheme___contains__) (pd_var 14 (hX.blk _).hN) (pd_var 0 (hX.blk _).hN))) (pd_mul (pd_lst (pa_cons pd_bl pa_nil)) (pd_bi (b_len hX.K) hX.mg T.z_len bt_len (pa_cons (pd_var 2 hX.hN) pa_nil))))))) (pb_one (ps_ret pd_bl)) pb_nil) (pb_cons (ps_set 10 hX.hN hX.nd (pd_lst (pa_cons pd_str (pa_cons pd_str (pa_cons pd_non (pa_cons pd_int (pa_cons (pd_lst (pa_cons pd_str pa_nil)) (pa_cons (pd_tup (pa_cons pd_str pa_nil)) (pa_cons (pd_var 2 hX.hN) (pa_cons pd_bl (pa_cons pd_dct0 pa_nil))))))))))) (pb_one (ps_ret (pd_cmp (c_eq hX.toFam) (pd_lc (own := [(("_law_thing" : Str), 13)]) hX.hN hX.calm hX.nd (pi_lst hX.K (pd_var 10 hX.hN)) (fun _ => blkOk_by (sc := defScope s__law_told_right) (by decide +kernel)) (pg_name 13 (hX.blk _).hN hX.nd) pts_nil (pd_cmp (c_inO (hX.blk _) h_Scheme___contains__) (pd_var 13 (hX.blk _).hN) (pd_var 0 (hX.blk _).hN))) (pd_mul (pd_lst (pa_cons pd_bl pa_nil)) pd_int))))))))))) r__law_told_right
theorem ok__law_steps_right (T : Txt K mg) (FA : FunAt K mg "_law_steps_right" "_law_steps_right" s__law_steps_right ["_law_scheme_here", "_law_model_here"]) (hK_Scheme_step_cost_0 : HasMK P w K mg base 4 "Scheme" "step_cost" ["self", "step", "letter"] 1 ["letter"] gK_Scheme_step_cost_0 F_Scheme_step_cost) (hK_Scheme_step_cost_1 : HasMK P w K mg base 4 "Scheme" "step_cost" ["self", "step", "letter"] 1 [] gK_Scheme_step_cost_1 F_Scheme_step_cost) (h_Scheme_step_cost : HasM P w K mg base 4 "Scheme" "step_cost" ["self", "step", "letter"] [] F_Scheme_step_cost) (h_Scheme___contains__ : HasM P w K mg base 3 "Scheme" "__contains__" ["self", "value"] [] F_Scheme___contains__) (hK_Scheme_step_cost_2 : HasMK P w K mg base 4 "Scheme" "step_cost" ["self", "step", "letter"] 0 ["step"] gK_Scheme_step_cost_2 F_Scheme_step_cost) (h__law_due_swap : Has P w K mg base 1 "_law_due_swap" ["_law_model_here", "_law_left", "_law_right"] F_law_due_swap) (h_Scheme_swap_cost : HasM P w K mg base 3 "Scheme" "swap_cost" ["self", "one", "other"] [] F_Scheme_swap_cost) (hK_Scheme_swap_cost_0 : HasMK P w K mg base 3 "Scheme" "swap_cost" ["self", "one", "other"] 0 ["other", "one"] gK_Scheme_swap_cost_0 F_Scheme_swap_cost) : Has P w K mg base 5 "_law_steps_right"  ["_law_scheme_here", "_law_model_here"] F_law_steps_right :=
  has_of (W := fun _ _ _ _ => False) FA sc__law_steps_right l__law_steps_right (wb := w__law_steps_right) (fun f cdv A oe s H E hX => (pb_cons (ps_unp hX.K hX.calm (pd_var 1 hX.hN) (pgs_cons (pg_name 2 hX.hN hX.nd) (pgs_cons (pg_name 3 hX.hN hX.nd) (pgs_cons (pg_name 4 hX.hN hX.nd) (pgs_cons (pg_name 5 hX.hN hX.nd) (pgs_cons (pg_name 6 hX.hN hX.nd) (pgs_cons (pg_name 7 hX.hN hX.nd) pgs_nil))))))) (pb_cons (ps_set 8 hX.hN hX.nd (pd_lst (pa_cons (pd_methK hX nox_takes hK_Scheme_step_cost_1 (pd_var 0 hX.hN) (pa_cons (pd_tup (pa_cons pd_str pa_nil)) pa_nil) pdk_nil) (pa_cons (pd_methK hX nox_takes hK_Scheme_step_cost_1 (pd_var 0 hX.hN) (pa_cons (pd_lst (pa_cons pd_str pa_nil)) pa_nil) pdk_nil) (pa_cons (pd_methK hX nox_takes hK_Scheme_step_cost_0 (pd_var 0 hX.hN) (pa_cons (pd_tup (pa_cons pd_str (pa_cons pd_str pa_nil))) pa_nil) (pdk_cons pd_str pdk_nil)) pa_nil))))) (pb_cons (ps_if (pw_pt (pw_or (pt_cmp (c_ne hX.toFam) (pd_meth hX nox_takes h_Scheme_step_cost (pd_var 0 hX.hN) (pa_cons (pd_tup (pa_cons pd_str (pa_cons pd_str pa_nil))) (pa_cons pd_str pa_nil))) (pd_var 3 hX.hN)) (pw_or (pt_cmp (c_ne hX.toFam) (pd_meth hX nox_takes h_Scheme_step_cost (pd_var 0 hX.hN) (pa_cons (pd_tup (pa_cons pd_str pa_nil)) (pa_cons pd_str pa_nil))) (pd_var 4 hX.hN)) (pw_or1 (pt_cmp (c_inO hX h_Scheme___contains__) (pd_var 0 hX.hN) (pd_var 0 hX.hN)))))) (pb_one (ps_ret pd_bl)) pb_nil) (pb_cons (ps_if (pw_pt (pw_or (pt_cmp (c_ne hX.toFam) (pd_var 8 hX.hN) (pd_lst (pa_cons pd_non (pa_cons (pd_var 4 hX.hN) (pa_cons (pd_var 3 hX.hN) pa_nil))))) (pw_or1 (pw_pt (pw_and (pt_cmp (c_isNot) (pd_var 7 hX.hN) pd_non) (pw_and1 (pt_cmp (c_ne hX.toFam) (pd_methK0 hX nox_takes hK_Scheme_step_cost_2 (pd_var 0 hX.hN) (pdk_cons (pd_tup (pa_cons pd_str pa_nil)) pdk_nil)) (pd_var 7 hX.hN)))))))) (pb_one (ps_ret pd_bl)) pb_nil) (pb_cons (ps_for (fun _ => PassesOwn.never) hX.calm (pi_sg pd_str) (pg_name 9 hX.hN hX.nd) (pb_one (ps_for (fun _ => PassesOwn.never) hX.calm (pi_sg pd_str) (pg_name 10 hX.hN hX.nd) (pb_one (ps_if (pt_cmp (c_ne hX.toFam) (pd_var 9 hX.hN) (pd_var 10 hX.hN)) (pb_cons (ps_set 11 hX.hN hX.nd (pd_own_call hX h__law_due_swap (pa_cons (pd_var 1 hX.hN) (pa_cons (pd_var 9 hX.hN) (pa_cons (pd_var 10 hX.hN) pa_nil))))) (pb_cons (ps_if (pw_pt (pw_or (pt_cmp (c_ne hX.toFam) (pd_meth hX nox_takes h_Scheme_swap_cost (pd_var 0 hX.hN) (pa_cons (pd_var 9 hX.hN) (pa_cons (pd_var 10 hX.hN) pa_nil))) (pd_var 11 hX.hN)) (pw_or1 (pt_cmp (c_ne hX.toFam) (pd_methK0 hX nox_takes hK_Scheme_swap_cost_0 (pd_var 0 hX.hN) (pdk_cons (pd_var 9 hX.hN) (pdk_cons (pd_var 10 hX.hN) pdk_nil))) (pd_var 11 hX.hN))))) (pb_one (ps_ret pd_bl)) pb_nil) (pb_one (ps_if (pt_cmp (c_ne hX.toFam) (pd_meth hX nox_takes h_Scheme_step_cost (pd_var 0 hX.hN) (pa_cons (pd_tup (pa_cons pd_str (pa_cons (pd_var 10 hX.hN) pa_nil))) (pa_cons (pd_var 9 hX.hN) pa_nil))) (pd_var 11 hX.hN)) (pb_one (ps_ret pd_bl)) pb_nil)))) pb_nil))))) (pb_one (ps_ret pd_bl)))))))) r__law_steps_right
theorem ok__law_scheme (T : Txt K mg) (FA : FunAt K mg "_law_scheme" "_law_scheme" s__law_scheme ["_law_model_here"]) (hC_Scheme_0 : HasC P w K mg base 4 "Scheme" ["self", "costs", "add", "drop", "swap", "groups", "turn"] 1 ["add", "drop", "swap", "groups", "turn"] gD_Scheme_0 F_Scheme) : Has P w K mg base 6 "_law_scheme"  ["_law_model_here"] F_law_scheme :=
  has_of (W := fun _ _ _ _ => False) FA sc__law_scheme l__law_scheme (wb := w__law_scheme) (fun f cdv A oe s H E hX => (pb_cons (ps_unp hX.K hX.calm (pd_var 0 hX.hN) (pgs_cons (pg_name 1 hX.hN hX.nd) (pgs_cons (pg_name 2 hX.hN hX.nd) (pgs_cons (pg_name 3 hX.hN hX.nd) (pgs_cons (pg_name 4 hX.hN hX.nd) (pgs_cons (pg_name 5 hX.hN hX.nd) (pgs_cons (pg_name 6 hX.hN hX.nd) pgs_nil))))))) (pb_one (ps_ret (pd_make hX nox_takes hC_Scheme_0 (pa_cons (pd_bt (b_listM hX.K) hX.mg T.z_list bt_list (pa_cons (pd_var 1 hX.hN) pa_nil)) pa_nil) (pdk_cons (pd_var 2 hX.hN) (pdk_cons (pd_var 3 hX.hN) (pdk_cons (pd_var 4 hX.hN) (pdk_cons (pd_bt (b_listM hX.K) hX.mg T.z_list bt_list (pa_cons (pd_var 5 hX.hN) pa_nil)) (pdk_cons (pd_var 6 hX.hN) pdk_nil)))))))))) r__law_scheme
theorem ok__law_equal_right (T : Txt K mg) (FA : FunAt K mg "_law_equal_right" "_law_equal_right" s__law_equal_right ["_law_box_here", "_law_scheme_here", "_law_model_here"]) {C : Addr} (CF : ClsF K mg C) (h__law_with : Has P w K mg base 1 "_law_with" ["_law_model_here", "_law_at", "_law_thing"] F_law_with) (h__law_scheme : Has P w K mg base 6 "_law_scheme" ["_law_model_here"] F_law_scheme) (h_Scheme___eq__ : HasM P w K mg base 3 "Scheme" "__eq__" ["self", "other"] [] F_Scheme___eq__) (h__law_take : Has P w K mg base 1 "_law_take" ["_law_box_here", "_law_many"] F_law_take) (h__law_model : Has P w K mg base 2 "_law_model" ["_law_box_here"] F_law_model) : Has P w K mg base 7 "_law_equal_right"  ["_law_box_here", "_law_scheme_here", "_law_model_here"] F_law_equal_right :=
  has_of (W := fun _ _ _ _ => False) FA sc__law_equal_right l__law_equal_right (wb := w__law_equal_right) (fun f cdv A oe s H E hX => (pb_cons (ps_parD 3 4 hX.hN hX.calm hX.nd (pa_cons (pd_ix hX.K (pd_var 2 hX.hN) pd_int) (pa_cons (pd_ix hX.K (pd_var 2 hX.hN) pd_int) pa_nil))) (pb_cons (ps_set 5 hX.hN hX.nd (pd_own pa_nil)) (pb_cons (ps_for (fun _ => PassesOwn.never) hX.calm (pi_lst hX.K (pd_listRev hX.calm hX.K hX.mg T.z_list bt_list T.z_reversed (pd_var 4 hX.hN))) (pg_tup hX.K hX.calm (pgs_cons (pg_name 6 hX.hN hX.nd) (pgs_cons (pg_name 7 hX.hN hX.nd) pgs_nil))) (pb_one (ps_appendD hX.K (pd_var 5 hX.hN) (pa_cons (pd_tup (pa_cons (pd_join hX.K pd_str (pd_listRev hX.calm hX.K hX.mg T.z_list bt_list T.z_reversed (pd_bt (b_listTx hX.calm) hX.mg T.z_list bt_list (pa_cons (pd_var 6 hX.hN) pa_nil)))) (pa_cons (pd_var 7 hX.hN) pa_nil))) pa_nil)))) (pb_cons (ps_set 8 hX.hN hX.nd (pd_own_call hX h__law_with (pa_cons (pd_var 2 hX.hN) (pa_cons pd_int (pa_cons (pd_var 5 hX.hN) pa_nil))))) (pb_cons (ps_if (pw_pt (pw_or (pt_not (pt_cmp (c_eqO hX h_Scheme___eq__ CF.ki CF.no) (pd_own_call hX h__law_scheme (pa_cons (pd_var 8 hX.hN) pa_nil)) (pd_var 1 hX.hN))) (pw_or (pt_cmp (c_neO hX h_Scheme___eq__ CF.ki CF.ne CF.no) (pd_var 1 hX.hN) (pd_own_call hX h__law_scheme (pa_cons (pd_var 2 hX.hN) pa_nil))) (pw_or (pt_cmp (c_eqO hX h_Scheme___eq__ CF.ki CF.no) (pd_var 1 hX.hN) pd_int) (pw_or1 (pt_cmp (c_eqO hX h_Scheme___eq__ CF.ki CF.no) (pd_var 1 hX.hN) pd_str)))))) (pb_one (ps_ret pd_bl)) pb_nil) (pb_cons (ps_set 9 hX.hN hX.nd (pd_ix hX.K (pd_var 3 hX.hN) (pd_own_call hX h__law_take (pa_cons (pd_var 0 hX.hN) (pa_cons (pd_bi (b_len hX.K) hX.mg T.z_len bt_len (pa_cons (pd_var 3 hX.hN) pa_nil)) pa_nil))))) (pb_cons (ps_set 10 hX.hN hX.nd (pd_addO (pd_lc (own := [(("_law_at" : Str), 13)]) hX.hN hX.calm hX.nd (pi_lst hX.K (pd_lst (pa_cons pd_int (pa_cons pd_int (pa_cons pd_int (pa_cons pd_int pa_nil)))))) (fun _ => blkOk_by (sc := defScope s__law_equal_right) (by decide +kernel)) (pg_name 13 (hX.blk _).hN hX.nd) pts_nil (pd_own_call (hX.blk _) h__law_with (pa_cons (pd_var 2 (hX.blk _).hN) (pa_cons (pd_var 13 (hX.blk _).hN) (pa_cons (pd_var 9 (hX.blk _).hN) pa_nil))))) (pd_lst (pa_cons (pd_own_call hX h__law_with (pa_cons (pd_var 2 hX.hN) (pa_cons pd_int (pa_cons (pd_sl hX.K (pd_var 4 hX.hN) (po_some pd_int) po_none) pa_nil)))) (pa_cons (pd_own_call hX h__law_model (pa_cons (pd_var 0 hX.hN) pa_nil)) pa_nil))))) (pb_cons (ps_appendD hX.K (pd_var 10 hX.hN) (pa_cons (pd_own_call hX h__law_with (pa_cons (pd_var 2 hX.hN) (pa_cons pd_int (pa_cons (pd_listRev hX.calm hX.K hX.mg T.z_list bt_list T.z_reversed (pd_var 3 hX.hN)) pa_nil)))) pa_nil)) (pb_cons (ps_appendD hX.K (pd_var 10 hX.hN) (pa_cons (pd_own_call hX h__law_with (pa_cons (pd_var 2 hX.hN) (pa_cons pd_int (pa_cons (pd_lc (own := [(("_law_letters" : Str), 6), (("_law_cost" : Str), 7)]) hX.hN hX.calm hX.nd (pi_lst hX.K (pd_var 4 hX.hN)) (fun _ => blkOk_by (sc := defScope s__law_equal_right) (by decide +kernel)) (pg_tup (hX.blk _).K (hX.blk _).calm (pgs_cons (pg_name 6 (hX.blk _).hN hX.nd) (pgs_cons (pg_name 7 (hX.blk _).hN hX.nd) pgs_nil))) pts_nil (pd_tup (pa_cons (pd_var 6 (hX.blk _).hN) (pa_cons (pd_var 9 (hX.blk _).hN) pa_nil)))) pa_nil)))) pa_nil)) (pb_cons (ps_forB 10 (fun _ => PassesOwn.never) hX.calm hX.K hX.hN (pg_name 11 hX.hN hX.nd) (pb_cons (ps_set 12 hX.hN hX.nd (pd_and (pd_cmp (c_eq hX.toFam) (pd_sl hX.K (pd_var 11 hX.hN) po_none (po_some pd_int)) (pd_sl hX.K (pd_var 2 hX.hN) po_none (po_some pd_int))) (pd_and (pd_cmp (c_eq hX.toFam) (pd_ix hX.K (pd_var 11 hX.hN) pd_int) (pd_ix hX.K (pd_var 2 hX.hN) pd_int)) (pd_one (pd_cmp (c_eq hX.toFam) (pd_bi (b_sortedPT hX.K) hX.mg T.z_sorted bt_sorted (pa_cons (pd_ix hX.K (pd_var 11 hX.hN) pd_int) pa_nil)) (pd_bi (b_sortedPT hX.K) hX.mg T.z_sorted bt_sorted (pa_cons (pd_var 4 hX.hN) pa_nil))))))) (pb_one (ps_if (pw_pt (pw_or (pt_cmp (c_ne hX.toFam) (pd_cmp (c_eqO hX h_Scheme___eq__ CF.ki CF.no) (pd_var 1 hX.hN) (pd_own_call hX h__law_scheme (pa_cons (pd_var 11 hX.hN) pa_nil))) (pd_var 12 hX.hN)) (pw_or1 (pt_cmp (c_eq hX.toFam) (pd_cmp (c_neO hX h_Scheme___eq__ CF.ki CF.ne CF.no) (pd_own_call hX h__law_scheme (pa_cons (pd_var 11 hX.hN) pa_nil)) (pd_var 1 hX.hN)) (pd_var 12 hX.hN))))) (pb_one (ps_ret pd_bl)) pb_nil)))) (pb_one (ps_ret pd_bl))))))))))))) r__law_equal_right
theorem law_fn {fa : Addr} {fd : FuncData} (T : Txt K mg) (FA : Fun K "law" "law" s_law fa fd) {C : Addr} (CF : ClsF K mg C) (h__law_cell : Has P w K mg base 1 "_law_cell" ["_law_script", "_law_k"] F_law_cell) (h__law_box : Has P w K mg base 1 "_law_box" ["_law_cell_here"] F_law_box) (h__law_model : Has P w K mg base 2 "_law_model" ["_law_box_here"] F_law_model) (hC_Scheme_1 : HasC P w K mg base 4 "Scheme" ["self", "costs", "add", "drop", "swap", "groups", "turn"] 0 ["costs", "turn", "swap", "drop", "add", "groups"] gD_Scheme_1 F_Scheme) (h__law_told_right : Has P w K mg base 5 "_law_told_right" ["_law_scheme_here", "_law_model_here"] F_law_told_right) (h__law_steps_right : Has P w K mg base 5 "_law_steps_right" ["_law_scheme_here", "_law_model_here"] F_law_steps_right) (h__law_equal_right : Has P w K mg base 7 "_law_equal_right" ["_law_box_here", "_law_scheme_here", "_law_model_here"] F_law_equal_right) (hC_Scheme_2 : HasC P w K mg base 4 "Scheme" ["self", "costs", "add", "drop", "swap", "groups", "turn"] 1 ["add", "drop", "swap"] gD_Scheme_2 F_Scheme) (h_Scheme___eq__ : HasM P w K mg base 3 "Scheme" "__eq__" ["self", "other"] [] F_Scheme___eq__) : FnG P w K mg base CX0 8 fa fd ["_law_script"] (spD K mg (lawFn 63)) :=
  fn_ok (W := fun _ _ _ _ => False) FA sc_law l_law (wb := w_law) (fun cdv A oe s H E hX => (pb_cons (ps_for (fun _ => PassesOwn.never) hX.calm (pi_rg1 hX.mg T.z_range (pa_cons (pd_bi (b_max hX.calm) hX.mg T.z_max bt_max (pa_cons pd_int (pa_cons (pd_bi (b_min hX.calm) hX.mg T.z_min bt_min (pa_cons pd_int (pa_cons (pd_bi (b_len hX.K) hX.mg T.z_len bt_len (pa_cons (pd_var 0 hX.hN) pa_nil)) pa_nil))) pa_nil))) pa_nil)) (pg_name 1 hX.hN hX.nd) (pb_cons (ps_set 2 hX.hN hX.nd (pd_own_call hX h__law_box (pa_cons (pd_own_call hX h__law_cell (pa_cons (pd_var 0 hX.hN) (pa_cons (pd_var 1 hX.hN) pa_nil))) pa_nil))) (pb_cons (ps_set 3 hX.hN hX.nd (pd_own_call hX h__law_model (pa_cons (pd_var 2 hX.hN) pa_nil))) (pb_cons (ps_unp hX.K hX.calm (pd_var 3 hX.hN) (pgs_cons (pg_name 4 hX.hN hX.nd) (pgs_cons (pg_name 5 hX.hN hX.nd) (pgs_cons (pg_name 6 hX.hN hX.nd) (pgs_cons (pg_name 7 hX.hN hX.nd) (pgs_cons (pg_name 8 hX.hN hX.nd) (pgs_cons (pg_name 9 hX.hN hX.nd) pgs_nil))))))) (pb_cons (ps_parD 10 11 hX.hN hX.calm hX.nd (pa_cons (pd_bt (b_listO hX.K) hX.mg T.z_list bt_list (pa_cons (pd_var 4 hX.hN) pa_nil)) (pa_cons (pd_lcO (own := [(("_law_group" : Str), 13)]) hX.hN hX.calm hX.nd (pi_lst hX.K (pd_var 8 hX.hN)) (fun _ => blkOk_by (sc := defScope s_law) (by decide +kernel)) (pg_name 13 (hX.blk _).hN hX.nd) pts_nil (pd_bt (b_listO (hX.blk _).K) (hX.blk _).mg T.z_list bt_list (pa_cons (pd_var 13 (hX.blk _).hN) pa_nil))) pa_nil))) (pb_cons (ps_set 12 hX.hN hX.nd (pd_make0 hX nox_takes hC_Scheme_1.lent2 (pdk_cons (pd_var 10 hX.hN) (pdk_cons (pd_var 9 hX.hN) (pdk_cons (pd_var 7 hX.hN) (pdk_cons (pd_var 6 hX.hN) (pdk_cons (pd_var 5 hX.hN) (pdk_cons (pd_var 11 hX.hN) pdk_nil)))))))) (pb_cons (ps_appendD hX.K (pd_var 10 hX.hN) (pa_cons pd_str pa_nil)) (pb_cons (ps_appendD hX.K (pd_var 11 hX.hN) (pa_cons (pd_own (pa_cons pd_str (pa_cons pd_str pa_nil))) pa_nil)) (pb_cons (ps_forB 11 (fun _ => PassesOwn.never) hX.calm hX.K hX.hN (pg_name 13 hX.hN hX.nd) (pb_one (ps_put pd_str (pd_var 13 hX.hN) pd_int))) (pb_cons (ps_if (pw_pt (pw_or (pt_not (pt_val (pd_own_call hX h__law_told_right (pa_cons (pd_var 12 hX.hN) (pa_cons (pd_var 3 hX.hN) pa_nil))))) (pw_or1 (pt_not (pt_val (pd_own_call hX h__law_steps_right (pa_cons (pd_var 12 hX.hN) (pa_cons (pd_var 3 hX.hN) pa_nil)))))))) (pb_one (ps_ret pd_bl)) pb_nil) (pb_cons (ps_if (pt_not (pt_val (pd_own_call hX h__law_equal_right (pa_cons (pd_var 2 hX.hN) (pa_cons (pd_var 12 hX.hN) (pa_cons (pd_var 3 hX.hN) pa_nil)))))) (pb_one (ps_ret pd_bl)) pb_nil) (pb_one (ps_if (pw_pt (pw_and (pt_cmp (c_eqNil hX.toFam) (pd_var 8 hX.hN) (pd_lst pa_nil)) (pw_and1 (pt_cmp (c_is) (pd_var 9 hX.hN) pd_non)))) (pb_one (ps_if (pt_cmp (c_neO hX h_Scheme___eq__ CF.ki CF.ne CF.no) (pd_make hX nox_takes hC_Scheme_2 (pa_cons (pd_bt (b_tupleM hX.K) hX.mg T.z_tuple bt_tuple (pa_cons (pd_var 4 hX.hN) pa_nil)) pa_nil) (pdk_cons (pd_var 5 hX.hN) (pdk_cons (pd_var 6 hX.hN) (pdk_cons (pd_var 7 hX.hN) pdk_nil)))) (pd_var 12 hX.hN)) (pb_one (ps_ret pd_bl)) pb_nil)) pb_nil))))))))))))) (pb_one (ps_ret pd_bl)))) r_law
end
end K04
namespace K04
open PySem L2 XO DL GB
theorem all_mk {P : Program} {w : World} {K : Fg} {mg : Str → Option Value} {h : Heap} {fa : Addr} (X : K.In h) (G : h.Ns mainGlobals mg) (hfa : mg "law" = some (.ref fa))
    {a_is_list : Addr} {oc_is_list kV_is_list dc_is_list pm_is_list cd_is_list ct_is_list : Value} {od_is_list an_is_list : Option Addr} {sl_is_list : Array (Option Value)}
    {a_is_letter : Addr} {oc_is_letter kV_is_letter dc_is_letter pm_is_letter cd_is_letter ct_is_letter : Value} {od_is_letter an_is_letter : Option Addr} {sl_is_letter : Array (Option Value)}
    {a_is_lettered : Addr} {oc_is_lettered kV_is_lettered dc_is_lettered pm_is_lettered cd_is_lettered ct_is_lettered : Value} {od_is_lettered an_is_lettered : Option Addr} {sl_is_lettered : Array (Option Value)}
    {a_check_cost : Addr} {oc_check_cost kV_check_cost dc_check_cost pm_check_cost cd_check_cost ct_check_cost : Value} {od_check_cost an_check_cost : Option Addr} {sl_check_cost : Array (Option Value)}
    {a__law_cell : Addr} {oc__law_cell kV__law_cell dc__law_cell pm__law_cell cd__law_cell ct__law_cell : Value} {od__law_cell an__law_cell : Option Addr} {sl__law_cell : Array (Option Value)}
    {a__law_box : Addr} {oc__law_box kV__law_box dc__law_box pm__law_box cd__law_box ct__law_box : Value} {od__law_box an__law_box : Option Addr} {sl__law_box : Array (Option Value)}
    {a__law_take : Addr} {oc__law_take kV__law_take dc__law_take pm__law_take cd__law_take ct__law_take : Value} {od__law_take an__law_take : Option Addr} {sl__law_take : Array (Option Value)}
    {a__law_due_swap : Addr} {oc__law_due_swap kV__law_due_swap dc__law_due_swap pm__law_due_swap cd__law_due_swap ct__law_due_swap : Value} {od__law_due_swap an__law_due_swap : Option Addr} {sl__law_due_swap : Array (Option Value)}
    {a__law_with : Addr} {oc__law_with kV__law_with dc__law_with pm__law_with cd__law_with ct__law_with : Value} {od__law_with an__law_with : Option Addr} {sl__law_with : Array (Option Value)}
    {a_is_name : Addr} {oc_is_name kV_is_name dc_is_name pm_is_name cd_is_name ct_is_name : Value} {od_is_name an_is_name : Option Addr} {sl_is_name : Array (Option Value)}
    {a_is_group : Addr} {oc_is_group kV_is_group dc_is_group pm_is_group cd_is_group ct_is_group : Value} {od_is_group an_is_group : Option Addr} {sl_is_group : Array (Option Value)}
    {a_is_step : Addr} {oc_is_step kV_is_step dc_is_step pm_is_step cd_is_step ct_is_step : Value} {od_is_step an_is_step : Option Addr} {sl_is_step : Array (Option Value)}
    {a__law_model : Addr} {oc__law_model kV__law_model dc__law_model pm__law_model cd__law_model ct__law_model : Value} {od__law_model an__law_model : Option Addr} {sl__law_model : Array (Option Value)}
    {a_check_names : Addr} {oc_check_names kV_check_names dc_check_names pm_check_names cd_check_names ct_check_names : Value} {od_check_names an_check_names : Option Addr} {sl_check_names : Array (Option Value)}
    {a_checked_groups : Addr} {oc_checked_groups kV_checked_groups dc_checked_groups pm_checked_groups cd_checked_groups ct_checked_groups : Value} {od_checked_groups an_checked_groups : Option Addr} {sl_checked_groups : Array (Option Value)}
    {a__law_told_right : Addr} {oc__law_told_right kV__law_told_right dc__law_told_right pm__law_told_right cd__law_told_right ct__law_told_right : Value} {od__law_told_right an__law_told_right : Option Addr} {sl__law_told_right : Array (Option Value)}
    {a__law_steps_right : Addr} {oc__law_steps_right kV__law_steps_right dc__law_steps_right pm__law_steps_right cd__law_steps_right ct__law_steps_right : Value} {od__law_steps_right an__law_steps_right : Option Addr} {sl__law_steps_right : Array (Option Value)}
    {a__law_scheme : Addr} {oc__law_scheme kV__law_scheme dc__law_scheme pm__law_scheme cd__law_scheme ct__law_scheme : Value} {od__law_scheme an__law_scheme : Option Addr} {sl__law_scheme : Array (Option Value)}
    {a__law_equal_right : Addr} {oc__law_equal_right kV__law_equal_right dc__law_equal_right pm__law_equal_right cd__law_equal_right ct__law_equal_right : Value} {od__law_equal_right an__law_equal_right : Option Addr} {sl__law_equal_right : Array (Option Value)}
    {a_law : Addr} {oc_law kV_law dc_law pm_law cd_law ct_law : Value} {od_law an_law : Option Addr} {sl_law : Array (Option Value)}
    {C_Duplicate f_Duplicate N_Duplicate cda_Duplicate cc_Duplicate : Addr} {nm_Duplicate q_Duplicate qual_Duplicate msg_Duplicate file_Duplicate : Str} {bs_Duplicate bm_Duplicate sub_Duplicate : List Value} {sn_Duplicate : List Str} {ab_Duplicate : Bool} {col_Duplicate : Option Bool} {dd_Duplicate od_Duplicate an_Duplicate cld_Duplicate cdd_Duplicate : Option Addr} {k0_Duplicate k1_Duplicate k2_Duplicate k3_Duplicate k5_Duplicate : Option Value} {oc_Duplicate doc_Duplicate pm_Duplicate ct_Duplicate cl_Duplicate ccl_Duplicate : Value} {osl_Duplicate csl_Duplicate ccs_Duplicate : Array (Option Value)} {vs_Duplicate : Array Value} {tf_Duplicate : Tok} {j_Duplicate : Nat} {p1_Duplicate p2_Duplicate d1_Duplicate d2_Duplicate d3_Duplicate d4_Duplicate d5_Duplicate d6_Duplicate q1_Duplicate q2_Duplicate q3_Duplicate q4_Duplicate : Pos}
    {C_InvalidGroup f_InvalidGroup N_InvalidGroup cda_InvalidGroup cc_InvalidGroup : Addr} {nm_InvalidGroup q_InvalidGroup qual_InvalidGroup msg_InvalidGroup file_InvalidGroup : Str} {bs_InvalidGroup bm_InvalidGroup sub_InvalidGroup : List Value} {sn_InvalidGroup : List Str} {ab_InvalidGroup : Bool} {col_InvalidGroup : Option Bool} {dd_InvalidGroup od_InvalidGroup an_InvalidGroup cld_InvalidGroup cdd_InvalidGroup : Option Addr} {k0_InvalidGroup k1_InvalidGroup k2_InvalidGroup k3_InvalidGroup k5_InvalidGroup : Option Value} {oc_InvalidGroup doc_InvalidGroup pm_InvalidGroup ct_InvalidGroup cl_InvalidGroup ccl_InvalidGroup : Value} {osl_InvalidGroup csl_InvalidGroup ccs_InvalidGroup : Array (Option Value)} {vs_InvalidGroup : Array Value} {tf_InvalidGroup : Tok} {j_InvalidGroup : Nat} {p1_InvalidGroup p2_InvalidGroup d1_InvalidGroup d2_InvalidGroup d3_InvalidGroup d4_InvalidGroup d5_InvalidGroup d6_InvalidGroup q1_InvalidGroup q2_InvalidGroup q3_InvalidGroup q4_InvalidGroup : Pos}
    {C_InvalidLetter f_InvalidLetter N_InvalidLetter cda_InvalidLetter cc_InvalidLetter : Addr} {nm_InvalidLetter q_InvalidLetter qual_InvalidLetter msg_InvalidLetter file_InvalidLetter : Str} {bs_InvalidLetter bm_InvalidLetter sub_InvalidLetter : List Value} {sn_InvalidLetter : List Str} {ab_InvalidLetter : Bool} {col_InvalidLetter : Option Bool} {dd_InvalidLetter od_InvalidLetter an_InvalidLetter cld_InvalidLetter cdd_InvalidLetter : Option Addr} {k0_InvalidLetter k1_InvalidLetter k2_InvalidLetter k3_InvalidLetter k5_InvalidLetter : Option Value} {oc_InvalidLetter doc_InvalidLetter pm_InvalidLetter ct_InvalidLetter cl_InvalidLetter ccl_InvalidLetter : Value} {osl_InvalidLetter csl_InvalidLetter ccs_InvalidLetter : Array (Option Value)} {vs_InvalidLetter : Array Value} {tf_InvalidLetter : Tok} {j_InvalidLetter : Nat} {p1_InvalidLetter p2_InvalidLetter d1_InvalidLetter d2_InvalidLetter d3_InvalidLetter d4_InvalidLetter d5_InvalidLetter d6_InvalidLetter q1_InvalidLetter q2_InvalidLetter q3_InvalidLetter q4_InvalidLetter : Pos}
    {C_InvalidName f_InvalidName N_InvalidName cda_InvalidName cc_InvalidName : Addr} {nm_InvalidName q_InvalidName qual_InvalidName msg_InvalidName file_InvalidName : Str} {bs_InvalidName bm_InvalidName sub_InvalidName : List Value} {sn_InvalidName : List Str} {ab_InvalidName : Bool} {col_InvalidName : Option Bool} {dd_InvalidName od_InvalidName an_InvalidName cld_InvalidName cdd_InvalidName : Option Addr} {k0_InvalidName k1_InvalidName k2_InvalidName k3_InvalidName k5_InvalidName : Option Value} {oc_InvalidName doc_InvalidName pm_InvalidName ct_InvalidName cl_InvalidName ccl_InvalidName : Value} {osl_InvalidName csl_InvalidName ccs_InvalidName : Array (Option Value)} {vs_InvalidName : Array Value} {tf_InvalidName : Tok} {j_InvalidName : Nat} {p1_InvalidName p2_InvalidName d1_InvalidName d2_InvalidName d3_InvalidName d4_InvalidName d5_InvalidName d6_InvalidName q1_InvalidName q2_InvalidName q3_InvalidName q4_InvalidName : Pos}
    {C_InvalidPart f_InvalidPart N_InvalidPart cda_InvalidPart cc_InvalidPart : Addr} {nm_InvalidPart q_InvalidPart qual_InvalidPart msg_InvalidPart file_InvalidPart : Str} {bs_InvalidPart bm_InvalidPart sub_InvalidPart : List Value} {sn_InvalidPart : List Str} {ab_InvalidPart : Bool} {col_InvalidPart : Option Bool} {dd_InvalidPart od_InvalidPart an_InvalidPart cld_InvalidPart cdd_InvalidPart : Option Addr} {k0_InvalidPart k1_InvalidPart k2_InvalidPart k3_InvalidPart k5_InvalidPart : Option Value} {oc_InvalidPart doc_InvalidPart pm_InvalidPart ct_InvalidPart cl_InvalidPart ccl_InvalidPart : Value} {osl_InvalidPart csl_InvalidPart ccs_InvalidPart : Array (Option Value)} {vs_InvalidPart : Array Value} {tf_InvalidPart : Tok} {j_InvalidPart : Nat} {p1_InvalidPart p2_InvalidPart d1_InvalidPart d2_InvalidPart d3_InvalidPart d4_InvalidPart d5_InvalidPart d6_InvalidPart q1_InvalidPart q2_InvalidPart q3_InvalidPart q4_InvalidPart : Pos}
    {C_InvalidStep f_InvalidStep N_InvalidStep cda_InvalidStep cc_InvalidStep : Addr} {nm_InvalidStep q_InvalidStep qual_InvalidStep msg_InvalidStep file_InvalidStep : Str} {bs_InvalidStep bm_InvalidStep sub_InvalidStep : List Value} {sn_InvalidStep : List Str} {ab_InvalidStep : Bool} {col_InvalidStep : Option Bool} {dd_InvalidStep od_InvalidStep an_InvalidStep cld_InvalidStep cdd_InvalidStep : Option Addr} {k0_InvalidStep k1_InvalidStep k2_InvalidStep k3_InvalidStep k5_InvalidStep : Option Value} {oc_InvalidStep doc_InvalidStep pm_InvalidStep ct_InvalidStep cl_InvalidStep ccl_InvalidStep : Value} {osl_InvalidStep csl_InvalidStep ccs_InvalidStep : Array (Option Value)} {vs_InvalidStep : Array Value} {tf_InvalidStep : Tok} {j_InvalidStep : Nat} {p1_InvalidStep p2_InvalidStep d1_InvalidStep d2_InvalidStep d3_InvalidStep d4_InvalidStep d5_InvalidStep d6_InvalidStep q1_InvalidStep q2_InvalidStep q3_InvalidStep q4_InvalidStep : Pos}
    {C_UnknownCost f_UnknownCost N_UnknownCost cda_UnknownCost cc_UnknownCost : Addr} {nm_UnknownCost q_UnknownCost qual_UnknownCost msg_UnknownCost file_UnknownCost : Str} {bs_UnknownCost bm_UnknownCost sub_UnknownCost : List Value} {sn_UnknownCost : List Str} {ab_UnknownCost : Bool} {col_UnknownCost : Option Bool} {dd_UnknownCost od_UnknownCost an_UnknownCost cld_UnknownCost cdd_UnknownCost : Option Addr} {k0_UnknownCost k1_UnknownCost k2_UnknownCost k3_UnknownCost k5_UnknownCost : Option Value} {oc_UnknownCost doc_UnknownCost pm_UnknownCost ct_UnknownCost cl_UnknownCost ccl_UnknownCost : Value} {osl_UnknownCost csl_UnknownCost ccs_UnknownCost : Array (Option Value)} {vs_UnknownCost : Array Value} {tf_UnknownCost : Tok} {j_UnknownCost : Nat} {p1_UnknownCost p2_UnknownCost d1_UnknownCost d2_UnknownCost d3_UnknownCost d4_UnknownCost d5_UnknownCost d6_UnknownCost q1_UnknownCost q2_UnknownCost q3_UnknownCost q4_UnknownCost : Pos}
    {a_STEPS_ALONE : Addr} {od_STEPS_ALONE : Option Addr} {sl_STEPS_ALONE : Array (Option Value)} {n_STEPS_ALONE : Nat} {t0_STEPS_ALONE t1_STEPS_ALONE t2_STEPS_ALONE : Tok}
    {a_STEPS_WITH_LETTER : Addr} {od_STEPS_WITH_LETTER : Option Addr} {sl_STEPS_WITH_LETTER : Array (Option Value)} {n_STEPS_WITH_LETTER : Nat} {t0_STEPS_WITH_LETTER t1_STEPS_WITH_LETTER : Tok}
    {C_Scheme fi_Scheme : Addr} {oc_Scheme dc_Scheme pm_Scheme cd_Scheme ct_Scheme : Value} {od_Scheme an_Scheme : Option Addr} {sl_Scheme : Array (Option Value)}
    {pa_Scheme_costs fp_Scheme_costs : Addr} {rs_Scheme_costs : List Value} {oc_Scheme_costs kV_Scheme_costs dc_Scheme_costs pm_Scheme_costs cd_Scheme_costs ct_Scheme_costs : Value} {od_Scheme_costs an_Scheme_costs : Option Addr} {sl_Scheme_costs : Array (Option Value)}
    {pa_Scheme_cost_to_add fp_Scheme_cost_to_add : Addr} {rs_Scheme_cost_to_add : List Value} {oc_Scheme_cost_to_add kV_Scheme_cost_to_add dc_Scheme_cost_to_add pm_Scheme_cost_to_add cd_Scheme_cost_to_add ct_Scheme_cost_to_add : Value} {od_Scheme_cost_to_add an_Scheme_cost_to_add : Option Addr} {sl_Scheme_cost_to_add : Array (Option Value)}
    {pa_Scheme_cost_to_drop fp_Scheme_cost_to_drop : Addr} {rs_Scheme_cost_to_drop : List Value} {oc_Scheme_cost_to_drop kV_Scheme_cost_to_drop dc_Scheme_cost_to_drop pm_Scheme_cost_to_drop cd_Scheme_cost_to_drop ct_Scheme_cost_to_drop : Value} {od_Scheme_cost_to_drop an_Scheme_cost_to_drop : Option Addr} {sl_Scheme_cost_to_drop : Array (Option Value)}
    {pa_Scheme_cost_to_swap fp_Scheme_cost_to_swap : Addr} {rs_Scheme_cost_to_swap : List Value} {oc_Scheme_cost_to_swap kV_Scheme_cost_to_swap dc_Scheme_cost_to_swap pm_Scheme_cost_to_swap cd_Scheme_cost_to_swap ct_Scheme_cost_to_swap : Value} {od_Scheme_cost_to_swap an_Scheme_cost_to_swap : Option Addr} {sl_Scheme_cost_to_swap : Array (Option Value)}
    {pa_Scheme_groups fp_Scheme_groups : Addr} {rs_Scheme_groups : List Value} {oc_Scheme_groups kV_Scheme_groups dc_Scheme_groups pm_Scheme_groups cd_Scheme_groups ct_Scheme_groups : Value} {od_Scheme_groups an_Scheme_groups : Option Addr} {sl_Scheme_groups : Array (Option Value)}
    {pa_Scheme_cost_to_turn fp_Scheme_cost_to_turn : Addr} {rs_Scheme_cost_to_turn : List Value} {oc_Scheme_cost_to_turn kV_Scheme_cost_to_turn dc_Scheme_cost_to_turn pm_Scheme_cost_to_turn cd_Scheme_cost_to_turn ct_Scheme_cost_to_turn : Value} {od_Scheme_cost_to_turn an_Scheme_cost_to_turn : Option Addr} {sl_Scheme_cost_to_turn : Array (Option Value)}
    {kD_Scheme aT_Scheme : Addr} {odT0_Scheme : Option Addr} {nT0_Scheme : Nat} {slT0_Scheme : Array (Option Value)}
    {fm_Scheme___len__ : Addr} {oc_Scheme___len__ kV_Scheme___len__ dc_Scheme___len__ pm_Scheme___len__ cd_Scheme___len__ ct_Scheme___len__ : Value} {od_Scheme___len__ an_Scheme___len__ : Option Addr} {sl_Scheme___len__ : Array (Option Value)}
    {fm_Scheme___contains__ : Addr} {oc_Scheme___contains__ kV_Scheme___contains__ dc_Scheme___contains__ pm_Scheme___contains__ cd_Scheme___contains__ ct_Scheme___contains__ : Value} {od_Scheme___contains__ an_Scheme___contains__ : Option Addr} {sl_Scheme___contains__ : Array (Option Value)}
    {fm_Scheme___eq__ : Addr} {oc_Scheme___eq__ kV_Scheme___eq__ dc_Scheme___eq__ pm_Scheme___eq__ cd_Scheme___eq__ ct_Scheme___eq__ : Value} {od_Scheme___eq__ an_Scheme___eq__ : Option Addr} {sl_Scheme___eq__ : Array (Option Value)}
    {fm_Scheme_swap_cost : Addr} {oc_Scheme_swap_cost kV_Scheme_swap_cost dc_Scheme_swap_cost pm_Scheme_swap_cost cd_Scheme_swap_cost ct_Scheme_swap_cost : Value} {od_Scheme_swap_cost an_Scheme_swap_cost : Option Addr} {sl_Scheme_swap_cost : Array (Option Value)}
    {fm_Scheme_step_cost : Addr} {oc_Scheme_step_cost kV_Scheme_step_cost dc_Scheme_step_cost pm_Scheme_step_cost cd_Scheme_step_cost ct_Scheme_step_cost : Value} {od_Scheme_step_cost an_Scheme_step_cost : Option Addr} {sl_Scheme_step_cost : Array (Option Value)}
    {dT_Scheme_step_cost : Addr} {odT_Scheme_step_cost : Option Addr} {nT_Scheme_step_cost : Nat} {slT_Scheme_step_cost : Array (Option Value)}
    (x_is_list : PySem.W.nsIn K mainGlobals "is_list" = some (some (.ref a_is_list))) (l_is_list : K.lookup a_is_list = some ⟨oc_is_list, od_is_list, .func (PySem.W.fnOf "is_list" "is_list" (defArgs s_is_list) (defBody s_is_list) (defScope s_is_list) .none kV_is_list dc_is_list pm_is_list an_is_list cd_is_list ct_is_list), sl_is_list⟩) (c_is_list : PySem.W.codeIn K cd_is_list "is_list" = true) (k_is_list : PySem.W.keepIn K (.ref a_is_list) = true)
    (x_is_letter : PySem.W.nsIn K mainGlobals "is_letter" = some (some (.ref a_is_letter))) (l_is_letter : K.lookup a_is_letter = some ⟨oc_is_letter, od_is_letter, .func (PySem.W.fnOf "is_letter" "is_letter" (defArgs s_is_letter) (defBody s_is_letter) (defScope s_is_letter) .none kV_is_letter dc_is_letter pm_is_letter an_is_letter cd_is_letter ct_is_letter), sl_is_letter⟩) (c_is_letter : PySem.W.codeIn K cd_is_letter "is_letter" = true) (k_is_letter : PySem.W.keepIn K (.ref a_is_letter) = true)
    (x_is_lettered : PySem.W.nsIn K mainGlobals "is_lettered" = some (some (.ref a_is_lettered))) (l_is_lettered : K.lookup a_is_lettered = some ⟨oc_is_lettered, od_is_lettered, .func (PySem.W.fnOf "is_lettered" "is_lettered" (defArgs s_is_lettered) (defBody s_is_lettered) (defScope s_is_lettered) .none kV_is_lettered dc_is_lettered pm_is_lettered an_is_lettered cd_is_lettered ct_is_lettered), sl_is_lettered⟩) (c_is_lettered : PySem.W.codeIn K cd_is_lettered "is_lettered" = true) (k_is_lettered : PySem.W.keepIn K (.ref a_is_lettered) = true)
    (x_check_cost : PySem.W.nsIn K mainGlobals "check_cost" = some (some (.ref a_check_cost))) (l_check_cost : K.lookup a_check_cost = some ⟨oc_check_cost, od_check_cost, .func (PySem.W.fnOf "check_cost" "check_cost" (defArgs s_check_cost) (defBody s_check_cost) (defScope s_check_cost) .none kV_check_cost dc_check_cost pm_check_cost an_check_cost cd_check_cost ct_check_cost), sl_check_cost⟩) (c_check_cost : PySem.W.codeIn K cd_check_cost "check_cost" = true) (k_check_cost : PySem.W.keepIn K (.ref a_check_cost) = true)
    (x__law_cell : PySem.W.nsIn K mainGlobals "_law_cell" = some (some (.ref a__law_cell))) (l__law_cell : K.lookup a__law_cell = some ⟨oc__law_cell, od__law_cell, .func (PySem.W.fnOf "_law_cell" "_law_cell" (defArgs s__law_cell) (defBody s__law_cell) (defScope s__law_cell) .none kV__law_cell dc__law_cell pm__law_cell an__law_cell cd__law_cell ct__law_cell), sl__law_cell⟩) (c__law_cell : PySem.W.codeIn K cd__law_cell "_law_cell" = true) (k__law_cell : PySem.W.keepIn K (.ref a__law_cell) = true)
    (x__law_box : PySem.W.nsIn K mainGlobals "_law_box" = some (some (.ref a__law_box))) (l__law_box : K.lookup a__law_box = some ⟨oc__law_box, od__law_box, .func (PySem.W.fnOf "_law_box" "_law_box" (defArgs s__law_box) (defBody s__law_box) (defScope s__law_box) .none kV__law_box dc__law_box pm__law_box an__law_box cd__law_box ct__law_box), sl__law_box⟩) (c__law_box : PySem.W.codeIn K cd__law_box "_law_box" = true) (k__law_box : PySem.W.keepIn K (.ref a__law_box) = true)
    (x__law_take : PySem.W.nsIn K mainGlobals "_law_take" = some (some (.ref a__law_take))) (l__law_take : K.lookup a__law_take = some ⟨oc__law_take, od__law_take, .func (PySem.W.fnOf "_law_take" "_law_take" (defArgs s__law_take) (defBody s__law_take) (defScope s__law_take) .none kV__law_take dc__law_take pm__law_take an__law_take cd__law_take ct__law_take), sl__law_take⟩) (c__law_take : PySem.W.codeIn K cd__law_take "_law_take" = true) (k__law_take : PySem.W.keepIn K (.ref a__law_take) = true)
    (x__law_due_swap : PySem.W.nsIn K mainGlobals "_law_due_swap" = some (some (.ref a__law_due_swap))) (l__law_due_swap : K.lookup a__law_due_swap = some ⟨oc__law_due_swap, od__law_due_swap, .func (PySem.W.fnOf "_law_due_swap" "_law_due_swap" (defArgs s__law_due_swap) (defBody s__law_due_swap) (defScope s__law_due_swap) .none kV__law_due_swap dc__law_due_swap pm__law_due_swap an__law_due_swap cd__law_due_swap ct__law_due_swap), sl__law_due_swap⟩) (c__law_due_swap : PySem.W.codeIn K cd__law_due_swap "_law_due_swap" = true) (k__law_due_swap : PySem.W.keepIn K (.ref a__law_due_swap) = true)
    (x__law_with : PySem.W.nsIn K mainGlobals "_law_with" = some (some (.ref a__law_with))) (l__law_with : K.lookup a__law_with = some ⟨oc__law_with, od__law_with, .func (PySem.W.fnOf "_law_with" "_law_with" (defArgs s__law_with) (defBody s__law_with) (defScope s__law_with) .none kV__law_with dc__law_with pm__law_with an__law_with cd__law_with ct__law_with), sl__law_with⟩) (c__law_with : PySem.W.codeIn K cd__law_with "_law_with" = true) (k__law_with : PySem.W.keepIn K (.ref a__law_with) = true)
    (x_is_name : PySem.W.nsIn K mainGlobals "is_name" = some (some (.ref a_is_name))) (l_is_name : K.lookup a_is_name = some ⟨oc_is_name, od_is_name, .func (PySem.W.fnOf "is_name" "is_name" (defArgs s_is_name) (defBody s_is_name) (defScope s_is_name) .none kV_is_name dc_is_name pm_is_name an_is_name cd_is_name ct_is_name), sl_is_name⟩) (c_is_name : PySem.W.codeIn K cd_is_name "is_name" = true) (k_is_name : PySem.W.keepIn K (.ref a_is_name) = true)
    (x_is_group : PySem.W.nsIn K mainGlobals "is_group" = some (some (.ref a_is_group))) (l_is_group : K.lookup a_is_group = some ⟨oc_is_group, od_is_group, .func (PySem.W.fnOf "is_group" "is_group" (defArgs s_is_group) (defBody s_is_group) (defScope s_is_group) .none kV_is_group dc_is_group pm_is_group an_is_group cd_is_group ct_is_group), sl_is_group⟩) (c_is_group : PySem.W.codeIn K cd_is_group "is_group" = true) (k_is_group : PySem.W.keepIn K (.ref a_is_group) = true)
    (x_is_step : PySem.W.nsIn K mainGlobals "is_step" = some (some (.ref a_is_step))) (l_is_step : K.lookup a_is_step = some ⟨oc_is_step, od_is_step, .func (PySem.W.fnOf "is_step" "is_step" (defArgs s_is_step) (defBody s_is_step) (defScope s_is_step) .none kV_is_step dc_is_step pm_is_step an_is_step cd_is_step ct_is_step), sl_is_step⟩) (c_is_step : PySem.W.codeIn K cd_is_step "is_step" = true) (k_is_step : PySem.W.keepIn K (.ref a_is_step) = true)
    (x__law_model : PySem.W.nsIn K mainGlobals "_law_model" = some (some (.ref a__law_model))) (l__law_model : K.lookup a__law_model = some ⟨oc__law_model, od__law_model, .func (PySem.W.fnOf "_law_model" "_law_model" (defArgs s__law_model) (defBody s__law_model) (defScope s__law_model) .none kV__law_model dc__law_model pm__law_model an__law_model cd__law_model ct__law_model), sl__law_model⟩) (c__law_model : PySem.W.codeIn K cd__law_model "_law_model" = true) (k__law_model : PySem.W.keepIn K (.ref a__law_model) = true)
    (x_check_names : PySem.W.nsIn K mainGlobals "check_names" = some (some (.ref a_check_names))) (l_check_names : K.lookup a_check_names = some ⟨oc_check_names, od_check_names, .func (PySem.W.fnOf "check_names" "check_names" (defArgs s_check_names) (defBody s_check_names) (defScope s_check_names) .none kV_check_names dc_check_names pm_check_names an_check_names cd_check_names ct_check_names), sl_check_names⟩) (c_check_names : PySem.W.codeIn K cd_check_names "check_names" = true) (k_check_names : PySem.W.keepIn K (.ref a_check_names) = true)
    (x_checked_groups : PySem.W.nsIn K mainGlobals "checked_groups" = some (some (.ref a_checked_groups))) (l_checked_groups : K.lookup a_checked_groups = some ⟨oc_checked_groups, od_checked_groups, .func (PySem.W.fnOf "checked_groups" "checked_groups" (defArgs s_checked_groups) (defBody s_checked_groups) (defScope s_checked_groups) .none kV_checked_groups dc_checked_groups pm_checked_groups an_checked_groups cd_checked_groups ct_checked_groups), sl_checked_groups⟩) (c_checked_groups : PySem.W.codeIn K cd_checked_groups "checked_groups" = true) (k_checked_groups : PySem.W.keepIn K (.ref a_checked_groups) = true)
    (x__law_told_right : PySem.W.nsIn K mainGlobals "_law_told_right" = some (some (.ref a__law_told_right))) (l__law_told_right : K.lookup a__law_told_right = some ⟨oc__law_told_right, od__law_told_right, .func (PySem.W.fnOf "_law_told_right" "_law_told_right" (defArgs s__law_told_right) (defBody s__law_told_right) (defScope s__law_told_right) .none kV__law_told_right dc__law_told_right pm__law_told_right an__law_told_right cd__law_told_right ct__law_told_right), sl__law_told_right⟩) (c__law_told_right : PySem.W.codeIn K cd__law_told_right "_law_told_right" = true) (k__law_told_right : PySem.W.keepIn K (.ref a__law_told_right) = true)
    (x__law_steps_right : PySem.W.nsIn K mainGlobals "_law_steps_right" = some (some (.ref a__law_steps_right))) (l__law_steps_right : K.lookup a__law_steps_right = some ⟨oc__law_steps_right, od__law_steps_right, .func (PySem.W.fnOf "_law_steps_right" "_law_steps_right" (defArgs s__law_steps_right) (defBody s__law_steps_right) (defScope s__law_steps_right) .none kV__law_steps_right dc__law_steps_right pm__law_steps_right an__law_steps_right cd__law_steps_right ct__law_steps_right), sl__law_steps_right⟩) (c__law_steps_right : PySem.W.codeIn K cd__law_steps_right "_law_steps_right" = true) (k__law_steps_right : PySem.W.keepIn K (.ref a__law_steps_right) = true)
    (x__law_scheme : PySem.W.nsIn K mainGlobals "_law_scheme" = some (some (.ref a__law_scheme))) (l__law_scheme : K.lookup a__law_scheme = some ⟨oc__law_scheme, od__law_scheme, .func (PySem.W.fnOf "_law_scheme" "_law_scheme" (defArgs s__law_scheme) (defBody s__law_scheme) (defScope s__law_scheme) .none kV__law_scheme dc__law_scheme pm__law_scheme an__law_scheme cd__law_scheme ct__law_scheme), sl__law_scheme⟩) (c__law_scheme : PySem.W.codeIn K cd__law_scheme "_law_scheme" = true) (k__law_scheme : PySem.W.keepIn K (.ref a__law_scheme) = true)
    (x__law_equal_right : PySem.W.nsIn K mainGlobals "_law_equal_right" = some (some (.ref a__law_equal_right))) (l__law_equal_right : K.lookup a__law_equal_right = some ⟨oc__law_equal_right, od__law_equal_right, .func (PySem.W.fnOf "_law_equal_right" "_law_equal_right" (defArgs s__law_equal_right) (defBody s__law_equal_right) (defScope s__law_equal_right) .none kV__law_equal_right dc__law_equal_right pm__law_equal_right an__law_equal_right cd__law_equal_right ct__law_equal_right), sl__law_equal_right⟩) (c__law_equal_right : PySem.W.codeIn K cd__law_equal_right "_law_equal_right" = true) (k__law_equal_right : PySem.W.keepIn K (.ref a__law_equal_right) = true)
    (x_law : PySem.W.nsIn K mainGlobals "law" = some (some (.ref a_law))) (l_law : K.lookup a_law = some ⟨oc_law, od_law, .func (PySem.W.fnOf "law" "law" (defArgs s_law) (defBody s_law) (defScope s_law) .none kV_law dc_law pm_law an_law cd_law ct_law), sl_law⟩) (c_law : PySem.W.codeIn K cd_law "law" = true) (k_law : PySem.W.keepIn K (.ref a_law) = true)
    (a1_Duplicate : PySem.W.nsIn K mainGlobals "Duplicate" = some (some (.ref C_Duplicate)))
    (a2_Duplicate : PySem.W.findIn K (.ref C_Duplicate) "__init__" = some (some (.ref f_Duplicate)))
    (b1_Duplicate : K.lookup C_Duplicate = some (PySem.excClassObj nm_Duplicate q_Duplicate C_Duplicate N_Duplicate bs_Duplicate bm_Duplicate true sn_Duplicate sub_Duplicate ab_Duplicate col_Duplicate dd_Duplicate k0_Duplicate k1_Duplicate k2_Duplicate k3_Duplicate k5_Duplicate "ValueError.__new__"))
    (b2_Duplicate : PySem.W.excTail [.type "ValueError", .type "Exception", .type "BaseException", .type "object"] bm_Duplicate = true)
    (b3_Duplicate : PySem.W.findIn K (.ref C_Duplicate) "__setattr__" = some (some (.builtin "object.__setattr__")))
    (b4_Duplicate : PySem.W.findIn K (.ref C_Duplicate) "__getattribute__" = some (some (.builtin "BaseException.__getattribute__")))
    (b5_Duplicate : PySem.W.findIn K (.ref C_Duplicate) "__getattr__" = some none)
    (b6_Duplicate : PySem.W.findIn K (.ref C_Duplicate) "label" = some none)
    (b7_Duplicate : PySem.W.typeIn K (.ref f_Duplicate) = some (.type "function"))
    (b8_Duplicate : PySem.W.keepIn K (.ref C_Duplicate) = true)
    (b9_Duplicate : PySem.W.subIn K (.ref C_Duplicate) (.type "BaseException") = some true)
    (c1_Duplicate : PySem.W.typeIn K (.ref C_Duplicate) = some (.type "type"))
    (c2_Duplicate : PySem.W.hasDictIn K C_Duplicate = true)
    (c3_Duplicate : PySem.W.subIn K (.ref C_Duplicate) (.type "ValueError") = some true)
    (c4_Duplicate : PySem.W.mroIn K C_Duplicate (.ref C_Duplicate) = some true)
    (c5_Duplicate : PySem.W.nsIn K cStatics "thirdparty.any" = some none)
    (c6_Duplicate : PySem.W.ks_superIn K C_Duplicate C_Duplicate "__init__" = some (some (.builtin "ValueError.__init__")))
    (c7_Duplicate : PySem.W.isClsIn K C_Duplicate = true)
    (c8_Duplicate : PySem.W.subIn K (.ref C_Duplicate) (.ref C_Duplicate) = some true)
    (e1_Duplicate : K.lookup f_Duplicate = some ⟨oc_Duplicate, od_Duplicate, .func (PySem.W.ksFn "__init__" qual_Duplicate (XO.iA "label" p1_Duplicate p2_Duplicate) (XO.iB "label" msg_Duplicate j_Duplicate d1_Duplicate d2_Duplicate d3_Duplicate d4_Duplicate d5_Duplicate d6_Duplicate q1_Duplicate q2_Duplicate q3_Duplicate q4_Duplicate) (XO.iS "label") .none .none doc_Duplicate pm_Duplicate an_Duplicate (.ref cda_Duplicate) ct_Duplicate cc_Duplicate), osl_Duplicate⟩)
    (e2_Duplicate : PySem.W.codeIn K (.ref cda_Duplicate) qual_Duplicate = true)
    (e3_Duplicate : K.lookup cc_Duplicate = some ⟨cl_Duplicate, cld_Duplicate, .cell (some (.ref C_Duplicate)), csl_Duplicate⟩)
    (e4_Duplicate : K.lookup cda_Duplicate = some ⟨ccl_Duplicate, cdd_Duplicate, .fields vs_Duplicate, ccs_Duplicate⟩)
    (e5_Duplicate : vs_Duplicate[2]? = some (.str file_Duplicate tf_Duplicate))
    (e6_Duplicate : (P.main.file == file_Duplicate) = true)
    (e7_Duplicate : (d3_Duplicate.endLine == d5_Duplicate.line) = true)
    (a1_InvalidGroup : PySem.W.nsIn K mainGlobals "InvalidGroup" = some (some (.ref C_InvalidGroup)))
    (a2_InvalidGroup : PySem.W.findIn K (.ref C_InvalidGroup) "__init__" = some (some (.ref f_InvalidGroup)))
    (b1_InvalidGroup : K.lookup C_InvalidGroup = some (PySem.excClassObj nm_InvalidGroup q_InvalidGroup C_InvalidGroup N_InvalidGroup bs_InvalidGroup bm_InvalidGroup true sn_InvalidGroup sub_InvalidGroup ab_InvalidGroup col_InvalidGroup dd_InvalidGroup k0_InvalidGroup k1_InvalidGroup k2_InvalidGroup k3_InvalidGroup k5_InvalidGroup "ValueError.__new__"))
    (b2_InvalidGroup : PySem.W.excTail [.type "ValueError", .type "Exception", .type "BaseException", .type "object"] bm_InvalidGroup = true)
    (b3_InvalidGroup : PySem.W.findIn K (.ref C_InvalidGroup) "__setattr__" = some (some (.builtin "object.__setattr__")))
    (b4_InvalidGroup : PySem.W.findIn K (.ref C_InvalidGroup) "__getattribute__" = some (some (.builtin "BaseException.__getattribute__")))
    (b5_InvalidGroup : PySem.W.findIn K (.ref C_InvalidGroup) "__getattr__" = some none)
    (b6_InvalidGroup : PySem.W.findIn K (.ref C_InvalidGroup) "value" = some none)
    (b7_InvalidGroup : PySem.W.typeIn K (.ref f_InvalidGroup) = some (.type "function"))
    (b8_InvalidGroup : PySem.W.keepIn K (.ref C_InvalidGroup) = true)
    (b9_InvalidGroup : PySem.W.subIn K (.ref C_InvalidGroup) (.type "BaseException") = some true)
    (c1_InvalidGroup : PySem.W.typeIn K (.ref C_InvalidGroup) = some (.type "type"))
    (c2_InvalidGroup : PySem.W.hasDictIn K C_InvalidGroup = true)
    (c3_InvalidGroup : PySem.W.subIn K (.ref C_InvalidGroup) (.type "ValueError") = some true)
    (c4_InvalidGroup : PySem.W.mroIn K C_InvalidGroup (.ref C_InvalidGroup) = some true)
    (c5_InvalidGroup : PySem.W.nsIn K cStatics "thirdparty.any" = some none)
    (c6_InvalidGroup : PySem.W.ks_superIn K C_InvalidGroup C_InvalidGroup "__init__" = some (some (.builtin "ValueError.__init__")))
    (c7_InvalidGroup : PySem.W.isClsIn K C_InvalidGroup = true)
    (c8_InvalidGroup : PySem.W.subIn K (.ref C_InvalidGroup) (.ref C_InvalidGroup) = some true)
    (e1_InvalidGroup : K.lookup f_InvalidGroup = some ⟨oc_InvalidGroup, od_InvalidGroup, .func (PySem.W.ksFn "__init__" qual_InvalidGroup (XO.iA "value" p1_InvalidGroup p2_InvalidGroup) (XO.iB "value" msg_InvalidGroup j_InvalidGroup d1_InvalidGroup d2_InvalidGroup d3_InvalidGroup d4_InvalidGroup d5_InvalidGroup d6_InvalidGroup q1_InvalidGroup q2_InvalidGroup q3_InvalidGroup q4_InvalidGroup) (XO.iS "value") .none .none doc_InvalidGroup pm_InvalidGroup an_InvalidGroup (.ref cda_InvalidGroup) ct_InvalidGroup cc_InvalidGroup), osl_InvalidGroup⟩)
    (e2_InvalidGroup : PySem.W.codeIn K (.ref cda_InvalidGroup) qual_InvalidGroup = true)
    (e3_InvalidGroup : K.lookup cc_InvalidGroup = some ⟨cl_InvalidGroup, cld_InvalidGroup, .cell (some (.ref C_InvalidGroup)), csl_InvalidGroup⟩)
    (e4_InvalidGroup : K.lookup cda_InvalidGroup = some ⟨ccl_InvalidGroup, cdd_InvalidGroup, .fields vs_InvalidGroup, ccs_InvalidGroup⟩)
    (e5_InvalidGroup : vs_InvalidGroup[2]? = some (.str file_InvalidGroup tf_InvalidGroup))
    (e6_InvalidGroup : (P.main.file == file_InvalidGroup) = true)
    (e7_InvalidGroup : (d3_InvalidGroup.endLine == d5_InvalidGroup.line) = true)
    (a1_InvalidLetter : PySem.W.nsIn K mainGlobals "InvalidLetter" = some (some (.ref C_InvalidLetter)))
    (a2_InvalidLetter : PySem.W.findIn K (.ref C_InvalidLetter) "__init__" = some (some (.ref f_InvalidLetter)))
    (b1_InvalidLetter : K.lookup C_InvalidLetter = some (PySem.excClassObj nm_InvalidLetter q_InvalidLetter C_InvalidLetter N_InvalidLetter bs_InvalidLetter bm_InvalidLetter true sn_InvalidLetter sub_InvalidLetter ab_InvalidLetter col_InvalidLetter dd_InvalidLetter k0_InvalidLetter k1_InvalidLetter k2_InvalidLetter k3_InvalidLetter k5_InvalidLetter "ValueError.__new__"))
    (b2_InvalidLetter : PySem.W.excTail [.type "ValueError", .type "Exception", .type "BaseException", .type "object"] bm_InvalidLetter = true)
    (b3_InvalidLetter : PySem.W.findIn K (.ref C_InvalidLetter) "__setattr__" = some (some (.builtin "object.__setattr__")))
    (b4_InvalidLetter : PySem.W.findIn K (.ref C_InvalidLetter) "__getattribute__" = some (some (.builtin "BaseException.__getattribute__")))
    (b5_InvalidLetter : PySem.W.findIn K (.ref C_InvalidLetter) "__getattr__" = some none)
    (b6_InvalidLetter : PySem.W.findIn K (.ref C_InvalidLetter) "value" = some none)
    (b7_InvalidLetter : PySem.W.typeIn K (.ref f_InvalidLetter) = some (.type "function"))
    (b8_InvalidLetter : PySem.W.keepIn K (.ref C_InvalidLetter) = true)
    (b9_InvalidLetter : PySem.W.subIn K (.ref C_InvalidLetter) (.type "BaseException") = some true)
    (c1_InvalidLetter : PySem.W.typeIn K (.ref C_InvalidLetter) = some (.type "type"))
    (c2_InvalidLetter : PySem.W.hasDictIn K C_InvalidLetter = true)
    (c3_InvalidLetter : PySem.W.subIn K (.ref C_InvalidLetter) (.type "ValueError") = some true)
    (c4_InvalidLetter : PySem.W.mroIn K C_InvalidLetter (.ref C_InvalidLetter) = some true)
    (c5_InvalidLetter : PySem.W.nsIn K cStatics "thirdparty.any" = some none)
    (c6_InvalidLetter : PySem.W.ks_superIn K C_InvalidLetter C_InvalidLetter "__init__" = some (some (.builtin "ValueError.__init__")))
    (c7_InvalidLetter : PySem.W.isClsIn K C_InvalidLetter = true)
    (c8_InvalidLetter : PySem.W.subIn K (.ref C_InvalidLetter) (.ref C_InvalidLetter) = some true)
    (e1_InvalidLetter : K.lookup f_InvalidLetter = some ⟨oc_InvalidLetter, od_InvalidLetter, .func (PySem.W.ksFn "__init__" qual_InvalidLetter (XO.iA "value" p1_InvalidLetter p2_InvalidLetter) (XO.iB "value" msg_InvalidLetter j_InvalidLetter d1_InvalidLetter d2_InvalidLetter d3_InvalidLetter d4_InvalidLetter d5_InvalidLetter d6_InvalidLetter q1_InvalidLetter q2_InvalidLetter q3_InvalidLetter q4_InvalidLetter) (XO.iS "value") .none .none doc_InvalidLetter pm_InvalidLetter an_InvalidLetter (.ref cda_InvalidLetter) ct_InvalidLetter cc_InvalidLetter), osl_InvalidLetter⟩)
    (e2_InvalidLetter : PySem.W.codeIn K (.ref cda_InvalidLetter) qual_InvalidLetter = true)
    (e3_InvalidLetter : K.lookup cc_InvalidLetter = some ⟨cl_InvalidLetter, cld_InvalidLetter, .cell (some (.ref C_InvalidLetter)), csl_InvalidLetter⟩)
    (e4_InvalidLetter : K.lookup cda_InvalidLetter = some ⟨ccl_InvalidLetter, cdd_InvalidLetter, .fields vs_InvalidLetter, ccs_InvalidLetter⟩)
    (e5_InvalidLetter : vs_InvalidLetter[2]? = some (.str file_InvalidLetter tf_InvalidLetter))
    (e6_InvalidLetter : (P.main.file == file_InvalidLetter) = true)
    (e7_InvalidLetter : (d3_InvalidLetter.endLine == d5_InvalidLetter.line) = true)
    (a1_InvalidName : PySem.W.nsIn K mainGlobals "InvalidName" = some (some (.ref C_InvalidName)))
    (a2_InvalidName : PySem.W.findIn K (.ref C_InvalidName) "__init__" = some (some (.ref f_InvalidName)))
    (b1_InvalidName : K.lookup C_InvalidName = some (PySem.excClassObj nm_InvalidName q_InvalidName C_InvalidName N_InvalidName bs_InvalidName bm_InvalidName true sn_InvalidName sub_InvalidName ab_InvalidName col_InvalidName dd_InvalidName k0_InvalidName k1_InvalidName k2_InvalidName k3_InvalidName k5_InvalidName "ValueError.__new__"))
    (b2_InvalidName : PySem.W.excTail [.type "ValueError", .type "Exception", .type "BaseException", .type "object"] bm_InvalidName = true)
    (b3_InvalidName : PySem.W.findIn K (.ref C_InvalidName) "__setattr__" = some (some (.builtin "object.__setattr__")))
    (b4_InvalidName : PySem.W.findIn K (.ref C_InvalidName) "__getattribute__" = some (some (.builtin "BaseException.__getattribute__")))
    (b5_InvalidName : PySem.W.findIn K (.ref C_InvalidName) "__getattr__" = some none)
    (b6_InvalidName : PySem.W.findIn K (.ref C_InvalidName) "value" = some none)
    (b7_InvalidName : PySem.W.typeIn K (.ref f_InvalidName) = some (.type "function"))
    (b8_InvalidName : PySem.W.keepIn K (.ref C_InvalidName) = true)
    (b9_InvalidName : PySem.W.subIn K (.ref C_InvalidName) (.type "BaseException") = some true)
    (c1_InvalidName : PySem.W.typeIn K (.ref C_InvalidName) = some (.type "type"))
    (c2_InvalidName : PySem.W.hasDictIn K C_InvalidName = true)
    (c3_InvalidName : PySem.W.subIn K (.ref C_InvalidName) (.type "ValueError") = some true)
    (c4_InvalidName : PySem.W.mroIn K C_InvalidName (.ref C_InvalidName) = some true)
    (c5_InvalidName : PySem.W.nsIn K cStatics "thirdparty.any" = some none)
    (c6_InvalidName : PySem.W.ks_superIn K C_InvalidName C_InvalidName "__init__" = some (some (.builtin "ValueError.__init__")))
    (c7_InvalidName : PySem.W.isClsIn K C_InvalidName = true)
    (c8_InvalidName : PySem.W.subIn K (.ref C_InvalidName) (.ref C_InvalidName) = some true)
    (e1_InvalidName : K.lookup f_InvalidName = some ⟨oc_InvalidName, od_InvalidName, .func (PySem.W.ksFn "__init__" qual_InvalidName (XO.iA "value" p1_InvalidName p2_InvalidName) (XO.iB "value" msg_InvalidName j_InvalidName d1_InvalidName d2_InvalidName d3_InvalidName d4_InvalidName d5_InvalidName d6_InvalidName q1_InvalidName q2_InvalidName q3_InvalidName q4_InvalidName) (XO.iS "value") .none .none doc_InvalidName pm_InvalidName an_InvalidName (.ref cda_InvalidName) ct_InvalidName cc_InvalidName), osl_InvalidName⟩)
    (e2_InvalidName : PySem.W.codeIn K (.ref cda_InvalidName) qual_InvalidName = true)
    (e3_InvalidName : K.lookup cc_InvalidName = some ⟨cl_InvalidName, cld_InvalidName, .cell (some (.ref C_InvalidName)), csl_InvalidName⟩)
    (e4_InvalidName : K.lookup cda_InvalidName = some ⟨ccl_InvalidName, cdd_InvalidName, .fields vs_InvalidName, ccs_InvalidName⟩)
    (e5_InvalidName : vs_InvalidName[2]? = some (.str file_InvalidName tf_InvalidName))
    (e6_InvalidName : (P.main.file == file_InvalidName) = true)
    (e7_InvalidName : (d3_InvalidName.endLine == d5_InvalidName.line) = true)
    (a1_InvalidPart : PySem.W.nsIn K mainGlobals "InvalidPart" = some (some (.ref C_InvalidPart)))
    (a2_InvalidPart : PySem.W.findIn K (.ref C_InvalidPart) "__init__" = some (some (.ref f_InvalidPart)))
    (b1_InvalidPart : K.lookup C_InvalidPart = some (PySem.excClassObj nm_InvalidPart q_InvalidPart C_InvalidPart N_InvalidPart bs_InvalidPart bm_InvalidPart true sn_InvalidPart sub_InvalidPart ab_InvalidPart col_InvalidPart dd_InvalidPart k0_InvalidPart k1_InvalidPart k2_InvalidPart k3_InvalidPart k5_InvalidPart "ValueError.__new__"))
    (b2_InvalidPart : PySem.W.excTail [.type "ValueError", .type "Exception", .type "BaseException", .type "object"] bm_InvalidPart = true)
    (b3_InvalidPart : PySem.W.findIn K (.ref C_InvalidPart) "__setattr__" = some (some (.builtin "object.__setattr__")))
    (b4_InvalidPart : PySem.W.findIn K (.ref C_InvalidPart) "__getattribute__" = some (some (.builtin "BaseException.__getattribute__")))
    (b5_InvalidPart : PySem.W.findIn K (.ref C_InvalidPart) "__getattr__" = some none)
    (b6_InvalidPart : PySem.W.findIn K (.ref C_InvalidPart) "value" = some none)
    (b7_InvalidPart : PySem.W.typeIn K (.ref f_InvalidPart) = some (.type "function"))
    (b8_InvalidPart : PySem.W.keepIn K (.ref C_InvalidPart) = true)
    (b9_InvalidPart : PySem.W.subIn K (.ref C_InvalidPart) (.type "BaseException") = some true)
    (c1_InvalidPart : PySem.W.typeIn K (.ref C_InvalidPart) = some (.type "type"))
    (c2_InvalidPart : PySem.W.hasDictIn K C_InvalidPart = true)
    (c3_InvalidPart : PySem.W.subIn K (.ref C_InvalidPart) (.type "ValueError") = some true)
    (c4_InvalidPart : PySem.W.mroIn K C_InvalidPart (.ref C_InvalidPart) = some true)
    (c5_InvalidPart : PySem.W.nsIn K cStatics "thirdparty.any" = some none)
    (c6_InvalidPart : PySem.W.ks_superIn K C_InvalidPart C_InvalidPart "__init__" = some (some (.builtin "ValueError.__init__")))
    (c7_InvalidPart : PySem.W.isClsIn K C_InvalidPart = true)
    (c8_InvalidPart : PySem.W.subIn K (.ref C_InvalidPart) (.ref C_InvalidPart) = some true)
    (e1_InvalidPart : K.lookup f_InvalidPart = some ⟨oc_InvalidPart, od_InvalidPart, .func (PySem.W.ksFn "__init__" qual_InvalidPart (XO.iA "value" p1_InvalidPart p2_InvalidPart) (XO.iB "value" msg_InvalidPart j_InvalidPart d1_InvalidPart d2_InvalidPart d3_InvalidPart d4_InvalidPart d5_InvalidPart d6_InvalidPart q1_InvalidPart q2_InvalidPart q3_InvalidPart q4_InvalidPart) (XO.iS "value") .none .none doc_InvalidPart pm_InvalidPart an_InvalidPart (.ref cda_InvalidPart) ct_InvalidPart cc_InvalidPart), osl_InvalidPart⟩)
    (e2_InvalidPart : PySem.W.codeIn K (.ref cda_InvalidPart) qual_InvalidPart = true)
    (e3_InvalidPart : K.lookup cc_InvalidPart = some ⟨cl_InvalidPart, cld_InvalidPart, .cell (some (.ref C_InvalidPart)), csl_InvalidPart⟩)
    (e4_InvalidPart : K.lookup cda_InvalidPart = some ⟨ccl_InvalidPart, cdd_InvalidPart, .fields vs_InvalidPart, ccs_InvalidPart⟩)
    (e5_InvalidPart : vs_InvalidPart[2]? = some (.str file_InvalidPart tf_InvalidPart))
    (e6_InvalidPart : (P.main.file == file_InvalidPart) = true)
    (e7_InvalidPart : (d3_InvalidPart.endLine == d5_InvalidPart.line) = true)
    (a1_InvalidStep : PySem.W.nsIn K mainGlobals "InvalidStep" = some (some (.ref C_InvalidStep)))
    (a2_InvalidStep : PySem.W.findIn K (.ref C_InvalidStep) "__init__" = some (some (.ref f_InvalidStep)))
    (b1_InvalidStep : K.lookup C_InvalidStep = some (PySem.excClassObj nm_InvalidStep q_InvalidStep C_InvalidStep N_InvalidStep bs_InvalidStep bm_InvalidStep true sn_InvalidStep sub_InvalidStep ab_InvalidStep col_InvalidStep dd_InvalidStep k0_InvalidStep k1_InvalidStep k2_InvalidStep k3_InvalidStep k5_InvalidStep "ValueError.__new__"))
    (b2_InvalidStep : PySem.W.excTail [.type "ValueError", .type "Exception", .type "BaseException", .type "object"] bm_InvalidStep = true)
    (b3_InvalidStep : PySem.W.findIn K (.ref C_InvalidStep) "__setattr__" = some (some (.builtin "object.__setattr__")))
    (b4_InvalidStep : PySem.W.findIn K (.ref C_InvalidStep) "__getattribute__" = some (some (.builtin "BaseException.__getattribute__")))
    (b5_InvalidStep : PySem.W.findIn K (.ref C_InvalidStep) "__getattr__" = some none)
    (b6_InvalidStep : PySem.W.findIn K (.ref C_InvalidStep) "value" = some none)
    (b7_InvalidStep : PySem.W.typeIn K (.ref f_InvalidStep) = some (.type "function"))
    (b8_InvalidStep : PySem.W.keepIn K (.ref C_InvalidStep) = true)
    (b9_InvalidStep : PySem.W.subIn K (.ref C_InvalidStep) (.type "BaseException") = some true)
    (c1_InvalidStep : PySem.W.typeIn K (.ref C_InvalidStep) = some (.type "type"))
    (c2_InvalidStep : PySem.W.hasDictIn K C_InvalidStep = true)
    (c3_InvalidStep : PySem.W.subIn K (.ref C_InvalidStep) (.type "ValueError") = some true)
    (c4_InvalidStep : PySem.W.mroIn K C_InvalidStep (.ref C_InvalidStep) = some true)
    (c5_InvalidStep : PySem.W.nsIn K cStatics "thirdparty.any" = some none)
    (c6_InvalidStep : PySem.W.ks_superIn K C_InvalidStep C_InvalidStep "__init__" = some (some (.builtin "ValueError.__init__")))
    (c7_InvalidStep : PySem.W.isClsIn K C_InvalidStep = true)
    (c8_InvalidStep : PySem.W.subIn K (.ref C_InvalidStep) (.ref C_InvalidStep) = some true)
    (e1_InvalidStep : K.lookup f_InvalidStep = some ⟨oc_InvalidStep, od_InvalidStep, .func (PySem.W.ksFn "__init__" qual_InvalidStep (XO.iA "value" p1_InvalidStep p2_InvalidStep) (XO.iB "value" msg_InvalidStep j_InvalidStep d1_InvalidStep d2_InvalidStep d3_InvalidStep d4_InvalidStep d5_InvalidStep d6_InvalidStep q1_InvalidStep q2_InvalidStep q3_InvalidStep q4_InvalidStep) (XO.iS "value") .none .none doc_InvalidStep pm_InvalidStep an_InvalidStep (.ref cda_InvalidStep) ct_InvalidStep cc_InvalidStep), osl_InvalidStep⟩)
    (e2_InvalidStep : PySem.W.codeIn K (.ref cda_InvalidStep) qual_InvalidStep = true)
    (e3_InvalidStep : K.lookup cc_InvalidStep = some ⟨cl_InvalidStep, cld_InvalidStep, .cell (some (.ref C_InvalidStep)), csl_InvalidStep⟩)
    (e4_InvalidStep : K.lookup cda_InvalidStep = some ⟨ccl_InvalidStep, cdd_InvalidStep, .fields vs_InvalidStep, ccs_InvalidStep⟩)
    (e5_InvalidStep : vs_InvalidStep[2]? = some (.str file_InvalidStep tf_InvalidStep))
    (e6_InvalidStep : (P.main.file == file_InvalidStep) = true)
    (e7_InvalidStep : (d3_InvalidStep.endLine == d5_InvalidStep.line) = true)
    (a1_UnknownCost : PySem.W.nsIn K mainGlobals "UnknownCost" = some (some (.ref C_UnknownCost)))
    (a2_UnknownCost : PySem.W.findIn K (.ref C_UnknownCost) "__init__" = some (some (.ref f_UnknownCost)))
    (b1_UnknownCost : K.lookup C_UnknownCost = some (PySem.excClassObj nm_UnknownCost q_UnknownCost C_UnknownCost N_UnknownCost bs_UnknownCost bm_UnknownCost true sn_UnknownCost sub_UnknownCost ab_UnknownCost col_UnknownCost dd_UnknownCost k0_UnknownCost k1_UnknownCost k2_UnknownCost k3_UnknownCost k5_UnknownCost "LookupError.__new__"))
    (b2_UnknownCost : PySem.W.excTail [.type "KeyError", .type "LookupError", .type "Exception", .type "BaseException", .type "object"] bm_UnknownCost = true)
    (b3_UnknownCost : PySem.W.findIn K (.ref C_UnknownCost) "__setattr__" = some (some (.builtin "object.__setattr__")))
    (b4_UnknownCost : PySem.W.findIn K (.ref C_UnknownCost) "__getattribute__" = some (some (.builtin "BaseException.__getattribute__")))
    (b5_UnknownCost : PySem.W.findIn K (.ref C_UnknownCost) "__getattr__" = some none)
    (b6_UnknownCost : PySem.W.findIn K (.ref C_UnknownCost) "label" = some none)
    (b7_UnknownCost : PySem.W.typeIn K (.ref f_UnknownCost) = some (.type "function"))
    (b8_UnknownCost : PySem.W.keepIn K (.ref C_UnknownCost) = true)
    (b9_UnknownCost : PySem.W.subIn K (.ref C_UnknownCost) (.type "BaseException") = some true)
    (c1_UnknownCost : PySem.W.typeIn K (.ref C_UnknownCost) = some (.type "type"))
    (c2_UnknownCost : PySem.W.hasDictIn K C_UnknownCost = true)
    (c3_UnknownCost : PySem.W.subIn K (.ref C_UnknownCost) (.type "KeyError") = some true)
    (c4_UnknownCost : PySem.W.mroIn K C_UnknownCost (.ref C_UnknownCost) = some true)
    (c5_UnknownCost : PySem.W.nsIn K cStatics "thirdparty.any" = some none)
    (c6_UnknownCost : PySem.W.ks_superIn K C_UnknownCost C_UnknownCost "__init__" = some (some (.builtin "KeyError.__init__")))
    (c7_UnknownCost : PySem.W.isClsIn K C_UnknownCost = true)
    (c8_UnknownCost : PySem.W.subIn K (.ref C_UnknownCost) (.ref C_UnknownCost) = some true)
    (e1_UnknownCost : K.lookup f_UnknownCost = some ⟨oc_UnknownCost, od_UnknownCost, .func (PySem.W.ksFn "__init__" qual_UnknownCost (XO.iA "label" p1_UnknownCost p2_UnknownCost) (XO.iB "label" msg_UnknownCost j_UnknownCost d1_UnknownCost d2_UnknownCost d3_UnknownCost d4_UnknownCost d5_UnknownCost d6_UnknownCost q1_UnknownCost q2_UnknownCost q3_UnknownCost q4_UnknownCost) (XO.iS "label") .none .none doc_UnknownCost pm_UnknownCost an_UnknownCost (.ref cda_UnknownCost) ct_UnknownCost cc_UnknownCost), osl_UnknownCost⟩)
    (e2_UnknownCost : PySem.W.codeIn K (.ref cda_UnknownCost) qual_UnknownCost = true)
    (e3_UnknownCost : K.lookup cc_UnknownCost = some ⟨cl_UnknownCost, cld_UnknownCost, .cell (some (.ref C_UnknownCost)), csl_UnknownCost⟩)
    (e4_UnknownCost : K.lookup cda_UnknownCost = some ⟨ccl_UnknownCost, cdd_UnknownCost, .fields vs_UnknownCost, ccs_UnknownCost⟩)
    (e5_UnknownCost : vs_UnknownCost[2]? = some (.str file_UnknownCost tf_UnknownCost))
    (e6_UnknownCost : (P.main.file == file_UnknownCost) = true)
    (e7_UnknownCost : (d3_UnknownCost.endLine == d5_UnknownCost.line) = true)
    (sup_top : (P.main.scope.names.lookup ("super" : Str)).isSome = false)
    (z_super : PySem.W.nsIn K mainGlobals "super" = some none)
    (x_STEPS_ALONE : PySem.W.nsIn K mainGlobals "STEPS_ALONE" = some (some (.ref a_STEPS_ALONE))) (l_STEPS_ALONE : K.lookup a_STEPS_ALONE = some ⟨.type "tuple", od_STEPS_ALONE, .seq #[.str "keep" t0_STEPS_ALONE, .str "drop" t1_STEPS_ALONE, .str "turn" t2_STEPS_ALONE] n_STEPS_ALONE, sl_STEPS_ALONE⟩)
    (x_STEPS_WITH_LETTER : PySem.W.nsIn K mainGlobals "STEPS_WITH_LETTER" = some (some (.ref a_STEPS_WITH_LETTER))) (l_STEPS_WITH_LETTER : K.lookup a_STEPS_WITH_LETTER = some ⟨.type "tuple", od_STEPS_WITH_LETTER, .seq #[.str "add" t0_STEPS_WITH_LETTER, .str "swap" t1_STEPS_WITH_LETTER] n_STEPS_WITH_LETTER, sl_STEPS_WITH_LETTER⟩)
    (k1_Scheme : PySem.W.nsIn K mainGlobals "Scheme" = some (some (.ref C_Scheme)))
    (k2_Scheme : PySem.W.findIn K (.ref C_Scheme) "__init__" = some (some (.ref fi_Scheme)))
    (k3_Scheme : PySem.W.plainGet K C_Scheme Str.empty = true)
    (k4_Scheme : PySem.W.hasDictIn K C_Scheme = true)
    (k5_Scheme : PySem.W.plainOver K C_Scheme = true)
    (k6_Scheme : PySem.W.findIn K (.ref C_Scheme) "__setattr__" = some (some (.builtin "object.__setattr__")))
    (k7_Scheme : PySem.W.makesIn K C_Scheme = true)
    (k8_Scheme : PySem.W.isFn K (.ref fi_Scheme) = true)
    (k9_Scheme : PySem.W.keepIn K (.ref C_Scheme) = true)
    (k0_Scheme : PySem.W.keepIn K (.ref fi_Scheme) = true)
    (na_costs_Scheme : PySem.W.findIn K (.ref C_Scheme) "_costs" = some none)
    (na_add_Scheme : PySem.W.findIn K (.ref C_Scheme) "_add" = some none)
    (na_drop_Scheme : PySem.W.findIn K (.ref C_Scheme) "_drop" = some none)
    (na_swap_Scheme : PySem.W.findIn K (.ref C_Scheme) "_swap" = some none)
    (na_groups_Scheme : PySem.W.findIn K (.ref C_Scheme) "_groups" = some none)
    (na_turn_Scheme : PySem.W.findIn K (.ref C_Scheme) "_turn" = some none)
    (li_Scheme : K.lookup fi_Scheme = some ⟨oc_Scheme, od_Scheme, .func (PySem.W.fnOf "__init__" "Scheme.__init__" (defArgs s_Scheme_init) (defBody s_Scheme_init) (defScope s_Scheme_init) .none (.ref kD_Scheme) dc_Scheme pm_Scheme an_Scheme cd_Scheme ct_Scheme), sl_Scheme⟩)
    (ci_Scheme : PySem.W.codeIn K cd_Scheme "Scheme.__init__" = true)
    (cl1_Scheme : PySem.W.findIn K (.ref C_Scheme) "__class__" = some (some (.builtin "object.__class__")))
    (cl2_Scheme : PySem.W.specialIn K (.builtin "object.__class__") "__get__" = some (some (.builtin "getset_descriptor.__get__")))
    (cl3_Scheme : PySem.W.takesIn K (.builtin "object.__class__") = some true)
    (cl4_Scheme : PySem.W.mroIn K C_Scheme (.type "object") = some true)
    (cl5_Scheme : PySem.W.isClsIn K C_Scheme = true)
    (cl6_Scheme : PySem.W.typeIn K (.ref C_Scheme) = some (.type "type"))
    (cl7_Scheme : PySem.W.findIn K (.ref C_Scheme) "__ne__" = some (some (.builtin "object.__ne__")))
    (caNoneType_Scheme : PySem.W.subIn K (.type "NoneType") (.ref C_Scheme) = some false)
    (ccNoneType_Scheme : PySem.W.notFirst K C_Scheme (.type "NoneType") = true)
    (cabool_Scheme : PySem.W.subIn K (.type "bool") (.ref C_Scheme) = some false)
    (ccbool_Scheme : PySem.W.notFirst K C_Scheme (.type "bool") = true)
    (caint_Scheme : PySem.W.subIn K (.type "int") (.ref C_Scheme) = some false)
    (ccint_Scheme : PySem.W.notFirst K C_Scheme (.type "int") = true)
    (castr_Scheme : PySem.W.subIn K (.type "str") (.ref C_Scheme) = some false)
    (ccstr_Scheme : PySem.W.notFirst K C_Scheme (.type "str") = true)
    (calist_Scheme : PySem.W.subIn K (.type "list") (.ref C_Scheme) = some false)
    (cclist_Scheme : PySem.W.notFirst K C_Scheme (.type "list") = true)
    (catuple_Scheme : PySem.W.subIn K (.type "tuple") (.ref C_Scheme) = some false)
    (cctuple_Scheme : PySem.W.notFirst K C_Scheme (.type "tuple") = true)
    (cadict_Scheme : PySem.W.subIn K (.type "dict") (.ref C_Scheme) = some false)
    (ccdict_Scheme : PySem.W.notFirst K C_Scheme (.type "dict") = true)
    (cbstr_Scheme : PySem.W.subIn K (.ref C_Scheme) (.type "str") = some false)
    (cbint_Scheme : PySem.W.subIn K (.ref C_Scheme) (.type "int") = some false)
    (cbbool_Scheme : PySem.W.subIn K (.ref C_Scheme) (.type "bool") = some false)
    (cblist_Scheme : PySem.W.subIn K (.ref C_Scheme) (.type "list") = some false)
    (cbtuple_Scheme : PySem.W.subIn K (.ref C_Scheme) (.type "tuple") = some false)
    (cbdict_Scheme : PySem.W.subIn K (.ref C_Scheme) (.type "dict") = some false)
    (pacosts_Scheme : PySem.W.findIn K (.ref C_Scheme) "costs" = some (some (.ref pa_Scheme_costs)))
    (pbcosts_Scheme : PySem.W.specialIn K (.ref pa_Scheme_costs) "__get__" = some (some (.builtin "property.__get__")))
    (pccosts_Scheme : PySem.W.takesIn K (.ref pa_Scheme_costs) = some true)
    (pdcosts_Scheme : PySem.W.recIn K pa_Scheme_costs "property" = some (.ref fp_Scheme_costs :: rs_Scheme_costs))
    (pecosts_Scheme : K.lookup fp_Scheme_costs = some ⟨oc_Scheme_costs, od_Scheme_costs, .func (PySem.W.fnOf "costs" "Scheme.costs" (defArgs s_prop_Scheme_costs) (defBody s_prop_Scheme_costs) (defScope s_prop_Scheme_costs) .none kV_Scheme_costs dc_Scheme_costs pm_Scheme_costs an_Scheme_costs cd_Scheme_costs ct_Scheme_costs), sl_Scheme_costs⟩)
    (pfcosts_Scheme : PySem.W.codeIn K cd_Scheme_costs "Scheme.costs" = true)
    (pacost_to_add_Scheme : PySem.W.findIn K (.ref C_Scheme) "cost_to_add" = some (some (.ref pa_Scheme_cost_to_add)))
    (pbcost_to_add_Scheme : PySem.W.specialIn K (.ref pa_Scheme_cost_to_add) "__get__" = some (some (.builtin "property.__get__")))
    (pccost_to_add_Scheme : PySem.W.takesIn K (.ref pa_Scheme_cost_to_add) = some true)
    (pdcost_to_add_Scheme : PySem.W.recIn K pa_Scheme_cost_to_add "property" = some (.ref fp_Scheme_cost_to_add :: rs_Scheme_cost_to_add))
    (pecost_to_add_Scheme : K.lookup fp_Scheme_cost_to_add = some ⟨oc_Scheme_cost_to_add, od_Scheme_cost_to_add, .func (PySem.W.fnOf "cost_to_add" "Scheme.cost_to_add" (defArgs s_prop_Scheme_cost_to_add) (defBody s_prop_Scheme_cost_to_add) (defScope s_prop_Scheme_cost_to_add) .none kV_Scheme_cost_to_add dc_Scheme_cost_to_add pm_Scheme_cost_to_add an_Scheme_cost_to_add cd_Scheme_cost_to_add ct_Scheme_cost_to_add), sl_Scheme_cost_to_add⟩)
    (pfcost_to_add_Scheme : PySem.W.codeIn K cd_Scheme_cost_to_add "Scheme.cost_to_add" = true)
    (pacost_to_drop_Scheme : PySem.W.findIn K (.ref C_Scheme) "cost_to_drop" = some (some (.ref pa_Scheme_cost_to_drop)))
    (pbcost_to_drop_Scheme : PySem.W.specialIn K (.ref pa_Scheme_cost_to_drop) "__get__" = some (some (.builtin "property.__get__")))
    (pccost_to_drop_Scheme : PySem.W.takesIn K (.ref pa_Scheme_cost_to_drop) = some true)
    (pdcost_to_drop_Scheme : PySem.W.recIn K pa_Scheme_cost_to_drop "property" = some (.ref fp_Scheme_cost_to_drop :: rs_Scheme_cost_to_drop))
    (pecost_to_drop_Scheme : K.lookup fp_Scheme_cost_to_drop = some ⟨oc_Scheme_cost_to_drop, od_Scheme_cost_to_drop, .func (PySem.W.fnOf "cost_to_drop" "Scheme.cost_to_drop" (defArgs s_prop_Scheme_cost_to_drop) (defBody s_prop_Scheme_cost_to_drop) (defScope s_prop_Scheme_cost_to_drop) .none kV_Scheme_cost_to_drop dc_Scheme_cost_to_drop pm_Scheme_cost_to_drop an_Scheme_cost_to_drop cd_Scheme_cost_to_drop ct_Scheme_cost_to_drop), sl_Scheme_cost_to_drop⟩)
    (pfcost_to_drop_Scheme : PySem.W.codeIn K cd_Scheme_cost_to_drop "Scheme.cost_to_drop" = true)
    (pacost_to_swap_Scheme : PySem.W.findIn K (.ref C_Scheme) "cost_to_swap" = some (some (.ref pa_Scheme_cost_to_swap)))
    (pbcost_to_swap_Scheme : PySem.W.specialIn K (.ref pa_Scheme_cost_to_swap) "__get__" = some (some (.builtin "property.__get__")))
    (pccost_to_swap_Scheme : PySem.W.takesIn K (.ref pa_Scheme_cost_to_swap) = some true)
    (pdcost_to_swap_Scheme : PySem.W.recIn K pa_Scheme_cost_to_swap "property" = some (.ref fp_Scheme_cost_to_swap :: rs_Scheme_cost_to_swap))
    (pecost_to_swap_Scheme : K.lookup fp_Scheme_cost_to_swap = some ⟨oc_Scheme_cost_to_swap, od_Scheme_cost_to_swap, .func (PySem.W.fnOf "cost_to_swap" "Scheme.cost_to_swap" (defArgs s_prop_Scheme_cost_to_swap) (defBody s_prop_Scheme_cost_to_swap) (defScope s_prop_Scheme_cost_to_swap) .none kV_Scheme_cost_to_swap dc_Scheme_cost_to_swap pm_Scheme_cost_to_swap an_Scheme_cost_to_swap cd_Scheme_cost_to_swap ct_Scheme_cost_to_swap), sl_Scheme_cost_to_swap⟩)
    (pfcost_to_swap_Scheme : PySem.W.codeIn K cd_Scheme_cost_to_swap "Scheme.cost_to_swap" = true)
    (pagroups_Scheme : PySem.W.findIn K (.ref C_Scheme) "groups" = some (some (.ref pa_Scheme_groups)))
    (pbgroups_Scheme : PySem.W.specialIn K (.ref pa_Scheme_groups) "__get__" = some (some (.builtin "property.__get__")))
    (pcgroups_Scheme : PySem.W.takesIn K (.ref pa_Scheme_groups) = some true)
    (pdgroups_Scheme : PySem.W.recIn K pa_Scheme_groups "property" = some (.ref fp_Scheme_groups :: rs_Scheme_groups))
    (pegroups_Scheme : K.lookup fp_Scheme_groups = some ⟨oc_Scheme_groups, od_Scheme_groups, .func (PySem.W.fnOf "groups" "Scheme.groups" (defArgs s_prop_Scheme_groups) (defBody s_prop_Scheme_groups) (defScope s_prop_Scheme_groups) .none kV_Scheme_groups dc_Scheme_groups pm_Scheme_groups an_Scheme_groups cd_Scheme_groups ct_Scheme_groups), sl_Scheme_groups⟩)
    (pfgroups_Scheme : PySem.W.codeIn K cd_Scheme_groups "Scheme.groups" = true)
    (pacost_to_turn_Scheme : PySem.W.findIn K (.ref C_Scheme) "cost_to_turn" = some (some (.ref pa_Scheme_cost_to_turn)))
    (pbcost_to_turn_Scheme : PySem.W.specialIn K (.ref pa_Scheme_cost_to_turn) "__get__" = some (some (.builtin "property.__get__")))
    (pccost_to_turn_Scheme : PySem.W.takesIn K (.ref pa_Scheme_cost_to_turn) = some true)
    (pdcost_to_turn_Scheme : PySem.W.recIn K pa_Scheme_cost_to_turn "property" = some (.ref fp_Scheme_cost_to_turn :: rs_Scheme_cost_to_turn))
    (pecost_to_turn_Scheme : K.lookup fp_Scheme_cost_to_turn = some ⟨oc_Scheme_cost_to_turn, od_Scheme_cost_to_turn, .func (PySem.W.fnOf "cost_to_turn" "Scheme.cost_to_turn" (defArgs s_prop_Scheme_cost_to_turn) (defBody s_prop_Scheme_cost_to_turn) (defScope s_prop_Scheme_cost_to_turn) .none kV_Scheme_cost_to_turn dc_Scheme_cost_to_turn pm_Scheme_cost_to_turn an_Scheme_cost_to_turn cd_Scheme_cost_to_turn ct_Scheme_cost_to_turn), sl_Scheme_cost_to_turn⟩)
    (pfcost_to_turn_Scheme : PySem.W.codeIn K cd_Scheme_cost_to_turn "Scheme.cost_to_turn" = true)
    (kd1_Scheme : PySem.W.nsIn K kD_Scheme "groups" = some (some (.ref aT_Scheme)))
    (kd2_Scheme : PySem.W.nsIn K kD_Scheme "turn" = some (some .none))
    (kd3_Scheme : K.lookup aT_Scheme = some ⟨.type "tuple", odT0_Scheme, .seq #[] nT0_Scheme, slT0_Scheme⟩)
    (m1__len___Scheme : PySem.W.findIn K (.ref C_Scheme) "__len__" = some (some (.ref fm_Scheme___len__)))
    (m2__len___Scheme : PySem.W.isFn K (.ref fm_Scheme___len__) = true)
    (m3__len___Scheme : PySem.W.keepIn K (.ref fm_Scheme___len__) = true)
    (m4__len___Scheme : K.lookup fm_Scheme___len__ = some ⟨oc_Scheme___len__, od_Scheme___len__, .func (PySem.W.fnOf "__len__" "Scheme.__len__" (defArgs s_Scheme___len__) (defBody s_Scheme___len__) (defScope s_Scheme___len__) .none kV_Scheme___len__ dc_Scheme___len__ pm_Scheme___len__ an_Scheme___len__ cd_Scheme___len__ ct_Scheme___len__), sl_Scheme___len__⟩)
    (m5__len___Scheme : PySem.W.codeIn K cd_Scheme___len__ "Scheme.__len__" = true)
    (m1__contains___Scheme : PySem.W.findIn K (.ref C_Scheme) "__contains__" = some (some (.ref fm_Scheme___contains__)))
    (m2__contains___Scheme : PySem.W.isFn K (.ref fm_Scheme___contains__) = true)
    (m3__contains___Scheme : PySem.W.keepIn K (.ref fm_Scheme___contains__) = true)
    (m4__contains___Scheme : K.lookup fm_Scheme___contains__ = some ⟨oc_Scheme___contains__, od_Scheme___contains__, .func (PySem.W.fnOf "__contains__" "Scheme.__contains__" (defArgs s_Scheme___contains__) (defBody s_Scheme___contains__) (defScope s_Scheme___contains__) .none kV_Scheme___contains__ dc_Scheme___contains__ pm_Scheme___contains__ an_Scheme___contains__ cd_Scheme___contains__ ct_Scheme___contains__), sl_Scheme___contains__⟩)
    (m5__contains___Scheme : PySem.W.codeIn K cd_Scheme___contains__ "Scheme.__contains__" = true)
    (m1__eq___Scheme : PySem.W.findIn K (.ref C_Scheme) "__eq__" = some (some (.ref fm_Scheme___eq__)))
    (m2__eq___Scheme : PySem.W.isFn K (.ref fm_Scheme___eq__) = true)
    (m3__eq___Scheme : PySem.W.keepIn K (.ref fm_Scheme___eq__) = true)
    (m4__eq___Scheme : K.lookup fm_Scheme___eq__ = some ⟨oc_Scheme___eq__, od_Scheme___eq__, .func (PySem.W.fnOf "__eq__" "Scheme.__eq__" (defArgs s_Scheme___eq__) (defBody s_Scheme___eq__) (defScope s_Scheme___eq__) .none kV_Scheme___eq__ dc_Scheme___eq__ pm_Scheme___eq__ an_Scheme___eq__ cd_Scheme___eq__ ct_Scheme___eq__), sl_Scheme___eq__⟩)
    (m5__eq___Scheme : PySem.W.codeIn K cd_Scheme___eq__ "Scheme.__eq__" = true)
    (m1swap_cost_Scheme : PySem.W.findIn K (.ref C_Scheme) "swap_cost" = some (some (.ref fm_Scheme_swap_cost)))
    (m2swap_cost_Scheme : PySem.W.isFn K (.ref fm_Scheme_swap_cost) = true)
    (m3swap_cost_Scheme : PySem.W.keepIn K (.ref fm_Scheme_swap_cost) = true)
    (m4swap_cost_Scheme : K.lookup fm_Scheme_swap_cost = some ⟨oc_Scheme_swap_cost, od_Scheme_swap_cost, .func (PySem.W.fnOf "swap_cost" "Scheme.swap_cost" (defArgs s_Scheme_swap_cost) (defBody s_Scheme_swap_cost) (defScope s_Scheme_swap_cost) .none kV_Scheme_swap_cost dc_Scheme_swap_cost pm_Scheme_swap_cost an_Scheme_swap_cost cd_Scheme_swap_cost ct_Scheme_swap_cost), sl_Scheme_swap_cost⟩)
    (m5swap_cost_Scheme : PySem.W.codeIn K cd_Scheme_swap_cost "Scheme.swap_cost" = true)
    (m1step_cost_Scheme : PySem.W.findIn K (.ref C_Scheme) "step_cost" = some (some (.ref fm_Scheme_step_cost)))
    (m2step_cost_Scheme : PySem.W.isFn K (.ref fm_Scheme_step_cost) = true)
    (m3step_cost_Scheme : PySem.W.keepIn K (.ref fm_Scheme_step_cost) = true)
    (m4step_cost_Scheme : K.lookup fm_Scheme_step_cost = some ⟨oc_Scheme_step_cost, od_Scheme_step_cost, .func (PySem.W.fnOf "step_cost" "Scheme.step_cost" (defArgs s_Scheme_step_cost) (defBody s_Scheme_step_cost) (defScope s_Scheme_step_cost) (.ref dT_Scheme_step_cost) kV_Scheme_step_cost dc_Scheme_step_cost pm_Scheme_step_cost an_Scheme_step_cost cd_Scheme_step_cost ct_Scheme_step_cost), sl_Scheme_step_cost⟩)
    (m5step_cost_Scheme : PySem.W.codeIn K cd_Scheme_step_cost "Scheme.step_cost" = true)
    (mTstep_cost_Scheme : K.lookup dT_Scheme_step_cost = some ⟨.type "tuple", odT_Scheme_step_cost, .seq #[.none] nT_Scheme_step_cost, slT_Scheme_step_cost⟩)
    (z_any : PySem.W.nsIn K mainGlobals "any" = some none) (z_enumerate : PySem.W.nsIn K mainGlobals "enumerate" = some none) (z_isinstance : PySem.W.nsIn K mainGlobals "isinstance" = some none) (z_len : PySem.W.nsIn K mainGlobals "len" = some none) (z_list : PySem.W.nsIn K mainGlobals "list" = some none) (z_max : PySem.W.nsIn K mainGlobals "max" = some none) (z_min : PySem.W.nsIn K mainGlobals "min" = some none) (z_range : PySem.W.nsIn K mainGlobals "range" = some none) (z_reversed : PySem.W.nsIn K mainGlobals "reversed" = some none) (z_set : PySem.W.nsIn K mainGlobals "set" = some none) (z_sorted : PySem.W.nsIn K mainGlobals "sorted" = some none) (z_str : PySem.W.nsIn K mainGlobals "str" = some none) (z_tuple : PySem.W.nsIn K mainGlobals "tuple" = some none) {t_LONGEST_NAME : Tok} (c_LONGEST_NAME : PySem.W.nsIn K mainGlobals "LONGEST_NAME" = some (some (.int 8 t_LONGEST_NAME))) {t_MOST_COSTS : Tok} (c_MOST_COSTS : PySem.W.nsIn K mainGlobals "MOST_COSTS" = some (some (.int 4 t_MOST_COSTS))) :
    ∃ fd : FuncData, (∀ (s : Shared) (u : Value), BindsTo s fd ⟨[u], []⟩ [("_law_script", u)]) ∧ ∀ base : Heap, K.In base → base.Ns mainGlobals mg → FnG P w K mg base CX0 8 fa fd ["_law_script"] (spD K mg (lawFn 63)) := by
  have e := hfa.symm.trans (PySem.W.mg_of X G x_law)
  cases e
  have T : Txt K mg := { z_any := PySem.W.mg_none_of X G z_any, z_enumerate := PySem.W.mg_none_of X G z_enumerate, z_isinstance := PySem.W.mg_none_of X G z_isinstance, z_len := PySem.W.mg_none_of X G z_len, z_list := PySem.W.mg_none_of X G z_list, z_max := PySem.W.mg_none_of X G z_max, z_min := PySem.W.mg_none_of X G z_min, z_range := PySem.W.mg_none_of X G z_range, z_reversed := PySem.W.mg_none_of X G z_reversed, z_set := PySem.W.mg_none_of X G z_set, z_sorted := PySem.W.mg_none_of X G z_sorted, z_str := PySem.W.mg_none_of X G z_str, z_tuple := PySem.W.mg_none_of X G z_tuple, c_LONGEST_NAME := ⟨_, PySem.W.mg_of X G c_LONGEST_NAME⟩, c_MOST_COSTS := ⟨_, PySem.W.mg_of X G c_MOST_COSTS⟩, c_STEPS_ALONE := ⟨_, PySem.W.mg_of X G x_STEPS_ALONE, rp_globT l_STEPS_ALONE rfl rfl (Nat.le_trans (show 3 ≤ 100 by decide) (by rw [sizeLine_eq]; decide)) (.cons ⟨_, rfl⟩ (.cons ⟨_, rfl⟩ (.cons ⟨_, rfl⟩ .nil)))⟩, c_STEPS_WITH_LETTER := ⟨_, PySem.W.mg_of X G x_STEPS_WITH_LETTER, rp_globT l_STEPS_WITH_LETTER rfl rfl (Nat.le_trans (show 2 ≤ 100 by decide) (by rw [sizeLine_eq]; decide)) (.cons ⟨_, rfl⟩ (.cons ⟨_, rfl⟩ .nil))⟩ }
  have XC_Duplicate : XC P K mg "Duplicate" "label" := xc_mk X G XO.base_ValueError XO.bind_label ⟨by decide, by decide, by decide, by decide, by decide⟩ a1_Duplicate a2_Duplicate b1_Duplicate b2_Duplicate b3_Duplicate b4_Duplicate b5_Duplicate b6_Duplicate b7_Duplicate b8_Duplicate b9_Duplicate c1_Duplicate c2_Duplicate c3_Duplicate c4_Duplicate c5_Duplicate c6_Duplicate c7_Duplicate c8_Duplicate e1_Duplicate e2_Duplicate e3_Duplicate e4_Duplicate e5_Duplicate e6_Duplicate e7_Duplicate
  have XC_InvalidGroup : XC P K mg "InvalidGroup" "value" := xc_mk X G XO.base_ValueError XO.bind_value ⟨by decide, by decide, by decide, by decide, by decide⟩ a1_InvalidGroup a2_InvalidGroup b1_InvalidGroup b2_InvalidGroup b3_InvalidGroup b4_InvalidGroup b5_InvalidGroup b6_InvalidGroup b7_InvalidGroup b8_InvalidGroup b9_InvalidGroup c1_InvalidGroup c2_InvalidGroup c3_InvalidGroup c4_InvalidGroup c5_InvalidGroup c6_InvalidGroup c7_InvalidGroup c8_InvalidGroup e1_InvalidGroup e2_InvalidGroup e3_InvalidGroup e4_InvalidGroup e5_InvalidGroup e6_InvalidGroup e7_InvalidGroup
  have XC_InvalidLetter : XC P K mg "InvalidLetter" "value" := xc_mk X G XO.base_ValueError XO.bind_value ⟨by decide, by decide, by decide, by decide, by decide⟩ a1_InvalidLetter a2_InvalidLetter b1_InvalidLetter b2_InvalidLetter b3_InvalidLetter b4_InvalidLetter b5_InvalidLetter b6_InvalidLetter b7_InvalidLetter b8_InvalidLetter b9_InvalidLetter c1_InvalidLetter c2_InvalidLetter c3_InvalidLetter c4_InvalidLetter c5_InvalidLetter c6_InvalidLetter c7_InvalidLetter c8_InvalidLetter e1_InvalidLetter e2_InvalidLetter e3_InvalidLetter e4_InvalidLetter e5_InvalidLetter e6_InvalidLetter e7_InvalidLetter
  have XC_InvalidName : XC P K mg "InvalidName" "value" := xc_mk X G XO.base_ValueError XO.bind_value ⟨by decide, by decide, by decide, by decide, by decide⟩ a1_InvalidName a2_InvalidName b1_InvalidName b2_InvalidName b3_InvalidName b4_InvalidName b5_InvalidName b6_InvalidName b7_InvalidName b8_InvalidName b9_InvalidName c1_InvalidName c2_InvalidName c3_InvalidName c4_InvalidName c5_InvalidName c6_InvalidName c7_InvalidName c8_InvalidName e1_InvalidName e2_InvalidName e3_InvalidName e4_InvalidName e5_InvalidName e6_InvalidName e7_InvalidName
  have XC_InvalidPart : XC P K mg "InvalidPart" "value" := xc_mk X G XO.base_ValueError XO.bind_value ⟨by decide, by decide, by decide, by decide, by decide⟩ a1_InvalidPart a2_InvalidPart b1_InvalidPart b2_InvalidPart b3_InvalidPart b4_InvalidPart b5_InvalidPart b6_InvalidPart b7_InvalidPart b8_InvalidPart b9_InvalidPart c1_InvalidPart c2_InvalidPart c3_InvalidPart c4_InvalidPart c5_InvalidPart c6_InvalidPart c7_InvalidPart c8_InvalidPart e1_InvalidPart e2_InvalidPart e3_InvalidPart e4_InvalidPart e5_InvalidPart e6_InvalidPart e7_InvalidPart
  have XC_InvalidStep : XC P K mg "InvalidStep" "value" := xc_mk X G XO.base_ValueError XO.bind_value ⟨by decide, by decide, by decide, by decide, by decide⟩ a1_InvalidStep a2_InvalidStep b1_InvalidStep b2_InvalidStep b3_InvalidStep b4_InvalidStep b5_InvalidStep b6_InvalidStep b7_InvalidStep b8_InvalidStep b9_InvalidStep c1_InvalidStep c2_InvalidStep c3_InvalidStep c4_InvalidStep c5_InvalidStep c6_InvalidStep c7_InvalidStep c8_InvalidStep e1_InvalidStep e2_InvalidStep e3_InvalidStep e4_InvalidStep e5_InvalidStep e6_InvalidStep e7_InvalidStep
  have XC_UnknownCost : XC P K mg "UnknownCost" "label" := xc_mk X G XO.base_KeyError XO.bind_label ⟨by decide, by decide, by decide, by decide, by decide⟩ a1_UnknownCost a2_UnknownCost b1_UnknownCost b2_UnknownCost b3_UnknownCost b4_UnknownCost b5_UnknownCost b6_UnknownCost b7_UnknownCost b8_UnknownCost b9_UnknownCost c1_UnknownCost c2_UnknownCost c3_UnknownCost c4_UnknownCost c5_UnknownCost c6_UnknownCost c7_UnknownCost c8_UnknownCost e1_UnknownCost e2_UnknownCost e3_UnknownCost e4_UnknownCost e5_UnknownCost e6_UnknownCost e7_UnknownCost
  have SU : Sup P mg := ⟨PySem.W.mg_none_of X G z_super, sup_top⟩
  have FA_is_list : FunAt K mg "is_list" "is_list" s_is_list ["value"] := at_mk X G x_is_list l_is_list c_is_list k_is_list fun _ _ _ _ _ _ us hl => match us, hl with | [_], _ => rfl
  have FA_is_letter : FunAt K mg "is_letter" "is_letter" s_is_letter ["value"] := at_mk X G x_is_letter l_is_letter c_is_letter k_is_letter fun _ _ _ _ _ _ us hl => match us, hl with | [_], _ => rfl
  have FA_is_lettered : FunAt K mg "is_lettered" "is_lettered" s_is_lettered ["value"] := at_mk X G x_is_lettered l_is_lettered c_is_lettered k_is_lettered fun _ _ _ _ _ _ us hl => match us, hl with | [_], _ => rfl
  have FA_check_cost : FunAt K mg "check_cost" "check_cost" s_check_cost ["names", "cost"] := at_mk X G x_check_cost l_check_cost c_check_cost k_check_cost fun _ _ _ _ _ _ us hl => match us, hl with | [_, _], _ => rfl
  have FA__law_cell : FunAt K mg "_law_cell" "_law_cell" s__law_cell ["_law_script", "_law_k"] := at_mk X G x__law_cell l__law_cell c__law_cell k__law_cell fun _ _ _ _ _ _ us hl => match us, hl with | [_, _], _ => rfl
  have FA__law_box : FunAt K mg "_law_box" "_law_box" s__law_box ["_law_cell_here"] := at_mk X G x__law_box l__law_box c__law_box k__law_box fun _ _ _ _ _ _ us hl => match us, hl with | [_], _ => rfl
  have FA__law_take : FunAt K mg "_law_take" "_law_take" s__law_take ["_law_box_here", "_law_many"] := at_mk X G x__law_take l__law_take c__law_take k__law_take fun _ _ _ _ _ _ us hl => match us, hl with | [_, _], _ => rfl
  have FA__law_due_swap : FunAt K mg "_law_due_swap" "_law_due_swap" s__law_due_swap ["_law_model_here", "_law_left", "_law_right"] := at_mk X G x__law_due_swap l__law_due_swap c__law_due_swap k__law_due_swap fun _ _ _ _ _ _ us hl => match us, hl with | [_, _, _], _ => rfl
  have FA__law_with : FunAt K mg "_law_with" "_law_with" s__law_with ["_law_model_here", "_law_at", "_law_thing"] := at_mk X G x__law_with l__law_with c__law_with k__law_with fun _ _ _ _ _ _ us hl => match us, hl with | [_, _, _], _ => rfl
  have FA_is_name : FunAt K mg "is_name" "is_name" s_is_name ["value"] := at_mk X G x_is_name l_is_name c_is_name k_is_name fun _ _ _ _ _ _ us hl => match us, hl with | [_], _ => rfl
  have FA_is_group : FunAt K mg "is_group" "is_group" s_is_group ["value"] := at_mk X G x_is_group l_is_group c_is_group k_is_group fun _ _ _ _ _ _ us hl => match us, hl with | [_], _ => rfl
  have FA_is_step : FunAt K mg "is_step" "is_step" s_is_step ["value"] := at_mk X G x_is_step l_is_step c_is_step k_is_step fun _ _ _ _ _ _ us hl => match us, hl with | [_], _ => rfl
  have FA__law_model : FunAt K mg "_law_model" "_law_model" s__law_model ["_law_box_here"] := at_mk X G x__law_model l__law_model c__law_model k__law_model fun _ _ _ _ _ _ us hl => match us, hl with | [_], _ => rfl
  have FA_check_names : FunAt K mg "check_names" "check_names" s_check_names ["costs"] := at_mk X G x_check_names l_check_names c_check_names k_check_names fun _ _ _ _ _ _ us hl => match us, hl with | [_], _ => rfl
  have FA_checked_groups : FunAt K mg "checked_groups" "checked_groups" s_checked_groups ["names", "groups"] := at_mk X G x_checked_groups l_checked_groups c_checked_groups k_checked_groups fun _ _ _ _ _ _ us hl => match us, hl with | [_, _], _ => rfl
  have FA__law_told_right : FunAt K mg "_law_told_right" "_law_told_right" s__law_told_right ["_law_scheme_here", "_law_model_here"] := at_mk X G x__law_told_right l__law_told_right c__law_told_right k__law_told_right fun _ _ _ _ _ _ us hl => match us, hl with | [_, _], _ => rfl
  have FA__law_steps_right : FunAt K mg "_law_steps_right" "_law_steps_right" s__law_steps_right ["_law_scheme_here", "_law_model_here"] := at_mk X G x__law_steps_right l__law_steps_right c__law_steps_right k__law_steps_right fun _ _ _ _ _ _ us hl => match us, hl with | [_, _], _ => rfl
  have FA__law_scheme : FunAt K mg "_law_scheme" "_law_scheme" s__law_scheme ["_law_model_here"] := at_mk X G x__law_scheme l__law_scheme c__law_scheme k__law_scheme fun _ _ _ _ _ _ us hl => match us, hl with | [_], _ => rfl
  have FA__law_equal_right : FunAt K mg "_law_equal_right" "_law_equal_right" s__law_equal_right ["_law_box_here", "_law_scheme_here", "_law_model_here"] := at_mk X G x__law_equal_right l__law_equal_right c__law_equal_right k__law_equal_right fun _ _ _ _ _ _ us hl => match us, hl with | [_, _, _], _ => rfl
  have KL_Scheme : Kl K mg "Scheme" C_Scheme := ⟨k1_Scheme, PySem.W.mg_of X G k1_Scheme, ⟨k3_Scheme, k4_Scheme, k5_Scheme, k6_Scheme⟩⟩
  have KI_Scheme : KlI K mg "Scheme" C_Scheme := { toKl := KL_Scheme, met := ⟨cl1_Scheme, cl2_Scheme, cl3_Scheme, cl4_Scheme⟩, no := ty7 (kit_no cl5_Scheme cl6_Scheme caNoneType_Scheme) (kit_no cl5_Scheme cl6_Scheme cabool_Scheme) (kit_no cl5_Scheme cl6_Scheme caint_Scheme) (kit_no cl5_Scheme cl6_Scheme castr_Scheme) (kit_no cl5_Scheme cl6_Scheme calist_Scheme) (kit_no cl5_Scheme cl6_Scheme catuple_Scheme) (kit_no cl5_Scheme cl6_Scheme cadict_Scheme) }
  have KT_Scheme : KlT K C_Scheme := ⟨ty6 (kit_no2 (by decide +kernel) cbstr_Scheme) (kit_no2 (by decide +kernel) cbint_Scheme) (kit_no2 (by decide +kernel) cbbool_Scheme) (kit_no2 (by decide +kernel) cblist_Scheme) (kit_no2 (by decide +kernel) cbtuple_Scheme) (kit_no2 (by decide +kernel) cbdict_Scheme)⟩
  have NF_Scheme : ∀ t : String, t = "NoneType" ∨ t = "bool" ∨ t = "int" ∨ t = "str" ∨ t = "list" ∨ t = "tuple" ∨ t = "dict" → PySem.W.notFirst K C_Scheme (.type t) = true := ty7 ccNoneType_Scheme ccbool_Scheme ccint_Scheme ccstr_Scheme cclist_Scheme cctuple_Scheme ccdict_Scheme
  have PR_Scheme_costs : PropAt K C_Scheme "costs" "_costs" := ⟨pa_Scheme_costs, fp_Scheme_costs, PySem.W.fnOf "costs" "Scheme.costs" (defArgs s_prop_Scheme_costs) (defBody s_prop_Scheme_costs) (defScope s_prop_Scheme_costs) .none kV_Scheme_costs dc_Scheme_costs pm_Scheme_costs an_Scheme_costs cd_Scheme_costs ct_Scheme_costs, ⟨pacosts_Scheme, pbcosts_Scheme, pccosts_Scheme, _, pdcosts_Scheme⟩, .all fun us hl => match us, hl with | [_], _ => rfl, fun P w mg base => fn_getter (N := ["self"]) pecosts_Scheme pfcosts_Scheme sc_prop_Scheme_costs rfl rfl ⟨k3_Scheme, k4_Scheme, k5_Scheme, k6_Scheme⟩ na_costs_Scheme⟩
  have PR_Scheme_cost_to_add : PropAt K C_Scheme "cost_to_add" "_add" := ⟨pa_Scheme_cost_to_add, fp_Scheme_cost_to_add, PySem.W.fnOf "cost_to_add" "Scheme.cost_to_add" (defArgs s_prop_Scheme_cost_to_add) (defBody s_prop_Scheme_cost_to_add) (defScope s_prop_Scheme_cost_to_add) .none kV_Scheme_cost_to_add dc_Scheme_cost_to_add pm_Scheme_cost_to_add an_Scheme_cost_to_add cd_Scheme_cost_to_add ct_Scheme_cost_to_add, ⟨pacost_to_add_Scheme, pbcost_to_add_Scheme, pccost_to_add_Scheme, _, pdcost_to_add_Scheme⟩, .all fun us hl => match us, hl with | [_], _ => rfl, fun P w mg base => fn_getter (N := ["self"]) pecost_to_add_Scheme pfcost_to_add_Scheme sc_prop_Scheme_cost_to_add rfl rfl ⟨k3_Scheme, k4_Scheme, k5_Scheme, k6_Scheme⟩ na_add_Scheme⟩
  have PR_Scheme_cost_to_drop : PropAt K C_Scheme "cost_to_drop" "_drop" := ⟨pa_Scheme_cost_to_drop, fp_Scheme_cost_to_drop, PySem.W.fnOf "cost_to_drop" "Scheme.cost_to_drop" (defArgs s_prop_Scheme_cost_to_drop) (defBody s_prop_Scheme_cost_to_drop) (defScope s_prop_Scheme_cost_to_drop) .none kV_Scheme_cost_to_drop dc_Scheme_cost_to_drop pm_Scheme_cost_to_drop an_Scheme_cost_to_drop cd_Scheme_cost_to_drop ct_Scheme_cost_to_drop, ⟨pacost_to_drop_Scheme, pbcost_to_drop_Scheme, pccost_to_drop_Scheme, _, pdcost_to_drop_Scheme⟩, .all fun us hl => match us, hl with | [_], _ => rfl, fun P w mg base => fn_getter (N := ["self"]) pecost_to_drop_Scheme pfcost_to_drop_Scheme sc_prop_Scheme_cost_to_drop rfl rfl ⟨k3_Scheme, k4_Scheme, k5_Scheme, k6_Scheme⟩ na_drop_Scheme⟩
  have PR_Scheme_cost_to_swap : PropAt K C_Scheme "cost_to_swap" "_swap" := ⟨pa_Scheme_cost_to_swap, fp_Scheme_cost_to_swap, PySem.W.fnOf "cost_to_swap" "Scheme.cost_to_swap" (defArgs s_prop_Scheme_cost_to_swap) (defBody s_prop_Scheme_cost_to_swap) (defScope s_prop_Scheme_cost_to_swap) .none kV_Scheme_cost_to_swap dc_Scheme_cost_to_swap pm_Scheme_cost_to_swap an_Scheme_cost_to_swap cd_Scheme_cost_to_swap ct_Scheme_cost_to_swap, ⟨pacost_to_swap_Scheme, pbcost_to_swap_Scheme, pccost_to_swap_Scheme, _, pdcost_to_swap_Scheme⟩, .all fun us hl => match us, hl with | [_], _ => rfl, fun P w mg base => fn_getter (N := ["self"]) pecost_to_swap_Scheme pfcost_to_swap_Scheme sc_prop_Scheme_cost_to_swap rfl rfl ⟨k3_Scheme, k4_Scheme, k5_Scheme, k6_Scheme⟩ na_swap_Scheme⟩
  have PR_Scheme_groups : PropAt K C_Scheme "groups" "_groups" := ⟨pa_Scheme_groups, fp_Scheme_groups, PySem.W.fnOf "groups" "Scheme.groups" (defArgs s_prop_Scheme_groups) (defBody s_prop_Scheme_groups) (defScope s_prop_Scheme_groups) .none kV_Scheme_groups dc_Scheme_groups pm_Scheme_groups an_Scheme_groups cd_Scheme_groups ct_Scheme_groups, ⟨pagroups_Scheme, pbgroups_Scheme, pcgroups_Scheme, _, pdgroups_Scheme⟩, .all fun us hl => match us, hl with | [_], _ => rfl, fun P w mg base => fn_getter (N := ["self"]) pegroups_Scheme pfgroups_Scheme sc_prop_Scheme_groups rfl rfl ⟨k3_Scheme, k4_Scheme, k5_Scheme, k6_Scheme⟩ na_groups_Scheme⟩
  have PR_Scheme_cost_to_turn : PropAt K C_Scheme "cost_to_turn" "_turn" := ⟨pa_Scheme_cost_to_turn, fp_Scheme_cost_to_turn, PySem.W.fnOf "cost_to_turn" "Scheme.cost_to_turn" (defArgs s_prop_Scheme_cost_to_turn) (defBody s_prop_Scheme_cost_to_turn) (defScope s_prop_Scheme_cost_to_turn) .none kV_Scheme_cost_to_turn dc_Scheme_cost_to_turn pm_Scheme_cost_to_turn an_Scheme_cost_to_turn cd_Scheme_cost_to_turn ct_Scheme_cost_to_turn, ⟨pacost_to_turn_Scheme, pbcost_to_turn_Scheme, pccost_to_turn_Scheme, _, pdcost_to_turn_Scheme⟩, .all fun us hl => match us, hl with | [_], _ => rfl, fun P w mg base => fn_getter (N := ["self"]) pecost_to_turn_Scheme pfcost_to_turn_Scheme sc_prop_Scheme_cost_to_turn rfl rfl ⟨k3_Scheme, k4_Scheme, k5_Scheme, k6_Scheme⟩ na_turn_Scheme⟩
  have CF : ClsF K mg C_Scheme := ⟨KL_Scheme, KI_Scheme, KT_Scheme, ⟨cl7_Scheme, cl4_Scheme⟩, NF_Scheme, na_costs_Scheme, na_add_Scheme, na_drop_Scheme, na_swap_Scheme, na_groups_Scheme, na_turn_Scheme, PR_Scheme_costs, PR_Scheme_cost_to_add, PR_Scheme_cost_to_drop, PR_Scheme_cost_to_swap, PR_Scheme_groups, PR_Scheme_cost_to_turn⟩
  have MK_Scheme : Mk K C_Scheme fi_Scheme := ⟨k7_Scheme, k2_Scheme, k8_Scheme, k9_Scheme⟩
  have FI_Scheme : Fun K "__init__" "Scheme.__init__" s_Scheme_init fi_Scheme _ := fun_mk (st := s_Scheme_init) li_Scheme ci_Scheme k0_Scheme
  have KB0_Scheme : KBn K (PySem.W.fnOf "__init__" "Scheme.__init__" (defArgs s_Scheme_init) (defBody s_Scheme_init) (defScope s_Scheme_init) .none (.ref kD_Scheme) dc_Scheme pm_Scheme an_Scheme cd_Scheme ct_Scheme) ["self", "costs", "add", "drop", "swap", "groups", "turn"] 2 ["add", "drop", "swap", "groups", "turn"] (fun us ws => us ++ ws) (fun vs zs => vs ++ zs) := ⟨fun s us ws _ l1 l2 => match us, ws, l1, l2 with | [_, _], [_, _, _, _, _], _, _ => .of_eq rfl, fun r1 r2 => r1.append r2⟩
  have KB1_Scheme : KBn K (PySem.W.fnOf "__init__" "Scheme.__init__" (defArgs s_Scheme_init) (defBody s_Scheme_init) (defScope s_Scheme_init) .none (.ref kD_Scheme) dc_Scheme pm_Scheme an_Scheme cd_Scheme ct_Scheme) ["self", "costs", "add", "drop", "swap", "groups", "turn"] 1 ["costs", "turn", "swap", "drop", "add", "groups"] (fun us ws => us ++ perm6 ws) (fun vs zs => vs ++ perm6 zs) := ⟨fun s us ws _ l1 l2 => match us, ws, l1, l2 with | [_], [_, _, _, _, _, _], _, _ => .of_eq rfl, fun r1 r2 => r1.append (perm6_vals r2)⟩
  have FD_Scheme : FunD K "__init__" "Scheme.__init__" (defArgs s_Scheme_init) (defBody s_Scheme_init) (defScope s_Scheme_init) [] [("groups", V.ref aT_Scheme), ("turn", V.non)] fi_Scheme (PySem.W.fnOf "__init__" "Scheme.__init__" (defArgs s_Scheme_init) (defBody s_Scheme_init) (defScope s_Scheme_init) .none (.ref kD_Scheme) dc_Scheme pm_Scheme an_Scheme cd_Scheme ct_Scheme) := ⟨⟨_, _, _, _, _, _, _, _, _, _, rfl, li_Scheme, ci_Scheme, Or.inl ⟨rfl, rfl⟩, Or.inr ⟨kD_Scheme, rfl, kws2 kd1_Scheme rfl kd2_Scheme rfl⟩⟩, k0_Scheme⟩
  obtain ⟨mv_Scheme, KB2_Scheme⟩ := FD_Scheme.kbinds0 (ps := ["self", "costs", "add", "drop", "swap", "groups", "turn"]) 2 ["add", "drop", "swap"] [("groups", V.ref aT_Scheme), ("turn", V.non)] (fun us mv ws => us ++ ws ++ mv) (fun z => nomatch z) (fun _ h => h) (fun r1 r2 r3 => (r1.append r3).append r2) (fun D doc pm an cdv ct us mv ws l1 l2 l3 => match us, mv, ws, l1, l2, l3 with | [_, _], [_, _], [_, _, _], _, _, _ => ⟨_, _, _, _, _, _, rfl, rfl, _, _, _, _, _, _, rfl, rfl, rfl⟩)
  have ME_Scheme___len__ : Meth K C_Scheme "__len__" fm_Scheme___len__ := ⟨m1__len___Scheme, m2__len___Scheme, m3__len___Scheme⟩
  have FV_Scheme___len__ : FunV K "__len__" "Scheme.__len__" s_Scheme___len__ fm_Scheme___len__ _ := ⟨_, _, _, _, _, _, _, _, _, _, rfl, m4__len___Scheme, m5__len___Scheme⟩
  have BM_Scheme___len__ : Binds K (PySem.W.fnOf "__len__" "Scheme.__len__" (defArgs s_Scheme___len__) (defBody s_Scheme___len__) (defScope s_Scheme___len__) .none kV_Scheme___len__ dc_Scheme___len__ pm_Scheme___len__ an_Scheme___len__ cd_Scheme___len__ ct_Scheme___len__) ["self"] [] := .all fun us hl => match us, hl with | [_], _ => rfl
  have ME_Scheme___contains__ : Meth K C_Scheme "__contains__" fm_Scheme___contains__ := ⟨m1__contains___Scheme, m2__contains___Scheme, m3__contains___Scheme⟩
  have FV_Scheme___contains__ : FunV K "__contains__" "Scheme.__contains__" s_Scheme___contains__ fm_Scheme___contains__ _ := ⟨_, _, _, _, _, _, _, _, _, _, rfl, m4__contains___Scheme, m5__contains___Scheme⟩
  have BM_Scheme___contains__ : Binds K (PySem.W.fnOf "__contains__" "Scheme.__contains__" (defArgs s_Scheme___contains__) (defBody s_Scheme___contains__) (defScope s_Scheme___contains__) .none kV_Scheme___contains__ dc_Scheme___contains__ pm_Scheme___contains__ an_Scheme___contains__ cd_Scheme___contains__ ct_Scheme___contains__) ["self", "value"] [] := .all fun us hl => match us, hl with | [_, _], _ => rfl
  have ME_Scheme___eq__ : Meth K C_Scheme "__eq__" fm_Scheme___eq__ := ⟨m1__eq___Scheme, m2__eq___Scheme, m3__eq___Scheme⟩
  have FV_Scheme___eq__ : FunV K "__eq__" "Scheme.__eq__" s_Scheme___eq__ fm_Scheme___eq__ _ := ⟨_, _, _, _, _, _, _, _, _, _, rfl, m4__eq___Scheme, m5__eq___Scheme⟩
  have BM_Scheme___eq__ : Binds K (PySem.W.fnOf "__eq__" "Scheme.__eq__" (defArgs s_Scheme___eq__) (defBody s_Scheme___eq__) (defScope s_Scheme___eq__) .none kV_Scheme___eq__ dc_Scheme___eq__ pm_Scheme___eq__ an_Scheme___eq__ cd_Scheme___eq__ ct_Scheme___eq__) ["self", "other"] [] := .all fun us hl => match us, hl with | [_, _], _ => rfl
  have ME_Scheme_swap_cost : Meth K C_Scheme "swap_cost" fm_Scheme_swap_cost := ⟨m1swap_cost_Scheme, m2swap_cost_Scheme, m3swap_cost_Scheme⟩
  have FV_Scheme_swap_cost : FunV K "swap_cost" "Scheme.swap_cost" s_Scheme_swap_cost fm_Scheme_swap_cost _ := ⟨_, _, _, _, _, _, _, _, _, _, rfl, m4swap_cost_Scheme, m5swap_cost_Scheme⟩
  have BM_Scheme_swap_cost : Binds K (PySem.W.fnOf "swap_cost" "Scheme.swap_cost" (defArgs s_Scheme_swap_cost) (defBody s_Scheme_swap_cost) (defScope s_Scheme_swap_cost) .none kV_Scheme_swap_cost dc_Scheme_swap_cost pm_Scheme_swap_cost an_Scheme_swap_cost cd_Scheme_swap_cost ct_Scheme_swap_cost) ["self", "one", "other"] [] := .all fun us hl => match us, hl with | [_, _, _], _ => rfl
  have KM0_Scheme_swap_cost : KBn K (PySem.W.fnOf "swap_cost" "Scheme.swap_cost" (defArgs s_Scheme_swap_cost) (defBody s_Scheme_swap_cost) (defScope s_Scheme_swap_cost) .none kV_Scheme_swap_cost dc_Scheme_swap_cost pm_Scheme_swap_cost an_Scheme_swap_cost cd_Scheme_swap_cost ct_Scheme_swap_cost) ["self", "one", "other"] 1 ["other", "one"] (fun us ws => us ++ swap2 ws) (fun vs zs => vs ++ swap2 zs) := ⟨fun s us ws _ l1 l2 => match us, ws, l1, l2 with | [_], [_, _], _, _ => .of_eq rfl, fun r1 r2 => r1.append (swap2_vals r2)⟩
  have ME_Scheme_step_cost : Meth K C_Scheme "step_cost" fm_Scheme_step_cost := ⟨m1step_cost_Scheme, m2step_cost_Scheme, m3step_cost_Scheme⟩
  have FV_Scheme_step_cost : FunV K "step_cost" "Scheme.step_cost" s_Scheme_step_cost fm_Scheme_step_cost _ := ⟨_, _, _, _, _, _, _, _, _, _, rfl, m4step_cost_Scheme, m5step_cost_Scheme⟩
  have FD_Scheme_step_cost : FunD K "step_cost" "Scheme.step_cost" (defArgs s_Scheme_step_cost) (defBody s_Scheme_step_cost) (defScope s_Scheme_step_cost) [V.non] [] fm_Scheme_step_cost _ := ⟨⟨_, _, _, _, _, _, _, _, _, _, rfl, m4step_cost_Scheme, m5step_cost_Scheme, Or.inr ⟨(fun z => nomatch z), _, _, [Value.none], _, rfl, mTstep_cost_Scheme, rfl, (.cons rfl .nil)⟩, Or.inl rfl⟩, m3step_cost_Scheme⟩
  have BM_Scheme_step_cost : Binds K (PySem.W.fnOf "step_cost" "Scheme.step_cost" (defArgs s_Scheme_step_cost) (defBody s_Scheme_step_cost) (defScope s_Scheme_step_cost) (.ref dT_Scheme_step_cost) kV_Scheme_step_cost dc_Scheme_step_cost pm_Scheme_step_cost an_Scheme_step_cost cd_Scheme_step_cost ct_Scheme_step_cost) ["self", "step", "letter"] [] := binds_full (FD_Scheme_step_cost.binds1 3 1 (fun z => nomatch z) rfl fun _ _ _ _ _ _ _ us its h1 h2 => match us, its, h1, h2 with | [_, _, _], [_], _, _ => ⟨_, rfl, rfl⟩)
  obtain ⟨it0_Scheme_step_cost, KM0_Scheme_step_cost⟩ := kbindsD (ps := ["self", "step", "letter"]) FD_Scheme_step_cost 2 ["letter"] (fun us its ws => us ++ ws) (fun z => nomatch z) (fun r1 r2 r3 => r1.append r3) (fun T kV doc pm an cdv ct us its ws l1 l2 l3 => match us, its, ws, l1, l2, l3 with | [_, _], [_], [_], _, _, _ => ⟨_, rfl, rfl⟩)
  obtain ⟨it1_Scheme_step_cost, KM1_Scheme_step_cost⟩ := kbindsD (ps := ["self", "step", "letter"]) FD_Scheme_step_cost 2 [] (fun us its ws => us ++ ws ++ its) (fun z => nomatch z) (fun r1 r2 r3 => (r1.append r3).append r2) (fun T kV doc pm an cdv ct us its ws l1 l2 l3 => match us, its, ws, l1, l2, l3 with | [_, _], [_], [], _, _, _ => ⟨_, rfl, rfl⟩)
  obtain ⟨it2_Scheme_step_cost, KM2_Scheme_step_cost⟩ := kbindsD (ps := ["self", "step", "letter"]) FD_Scheme_step_cost 1 ["step"] (fun us its ws => us ++ ws ++ its) (fun z => nomatch z) (fun r1 r2 r3 => (r1.append r3).append r2) (fun T kV doc pm an cdv ct us its ws l1 l2 l3 => match us, its, ws, l1, l2, l3 with | [_], [_], [_], _, _, _ => ⟨_, rfl, rfl⟩)
  refine ⟨PySem.W.fnOf "law" "law" (defArgs s_law) (defBody s_law) (defScope s_law) .none kV_law dc_law pm_law an_law cd_law ct_law, fun s u => .of_eq rfl, fun base _ _ => ?_⟩
  have h_is_list := ok_is_list (P := P) (w := w) (base := base) T FA_is_list 
  have h_is_letter := ok_is_letter (P := P) (w := w) (base := base) T FA_is_letter 
  have h_is_lettered := ok_is_lettered (P := P) (w := w) (base := base) T FA_is_lettered 
  have h_check_cost := ok_check_cost (P := P) (w := w) (base := base) T FA_check_cost SU XC_UnknownCost
  have h__law_cell := ok__law_cell (P := P) (w := w) (base := base) T FA__law_cell 
  have h__law_box := ok__law_box (P := P) (w := w) (base := base) T FA__law_box 
  have h__law_take := ok__law_take (P := P) (w := w) (base := base) T FA__law_take 
  have h__law_due_swap := ok__law_due_swap (P := P) (w := w) (base := base) T FA__law_due_swap 
  have h__law_with := ok__law_with (P := P) (w := w) (base := base) T FA__law_with 
  have h_is_name := ok_is_name (P := P) (w := w) (base := base) T FA_is_name h_is_lettered
  have h_is_group := ok_is_group (P := P) (w := w) (base := base) T FA_is_group h_is_list h_is_lettered
  have h_is_step := ok_is_step (P := P) (w := w) (base := base) T FA_is_step h_is_list h_is_letter
  have h__law_model := ok__law_model (P := P) (w := w) (base := base) T FA__law_model h__law_take
  have h_check_names := ok_check_names (P := P) (w := w) (base := base) T FA_check_names SU XC_InvalidPart XC_InvalidName XC_Duplicate h_is_list h_is_name
  have h_checked_groups := ok_checked_groups (P := P) (w := w) (base := base) T FA_checked_groups SU XC_InvalidPart XC_InvalidGroup h_is_list h_is_group h_check_cost
  have okM_Scheme___len__ := ok_Scheme___len__ (P := P) (w := w) (base := base) T CF  FV_Scheme___len__
  have h_Scheme___len__ : HasM P w K mg base 3 "Scheme" "__len__" ["self"] [] F_Scheme___len__ := ⟨C_Scheme, fm_Scheme___len__, _, [], [], KL_Scheme, ME_Scheme___len__, okM_Scheme___len__, BM_Scheme___len__, .nil, fun _ => .nil⟩
  have okM_Scheme___contains__ := ok_Scheme___contains__ (P := P) (w := w) (base := base) T CF  FV_Scheme___contains__
  have h_Scheme___contains__ : HasM P w K mg base 3 "Scheme" "__contains__" ["self", "value"] [] F_Scheme___contains__ := ⟨C_Scheme, fm_Scheme___contains__, _, [], [], KL_Scheme, ME_Scheme___contains__, okM_Scheme___contains__, BM_Scheme___contains__, .nil, fun _ => .nil⟩
  have okM_Scheme___eq__ := ok_Scheme___eq__ (P := P) (w := w) (base := base) T CF  FV_Scheme___eq__
  have h_Scheme___eq__ : HasM P w K mg base 3 "Scheme" "__eq__" ["self", "other"] [] F_Scheme___eq__ := ⟨C_Scheme, fm_Scheme___eq__, _, [], [], KL_Scheme, ME_Scheme___eq__, okM_Scheme___eq__, BM_Scheme___eq__, .nil, fun _ => .nil⟩
  have okM_Scheme_swap_cost := ok_Scheme_swap_cost (P := P) (w := w) (base := base) T CF SU XC_InvalidLetter h_is_letter FV_Scheme_swap_cost
  have h_Scheme_swap_cost : HasM P w K mg base 3 "Scheme" "swap_cost" ["self", "one", "other"] [] F_Scheme_swap_cost := ⟨C_Scheme, fm_Scheme_swap_cost, _, [], [], KL_Scheme, ME_Scheme_swap_cost, okM_Scheme_swap_cost, BM_Scheme_swap_cost, .nil, fun _ => .nil⟩
  have hK_Scheme_swap_cost_0 : HasMK P w K mg base 3 "Scheme" "swap_cost" ["self", "one", "other"] 0 ["other", "one"] gK_Scheme_swap_cost_0 F_Scheme_swap_cost := ⟨C_Scheme, fm_Scheme_swap_cost, _, _, _, KL_Scheme, ME_Scheme_swap_cost, okM_Scheme_swap_cost, KM0_Scheme_swap_cost, gk_Scheme_swap_cost_0⟩
  have okI_Scheme := ok_Scheme_init (P := P) (w := w) (base := base) T CF h_check_names h_check_cost h_checked_groups FI_Scheme
  have hC_Scheme_0 : HasC P w K mg base 4 "Scheme" ["self", "costs", "add", "drop", "swap", "groups", "turn"] 1 ["add", "drop", "swap", "groups", "turn"] gD_Scheme_0 F_Scheme := ⟨C_Scheme, fi_Scheme, _, _, _, KL_Scheme, MK_Scheme, okI_Scheme, KB0_Scheme, fun G x vs zs ds es r1 r2 _ _ => ⟨vs ++ zs, rfl, r1.app r2⟩⟩
  have hC_Scheme_1 : HasC P w K mg base 4 "Scheme" ["self", "costs", "add", "drop", "swap", "groups", "turn"] 0 ["costs", "turn", "swap", "drop", "add", "groups"] gD_Scheme_1 F_Scheme := ⟨C_Scheme, fi_Scheme, _, _, _, KL_Scheme, MK_Scheme, okI_Scheme, KB1_Scheme, fun G x vs zs ds es r1 r2 h1 h2 => make_perm6 r1 r2 h1 h2⟩
  have hC_Scheme_2 : HasC P w K mg base 4 "Scheme" ["self", "costs", "add", "drop", "swap", "groups", "turn"] 1 ["add", "drop", "swap"] gD_Scheme_2 F_Scheme := ⟨C_Scheme, fi_Scheme, _, _, _, KL_Scheme, MK_Scheme, okI_Scheme, KB2_Scheme, fun G x vs zs ds es r1 r2 _ _ => ⟨vs ++ zs ++ [V.ref aT_Scheme, V.non], rfl, (r1.app r2).app (.cons (rp_unit kd3_Scheme) (.cons .non .nil))⟩⟩
  have okM_Scheme_step_cost := ok_Scheme_step_cost (P := P) (w := w) (base := base) T CF SU XC_InvalidStep XC_InvalidLetter h_is_step h_is_letter h_Scheme_swap_cost FV_Scheme_step_cost
  have h_Scheme_step_cost : HasM P w K mg base 4 "Scheme" "step_cost" ["self", "step", "letter"] [] F_Scheme_step_cost := ⟨C_Scheme, fm_Scheme_step_cost, _, [], [], KL_Scheme, ME_Scheme_step_cost, okM_Scheme_step_cost, BM_Scheme_step_cost, .nil, fun _ => .nil⟩
  have hK_Scheme_step_cost_0 : HasMK P w K mg base 4 "Scheme" "step_cost" ["self", "step", "letter"] 1 ["letter"] gK_Scheme_step_cost_0 F_Scheme_step_cost := ⟨C_Scheme, fm_Scheme_step_cost, _, _, _, KL_Scheme, ME_Scheme_step_cost, okM_Scheme_step_cost, KM0_Scheme_step_cost, gk_Scheme_step_cost_0⟩
  have hK_Scheme_step_cost_1 : HasMK P w K mg base 4 "Scheme" "step_cost" ["self", "step", "letter"] 1 [] gK_Scheme_step_cost_1 F_Scheme_step_cost := ⟨C_Scheme, fm_Scheme_step_cost, _, _, _, KL_Scheme, ME_Scheme_step_cost, okM_Scheme_step_cost, KM1_Scheme_step_cost, gk_Scheme_step_cost_1⟩
  have hK_Scheme_step_cost_2 : HasMK P w K mg base 4 "Scheme" "step_cost" ["self", "step", "letter"] 0 ["step"] gK_Scheme_step_cost_2 F_Scheme_step_cost := ⟨C_Scheme, fm_Scheme_step_cost, _, _, _, KL_Scheme, ME_Scheme_step_cost, okM_Scheme_step_cost, KM2_Scheme_step_cost, gk_Scheme_step_cost_2⟩
  have h__law_told_right := ok__law_told_right (P := P) (w := w) (base := base) T FA__law_told_right CF h_Scheme___len__ h_Scheme___contains__
  have h__law_steps_right := ok__law_steps_right (P := P) (w := w) (base := base) T FA__law_steps_right hK_Scheme_step_cost_0 hK_Scheme_step_cost_1 h_Scheme_step_cost h_Scheme___contains__ hK_Scheme_step_cost_2 h__law_due_swap h_Scheme_swap_cost hK_Scheme_swap_cost_0
  have h__law_scheme := ok__law_scheme (P := P) (w := w) (base := base) T FA__law_scheme hC_Scheme_0
  have h__law_equal_right := ok__law_equal_right (P := P) (w := w) (base := base) T FA__law_equal_right CF h__law_with h__law_scheme h_Scheme___eq__ h__law_take h__law_model
  exact law_fn T (fun_mk (st := s_law) l_law c_law k_law) CF h__law_cell h__law_box h__law_model hC_Scheme_1 h__law_told_right h__law_steps_right h__law_equal_right hC_Scheme_2 h_Scheme___eq__
end K04
open PySem PySem.W PyProof.Rows in
set_option maxRecDepth 100000 in
set_option maxHeartbeats 0 in
theorem PySem.Challenge.cw_seenchoices_k04_schemes_told_holds : PySem.Challenge.rw_seenchoices_k04_schemes_told.Holds := by
  w_on; o_law; k_head; (case hw => w_witness2)
  k_fill
  refine DL.the_end (l := PySem.Challenge.rw_seenchoices_k04_schemes_told) (n := 63) (k := 8) (x := "_law_script") rfl (by decide) rfl ⟨rfl, by decide, by decide⟩ (fun w h Y => PySem.W.kIn_of Y) ?F
  case F =>
    intro w mg fa h KX G hmg
    refine' K04.all_mk KX G hmg ?x_is_list ?l_is_list ?c_is_list ?k_is_list ?x_is_letter ?l_is_letter ?c_is_letter ?k_is_letter ?x_is_lettered ?l_is_lettered ?c_is_lettered ?k_is_lettered ?x_check_cost ?l_check_cost ?c_check_cost ?k_check_cost ?x__law_cell ?l__law_cell ?c__law_cell ?k__law_cell ?x__law_box ?l__law_box ?c__law_box ?k__law_box ?x__law_take ?l__law_take ?c__law_take ?k__law_take ?x__law_due_swap ?l__law_due_swap ?c__law_due_swap ?k__law_due_swap ?x__law_with ?l__law_with ?c__law_with ?k__law_with ?x_is_name ?l_is_name ?c_is_name ?k_is_name ?x_is_group ?l_is_group ?c_is_group ?k_is_group ?x_is_step ?l_is_step ?c_is_step ?k_is_step ?x__law_model ?l__law_model ?c__law_model ?k__law_model ?x_check_names ?l_check_names ?c_check_names ?k_check_names ?x_checked_groups ?l_checked_groups ?c_checked_groups ?k_checked_groups ?x__law_told_right ?l__law_told_right ?c__law_told_right ?k__law_told_right ?x__law_steps_right ?l__law_steps_right ?c__law_steps_right ?k__law_steps_right ?x__law_scheme ?l__law_scheme ?c__law_scheme ?k__law_scheme ?x__law_equal_right ?l__law_equal_right ?c__law_equal_right ?k__law_equal_right ?x_law ?l_law ?c_law ?k_law ?a1_Duplicate ?a2_Duplicate ?b1_Duplicate ?b2_Duplicate ?b3_Duplicate ?b4_Duplicate ?b5_Duplicate ?b6_Duplicate ?b7_Duplicate ?b8_Duplicate ?b9_Duplicate ?c1_Duplicate ?c2_Duplicate ?c3_Duplicate ?c4_Duplicate ?c5_Duplicate ?c6_Duplicate ?c7_Duplicate ?c8_Duplicate ?e1_Duplicate ?e2_Duplicate ?e3_Duplicate ?e4_Duplicate ?e5_Duplicate ?e6_Duplicate ?e7_Duplicate ?a1_InvalidGroup ?a2_InvalidGroup ?b1_InvalidGroup ?b2_InvalidGroup ?b3_InvalidGroup ?b4_InvalidGroup ?b5_InvalidGroup ?b6_InvalidGroup ?b7_InvalidGroup ?b8_InvalidGroup ?b9_InvalidGroup ?c1_InvalidGroup ?c2_InvalidGroup ?c3_InvalidGroup ?c4_InvalidGroup ?c5_InvalidGroup ?c6_InvalidGroup ?c7_InvalidGroup ?c8_InvalidGroup ?e1_InvalidGroup ?e2_InvalidGroup ?e3_InvalidGroup ?e4_InvalidGroup ?e5_InvalidGroup ?e6_InvalidGroup ?e7_InvalidGroup ?a1_InvalidLetter ?a2_InvalidLetter ?b1_InvalidLetter ?b2_InvalidLetter ?b3_InvalidLetter ?b4_InvalidLetter ?b5_InvalidLetter ?b6_InvalidLetter ?b7_InvalidLetter ?b8_InvalidLetter ?b9_InvalidLetter ?c1_InvalidLetter ?c2_InvalidLetter ?c3_InvalidLetter ?c4_InvalidLetter ?c5_InvalidLetter ?c6_InvalidLetter ?c7_InvalidLetter ?c8_InvalidLetter ?e1_InvalidLetter ?e2_InvalidLetter ?e3_InvalidLetter ?e4_InvalidLetter ?e5_InvalidLetter ?e6_InvalidLetter ?e7_InvalidLetter ?a1_InvalidName ?a2_InvalidName ?b1_InvalidName ?b2_InvalidName ?b3_InvalidName ?b4_InvalidName ?b5_InvalidName ?b6_InvalidName ?b7_InvalidName ?b8_InvalidName ?b9_InvalidName ?c1_InvalidName ?c2_InvalidName ?c3_InvalidName ?c4_InvalidName ?c5_InvalidName ?c6_InvalidName ?c7_InvalidName ?c8_InvalidName ?e1_InvalidName ?e2_InvalidName ?e3_InvalidName ?e4_InvalidName ?e5_InvalidName ?e6_InvalidName ?e7_InvalidName ?a1_InvalidPart ?a2_InvalidPart ?b1_InvalidPart ?b2_InvalidPart ?b3_InvalidPart ?b4_InvalidPart ?b5_InvalidPart ?b6_InvalidPart ?b7_InvalidPart ?b8_InvalidPart ?b9_InvalidPart ?c1_InvalidPart ?c2_InvalidPart ?c3_InvalidPart ?c4_InvalidPart ?c5_InvalidPart ?c6_InvalidPart ?c7_InvalidPart ?c8_InvalidPart ?e1_InvalidPart ?e2_InvalidPart ?e3_InvalidPart ?e4_InvalidPart ?e5_InvalidPart ?e6_InvalidPart ?e7_InvalidPart ?a1_InvalidStep ?a2_InvalidStep ?b1_InvalidStep ?b2_InvalidStep ?b3_InvalidStep ?b4_InvalidStep ?b5_InvalidStep ?b6_InvalidStep ?b7_InvalidStep ?b8_InvalidStep ?b9_InvalidStep ?c1_InvalidStep ?c2_InvalidStep ?c3_InvalidStep ?c4_InvalidStep ?c5_InvalidStep ?c6_InvalidStep ?c7_InvalidStep ?c8_InvalidStep ?e1_InvalidStep ?e2_InvalidStep ?e3_InvalidStep ?e4_InvalidStep ?e5_InvalidStep ?e6_InvalidStep ?e7_InvalidStep ?a1_UnknownCost ?a2_UnknownCost ?b1_UnknownCost ?b2_UnknownCost ?b3_UnknownCost ?b4_UnknownCost ?b5_UnknownCost ?b6_UnknownCost ?b7_UnknownCost ?b8_UnknownCost ?b9_UnknownCost ?c1_UnknownCost ?c2_UnknownCost ?c3_UnknownCost ?c4_UnknownCost ?c5_UnknownCost ?c6_UnknownCost ?c7_UnknownCost ?c8_UnknownCost ?e1_UnknownCost ?e2_UnknownCost ?e3_UnknownCost ?e4_UnknownCost ?e5_UnknownCost ?e6_UnknownCost ?e7_UnknownCost ?sup_top ?z_super ?x_STEPS_ALONE ?l_STEPS_ALONE ?x_STEPS_WITH_LETTER ?l_STEPS_WITH_LETTER ?k1_Scheme ?k2_Scheme ?k3_Scheme ?k4_Scheme ?k5_Scheme ?k6_Scheme ?k7_Scheme ?k8_Scheme ?k9_Scheme ?k0_Scheme ?na_costs_Scheme ?na_add_Scheme ?na_drop_Scheme ?na_swap_Scheme ?na_groups_Scheme ?na_turn_Scheme ?li_Scheme ?ci_Scheme ?cl1_Scheme ?cl2_Scheme ?cl3_Scheme ?cl4_Scheme ?cl5_Scheme ?cl6_Scheme ?cl7_Scheme ?caNoneType_Scheme ?ccNoneType_Scheme ?cabool_Scheme ?ccbool_Scheme ?caint_Scheme ?ccint_Scheme ?castr_Scheme ?ccstr_Scheme ?calist_Scheme ?cclist_Scheme ?catuple_Scheme ?cctuple_Scheme ?cadict_Scheme ?ccdict_Scheme ?cbstr_Scheme ?cbint_Scheme ?cbbool_Scheme ?cblist_Scheme ?cbtuple_Scheme ?cbdict_Scheme ?pacosts_Scheme ?pbcosts_Scheme ?pccosts_Scheme ?pdcosts_Scheme ?pecosts_Scheme ?pfcosts_Scheme ?pacost_to_add_Scheme ?pbcost_to_add_Scheme ?pccost_to_add_Scheme ?pdcost_to_add_Scheme ?pecost_to_add_Scheme ?pfcost_to_add_Scheme ?pacost_to_drop_Scheme ?pbcost_to_drop_Scheme ?pccost_to_drop_Scheme ?pdcost_to_drop_Scheme ?pecost_to_drop_Scheme ?pfcost_to_drop_Scheme ?pacost_to_swap_Scheme ?pbcost_to_swap_Scheme ?pccost_to_swap_Scheme ?pdcost_to_swap_Scheme ?pecost_to_swap_Scheme ?pfcost_to_swap_Scheme ?pagroups_Scheme ?pbgroups_Scheme ?pcgroups_Scheme ?pdgroups_Scheme ?pegroups_Scheme ?pfgroups_Scheme ?pacost_to_turn_Scheme ?pbcost_to_turn_Scheme ?pccost_to_turn_Scheme ?pdcost_to_turn_Scheme ?pecost_to_turn_Scheme ?pfcost_to_turn_Scheme ?kd1_Scheme ?kd2_Scheme ?kd3_Scheme ?m1__len___Scheme ?m2__len___Scheme ?m3__len___Scheme ?m4__len___Scheme ?m5__len___Scheme ?m1__contains___Scheme ?m2__contains___Scheme ?m3__contains___Scheme ?m4__contains___Scheme ?m5__contains___Scheme ?m1__eq___Scheme ?m2__eq___Scheme ?m3__eq___Scheme ?m4__eq___Scheme ?m5__eq___Scheme ?m1swap_cost_Scheme ?m2swap_cost_Scheme ?m3swap_cost_Scheme ?m4swap_cost_Scheme ?m5swap_cost_Scheme ?m1step_cost_Scheme ?m2step_cost_Scheme ?m3step_cost_Scheme ?m4step_cost_Scheme ?m5step_cost_Scheme ?mTstep_cost_Scheme ?z_any ?z_enumerate ?z_isinstance ?z_len ?z_list ?z_max ?z_min ?z_range ?z_reversed ?z_set ?z_sorted ?z_str ?z_tuple ?c_LONGEST_NAME ?c_MOST_COSTS
    (case x_is_list => k_is); (case l_is_list => k_is); (case c_is_list => k_is); (case k_is_list => k_is)
    (case x_is_letter => k_is); (case l_is_letter => k_is); (case c_is_letter => k_is); (case k_is_letter => k_is)
    (case x_is_lettered => k_is); (case l_is_lettered => k_is); (case c_is_lettered => k_is); (case k_is_lettered => k_is)
    (case x_check_cost => k_is); (case l_check_cost => k_is); (case c_check_cost => k_is); (case k_check_cost => k_is)
    (case x__law_cell => k_is); (case l__law_cell => k_is); (case c__law_cell => k_is); (case k__law_cell => k_is)
    (case x__law_box => k_is); (case l__law_box => k_is); (case c__law_box => k_is); (case k__law_box => k_is)
    (case x__law_take => k_is); (case l__law_take => k_is); (case c__law_take => k_is); (case k__law_take => k_is)
    (case x__law_due_swap => k_is); (case l__law_due_swap => k_is); (case c__law_due_swap => k_is); (case k__law_due_swap => k_is)
    (case x__law_with => k_is); (case l__law_with => k_is); (case c__law_with => k_is); (case k__law_with => k_is)
    (case x_is_name => k_is); (case l_is_name => k_is); (case c_is_name => k_is); (case k_is_name => k_is)
    (case x_is_group => k_is); (case l_is_group => k_is); (case c_is_group => k_is); (case k_is_group => k_is)
    (case x_is_step => k_is); (case l_is_step => k_is); (case c_is_step => k_is); (case k_is_step => k_is)
    (case x__law_model => k_is); (case l__law_model => k_is); (case c__law_model => k_is); (case k__law_model => k_is)
    (case x_check_names => k_is); (case l_check_names => k_is); (case c_check_names => k_is); (case k_check_names => k_is)
    (case x_checked_groups => k_is); (case l_checked_groups => k_is); (case c_checked_groups => k_is); (case k_checked_groups => k_is)
    (case x__law_told_right => k_is); (case l__law_told_right => k_is); (case c__law_told_right => k_is); (case k__law_told_right => k_is)
    (case x__law_steps_right => k_is); (case l__law_steps_right => k_is); (case c__law_steps_right => k_is); (case k__law_steps_right => k_is)
    (case x__law_scheme => k_is); (case l__law_scheme => k_is); (case c__law_scheme => k_is); (case k__law_scheme => k_is)
    (case x__law_equal_right => k_is); (case l__law_equal_right => k_is); (case c__law_equal_right => k_is); (case k__law_equal_right => k_is)
    (case x_law => k_is); (case l_law => k_is); (case c_law => k_is); (case k_law => k_is)
    (case a1_Duplicate => k_is)
    (case a2_Duplicate => k_is)
    (case b1_Duplicate => k_is)
    (case b2_Duplicate => decide +kernel)
    (case b3_Duplicate => k_is)
    (case b4_Duplicate => k_is)
    (case b5_Duplicate => k_is)
    (case b6_Duplicate => k_is)
    (case b7_Duplicate => k_is)
    (case b8_Duplicate => k_is)
    (case b9_Duplicate => k_is)
    (case c1_Duplicate => k_is)
    (case c2_Duplicate => k_is)
    (case c3_Duplicate => k_is)
    (case c4_Duplicate => k_is)
    (case c5_Duplicate => k_is)
    (case c6_Duplicate => ks_is)
    (case c7_Duplicate => k_is)
    (case c8_Duplicate => k_is)
    (case e1_Duplicate => k_is)
    (case e2_Duplicate => k_is)
    (case e3_Duplicate => k_is)
    (case e4_Duplicate => k_is)
    (case e5_Duplicate => rfl)
    (case e6_Duplicate => first | rfl | decide +kernel)
    (case e7_Duplicate => rfl)
    (case a1_InvalidGroup => k_is)
    (case a2_InvalidGroup => k_is)
    (case b1_InvalidGroup => k_is)
    (case b2_InvalidGroup => decide +kernel)
    (case b3_InvalidGroup => k_is)
    (case b4_InvalidGroup => k_is)
    (case b5_InvalidGroup => k_is)
    (case b6_InvalidGroup => k_is)
    (case b7_InvalidGroup => k_is)
    (case b8_InvalidGroup => k_is)
    (case b9_InvalidGroup => k_is)
    (case c1_InvalidGroup => k_is)
    (case c2_InvalidGroup => k_is)
    (case c3_InvalidGroup => k_is)
    (case c4_InvalidGroup => k_is)
    (case c5_InvalidGroup => k_is)
    (case c6_InvalidGroup => ks_is)
    (case c7_InvalidGroup => k_is)
    (case c8_InvalidGroup => k_is)
    (case e1_InvalidGroup => k_is)
    (case e2_InvalidGroup => k_is)
    (case e3_InvalidGroup => k_is)
    (case e4_InvalidGroup => k_is)
    (case e5_InvalidGroup => rfl)
    (case e6_InvalidGroup => first | rfl | decide +kernel)
    (case e7_InvalidGroup => rfl)
    (case a1_InvalidLetter => k_is)
    (case a2_InvalidLetter => k_is)
    (case b1_InvalidLetter => k_is)
    (case b2_InvalidLetter => decide +kernel)
    (case b3_InvalidLetter => k_is)
    (case b4_InvalidLetter => k_is)
    (case b5_InvalidLetter => k_is)
    (case b6_InvalidLetter => k_is)
    (case b7_InvalidLetter => k_is)
    (case b8_InvalidLetter => k_is)
    (case b9_InvalidLetter => k_is)
    (case c1_InvalidLetter => k_is)
    (case c2_InvalidLetter => k_is)
    (case c3_InvalidLetter => k_is)
    (case c4_InvalidLetter => k_is)
    (case c5_InvalidLetter => k_is)
    (case c6_InvalidLetter => ks_is)
    (case c7_InvalidLetter => k_is)
    (case c8_InvalidLetter => k_is)
    (case e1_InvalidLetter => k_is)
    (case e2_InvalidLetter => k_is)
    (case e3_InvalidLetter => k_is)
    (case e4_InvalidLetter => k_is)
    (case e5_InvalidLetter => rfl)
    (case e6_InvalidLetter => first | rfl | decide +kernel)
    (case e7_InvalidLetter => rfl)
    (case a1_InvalidName => k_is)
    (case a2_InvalidName => k_is)
    (case b1_InvalidName => k_is)
    (case b2_InvalidName => decide +kernel)
    (case b3_InvalidName => k_is)
    (case b4_InvalidName => k_is)
    (case b5_InvalidName => k_is)
    (case b6_InvalidName => k_is)
    (case b7_InvalidName => k_is)
    (case b8_InvalidName => k_is)
    (case b9_InvalidName => k_is)
    (case c1_InvalidName => k_is)
    (case c2_InvalidName => k_is)
    (case c3_InvalidName => k_is)
    (case c4_InvalidName => k_is)
    (case c5_InvalidName => k_is)
    (case c6_InvalidName => ks_is)
    (case c7_InvalidName => k_is)
    (case c8_InvalidName => k_is)
    (case e1_InvalidName => k_is)
    (case e2_InvalidName => k_is)
    (case e3_InvalidName => k_is)
    (case e4_InvalidName => k_is)
    (case e5_InvalidName => rfl)
    (case e6_InvalidName => first | rfl | decide +kernel)
    (case e7_InvalidName => rfl)
    (case a1_InvalidPart => k_is)
    (case a2_InvalidPart => k_is)
    (case b1_InvalidPart => k_is)
    (case b2_InvalidPart => decide +kernel)
    (case b3_InvalidPart => k_is)
    (case b4_InvalidPart => k_is)
    (case b5_InvalidPart => k_is)
    (case b6_InvalidPart => k_is)
    (case b7_InvalidPart => k_is)
    (case b8_InvalidPart => k_is)
    (case b9_InvalidPart => k_is)
    (case c1_InvalidPart => k_is)
    (case c2_InvalidPart => k_is)
    (case c3_InvalidPart => k_is)
    (case c4_InvalidPart => k_is)
    (case c5_InvalidPart => k_is)
    (case c6_InvalidPart => ks_is)
    (case c7_InvalidPart => k_is)
    (case c8_InvalidPart => k_is)
    (case e1_InvalidPart => k_is)
    (case e2_InvalidPart => k_is)
    (case e3_InvalidPart => k_is)
    (case e4_InvalidPart => k_is)
    (case e5_InvalidPart => rfl)
    (case e6_InvalidPart => first | rfl | decide +kernel)
    (case e7_InvalidPart => rfl)
    (case a1_InvalidStep => k_is)
    (case a2_InvalidStep => k_is)
    (case b1_InvalidStep => k_is)
    (case b2_InvalidStep => decide +kernel)
    (case b3_InvalidStep => k_is)
    (case b4_InvalidStep => k_is)
    (case b5_InvalidStep => k_is)
    (case b6_InvalidStep => k_is)
    (case b7_InvalidStep => k_is)
    (case b8_InvalidStep => k_is)
    (case b9_InvalidStep => k_is)
    (case c1_InvalidStep => k_is)
    (case c2_InvalidStep => k_is)
    (case c3_InvalidStep => k_is)
    (case c4_InvalidStep => k_is)
    (case c5_InvalidStep => k_is)
    (case c6_InvalidStep => ks_is)
    (case c7_InvalidStep => k_is)
    (case c8_InvalidStep => k_is)
    (case e1_InvalidStep => k_is)
    (case e2_InvalidStep => k_is)
    (case e3_InvalidStep => k_is)
    (case e4_InvalidStep => k_is)
    (case e5_InvalidStep => rfl)
    (case e6_InvalidStep => first | rfl | decide +kernel)
    (case e7_InvalidStep => rfl)
    (case a1_UnknownCost => k_is)
    (case a2_UnknownCost => k_is)
    (case b1_UnknownCost => k_is)
    (case b2_UnknownCost => decide +kernel)
    (case b3_UnknownCost => k_is)
    (case b4_UnknownCost => k_is)
    (case b5_UnknownCost => k_is)
    (case b6_UnknownCost => k_is)
    (case b7_UnknownCost => k_is)
    (case b8_UnknownCost => k_is)
    (case b9_UnknownCost => k_is)
    (case c1_UnknownCost => k_is)
    (case c2_UnknownCost => k_is)
    (case c3_UnknownCost => k_is)
    (case c4_UnknownCost => k_is)
    (case c5_UnknownCost => k_is)
    (case c6_UnknownCost => ks_is)
    (case c7_UnknownCost => k_is)
    (case c8_UnknownCost => k_is)
    (case e1_UnknownCost => k_is)
    (case e2_UnknownCost => k_is)
    (case e3_UnknownCost => k_is)
    (case e4_UnknownCost => k_is)
    (case e5_UnknownCost => rfl)
    (case e6_UnknownCost => first | rfl | decide +kernel)
    (case e7_UnknownCost => rfl)
    (case sup_top => first | rfl | decide +kernel)
    (case z_super => k_is)
    (case x_STEPS_ALONE => k_is); (case l_STEPS_ALONE => k_is)
    (case x_STEPS_WITH_LETTER => k_is); (case l_STEPS_WITH_LETTER => k_is)
    (case k1_Scheme => k_is)
    (case k2_Scheme => k_is)
    (case k3_Scheme => k_is)
    (case k4_Scheme => k_is)
    (case k5_Scheme => k_is)
    (case k6_Scheme => k_is)
    (case k7_Scheme => k_is)
    (case k8_Scheme => k_is)
    (case k9_Scheme => k_is)
    (case k0_Scheme => k_is)
    (case na_costs_Scheme => k_is)
    (case na_add_Scheme => k_is)
    (case na_drop_Scheme => k_is)
    (case na_swap_Scheme => k_is)
    (case na_groups_Scheme => k_is)
    (case na_turn_Scheme => k_is)
    (case li_Scheme => k_is)
    (case ci_Scheme => k_is)
    (case cl1_Scheme => k_is)
    (case cl2_Scheme => k_is)
    (case cl3_Scheme => k_is)
    (case cl4_Scheme => k_is)
    (case cl5_Scheme => k_is)
    (case cl6_Scheme => k_is)
    (case cl7_Scheme => k_is)
    (case caNoneType_Scheme => k_is)
    (case ccNoneType_Scheme => k_is)
    (case cabool_Scheme => k_is)
    (case ccbool_Scheme => k_is)
    (case caint_Scheme => k_is)
    (case ccint_Scheme => k_is)
    (case castr_Scheme => k_is)
    (case ccstr_Scheme => k_is)
    (case calist_Scheme => k_is)
    (case cclist_Scheme => k_is)
    (case catuple_Scheme => k_is)
    (case cctuple_Scheme => k_is)
    (case cadict_Scheme => k_is)
    (case ccdict_Scheme => k_is)
    (case cbstr_Scheme => k_is)
    (case cbint_Scheme => k_is)
    (case cbbool_Scheme => k_is)
    (case cblist_Scheme => k_is)
    (case cbtuple_Scheme => k_is)
    (case cbdict_Scheme => k_is)
    (case pacosts_Scheme => k_is)
    (case pbcosts_Scheme => k_is)
    (case pccosts_Scheme => k_is)
    (case pdcosts_Scheme => k_is)
    (case pecosts_Scheme => k_is)
    (case pfcosts_Scheme => k_is)
    (case pacost_to_add_Scheme => k_is)
    (case pbcost_to_add_Scheme => k_is)
    (case pccost_to_add_Scheme => k_is)
    (case pdcost_to_add_Scheme => k_is)
    (case pecost_to_add_Scheme => k_is)
    (case pfcost_to_add_Scheme => k_is)
    (case pacost_to_drop_Scheme => k_is)
    (case pbcost_to_drop_Scheme => k_is)
    (case pccost_to_drop_Scheme => k_is)
    (case pdcost_to_drop_Scheme => k_is)
    (case pecost_to_drop_Scheme => k_is)
    (case pfcost_to_drop_Scheme => k_is)
    (case pacost_to_swap_Scheme => k_is)
    (case pbcost_to_swap_Scheme => k_is)
    (case pccost_to_swap_Scheme => k_is)
    (case pdcost_to_swap_Scheme => k_is)
    (case pecost_to_swap_Scheme => k_is)
    (case pfcost_to_swap_Scheme => k_is)
    (case pagroups_Scheme => k_is)
    (case pbgroups_Scheme => k_is)
    (case pcgroups_Scheme => k_is)
    (case pdgroups_Scheme => k_is)
    (case pegroups_Scheme => k_is)
    (case pfgroups_Scheme => k_is)
    (case pacost_to_turn_Scheme => k_is)
    (case pbcost_to_turn_Scheme => k_is)
    (case pccost_to_turn_Scheme => k_is)
    (case pdcost_to_turn_Scheme => k_is)
    (case pecost_to_turn_Scheme => k_is)
    (case pfcost_to_turn_Scheme => k_is)
    (case kd1_Scheme => k_is)
    (case kd2_Scheme => k_is)
    (case kd3_Scheme => k_is)
    (case m1__len___Scheme => k_is)
    (case m2__len___Scheme => k_is)
    (case m3__len___Scheme => k_is)
    (case m4__len___Scheme => k_is)
    (case m5__len___Scheme => k_is)
    (case m1__contains___Scheme => k_is)
    (case m2__contains___Scheme => k_is)
    (case m3__contains___Scheme => k_is)
    (case m4__contains___Scheme => k_is)
    (case m5__contains___Scheme => k_is)
    (case m1__eq___Scheme => k_is)
    (case m2__eq___Scheme => k_is)
    (case m3__eq___Scheme => k_is)
    (case m4__eq___Scheme => k_is)
    (case m5__eq___Scheme => k_is)
    (case m1swap_cost_Scheme => k_is)
    (case m2swap_cost_Scheme => k_is)
    (case m3swap_cost_Scheme => k_is)
    (case m4swap_cost_Scheme => k_is)
    (case m5swap_cost_Scheme => k_is)
    (case m1step_cost_Scheme => k_is)
    (case m2step_cost_Scheme => k_is)
    (case m3step_cost_Scheme => k_is)
    (case m4step_cost_Scheme => k_is)
    (case m5step_cost_Scheme => k_is)
    (case mTstep_cost_Scheme => k_is)
    (case z_any => k_is)
    (case z_enumerate => k_is)
    (case z_isinstance => k_is)
    (case z_len => k_is)
    (case z_list => k_is)
    (case z_max => k_is)
    (case z_min => k_is)
    (case z_range => k_is)
    (case z_reversed => k_is)
    (case z_set => k_is)
    (case z_sorted => k_is)
    (case z_str => k_is)
    (case z_tuple => k_is)
    (case c_LONGEST_NAME => k_is)
    (case c_MOST_COSTS => k_is)
#print axioms PySem.Challenge.cw_seenchoices_k04_schemes_told_holds
