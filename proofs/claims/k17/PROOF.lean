import PyProof.Rows.All
import Wide.All
import OpenK.AllK
import Wide.FinOn
import PyProof.ReprRoads
import HandS.ForMost
import HandS.Walk
import HandS.IsInst
import HandS.Wide
import HandS.WideBits
import HandS.TupAny
import HandS.Evl
import KE.KExcSuper
import HandS.Exc
import HandS.TryOnly
import HandS.ExcOwn
import HandS.WordsExc
import HandS.ExcField
import PyProof.ReprReads
import PyProof.StrHeap
import PyProof.FactsAll.list
import PyProof.FactsAll.tuple
import HandS.Gcd
import HandS.Zip
import HandS.Property
import HandS.MakeKwOnly
import HandS.ExcValue
import PyProof.CollectStr
import PyProof.Rows.SortShellAny
import HandS.Strs
import PyProof.SetRoads
import PyProof.FactsAll.subtypes_3
import KE.GoesMore
import PyProof.EnumMake
import PyProof.Draws
import PyProof.NeKinds
import HandS.SlotsOwn
import OpenK.KMeth
import HandS.More
import PyProof.InstNe
import HandS.Star
import HandS.Flow
import HandS.TupMul
import HandS.Dict
import KE.DataMinMax
import KE.GoesZip
import HandS.StrMore
import PyProof.StrLawsRepr
import PyProof.FitsInt
import PySem.Challenge.RW_seenchoices_k17_integers_or_a_sum
set_option Elab.async false
set_option linter.all false
set_option maxRecDepth 100000
set_option maxHeartbeats 4000000
/-! DL: readings at the level of data. A value of the heap bears a datum (Rp); an expression's rule tells, of data alone, what must hold so that what follows holds. -/
namespace DL
open PySem L2
open Evl (Ex)

/-- data -/
inductive D where
  | non | bl (b : Bool) | int (i : Int) | str (x : Str) | ty (n : String)
  | lst (ds : List D) | tup (ds : List D) | dct (ks : List Key) (ds : List D)
  | scr (ns : List Int) | box (a : Addr) | obj (n : Str) (ks : List Str) (ds : List D)

abbrev Fg := PySem.W.Frag
mutual
/-- at the heap G the value bears the datum -/
inductive Rp (K : Fg) (G : Hp) : V → D → Prop
  | non : Rp K G .non .non
  | bl (b : Bool) : Rp K G (.bl b) (.bl b)
  | int (i : Int) : Rp K G (.int i) (.int i)
  | str (x : Str) : Rp K G (.str x) (.str x)
  | ty (n : String) : Rp K G (.ty n) (.ty n)
  | lst {a : Addr} {xs : List V} {ds : List D} : G a = some (.lst xs) → RpA K G xs ds → Rp K G (.ref a) (.lst ds)
  | tup {a : Addr} {xs : List V} {ds : List D} : SqT K G a xs → RpA K G xs ds → Rp K G (.ref a) (.tup ds)
  | dct {a : Addr} {kvs : List (Key × V)} {ks : List Key} {vs : List V} {ds : List D} : G a = some (.dK kvs) → kvs.map (·.1) = ks → kvs.map (·.2) = vs → RpA K G vs ds → Rp K G (.ref a) (.dct ks ds)
  | scr {a : Addr} {ns : List Int} : SqL K G a (ns.map V.int) → Rp K G (.ref a) (.scr ns)
  | box (a : Addr) : Rp K G (.ref a) (.box a)
  | obj {a C dx : Addr} {fs : List (Str × V)} {n : Str} {ks : List Str} {vs : List V} {ds : List D} : PySem.W.nsIn K mainGlobals n = some (some (.ref C)) → G a = some (.ins C dx fs) → fs.map (·.1) = ks → fs.map (·.2) = vs → RpA K G vs ds → Rp K G (.ref a) (.obj n ks ds)
inductive RpA (K : Fg) (G : Hp) : List V → List D → Prop
  | nil : RpA K G [] []
  | cons {v : V} {d : D} {vs : List V} {ds : List D} : Rp K G v d → RpA K G vs ds → RpA K G (v :: vs) (d :: ds)
end
section
variable {K : Fg} {G G' : Hp}
mutual
theorem Rp.mono (e : Ex G G') : ∀ {v : V} {d : D}, Rp K G v d → Rp K G' v d
  | _, _, .non => .non
  | _, _, .bl b => .bl b
  | _, _, .int i => .int i
  | _, _, .str x => .str x
  | _, _, .ty n => .ty n
  | _, _, .lst h r => .lst (e _ _ h) (RpA.mono e r)
  | _, _, .tup h r => .tup (Evl.ex_t e h) (RpA.mono e r)
  | _, _, .dct h a b r => .dct (e _ _ h) a b (RpA.mono e r)
  | _, _, .scr h => .scr (Evl.ex_l e h)
  | _, _, .box a => .box a
  | _, _, .obj k h a b r => .obj k (e _ _ h) a b (RpA.mono e r)
theorem RpA.mono (e : Ex G G') : ∀ {vs : List V} {ds : List D}, RpA K G vs ds → RpA K G' vs ds
  | _, _, .nil => .nil
  | _, _, .cons r t => .cons (Rp.mono e r) (RpA.mono e t)
end
theorem RpA.len : ∀ {vs : List V} {ds : List D}, RpA K G vs ds → vs.length = ds.length
  | _, _, .nil => rfl
  | _, _, .cons _ t => by rw [List.length_cons, List.length_cons, RpA.len t]
theorem RpA.at : ∀ {vs : List V} {ds : List D} {i : Nat} {d : D}, RpA K G vs ds → ds[i]? = some d → ∃ v, vs[i]? = some v ∧ Rp K G v d
  | _, _, _, _, .nil, e => by simp at e
  | _, _, 0, _, .cons r _, e => by simp at e; subst e; exact ⟨_, rfl, r⟩
  | _, _, i + 1, d, .cons _ t, e => by
    obtain ⟨v, h1, h2⟩ := RpA.at (i := i) (d := d) t (by simpa using e)
    exact ⟨v, by simpa using h1, h2⟩
theorem RpA.app : ∀ {vs ws : List V} {ds es : List D}, RpA K G vs ds → RpA K G ws es → RpA K G (vs ++ ws) (ds ++ es)
  | _, _, _, _, .nil, s => s
  | _, _, _, _, .cons r t, s => .cons r (RpA.app t s)
theorem RpA.set {v : V} {d : D} (r : Rp K G v d) : ∀ {vs : List V} {ds : List D} (i : Nat), RpA K G vs ds → RpA K G (vs.set i v) (ds.set i d)
  | _, _, _, .nil => .nil
  | _, _, 0, .cons _ t => .cons r t
  | _, _, i + 1, .cons q t => .cons q (RpA.set r i t)
theorem RpA.drop : ∀ {vs : List V} {ds : List D} (n : Nat), RpA K G vs ds → RpA K G (vs.drop n) (ds.drop n)
  | _, _, 0, r => r
  | _, _, _ + 1, .nil => .nil
  | _, _, n + 1, .cons _ t => RpA.drop n t
theorem RpA.take : ∀ {vs : List V} {ds : List D} (n : Nat), RpA K G vs ds → RpA K G (vs.take n) (ds.take n)
  | _, _, 0, _ => .nil
  | _, _, _ + 1, .nil => .nil
  | _, _, n + 1, .cons r t => .cons r (RpA.take n t)
theorem RpA.rep : ∀ {vs : List V} {ds : List D} (n : Nat), RpA K G vs ds → RpA K G (List.replicate n vs).flatten (List.replicate n ds).flatten
  | _, _, 0, _ => .nil
  | vs, ds, n + 1, r => by
    rw [List.replicate_succ, List.replicate_succ, List.flatten_cons, List.flatten_cons]
    exact r.app (RpA.rep n r)
end

/-! ### the world: G stands for good, mu is owned (lists that may change), F is the frame -/
abbrev Mem := Addr → Option (List D)
def Mem.up (m : Mem) (a : Addr) (ds : List D) : Mem := fun b => if b = a then some ds else m b
theorem Mem.up_same {m : Mem} {a : Addr} {ds : List D} : m.up a ds a = some ds := if_pos rfl
theorem Mem.up_ne {m : Mem} {a b : Addr} {ds : List D} (h : b ≠ a) : m.up a ds b = m b := if_neg h
theorem Mem.up_up {m : Mem} {a : Addr} {ds es : List D} : (m.up a ds).up a es = m.up a es := by
  funext b; unfold Mem.up; split <;> rfl
structure Wd (K : Fg) (G : Hp) (m : Mem) (F : Hp) (H : Hp) : Prop where
  ex : Ex G H
  own : ∀ a ds, m a = some ds → G a = none ∧ F a = none ∧ ∃ xs, H a = some (.lst xs) ∧ RpA K G xs ds
  fr : ∀ a o, F a = some o → H a = some o
  frG : ∀ a o, F a = some o → G a = none
section
variable {K : Fg} {G G' : Hp} {m : Mem} {F H : Hp}
theorem Wd.fresh (W : Wd K G m F H) {p : Addr} (hp : H p = none) : G p = none ∧ m p = none ∧ F p = none := by
  refine ⟨?_, ?_, ?_⟩
  · cases e : G p with
    | none => rfl
    | some o => rw [W.ex p o e] at hp; cases hp
  · cases e : m p with
    | none => rfl
    | some ds =>
      obtain ⟨_, _, xs, h, _⟩ := W.own p ds e
      rw [h] at hp; cases hp
  · cases e : F p with
    | none => rfl
    | some o => rw [W.fr p o e] at hp; cases hp
/-- a new object that stands for good -/
theorem Wd.new (W : Wd K G m F H) {p : Addr} (hp : H p = none) (o : HO) : Ex G (upd G p o) ∧ Wd K (upd G p o) m F (upd H p o) := by
  obtain ⟨hG, hm, hF⟩ := W.fresh hp
  have e : Ex G (upd G p o) := Ex.new hG
  refine ⟨e, fun a u h => ?_, fun a ds h => ?_, fun a u h => ?_, fun a u h => ?_⟩
  · by_cases q : a = p
    · subst q; rw [upd_same] at h ⊢; exact h
    · rw [upd_ne q] at h ⊢; exact W.ex a u h
  · have q : a ≠ p := fun z => by subst z; rw [hm] at h; cases h
    obtain ⟨h1, h2, xs, h3, h4⟩ := W.own a ds h
    exact ⟨by rw [upd_ne q]; exact h1, h2, xs, by rw [upd_ne q]; exact h3, h4.mono e⟩
  · have q : a ≠ p := fun z => by subst z; rw [hF] at h; cases h
    rw [upd_ne q]; exact W.fr a u h
  · have q : a ≠ p := fun z => by subst z; rw [hF] at h; cases h
    rw [upd_ne q]; exact W.frG a u h
/-- a new owned list -/
theorem Wd.newOwn (W : Wd K G m F H) {p : Addr} (hp : H p = none) {xs : List V} {ds : List D} (r : RpA K G xs ds) : m p = none ∧ Wd K G (m.up p ds) F (upd H p (.lst xs)) := by
  obtain ⟨hG, hm, hF⟩ := W.fresh hp
  refine ⟨hm, fun a u h => ?_, fun a es h => ?_, fun a u h => ?_, W.frG⟩
  · have q : a ≠ p := fun z => by subst z; rw [hG] at h; cases h
    rw [upd_ne q]; exact W.ex a u h
  · by_cases q : a = p
    · subst q
      rw [Mem.up_same] at h
      cases h
      exact ⟨hG, hF, xs, upd_same, r⟩
    · rw [Mem.up_ne q] at h
      obtain ⟨h1, h2, ys, h3, h4⟩ := W.own a es h
      exact ⟨h1, h2, ys, by rw [upd_ne q]; exact h3, h4⟩
  · have q : a ≠ p := fun z => by subst z; rw [hF] at h; cases h
    rw [upd_ne q]; exact W.fr a u h
/-- an owned list is changed -/
theorem Wd.put (W : Wd K G m F H) {p : Addr} {ds0 : List D} (hp : m p = some ds0) {xs : List V} {ds : List D} (r : RpA K G xs ds) : Wd K G (m.up p ds) F (upd H p (.lst xs)) := by
  obtain ⟨hG, hF, _⟩ := W.own p ds0 hp
  refine ⟨fun a u h => ?_, fun a es h => ?_, fun a u h => ?_, W.frG⟩
  · have q : a ≠ p := fun z => by subst z; rw [hG] at h; cases h
    rw [upd_ne q]; exact W.ex a u h
  · by_cases q : a = p
    · subst q
      rw [Mem.up_same] at h
      cases h
      exact ⟨hG, hF, xs, upd_same, r⟩
    · rw [Mem.up_ne q] at h
      obtain ⟨h1, h2, ys, h3, h4⟩ := W.own a es h
      exact ⟨h1, h2, ys, by rw [upd_ne q]; exact h3, h4⟩
  · have q : a ≠ p := fun z => by subst z; rw [hF] at h; cases h
    rw [upd_ne q]; exact W.fr a u h
/-- a frame more: one new object -/
theorem Wd.frame (W : Wd K G m F H) {p : Addr} (hp : H p = none) (o : HO) : Wd K G m (upd F p o) (upd H p o) := by
  obtain ⟨hG, hm, hF⟩ := W.fresh hp
  refine ⟨fun a u h => ?_, fun a ds e => ?_, fun a u e => ?_, fun a u e => ?_⟩
  · have q : a ≠ p := fun z => by subst z; rw [hG] at h; cases h
    rw [upd_ne q]; exact W.ex a u h
  · have q : a ≠ p := fun z => by subst z; rw [hm] at e; cases e
    obtain ⟨h1, h2, xs, h3, h4⟩ := W.own a ds e
    exact ⟨h1, by rw [upd_ne q]; exact h2, xs, by rw [upd_ne q]; exact h3, h4⟩
  · by_cases q : a = p
    · subst q; rw [upd_same] at e ⊢; exact e
    · rw [upd_ne q] at e ⊢; exact W.fr a u e
  · by_cases q : a = p
    · subst q; exact hG
    · rw [upd_ne q] at e; exact W.frG a u e
/-- the frame's object is changed -/
theorem Wd.reframe {p : Addr} {o : HO} (W : Wd K G m (upd F p o) H) (o' : HO) : Wd K G m (upd F p o') (upd H p o') := by
  have hG : G p = none := W.frG p o upd_same
  have hm : m p = none := by
    cases e : m p with
    | none => rfl
    | some ds =>
      obtain ⟨_, h, _⟩ := W.own p ds e
      rw [upd_same] at h; cases h
  refine ⟨fun a u h => ?_, fun a ds e => ?_, fun a u e => ?_, fun a u e => ?_⟩
  · have q : a ≠ p := fun z => by subst z; rw [hG] at h; cases h
    rw [upd_ne q]; exact W.ex a u h
  · have q : a ≠ p := fun z => by subst z; rw [hm] at e; cases e
    obtain ⟨h1, h2, xs, h3, h4⟩ := W.own a ds e
    rw [upd_ne q] at h2
    exact ⟨h1, by rw [upd_ne q]; exact h2, xs, by rw [upd_ne q]; exact h3, h4⟩
  · by_cases q : a = p
    · subst q; rw [upd_same] at e ⊢; exact e
    · rw [upd_ne q] at e ⊢
      exact W.fr a u (by rw [upd_ne q]; exact e)
  · by_cases q : a = p
    · subst q; exact hG
    · rw [upd_ne q] at e
      exact W.frG a u (by rw [upd_ne q]; exact e)
/-- the frame's object stands for good from here on -/
theorem Wd.adopt {p : Addr} {o : HO} (W : Wd K G m (upd F p o) H) (hF : F p = none) : Ex G (upd G p o) ∧ Wd K (upd G p o) m F H := by
  have hG : G p = none := W.frG p o upd_same
  have e : Ex G (upd G p o) := Ex.new hG
  refine ⟨e, fun a u h => ?_, fun a ds h => ?_, fun a u h => ?_, fun a u h => ?_⟩
  · by_cases q : a = p
    · subst q; rw [upd_same] at h; cases h; exact W.fr _ _ upd_same
    · rw [upd_ne q] at h; exact W.ex a u h
  · obtain ⟨h1, h2, xs, h3, h4⟩ := W.own a ds h
    have q : a ≠ p := fun z => by subst z; rw [upd_same] at h2; cases h2
    rw [upd_ne q] at h2
    exact ⟨by rw [upd_ne q]; exact h1, h2, xs, h3, h4.mono e⟩
  · have q : a ≠ p := fun z => by subst z; rw [hF] at h; cases h
    exact W.fr a u (by rw [upd_ne q]; exact h)
  · have q : a ≠ p := fun z => by subst z; rw [hF] at h; cases h
    rw [upd_ne q]
    exact W.frG a u (by rw [upd_ne q]; exact h)
end

/-! ### slots -/
abbrev En0 := List (Option D)
inductive En (K : Fg) (G : Hp) : L2.St → En0 → Prop
  | nil : En K G [] []
  | skip {o : Option V} {σ : L2.St} {ρ : En0} : En K G σ ρ → En K G (o :: σ) (none :: ρ)
  | has {v : V} {d : D} {σ : L2.St} {ρ : En0} : Rp K G v d → En K G σ ρ → En K G (some v :: σ) (some d :: ρ)
section
variable {K : Fg} {G G' : Hp}
theorem En.mono (e : Ex G G') : ∀ {σ : L2.St} {ρ : En0}, En K G σ ρ → En K G' σ ρ
  | _, _, .nil => .nil
  | _, _, .skip t => .skip (En.mono e t)
  | _, _, .has r t => .has (r.mono e) (En.mono e t)
theorem En.get : ∀ {σ : L2.St} {ρ : En0} {i : Nat} {d : D}, En K G σ ρ → ρ[i]? = some (some d) → ∃ v, σ[i]? = some (some v) ∧ Rp K G v d
  | _, _, _, _, .nil, e => by simp at e
  | _, _, 0, _, .skip _, e => by simp at e
  | _, _, 0, _, .has r _, e => by simp at e; subst e; exact ⟨_, rfl, r⟩
  | _, _, i + 1, d, .skip t, e => by
    obtain ⟨v, h1, h2⟩ := En.get (i := i) (d := d) t (by simpa using e)
    exact ⟨v, by simpa using h1, h2⟩
  | _, _, i + 1, d, .has _ t, e => by
    obtain ⟨v, h1, h2⟩ := En.get (i := i) (d := d) t (by simpa using e)
    exact ⟨v, by simpa using h1, h2⟩
theorem En.put {v : V} {d : D} (r : Rp K G v d) : ∀ {σ : L2.St} {ρ : En0} (i : Nat), En K G σ ρ → En K G (σ.set i (some v)) (ρ.set i (some d))
  | _, _, _, .nil => .nil
  | _, _, 0, .skip t => .has r t
  | _, _, 0, .has _ t => .has r t
  | _, _, i + 1, .skip t => .skip (En.put r i t)
  | _, _, i + 1, .has q t => .has q (En.put r i t)
theorem En.del : ∀ {σ : L2.St} {ρ : En0} (i : Nat), En K G σ ρ → En K G (σ.set i none) (ρ.set i none)
  | _, _, _, .nil => .nil
  | _, _, 0, .skip t => .skip t
  | _, _, 0, .has _ t => .skip t
  | _, _, i + 1, .skip t => .skip (En.del i t)
  | _, _, i + 1, .has q t => .has q (En.del i t)
def wipeD (ρ : En0) : List Nat → En0
  | [] => ρ
  | v :: vs => (wipeD ρ vs).set v none
theorem En.wipe {σ : L2.St} {ρ : En0} (e : En K G σ ρ) : ∀ vs : List Nat, En K G (L2.wipe σ vs) (wipeD ρ vs)
  | [] => e
  | v :: vs => (En.wipe e vs).del v
theorem En.blank : ∀ (σ : L2.St), En K G σ (List.replicate σ.length Option.none)
  | [] => .nil
  | o :: σ => .skip (En.blank σ)
theorem En.start : ∀ {vs : List V} {ds : List D} (n : Nat), RpA K G vs ds → En K G (vs.map some ++ List.replicate n none) (ds.map some ++ List.replicate n none)
  | _, _, n, .nil => by
    have q := En.blank (K := K) (G := G) (List.replicate n Option.none)
    rw [List.length_replicate] at q
    exact q
  | _, _, n, .cons r t => .has r (En.start n t)
end

/-! ### readings by data -/
/-- an exception: its class's name, its field -/
structure Xn where
  cls : Str
  fld : Str
  val : D
abbrev XQ := Xn → Mem → Prop
abbrev WE := En0 → Mem → (D → Mem → Prop) → XQ → Prop
abbrev WT := En0 → Mem → (Bool → Mem → Prop) → XQ → Prop
abbrev WA := En0 → Mem → (List D → Mem → Prop) → XQ → Prop
abbrev WO := En0 → Mem → (Option Int → Mem → Prop) → XQ → Prop
structure De where
  nx : En0 → Mem → Prop
  rt : D → Mem → Prop
  bk : En0 → Mem → Prop := fun _ _ => False
  ct : En0 → Mem → Prop := fun _ _ => False
  ex : XQ := fun _ _ => False
abbrev WS := De → En0 → Mem → Prop
/-- the exception's own dict bears its field -/
def Xr (K : Fg) (G : Hp) (x : Xn) (d : Option Addr) : Prop := ∃ dd v, d = some dd ∧ G dd = some (.xd [(x.fld, v)]) ∧ Rp K G v x.val
theorem Xr.mono {K : Fg} {G G' : Hp} {x : Xn} {d : Option Addr} (e : Ex G G') (h : Xr K G x d) : Xr K G' x d := by
  obtain ⟨dd, v, h1, h2, h3⟩ := h
  exact ⟨dd, v, h1, e _ _ h2, h3.mono e⟩
/-- a wish about exceptions, by the class's name -/
abbrev Wx := Str → Option Addr → L2.St → Hp → Prop
/-- what is raised is what W wishes -/
def FitX (K : Fg) (W : Wx) (G : Hp) (F : Hp) (Qx : XQ) : Prop := ∀ x m' d σ' G' H', Qx x m' → Ex G G' → Wd K G' m' F H' → Xr K G' x d → W x.cls d σ' H'
theorem FitX.mono {K : Fg} {W : Wx} {G G' : Hp} {F : Hp} {Qx : XQ} (f : FitX K W G F Qx) (e : Ex G G') : FitX K W G' F Qx := fun x m' d σ' G2 H' q e2 => f x m' d σ' G2 H' q (e.trans e2)
def FitE (K : Fg) (G : Hp) (F : Hp) (Q : VK) (Qd : D → Mem → Prop) : Prop := ∀ d m' v G' H', Qd d m' → Ex G G' → Wd K G' m' F H' → Rp K G' v d → Q v H'
def LiftE (K : Fg) (W : Wx) (t : TE) (w : WE) : Prop := ∀ G m F H σ ρ (Q : VK) (Qd : D → Mem → Prop) (Qx : XQ), Wd K G m F H → En K G σ ρ → w ρ m Qd Qx → FitX K W G F Qx → FitE K G F Q Qd → t σ H Q
def LiftT (K : Fg) (W : Wx) (t : TT) (w : WT) : Prop := ∀ G m F H σ ρ (Q : Bool → Hp → Prop) (Qd : Bool → Mem → Prop) (Qx : XQ), Wd K G m F H → En K G σ ρ → w ρ m Qd Qx → FitX K W G F Qx →
  (∀ b m' G' H', Qd b m' → Ex G G' → Wd K G' m' F H' → Q b H') → t σ H Q
def LiftO (K : Fg) (W : Wx) (t : TO) (w : WO) : Prop := ∀ G m F H σ ρ (Q : Option Int → Hp → Prop) (Qd : Option Int → Mem → Prop) (Qx : XQ), Wd K G m F H → En K G σ ρ → w ρ m Qd Qx → FitX K W G F Qx →
  (∀ b m' G' H', Qd b m' → Ex G G' → Wd K G' m' F H' → Q b H') → t σ H Q
def LiftA (K : Fg) (W : Wx) (t : TA) (w : WA) : Prop := ∀ G m F H σ ρ (Q : List V → Hp → Prop) (Qd : List D → Mem → Prop) (Qx : XQ), Wd K G m F H → En K G σ ρ → w ρ m Qd Qx → FitX K W G F Qx →
  (∀ ds m' vs G' H', Qd ds m' → Ex G G' → Wd K G' m' F H' → RpA K G' vs ds → Q vs H') → t σ H Q
structure FitS (K : Fg) (W : Wx) (G : Hp) (F : Hp) (E : De) (S : Ends) : Prop where
  nx : ∀ ρ' m' σ' G' H', E.nx ρ' m' → Ex G G' → Wd K G' m' F H' → En K G' σ' ρ' → S.nx σ' H'
  rt : ∀ d m' v G' H', E.rt d m' → Ex G G' → Wd K G' m' F H' → Rp K G' v d → S.rt v H'
  bk : ∀ ρ' m' σ' G' H', E.bk ρ' m' → Ex G G' → Wd K G' m' F H' → En K G' σ' ρ' → S.bk σ' H'
  ct : ∀ ρ' m' σ' G' H', E.ct ρ' m' → Ex G G' → Wd K G' m' F H' → En K G' σ' ρ' → S.ct σ' H'
  ex : FitX K W G F E.ex
theorem FitS.mono {K : Fg} {W : Wx} {G G' : Hp} {F : Hp} {E : De} {S : Ends} (f : FitS K W G F E S) (e : Ex G G') : FitS K W G' F E S :=
  ⟨fun a b c G2 H' q e2 => f.nx a b c G2 H' q (e.trans e2), fun a b c G2 H' q e2 => f.rt a b c G2 H' q (e.trans e2), fun a b c G2 H' q e2 => f.bk a b c G2 H' q (e.trans e2), fun a b c G2 H' q e2 => f.ct a b c G2 H' q (e.trans e2), f.ex.mono e⟩
def LiftS (K : Fg) (W : Wx) (t : TS) (w : WS) : Prop := ∀ G m F H σ ρ (S : Ends) (E : De), Wd K G m F H → En K G σ ρ → w E ρ m → FitS K W G F E S → t S σ H

/-- a family of contexts of one def -/
structure Fam (P : Program) (w : World) (K : Fg) (mg : Str → Option Value) (base : Heap) (k : Nat) (N : List Str) {ι : Type} (X : ι → Cx) : Prop where
  prog : ∀ i, (X i).prog = P
  w : ∀ i, (X i).w = w
  K : ∀ i, (X i).K = K
  mg : ∀ i, (X i).mg = mg
  base : ∀ i, (X i).base = base
  hN : ∀ i, (X i).N = N
  calm : ∀ i, (X i).calm = true
  room : ∀ i, Room k (X i).A
  nd : N.Nodup

def PD (K : Fg) (W : Wx) {ι : Type} (X : ι → Cx) (e : Expr) (w : WE) : Prop := ∃ t, (∀ i, PE (X i) e t) ∧ LiftE K W t w
def PDT (K : Fg) (W : Wx) {ι : Type} (X : ι → Cx) (e : Expr) (w : WT) : Prop := ∃ t, (∀ i, PT (X i) e t) ∧ LiftT K W t w
def PDW (K : Fg) (W : Wx) {ι : Type} (X : ι → Cx) (e : Expr) (w : WT) : Prop := ∃ t, (∀ i, PW (X i) e t) ∧ LiftT K W t w
def PDO (K : Fg) (W : Wx) {ι : Type} (X : ι → Cx) (e : Option Expr) (w : WO) : Prop := ∃ t, (∀ i, PO (X i) e t) ∧ LiftO K W t w
def PDA (K : Fg) (W : Wx) {ι : Type} (X : ι → Cx) (es : List Expr) (w : WA) : Prop := ∃ t, (∀ i, PA (X i) es t) ∧ LiftA K W t w
def PDS (K : Fg) (W : Wx) {ι : Type} (X : ι → Cx) (s : Stmt) (w : WS) : Prop := ∃ t, (∀ i, PS (X i) s t) ∧ LiftS K W t w
def PDB (K : Fg) (W : Wx) {ι : Type} (X : ι → Cx) (s : List Stmt) (w : WS) : Prop := ∃ t, (∀ i, PSs (X i) s t) ∧ LiftS K W t w

/-! ### names, constants -/
def wVar (i : Nat) : WE := fun ρ m Q _ => match ρ[i]? with
  | some (some d) => Q d m
  | _ => False
def wC (d : D) : WE := fun _ m Q _ => Q d m
section
variable {K : Fg} {W : Wx} {ι : Type} {X : ι → Cx} {pos : Pos}
theorem lift_var {i : Nat} : LiftE K W (tVar i) (wVar i) := by
  intro G m F H σ ρ Q Qd Qx hW hE h hX hQ
  unfold wVar at h
  split at h
  · rename_i d e
    obtain ⟨v, h1, h2⟩ := hE.get e
    exact ⟨v, h1, hQ d m v G H h (Ex.refl G) hW h2⟩
  · cases h
theorem pd_var (i : Nat) {N : List Str} {x : Str} (hX : ∀ j, (X j).N = N) (hN : N[i]? = some x := by rfl) (hv : ∀ j, Vis (X j).env.scope x := by intro _; first | exact Or.inl rfl | exact Or.inr (Or.inl rfl) | exact Or.inr (Or.inr rfl)) (hd : (x == ("__debug__" : Str)) = false := by decide) (hc : (x == ("__classdict__" : Str)) = false := by decide) : PD K W X (.Name x pos) (wVar i) :=
  ⟨tVar i, fun j => pe_var (by rw [hX j]; exact hN) (hv j) hd hc, lift_var⟩
theorem lift_c {v : V} {d : D} (r : ∀ G, Rp K G v d) : LiftE K W (tC v) (wC d) := fun G m F H σ ρ Q Qd Qx hW hE h hX hQ => hQ d m v G H h (Ex.refl G) hW (r G)
theorem pd_int {i : Int} {j : Nat} : PD K W X (.Constant (.int i) j pos) (wC (.int i)) := ⟨_, fun _ => pe_int, lift_c fun _ => .int i⟩
theorem pd_bl {b : Bool} {j : Nat} : PD K W X (.Constant (.bool b) j pos) (wC (.bl b)) := ⟨_, fun _ => pe_bl, lift_c fun _ => .bl b⟩
theorem pd_non {j : Nat} : PD K W X (.Constant .none j pos) (wC .non) := ⟨_, fun _ => pe_non, lift_c fun _ => .non⟩
theorem pd_str {x : Str} {j : Nat} : PD K W X (.Constant (.str x) j pos) (wC (.str x)) := ⟨_, fun _ => pe_str, lift_c fun _ => .str x⟩
/-- a built-in type's name as a value -/
theorem pd_ty {mg : Str → Option Value} {x : Str} {n : String} (hX : ∀ j, (X j).mg = mg) (hm : mg x = none) (hv : bootBuiltins x = some (.type n)) (hg : ∀ j, Gl (X j) x := by intro _; rfl) (hn : x ≠ "__name__" := by decide) (hd : (x == ("__debug__" : Str)) = false := by decide) :
    PD K W X (.Name x pos) (wC (.ty n)) := ⟨tC (.ty n), fun j => pe_bltn (hg j) (by rw [hX j]; exact hm) hv rfl hn hd, lift_c fun _ => .ty n⟩
/-- a constant of the module -/
theorem pd_glob {mg : Str → Option Value} {x : Str} {v : V} {u : Value} {d : D} (hX : ∀ j, (X j).mg = mg) (hm : mg x = some u) (r : RelV v u) (rp : ∀ G, Rp K G v d) (hg : ∀ j, Gl (X j) x := by intro _; rfl) (hd : (x == ("__debug__" : Str)) = false := by decide) :
    PD K W X (.Name x pos) (wC d) := ⟨_, fun j => pe_glob (hg j) (by rw [hX j]; exact hm) r hd, lift_c rp⟩
theorem pd_globI {mg : Str → Option Value} {x : Str} {i : Int} (hX : ∀ j, (X j).mg = mg) (hm : ∃ t, mg x = some (.int i t)) (hg : ∀ j, Gl (X j) x := by intro _; rfl) (hd : (x == ("__debug__" : Str)) = false := by decide) : PD K W X (.Name x pos) (wC (.int i)) := by
  obtain ⟨t, hm⟩ := hm
  exact pd_glob (v := V.int i) hX hm ⟨t, rfl⟩ (fun _ => .int i) hg hd
end

/-! ### operators -/
abbrev WR := D → D → Mem → (D → Mem → Prop) → Prop
def LiftR (K : Fg) (r : R2) (w : WR) : Prop := ∀ G m F H x y dx dy (Q : VK) (Qd : D → Mem → Prop), Wd K G m F H → Rp K G x dx → Rp K G y dy → w dx dy m Qd → FitE K G F Q Qd → r x y H Q
def wOp (r : WR) (a b : WE) : WE := fun ρ m Q Qx => a ρ m (fun x m1 => b ρ m1 (fun y m2 => r x y m2 Q) Qx) Qx
theorem lift_op {K : Fg} {W : Wx} {r : R2} {w : WR} {ta tb : TE} {a b : WE} (hr : LiftR K r w) (ha : LiftE K W ta a) (hb : LiftE K W tb b) : LiftE K W (tOp r ta tb) (wOp w a b) := by
  intro G m F H σ ρ Q Qd Qx hW hE h hX hQ
  refine ha G m F H σ ρ _ _ Qx hW hE h hX ?_
  intro dx m1 x G1 H1 h1 e1 W1 r1
  refine hb G1 m1 F H1 σ ρ _ _ Qx W1 (hE.mono e1) h1 (hX.mono e1) ?_
  intro dy m2 y G2 H2 h2 e2 W2 r2
  exact hr G2 m2 F H2 x y dx dy Q Qd W2 (r1.mono e2) r2 h2 fun d m' v G' H' q e => hQ d m' v G' H' q ((e1.trans e2).trans e)
theorem LiftR.or {K : Fg} {r r' : R2} {w w' : WR} (h : LiftR K r w) (h' : LiftR K r' w') : LiftR K (fun x y H Q => r x y H Q ∨ r' x y H Q) (fun x y m Q => w x y m Q ∨ w' x y m Q) := by
  intro G m F H x y dx dy Q Qd hW rx ry h0 hQ
  rcases h0 with h0 | h0
  · exact Or.inl (h G m F H x y dx dy Q Qd hW rx ry h0 hQ)
  · exact Or.inr (h' G m F H x y dx dy Q Qd hW rx ry h0 hQ)
theorem LiftR.imp {K : Fg} {r : R2} {w w' : WR} (h : LiftR K r w) (hi : ∀ x y m Q, w' x y m Q → w x y m Q) : LiftR K r w' := fun G m F H x y dx dy Q Qd hW rx ry h0 hQ => h G m F H x y dx dy Q Qd hW rx ry (hi dx dy m Qd h0) hQ

theorem FitE.here {K : Fg} {G F H : Hp} {m : Mem} {Q : VK} {Qd : D → Mem → Prop} (hQ : FitE K G F Q Qd) (hW : Wd K G m F H) {d : D} {v : V} (q : Qd d m) (r : Rp K G v d) : Q v H := hQ d m v G H q (Ex.refl G) hW r
/-- a new list, a new tuple -/
theorem FitE.lst {K : Fg} {G F H : Hp} {m : Mem} {Q : VK} {Qd : D → Mem → Prop} (hQ : FitE K G F Q Qd) (hW : Wd K G m F H) {ds : List D} {xs : List V} (q : Qd (.lst ds) m) (r : RpA K G xs ds) : ∀ p, H p = none → Q (.ref p) (upd H p (.lst xs)) := fun p hp => by
  obtain ⟨e, W'⟩ := hW.new hp (.lst xs)
  exact hQ _ m _ _ _ q e W' (.lst upd_same (r.mono e))
theorem FitE.tup {K : Fg} {G F H : Hp} {m : Mem} {Q : VK} {Qd : D → Mem → Prop} (hQ : FitE K G F Q Qd) (hW : Wd K G m F H) {ds : List D} {xs : List V} (q : Qd (.tup ds) m) (r : RpA K G xs ds) : ∀ p, H p = none → Q (.ref p) (upd H p (.tup xs)) := fun p hp => by
  obtain ⟨e, W'⟩ := hW.new hp (.tup xs)
  exact hQ _ m _ _ _ q e W' (.tup (SqT.of upd_same) (r.mono e))
theorem Rp.seqT {K : Fg} {G H : Hp} {a : Addr} {ds : List D} (e : Ex G H) (r : Rp K G (.ref a) (.tup ds)) : ∃ xs, SqT K H a xs ∧ RpA K G xs ds := by
  cases r with
  | tup h q => exact ⟨_, Evl.ex_t e h, q⟩

/-! ### + - * // % ** -/
def dAdd : WR := fun x y m Q => match x, y with
  | .int i, .int j => Q (.int (i + j)) m
  | .str a, .str b => a.length + b.length ≤ sizeLine ∧ Q (.str (a ++ b)) m
  | .lst a, .lst b => a.length + b.length ≤ sizeLine ∧ Q (.lst (a ++ b)) m
  | .tup a, .tup b => a.length + b.length ≤ sizeLine ∧ Q (.tup (a ++ b)) m
  | _, _ => False
def rAdd (K : Fg) : R2 := fun x y H Q => (rI0 (fun i j => .int (i + j)) x y H Q ∨ (∃ i j, x = .str i ∧ y = .str j ∧ i.length + j.length ≤ sizeLine ∧ Q (.str (i ++ j)) H)) ∨ (rCat x y H Q ∨ rCatA K x y H Q)
theorem op_addU {X : Cx} : OpR X (binaryOp .Add) (rAdd X.K) := (op_add.or op_add_str).or (op_cat.or op_catA)
theorem lift_add {K : Fg} : LiftR K (rAdd K) dAdd := by
  intro G m F H x y dx dy Q Qd hW rx ry h hQ
  cases rx <;> cases ry <;> first | exact (show False from h).elim | skip
  case int.int i j => exact Or.inl (Or.inl ⟨i, j, rfl, rfl, hQ.here hW h (.int _)⟩)
  case str.str a b => exact Or.inl (Or.inr ⟨a, b, rfl, rfl, h.1, hQ.here hW h.2 (.str _)⟩)
  case lst.lst a xs ds h1 r1 b ys es h2 r2 =>
    refine Or.inr (Or.inl ⟨a, b, xs, ys, rfl, rfl, hW.ex _ _ h1, hW.ex _ _ h2, by rw [r1.len, r2.len]; exact h.1, ?_⟩)
    exact hQ.lst hW h.2 (r1.app r2)
  case tup.tup a xs ds h1 r1 b ys es h2 r2 =>
    refine Or.inr (Or.inr ⟨a, b, xs, ys, rfl, rfl, Evl.ex_t hW.ex h1, Evl.ex_t hW.ex h2, by rw [r1.len, r2.len]; exact h.1, fun e => ?_, fun _ e => ?_, fun _ _ => hQ.tup hW h.2 (r1.app r2)⟩)
    · subst e
      cases r1
      exact hQ.here hW h.2 (.tup h2 r2)
    · subst e
      cases r2
      have q := h.2
      rw [List.append_nil] at q
      exact hQ.here hW q (.tup h1 r1)
def dSub : WR := fun x y m Q => match x, y with
  | .int i, .int j => Q (.int (i - j)) m
  | _, _ => False
theorem lift_sub {K : Fg} : LiftR K (rI0 fun i j => .int (i - j)) dSub := by
  intro G m F H x y dx dy Q Qd hW rx ry h hQ
  cases rx <;> cases ry <;> first | exact (show False from h).elim | skip
  case int.int i j => exact ⟨i, j, rfl, rfl, hQ.here hW h (.int _)⟩
def dMul : WR := fun x y m Q => match x, y with
  | .int i, .int j => (CMul i j ∨ CMulW i j) ∧ Q (.int (i * j)) m
  | .lst a, .int k => (-(2 ^ 63) ≤ k ∧ k < 2 ^ 63 ∧ a.length * k.toNat ≤ sizeLine) ∧ Q (.lst (List.replicate k.toNat a).flatten) m
  | _, _ => False
def rMul : R2 := fun x y H Q => (rI CMul (fun i j => .int (i * j)) x y H Q ∨ rI CMulW (fun i j => .int (i * j)) x y H Q) ∨ rRep x y H Q
theorem op_mulU {X : Cx} : OpR X (binaryOp .Mult) rMul := (op_mul.or op_mulW).or op_rep
theorem lift_mul {K : Fg} : LiftR K rMul dMul := by
  intro G m F H x y dx dy Q Qd hW rx ry h hQ
  cases rx <;> cases ry <;> first | exact (show False from h).elim | skip
  case int.int i j =>
    rcases h.1 with c | c
    · exact Or.inl (Or.inl ⟨i, j, rfl, rfl, c, hQ.here hW h.2 (.int _)⟩)
    · exact Or.inl (Or.inr ⟨i, j, rfl, rfl, c, hQ.here hW h.2 (.int _)⟩)
  case lst.int a xs ds h1 r1 k =>
    exact Or.inr ⟨a, k, xs, rfl, rfl, hW.ex _ _ h1, h.1.1, h.1.2.1, by rw [r1.len]; exact h.1.2.2, hQ.lst hW h.2 (r1.rep _)⟩
def dDiv : WR := fun x y m Q => match x, y with
  | .int i, .int j => CDivW i j ∧ Q (.int (i / j)) m
  | _, _ => False
theorem lift_div {K : Fg} : LiftR K (rI CDivW fun i j => .int (i / j)) dDiv := by
  intro G m F H x y dx dy Q Qd hW rx ry h hQ
  cases rx <;> cases ry <;> first | exact (show False from h).elim | skip
  case int.int i j => exact ⟨i, j, rfl, rfl, h.1, hQ.here hW h.2 (.int _)⟩
def dMod : WR := fun x y m Q => match x, y with
  | .int i, .int j => 0 < j ∧ Q (.int (i % j)) m
  | _, _ => False
theorem lift_mod {K : Fg} : LiftR K (rI (fun _ j => 0 < j) fun i j => .int (i % j)) dMod := by
  intro G m F H x y dx dy Q Qd hW rx ry h hQ
  cases rx <;> cases ry <;> first | exact (show False from h).elim | skip
  case int.int i j => exact ⟨i, j, rfl, rfl, h.1, hQ.here hW h.2 (.int _)⟩
def dPow : WR := fun x y m Q => match x, y with
  | .int i, .int j => CPow i j ∧ Q (.int (i ^ j.toNat)) m
  | _, _ => False
theorem lift_pow {K : Fg} : LiftR K (rI CPow fun i j => .int (i ^ j.toNat)) dPow := by
  intro G m F H x y dx dy Q Qd hW rx ry h hQ
  cases rx <;> cases ry <;> first | exact (show False from h).elim | skip
  case int.int i j => exact ⟨i, j, rfl, rfl, h.1, hQ.here hW h.2 (.int _)⟩

/-! ### comparisons -/
mutual
/-- data as the library's plain data; what is no list, tuple or flat thing becomes a dict (which no rule takes) -/
def py : D → PyData
  | .non => .none
  | .bl b => .bool b
  | .int i => .int i
  | .str x => .str x
  | .lst ds => .list (pyA ds)
  | .tup ds => .tuple (pyA ds)
  | .scr ns => .list (ns.map .int)
  | .ty _ => .dict [] | .dct _ _ => .dict [] | .box _ => .dict [] | .obj _ _ _ => .dict []
def pyA : List D → List PyData
  | [] => []
  | d :: ds => py d :: pyA ds
end
theorem dp_ints {K : Fg} {H : Hp} : ∀ ns : List Int, DpAll K H (ns.map V.int) (ns.map PyData.int)
  | [] => .nil
  | n :: ns => .cons (.int n) (dp_ints ns)
mutual
theorem dp_of {K : Fg} {G H : Hp} (e : Ex G H) : ∀ (d : D) {v : V}, Rp K G v d → (py d).canLay0 = true → Dp K H v (py d)
  | .non, _, r, _ => by cases r; exact .non
  | .bl b, _, r, _ => by cases r; exact .bl b
  | .int i, _, r, _ => by cases r; exact .int i
  | .str x, _, r, _ => by cases r; exact .str x
  | .lst ds, _, r, c => by
    cases r with
    | lst h q => exact .lst (SqL.of (e _ _ h)) (dpa_of e ds q (by simpa [py, PyData.canLay0] using c))
  | .tup ds, _, r, c => by
    cases r with
    | tup h q => exact .tup (Evl.ex_t e h) (dpa_of e ds q (by simpa [py, PyData.canLay0] using c))
  | .scr ns, _, r, c => by
    cases r with
    | scr h => exact .lst (Evl.ex_l e h) (dp_ints ns)
  | .ty _, _, _, c => by simp [py, PyData.canLay0] at c
  | .dct _ _, _, _, c => by simp [py, PyData.canLay0] at c
  | .box _, _, _, c => by simp [py, PyData.canLay0] at c
  | .obj _ _ _, _, _, c => by simp [py, PyData.canLay0] at c
theorem dpa_of {K : Fg} {G H : Hp} (e : Ex G H) : ∀ (ds : List D) {vs : List V}, RpA K G vs ds → PyData.canLayAll0 (pyA ds) = true → DpAll K H vs (pyA ds)
  | [], _, r, _ => by cases r; exact .nil
  | d :: ds, _, r, c => by
    cases r with
    | cons r t =>
      have c' : (py d).canLay0 = true ∧ PyData.canLayAll0 (pyA ds) = true := by simpa [pyA, PyData.canLayAll0] using c
      exact .cons (dp_of e d r c'.1) (dpa_of e ds t c'.2)
end
def dEqB (b : Bool) : WR := fun x y m Q => match x, y with
  | .int i, .int j => Q (.bl (decide (i = j) ^^ b)) m
  | .str i, .str j => Q (.bl (decide (i = j) ^^ b)) m
  | .bl i, .bl j => Q (.bl (decide (i = j) ^^ b)) m
  | x, y => SeqAt.shaped (py x) = true ∧ SeqAt.shaped (py y) = true ∧ Q (.bl (PyData.eqv (py x) (py y) ^^ b)) m
abbrev dEq : WR := dEqB false
abbrev dNe : WR := dEqB true
def rEqU (K : Fg) : R2 := fun x y H Q => rEq x y H Q ∨ rEqD K x y H Q
def rNeU (K : Fg) : R2 := fun x y H Q => rNe x y H Q ∨ rNeD K x y H Q
theorem op_eqU {X : Cx} (hu : X.A.units + 64 < cLine) : OpR X (compareOp .Eq) (rEqU X.K) := op_eq.or (op_eqD hu)
theorem op_neU {X : Cx} (hu : X.A.units + 64 < cLine) : OpR X (compareOp .NotEq) (rNeU X.K) := op_ne.or (op_neD hu)
theorem shaped_lay {d : PyData} (h : SeqAt.shaped d = true) : d.canLay0 = true := SeqAt.canLay_of_shaped h
theorem eq_gen {K : Fg} {G H : Hp} {x y : V} {dx dy : D} (e : Ex G H) (rx : Rp K G x dx) (ry : Rp K G y dy) (h1 : SeqAt.shaped (py dx) = true) (h2 : SeqAt.shaped (py dy) = true) :
    Dp K H x (py dx) ∧ Dp K H y (py dy) := ⟨dp_of e dx rx (shaped_lay h1), dp_of e dy ry (shaped_lay h2)⟩
theorem lift_eq {K : Fg} : LiftR K (rEqU K) dEq := by
  intro G m F H x y dx dy Q Qd hW rx ry h hQ
  unfold dEq dEqB at h
  split at h
  · cases rx; cases ry
    refine Or.inl ⟨rfl, ?_⟩
    rename_i i j
    have e : decide (V.int i = V.int j) = (decide (i = j) ^^ false) := by simp
    rw [e]; exact hQ.here hW h (.bl _)
  · cases rx; cases ry
    refine Or.inl ⟨rfl, ?_⟩
    rename_i i j
    have e : decide (V.str i = V.str j) = (decide (i = j) ^^ false) := by simp
    rw [e]; exact hQ.here hW h (.bl _)
  · cases rx; cases ry
    refine Or.inl ⟨rfl, ?_⟩
    rename_i i j
    have e : decide (V.bl i = V.bl j) = (decide (i = j) ^^ false) := by simp
    rw [e]; exact hQ.here hW h (.bl _)
  · obtain ⟨h1, h2, h3⟩ := h
    obtain ⟨p1, p2⟩ := eq_gen hW.ex rx ry h1 h2
    rw [Bool.xor_false] at h3
    exact Or.inr ⟨_, _, p1, p2, h1, h2, hQ.here hW h3 (.bl _)⟩
theorem lift_ne {K : Fg} : LiftR K (rNeU K) dNe := by
  intro G m F H x y dx dy Q Qd hW rx ry h hQ
  unfold dNe dEqB at h
  split at h
  · cases rx; cases ry
    refine Or.inl ⟨rfl, ?_⟩
    rename_i i j
    have e : (!decide (V.int i = V.int j)) = (decide (i = j) ^^ true) := by simp
    rw [e]; exact hQ.here hW h (.bl _)
  · cases rx; cases ry
    refine Or.inl ⟨rfl, ?_⟩
    rename_i i j
    have e : (!decide (V.str i = V.str j)) = (decide (i = j) ^^ true) := by simp
    rw [e]; exact hQ.here hW h (.bl _)
  · cases rx; cases ry
    refine Or.inl ⟨rfl, ?_⟩
    rename_i i j
    have e : (!decide (V.bl i = V.bl j)) = (decide (i = j) ^^ true) := by simp
    rw [e]; exact hQ.here hW h (.bl _)
  · obtain ⟨h1, h2, h3⟩ := h
    obtain ⟨p1, p2⟩ := eq_gen hW.ex rx ry h1 h2
    rw [Bool.xor_true] at h3
    exact Or.inr ⟨_, _, p1, p2, h1, h2, hQ.here hW h3 (.bl _)⟩
def dCmp (fi : Int → Int → Bool) (fs : List Nat → List Nat → Bool) : WR := fun x y m Q => match x, y with
  | .int i, .int j => Q (.bl (fi i j)) m
  | .str a, .str b => Q (.bl (fs a.cps.toList b.cps.toList)) m
  | _, _ => False
def rCmp (fi : Int → Int → Bool) (fs : List Nat → List Nat → Bool) : R2 := fun x y H Q => rI0 (fun i j => .bl (fi i j)) x y H Q ∨ (∃ i j, x = .str i ∧ y = .str j ∧ Q (.bl (fs i.cps.toList j.cps.toList)) H)
theorem lift_cmp {K : Fg} {fi : Int → Int → Bool} {fs : List Nat → List Nat → Bool} : LiftR K (rCmp fi fs) (dCmp fi fs) := by
  intro G m F H x y dx dy Q Qd hW rx ry h hQ
  cases rx <;> cases ry <;> first | exact (show False from h).elim | skip
  case int.int i j => exact Or.inl ⟨i, j, rfl, rfl, hQ.here hW h (.bl _)⟩
  case str.str i j => exact Or.inr ⟨i, j, rfl, rfl, hQ.here hW h (.bl _)⟩
abbrev dLt : WR := dCmp (fun i j => decide (i < j)) (fun a b => decide (a < b))
abbrev dLe : WR := dCmp (fun i j => decide (i ≤ j)) (fun a b => !decide (b < a))
abbrev dGt : WR := dCmp (fun i j => decide (j < i)) (fun a b => decide (b < a))
abbrev dGe : WR := dCmp (fun i j => decide (j ≤ i)) (fun a b => !decide (a < b))
theorem op_ltU {X : Cx} : OpR X (compareOp .Lt) (rCmp (fun i j => decide (i < j)) (fun a b => decide (a < b))) := op_lt.or op_lt_str
theorem op_leU {X : Cx} : OpR X (compareOp .LtE) (rCmp (fun i j => decide (i ≤ j)) (fun a b => !decide (b < a))) := op_le.or op_le_str
theorem op_gtU {X : Cx} : OpR X (compareOp .Gt) (rCmp (fun i j => decide (j < i)) (fun a b => decide (b < a))) := op_gt.or op_gt_str
theorem op_geU {X : Cx} : OpR X (compareOp .GtE) (rCmp (fun i j => decide (j ≤ i)) (fun a b => !decide (a < b))) := op_ge.or op_ge_str
/-- flat data, their equality -/
def flatD : D → Bool
  | .non => true | .bl _ => true | .int _ => true | .str _ => true | _ => false
def eqD : D → D → Bool
  | .non, .non => true
  | .bl a, .bl b => a == b
  | .bl a, .int b => (if a then 1 else 0) == b
  | .int a, .bl b => a == (if b then 1 else 0)
  | .int a, .int b => a == b
  | .str a, .str b => a == b
  | _, _ => false
def inD (x : D) (ds : List D) : Bool := ds.any fun y => eqD y x
theorem flat_of {K : Fg} {G : Hp} {v : V} {d : D} (r : Rp K G v d) (h : flatD d = true) : flatV v = true := by
  cases r <;> first | rfl | cases h
theorem flats_of {K : Fg} {G : Hp} : ∀ {vs : List V} {ds : List D}, RpA K G vs ds → ds.all flatD = true → vs.all flatV = true
  | _, _, .nil, _ => rfl
  | _, _, .cons r t, h => by
    rw [List.all_cons, Bool.and_eq_true] at h
    rw [List.all_cons, flat_of r h.1, flats_of t h.2]
    rfl
theorem eqv_of {K : Fg} {G : Hp} {v w : V} {d e : D} (r : Rp K G v d) (q : Rp K G w e) (h : flatD d = true) (h' : flatD e = true) : eqV v w = eqD d e := by
  cases r <;> first | (cases h; done) | (cases q <;> first | (cases h'; done) | rfl)
theorem inv_of {K : Fg} {G : Hp} {x : V} {dx : D} (rx : Rp K G x dx) (hx : flatD dx = true) : ∀ {vs : List V} {ds : List D}, RpA K G vs ds → ds.all flatD = true → inV x vs = inD dx ds
  | _, _, .nil, _ => rfl
  | _, _, .cons r t, h => by
    rw [List.all_cons, Bool.and_eq_true] at h
    have ih := inv_of rx hx t h.2
    unfold inV inD at ih ⊢
    rw [List.any_cons, List.any_cons, eqv_of r rx h.1 hx, ih]
def dInB (neg : Bool) : WR := fun x y m Q => match x, y with
  | .str a, .str z => (∃ c, a = ⟨#[c]⟩ ∧ Q (.bl (decide (c ∈ z.cps.toList) ^^ neg)) m)
  | x, .lst ds => flatD x = true ∧ ds.all flatD = true ∧ Q (.bl (inD x ds ^^ neg)) m
  | x, .tup ds => flatD x = true ∧ ds.all flatD = true ∧ Q (.bl (inD x ds ^^ neg)) m
  | _, _ => False
abbrev dIn : WR := dInB false
abbrev dNotIn : WR := dInB true
def rInU (K : Fg) (neg : Bool) : R2 := fun x y H Q => (∃ (c : Nat) (z : Str), x = .str ⟨#[c]⟩ ∧ y = .str z ∧ Q (.bl (decide (c ∈ z.cps.toList) ^^ neg)) H) ∨ rIn K neg x y H Q
theorem op_inU {X : Cx} : OpR X (compareOp .In) (rInU X.K false) := by
  have h := (op_in_sign (X := X)).or op_in_seq
  intro pins s σ H x y v u Q I rx ry q
  refine h pins s σ H x y v u Q I rx ry ?_
  rcases q with ⟨c, z, e1, e2, q⟩ | q
  · rw [Bool.xor_false] at q; exact Or.inl ⟨c, z, e1, e2, q⟩
  · exact Or.inr q
theorem op_notInU {X : Cx} : OpR X (compareOp .NotIn) (rInU X.K true) := by
  have h := (op_notIn_sign (X := X)).or op_notIn_seq
  intro pins s σ H x y v u Q I rx ry q
  refine h pins s σ H x y v u Q I rx ry ?_
  rcases q with ⟨c, z, e1, e2, q⟩ | q
  · rw [Bool.xor_true] at q; exact Or.inl ⟨c, z, e1, e2, q⟩
  · exact Or.inr q
theorem lift_in {K : Fg} {neg : Bool} : LiftR K (rInU K neg) (dInB neg) := by
  intro G m F H x y dx dy Q Qd hW rx ry h hQ
  have neg_if : ∀ b : Bool, (if neg = true then !b else b) = (b ^^ neg) := by intro b; cases neg <;> cases b <;> rfl
  unfold dInB at h
  split at h
  · cases rx; cases ry
    obtain ⟨c, rfl, q⟩ := h
    exact Or.inl ⟨c, _, rfl, rfl, hQ.here hW q (.bl _)⟩
  · obtain ⟨h1, h2, q⟩ := h
    cases ry with
    | lst hy r =>
      refine Or.inr ⟨_, _, rfl, Or.inl (SqL.of (hW.ex _ _ hy)), flat_of rx h1, flats_of r h2, ?_⟩
      rw [neg_if, inv_of rx h1 r h2]
      exact hQ.here hW q (.bl _)
  · obtain ⟨h1, h2, q⟩ := h
    cases ry with
    | tup hy r =>
      refine Or.inr ⟨_, _, rfl, Or.inr (Evl.ex_t hW.ex hy), flat_of rx h1, flats_of r h2, ?_⟩
      rw [neg_if, inv_of rx h1 r h2]
      exact hQ.here hW q (.bl _)
  · cases h
def isNonD : D → Bool
  | .non => true
  | _ => false
/-- x is None, x is not None -/
def dIsB (neg : Bool) : WR := fun x y m Q => match y with
  | .non => Q (.bl (isNonD x ^^ neg)) m
  | _ => False
theorem non_of {K : Fg} {G : Hp} {v : V} {d : D} (r : Rp K G v d) : decide (v = V.non) = isNonD d := by
  cases r <;> simp [isNonD]
theorem lift_is {K : Fg} : LiftR K (fun x y H Q => y = .non ∧ Q (.bl (decide (x = .non))) H) (dIsB false) := by
  intro G m F H x y dx dy Q Qd hW rx ry h hQ
  cases ry <;> first | exact (show False from h).elim | skip
  refine ⟨rfl, ?_⟩
  rw [non_of rx]
  have h : Qd (.bl (isNonD dx ^^ false)) m := h
  rw [Bool.xor_false] at h
  exact hQ.here hW h (.bl _)
theorem lift_isnot {K : Fg} : LiftR K (fun x y H Q => y = .non ∧ Q (.bl (!decide (x = .non))) H) (dIsB true) := by
  intro G m F H x y dx dy Q Qd hW rx ry h hQ
  cases ry <;> first | exact (show False from h).elim | skip
  refine ⟨rfl, ?_⟩
  rw [non_of rx]
  have h : Qd (.bl (isNonD dx ^^ true)) m := h
  rw [Bool.xor_true] at h
  exact hQ.here hW h (.bl _)

section
variable {K : Fg} {W : Wx} {ι : Type} {X : ι → Cx} {pos : Pos} {a b c : Expr} {wa wb wc : WE}
theorem bin_of {op : Operator} {r : R2} {w : WR} (ho : ∀ i, OpR (X i) (binaryOp op) r) (hr : LiftR K r w) (ha : PD K W X a wa) (hb : PD K W X b wb) : PD K W X (.BinOp a op b pos) (wOp w wa wb) := by
  obtain ⟨ta, h1, h2⟩ := ha
  obtain ⟨tb, h3, h4⟩ := hb
  exact ⟨_, fun i => pe_op (ho i) (h1 i) (h3 i), lift_op hr h2 h4⟩
theorem pd_add (hK : ∀ i, (X i).K = K) (ha : PD K W X a wa) (hb : PD K W X b wb) : PD K W X (.BinOp a .Add b pos) (wOp dAdd wa wb) := bin_of (fun i => hK i ▸ op_addU) lift_add ha hb
theorem pd_sub (ha : PD K W X a wa) (hb : PD K W X b wb) : PD K W X (.BinOp a .Sub b pos) (wOp dSub wa wb) := bin_of (fun _ => op_sub) lift_sub ha hb
theorem pd_mul (ha : PD K W X a wa) (hb : PD K W X b wb) : PD K W X (.BinOp a .Mult b pos) (wOp dMul wa wb) := bin_of (fun _ => op_mulU) lift_mul ha hb
theorem pd_div (ha : PD K W X a wa) (hb : PD K W X b wb) : PD K W X (.BinOp a .FloorDiv b pos) (wOp dDiv wa wb) := bin_of (fun _ => op_fdivW) lift_div ha hb
theorem pd_mod (ha : PD K W X a wa) (hb : PD K W X b wb) : PD K W X (.BinOp a .Mod b pos) (wOp dMod wa wb) := bin_of (fun _ => op_mod) lift_mod ha hb
theorem pd_pow (ha : PD K W X a wa) (hb : PD K W X b wb) : PD K W X (.BinOp a .Pow b pos) (wOp dPow wa wb) := bin_of (fun _ => op_pow) lift_pow ha hb
/-- a comparison's operator -/
def CmpU (K : Fg) {ι : Type} (X : ι → Cx) (op : CmpOp) (w : WR) : Prop := ∃ r, (∀ i, OpR (X i) (compareOp op) r) ∧ LiftR K r w
theorem c_eq {P : Program} {wo : World} {mg : Str → Option Value} {base : Heap} {k : Nat} {N : List Str} (hX : Fam P wo K mg base k N X) : CmpU K X .Eq dEq :=
  ⟨_, fun i => hX.K i ▸ op_eqU (by have := (hX.room i).un; omega), lift_eq⟩
theorem c_ne {P : Program} {wo : World} {mg : Str → Option Value} {base : Heap} {k : Nat} {N : List Str} (hX : Fam P wo K mg base k N X) : CmpU K X .NotEq dNe :=
  ⟨_, fun i => hX.K i ▸ op_neU (by have := (hX.room i).un; omega), lift_ne⟩
theorem c_lt : CmpU K X .Lt dLt := ⟨_, fun _ => op_ltU, lift_cmp⟩
theorem c_le : CmpU K X .LtE dLe := ⟨_, fun _ => op_leU, lift_cmp⟩
theorem c_gt : CmpU K X .Gt dGt := ⟨_, fun _ => op_gtU, lift_cmp⟩
theorem c_ge : CmpU K X .GtE dGe := ⟨_, fun _ => op_geU, lift_cmp⟩
theorem c_in (hK : ∀ i, (X i).K = K) : CmpU K X .In dIn := ⟨_, fun i => hK i ▸ op_inU, lift_in⟩
theorem c_notIn (hK : ∀ i, (X i).K = K) : CmpU K X .NotIn dNotIn := ⟨_, fun i => hK i ▸ op_notInU, lift_in⟩
theorem c_is : CmpU K X .Is (dIsB false) := ⟨_, fun _ => op_isN, lift_is⟩
theorem c_isNot : CmpU K X .IsNot (dIsB true) := ⟨_, fun _ => op_notN, lift_isnot⟩
theorem pd_cmp {op : CmpOp} {w : WR} (ho : CmpU K X op w) (ha : PD K W X a wa) (hb : PD K W X b wb) (hm : behindInMarks op b = false := by first | exact nomark _ | rfl) : PD K W X (.Compare a [op] [b] pos) (wOp w wa wb) := by
  obtain ⟨r, o1, o2⟩ := ho
  obtain ⟨ta, h1, h2⟩ := ha
  obtain ⟨tb, h3, h4⟩ := hb
  exact ⟨_, fun i => pe_cmpR (o1 i) (h1 i) (h3 i) hm, lift_op o2 h2 h4⟩
def wTest (w : WE) : WT := fun ρ m Q Qx => w ρ m (fun d m' => match d with
  | .bl b => Q b m'
  | _ => False) Qx
theorem lift_test {t : TE} {w : WE} (h : LiftE K W t w) : LiftT K W (tTest t) (wTest w) := by
  intro G m F H σ ρ Q Qd Qx hW hE h0 hX hQ
  refine h G m F H σ ρ _ _ Qx hW hE h0 hX ?_
  intro d m' v G' H' q e W' r
  cases r <;> first | exact (show False from q).elim | skip
  exact ⟨_, rfl, hQ _ m' G' H' q e W'⟩
theorem lift_tB {t : TE} {w : WE} (h : LiftE K W t w) : LiftT K W (tB t) (wTest w) := by
  intro G m F H σ ρ Q Qd Qx hW hE h0 hX hQ
  refine h G m F H σ ρ _ _ Qx hW hE h0 hX ?_
  intro d m' v G' H' q e W' r
  cases r <;> first | exact (show False from q).elim | skip
  exact ⟨_, rfl, hQ _ m' G' H' q e W'⟩
theorem pt_cmp {op : CmpOp} {w : WR} (ho : CmpU K X op w) (ha : PD K W X a wa) (hb : PD K W X b wb) (hm : behindInMarks op b = false := by first | exact nomark _ | rfl) : PDT K W X (.Compare a [op] [b] pos) (wTest (wOp w wa wb)) := by
  obtain ⟨r, o1, o2⟩ := ho
  obtain ⟨ta, h1, h2⟩ := ha
  obtain ⟨tb, h3, h4⟩ := hb
  exact ⟨_, fun i => pt_cmpR (o1 i) (h1 i) (h3 i) hm, lift_test (lift_op o2 h2 h4)⟩
/-- a < b < c -/
def wChain (r r' : WR) (a b c : WE) : WE := fun ρ m Q Qx => a ρ m (fun x m1 => b ρ m1 (fun y m2 => r x y m2 fun z m3 => match z with
  | .bl k => if k = true then c ρ m3 (fun u m4 => r' y u m4 Q) Qx else Q (.bl false) m3
  | _ => False) Qx) Qx
theorem lift_chain {r r' : R2} {w w' : WR} {ta tb tc : TE} (hr : LiftR K r w) (hr' : LiftR K r' w') (ha : LiftE K W ta wa) (hb : LiftE K W tb wb) (hc : LiftE K W tc wc) : LiftE K W (tChain r r' ta tb tc) (wChain w w' wa wb wc) := by
  intro G m F H σ ρ Q Qd Qx hW hE h hX hQ
  refine ha G m F H σ ρ _ _ Qx hW hE h hX ?_
  intro dx m1 x G1 H1 h1 e1 W1 r1
  refine hb G1 m1 F H1 σ ρ _ _ Qx W1 (hE.mono e1) h1 (hX.mono e1) ?_
  intro dy m2 y G2 H2 h2 e2 W2 r2
  refine hr G2 m2 F H2 x y dx dy _ _ W2 (r1.mono e2) r2 h2 ?_
  intro dz m3 z G3 H3 h3 e3 W3 r3
  cases r3 <;> first | exact (show False from h3).elim | skip
  rename_i k
  refine ⟨k, rfl, ?_⟩
  have e12 := e1.trans e2
  cases k with
  | true =>
    refine hc G3 m3 F H3 σ ρ _ _ Qx W3 (hE.mono (e12.trans e3)) h3 (hX.mono (e12.trans e3)) ?_
    intro du m4 u G4 H4 h4 e4 W4 r4
    exact hr' G4 m4 F H4 y u dy du Q Qd W4 (r2.mono (e3.trans e4)) r4 h4 fun d m' v G' H' q e => hQ d m' v G' H' q (((e12.trans e3).trans e4).trans e)
  | false =>
    have h3 : Qd (.bl false) m3 := h3
    exact hQ _ m3 _ G3 H3 h3 (e12.trans e3) W3 (.bl false)
theorem pd_chain {op op' : CmpOp} {w w' : WR} (ho : CmpU K X op w) (ho' : CmpU K X op' w') (ha : PD K W X a wa) (hb : PD K W X b wb) (hc : PD K W X c wc) (hm : lastMarks [op, op'] [b, c] = false := by with_unfolding_all rfl) : PD K W X (.Compare a [op, op'] [b, c] pos) (wChain w w' wa wb wc) := by
  obtain ⟨r, o1, o2⟩ := ho
  obtain ⟨r', o3, o4⟩ := ho'
  obtain ⟨ta, h1, h2⟩ := ha
  obtain ⟨tb, h3, h4⟩ := hb
  obtain ⟨tc, h5, h6⟩ := hc
  exact ⟨_, fun i => pe_chain (o1 i) (o3 i) (h1 i) (h3 i) (h5 i) hm, lift_chain o2 o4 h2 h4 h6⟩
theorem pt_chainD {op op' : CmpOp} {w w' : WR} (ho : CmpU K X op w) (ho' : CmpU K X op' w') (ha : PD K W X a wa) (hb : PD K W X b wb) (hc : PD K W X c wc) (hm : lastMarks [op, op'] [b, c] = false := by with_unfolding_all rfl) : PDT K W X (.Compare a [op, op'] [b, c] pos) (wTest (wChain w w' wa wb wc)) := by
  obtain ⟨r, o1, o2⟩ := ho
  obtain ⟨r', o3, o4⟩ := ho'
  obtain ⟨ta, h1, h2⟩ := ha
  obtain ⟨tb, h3, h4⟩ := hb
  obtain ⟨tc, h5, h6⟩ := hc
  exact ⟨_, fun i => pt_chain (o1 i) (o3 i) (h1 i) (h3 i) (h5 i) hm, lift_test (lift_chain o2 o4 h2 h4 h6)⟩
end
end DL
namespace DL
open PySem L2
open Evl (Ex)
theorem Wd.unframe {K : Fg} {G : Hp} {m : Mem} {F H : Hp} {p : Addr} {o : HO} (W : Wd K G m (upd F p o) H) (hF : F p = none) : Wd K G m F H := by
  refine ⟨W.ex, fun a ds e => ?_, fun a u e => ?_, fun a u e => ?_⟩
  · obtain ⟨h1, h2, h3⟩ := W.own a ds e
    refine ⟨h1, ?_, h3⟩
    by_cases q : a = p
    · subst q; exact hF
    · rw [upd_ne q] at h2; exact h2
  · have q : a ≠ p := fun z => by subst z; rw [hF] at e; cases e
    exact W.fr a u (by rw [upd_ne q]; exact e)
  · have q : a ≠ p := fun z => by subst z; rw [hF] at e; cases e
    exact W.frG a u (by rw [upd_ne q]; exact e)
theorem FitX.frame {K : Fg} {W : Wx} {G F : Hp} {Qx : XQ} {p : Addr} {o : HO} (f : FitX K W G F Qx) (hF : F p = none) : FitX K W G (upd F p o) Qx :=
  fun x m' d σ' G' H' q e W' r => f x m' d σ' G' H' q e (W'.unframe hF) r
section
variable {K : Fg} {W : Wx} {ι : Type} {X : ι → Cx} {pos : Pos} {a b c e : Expr} {es : List Expr} {wa wb wc w : WE}
/-! ### and, or, not, if-else -/
def wAnd (a b : WE) : WE := fun ρ m Q Qx => a ρ m (fun x m1 => match x with
  | .bl c => if c = true then b ρ m1 Q Qx else Q (.bl false) m1
  | _ => False) Qx
def wOr (a b : WE) : WE := fun ρ m Q Qx => a ρ m (fun x m1 => match x with
  | .bl c => if c = true then Q (.bl true) m1 else b ρ m1 Q Qx
  | _ => False) Qx
def wNot (a : WE) : WE := fun ρ m Q Qx => a ρ m (fun x m1 => match x with
  | .bl c => Q (.bl (!c)) m1
  | _ => False) Qx
theorem pd_and {rest : List Expr} (ha : PD K W X a wa) (hb : PD K W X (.BoolOp .And (b :: rest) pos) wb) : PD K W X (.BoolOp .And (a :: b :: rest) pos) (wAnd wa wb) := by
  obtain ⟨ta, h1, h2⟩ := ha
  obtain ⟨tb, h3, h4⟩ := hb
  refine ⟨_, fun i => pe_and (h1 i) (h3 i), ?_⟩
  intro G m F H σ ρ Q Qd Qx hW hE h hX hQ
  refine h2 G m F H σ ρ _ _ Qx hW hE h hX ?_
  intro dx m1 x G1 H1 q e1 W1 r1
  cases r1 <;> first | exact (show False from q).elim | skip
  rename_i k
  refine ⟨k, rfl, ?_⟩
  cases k with
  | true => exact h4 G1 m1 F H1 σ ρ Q Qd Qx W1 (hE.mono e1) q (hX.mono e1) fun d m' v G' H' z e => hQ d m' v G' H' z (e1.trans e)
  | false =>
    have q : Qd (.bl false) m1 := q
    exact hQ _ m1 _ G1 H1 q e1 W1 (.bl false)
theorem pd_or {rest : List Expr} (ha : PD K W X a wa) (hb : PD K W X (.BoolOp .Or (b :: rest) pos) wb) : PD K W X (.BoolOp .Or (a :: b :: rest) pos) (wOr wa wb) := by
  obtain ⟨ta, h1, h2⟩ := ha
  obtain ⟨tb, h3, h4⟩ := hb
  refine ⟨_, fun i => pe_or (h1 i) (h3 i), ?_⟩
  intro G m F H σ ρ Q Qd Qx hW hE h hX hQ
  refine h2 G m F H σ ρ _ _ Qx hW hE h hX ?_
  intro dx m1 x G1 H1 q e1 W1 r1
  cases r1 <;> first | exact (show False from q).elim | skip
  rename_i k
  refine ⟨k, rfl, ?_⟩
  cases k with
  | false => exact h4 G1 m1 F H1 σ ρ Q Qd Qx W1 (hE.mono e1) q (hX.mono e1) fun d m' v G' H' z e => hQ d m' v G' H' z (e1.trans e)
  | true =>
    have q : Qd (.bl true) m1 := q
    exact hQ _ m1 _ G1 H1 q e1 W1 (.bl true)
theorem pd_one {op : BoolOp} (ha : PD K W X a wa) : PD K W X (.BoolOp op [a] pos) wa := by
  obtain ⟨ta, h1, h2⟩ := ha
  exact ⟨ta, fun i => pe_one (h1 i), h2⟩
theorem pd_not (ha : PD K W X a wa) : PD K W X (.UnaryOp .Not a pos) (wNot wa) := by
  obtain ⟨ta, h1, h2⟩ := ha
  refine ⟨_, fun i => pe_not (h1 i), ?_⟩
  intro G m F H σ ρ Q Qd Qx hW hE h hX hQ
  refine h2 G m F H σ ρ _ _ Qx hW hE h hX ?_
  intro dx m1 x G1 H1 q e1 W1 r1
  cases r1 <;> first | exact (show False from q).elim | skip
  exact ⟨_, rfl, hQ _ m1 _ G1 H1 q e1 W1 (.bl _)⟩
/-! tests -/
def tvAnd (a b : WT) : WT := fun ρ m Q Qx => a ρ m (fun c m1 => if c = true then b ρ m1 Q Qx else Q false m1) Qx
def tvOr (a b : WT) : WT := fun ρ m Q Qx => a ρ m (fun c m1 => if c = true then Q true m1 else b ρ m1 Q Qx) Qx
def tvNot (a : WT) : WT := fun ρ m Q Qx => a ρ m (fun c m1 => Q (!c) m1) Qx
variable {ua ub : WT}
theorem pt_val (ha : PD K W X a wa) (he : ∀ i whole, isTrue a (X i).env whole = (do let v ← whole; standAt a.pos; holding [v] (truthy v)) := by intro _ _; rfl) : PDT K W X a (wTest wa) := by
  obtain ⟨ta, h1, h2⟩ := ha
  exact ⟨_, fun i => L2.pt_val (h1 i) (he i), lift_tB h2⟩
theorem pw_and1 (ha : PDT K W X a ua) : PDW K W X (.BoolOp .And [a] pos) ua := by
  obtain ⟨ta, h1, h2⟩ := ha
  exact ⟨_, fun i => L2.pw_and1 (h1 i), h2⟩
theorem pw_or1 (ha : PDT K W X a ua) : PDW K W X (.BoolOp .Or [a] pos) ua := by
  obtain ⟨ta, h1, h2⟩ := ha
  exact ⟨_, fun i => L2.pw_or1 (h1 i), h2⟩
theorem pw_and {rest : List Expr} (ha : PDT K W X a ua) (hb : PDW K W X (.BoolOp .And (b :: rest) pos) ub) : PDW K W X (.BoolOp .And (a :: b :: rest) pos) (tvAnd ua ub) := by
  obtain ⟨ta, h1, h2⟩ := ha
  obtain ⟨tb, h3, h4⟩ := hb
  refine ⟨_, fun i => L2.pw_and (h1 i) (h3 i), ?_⟩
  intro G m F H σ ρ Q Qd Qx hW hE h hX hQ
  refine h2 G m F H σ ρ _ _ Qx hW hE h hX ?_
  intro k m1 G1 H1 q e1 W1
  cases k with
  | true => exact h4 G1 m1 F H1 σ ρ Q Qd Qx W1 (hE.mono e1) q (hX.mono e1) fun d m' G' H' z e => hQ d m' G' H' z (e1.trans e)
  | false => exact hQ false m1 G1 H1 q e1 W1
theorem pw_or {rest : List Expr} (ha : PDT K W X a ua) (hb : PDW K W X (.BoolOp .Or (b :: rest) pos) ub) : PDW K W X (.BoolOp .Or (a :: b :: rest) pos) (tvOr ua ub) := by
  obtain ⟨ta, h1, h2⟩ := ha
  obtain ⟨tb, h3, h4⟩ := hb
  refine ⟨_, fun i => L2.pw_or (h1 i) (h3 i), ?_⟩
  intro G m F H σ ρ Q Qd Qx hW hE h hX hQ
  refine h2 G m F H σ ρ _ _ Qx hW hE h hX ?_
  intro k m1 G1 H1 q e1 W1
  cases k with
  | false => exact h4 G1 m1 F H1 σ ρ Q Qd Qx W1 (hE.mono e1) q (hX.mono e1) fun d m' G' H' z e => hQ d m' G' H' z (e1.trans e)
  | true => exact hQ true m1 G1 H1 q e1 W1
theorem pw_pt (h : PDW K W X a ua) : PDT K W X a ua := by
  obtain ⟨t, h1, h2⟩ := h
  exact ⟨t, fun i => (h1 i).pt, h2⟩
theorem pt_not (ha : PDT K W X a ua) : PDT K W X (.UnaryOp .Not a pos) (tvNot ua) := by
  obtain ⟨ta, h1, h2⟩ := ha
  refine ⟨_, fun i => L2.pt_not (h1 i), ?_⟩
  intro G m F H σ ρ Q Qd Qx hW hE h hX hQ
  exact h2 G m F H σ ρ _ _ Qx hW hE h hX fun k m1 G1 H1 q e1 W1 => hQ _ m1 G1 H1 q e1 W1
def wIf (t : WT) (a b : WE) : WE := fun ρ m Q Qx => t ρ m (fun c m1 => if c = true then a ρ m1 Q Qx else b ρ m1 Q Qx) Qx
theorem pd_if (hc : PDT K W X c ua) (ha : PD K W X a wa) (hb : PD K W X b wb) : PD K W X (.IfExp c a b pos) (wIf ua wa wb) := by
  obtain ⟨tc, h5, h6⟩ := hc
  obtain ⟨ta, h1, h2⟩ := ha
  obtain ⟨tb, h3, h4⟩ := hb
  refine ⟨_, fun i => pe_ifExp (h5 i) (h1 i) (h3 i), ?_⟩
  intro G m F H σ ρ Q Qd Qx hW hE h hX hQ
  refine h6 G m F H σ ρ _ _ Qx hW hE h hX ?_
  intro k m1 G1 H1 q e1 W1
  cases k with
  | true => exact h2 G1 m1 F H1 σ ρ Q Qd Qx W1 (hE.mono e1) q (hX.mono e1) fun d m' v G' H' z e => hQ d m' v G' H' z (e1.trans e)
  | false => exact h4 G1 m1 F H1 σ ρ Q Qd Qx W1 (hE.mono e1) q (hX.mono e1) fun d m' v G' H' z e => hQ d m' v G' H' z (e1.trans e)

/-! ### arguments, displays -/
def wNil : WA := fun _ m Q _ => Q [] m
def wCons (a : WE) (r : WA) : WA := fun ρ m Q Qx => a ρ m (fun x m1 => r ρ m1 (fun xs m2 => Q (x :: xs) m2) Qx) Qx
variable {wr : WA}
theorem pa_nil : PDA K W X [] wNil := ⟨_, fun _ => L2.pa_nil, fun G m F H σ ρ Q Qd Qx hW hE h hX hQ => hQ [] m [] G H h (Ex.refl G) hW .nil⟩
theorem pa_cons (ha : PD K W X e wa) (hr : PDA K W X es wr) (hs : ∀ i, starEach (e :: es) (X i).env = (false, eval e (X i).env) :: starEach es (X i).env := by intro _; rfl) : PDA K W X (e :: es) (wCons wa wr) := by
  obtain ⟨ta, h1, h2⟩ := ha
  obtain ⟨tr, h3, h4⟩ := hr
  refine ⟨_, fun i => L2.pa_cons (h1 i) (h3 i) (hs i), ?_⟩
  intro G m F H σ ρ Q Qd Qx hW hE h hX hQ
  refine h2 G m F H σ ρ _ _ Qx hW hE h hX ?_
  intro dx m1 x G1 H1 q e1 W1 r1
  refine h4 G1 m1 F H1 σ ρ _ _ Qx W1 (hE.mono e1) q (hX.mono e1) ?_
  intro ds m2 vs G2 H2 q2 e2 W2 r2
  exact hQ _ m2 _ G2 H2 q2 (e1.trans e2) W2 (.cons (r1.mono e2) r2)
def wLst (r : WA) : WE := fun ρ m Q Qx => r ρ m (fun ds m1 => ds.length ≤ sizeLine ∧ Q (.lst ds) m1) Qx
def wTup (r : WA) : WE := fun ρ m Q Qx => r ρ m (fun ds m1 => ds.length ≤ sizeLine ∧ Q (.tup ds) m1) Qx
/-- a new list that is owned: it may change -/
def wOwn (r : WA) : WE := fun ρ m Q Qx => r ρ m (fun ds m1 => ds.length ≤ sizeLine ∧ ∀ p, m1 p = none → Q (.box p) (m1.up p ds)) Qx
theorem pd_lst (h : PDA K W X es wr) : PD K W X (.List es pos) (wLst wr) := by
  obtain ⟨t, h1, h2⟩ := h
  refine ⟨_, fun i => pe_lst (h1 i), ?_⟩
  intro G m F H σ ρ Q Qd Qx hW hE h hX hQ
  refine h2 G m F H σ ρ _ _ Qx hW hE h hX ?_
  intro ds m1 vs G1 H1 q e1 W1 r1
  refine ⟨by rw [r1.len]; exact q.1, fun p hp => ?_⟩
  obtain ⟨e, W'⟩ := W1.new hp (.lst vs)
  exact hQ _ m1 _ _ _ q.2 (e1.trans e) W' (.lst upd_same (r1.mono e))
theorem pd_tup {x1 : Nat} (h : PDA K W X es wr) : PD K W X (.Tuple es x1 pos) (wTup wr) := by
  obtain ⟨t, h1, h2⟩ := h
  refine ⟨_, fun i => pe_tup (h1 i), ?_⟩
  intro G m F H σ ρ Q Qd Qx hW hE h hX hQ
  refine h2 G m F H σ ρ _ _ Qx hW hE h hX ?_
  intro ds m1 vs G1 H1 q e1 W1 r1
  refine ⟨by rw [r1.len]; exact q.1, fun p hp => ?_⟩
  obtain ⟨e, W'⟩ := W1.new hp (.tup vs)
  exact hQ _ m1 _ _ _ q.2 (e1.trans e) W' (.tup (SqT.of upd_same) (r1.mono e))
theorem pd_own (h : PDA K W X es wr) : PD K W X (.List es pos) (wOwn wr) := by
  obtain ⟨t, h1, h2⟩ := h
  refine ⟨_, fun i => pe_lst (h1 i), ?_⟩
  intro G m F H σ ρ Q Qd Qx hW hE h hX hQ
  refine h2 G m F H σ ρ _ _ Qx hW hE h hX ?_
  intro ds m1 vs G1 H1 q e1 W1 r1
  refine ⟨by rw [r1.len]; exact q.1, fun p hp => ?_⟩
  obtain ⟨e, W'⟩ := W1.newOwn hp r1
  exact hQ _ _ _ _ _ (q.2 p e) e1 W' (.box p)
/-- {} -/
def wDct0 : WE := fun _ m Q _ => Q (.dct [] []) m
theorem pd_dct0 : PD K W X (.Dict [] [] pos) wDct0 := by
  refine ⟨_, fun i => pe_dnewK, ?_⟩
  intro G m F H σ ρ Q Qd Qx hW hE h hX hQ
  intro p hp
  obtain ⟨e, W'⟩ := hW.new hp (.dK [])
  exact hQ _ m _ _ _ h e W' (.dct (kvs := []) (vs := []) upd_same rfl rfl .nil)
/-- {'k': v}: one written text as the key -/
def wDct1 (k : Str) (v : WE) : WE := fun ρ m Q Qx => v ρ m (fun d m1 => Q (.dct [.inr k] [d]) m1) Qx
theorem pd_dct1 {k : Str} {j : Nat} {pk : Pos} {v : Expr} {wv : WE} (hv : PD K W X v wv) : PD K W X (.Dict [some (.Constant (.str k) j pk)] [v] pos) (wDct1 k wv) := by
  obtain ⟨tv, h1, h2⟩ := hv
  refine ⟨_, fun i => pe_disp (pps_cons pe_str (h1 i) pps_nil) (by rfl) (by rfl) (fun z => by cases z) (by show 1 ≤ 15; decide), ?_⟩
  intro G m F H σ ρ Q Qd Qx hW hE h hX hQ
  intro p hp
  obtain ⟨hG, hm, hF⟩ := hW.fresh hp
  have W0 := hW.frame hp (.dK [])
  show tv σ (upd H p (.dK [])) _
  refine h2 G m (upd F p (.dK [])) _ σ ρ _ (fun d m1 => Qd (.dct [.inr k] [d]) m1) Qx W0 hE h (hX.frame hF) ?_
  intro d m1 v G1 H1 q e1 W1 r1
  refine ⟨W1.fr p _ upd_same, [(.inr k, v)], rfl, (by show 1 ≤ 15; decide), ?_⟩
  have W2 := W1.reframe (.dK (mergeK [] [((.inr k : Key), v)]))
  obtain ⟨e3, W3⟩ := W2.adopt hF
  exact hQ _ m1 _ _ _ q (e1.trans e3) W3 (.dct upd_same rfl rfl (.cons (r1.mono e3) .nil))

/-! ### a[i], a[lo:hi], a[i] = v -/
def dIx : WR := fun x y m Q => match x, y with
  | .lst ds, .int i => ∃ d, atI ds i = some d ∧ Q d m
  | .tup ds, .int i => ∃ d, atI ds i = some d ∧ Q d m
  | .scr ns, .int i => ∃ d, atI ns i = some d ∧ Q (.int d) m
  | .box a, .int i => ∃ ds d, m a = some ds ∧ atI ds i = some d ∧ Q d m
  | .str z, .int i => z.length ≤ sizeLine ∧ ∃ c, atI z.cps.toList i = some c ∧ Q (.str ⟨#[c]⟩) m
  | _, _ => False
theorem RpA.atI {K : Fg} {G : Hp} {vs : List V} {ds : List D} {i : Int} {d : D} (r : RpA K G vs ds) (h : L2.atI ds i = some d) : ∃ v, L2.atI vs i = some v ∧ Rp K G v d := by
  unfold L2.atI at h ⊢
  rw [r.len]
  cases e : ixN ds.length i with
  | none => rw [e] at h; cases h
  | some j =>
    rw [e] at h
    exact r.at h
theorem atI_map {α β : Type} {f : α → β} {xs : List α} {i : Int} {x : α} (h : L2.atI xs i = some x) : L2.atI (xs.map f) i = some (f x) := by
  unfold L2.atI at h ⊢
  rw [List.length_map]
  cases e : ixN xs.length i with
  | none => rw [e] at h; cases h
  | some j =>
    rw [e] at h
    have h : xs[j]? = some x := h
    show (xs.map f)[j]? = some (f x)
    rw [List.getElem?_map, h]
    rfl
theorem lift_ix {K : Fg} : LiftR K (rIx K) dIx := by
  intro G m F H x y dx dy Q Qd hW rx ry h hQ
  cases rx <;> cases ry <;> first | exact (show False from h).elim | skip
  case lst.int a xs ds h1 r1 i =>
    obtain ⟨d, hd, q⟩ := h
    obtain ⟨v, hv, rv⟩ := r1.atI hd
    exact Or.inl ⟨a, xs, i, v, rfl, rfl, SqL.of (hW.ex _ _ h1), hv, hQ.here hW q rv⟩
  case tup.int a xs ds h1 r1 i =>
    obtain ⟨d, hd, q⟩ := h
    obtain ⟨v, hv, rv⟩ := r1.atI hd
    exact Or.inr (Or.inl ⟨a, xs, i, v, rfl, rfl, Evl.ex_t hW.ex h1, hv, hQ.here hW q rv⟩)
  case scr.int a ns h1 i =>
    obtain ⟨d, hd, q⟩ := h
    exact Or.inl ⟨a, _, i, _, rfl, rfl, Evl.ex_l hW.ex h1, atI_map hd, hQ.here hW q (.int d)⟩
  case box.int a i =>
    obtain ⟨ds, d, hm, hd, q⟩ := h
    obtain ⟨_, _, xs, hx, r1⟩ := hW.own a ds hm
    obtain ⟨v, hv, rv⟩ := r1.atI hd
    exact Or.inl ⟨a, xs, i, v, rfl, rfl, SqL.of hx, hv, hQ.here hW q rv⟩
  case str.int z i =>
    obtain ⟨hz, c, hc, q⟩ := h
    exact Or.inr (Or.inr ⟨z, i, c, rfl, rfl, hz, hc, hQ.here hW q (.str _)⟩)
theorem pd_ix (hK : ∀ i, (X i).K = K) (ha : PD K W X a wa) (hb : PD K W X b wb) (hs : PlainIx b := by exact fun _ _ => rfl) : PD K W X (.Subscript a b pos) (wOp dIx wa wb) := by
  obtain ⟨ta, h1, h2⟩ := ha
  obtain ⟨tb, h3, h4⟩ := hb
  exact ⟨_, fun i => pe_ix (hK i ▸ ix_seq) (h1 i) (h3 i) hs, lift_op lift_ix h2 h4⟩
def wNoPart : WO := fun _ m Q _ => Q none m
def wPart (a : WE) : WO := fun ρ m Q Qx => a ρ m (fun d m1 => match d with
  | .int i => Q (some i) m1
  | _ => False) Qx
theorem po_none : PDO K W X none wNoPart := ⟨_, fun _ => L2.po_none, fun G m F H σ ρ Q Qd Qx hW hE h hX hQ => hQ none m G H h (Ex.refl G) hW⟩
theorem po_some (ha : PD K W X a wa) : PDO K W X (some a) (wPart wa) := by
  obtain ⟨ta, h1, h2⟩ := ha
  refine ⟨_, fun i => L2.po_some (h1 i), ?_⟩
  intro G m F H σ ρ Q Qd Qx hW hE h hX hQ
  refine h2 G m F H σ ρ _ _ Qx hW hE h hX ?_
  intro d m1 x G1 H1 q e1 W1 r1
  cases r1 <;> first | exact (show False from q).elim | skip
  exact ⟨_, rfl, hQ _ m1 G1 H1 q e1 W1⟩
def cutD (ds : List D) (lo hi : Option Int) : List D := (ds.drop (HT.sIx ds.length 0 lo)).take (HT.sIx ds.length ds.length hi - HT.sIx ds.length 0 lo)
def dSl (x : D) (lo hi : Option Int) (m : Mem) (Q : D → Mem → Prop) : Prop := match x with
  | .lst ds => Q (.lst (cutD ds lo hi)) m
  | .tup ds => Q (.tup (cutD ds lo hi)) m
  | .str z => z.length ≤ sizeLine ∧ Q (.str (cutS z lo hi)) m
  | _ => False
theorem RpA.cut {K : Fg} {G : Hp} {vs : List V} {ds : List D} (r : RpA K G vs ds) (lo hi : Option Int) : RpA K G (cutV vs lo hi) (cutD ds lo hi) := by
  unfold cutV cutD
  rw [r.len]
  exact (r.drop _).take _
def rSlU (K : Fg) : V → Option Int → Option Int → Hp → VK → Prop := fun x lo hi H Q => rSlL K x lo hi H Q ∨ rSlA K x lo hi H Q ∨ rSlS x lo hi H Q
def wSl (a : WE) (l h : WO) : WE := fun ρ m Q Qx => a ρ m (fun x m1 => l ρ m1 (fun lo m2 => h ρ m2 (fun hi m3 => dSl x lo hi m3 Q) Qx) Qx) Qx
variable {wl wh : WO} {lo hi : Option Expr} {p2 : Pos}
theorem pd_sl (hK : ∀ i, (X i).K = K) (ha : PD K W X a wa) (hl : PDO K W X lo wl) (hh : PDO K W X hi wh) : PD K W X (.Subscript a (.Slice lo hi none p2) pos) (wSl wa wl wh) := by
  obtain ⟨ta, h1, h2⟩ := ha
  obtain ⟨tl, h3, h4⟩ := hl
  obtain ⟨th, h5, h6⟩ := hh
  refine ⟨_, fun i => pe_slice (r := rSlU K) (hK i ▸ (sl_list.or (sl_tupA.or sl_str))) (h1 i) (h3 i) (h5 i), ?_⟩
  intro G m F H σ ρ Q Qd Qx hW hE h hX hQ
  refine h2 G m F H σ ρ _ _ Qx hW hE h hX ?_
  intro dx m1 x G1 H1 q1 e1 W1 r1
  refine h4 G1 m1 F H1 σ ρ _ _ Qx W1 (hE.mono e1) q1 (hX.mono e1) ?_
  intro l m2 G2 H2 q2 e2 W2
  refine h6 G2 m2 F H2 σ ρ _ _ Qx W2 (hE.mono (e1.trans e2)) q2 (hX.mono (e1.trans e2)) ?_
  intro u m3 G3 H3 q3 e3 W3
  have e13 := (e1.trans e2).trans e3
  have r3 := r1.mono (e2.trans e3)
  cases r3 <;> first | exact (show False from q3).elim | skip
  case lst a0 xs ds hx rr =>
    refine Or.inl ⟨_, _, rfl, SqL.of (W3.ex _ _ hx), fun p hp => ?_⟩
    obtain ⟨e, W'⟩ := W3.new hp (.lst (cutV xs l u))
    exact hQ _ m3 _ _ _ q3 (e13.trans e) W' (.lst upd_same ((rr.cut l u).mono e))
  case tup a0 xs ds hx rr =>
    refine Or.inr (Or.inl ⟨_, _, rfl, Evl.ex_t W3.ex hx, fun hw => ?_, fun hw p hp => ?_⟩)
    · have ec : cutD ds l u = ds := by
        unfold cutD
        rw [← rr.len, hw.1, hw.2, List.drop_zero, Nat.sub_zero, rr.len, List.take_length]
      have q3 : Qd (.tup (cutD ds l u)) m3 := q3
      rw [ec] at q3
      exact hQ _ m3 _ _ _ q3 e13 W3 (.tup hx rr)
    · obtain ⟨e, W'⟩ := W3.new hp (.tup (cutV xs l u))
      exact hQ _ m3 _ _ _ q3 (e13.trans e) W' (.tup (SqT.of upd_same) ((rr.cut l u).mono e))
  case str z => exact Or.inr (Or.inr ⟨z, rfl, q3.1, hQ _ m3 _ _ _ q3.2 e13 W3 (.str _)⟩)

/-! ### calls -/
abbrev WC := List D → Mem → (D → Mem → Prop) → Prop
def LiftC (K : Fg) (r : List V → Hp → VK → Prop) (w : WC) : Prop := ∀ G m F H xs ds (Q : VK) (Qd : D → Mem → Prop), Wd K G m F H → RpA K G xs ds → w ds m Qd → FitE K G F Q Qd → r xs H Q
def wBi (w : WC) (a : WA) : WE := fun ρ m Q Qx => a ρ m (fun ds m1 => w ds m1 Q) Qx
theorem lift_cb {r : List V → Hp → VK → Prop} {w : WC} {ta : TA} {wa : WA} (hr : LiftC K r w) (ha : LiftA K W ta wa) : LiftE K W (tCB r ta) (wBi w wa) := by
  intro G m F H σ ρ Q Qd Qx hW hE h hX hQ
  refine ha G m F H σ ρ _ _ Qx hW hE h hX ?_
  intro ds m1 vs G1 H1 q e1 W1 r1
  exact hr G1 m1 F H1 vs ds Q Qd W1 r1 q fun d m' v G' H' z e => hQ d m' v G' H' z (e1.trans e)
/-- a built-in function, a built-in type, called -/
def BiU (K : Fg) {ι : Type} (X : ι → Cx) (f : Value) (w : WC) : Prop := ∃ r, (∀ i, CallR (X i) f r) ∧ LiftC K r w
theorem pd_bi {mg : Str → Option Value} {x : Str} {p : Pos} {id : String} {w : WC} {wr : WA} (hc : BiU K X (.builtin id) w) (hX : ∀ i, (X i).mg = mg) (hm : mg x = none) (hv : bootBuiltins x = some (.builtin id)) (ha : PDA K W X (e :: es) wr) (hg : ∀ i, Gl (X i) x := by intro _; rfl)
    (he : ∀ i, starEach (e :: es) (X i).env = (false, eval e (X i).env) :: starEach es (X i).env := by intro _; rfl) (hpl : ∀ i, (backTo pos (starEach es (X i).env)).any (·.1) = false := by intro _; rfl) (hn : x ≠ "__name__" := by decide) (hd : (x == ("__debug__" : Str)) = false := by decide) :
    PD K W X (.Call (.Name x p) (e :: es) [] pos) (wBi w wr) := by
  obtain ⟨r, c1, c2⟩ := hc
  obtain ⟨t, h1, h2⟩ := ha
  exact ⟨_, fun i => pe_callB (c1 i) (hg i) (by rw [hX i]; exact hm) hv (h1 i) hn hd (he i) (hpl i), lift_cb c2 h2⟩
theorem pd_bt {mg : Str → Option Value} {x : Str} {p : Pos} {id : String} {w : WC} {wr : WA} (hc : BiU K X (.type id) w) (hX : ∀ i, (X i).mg = mg) (hm : mg x = none) (hv : bootBuiltins x = some (.type id)) (ha : PDA K W X (e :: es) wr) (hg : ∀ i, Gl (X i) x := by intro _; rfl)
    (he : ∀ i, starEach (e :: es) (X i).env = (false, eval e (X i).env) :: starEach es (X i).env := by intro _; rfl) (hpl : ∀ i, (backTo pos (starEach es (X i).env)).any (·.1) = false := by intro _; rfl) (hn : x ≠ "__name__" := by decide) (hd : (x == ("__debug__" : Str)) = false := by decide) :
    PD K W X (.Call (.Name x p) (e :: es) [] pos) (wBi w wr) := by
  obtain ⟨r, c1, c2⟩ := hc
  obtain ⟨t, h1, h2⟩ := ha
  exact ⟨_, fun i => pe_callTy (c1 i) (hg i) (by rw [hX i]; exact hm) hv (h1 i) hn hd (he i) (hpl i), lift_cb c2 h2⟩
def dLen : WC := fun xs m Q => match xs with
  | [.lst ds] => Q (.int ds.length) m
  | [.tup ds] => Q (.int ds.length) m
  | [.scr ns] => Q (.int ns.length) m
  | [.box a] => ∃ ds, m a = some ds ∧ Q (.int ds.length) m
  | [.str z] => z.length ≤ sizeLine ∧ Q (.int z.length) m
  | _ => False
theorem b_len (hK : ∀ i, (X i).K = K) : BiU K X (.builtin "len") dLen := by
  refine ⟨_, fun i => hK i ▸ call_len, ?_⟩
  intro G m F H xs ds Q Qd hW r h hQ
  cases r with
  | nil => cases h
  | cons r1 t =>
    cases t with
    | cons _ _ => cases r1 <;> cases h
    | nil =>
      cases r1 <;> first | exact (show False from h).elim | skip
      case lst a xs ds hx rr => exact ⟨_, _, rfl, Or.inl ⟨_, SqL.of (hW.ex _ _ hx), rr.len.symm⟩, hQ.here hW h (.int _)⟩
      case tup a xs ds hx rr => exact ⟨_, _, rfl, Or.inr ⟨_, Evl.ex_t hW.ex hx, rr.len.symm⟩, hQ.here hW h (.int _)⟩
      case scr a ns hx => exact ⟨_, _, rfl, Or.inl ⟨_, Evl.ex_l hW.ex hx, (List.length_map _).symm⟩, hQ.here hW h (.int _)⟩
      case box a =>
        obtain ⟨ds, hm, q⟩ := h
        obtain ⟨_, _, xs, hx, rr⟩ := hW.own a ds hm
        exact ⟨_, _, rfl, Or.inl ⟨_, SqL.of hx, rr.len.symm⟩, hQ.here hW q (.int _)⟩
      case str z => exact ⟨_, _, rfl, ⟨h.1, rfl⟩, hQ.here hW h.2 (.int _)⟩
def dInt2 (f : Int → Int → Int) : WC := fun xs m Q => match xs with
  | [.int i, .int j] => Q (.int (f i j)) m
  | _ => False
theorem lift_int2 {f : Int → Int → Int} : LiftC K (fun xs H Q => ∃ i j, xs = [.int i, .int j] ∧ Q (.int (f i j)) H) (dInt2 f) := by
  intro G m F H xs ds Q Qd hW r h hQ
  unfold dInt2 at h
  split at h
  · cases r with
    | cons r1 t =>
      cases r1
      cases t with
      | cons r2 t =>
        cases r2
        cases t
        exact ⟨_, _, rfl, hQ.here hW h (.int _)⟩
  · cases h
abbrev dMax : WC := dInt2 fun i j => if j > i then j else i
abbrev dMin : WC := dInt2 fun i j => if j < i then j else i
theorem b_max (hc : ∀ i, (X i).calm = true) : BiU K X (.builtin "max") dMax := ⟨_, fun i => call_max2 (hc i), lift_int2⟩
theorem b_min (hc : ∀ i, (X i).calm = true) : BiU K X (.builtin "min") dMin := ⟨_, fun i => call_min2 (hc i), lift_int2⟩
/-! isinstance against a built-in type -/
def tyD : D → String
  | .non => "NoneType" | .bl _ => "bool" | .int _ => "int" | .str _ => "str" | .ty _ => "type" | .lst _ => "list" | .tup _ => "tuple" | .dct _ _ => "dict" | .scr _ => "list" | .box _ => "list" | .obj _ _ _ => "object"
def isTyped : D → Bool
  | .ty _ => false | .box _ => false | .obj _ _ _ => false | _ => true
theorem ty_of {K : Fg} {G H : Hp} {v : V} {d : D} (e : Ex G H) (r : Rp K G v d) (ht : isTyped d = true) : TyX K H v (.type (tyD d)) := by
  cases r with
  | non => exact .base .non
  | bl b => exact .base (.bl b)
  | int i => exact .base (.int i)
  | str x => exact .base (.str x)
  | ty n => cases ht
  | box a => cases ht
  | obj _ _ _ _ _ => cases ht
  | lst h r => exact .base (.lst (e _ _ h))
  | dct h _ _ _ => exact .base (.dK (e _ _ h))
  | tup h r =>
    rcases Evl.ex_t e h with (h | ⟨o, h⟩) | ⟨o, its, n, hk, hc, _⟩
    · exact .base (.tup h)
    · exact .fTuple h
    · exact .kTuple hk hc
  | scr h =>
    rcases Evl.ex_l e h with (h | ⟨o, h⟩) | ⟨o, its, n, hk, hc, _⟩
    · exact .base (.lst h)
    · exact .base (.frz h)
    · exact .kList hk hc
def intB : D → Bool
  | .int _ => true | .bl _ => true | _ => false
def blB : D → Bool
  | .bl _ => true | _ => false
def strB : D → Bool
  | .str _ => true | _ => false
def lstB : D → Bool
  | .lst _ => true | .scr _ => true | .box _ => true | _ => false
def tupB : D → Bool
  | .tup _ => true | _ => false
def dctB : D → Bool
  | .dct _ _ => true | _ => false
/-- isinstance of a datum against a built-in type -/
def isaB (n : String) (x : D) : Option Bool := if n = "int" then some (intB x) else if n = "bool" then some (blB x) else if n = "str" then some (strB x) else if n = "list" then some (lstB x) else if n = "tuple" then some (tupB x) else if n = "dict" then some (dctB x) else none
theorem isa_int {x : D} : isaB "int" x = some (intB x) := if_pos rfl
theorem isa_bool {x : D} : isaB "bool" x = some (blB x) := (if_neg (by decide)).trans (if_pos rfl)
theorem isa_str {x : D} : isaB "str" x = some (strB x) := (if_neg (by decide)).trans ((if_neg (by decide)).trans (if_pos rfl))
theorem isa_list {x : D} : isaB "list" x = some (lstB x) := (if_neg (by decide)).trans ((if_neg (by decide)).trans ((if_neg (by decide)).trans (if_pos rfl)))
theorem isa_tuple {x : D} : isaB "tuple" x = some (tupB x) := (if_neg (by decide)).trans ((if_neg (by decide)).trans ((if_neg (by decide)).trans ((if_neg (by decide)).trans (if_pos rfl))))
theorem isa_dict {x : D} : isaB "dict" x = some (dctB x) := (if_neg (by decide)).trans ((if_neg (by decide)).trans ((if_neg (by decide)).trans ((if_neg (by decide)).trans ((if_neg (by decide)).trans (if_pos rfl)))))
theorem kit_isa {n : String} {x : D} {b : Bool} (hx : isTyped x = true) (h : isaB n x = some b) : kitB (tyD x) n = some b := by
  unfold isaB at h
  by_cases c : n = "int"
  · subst c; rw [if_pos rfl] at h; cases h
    cases x <;> first | (cases hx; done) | (simp only [tyD, intB]; decide +kernel)
  rw [if_neg c] at h
  by_cases c : n = "bool"
  · subst c; rw [if_pos rfl] at h; cases h
    cases x <;> first | (cases hx; done) | (simp only [tyD, blB]; decide +kernel)
  rw [if_neg c] at h
  by_cases c : n = "str"
  · subst c; rw [if_pos rfl] at h; cases h
    cases x <;> first | (cases hx; done) | (simp only [tyD, strB]; decide +kernel)
  rw [if_neg c] at h
  by_cases c : n = "list"
  · subst c; rw [if_pos rfl] at h; cases h
    cases x <;> first | (cases hx; done) | (simp only [tyD, lstB]; decide +kernel)
  rw [if_neg c] at h
  by_cases c : n = "tuple"
  · subst c; rw [if_pos rfl] at h; cases h
    cases x <;> first | (cases hx; done) | (simp only [tyD, tupB]; decide +kernel)
  rw [if_neg c] at h
  by_cases c : n = "dict"
  · subst c; rw [if_pos rfl] at h; cases h
    cases x <;> first | (cases hx; done) | (simp only [tyD, dctB]; decide +kernel)
  rw [if_neg c] at h
  cases h
def dIsi : WC := fun xs m Q => match xs with
  | [x, .ty n] => isTyped x = true ∧ ∃ b, isaB n x = some b ∧ Q (.bl b) m
  | _ => False
theorem b_isi (hK : ∀ i, (X i).K = K) : BiU K X (.builtin "isinstance") dIsi := by
  refine ⟨_, fun i => hK i ▸ call_isi, ?_⟩
  intro G m F H xs ds Q Qd hW r h hQ
  unfold dIsi at h
  split at h
  · obtain ⟨h1, b, hb, q⟩ := h
    cases r with
    | cons r1 t =>
      cases t with
      | cons r2 t =>
        cases r2
        cases t
        exact ⟨_, _, _, _, b, rfl, .ty _, ty_of hW.ex r1 h1, kit_ty (kit_isa h1 hb), hQ.here hW q (.bl b)⟩
  · cases h
/-! all, any, sum -/
def blsD : List D → Option (List Bool)
  | [] => some []
  | .bl b :: ds => (blsD ds).map (b :: ·)
  | _ => none
theorem bls_of {K : Fg} {G : Hp} : ∀ {vs : List V} {ds : List D} {bs : List Bool}, RpA K G vs ds → blsD ds = some bs → vs = bs.map V.bl
  | _, _, bs, .nil, h => by cases h; rfl
  | _, _, bs, .cons r t, h => by
    cases r <;> first | (cases h; done) | skip
    rename_i ds b
    unfold blsD at h
    cases e : blsD ds with
    | none => rw [e] at h; cases h
    | some cs =>
      rw [e] at h
      cases h
      rw [bls_of t e]
      rfl
def intsD : List D → Option (List Int)
  | [] => some []
  | .int b :: ds => (intsD ds).map (b :: ·)
  | _ => none
theorem ints_of {K : Fg} {G : Hp} : ∀ {vs : List V} {ds : List D} {bs : List Int}, RpA K G vs ds → intsD ds = some bs → vs = bs.map V.int
  | _, _, bs, .nil, h => by cases h; rfl
  | _, _, bs, .cons r t, h => by
    cases r <;> first | (cases h; done) | skip
    rename_i ds b
    unfold intsD at h
    cases e : intsD ds with
    | none => rw [e] at h; cases h
    | some cs =>
      rw [e] at h
      cases h
      rw [ints_of t e]
      rfl
def strsD : List D → Option (List Str)
  | [] => some []
  | .str b :: ds => (strsD ds).map (b :: ·)
  | _ => none
theorem strs_of {K : Fg} {G : Hp} : ∀ {vs : List V} {ds : List D} {bs : List Str}, RpA K G vs ds → strsD ds = some bs → vs = bs.map V.str
  | _, _, bs, .nil, h => by cases h; rfl
  | _, _, bs, .cons r t, h => by
    cases r <;> first | (cases h; done) | skip
    rename_i ds b
    unfold strsD at h
    cases e : strsD ds with
    | none => rw [e] at h; cases h
    | some cs =>
      rw [e] at h
      cases h
      rw [strs_of t e]
      rfl
def dBls (f : List Bool → Bool) : WC := fun xs m Q => match xs with
  | [.lst ds] => ∃ bs, blsD ds = some bs ∧ Q (.bl (f bs)) m
  | _ => False
theorem lift_bls {f : List Bool → Bool} : LiftC K (fun vs H Q => ∃ (a : Addr) (bs : List Bool), vs = [V.ref a] ∧ SqL K H a (bs.map V.bl) ∧ Q (.bl (f bs)) H) (dBls f) := by
  intro G m F H xs ds Q Qd hW r h hQ
  unfold dBls at h
  split at h
  · obtain ⟨bs, hb, q⟩ := h
    cases r with
    | cons r1 t =>
      cases t
      cases r1 with
      | lst hx rr =>
        rw [bls_of rr hb] at hx
        exact ⟨_, bs, rfl, SqL.of (hW.ex _ _ hx), hQ.here hW q (.bl _)⟩
  · cases h
theorem b_all (hK : ∀ i, (X i).K = K) (hc : ∀ i, (X i).calm = true) : BiU K X (.builtin "all") (dBls fun bs => bs.all id) := ⟨_, fun i => hK i ▸ cr_all (hc i), lift_bls⟩
theorem b_any (hK : ∀ i, (X i).K = K) (hc : ∀ i, (X i).calm = true) : BiU K X (.builtin "any") (dBls fun bs => bs.any id) := ⟨_, fun i => hK i ▸ cr_any (hc i), lift_bls⟩
def dSum : WC := fun xs m Q => match xs with
  | [.lst ds] => ∃ bs, intsD ds = some bs ∧ Q (.int bs.sum) m
  | _ => False
theorem b_sum (hK : ∀ i, (X i).K = K) (hc : ∀ i, (X i).calm = true) : BiU K X (.builtin "sum") dSum := by
  refine ⟨_, fun i => hK i ▸ cr_sum (hc i), ?_⟩
  intro G m F H xs ds Q Qd hW r h hQ
  unfold dSum at h
  split at h
  · obtain ⟨bs, hb, q⟩ := h
    cases r with
    | cons r1 t =>
      cases t
      cases r1 with
      | lst hx rr =>
        rw [ints_of rr hb] at hx
        exact ⟨_, bs, rfl, SqL.of (hW.ex _ _ hx), hQ.here hW q (.int _)⟩
  · cases h
/-- tuple(xs), list(xs) -/
def dTuple : WC := fun xs m Q => match xs with
  | [.lst ds] => Q (.tup ds) m
  | [.tup ds] => Q (.tup ds) m
  | _ => False
theorem b_tuple (hK : ∀ i, (X i).K = K) : BiU K X (.type "tuple") dTuple := by
  refine ⟨_, fun i => hK i ▸ call_tuple_of, ?_⟩
  intro G m F H xs ds Q Qd hW r h hQ
  unfold dTuple at h
  split at h
  · cases r with
    | cons r1 t =>
      cases t
      cases r1 with
      | lst hx rr => exact ⟨_, _, rfl, Or.inl ⟨SqL.of (hW.ex _ _ hx), hQ.tup hW h rr⟩⟩
  · cases r with
    | cons r1 t =>
      cases t
      cases r1 with
      | tup hx rr => exact ⟨_, _, rfl, Or.inr ⟨Evl.ex_t hW.ex hx, hQ.here hW h (.tup hx rr)⟩⟩
  · cases h
def dList : WC := fun xs m Q => match xs with
  | [.lst ds] => Q (.lst ds) m
  | [.tup ds] => Q (.lst ds) m
  | _ => False
theorem b_list (hK : ∀ i, (X i).K = K) : BiU K X (.type "list") dList := by
  refine ⟨_, fun i => hK i ▸ call_list_of, ?_⟩
  intro G m F H xs ds Q Qd hW r h hQ
  unfold dList at h
  split at h
  · cases r with
    | cons r1 t =>
      cases t
      cases r1 with
      | lst hx rr => exact ⟨_, _, rfl, Or.inl (SqL.of (hW.ex _ _ hx)), hQ.lst hW h rr⟩
  · cases r with
    | cons r1 t =>
      cases t
      cases r1 with
      | tup hx rr => exact ⟨_, _, rfl, Or.inr (Evl.ex_t hW.ex hx), hQ.lst hW h rr⟩
  · cases h
/-! repr -/
structure Shows (d : PyData) : Prop where
  lay : d.canLay0 = true
  show1 : d.showable = true
  nod : d.hasDict = false
  deep : d.depth ≤ 60
  size : d.shown.length ≤ sizeLine
def dRepr : WC := fun xs m Q => match xs with
  | [.bl b] => Q (.str (if b then "True" else "False")) m
  | [.int i] => i.natAbs.log2 < 1920 ∧ Q (.str (toString i)) m
  | [.lst ds] => Shows (py (.lst ds)) ∧ Q (.str (py (.lst ds)).shown) m
  | [.tup ds] => Shows (py (.tup ds)) ∧ Q (.str (py (.tup ds)).shown) m
  | _ => False
def rReprB : List V → Hp → VK → Prop := fun xs H Q => ∃ b, xs = [.bl b] ∧ Q (.str (if b then "True" else "False")) H
theorem call_reprB {X : Cx} : CallR X (.builtin "repr") rReprB := by
  intro pins s σ H xs us Q I r h
  obtain ⟨b, rfl, q⟩ := h
  cases r with
  | cons r1 t =>
    cases t
    cases r1
    exact PySem.P.repr_of_bool ⟨.str _, H, I.tok _, ⟨_, rfl⟩, q⟩
def rReprI : List V → Hp → VK → Prop := fun xs H Q => ∃ i, xs = [.int i] ∧ i.natAbs.log2 < 1920 ∧ Q (.str (toString i)) H
theorem call_reprI {X : Cx} : CallR X (.builtin "repr") rReprI := by
  intro pins s σ H xs us Q I r h
  obtain ⟨i, rfl, hz, q⟩ := h
  cases r with
  | cons r1 t =>
    cases t
    obtain ⟨t, rfl⟩ := r1
    exact PySem.P.repr_of_int hz ⟨.str _, H, I.tok _, ⟨_, rfl⟩, q⟩
def rReprL (K : Fg) : List V → Hp → VK → Prop := fun xs H Q => ∃ a d, xs = [.ref a] ∧ Dp K H (.ref a) d ∧ d.showable = true ∧ d.hasDict = false ∧ d.depth ≤ 60 ∧ d.shown.length ≤ sizeLine ∧ Q (.str d.shown) H
theorem call_reprL {X : Cx} (hc : X.A.guards = some []) (hu : X.A.units + 64 < cLine) : CallR X (.builtin "repr") (rReprL X.K) := by
  intro pins s σ H xs us Q I r h
  obtain ⟨a, d, rfl, hd, hs, hh, hdp, hl, q⟩ := h
  cases r with
  | cons r1 t =>
    cases t
    cases r1
    obtain ⟨as, hr⟩ := Dp.reads I d _ _ hd rfl
    refine repr_of_reads' hr hs (fun z => by rw [hh] at z; cases z) hc (by omega) (fun _ _ q => q) (fun h' u tk k => ?_) hl
    exact ⟨.str d.shown, H, I.kept k, ⟨u, rfl⟩, q⟩
end
end DL
namespace DL
open PySem L2
open Evl (Ex)
/-! ### families: the guards too -/
structure FamG (P : Program) (w : World) (K : Fg) (mg : Str → Option Value) (base : Heap) (k : Nat) (N : List Str) {ι : Type} (X : ι → Cx) : Prop extends Fam P w K mg base k N X where
  guards : ∀ i, (X i).A.guards = some []
theorem call_or {X : Cx} {f : Value} {r r' : List V → Hp → VK → Prop} (h : CallR X f r) (h' : CallR X f r') : CallR X f (fun xs H Q => r xs H Q ∨ r' xs H Q) := by
  intro pins s σ H xs us Q I rv q
  rcases q with q | q
  · exact h pins s σ H xs us Q I rv q
  · exact h' pins s σ H xs us Q I rv q
theorem b_repr {P : Program} {w : World} {K : Fg} {mg : Str → Option Value} {base : Heap} {k : Nat} {N : List Str} {ι : Type} {X : ι → Cx} (hX : FamG P w K mg base k N X) : BiU K X (.builtin "repr") dRepr := by
  refine ⟨_, fun i => call_or (call_or call_reprB call_reprI) (hX.K i ▸ call_reprL (hX.guards i) (by have := (hX.room i).un; omega)), ?_⟩
  intro G m F H xs ds Q Qd hW r h hQ
  unfold dRepr at h
  split at h
  · cases r with
    | cons r1 t =>
      cases t
      cases r1
      exact Or.inl (Or.inl ⟨_, rfl, hQ.here hW h (.str _)⟩)
  · cases r with
    | cons r1 t =>
      cases t
      cases r1
      exact Or.inl (Or.inr ⟨_, rfl, h.1, hQ.here hW h.2 (.str _)⟩)
  · obtain ⟨h0, q⟩ := h
    cases r with
    | cons r1 t =>
      cases t
      have hd := dp_of hW.ex (D.lst _) r1 h0.lay
      cases r1 with
      | lst hx rr => exact Or.inr ⟨_, _, rfl, hd, h0.show1, h0.nod, h0.deep, h0.size, hQ.here hW q (.str _)⟩
  · obtain ⟨h0, q⟩ := h
    cases r with
    | cons r1 t =>
      cases t
      have hd := dp_of hW.ex (D.tup _) r1 h0.lay
      cases r1 with
      | tup hx rr => exact Or.inr ⟨_, _, rfl, hd, h0.show1, h0.nod, h0.deep, h0.size, hQ.here hW q (.str _)⟩
  · cases h
/-- the contexts of a comprehension's blocks -/
abbrev BI (ι : Type) := ι × Shared × Hp × Addr × List (Str × Addr) × List Addr
def Blk {ι : Type} (X : ι → Cx) (scope : Scope) : BI ι → Cx := fun j => (X j.1).blk j.2.1 j.2.2.1 scope (compEnvC scope j.2.2.2.2.1 j.2.2.2.1 (X j.1).env) j.2.2.2.2.2
theorem FamG.blk {P : Program} {w : World} {K : Fg} {mg : Str → Option Value} {base : Heap} {k : Nat} {N : List Str} {ι : Type} {X : ι → Cx} (hX : FamG P w K mg base k N X) (scope : Scope) : FamG P w K mg base k N (Blk X scope) where
  prog := fun j => hX.prog j.1
  w := fun j => hX.w j.1
  K := fun j => hX.K j.1
  mg := fun j => hX.mg j.1
  base := fun j => hX.base j.1
  hN := fun j => hX.hN j.1
  calm := fun j => hX.calm j.1
  room := fun j => hX.room j.1
  nd := hX.nd
  guards := fun j => hX.guards j.1

/-! ### targets -/
theorem wipe_ix (σ : L2.St) : ∀ (vs : List Nat) (i : Nat), (L2.wipe σ vs)[i]? = if i ∈ vs then (σ[i]?).map (fun _ => none) else σ[i]?
  | [], i => by simp [L2.wipe]
  | v :: vs, i => by
    unfold L2.wipe
    rw [List.getElem?_set]
    by_cases h : v = i
    · subst h
      rw [if_pos rfl, if_pos List.mem_cons_self, wipe_length]
      by_cases hl : v < σ.length
      · rw [if_pos hl, List.getElem?_eq_getElem hl]; rfl
      · rw [if_neg hl, List.getElem?_eq_none (Nat.le_of_not_lt hl)]; rfl
    · rw [if_neg h, wipe_ix σ vs i]
      by_cases hm : i ∈ vs
      · rw [if_pos hm, if_pos (List.mem_cons_of_mem _ hm)]
      · rw [if_neg hm, if_neg (by intro z; rcases List.mem_cons.mp z with z | z; exact h z.symm; exact hm z)]
theorem wipe_put {σ : L2.St} {vs : List Nat} {j : Nat} {o : Option V} (h : j ∈ vs) : L2.wipe (σ.set j o) vs = L2.wipe σ vs := by
  apply List.ext_getElem?
  intro i
  rw [wipe_ix, wipe_ix]
  by_cases hm : i ∈ vs
  · rw [if_pos hm, if_pos hm, List.getElem?_set]
    by_cases e : j = i
    · subst e
      rw [if_pos rfl]
      by_cases hl : j < σ.length
      · rw [if_pos hl, List.getElem?_eq_getElem hl]; rfl
      · rw [if_neg hl, List.getElem?_eq_none (Nat.le_of_not_lt hl)]
    · rw [if_neg e]
  · rw [if_neg hm, if_neg hm, List.getElem?_set, if_neg (fun e2 => hm (by rw [← e2]; exact h))]
theorem wipe_wipe {σ : L2.St} {vs : List Nat} : L2.wipe (L2.wipe σ vs) vs = L2.wipe σ vs := by
  apply List.ext_getElem?
  intro i
  rw [wipe_ix, wipe_ix]
  by_cases hm : i ∈ vs
  · rw [if_pos hm, if_pos hm]
    cases σ[i]? <;> rfl
  · rw [if_neg hm, if_neg hm]
abbrev WG := D → En0 → (En0 → Prop) → Prop
abbrev WGs := List D → En0 → (En0 → Prop) → Prop
def LiftG (K : Fg) (js : List Nat) (t : TG) (g : WG) : Prop := ∀ G m F H v d σ ρ (Q : L2.St → Hp → Prop) (Qd : En0 → Prop), Wd K G m F H → En K G σ ρ → Rp K G v d → g d ρ Qd →
  (∀ ρ' σ', Qd ρ' → En K G σ' ρ' → (∀ vs, (∀ j ∈ js, j ∈ vs) → L2.wipe σ' vs = L2.wipe σ vs) → Q σ' H) → t v σ H Q
def LiftGs (K : Fg) (js : List Nat) (t : TGs) (g : WGs) : Prop := ∀ G m F H vs ds σ ρ (Q : L2.St → Hp → Prop) (Qd : En0 → Prop), Wd K G m F H → En K G σ ρ → RpA K G vs ds → g ds ρ Qd →
  (∀ ρ' σ', Qd ρ' → En K G σ' ρ' → (∀ vs, (∀ j ∈ js, j ∈ vs) → L2.wipe σ' vs = L2.wipe σ vs) → Q σ' H) → t vs σ H Q
def PDG (K : Fg) {ι : Type} (X : ι → Cx) (tg : Expr) (js : List Nat) (g : WG) : Prop := ∃ t, (∀ i, PG (X i) tg t) ∧ LiftG K js t g
def PDGs (K : Fg) {ι : Type} (X : ι → Cx) (tgs : List Expr) (js : List Nat) (g : WGs) : Prop := ∃ t, (∀ i, PGs (X i) tgs t) ∧ LiftGs K js t g
def gvName (i : Nat) : WG := fun d ρ Q => Q (ρ.set i (some d))
def gvNil : WGs := fun ds ρ Q => ds = [] ∧ Q ρ
def gvCons (g : WG) (r : WGs) : WGs := fun ds ρ Q => ∃ d t, ds = d :: t ∧ g d ρ fun ρ1 => r t ρ1 Q
def gvTup (n : Nat) (g : WGs) : WG := fun d ρ Q => match d with
  | .tup ds => ds.length = n ∧ g ds ρ Q
  | _ => False
section
variable {K : Fg} {W : Wx} {ι : Type} {X : ι → Cx} {pos : Pos} {a b c e : Expr} {es : List Expr} {wa wb wc w : WE} {wr : WA}
theorem pg_name (i : Nat) {N : List Str} {x : Str} (hX : ∀ j, (X j).N = N) (hN : N.Nodup) (hi : N[i]? = some x := by rfl) (hx : ∀ j, Loc (X j).env.scope x := by intro _; first | exact Or.inl rfl | exact Or.inr rfl) (hf : ∀ j, (X j).fn x = true ∨ (X j).env.scope.names.lookup x = some .local := by intro _; first | exact Or.inl rfl | exact Or.inr rfl) : PDG K X (.Name x pos) [i] (gvName i) := by
  refine ⟨_, fun j => L2.pg_name (i := i) (by rw [hX j]; exact hN) (by rw [hX j]; exact hi) (hx j) (hf j), ?_⟩
  intro G m F H v d σ ρ Q Qd hW hE r h hQ
  exact hQ _ _ h (hE.put r i) fun vs hv => wipe_put (hv i List.mem_cons_self)
theorem pgs_nil : PDGs K X [] [] gvNil := by
  refine ⟨_, fun j => L2.pgs_nil, ?_⟩
  intro G m F H vs ds σ ρ Q Qd hW hE r h hQ
  obtain ⟨rfl, h⟩ := h
  cases r
  exact ⟨rfl, hQ _ _ h hE fun _ _ => rfl⟩
theorem pgs_cons {js js' : List Nat} {g : WG} {gs : WGs} (h1 : PDG K X e js g) (h2 : PDGs K X es js' gs) (hs : ∀ i, (assignEach (e :: es) (X i).env).map (·.2) = assign e (X i).env :: (assignEach es (X i).env).map (·.2) := by intro _; rfl) : PDGs K X (e :: es) (js ++ js') (gvCons g gs) := by
  obtain ⟨t, a1, a2⟩ := h1
  obtain ⟨u, b1, b2⟩ := h2
  refine ⟨_, fun j => L2.pgs_cons (a1 j) (b1 j) (hs j), ?_⟩
  intro G m F H vs ds σ ρ Q Qd hW hE r h hQ
  obtain ⟨d, t', rfl, h⟩ := h
  cases r with
  | cons r1 r2 =>
    refine ⟨_, _, rfl, a2 G m F H _ d σ ρ _ _ hW hE r1 h ?_⟩
    intro ρ1 σ1 h1 hE1 w1
    refine b2 G m F H _ t' σ1 ρ1 _ _ hW hE1 r2 h1 ?_
    intro ρ2 σ2 h2 hE2 w2
    exact hQ ρ2 σ2 h2 hE2 fun vs hv => (w2 vs fun j hj => hv j (List.mem_append_right _ hj)).trans (w1 vs fun j hj => hv j (List.mem_append_left _ hj))
theorem pg_tup {n : Nat} {js : List Nat} {g : WGs} {kx : Nat} (hK : ∀ i, (X i).K = K) (hc : ∀ i, (X i).calm = true) (h : PDGs K X es js g) (hn : ∀ i, (assignEach es (X i).env).length = n := by intro _; rfl) (hst : ∀ i, (assignEach es (X i).env).findIdx? (·.1) = none := by intro _; rfl) : PDG K X (.Tuple es kx pos) js (gvTup n g) := by
  obtain ⟨t, a1, a2⟩ := h
  refine ⟨gTup K n t, fun j => hK j ▸ L2.pg_tup (hc j) (a1 j) (hn j) (hst j), ?_⟩
  intro G m F H v d σ ρ Q Qd hW hE r h hQ
  cases r <;> first | exact (show False from h).elim | skip
  case tup a0 xs ds hx rr => exact ⟨_, _, rfl, Evl.ex_t hW.ex hx, by rw [rr.len]; exact h.1, a2 G m F H xs ds σ ρ Q Qd hW hE rr h.2 hQ⟩

/-! ### what is walked -/
def DW (K : Fg) (J : It) (ds : List D) (G0 : Hp) : Prop := ∃ Gd Y, Walk J ds.length Gd Y ∧ ∀ G m F H, Ex G0 G → Wd K G m F H → Gd H ∧
  ∀ i H' x d, ds[i]? = some d → Y i H x H' → ∃ G', Ex G G' ∧ Wd K G' m F H' ∧ Rp K G' x d
theorem DW.mono {J : It} {ds : List D} {G G' : Hp} (h : DW K J ds G) (e : Ex G G') : DW K J ds G' := by
  obtain ⟨Gd, Y, w, k⟩ := h
  exact ⟨Gd, Y, w, fun G2 m F H e2 W => k G2 m F H (e.trans e2) W⟩
def LiftI (K : Fg) (W : Wx) (t : TI) (w : WA) : Prop := ∀ G m F H σ ρ (R : It → Hp → Prop) (Qd : List D → Mem → Prop) (Qx : XQ), Wd K G m F H → En K G σ ρ → w ρ m Qd Qx → FitX K W G F Qx →
  (∀ ds m' J G' H', Qd ds m' → Ex G G' → Wd K G' m' F H' → DW K J ds G' → R J H') → t σ H R
def PDI (K : Fg) (W : Wx) {ι : Type} (X : ι → Cx) (tg iter : Expr) (w : WA) : Prop := ∃ t, (∀ i, PI (X i) tg iter t) ∧ LiftI K W t w
/-- a list's items -/
def iLst (w : WE) : WA := fun ρ m Q Qx => w ρ m (fun d m1 => match d with
  | .lst ds => Q ds m1
  | .scr ns => Q (ns.map D.int) m1
  | _ => False) Qx
theorem dw_list {a : Addr} {xs : List V} {ds : List D} {G : Hp} (h : G a = some (.lst xs)) (r : RpA K G xs ds) : DW K (Itl K a) ds G := by
  refine ⟨_, _, r.len ▸ walk_list (xs := xs), fun G2 m F H e W => ⟨SqL.of (W.ex _ _ (e _ _ h)), ?_⟩⟩
  rintro i H' x d hd ⟨rfl, hx⟩
  obtain ⟨v, hv, rv⟩ := r.at hd
  rw [hv] at hx
  cases hx
  exact ⟨G2, Ex.refl _, W, rv.mono e⟩
theorem dw_scr {a : Addr} {ns : List Int} {G : Hp} (h : SqL K G a (ns.map V.int)) : DW K (Itl K a) (ns.map D.int) G := by
  have hl : (ns.map D.int).length = (ns.map V.int).length := by rw [List.length_map, List.length_map]
  refine ⟨_, _, hl ▸ walk_list (xs := ns.map V.int), fun G2 m F H e W => ⟨Evl.ex_l W.ex (Evl.ex_l e h), ?_⟩⟩
  rintro i H' x d hd ⟨rfl, hx⟩
  rw [List.getElem?_map] at hd hx
  cases e2 : ns[i]? with
  | none => rw [e2] at hd; cases hd
  | some n =>
    rw [e2] at hd hx
    cases hd; cases hx
    exact ⟨G2, Ex.refl _, W, .int n⟩
theorem pi_lst (hK : ∀ i, (X i).K = K) (ha : PD K W X a wa) {tg : Expr} : PDI K W X tg a (iLst wa) := by
  obtain ⟨t, h1, h2⟩ := ha
  refine ⟨iList K t, fun i => hK i ▸ pi_list (h1 i), ?_⟩
  intro G m F H σ ρ R Qd Qx hW hE h hX hR
  refine h2 G m F H σ ρ _ _ Qx hW hE h hX ?_
  intro d m1 x G1 H1 q e1 W1 r1
  cases r1 <;> first | exact (show False from q).elim | skip
  case lst a0 xs ds hx rr => exact ⟨a0, rfl, ⟨xs, SqL.of (W1.ex _ _ hx)⟩, hR _ _ _ _ _ q e1 W1 (dw_list hx rr)⟩
  case scr a0 ns hx => exact ⟨a0, rfl, ⟨_, Evl.ex_l W1.ex hx⟩, hR _ _ _ _ _ q e1 W1 (dw_scr hx)⟩
/-- a tuple's items -/
def iTp (w : WE) : WA := fun ρ m Q Qx => w ρ m (fun d m1 => match d with
  | .tup ds => Q ds m1
  | _ => False) Qx
theorem pi_tp (hK : ∀ i, (X i).K = K) (ha : PD K W X a wa) {tg : Expr} : PDI K W X tg a (iTp wa) := by
  obtain ⟨t, h1, h2⟩ := ha
  refine ⟨iTup K t, fun i => hK i ▸ pi_tup (h1 i), ?_⟩
  intro G m F H σ ρ R Qd Qx hW hE h hX hR
  refine h2 G m F H σ ρ _ _ Qx hW hE h hX ?_
  intro d m1 x G1 H1 q e1 W1 r1
  cases r1 <;> first | exact (show False from q).elim | skip
  case tup a0 xs ds hx rr =>
    refine ⟨a0, rfl, ⟨xs, Evl.ex_t W1.ex hx⟩, hR _ _ _ _ _ q e1 W1 ?_⟩
    refine ⟨_, _, rr.len ▸ walk_tup (xs := xs), fun G2 m F H e W => ⟨Evl.ex_t W.ex (Evl.ex_t e hx), ?_⟩⟩
    rintro i H' x d hd ⟨rfl, hx⟩
    obtain ⟨v, hv, rv⟩ := rr.at hd
    rw [hv] at hx
    cases hx
    exact ⟨G2, Ex.refl _, W, rv.mono e⟩
/-- a text's signs -/
def signs (z : Str) : List D := z.cps.toList.map fun c => D.str ⟨#[c]⟩
def iSg (w : WE) : WA := fun ρ m Q Qx => w ρ m (fun d m1 => match d with
  | .str z => Q (signs z) m1
  | _ => False) Qx
theorem pi_sg (ha : PD K W X a wa) {tg : Expr} : PDI K W X tg a (iSg wa) := by
  obtain ⟨t, h1, h2⟩ := ha
  refine ⟨_, fun i => L2.pi_str (h1 i), ?_⟩
  intro G m F H σ ρ R Qd Qx hW hE h hX hR
  refine h2 G m F H σ ρ _ _ Qx hW hE h hX ?_
  intro d m1 x G1 H1 q e1 W1 r1
  cases r1 <;> first | exact (show False from q).elim | skip
  rename_i z
  refine ⟨z, rfl, hR _ _ _ _ _ q e1 W1 ?_⟩
  have hl : (signs z).length = z.cps.size := by unfold signs; rw [List.length_map, Array.length_toList]
  refine ⟨_, _, hl ▸ walk_str (z := z), fun G2 m F H e W => ⟨trivial, ?_⟩⟩
  rintro i H' x d hd ⟨rfl, c, hc, rfl⟩
  unfold signs at hd
  rw [List.getElem?_map, Array.getElem?_toList, hc] at hd
  cases hd
  exact ⟨G2, Ex.refl _, W, .str _⟩
/-- range(n) -/
def iRg1 (w : WA) : WA := fun ρ m Q Qx => w ρ m (fun ds m1 => match ds with
  | [.int n] => (-(2 ^ 62) ≤ n ∧ n < 2 ^ 62) ∧ Q ((List.range n.toNat).map fun i => D.int (0 + (i : Nat))) m1
  | _ => False) Qx
theorem pi_rg1 {mg : Str → Option Value} {p : Pos} (hX : ∀ i, (X i).mg = mg) (hm : mg "range" = none) (ha : PDA K W X [a] wr) (hg : ∀ i, Gl (X i) "range" := by intro _; rfl) (hs : ∀ i, starEach [a] (X i).env = [(false, eval a (X i).env)] := by intro _; rfl) {tg : Expr} : PDI K W X tg (.Call (.Name "range" p) [a] [] pos) (iRg1 wr) := by
  obtain ⟨t, h1, h2⟩ := ha
  refine ⟨_, fun i => pi_range1 (hg i) (by rw [hX i]; exact hm) (h1 i) (hs i), ?_⟩
  intro G m F H σ ρ R Qd Qx hW hE h hX hR
  refine h2 G m F H σ ρ _ _ Qx hW hE h hX ?_
  intro ds m1 xs G1 H1 q e1 W1 r1
  split at q
  · cases r1 with
    | cons r1 t =>
      cases t
      cases r1
      rename_i n
      refine ⟨n, rfl, q.1.1, q.1.2, hR _ _ _ _ _ q.2 e1 W1 ?_⟩
      have hl : ((List.range n.toNat).map fun i => D.int (0 + (i : Nat))).length = n.toNat := by rw [List.length_map, List.length_range]
      refine ⟨_, _, (by rw [hl]; exact walk_range (lo := 0) (n := n.toNat)), fun G2 m F H e W => ⟨trivial, ?_⟩⟩
      rintro i H' x d hd ⟨rfl, rfl⟩
      rw [List.getElem?_map] at hd
      cases e2 : (List.range n.toNat)[i]? with
      | none => rw [e2] at hd; cases hd
      | some j =>
        rw [e2] at hd
        cases hd
        obtain ⟨_, rfl⟩ := List.getElem?_eq_some_iff.mp e2
        rw [List.getElem_range]
        exact ⟨G2, Ex.refl _, W, .int _⟩
  · cases q

/-! ### statements -/
def sNext : WS := fun E ρ m => E.nx ρ m
def sSeq (t u : WS) : WS := fun E ρ m => t { E with nx := fun ρ' m' => u E ρ' m' } ρ m
def sRet (w : WE) : WS := fun E ρ m => w ρ m E.rt E.ex
def sDrop (w : WE) : WS := fun E ρ m => w ρ m (fun _ m' => E.nx ρ m') E.ex
def sIf (c : WT) (t u : WS) : WS := fun E ρ m => c ρ m (fun k m' => if k = true then t E ρ m' else u E ρ m') E.ex
def sSet (i : Nat) (w : WE) : WS := fun E ρ m => w ρ m (fun d m' => E.nx (ρ.set i (some d)) m') E.ex
def sNever : WS := fun _ _ _ => False
variable {st : Stmt} {sts sts' : List Stmt} {t u : WS} {ua : WT}
theorem pb_nil : PDB K W X [] sNext := ⟨_, fun _ => pss_nil, fun G m F H σ ρ S E hW hE h f => f.nx ρ m σ G H h (Ex.refl G) hW hE⟩
theorem pb_cons (h1 : PDS K W X st t) (h2 : PDB K W X sts u) : PDB K W X (st :: sts) (sSeq t u) := by
  obtain ⟨t', a1, a2⟩ := h1
  obtain ⟨u', b1, b2⟩ := h2
  refine ⟨_, fun i => pss_cons (a1 i) (b1 i), ?_⟩
  intro G m F H σ ρ S E hW hE h f
  refine a2 G m F H σ ρ _ _ hW hE h ⟨?_, f.rt, f.bk, f.ct, f.ex⟩
  intro ρ' m' σ' G' H' q e W' E'
  exact b2 G' m' F H' σ' ρ' S E W' E' q (f.mono e)
theorem pb_one (h1 : PDS K W X st t) : PDB K W X [st] t := by
  obtain ⟨t', a1, a2⟩ := h1
  exact ⟨_, fun i => pss_one (a1 i), a2⟩
theorem pb_never : PDB K W X sts sNever := ⟨_, fun _ => pss_never, fun G m F H σ ρ S E hW hE h f => h.elim⟩
theorem ps_never : PDS K W X st sNever := ⟨_, fun _ => L2.ps_never, fun G m F H σ ρ S E hW hE h f => h.elim⟩
theorem ps_ret (h : PD K W X e w) : PDS K W X (.Return (some e) pos) (sRet w) := by
  obtain ⟨t, h1, h2⟩ := h
  refine ⟨_, fun i => L2.ps_ret (h1 i), ?_⟩
  intro G m F H σ ρ S E hW hE h f
  exact h2 G m F H σ ρ _ _ E.ex hW hE h f.ex f.rt
theorem ps_expr (h : PD K W X e w) (hs : ∀ i, swapsWith e none pos.line (X i).env = pure false := by intro _; rfl) : PDS K W X (.Expr e pos) (sDrop w) := by
  obtain ⟨t, h1, h2⟩ := h
  refine ⟨_, fun i => L2.ps_expr (h1 i) (hs i), ?_⟩
  intro G m F H σ ρ S E hW hE h f
  refine h2 G m F H σ ρ _ _ E.ex hW hE h f.ex ?_
  intro d m' v G' H' q e W' r
  exact f.nx ρ m' σ G' H' q e W' (hE.mono e)
theorem ps_if (hc : PDT K W X c ua) (h1 : PDB K W X sts t) (h2 : PDB K W X sts' u) : PDS K W X (.If c sts sts' pos) (sIf ua t u) := by
  obtain ⟨tc, c1, c2⟩ := hc
  obtain ⟨t', a1, a2⟩ := h1
  obtain ⟨u', b1, b2⟩ := h2
  refine ⟨_, fun i => L2.ps_if (c1 i) (a1 i) (b1 i), ?_⟩
  intro G m F H σ ρ S E hW hE h f
  refine c2 G m F H σ ρ _ _ E.ex hW hE h f.ex ?_
  intro k m' G' H' q e W'
  cases k with
  | true => exact a2 G' m' F H' σ ρ S E W' (hE.mono e) q (f.mono e)
  | false => exact b2 G' m' F H' σ ρ S E W' (hE.mono e) q (f.mono e)
theorem ps_set (i : Nat) {N : List Str} {x : Str} {p' : Pos} (hX : ∀ j, (X j).N = N) (hN : N.Nodup) (h : PD K W X e w) (hi : N[i]? = some x := by rfl) (hx : ∀ j, Loc (X j).env.scope x := by intro _; first | exact Or.inl rfl | exact Or.inr rfl) (hs : ∀ j, swapsWith e (some (.Name x p')) pos.line (X j).env = pure false := by intro _; rfl)
    (hf : ∀ j, (X j).fn x = true ∨ (X j).env.scope.names.lookup x = some .local := by intro _; first | exact Or.inl rfl | exact Or.inr rfl) : PDS K W X (.Assign [.Name x p'] e pos) (sSet i w) := by
  obtain ⟨t, h1, h2⟩ := h
  refine ⟨_, fun j => L2.ps_set (i := i) (by rw [hX j]; exact hN) (by rw [hX j]; exact hi) (hx j) (h1 j) (hs j) (hf j), ?_⟩
  intro G m F H σ ρ S E hW hE h f
  refine h2 G m F H σ ρ _ _ E.ex hW hE h f.ex ?_
  intro d m' v G' H' q e W' r
  exact f.nx _ m' _ G' H' q e W' ((hE.mono e).put r i)
/-- xs[i] = e, xs owned -/
def sPut (o i v : WE) : WS := fun E ρ m => v ρ m (fun d m1 => o ρ m1 (fun x m2 => i ρ m2 (fun k m3 => match x, k with
  | .box a, .int j => ∃ ds n, m3 a = some ds ∧ ixN ds.length j = some n ∧ E.nx ρ (m3.up a (ds.set n d))
  | _, _ => False) E.ex) E.ex) E.ex
theorem ps_put {o i : Expr} {wo wi wv : WE} {p' : Pos} (hv : PD K W X e wv) (ho : PD K W X o wo) (hi : PD K W X i wi) (hs : ∀ j, swapsWithSole [.Subscript o i p'] e pos.line (X j).env = pure false := by intro _; rfl) (hw : ∀ j, swappedStores [.Subscript o i p'] e (X j).env = pure none := by intro _; rfl)
    (h1 : ∀ j, (assignEach [.Subscript o i p'] (X j).env).map (·.2) = [assign (.Subscript o i p') (X j).env] := by intro _; rfl)
    (ha : ∀ j v, assign (.Subscript o i p') (X j).env v = (do
      let ov ← holding [v] (eval o (X j).env)
      let iv ← holding [v, ov] (eval i (X j).env)
      standAt p'
      holding [v, ov, iv] (setItem ov iv v)
      release [v, ov, iv] []) := by intro _ _; rfl) : PDS K W X (.Assign [.Subscript o i p'] e pos) (sPut wo wi wv) := by
  obtain ⟨tv, v1, v2⟩ := hv
  obtain ⟨to, o1, o2⟩ := ho
  obtain ⟨ti, i1, i2⟩ := hi
  refine ⟨_, fun j => ps_asg (v1 j) (pg_sub (o1 j) (i1 j) set_list (ha j)) (hs j) (hw j) (h1 j), ?_⟩
  intro G m F H σ ρ S E hW hE h f
  refine v2 G m F H σ ρ _ _ E.ex hW hE h f.ex ?_
  intro d m1 v G1 H1 q1 e1 W1 r1
  refine o2 G1 m1 F H1 σ ρ _ _ E.ex W1 (hE.mono e1) q1 (f.ex.mono e1) ?_
  intro x m2 xv G2 H2 q2 e2 W2 r2
  refine i2 G2 m2 F H2 σ ρ _ _ E.ex W2 (hE.mono (e1.trans e2)) q2 (f.ex.mono (e1.trans e2)) ?_
  intro k m3 kv G3 H3 q3 e3 W3 r3
  have r2 := r2.mono e3
  have r1 := r1.mono (e2.trans e3)
  have e13 := (e1.trans e2).trans e3
  cases r2 <;> cases r3 <;> first | exact (show False from q3).elim | skip
  rename_i a j
  obtain ⟨ds, n, hm, hn, q⟩ := q3
  obtain ⟨_, _, xs, hx, rr⟩ := W3.own a ds hm
  refine ⟨a, xs, j, n, rfl, rfl, hx, by rw [rr.len]; exact hn, ?_⟩
  exact f.nx ρ _ σ G3 _ q e13 (W3.put hm (rr.set r1 n)) (hE.mono e13)
/-! ### for -/
def wLoop (g : WG) (body : WS) (E : De) : List D → En0 → Mem → Prop
  | [], ρ, m => E.nx ρ m
  | d :: ds, ρ, m => g d ρ fun ρ1 => body { E with nx := wLoop g body E ds, ct := wLoop g body E ds, bk := E.nx } ρ1 m
def sFor (wi : WA) (g : WG) (body : WS) : WS := fun E ρ m => wi ρ m (fun ds m1 => wLoop g body E ds ρ m1) E.ex
theorem drop_cons {α : Type} {l : List α} {i : Nat} (h : i < l.length) : l.drop i = l[i] :: l.drop (i + 1) := List.drop_eq_getElem_cons h
theorem ps_for {tg iter : Expr} {wi : WA} {js : List Nat} {g : WG} (hp : ∀ i, PassesOwn (model (X i).prog (X i).w) (X i).A (X i).env (X i).xe) (hc : ∀ i, (X i).calm = true) (hi : PDI K W X tg iter wi) (hg : PDG K X tg js g) (hb : PDB K W X sts t)
    (hs : ∀ i x, foldedSetIterable iter (X i).env x = pure x := by intro _ _; rfl) : PDS K W X (.For tg iter sts [] pos) (sFor wi g t) := by
  obtain ⟨ti, i1, i2⟩ := hi
  obtain ⟨tg', g1, g2⟩ := hg
  obtain ⟨tb, b1, b2⟩ := hb
  refine ⟨_, fun i => L2.ps_for (hp i) (hc i) (i1 i) (g1 i) (b1 i) (hs i), ?_⟩
  intro G m F H σ ρ S E hW hE h f
  refine i2 G m F H σ ρ _ _ E.ex hW hE h f.ex ?_
  intro ds m1 J G1 H1 h1 e1 W1 dw
  obtain ⟨Gd, Y, wk, st⟩ := dw
  refine for_it wk (fun i σ H => ∃ G' m' ρ', Ex G1 G' ∧ Wd K G' m' F H ∧ En K G' σ ρ' ∧ wLoop g t E (ds.drop i) ρ' m') ⟨G1, m1, ρ, Ex.refl _, W1, hE.mono e1, h1⟩ ?_ ?_ ?_
  · rintro i σ H _ ⟨G', m', ρ', e', W', _, _⟩
    exact (st G' m' F H e' W').1
  · rintro i x σ H H' hi ⟨G', m', ρ', e', W', E', l⟩ y
    rw [drop_cons hi] at l
    obtain ⟨G2, e2, W2, r⟩ := (st G' m' F H e' W').2 i H' x ds[i] (List.getElem?_eq_getElem hi) y
    have e12 := e1.trans (e'.trans e2)
    refine g2 G2 m' F H' x _ σ ρ' _ _ W2 (E'.mono e2) r l ?_
    intro ρ1 σ1 q E1 _
    refine b2 G2 m' F H' σ1 ρ1 _ _ W2 E1 q ⟨?_, (f.mono e12).rt, ?_, ?_, (f.mono e12).ex⟩
    · intro ρ2 m2 σ2 G3 H3 q3 e3 W3 E3
      exact ⟨G3, m2, ρ2, (e'.trans e2).trans e3, W3, E3, q3⟩
    · exact (f.mono e12).nx
    · intro ρ2 m2 σ2 G3 H3 q3 e3 W3 E3
      exact ⟨G3, m2, ρ2, (e'.trans e2).trans e3, W3, E3, q3⟩
  · rintro σ H ⟨G', m', ρ', e', W', E', l⟩
    rw [List.drop_length] at l
    exact f.nx ρ' m' σ G' H l (e1.trans e') W' E'
/-! ### comprehensions -/
def wLcGo (g : WG) (tt : WT) (te : WE) (ρ : En0) (Qx : XQ) : List D → List D → Mem → (D → Mem → Prop) → Prop
  | [], acc, m, Q => Q (.lst acc) m
  | d :: ds, acc, m, Q => g d ρ fun ρ1 => tt ρ1 m (fun b m1 => if b = true then te ρ1 m1 (fun y m2 => wLcGo g tt te ρ Qx ds (acc ++ [y]) m2 Q) Qx else wLcGo g tt te ρ Qx ds acc m1 Q) Qx
def wLc (wi : WA) (g : WG) (tt : WT) (te : WE) (vs : List Nat) : WE := fun ρ m Q Qx => wi ρ m (fun ds m1 => ds.length ≤ 1000000 ∧ wLcGo g tt te (wipeD ρ vs) Qx ds [] m1 Q) Qx
def tvYes : WT := fun _ m Q _ => Q true m
def PDTs (K : Fg) (W : Wx) {ι : Type} (X : ι → Cx) (es : List Expr) (w : WT) : Prop := ∃ t, (∀ i, PTs (X i) es t) ∧ LiftT K W t w
theorem pts_nil : PDTs K W X [] tvYes := ⟨_, fun _ => L2.pts_nil, fun G m F H σ ρ Q Qd Qx hW hE h hX hQ => hQ true m G H h (Ex.refl G) hW⟩
theorem pts_one (h : PDT K W X c ua) : PDTs K W X [c] ua := by
  obtain ⟨t, h1, h2⟩ := h
  exact ⟨t, fun i => L2.pts_one (h1 i), h2⟩
theorem line_big : (1000000 : Nat) < sizeLine := by rw [sizeLine_eq]; decide
theorem lift_lc {ti : TI} {wi : WA} {tG : TG} {js : List Nat} {g : WG} {tT : TT} {tt : WT} {tE : TE} {te : WE} {vs : List Nat} (hi : LiftI K W ti wi) (hg : LiftG K js tG g) (ht : LiftT K W tT tt) (he : LiftE K W tE te) (hj : ∀ j ∈ js, j ∈ vs) :
    LiftE K W (tLc ti tG tT tE vs) (wLc wi g tt te vs) := by
  intro G m F H σ ρ Q Qd Qx hW hE h hX hQ
  refine hi G m F H σ ρ _ _ Qx hW hE h hX ?_
  intro ds m1 J G1 H1 h1 e1 W1 dw
  intro Dl hD
  obtain ⟨Gd, Y, wk, st⟩ := dw
  obtain ⟨hG, hm, hF⟩ := W1.fresh hD
  obtain ⟨hz, h1⟩ := h1
  refine lc_it wk (fun i H => ∃ G' m' acc xs, Ex G1 G' ∧ Wd K G' m' (upd F Dl (.lst xs)) H ∧ RpA K G' xs acc ∧ acc.length ≤ i ∧ wLcGo g tt te (wipeD ρ vs) Qx (ds.drop i) acc m' Qd)
    ⟨G1, m1, [], [], Ex.refl _, W1.frame hD (.lst []), .nil, Nat.le_refl _, h1⟩ ?_ ?_ ?_
  · rintro i H _ ⟨G', m', acc, xs, e', W', _⟩
    exact (st G' m' _ H e' W').1
  · rintro i x H H' hi' ⟨G', m', acc, xs, e', W', ra, hl, l⟩ y
    rw [drop_cons hi'] at l
    obtain ⟨G2, e2, W2, r⟩ := (st G' m' _ H e' W').2 i H' x ds[i] (List.getElem?_eq_getElem hi') y
    have e12 := (e1.trans e').trans e2
    refine hg G2 m' _ H' x _ (L2.wipe σ vs) (wipeD ρ vs) _ _ W2 ((hE.mono e12).wipe vs) r l ?_
    intro ρ1 σ1 q E1 w1
    refine ⟨(w1 vs hj).trans wipe_wipe, ?_⟩
    refine ht G2 m' _ H' σ1 ρ1 _ _ Qx W2 E1 q ((hX.mono e12).frame hF) ?_
    intro b m2 G3 H3 q3 e3 W3
    have e13 := e12.trans e3
    cases b with
    | true =>
      refine he G3 m2 _ H3 σ1 ρ1 _ _ Qx W3 (E1.mono e3) q3 ((hX.mono e13).frame hF) ?_
      intro d m3 v G4 H4 q4 e4 W4 r4
      have rx := (ra.mono e2).mono (e3.trans e4)
      refine ⟨xs, W4.fr _ _ upd_same, ?_, G4, m3, acc ++ [d], xs ++ [v], ((e'.trans e2).trans e3).trans e4, W4.reframe _, rx.app (.cons r4 .nil), ?_, q4⟩
      · rw [ra.len]
        have := line_big
        omega
      · rw [List.length_append, List.length_singleton]; omega
    | false =>
      exact ⟨G3, m2, acc, xs, (e'.trans e2).trans e3, W3, (ra.mono e2).mono e3, by omega, q3⟩
  · rintro H ⟨G', m', acc, xs, e', W', ra, hl, l⟩
    rw [List.drop_length] at l
    obtain ⟨e3, W3⟩ := W'.adopt hF
    exact hQ _ m' _ _ _ l ((e1.trans e').trans e3) W3 (.lst upd_same (ra.mono e3))
theorem pd_lc {elt tg iter : Expr} {ifs : List Expr} {scope : Scope} {own : List (Str × Nat)} {wi : WA} {js : List Nat} {g : WG} {tt : WT} {te : WE} {N : List Str} (hX : ∀ j, (X j).N = N) (hc : ∀ i, (X i).calm = true) (hN : N.Nodup) (hi : PDI K W X tg iter wi)
    (ok : ∀ i, BlkOk N (X i).env.scope scope own) (hg : PDG K (Blk X scope) tg js g) (ht : PDTs K W (Blk X scope) ifs tt) (he : PD K W (Blk X scope) elt te) (hj : ∀ j ∈ js, j ∈ own.map (·.2) := by decide) (hs : ∀ i x, foldedSetIterable iter (X i).env x = pure x := by intro _ _; rfl) :
    PD K W X (.ListComp elt [⟨tg, iter, ifs, 0⟩] scope pos) (wLc wi g tt te (own.map (·.2))) := by
  obtain ⟨ti, i1, i2⟩ := hi
  obtain ⟨tG, g1, g2⟩ := hg
  obtain ⟨tT, t1, t2⟩ := ht
  obtain ⟨tE, e1, e2⟩ := he
  exact ⟨_, fun i => pe_lc (hc i) (by rw [hX i]; exact hN) (i1 i) (by rw [hX i]; exact ok i) (fun s H C cl fp => g1 (i, s, H, C, cl, fp)) (fun s H C cl fp => t1 (i, s, H, C, cl, fp)) (fun s H C cl fp => e1 (i, s, H, C, cl, fp)) (hs i), lift_lc i2 g2 t2 e2 hj⟩
theorem ps_setLc {i : Nat} {y : Str} {py : Pos} {elt tg iter : Expr} {ifs : List Expr} {scope : Scope} {own : List (Str × Nat)} {wi : WA} {js : List Nat} {g : WG} {tt : WT} {te : WE} {N : List Str} {spos : Pos} (hX : ∀ j, (X j).N = N) (hc : ∀ i, (X i).calm = true) (hN : N.Nodup) (hy : N[i]? = some y)
    (hyl : ∀ j, (X j).env.scope.names.lookup y = some .local) (hsw : ∀ j, swapsWith (.ListComp elt [⟨tg, iter, ifs, 0⟩] scope pos) (some (.Name y py)) spos.line (X j).env = pure true) (hi : PDI K W X tg iter wi)
    (ok : ∀ i, BlkOk N (X i).env.scope scope own) (hg : PDG K (Blk X scope) tg js g) (ht : PDTs K W (Blk X scope) ifs tt) (he : PD K W (Blk X scope) elt te) (hj : ∀ j ∈ js, j ∈ own.map (·.2) := by decide) (hs : ∀ i x, foldedSetIterable iter (X i).env x = pure x := by intro _ _; rfl) :
    PDS K W X (.Assign [.Name y py] (.ListComp elt [⟨tg, iter, ifs, 0⟩] scope pos) spos) (sSet i (wLc wi g tt te (own.map (·.2)))) := by
  obtain ⟨ti, i1, i2⟩ := hi
  obtain ⟨tG, g1, g2⟩ := hg
  obtain ⟨tT, t1, t2⟩ := ht
  obtain ⟨tE, e1, e2⟩ := he
  refine ⟨_, fun j => L2.ps_setLc (i := i) (hc j) (by rw [hX j]; exact hN) (by rw [hX j]; exact hy) (hyl j) (hsw j) (i1 j) (by rw [hX j]; exact ok j) (fun s H C cl fp => g1 (j, s, H, C, cl, fp)) (fun s H C cl fp => t1 (j, s, H, C, cl, fp)) (fun s H C cl fp => e1 (j, s, H, C, cl, fp)) (hs j), ?_⟩
  intro G m F H σ ρ S E hW hE h f
  refine lift_lc i2 g2 t2 e2 hj G m F H σ ρ _ _ E.ex hW hE h f.ex ?_
  intro d m' v G' H' q e W' r
  exact f.nx _ m' _ G' H' q e W' ((hE.mono e).put r i)
/-! ### join -/
def wJoin (o e : WE) : WE := fun ρ m Q Qx => o ρ m (fun x m1 => match x with
  | .str a => e ρ m1 (fun y m2 => match y with
    | .lst ds => ∃ ys, strsD ds = some ys ∧ (ys.map (·.length)).sum + ys.length * a.length ≤ 16777216 ∧ Q (.str (Txt.join a ys)) m2
    | _ => False) Qx
  | _ => False) Qx
theorem pd_join {o : Expr} {wo : WE} {apos : Pos} (hK : ∀ i, (X i).K = K) (ho : PD K W X o wo) (he : PD K W X e w) (hs : ∀ i, starEach [e] (X i).env = [(false, eval e (X i).env)] := by intro _; rfl) (hb : ∀ i, attributeBase o "join" (X i).env (eval o (X i).env) = eval o (X i).env := by intro _; rfl) (hl : (apos.endLine == pos.line) = true := by rfl) :
    PD K W X (.Call (.Attribute o "join" apos) [e] [] pos) (wJoin wo w) := by
  obtain ⟨to, o1, o2⟩ := ho
  obtain ⟨te, e1, e2⟩ := he
  refine ⟨_, fun i => hK i ▸ pe_join (o1 i) (e1 i) (hs i) (hb i) hl, ?_⟩
  intro G m F H σ ρ Q Qd Qx hW hE h hX hQ
  refine o2 G m F H σ ρ _ _ Qx hW hE h hX ?_
  intro x m1 xv G1 H1 q1 f1 W1 r1
  cases r1 <;> first | exact (show False from q1).elim | skip
  rename_i a
  refine ⟨⟨a, rfl⟩, ?_⟩
  refine e2 G1 m1 F H1 σ ρ _ _ Qx W1 (hE.mono f1) q1 (hX.mono f1) ?_
  intro y m2 yv G2 H2 q2 f2 W2 r2
  cases r2 <;> first | exact (show False from q2).elim | skip
  rename_i l xs ds hx rr
  obtain ⟨ys, hy, hz, q⟩ := q2
  rw [strs_of rr hy] at hx
  exact ⟨a, l, ys, rfl, rfl, Or.inl (SqL.of (W2.ex _ _ hx)), hz, hQ _ m2 _ _ _ q (f1.trans f2) W2 (.str _)⟩
end

/-! ### loops and comprehensions over data -/
theorem lc_pure {j : Nat} {tt : WT} {te : WE} {ρ : En0} {Qx : XQ} {m : Mem} (p : D → Bool) (f : D → D) : ∀ (ds acc : List D) (Q : D → Mem → Prop),
    (∀ d ∈ ds, ∀ Q : Bool → Mem → Prop, Q (p d) m → tt (ρ.set j (some d)) m Q Qx) → (∀ d ∈ ds, p d = true → ∀ Q : D → Mem → Prop, Q (f d) m → te (ρ.set j (some d)) m Q Qx) →
    Q (.lst (acc ++ (ds.filter p).map f)) m → wLcGo (gvName j) tt te ρ Qx ds acc m Q
  | [], acc, Q, _, _, h => by
    rw [List.filter_nil, List.map_nil, List.append_nil] at h
    exact h
  | d :: ds, acc, Q, h1, h2, h => by
    refine h1 d List.mem_cons_self _ ?_
    by_cases hp : p d = true
    · rw [if_pos hp]
      refine h2 d List.mem_cons_self hp _ ?_
      refine lc_pure p f ds (acc ++ [f d]) Q (fun e he => h1 e (List.mem_cons_of_mem _ he)) (fun e he => h2 e (List.mem_cons_of_mem _ he)) ?_
      rw [List.filter_cons_of_pos hp, List.map_cons] at h
      rw [List.append_assoc]
      exact h
    · rw [if_neg hp]
      refine lc_pure p f ds acc Q (fun e he => h1 e (List.mem_cons_of_mem _ he)) (fun e he => h2 e (List.mem_cons_of_mem _ he)) ?_
      rw [List.filter_cons_of_neg hp] at h
      exact h
theorem lc_map {j : Nat} {te : WE} {ρ : En0} {Qx : XQ} {m : Mem} (f : D → D) (ds acc : List D) (Q : D → Mem → Prop) (h2 : ∀ d ∈ ds, ∀ Q : D → Mem → Prop, Q (f d) m → te (ρ.set j (some d)) m Q Qx)
    (h : Q (.lst (acc ++ ds.map f)) m) : wLcGo (gvName j) tvYes te ρ Qx ds acc m Q := by
  refine lc_pure (fun _ => true) f ds acc Q (fun _ _ _ q => q) (fun d hd _ => h2 d hd) ?_
  rw [List.filter_eq_self.mpr (fun _ _ => rfl)]
  exact h
/-- a comprehension whose items change what is owned: I by the items so far -/
theorem lc_inv {j : Nat} {te : WE} {ρ : En0} {Qx : XQ} (I : List D → Mem → Prop) (n : Nat) : ∀ (ds acc : List D) (m : Mem) (Q : D → Mem → Prop), acc.length + ds.length = n → I acc m →
    (∀ d ∈ ds, ∀ acc m, acc.length < n → I acc m → ∀ Q : D → Mem → Prop, (∀ y m', I (acc ++ [y]) m' → Q y m') → te (ρ.set j (some d)) m Q Qx) →
    (∀ acc' m', acc'.length = n → I acc' m' → Q (.lst acc') m') → wLcGo (gvName j) tvYes te ρ Qx ds acc m Q
  | [], acc, m, Q, hn, h0, _, h => h acc m hn h0
  | d :: ds, acc, m, Q, hn, h0, h1, h => by
    rw [List.length_cons] at hn
    refine h1 d List.mem_cons_self acc m (by omega) h0 _ fun y m' h' => ?_
    refine lc_inv I n ds (acc ++ [y]) m' Q ?_ h' (fun e he => h1 e (List.mem_cons_of_mem _ he)) h
    rw [List.length_append, List.length_singleton]
    omega
/-- a for whose turns each end in a next one: I between the turns -/
theorem loop_inv {g : WG} {body : WS} {E : De} (I : En0 → Mem → Prop) : ∀ (ds : List D) (ρ : En0) (m : Mem), I ρ m →
    (∀ d ∈ ds, ∀ ρ m, I ρ m → ∀ E' : De, E'.rt = E.rt → E'.ex = E.ex → (∀ ρ' m', I ρ' m' → E'.nx ρ' m') → (∀ ρ' m', I ρ' m' → E'.ct ρ' m') → g d ρ fun ρ1 => body E' ρ1 m) → (∀ ρ m, I ρ m → E.nx ρ m) → wLoop g body E ds ρ m
  | [], ρ, m, h0, _, h => h ρ m h0
  | d :: ds, ρ, m, h0, h1, h => by
    refine h1 d List.mem_cons_self ρ m h0 _ rfl rfl ?_ ?_
    · intro ρ' m' h'
      exact loop_inv I ds ρ' m' h' (fun e he => h1 e (List.mem_cons_of_mem _ he)) h
    · intro ρ' m' h'
      exact loop_inv I ds ρ' m' h' (fun e he => h1 e (List.mem_cons_of_mem _ he)) h

/-! ### defs, by data -/
abbrev DFn := List D → Mem → (D → Mem → Prop) → XQ → Prop
def FitXc (K : Fg) (mg : Str → Option Value) (G : Hp) (F : Hp) (Qx : XQ) (E : XK) : Prop := ∀ x m' cls d G' H', Qx x m' → mg x.cls = some cls → Ex G G' → Wd K G' m' F H' → Xr K G' x d → E cls d H'
def spD (K : Fg) (mg : Str → Option Value) (f : DFn) : Sp := fun vs H Q E => ∃ G m F ds Qd Qx, Wd K G m F H ∧ RpA K G vs ds ∧ f ds m Qd Qx ∧ FitE K G F Q Qd ∧ FitXc K mg G F Qx E
/-- a def's promise, where no repr is under way -/
structure FnG (P : Program) (w : World) (K : Fg) (mg : Str → Option Value) (base : Heap) (CX : CXT) (k : Nat) (f : Addr) (fd : FuncData) (ps : List Str) (sp : Sp) : Prop where
  size : ∀ vs H Q E, sp vs H Q E → vs.length = ps.length
  runs : ∀ (A : Around) (oe : List Env) (s : Shared) (H : Hp) (ar : Args) (us : List Value) (vs : List V) (Q : VK) (E : XK), A.guards = some [] → Room k A → Env0 P w K mg base A oe s H → BindsTo s fd ar (ps.zip us) →
    Vals vs us → sp vs H Q E → codeAny (model P w) A (.call (.ref f) ar) (CR CX oe P w H s Q E) s
section
variable {P : Program} {w : World} {K : Fg} {mg : Str → Option Value} {base : Heap} {k : Nat} {N : List Str} {W : Wx} {ι : Type} {X : ι → Cx} {f : Addr} {fd : FuncData} {ps : List Str} {pos : Pos}
theorem FnG.goes {X : Cx} {CX : CXT} {sp : Sp} {dvs : List V} {ds : List Value} {E : XK} {pins : List (Addr × Obj)} {σ : L2.St} {H : Hp} {s : Shared} {Q : VK} {us : List Value} {vs : List V} (Fn : FnG X.prog X.w X.K X.mg X.base CX k f fd ps sp)
    (hg : X.A.guards = some []) (hr : Room k X.A) (hb : Binds X.K fd ps ds) (hd : Vals dvs ds) (hx : Passes CX X E) (I : Inv X pins σ H s) (r : Vals vs us) (h : sp (vs ++ dvs) H Q E) :
    wpAny (model X.prog X.w) X.A (call (.ref f) us) (EP X pins σ Q) X.xe s := by
  have rr : Vals (vs ++ dvs) (us ++ ds) := r.append hd
  have hlen : (us ++ ds).length = ps.length := rr.length.symm.trans (Fn.size _ _ _ _ h)
  have goal := Fn.runs X.A X.stack s H ⟨us, []⟩ (us ++ ds) (vs ++ dvs) Q E hg hr I.env0 (hb s us I.kIn hlen) rr h
  refine wpAny_call (codeAny_mono goal ?_)
  rintro (e | fl) s' hq
  · exact hx pins σ H s e s' I hq
  · cases fl <;> first | exact I.after hq | exact (hq : False).elim
/-- f(e, ..) of the text, nothing raised -/
def wCall (fn : DFn) (a : WA) : WE := fun ρ m Q Qx => a ρ m (fun ds m1 => fn ds m1 Q (fun _ _ => False)) Qx
theorem pd_call {fn : DFn} {j : Nat} {x : Str} {p : Pos} {e : Expr} {es : List Expr} {wr : WA} (hX : FamG P w K mg base k N X) (Fn : FnG P w K mg base CX0 j f fd ps (spD K mg fn)) (hj : j ≤ k) (hg : ∀ i, Gl (X i) x) (hm : mg x = some (.ref f)) (hk : PySem.W.keepIn K (.ref f) = true)
    (hb : Binds K fd ps []) (ha : PDA K W X (e :: es) wr) (hd : (x == ("__debug__" : Str)) = false) (he : ∀ i, starEach (e :: es) (X i).env = (false, eval e (X i).env) :: starEach es (X i).env)
    (hpl : ∀ i, (backTo pos (starEach es (X i).env)).any (·.1) = false) : PD K W X (.Call (.Name x p) (e :: es) [] pos) (wCall fn wr) := by
  obtain ⟨t, a1, a2⟩ := ha
  refine ⟨fun σ H Q => t σ H fun vs H1 => spD K mg fn (vs ++ []) H1 Q E0, fun i => ⟨fun pins s σ H Q I h => ?_⟩, ?_⟩
  · have hmi : (X i).mg x = some (.ref f) := by rw [hX.mg i]; exact hm
    have Fi : FnG (X i).prog (X i).w (X i).K (X i).mg (X i).base CX0 j f fd ps (spD K mg fn) := by rw [hX.prog i, hX.w i, hX.K i, hX.mg i, hX.base i]; exact Fn
    refine wpAny_Call_Name_kw (ld_glob I (hg i) hmi ?_ hd)
    refine PySem.W.callWith_K (h₀ := (X i).base) I.ok.mod.kin (by rw [hX.K i]; exact hk) (thn ((a1 i).run pos pins s σ H _ I h) ?_) (he i) (hpl i)
    rintro us s1 ⟨vs, H1, I1, r, q⟩
    exact ⟨I1.kIn, Fi.goes (hX.guards i) ((hX.room i).mono hj) (by rw [hX.K i]; exact hb) .nil pass0 I1 r q⟩
  · intro G m F H σ ρ Q Qd Qx hW hE h hXx hQ
    refine a2 G m F H σ ρ _ _ Qx hW hE h hXx ?_
    intro ds m1 vs G1 H1 q e1 W1 r1
    refine ⟨G1, m1, F, ds, Qd, fun _ _ => False, W1, by rw [List.append_nil]; exact r1, q, ?_, fun _ _ _ _ _ _ z => z.elim⟩
    intro d m' v G' H' z e
    exact hQ d m' v G' H' z (e1.trans e)
/-- the def x of the text stands and keeps the promise fn -/
def Has (P : Program) (w : World) (K : Fg) (mg : Str → Option Value) (base : Heap) (j : Nat) (x : Str) (ps : List Str) (fn : DFn) : Prop :=
  ∃ f fd, FnG P w K mg base CX0 j f fd ps (spD K mg fn) ∧ mg x = some (.ref f) ∧ PySem.W.keepIn K (.ref f) = true ∧ Binds K fd ps []
theorem pd_own_call {fn : DFn} {j : Nat} {x : Str} {p : Pos} {e : Expr} {es : List Expr} {wr : WA} (hX : FamG P w K mg base k N X) (h : Has P w K mg base j x ps fn) (ha : PDA K W X (e :: es) wr) (hj : j ≤ k := by decide) (hg : ∀ i, Gl (X i) x := by intro _; rfl) (hd : (x == ("__debug__" : Str)) = false := by decide)
    (he : ∀ i, starEach (e :: es) (X i).env = (false, eval e (X i).env) :: starEach es (X i).env := by intro _; rfl) (hpl : ∀ i, (backTo pos (starEach es (X i).env)).any (·.1) = false := by intro _; rfl) : PD K W X (.Call (.Name x p) (e :: es) [] pos) (wCall fn wr) := by
  obtain ⟨f, fd, Fn, hm, hk, hb⟩ := h
  exact pd_call hX Fn hj hg hm hk hb ha hd he hpl
/-- a def of the text keeps its promise: its body's reading, by data -/
theorem fn_ok {x qual : Str} {st : Stmt} {fn : DFn} {wb : WS} (Fu : Fun K x qual st f fd) (S : FnScope N ps (defScope st)) (hlen : ∀ ds m Q Qx, fn ds m Q Qx → ds.length = ps.length)
    (hb : ∀ (cdv : Value) (A : Around) (oe : List Env) (s : Shared) (H : Hp) (E : XK), FamG P w K mg base k N (fun _ : Unit => (cxOf CX0 P w K mg base N qual (defScope st) f cdv A oe s H E).nox) →
      PDB K W (fun _ : Unit => (cxOf CX0 P w K mg base N qual (defScope st) f cdv A oe s H E).nox) (defBody st) wb)
    (hr : ∀ ds m Qd Qx, fn ds m Qd Qx → wb { nx := fun _ m' => Qd .non m', rt := Qd } (ds.map some ++ List.replicate (N.length - ds.length) none) m) :
    FnG P w K mg base CX0 (k + 1) f fd ps (spD K mg fn) := by
  obtain ⟨oc, od, kV, doc, pm, an, cdv, ct, osl, rfl, lk, hcd⟩ := Fu.ex
  have size : ∀ vs H Q E, spD K mg fn vs H Q E → vs.length = ps.length := by
    rintro vs H Q E ⟨G, m, F, ds, Qd, Qx, _, r, hf, _⟩
    exact r.len.trans (hlen _ _ _ _ hf)
  refine ⟨size, ?_⟩
  intro A oe s H ar us vs Q E hgd hrm e0 hbind r hsp
  have hl := size _ _ _ _ hsp
  have old : ∀ b o, base.get? b = some o → s.heap.get? b = some o := fun b o e => (e0.bs b o e).1
  have KX : K.In s.heap := e0.mod.kin.keeps old
  have lim : s.heap.NoLimit := e0.mod.nolimit.keeps old
  have kinds : ∀ y ∈ ps.zip us, (defScope st).names.lookup y.1 = some .local ∨ ((defScope st).names.lookup y.1 = some .cell ∧ ((cellsFrom (s.heap.objs.size + 1) (defScope st).names []).lookup y.1).isSome = true) := by
    rintro ⟨n, v⟩ hy
    rcases S.par n (List.of_mem_zip hy).1 with q | q
    · exact Or.inl q
    · exact Or.inr ⟨q, PySem.W.cellsFrom_some _ _ _ (Or.inl q)⟩
  refine codeAny_call_function hrm.depth (KX _ _ lk) rfl S.co S.gen rfl (PySem.W.codeRec_of KX hcd) (hbind _ _ _ _ ?_)
  refine wpAny_newFunctionEnv_cells S.kind kinds ?_
  rintro env rfl s1 nx
  refine ⟨lim.keeps nx.toInCall.keep, codeAny_func ?_⟩
  have fam : FamG P w K mg base k N (fun _ : Unit => (cxOf CX0 P w K mg base N qual (defScope st) f cdv A oe s H E).nox) :=
    { prog := fun _ => rfl, w := fun _ => rfl, K := fun _ => rfl, mg := fun _ => rfl, base := fun _ => rfl, hN := fun _ => rfl, calm := fun _ => rfl, room := fun _ => hrm.deeper _, nd := S.nd, guards := fun _ => hgd }
  obtain ⟨t, h1, h2⟩ := hb cdv A oe s H E fam
  have I : Inv (cxOf CX0 P w K mg base N qual (defScope st) f cdv A oe s H E) [] (start N vs) H s1 := inv_start S hrm.hd e0 hl r nx
  obtain ⟨G, m, F, ds, Qd, Qx, hW, rr, hf, hQ, _⟩ := hsp
  have reading : t { nx := fun _ H' => Q .non H', rt := Q } (start N vs) H := by
    refine h2 G m F H _ _ _ { nx := fun _ m' => Qd .non m', rt := Qd } hW ?_ (hr ds m Qd Qx hf) ⟨?_, ?_, ?_, ?_, ?_⟩
    · unfold L2.start
      rw [rr.len]
      exact En.start _ rr
    · intro ρ' m' σ' G' H' q e W' _
      exact hQ _ m' _ G' H' q e W' .non
    · exact hQ
    · intro _ _ _ _ _ z; exact z.elim
    · intro _ _ _ _ _ z; exact z.elim
    · intro _ _ _ _ _ _ z; exact z.elim
  refine wpAny_mono (((h1 ()).nox).run [] s1 (start N vs) H _ I reading) ?_ fun e s' z => z
  have fin : ∀ {s' : Shared} {σ' : L2.St} {H' : Hp} {v : V} {u : Value}, Inv (cxOf CX0 P w K mg base N qual (defScope st) f cdv A oe s H E) [] σ' H' s' → RelV v u → Q v H' → CE oe P w H s Q u s' := by
    intro s' σ' H' v u J rv q
    exact ⟨v, H', J.os, J.bare, J.base, J.hok, rv, q⟩
  intro fl s' hs
  cases fl
  case ret u =>
    obtain ⟨v, σ', H', J, rv, q⟩ := hs
    exact fin J rv q
  case next =>
    obtain ⟨σ', H', J, q⟩ := hs
    exact fin (v := V.non) (u := Value.none) J rfl q
  case brk =>
    obtain ⟨_, _, _, q⟩ := hs
    exact (q : False).elim
  case cont =>
    obtain ⟨_, _, _, q⟩ := hs
    exact (q : False).elim
/-- a def of the text as it stands behind the top -/
def FunAt (K : Fg) (mg : Str → Option Value) (x qual : Str) (st : Stmt) (ps : List Str) : Prop := ∃ f fd, mg x = some (.ref f) ∧ Fun K x qual st f fd ∧ Binds K fd ps []
theorem has_of {x qual : Str} {st : Stmt} {fn : DFn} {wb : WS} (Fu : FunAt K mg x qual st ps) (S : FnScope N ps (defScope st)) (hlen : ∀ ds m Q Qx, fn ds m Q Qx → ds.length = ps.length)
    (hb : ∀ (f : Addr) (cdv : Value) (A : Around) (oe : List Env) (s : Shared) (H : Hp) (E : XK), FamG P w K mg base k N (fun _ : Unit => (cxOf CX0 P w K mg base N qual (defScope st) f cdv A oe s H E).nox) →
      PDB K W (fun _ : Unit => (cxOf CX0 P w K mg base N qual (defScope st) f cdv A oe s H E).nox) (defBody st) wb)
    (hr : ∀ ds m Qd Qx, fn ds m Qd Qx → wb { nx := fun _ m' => Qd .non m', rt := Qd } (ds.map some ++ List.replicate (N.length - ds.length) none) m) : Has P w K mg base (k + 1) x ps fn := by
  obtain ⟨f, fd, hm, F, hbi⟩ := Fu
  exact ⟨f, fd, fn_ok F S hlen (hb f) hr, hm, F.kp, hbi⟩
theorem at_mk {h : Heap} {x qual : Str} {st : Stmt} {f : Addr} {oc : Value} {od an : Option Addr} {osl : Array (Option Value)} {kV doc pm cdv ct : Value} (X : K.In h) (G : h.Ns mainGlobals mg) (a : PySem.W.nsIn K mainGlobals x = some (some (.ref f)))
    (l : K.lookup f = some ⟨oc, od, .func (PySem.W.fnOf x qual (defArgs st) (defBody st) (defScope st) .none kV doc pm an cdv ct), osl⟩) (c : PySem.W.codeIn K cdv qual = true) (kp : PySem.W.keepIn K (.ref f) = true)
    (hb : ∀ (kV doc pm : Value) (an : Option Addr) (cdv ct : Value) (us : List Value), us.length = ps.length → bindArgs (PySem.W.fnOf x qual (defArgs st) (defBody st) (defScope st) .none kV doc pm an cdv ct) ⟨us, []⟩ = pure (ps.zip us)) : FunAt K mg x qual st ps :=
  ⟨f, _, PySem.W.mg_of X G a, fun_mk l c kp, (fun_mk l c kp).binds hb⟩
end

/-! ### the end -/
open PyProof.Rows (AllBare IntsAre)
/-- what is asked of the law's def: handed the script it gives True -/
def lawFn (n : Nat) : DFn := fun ds m Q _ => ∃ ns : List Int, ds = [.scr ns] ∧ ns.length ≤ n ∧ ∀ m', Q (.bl true) m'
theorem lawFn_len {n : Nat} : ∀ ds m Q Qx, lawFn n ds m Q Qx → ds.length = (["_law_script"] : List Str).length := by
  rintro ds m Q Qx ⟨ns, rfl, _⟩
  rfl
section
variable {P : Program} {w : World} {K : Fg} {mg mb : Str → Option Value} {k n : Nat} {fa a : Addr} {fd : FuncData} {x : Str} {s1 : Shared} {vs : List Value} {ns : List Int}
theorem from_only (H : Hp) (hO : Only H) (hS : SqL K H a (ns.map V.int)) (hok : HOk P w H s1.heap) (hA : ∀ b, H b ≠ none → b = a) (hK : H a ≠ none → K.lookup a = none) (KX : K.In s1.heap) (hns : s1.heap.Ns mainGlobals mg) (hb : s1.heap.Ns builtinsNs mb)
    (hbb : ∀ y : Str, y ≠ "__name__" → mb y = bootBuiltins y) (hlim : s1.heap.NoLimit) (hg : s1.gens = #[]) (ha : s1.heap.get? a = some { cls := .type "list", data := .seq vs.toArray }) (hl : ns.length ≤ n) (hr : Room k callerA)
    (F : ∀ base : Heap, K.In base → base.Ns mainGlobals mg → FnG P w K mg base CX0 k fa fd [x] (spD K mg (lawFn n))) (hbind : ∀ (s : Shared) (u : Value), BindsTo s fd ⟨[u], []⟩ [(x, u)]) :
    codeAny (model P w) callerA (.call (.ref fa) ⟨[.ref a], []⟩) (fun r s' => r = .ok (.ret (.bool true)) ∧ OldK s1.heap s'.heap ∧ s'.os = s1.os ∧ AllBare s'.gens) s1 := by
  have only_a : ∀ {b : Addr} {u : HO}, H b = some u → b = a := by
    intro b u q
    exact hA b (by rw [q]; exact fun z => by cases z)
  have bare : ∀ {b : Addr} {o : Obj} {es : Array DictEntry} {ep : Nat}, s1.heap.get? b = some o → o.data = .dict es ep → H b = none := by
    intro b o es ep e d
    cases q : H b with
    | none => rfl
    | some u =>
      have e' := only_a q
      subst e'
      rw [ha] at e
      cases e
      cases (d : Data.seq vs.toArray _ = Data.dict es ep)
  have nsOf : ∀ {b : Addr} {m : Str → Option Value}, s1.heap.Ns b m → (hidT s1.heap H).Ns b m := by
    rintro b m ⟨o, es, ep, e, d, r⟩
    exact ⟨o, es, ep, hidT_get e (bare e d), d, r⟩
  have kin : K.In (hidT s1.heap H) := by
    intro b o e
    refine hidT_get (KX b o e) ?_
    cases q : H b with
    | none => rfl
    | some u =>
      have e' := only_a q
      subst e'
      have := hK (by rw [q]; exact fun z => by cases z)
      rw [this] at e
      cases e
  have lim2 : (hidT s1.heap H).NoLimit := by
    obtain ⟨mc, h1, h2⟩ := hlim
    exact ⟨mc, nsOf h1, h2⟩
  have md : Mod K mg (hidT s1.heap H) := ⟨kin, nsOf hns, ⟨mb, nsOf hb, hbb⟩, lim2⟩
  have e0 : Env0 P w K mg (hidT s1.heap H) callerA [] s1 H := ⟨rfl, md, fun _ _ e => of_hidT e, Nat.le_of_eq (hidT_size _ _), trivial, (fun b hb => nomatch hb), hok, PyProof.Rows.AllBare.of_eq hg⟩
  have W0 : Wd K H (fun _ => none) (fun _ => none) H := ⟨fun _ _ h => h, (fun _ _ h => nomatch h), (fun _ _ h => nomatch h), (fun _ _ h => nomatch h)⟩
  have sp : spD K mg (lawFn n) [.ref a] H (fun v _ => v = .bl true) (fun _ _ _ => False) := by
    refine ⟨H, fun _ => none, fun _ => none, [.scr ns], fun d _ => d = .bl true, fun _ _ => False, W0, .cons (.scr hS) .nil, ⟨ns, rfl, hl, fun _ => rfl⟩, ?_, fun _ _ _ _ _ _ z => z.elim⟩
    rintro d m' v G' H' rfl _ _ r
    cases r
    rfl
  refine codeAny_mono ((F _ kin (nsOf hns)).runs callerA [] s1 H ⟨[.ref a], []⟩ [.ref a] [.ref a] _ _ rfl hr e0 (hbind s1 (.ref a)) (.cons rfl .nil) sp) ?_
  rintro (e | fl) s' h
  · exact (h : False).elim
  cases fl <;> first | exact (h : False).elim | skip
  rename_i u
  obtain ⟨v, H', os, br, un, hok', r', q⟩ := h
  have q : v = .bl true := q
  subst q
  have r' : u = Value.bool true := r'
  subst r'
  refine ⟨rfl, OldK.of_keep ?_, os, br⟩
  intro b o e
  cases q : H b with
  | none => exact un.keep b o e q (by intro z; cases z) (by intro z; cases z)
  | some u =>
    rcases hO b with z | ⟨ob, xs, z⟩
    · rw [q] at z; cases z
    · have t1 := (hok b _ z).1
      have t2 := (hok' b _ (un.frzs b ob _ z)).1
      rw [e] at t1
      cases t1
      exact t2
theorem law_runs (KX : K.In s1.heap) (hns : s1.heap.Ns mainGlobals mg) (hb : s1.heap.Ns builtinsNs mb) (hbb : ∀ y : Str, y ≠ "__name__" → mb y = bootBuiltins y) (hlim : s1.heap.NoLimit) (hg : s1.gens = #[])
    (ha : s1.heap.get? a = some { cls := .type "list", data := .seq vs.toArray }) (hi : IntsAre vs ns) (hl : ns.length ≤ n) (hn : n ≤ sizeLine) (hr : Room k callerA)
    (F : ∀ base : Heap, K.In base → base.Ns mainGlobals mg → FnG P w K mg base CX0 k fa fd [x] (spD K mg (lawFn n))) (hbind : ∀ (s : Shared) (u : Value), BindsTo s fd ⟨[u], []⟩ [(x, u)]) :
    codeAny (model P w) callerA (.call (.ref fa) ⟨[.ref a], []⟩) (fun r s' => r = .ok (.ret (.bool true)) ∧ OldK s1.heap s'.heap ∧ s'.os = s1.os ∧ AllBare s'.gens) s1 := by
  have rv := vals_ints hi
  have lz : ns.length ≤ sizeLine := Nat.le_trans hl hn
  have sz : (ns.map V.int).length ≤ sizeLine := by rw [List.length_map]; exact lz
  have vz : vs.length ≤ sizeLine := by rw [← rv.length]; exact sz
  cases hk : K.lookup a with
  | some o =>
    have e := KX a o hk
    rw [ha] at e
    cases e
    refine from_only (fun _ => none) (fun _ => Or.inl rfl) (Or.inr ⟨_, vs.toArray, _, hk, rfl, rfl, rfl, by rw [List.size_toArray]; exact vz, by simpa using rv⟩) (by intro b u z; cases z) (by intro b z; exact absurd rfl z) (by intro z; exact absurd rfl z) KX hns hb hbb hlim hg ha hl hr F hbind
  | none =>
    have at_a : ∀ {b : Addr} {u : HO}, (if b = a then some (HO.frz { cls := .type "list", data := .seq vs.toArray } (.lst (ns.map V.int))) else none) = some u → b = a ∧ u = HO.frz { cls := .type "list", data := .seq vs.toArray } (.lst (ns.map V.int)) := by
      intro b u z
      by_cases hba : b = a
      · rw [if_pos hba] at z; cases z; exact ⟨hba, rfl⟩
      · rw [if_neg hba] at z; cases z
    refine from_only (fun b => if b = a then some (.frz { cls := .type "list", data := .seq vs.toArray } (.lst (ns.map V.int))) else none) ?_ (Or.inl (Or.inr ⟨_, if_pos rfl⟩)) ?_ ?_ (fun _ => hk) KX hns hb hbb hlim hg ha hl hr F hbind
    · intro b
      by_cases hba : b = a
      · exact Or.inr ⟨_, _, if_pos hba⟩
      · exact Or.inl (if_neg hba)
    · intro b u z
      obtain ⟨rfl, rfl⟩ := at_a z
      exact ⟨ha, sz, vs, _, rv, ha⟩
    · intro b z
      by_cases hba : b = a
      · exact hba
      · exact absurd (if_neg hba) z
end
/-- the goal that the head leaves -/
theorem the_end {l : PySem.W.OpenLaw} {n k : Nat} {q : Program} {loose : List Str} {XP : (Str → Option Value) → Heap → Prop} {YP : World → Heap → Prop} {d : DefRec} {K : Params → Fg} {x : Str}
    (hn : l.most = some n) (hz : n ≤ sizeLine) (hdf : d.params.defaults = []) (hr : Room k callerA) (hY : ∀ (w : World) (h : Heap), YP w h → (K w.params).In h)
    (F : ∀ (w : World) (mg : Str → Option Value) (fa : Addr) (h : Heap), (K w.params).In h → h.Ns mainGlobals mg → mg d.name = some (.ref fa) →
      ∃ fd : FuncData, (∀ (s : Shared) (u : Value), BindsTo s fd ⟨[u], []⟩ [(x, u)]) ∧ ∀ base : Heap, (K w.params).In base → base.Ns mainGlobals mg → FnG l.prog w (K w.params) mg base CX0 k fa fd [x] (spD (K w.params) mg (lawFn n))) :
    PySem.W.WalkO q loose XP YP l.row.toRowW d [] (fun f vs => PySem.call f vs) := by
  refine Att.attach_call hn hdf ?_
  intro w s0 s1 mg mb fa o pm cd doc a vs ns G Y ho hd hcd hmg hobj hints hlen hg
  obtain ⟨fd, hb, hF⟩ := F w mg fa _ (hY w _ Y) G.T.g hmg
  exact law_runs (hY w _ Y) G.T.g G.T.b G.T.builtins G.T.nolimit hg hobj hints hlen hz hr hF hb
end DL
/-! XO: exception classes «def __init__(self, f): super().__init__('..'); self.f = f», made, raised, caught. -/
namespace XO
open PySem PySem.W PySem.Calls PyProof.Rows PySem.HandSPX
def iA (fld : Str) (p1 p2 : Pos) : Arguments := { posonlyargs := [], args := [{ arg := "self", annotation := none, pos := p1 }, { arg := fld, annotation := none, pos := p2 }], vararg := none, kwonlyargs := [], kw_defaults := [], kwarg := none, defaults := [] }
def iB (fld msg : Str) (j : Nat) (a1 a2 a3 a4 a5 a6 q1 q2 q3 q4 : Pos) : List Stmt :=
  [.Expr (.Call (.Attribute (.Call (.Name "super" a1) [] [] a2) "__init__" a3) [.Constant (.str msg) j a4] [] a5) a6, .Assign [.Attribute (.Name "self" q1) fld q2] (.Name fld q3) q4]
def iS (fld : Str) : Scope := { kind := .function, names := [(PySem.Str.ofString "self", .local), (fld, .local), (PySem.Str.ofString "__class__", .free), (PySem.Str.ofString "super", .globalImplicit)], isGenerator := false, isCoroutine := false, more := [] }
/-- what makes an own exception: the maker bears the name of some built-in BN -/
structure NewF (BN newId : String) (bmB : List Value) : Prop where
  quiet : newId.startsWith "lifetime." = false
  kind : builtinKind newId = some .builtinFn
  split : splitId newId = some (BN, "__new__")
  row : Manifest.signature? newId = some ⟨.any, BN, BN, .cls, [⟨"args", .varPos, false⟩, ⟨"kwargs", .varKw, false⟩]⟩
  ends : newId.endsWith ".__new__" = true
  owner : newId.dropRight 8 = BN
  entry : entryFor table newId = some Builtin.«BaseException.__new__»
  canon : Manifest.canonical newId = Manifest.canonical "BaseException.__new__"
  noStar : (BN != "*") = true
  has : bmB.contains (.type BN) = true
  noAttr : bmB.contains (.type "AttributeError") = false
  noName : bmB.contains (.type "NameError") = false
/-- what the built-in __init__ of the base B asks -/
structure InitF (B initId : String) : Prop where
  plain : plainId initId = true
  entry : entryFor table initId = some Builtin.«BaseException.__init__»
  kind : builtinKind initId = some .slot
  row : Manifest.signature? initId = some ⟨.positional, "*", B, .self, [⟨"args", .varPos, false⟩]⟩
  noStar : (B != "*") = true
theorem NewF.of {B newId initId : String} {bm : List Value} (F : ExcBaseFacts B newId initId bm) : NewF B newId bm :=
  ⟨F.quiet, F.newKind, F.newSplit, F.newRow, F.ends, F.owner, F.entry, F.canon, F.noStar, F.hasB, F.noAttr, F.noName⟩
theorem InitF.of {B newId initId : String} {bm : List Value} (F : ExcBaseFacts B newId initId bm) : InitF B initId :=
  ⟨F.init.plain, F.initEntry, F.initKind, F.initRow, F.noStar⟩
/-- a built-in base: its facts -/
structure Base (B newId initId : String) (bmB : List Value) : Prop where
  new : ∃ BN, NewF BN newId bmB
  ini : InitF B initId
  KF : KxsFacts B initId
  pass : ∀ self, refuseLoop self "__setattr__" bmB = pure ()
  obj : bmB.contains (.type "object") = true
theorem base_ValueError : Base "ValueError" "ValueError.__new__" "ValueError.__init__" [.type "ValueError", .type "Exception", .type "BaseException", .type "object"] :=
  ⟨⟨_, .of F.excBase_ValueError⟩, .of F.excBase_ValueError, kxs_ValueError, fun s => F.store_ValueError.passes s, by decide +kernel⟩
theorem base_LookupError : Base "LookupError" "LookupError.__new__" "LookupError.__init__" [.type "LookupError", .type "Exception", .type "BaseException", .type "object"] :=
  ⟨⟨_, .of F.excBase_LookupError⟩, .of F.excBase_LookupError, kxs_LookupError, fun s => F.store_LookupError.passes s, by decide +kernel⟩
theorem new_KeyError : NewF "LookupError" "LookupError.__new__" [.type "KeyError", .type "LookupError", .type "Exception", .type "BaseException", .type "object"] :=
  have F := NewF.of F.excBase_LookupError
  ⟨F.quiet, F.kind, F.split, F.row, F.ends, F.owner, F.entry, F.canon, F.noStar, by decide +kernel, by decide +kernel, by decide +kernel⟩
theorem init_KeyError : InitF "KeyError" "KeyError.__init__" :=
  ⟨excClass_KeyError.init.plain, excClass_KeyError.initEntry, excClass_KeyError.initKind, by kernel_rfl, by decide +kernel⟩
theorem kxs_KeyErr : KxsFacts "KeyError" "KeyError.__init__" := ⟨by show builtinType _ = _; rw [builtinType_eq_fast]; kernel_rfl, by first | kernel_rfl | rfl⟩
theorem pass_KeyError (s : Value) : refuseLoop s "__setattr__" [.type "KeyError", .type "LookupError", .type "Exception", .type "BaseException", .type "object"] = pure () := by
  have h := F.store_LookupError.passes s
  kernel_rfl
theorem base_KeyError : Base "KeyError" "LookupError.__new__" "KeyError.__init__" [.type "KeyError", .type "LookupError", .type "Exception", .type "BaseException", .type "object"] :=
  ⟨⟨_, new_KeyError⟩, init_KeyError, kxs_KeyErr, pass_KeyError, by decide +kernel⟩
section
variable {prog : Program} {w : World} {M : Model} {A : Around} {E : Value → Shared → Prop} {R : Result → Shared → Prop} {h : Heap} {g : Array GenState} {d : Drawn} {t : Nat} {os : OsState}
variable {nm q : Str} {C N : Addr} {bs bm bmB : List Value} {hdct : Bool} {sn : List Str} {sub : List Value} {ab : Bool} {col : Option Bool} {dd : Option Addr} {k0 k1 k2 k3 k5 : Option Value} {BN newId : String}
/-- the maker of the base, called on an own class -/
theorem nf_check (F : NewF BN newId bmB) (hT : ∀ X : String, bm.contains (.type X) = bmB.contains (.type X)) {rest : List Value} {Q : Unit → Shared → Prop}
    (hC : h.get? C = some (excClassObj nm q C N bs bm hdct sn sub ab col dd k0 k1 k2 k3 k5 newId)) (hq : Q () ⟨h, g, d, t, os⟩) :
    wpAny M A (checkBuiltinCall newId ⟨.ref C :: rest, []⟩) Q E ⟨h, g, d, t, os⟩ := by
  have yes : (Value.ref C :: bm).contains (.type BN) = true := by
    rw [List.contains_cons, hT, F.has, Bool.or_true]
  have star := F.noStar
  simp only [checkBuiltinCall, F.kind, F.split, F.row]
  repeat (first | refine wpAny_loadPart_at hC ?_
                | (refine wpAny_isSubtype_exc hC ?_; rw [yes])
                | refine wpAny_staticBase_exc hC ?_
                | refine wpAny_madeBy_exc hC ?_
                | simp only [bne_self_eq_false, Bool.false_eq_true, if_false]
                | wp_step)
  exact hq
theorem nf_new (F : NewF BN newId bmB) (hT : ∀ X : String, bm.contains (.type X) = bmB.contains (.type X)) {rest : List Value}
    (hC : h.get? C = some (excClassObj nm q C N bs bm hdct sn sub ab col dd k0 k1 k2 k3 k5 newId))
    (hq : R (.ok (.ret (.ref (h.objs.size + 1)))) ⟨(h.push (kdv_tup rest)).push (excO C h.objs.size), g, d, t, os⟩) (hz : rest.length ≤ sizeLine) :
    codeAny (model prog w) A (.builtin newId ⟨.ref C :: rest, []⟩) R ⟨h, g, d, t, os⟩ := by
  have hends := F.ends
  have y1 : (Value.ref C :: bm).contains (.type BN) = true := by
    rw [List.contains_cons, hT, F.has, Bool.or_true]
  have y2 : (Value.ref C :: bm).contains (.type "AttributeError") = false := by
    rw [List.contains_cons, hT, F.noAttr]; rfl
  have y3 : (Value.ref C :: bm).contains (.type "NameError") = false := by
    rw [List.contains_cons, hT, F.noName]; rfl
  refine codeAny_builtinAt F.entry ?_
  unfold Builtin.«BaseException.__new__»
  refine PySem.wpAt_bind ?_
  show PySem.wpAt _ _ _ (stack >>= _) _ _ _
  refine PySem.wpAt_bind (PySem.wpAt_stack fun p below => PySem.wpAt_of_wpAny ?_)
  wp_walk
  refine PySem.wpAt_of_wpAny ?_
  rw [F.owner]
  repeat (first | with_reducible refine wpAny_madeHere_exc F.canon hC ?_
                | with_reducible refine wpAny_loadPart_at hC ?_
                | (with_reducible refine wpAny_isSubtype_exc hC ?_; first | rw [y1] | rw [y2] | rw [y3])
                | wp_step)
  show R _ _
  rw [Heap.size_push]
  exact hq
theorem nf_make (F : NewF BN newId bmB) (hT : ∀ X : String, bm.contains (.type X) = bmB.contains (.type X)) {rest : List Value} {fI : Addr} {Q : Fin → Shared → Prop}
    (hC : h.get? C = some (excClassObj nm q C N bs bm hdct sn sub ab col dd k0 k1 k2 k3 k5 newId))
    (hi : W.Looks (model prog w) h (typeLookup (.ref C) "__init__") (some (.ref fI))) (hb : ∀ self, W.Looks (model prog w) h (bindSpecial (.ref fI) self) (.ref fI, [self])) (hz : rest.length ≤ sizeLine)
    (hq : codeAny (model prog w) A (.call (.ref fI) ⟨.ref (h.objs.size + 1) :: rest, []⟩)
      (fun r s' => match r with
        | .ok (.ret v) => v = .none ∧ Q (.done (.ret (.ref (h.objs.size + 1)))) s'
        | .ok _ => False
        | .error e => E e s')
      ⟨(h.push (kdv_tup rest)).push (excO C h.objs.size), g, d, t, os⟩) :
    wpAny (model prog w) A (Builtin.«type.__call__» ⟨.ref C :: rest, []⟩) Q E ⟨h, g, d, t, os⟩ := by
  repeat (first | with_reducible refine wpAny_loadPart_at hC ?_ | with_reducible refine wpAny_madeBy_exc hC ?_ | wp_step)
  refine codeAny_call_builtin_code (Code.quiet_builtin _ F.quiet) (nf_check F hT hC ?_)
  refine nf_new F hT hC ?_ hz
  show wpAny _ _ _ _ _ _
  have kk : ∀ b o, h.get? b = some o → ((h.push (kdv_tup rest)).push (excO C h.objs.size)).get? b = some o :=
    fun b o e => Heap.get?_push_of_some _ (Heap.get?_push_of_some _ e)
  have c1 := kk _ _ hC
  have there : ((h.push (kdv_tup rest)).push (excO C h.objs.size)).get? (h.objs.size + 1) = some (excO C h.objs.size) := by heap_get
  have mine : (Value.ref C :: bm).contains (.ref C) = true := by simp
  have i1 := hi.keeps kk
  have b1 := (hb (.ref (h.objs.size + 1))).keeps kk
  unfold isInstance
  repeat (first | with_reducible refine wpAny_loadPart_at there ?_ | (with_reducible refine wpAny_isSubtype_exc c1 ?_; rw [mine]) | wp_step)
  show wpAny _ _ (typeLookup (.ref C) _) _ _ _
  refine i1.at ?_
  refine wpAny_holding (wpAny_bind (b1.at ?_))
  refine wpAny_bind (wpAny_call (codeAny_mono hq fun r s' z => ?_))
  rcases r with e | (v | _ | _ | _) <;> first | exact z | exact z.elim | skip
  obtain ⟨rfl, z⟩ := z
  first
    | exact wpAny_pure (wpAny_pure z)
    | (wp_walk; exact z)
theorem nf_call (F : NewF BN newId bmB) (hT : ∀ X : String, bm.contains (.type X) = bmB.contains (.type X)) {rest : List Value} {fI : Addr}
    (hC : h.get? C = some (excClassObj nm q C N bs bm hdct sn sub ab col dd k0 k1 k2 k3 k5 newId))
    (hi : W.Looks (model prog w) h (typeLookup (.ref C) "__init__") (some (.ref fI))) (hb : ∀ self, W.Looks (model prog w) h (bindSpecial (.ref fI) self) (.ref fI, [self])) (hz : rest.length ≤ sizeLine)
    (hq : codeAny (model prog w) (A.under (.builtin "type.__call__" ⟨.ref C :: rest, []⟩)) (.call (.ref fI) ⟨.ref (h.objs.size + 1) :: rest, []⟩) (W.InitBack (h.objs.size + 1) R)
      ⟨(h.push (kdv_tup rest)).push (excO C h.objs.size), g, d, t, os⟩) :
    codeAny (model prog w) A (.call (.ref C) ⟨rest, []⟩) R ⟨h, g, d, t, os⟩ := by
  have f1 := tc_lookup
  have f2 := tc_bind (.ref C)
  have ty : (⟨h, g, d, t, os⟩ : Shared).TypeIs (.ref C) "type" := ⟨_, hC, rfl⟩
  refine codeAny_of_tree ?_
  show wpAny _ _ (callAny (.ref C) _) _ _ _
  repeat (any_goals (first | assumption | with_reducible refine wpAny_loadPart_at hC ?_ | wp_step))
  refine ⟨rfl, ?_⟩
  have en := entry_typeCall
  refine codeAny_call_builtin_at (Code.quiet_builtin _ (by decide +kernel)) en (wpAny_check_type_call_sub hC (nf_make F hT hC hi hb hz ?_))
  refine codeAny_mono hq fun r s' z => ?_
  rcases r with e | (v | _ | _ | _) <;> exact z
theorem nf_bound {cls initId : String} (F : InitF cls initId) {e : Addr} {oe : Obj} {rest : List Value} {Q : Unit → Shared → Prop}
    (hC : h.get? C = some (excClassObj nm q C N bs bm hdct sn sub ab col dd k0 k1 k2 k3 k5 newId)) (he : h.get? e = some oe) (hc : oe.cls = .ref C) (hq : Q () ⟨h, g, d, t, os⟩) :
    wpAny M A (checkBoundCall initId ⟨.ref e :: rest, []⟩) Q E ⟨h, g, d, t, os⟩ := by
  have star := F.noStar
  simp only [checkBoundCall, F.kind, F.row]
  repeat (first | (with_reducible refine wpAny_loadPart_at he ?_; rw [hc]) | with_reducible refine wpAny_loadPart_at hC ?_ | wp_step)
  refine wpAny_onRaise ?_
  have sa : ∀ (a b : String) (n : Nat), Bind.check ⟨.positional, "*", cls, .self, [⟨"args", .varPos, false⟩]⟩ a b n (List.map (fun x => x.fst) ({ pos := Value.ref e :: rest } : Args).kw) = pure () :=
    fun _ _ _ => check_star_args _ _ _ _ _ _
  rw [sa]
  exact wpAny_pure hq
end
/-- how the two arguments bind -/
def BindOk (fld : Str) : Prop := ∀ (qual : Str) (body : List Stmt) (p1 p2 : Pos) (doc pm cdv ct : Value) (an : Option Addr) (cc : Addr) (u v : Value),
  bindArgs (ksFn "__init__" qual (iA fld p1 p2) body (iS fld) .none .none doc pm an cdv ct cc) ⟨[u, v], []⟩ = pure ([((PySem.Str.ofString "self"), u), (fld, v)] : List (Str × Value))
theorem bind_value : BindOk "value" := fun _ _ _ _ _ _ _ _ _ _ _ _ => rfl
theorem bind_label : BindOk "label" := fun _ _ _ _ _ _ _ _ _ _ _ _ => rfl
theorem bind_index : BindOk "index" := fun _ _ _ _ _ _ _ _ _ _ _ _ => rfl
theorem bind_most : BindOk "most" := fun _ _ _ _ _ _ _ _ _ _ _ _ => rfl
theorem bind_parts : BindOk "parts" := fun _ _ _ _ _ _ _ _ _ _ _ _ => rfl
/-- what the written part says of the class at C and of its __init__ at fI -/
structure XT (main : Str) (K : Frag) (C fI : Addr) (fld : Str) (B newId initId : String) (bmB : List Value) : Prop where
  cls : ∃ nm q N bs bm sn sub ab col dd k0 k1 k2 k3 k5, K.lookup C = some (excClassObj nm q C N bs bm true sn sub ab col dd k0 k1 k2 k3 k5 newId) ∧ excTail bmB bm = true
  sa : findIn K (.ref C) "__setattr__" = some (some (.builtin "object.__setattr__"))
  ga : findIn K (.ref C) "__getattribute__" = some (some (.builtin "BaseException.__getattribute__"))
  gg : findIn K (.ref C) "__getattr__" = some none
  noN : findIn K (.ref C) fld = some none
  iC : findIn K (.ref C) "__init__" = some (some (.ref fI))
  tC : typeIn K (.ref fI) = some (.type "function")
  kC : keepIn K (.ref C) = true
  exC : subIn K (.ref C) (.type "BaseException") = some true
  tyC : typeIn K (.ref C) = some (.type "type")
  hdC : hasDictIn K C = true
  subB : subIn K (.ref C) (.type B) = some true
  mroC : mroIn K C (.ref C) = some true
  statics : nsIn K cStatics "thirdparty.any" = some none
  along : ks_superIn K C C "__init__" = some (some (.builtin initId))
  fn : ∃ (oc : Value) (od : Option Addr) (qual : Str) (doc pm : Value) (an : Option Addr) (cda cc : Addr) (ct : Value) (osl : Array (Option Value)) (msg : Str) (j : Nat) (p1 p2 a1 a2 a3 a4 a5 a6 q1 q2 q3 q4 : Pos),
    K.lookup fI = some ⟨oc, od, .func (ksFn "__init__" qual (iA fld p1 p2) (iB fld msg j a1 a2 a3 a4 a5 a6 q1 q2 q3 q4) (iS fld) .none .none doc pm an (.ref cda) ct cc), osl⟩ ∧ codeIn K (.ref cda) qual = true ∧
    (∃ cl cld csl, K.lookup cc = some ⟨cl, cld, .cell (some (.ref C)), csl⟩) ∧ ∃ ccl cdd vs ccs file tf, K.lookup cda = some ⟨ccl, cdd, .fields vs, ccs⟩ ∧ vs[2]? = some (.str file tf) ∧ (main == file) = true ∧ (a3.endLine == a5.line) = true
  bind : BindOk fld
  names : (fld == ("self" : Str)) = false ∧ (fld == ("__debug__" : Str)) = false ∧ (("self" : Str) == fld) = false ∧ (("super" : Str) == fld) = false ∧ (("__class__" : Str) == fld) = false
theorem ldL {M : Model} {A : Around} {E : Value → Shared → Prop} {s : Shared} {env : Env} {m : Str → Option Value} {x : Str} {pos : Pos} {v : Value} {Q : Value → Shared → Prop} (hn : s.heap.Ns env.locals m) (hv : m x = some v) (h : Q v s)
    (hk : env.scope.kind = .function) (hl : env.kindOf x = some .local) (hd : (x == ("__debug__" : Str)) = false) : wpAny M A (eval (.Name x pos) env) Q E s := wpAny_Name (wpAny_loadName_local hk hl hn hv h) hd
theorem ev_sup {o : Expr} {name msg : Str} {apos pos a4 : Pos} {j : Nat} {env : Env} (hl : (apos.endLine == pos.line) = true) : eval (.Call (.Attribute o name apos) [.Constant (.str msg) j a4] [] pos) env = (do
      let ov ← attributeBase o name env (eval o env)
      standAt apos.atName
      let (f, first) ← holding [ov] (getMethod ov name (do return (← importBound o env).getD true))
      callWith pos f first (backTo pos (starEach [.Constant (.str msg) j a4] env)) []) := by
  have hp : methodCallPos true o env apos pos = pure pos := by unfold methodCallPos; simp [hl]
  have hf : methodCallForm ([Expr.Constant (.str msg) j a4].length + ([] : List Keyword).length) (backTo pos (starEach [.Constant (.str msg) j a4] env)) (backToKw pos (keywordEach [] env)) = true := by rfl
  rw [arm_eval_Call]
  unfold methodCall
  rw [hf, hp]
  simp only [pure_bind]
  rfl
/-- self.f = v on an exception that has no dict yet -/
theorem xo_store {prog : Program} {w : World} {A : Around} {R : Result → Shared → Prop} {hp : Heap} {g : Array GenState} {d : Drawn} {t : Nat} {os : OsState} {K : Frag} {name : Str} {tk : Tok} {v : Value} {x C : Addr} {fv : Array Value} {cd : ClassData}
    (X : K.In hp) (hx : hp.get? x = some { cls := .ref C, data := .fields fv }) (hcd : clsIn K C = some cd) (ne : cd.mro.isEmpty = false) (hpass : refuseLoop (.ref x) "__setattr__" cd.mro = pure ()) (hob : cd.mro.contains (.type "object") = true) (hh : cd.hasDict = true)
    (ha : findIn K (.ref C) name = some none)
    (hq : ∀ h' tk' dx, (∀ b o, b ≠ x → hp.get? b = some o → h'.get? b = some o) → hp.objs.size ≤ dx → dx ≠ x → h'.get? x = some { cls := .ref C, dict := some dx, data := .fields fv } →
      h'.Ns1 dx (fun y => if y = name then some v else none) → R (.ok (.ret .none)) ⟨h', g, d, tk', os⟩) :
    codeAny (model prog w) A (.call (.builtin "object.__setattr__") ⟨[.ref x, .str name tk, v], []⟩) R ⟨hp, g, d, t, os⟩ := by
  have IA : InstAt hp x { cls := .ref C, data := .fields fv } C none := ⟨hx, rfl, rfl, trivial⟩
  have SF := F.store_object
  have xs : x ≠ hp.objs.size := Nat.ne_of_lt (Heap.lt_size hx)
  have isObj : Looks (model prog w) hp (isInstance (.ref x) (.type "object")) true := IA.type.andThen (looks_mroIn X (by unfold mroIn; rw [hcd, Option.bind_some, if_neg (by rw [ne]; decide), hob]))
  refine codeAny_call_builtin SF.slot.plain SF.entry (@check_slot (model prog w) _ _ ⟨hp, g, d, t, os⟩ "object.__setattr__" "object" "__setattr__" (.ref x) [.str name tk, v] [] _ SF.kind SF.split isObj (SF.args (.ref x) (.str name tk) v) ?_)
  have mroL : Looks (model prog w) hp (mroOf (.ref C)) cd.mro := (looks_clsIn X hcd).andThen .now
  have nowL : Looks (model prog w) hp (Builtin.ObjectAttr.storeTaker? none) none := .now
  have clsL : Looks (model prog w) hp (classData C) cd := looks_clsIn X hcd
  rw [osa_eq, refuse_eq]
  refine wpAny_bind (wpAny_bind (IA.type.at (wpAny_bind (mroL.at ?_))))
  rw [hpass]
  refine wpAny_pure (wpAny_bind (IA.type.at (wpAny_bind ((looks_findIn X ha).at (wpAny_bind (nowL.at ?_))))))
  show wpAny _ _ (Builtin.ObjectAttr.storeInOwnDict (.ref x) (.ref C) (.str name tk) name v false) _ _ _
  obtain ⟨nm, bs, mro, ns, qn, hd, sn, sb, ab, col, del⟩ := cd
  dsimp only at hh
  subst hh
  unfold Builtin.ObjectAttr.storeInOwnDict Builtin.ObjectAttr.ownDictForStores
  repeat (first | with_reducible refine HandSPX.store_in_new ?_ ?_ | with_reducible refine wpAny_loadPart_at hx ?_ | with_reducible refine clsL.at ?_ | wp_step)
  · exact ⟨_, #[], _, (Heap.get?_update_ne _ _ _ _ xs.symm).trans (Heap.get?_push_at rfl rfl), rfl, fun e he => absurd he (by simp), fun _ => rfl⟩
  · intro h' tk' hn' same
    have hx1 : (hp.push { cls := .type "dict", data := .dict #[] }).get? x = some { cls := .ref C, data := .fields fv } := Heap.get?_push_of_some _ hx
    refine hq h' tk' hp.objs.size (fun b o hb ho => ?_) (Nat.le_refl _) xs.symm ?_ hn'
    · exact (same.2 b (Nat.ne_of_lt (Heap.lt_size ho))).trans ((Heap.get?_update_ne _ _ _ _ hb).trans (Heap.get?_push_of_some _ ho))
    · exact (same.2 x xs).trans (Heap.get?_update_self _ hx1 rfl)
/-- the wrapper of the built-in __init__, called -/
theorem mw_call {prog : Program} {w : World} {A : Around} {E : Value → Shared → Prop} {h : Heap} {g : Array GenState} {d : Drawn} {t : Nat} {os : OsState} {B newId i : String} {u x C t0 : Addr} {rest : List Value} {Q : Value → Shared → Prop}
    {nm q : Str} {N : Addr} {bs bm : List Value} {hdct : Bool} {sn : List Str} {sub : List Value} {ab : Bool} {col : Option Bool} {dd : Option Addr} {k0 k1 k2 k3 k5 : Option Value}
    (FB : InitF B i) (hC : h.get? C = some (excClassObj nm q C N bs bm hdct sn sub ab col dd k0 k1 k2 k3 k5 newId)) (he : h.get? x = some (excO C t0)) (hu : h.get? u = some (kxs_mw i x)) (hz : rest.length ≤ sizeLine)
    (hq : ∀ h' t1, (∀ b o, b ≠ x → h.get? b = some o → h'.get? b = some o) → h'.get? x = some (excO C t1) → Q .none ⟨h', g, d, t, os⟩) :
    wpAny (model prog w) A (call (.ref u) rest) Q E ⟨h, g, d, t, os⟩ := by
  refine wpAny_call (codeAny_of_tree ?_)
  show wpAny _ A.in1 (callAny (.ref u) ⟨rest, []⟩) _ _ _
  simp only [callAny]
  refine wpAny_bind (wpAny_load hu ?_)
  simp only [kxs_mw, show (Value.type "method-wrapper" == Value.type "method" || Value.type "method-wrapper" == Value.type "builtin_function_or_method" || Value.type "method-wrapper" == Value.type "method-wrapper") = true by decide, if_true]
  refine KFB.if_so (by decide) ?_
  refine wpAny_bind (nf_bound FB hC he rfl ?_)
  refine wpAny_bind (wpAny_pure (wpAny_pure ?_))
  refine ⟨plainId_quiet FB.plain _, codeAny_builtin FB.entry ?_⟩
  exact exc_init_tree (cls := .ref C) (t0 := t0) (dv := none) (c2 := .none) (c3 := .none) (b4 := .bool false) he hz fun h' k e _ => hq h' _ k e
/-- what __init__ leaves of a fresh exception at x -/
structure Inited (h h' : Heap) (x C dx t1 : Addr) (fld : Str) (v : Value) : Prop where
  keep : ∀ b o, b ≠ x → h.get? b = some o → h'.get? b = some o
  obj : h'.get? x = some { cls := .ref C, dict := some dx, data := .fields #[.ref t1, .none, .none, .none, .bool false, .none] }
  big : h.objs.size ≤ dx
  ne : dx ≠ x
  ns : h'.Ns1 dx (fun y => if y = fld then some v else none)
section
variable {prog : Program} {w : World} {A : Around} {E : Value → Shared → Prop} {R : Result → Shared → Prop} {s : Shared} {K : Frag} {mg mb : Str → Option Value} {C fI : Addr} {fld : Str} {B newId initId : String} {bmB : List Value}
theorem xo_init (D : Base B newId initId bmB) (T : XT prog.main.file K C fI fld B newId initId bmB) {x t0 : Addr} {v : Value} (X : K.In s.heap) (hlim : s.heap.NoLimit) (hx : s.heap.get? x = some (excO C t0)) (hnx : K.lookup x = none) (hroom : A.depth < recursionLimit)
    (hg : s.heap.Ns mainGlobals mg) (hm : mg "super" = none) (hb : s.heap.Ns builtinsNs mb) (hbs : mb "super" = some (.type "super")) (htop : (prog.main.scope.names.lookup ("super" : Str)).isSome = false)
    (hq : ∀ h' tk t1 dx, Inited s.heap h' x C dx t1 fld v → R (.ok (.ret .none)) { s with heap := h', toks := tk }) :
    codeAny (model prog w) A (.call (.ref fI) ⟨[.ref x, v], []⟩) R s := by
  obtain ⟨oc, od, qual, doc, pm, an, cda, cc, ct, osl, msg, j, p1, p2, a1, a2, a3, a4, a5, a6, q1, q2, q3, q4, ho, hcd, ⟨cl, cld, csl, hcell⟩, ccl, cdd, vs, ccs, file, tf, hcode, hvs, hfile, hline⟩ := T.fn
  obtain ⟨nm, q, N, bs, bm, sn, sub, ab, col, dd, k0, k1, k2, k3, k5, hC, hbm⟩ := T.cls
  obtain ⟨n1, n2, n3, n4, n5⟩ := T.names
  have hcl : clsIn K C = some { name := nm, bases := bs, mro := .ref C :: bm, ns := N, qualname := q, hasDict := true, slotNames := sn, subclasses := sub, abstract := ab, collection := col, hasDel := false } := by unfold clsIn; rw [hC] <;> rfl
  have k1 : (iS fld).names.lookup ("self" : Str) = some .local := rfl
  have ks : (iS fld).names.lookup ("super" : Str) = some .globalImplicit := by
    unfold iS
    rw [List.lookup_cons, show (("super" : Str) == PySem.Str.ofString "self") = false by decide, List.lookup_cons, n4]
    rfl
  have kc : (iS fld).names.lookup ("__class__" : Str) = some .free := by
    unfold iS
    rw [List.lookup_cons, show (("__class__" : Str) == PySem.Str.ofString "self") = false by decide, List.lookup_cons, n5]
    rfl
  have k2' : (iS fld).names.lookup fld = some .local := by
    unfold iS
    rw [List.lookup_cons, n1, List.lookup_cons, beq_self_eq_true]
  have lookN : ∀ y : Str, ([("self", Value.ref x), (fld, v)] : List (Str × Value)).reverse.lookup y = if y = fld then some v else if y = ("self" : Str) then some (Value.ref x) else none := by
    intro y
    show ([(fld, v), (("self" : Str), Value.ref x)] : List (Str × Value)).lookup y = _
    rw [List.lookup_cons, List.lookup_cons]
    by_cases h1 : y = fld
    · subst h1
      rw [beq_self_eq_true, if_pos rfl]
    · have h1' : (y == fld) = false := by simpa using h1
      rw [h1', if_neg h1]
      by_cases h2 : y = ("self" : Str)
      · subst h2
        rw [if_pos rfl]
        rfl
      · have h2' : (y == ("self" : Str)) = false := by simpa using h2
        rw [h2', if_neg h2]
        rfl
  have selfN : (if ("self" : Str) = fld then some v else if ("self" : Str) = ("self" : Str) then some (Value.ref x) else none) = some (.ref x) := by
    rw [if_neg (fun e => by rw [← e, beq_self_eq_true] at n1; cases n1), if_pos rfl]
  refine ks_codeAny_call_defAt (fd := ksFn "__init__" qual (iA fld p1 p2) (iB fld msg j a1 a2 a3 a4 a5 a6 q1 q2 q3 q4) (iS fld) .none .none doc pm an (.ref cda) ct cc) (body := iB fld msg j a1 a2 a3 a4 a5 a6 q1 q2 q3 q4) (binds := [("self", .ref x), (fld, v)])
    hroom (X _ _ ho) rfl hlim (codeRec_of X hcd) rfl (BindsTo.of_eq (T.bind _ _ _ _ _ _ _ _ _ _ _ _)) ?_ ?_ ?_ rfl rfl rfl
  · intro y hy
    simp only [iS, List.mem_cons, List.not_mem_nil, or_false] at hy
    rcases hy with rfl | rfl | rfl | rfl <;> intro z <;> cases z
  · intro y hy
    simp only [List.mem_cons, List.not_mem_nil, or_false] at hy
    rcases hy with rfl | rfl
    · exact k1
    · exact k2'
  intro h1 hns k
  have X1 : K.In h1 := X.keeps k
  have hx1 := k _ _ hx
  have xL : s.heap.objs.size ≠ x := Nat.ne_of_gt (Heap.lt_size hx)
  -- super().__init__('..')
  refine ks_wpAt_execs_cons (ks_wpAt_Expr_any (ks_wpAt_MethodCall (ks_wpAt_super_base (of := ⟨oc, od, .func (ksFn "__init__" qual (iA fld p1 p2) (iB fld msg j a1 a2 a3 a4 a5 a6 q1 q2 q3 q4) (iS fld) .none .none doc pm an (.ref cda) ct cc), osl⟩) (oc := ⟨ccl, cdd, .fields vs, ccs⟩) (ar := { arg := "self", annotation := none, pos := p1 })
    ks kc (by decide) rfl (X1 _ _ ho) rfl rfl rfl (X1 _ _ hcode) rfl hvs hfile htop ?_) (ev_sup hline)))
  refine ks_loadName_global rfl ks (loadGlobal_builtin (hg.keeps k) hm (hb.keeps k) hbs ⟨rfl, ?_⟩)
  refine wpAny_loadName_free rfl kc rfl ⟨_, X1 _ _ hcell, rfl⟩ ?_
  refine wpAny_loadName_local rfl k1 hns (v := .ref x) ((lookN _).trans ?_) ?_
  · exact selfN
  refine ks_wpAny_isType_cls (X1 _ _ hC) rfl ⟨rfl, ?_⟩
  refine ks_wpAny_call_super (X1 _ _ hC) rfl hx1 rfl (fun c e => by cases e) (looks_mroIn X1 T.mroC) (fun h2 e2 k2 => ?_)
  have X2 : K.In h2 := X1.keeps k2
  have hx2 := k2 _ _ hx1
  have IA : InstAt h2 x (excO C t0) C none := ⟨hx2, rfl, rfl, trivial⟩
  have al := T.along
  unfold ks_superIn at al
  rw [hcl] at al
  refine kxs_getMethod D.KF (l₀ := .ref C :: bm) e2 (looks_opaque X2 T.statics) (fun A Q E s k q => wpAny_bind ((looks_clsIn X2 hcl) A _ E s k (wpAny_pure q))) rfl X2 al (IA.type.andThen (looks_subIn X2 T.subB)) (ks_ne X2 IA hcl) (by decide) ?_
  have hC2 := X2 _ _ hC
  have hu : (h2.push (kxs_mw initId x)).get? h2.objs.size = some (kxs_mw initId x) := Heap.get?_push_at rfl rfl
  have k3 : ∀ b o, h2.get? b = some o → (h2.push (kxs_mw initId x)).get? b = some o := fun b o e => Heap.get?_push_of_some _ e
  refine kxs_callWith (i := initId) (x := x) rfl (evalArgs_plain (spliced_cons ?_))
  show wpAny _ _ (eval (.Constant (.str msg) j a4) _) _ _ _
  refine Constant_str (spliced_nil ⟨hu, ?_⟩)
  refine mw_call D.ini (k3 _ _ hC2) (k3 _ _ hx2) hu (show 1 ≤ sizeLine by rw [sizeLine_eq]; decide) ?_
  intro h4 t1 k4 hx4
  -- self.f = f
  have old : ∀ b o, b ≠ x → h1.get? b = some o → h4.get? b = some o := fun b o hb e => k4 b o hb (k3 b o (k2 b o e))
  have X4 : K.In h4 := by
    intro b o e
    refine old b o ?_ (X1 b o e)
    rintro rfl
    rw [hnx] at e
    cases e
  have hns4 : h4.Ns s.heap.objs.size (fun y => ([("self", Value.ref x), (fld, v)] : List (Str × Value)).reverse.lookup y) := by
    obtain ⟨o, es, ep, e1, e2, e3⟩ := hns
    exact ⟨o, es, ep, old _ _ xL e1, e2, e3⟩
  refine wpAt_of_wpAny ?_
  refine wpAny_execs_cons (plainObj_wpAny_Assign_Attribute ?_)
  refine ldL hns4 ((lookN fld).trans (if_pos rfl)) ?_ rfl k2' n2
  refine ldL hns4 (v := .ref x) ((lookN _).trans ?_) ?_ rfl k1 (by decide)
  · exact selfN
  refine set_plain X4 (ox := excO C t1) (od := none) ⟨hx4, rfl, rfl, trivial⟩ T.sa ?_
  refine xo_store X4 hx4 hcl rfl (by show refuseLoop _ _ (.ref C :: bm) = _; rw [refuseLoop_ref]; exact excTail_pass _ (D.pass _) _ hbm) ?_ rfl T.noN ?_
  · show (Value.ref C :: bm).contains (.type "object") = true
    rw [List.contains_cons, excTail_contains "object" _ hbm, D.obj, Bool.or_true]
  intro h5 tk5 dx k5 big ne hx5 hn5
  show wpAny _ _ (execs _ _) _ _ _
  have z : s.heap.objs.size ≤ h4.objs.size := Nat.le_of_lt hns4.lt
  refine wpAny_execs_nil (hq h5 tk5 t1 dx ⟨?_, hx5, Nat.le_trans z big, ne, hn5⟩)
  intro b o hb e
  exact k5 b o hb (old b o hb (k b o e))
/-- a made exception: e, its own dict at d -/
structure Made (h h' : Heap) (e C d : Addr) (fld : Str) (v : Value) : Prop where
  keep : ∀ b o, h.get? b = some o → h'.get? b = some o
  new : h.objs.size ≤ e
  obj : ∃ oe vs, h'.get? e = some oe ∧ oe.cls = .ref C ∧ oe.dict = some d ∧ oe.data = .fields vs ∧ vs[1]? = some .none
  big : h.objs.size ≤ d
  ne : d ≠ e
  ns : h'.Ns1 d (fun y => if y = fld then some v else none)
theorem size_one (v : Value) : [v].length ≤ sizeLine := by
  rw [sizeLine_eq]
  exact (by decide : 1 ≤ 16777216)
theorem xo_made (D : Base B newId initId bmB) (T : XT prog.main.file K C fI fld B newId initId bmB) {v : Value} (X : K.In s.heap) (hlim : s.heap.NoLimit) (hroom : A.depth + 1 < recursionLimit)
    (hg : s.heap.Ns mainGlobals mg) (hm : mg "super" = none) (hb : s.heap.Ns builtinsNs mb) (hbs : mb "super" = some (.type "super")) (htop : (prog.main.scope.names.lookup ("super" : Str)).isSome = false)
    (hq : ∀ h' tk e d, Made s.heap h' e C d fld v → R (.ok (.ret (.ref e))) { s with heap := h', toks := tk }) : codeAny (model prog w) A (.call (.ref C) ⟨[v], []⟩) R s := by
  obtain ⟨nm, q, N, bs, bm, sn, sub, ab, col, dd, k0, k1, k2, k3, k5, hC, hbm⟩ := T.cls
  obtain ⟨hp, g, dr, tk, os⟩ := s
  have k : ∀ b o, hp.get? b = some o → ((hp.push (kdv_tup [v])).push (excO C hp.objs.size)).get? b = some o := fun b o e => Heap.get?_push_of_some _ (Heap.get?_push_of_some _ e)
  have got : ((hp.push (kdv_tup [v])).push (excO C hp.objs.size)).get? (hp.objs.size + 1) = some (excO C hp.objs.size) := by heap_get
  have fresh : K.lookup (hp.objs.size + 1) = none := by
    cases e : K.lookup (hp.objs.size + 1) with
    | none => rfl
    | some o => exact absurd (Nat.lt_of_succ_lt (Heap.lt_size (X _ _ e : hp.get? (hp.objs.size + 1) = some o))) (Nat.lt_irrefl _)
  obtain ⟨BN, DN⟩ := D.new
  refine nf_call DN (fun Y => excTail_contains Y bm hbm) (X _ _ hC) (looks_findIn X T.iC) (fun self => bind_fn X self T.tC) (size_one v) ?_
  refine xo_init (s := ⟨(hp.push (kdv_tup [v])).push (excO C hp.objs.size), g, dr, tk, os⟩) D T (X.keeps k) (hlim.keeps k) got fresh ?_ (hg.keeps k) hm (hb.keeps k) hbs htop ?_
  · show A.depth + 1 < recursionLimit
    exact hroom
  rintro h' tk' t1 dx ⟨k', hx, big, ne, ns⟩
  have z : hp.objs.size + 1 + 1 ≤ dx := by
    have zz := big
    rw [Heap.size_push, Heap.size_push] at zz
    exact zz
  refine ⟨rfl, hq h' tk' (hp.objs.size + 1) dx ⟨?_, Nat.le_succ _, ⟨_, _, hx, rfl, rfl, rfl, rfl⟩, Nat.le_trans (Nat.le_trans (Nat.le_succ _) (Nat.le_succ _)) z, ne, ns⟩⟩
  intro b o e
  exact k' b o (Nat.ne_of_lt (Nat.lt_succ_of_lt (Heap.lt_size e))) (k b o e)
end
end XO
namespace DL
open PySem L2 XO
theorem relO_one {fld : Str} {v : V} {u : Value} (r : RelV v u) (f : Str) : RelO (List.lookup f [(fld, v)]) (if f = fld then some u else none) := by
  by_cases h : f = fld
  · subst h
    rw [if_pos rfl, List.lookup_cons, beq_self_eq_true]
    exact r
  · have hb : (f == fld) = false := by simpa using h
    rw [if_neg h, List.lookup_cons, hb]
    trivial
theorem boot_super : bootBuiltins "super" = some (.type "super") := by decide +kernel
/-- C(e), C such a class -/
def tMkX (C : Addr) (fld : Str) (ta : TA) : L2.St → Hp → XK → Prop := fun σ H Q => ta σ H fun vs H1 => ∃ v, vs = [v] ∧ ∀ d, H1 d = none → Q (.ref C) (some d) (upd H1 d (.xd [(fld, v)]))
theorem pmk_x {X : Cx} {C fI : Addr} {x fld : Str} {B newId initId : String} {bmB : List Value} {a : Expr} {ta : TA} {p pos : Pos} {k : Nat} (D : Base B newId initId bmB) (T : XT X.prog.main.file X.K C fI fld B newId initId bmB) (hm : X.mg x = some (.ref C)) (hsup : X.mg "super" = none)
    (htop : (X.prog.main.scope.names.lookup ("super" : Str)).isSome = false) (hr : Room k X.A) (ha : PA X [a] ta) (hg : Gl X x) (hd : (x == ("__debug__" : Str)) = false)
    (he : starEach (a :: []) X.env = (false, eval a X.env) :: starEach [] X.env) (hpl : (backTo pos (starEach [] X.env)).any (·.1) = false) : PMk X (.Call (.Name x p) [a] [] pos) (tMkX C fld ta) := by
  intro pins s σ H Q I h
  refine wpAny_Call_Name_kw (ld_glob I hg hm ?_ hd)
  refine PySem.W.callWith_K (h₀ := X.base) I.ok.mod.kin T.kC (thn (ha.run pos pins s σ H _ I h) ?_) he hpl
  rintro us s1 ⟨vs, H1, I1, r1, v, ev, q1⟩
  subst ev
  refine ⟨I1.kIn, ?_⟩
  cases r1 with
  | cons rv rn =>
    rename_i v' us'
    cases rn
    show wpAny _ _ (call (.ref C) [v']) _ _ _
    have lim := I1.nolimit
    obtain ⟨mb, hb1, hb2⟩ := I1.ok.mod.blt
    have hglob := I1.ok.mod.glob
    have bk := I1.bk
    obtain ⟨hp, g, dr, tk, os⟩ := s1
    refine wpAny_call (xo_made D T I1.kIn lim (by have := hr.dp; omega) (hglob.keeps bk) hsup (hb1.keeps bk) ((hb2 _ (by decide)).trans boot_super) htop ?_)
    intro h' tk' e d M
    show MkP X pins σ Q (.ref e) ⟨h', g, dr, tk', os⟩
    obtain ⟨oe, fv, hoe, hc, hdct, hdat, h1⟩ := M.obj
    have hns := M.ns
    obtain ⟨G', g1, g2⟩ := restrict h' fun b => decide (b ≠ e)
    have gk : ∀ b, b ≠ e → G'.get? b = h'.get? b := fun b hb => g1 b (decide_eq_true hb)
    have ge : G'.get? e = none := g2 e (by simp)
    have old : ∀ b o, hp.get? b = some o → G'.get? b = some o := fun b o q => (gk b (Nat.ne_of_lt (Nat.lt_of_lt_of_le (Heap.lt_size q) M.new))).trans (M.keep b o q)
    have ob : ObjOk X.prog X.w (upd H1 d (.xd [(fld, v)])) G' d (.xd [(fld, v)]) := ⟨_, hns.at (fun o q => (gk d M.ne).trans q), fun f => relO_one rv f⟩
    have J : Inv X pins σ (upd H1 d (.xd [(fld, v)])) ⟨G', g, dr, tk', os⟩ := I1.laid (t' := tk') old M.big ob
    refine ⟨e, oe, fv, ⟨G', g, dr, tk', os⟩, _, .ref C, some d, rfl, J, ?_, ge, hoe, ⟨hc, hdct⟩, hdat, h1, ?_, rfl, I1.bare, raises_own T.exC T.tyC, q1 d (I1.hok.fresh M.big)⟩
    · intro b o q
      by_cases hb : b = e
      · subst hb
        have q : G'.get? b = some o := q
        rw [ge] at q
        cases q
      · exact (gk b hb).symm.trans q
    · rw [upd_ne (Ne.symm M.ne)]
      exact I1.hok.fresh M.new
end DL
namespace DL
open PySem L2 XO
open Evl (Ex)
/-! ### wishes by the class's name -/
def byName (mg : Str → Option Value) (W0 : WX) : Wx := fun n d σ H => ∀ cls, mg n = some cls → W0 cls d σ H
def toWX (mg : Str → Option Value) (W : Wx) : WX := fun cls d σ H => ∃ n, mg n = some cls ∧ W n d σ H
theorem takes_by {mg : Str → Option Value} {X : Cx} {W0 : WX} (t : Takes X W0) : Takes X (toWX mg (byName mg W0)) := t.imp fun cls d σ H h => by
  obtain ⟨n, hm, q⟩ := h
  exact q cls hm
/-- an exception class of the text: its name, its field -/
def XC (P : Program) (K : Fg) (mg : Str → Option Value) (n fld : Str) : Prop := ∃ C fI B newId initId bmB, Base B newId initId bmB ∧ XT P.main.file K C fI fld B newId initId bmB ∧ mg n = some (.ref C) ∧ PySem.W.exmOne K (.ref C) (.ref C) = some true
structure Sup (P : Program) (mg : Str → Option Value) : Prop where
  mg : mg "super" = none
  top : (P.main.scope.names.lookup ("super" : Str)).isSome = false
section
variable {P : Program} {w : World} {K : Fg} {mg : Str → Option Value} {base : Heap} {k : Nat} {N : List Str} {W : Wx} {ι : Type} {X : ι → Cx} {f : Addr} {fd : FuncData} {ps : List Str} {pos : Pos}
/-! ### raise C(e) -/
def sRaise (n fld : Str) (w : WE) : WS := fun E ρ m => w ρ m (fun v m1 => E.ex ⟨n, fld, v⟩ m1) E.ex
theorem ps_raiseX {n fld : Str} {a : Expr} {wa : WE} {p cpos : Pos} (hX : FamG P w K mg base k N X) (tk : ∀ i, Takes (X i) (toWX mg W)) (S : Sup P mg) (c : XC P K mg n fld) (ha : PD K W X a wa) (hg : ∀ i, Gl (X i) n := by intro _; rfl) (hd : (n == ("__debug__" : Str)) = false := by decide)
    (he : ∀ i, starEach (a :: []) (X i).env = (false, eval a (X i).env) :: starEach [] (X i).env := by intro _; rfl) (hpl : ∀ i, (backTo cpos (starEach [] (X i).env)).any (·.1) = false := by intro _; rfl) :
    PDS K W X (.Raise (some (.Call (.Name n p) [a] [] cpos)) none pos) (sRaise n fld wa) := by
  obtain ⟨C, fI, B, newId, initId, bmB, D, T, hm, _⟩ := c
  obtain ⟨ta, a1, a2⟩ := DL.pa_cons ha (DL.pa_nil (K := K) (W := W) (X := X)) he
  refine ⟨_, fun i => ps_raise (hX.calm i) (tk i) (pmk_x (fld := fld) D (by rw [hX.prog i, hX.K i]; exact T) (by rw [hX.mg i]; exact hm) (by rw [hX.mg i]; exact S.mg) (by rw [hX.prog i]; exact S.top) (hX.room i) (a1 i) (hg i) hd (he i) (hpl i)), ?_⟩
  intro G m F H σ ρ Sd E hW hE h ft
  refine a2 G m F H σ ρ _ (fun ds m1 => match ds with
    | [v] => E.ex ⟨n, fld, v⟩ m1
    | _ => False) E.ex hW hE h ft.ex ?_
  rintro ds m1 vs G1 H1 q e1 W1 r1
  cases r1 with
  | nil => exact q.elim
  | cons r1 t =>
    cases t with
    | cons _ _ => exact q.elim
    | nil =>
      refine ⟨_, rfl, fun d hd => ?_⟩
      obtain ⟨e, W'⟩ := W1.new hd (.xd [(fld, _)])
      exact ⟨n, hm, ft.ex _ m1 (some d) σ _ _ q (e1.trans e) W' ⟨d, _, rfl, upd_same, r1.mono e⟩⟩
/-! ### calls that may raise -/
theorem FnG.goesAt {X : Cx} {sp : Sp} {E : XK} {pins : List (Addr × Obj)} {σ : L2.St} {H : Hp} {s : Shared} {Q : VK} {us : List Value} {vs : List V} (Fn : FnG X.prog X.w X.K X.mg X.base (L2.CX X.prog X.w) k f fd ps sp)
    (hg : X.A.guards = some []) (hr : Room k X.A) (hb : Binds X.K fd ps []) (hx : PassesAt (L2.CX X.prog X.w) X σ E) (I : Inv X pins σ H s) (r : Vals vs us) (h : sp vs H Q E) :
    wpAny (model X.prog X.w) X.A (call (.ref f) us) (EP X pins σ Q) X.xe s := by
  have hlen : us.length = ps.length := r.length.symm.trans (Fn.size _ _ _ _ h)
  have b := hb s us I.kIn (by rw [List.append_nil]; exact hlen)
  rw [List.append_nil] at b
  have goal := Fn.runs X.A X.stack s H ⟨us, []⟩ us vs Q E hg hr I.env0 b r h
  refine wpAny_call (codeAny_mono goal ?_)
  rintro (e | fl) s' hq
  · exact hx pins H s e s' I hq
  · cases fl <;> first | exact I.after hq | exact (hq : False).elim
def HasX (P : Program) (w : World) (K : Fg) (mg : Str → Option Value) (base : Heap) (j : Nat) (x : Str) (ps : List Str) (fn : DFn) : Prop :=
  ∃ f fd, FnG P w K mg base (L2.CX P w) j f fd ps (spD K mg fn) ∧ mg x = some (.ref f) ∧ PySem.W.keepIn K (.ref f) = true ∧ Binds K fd ps []
def wCallX (fn : DFn) (a : WA) : WE := fun ρ m Q Qx => a ρ m (fun ds m1 => fn ds m1 Q Qx) Qx
theorem pd_own_callX {fn : DFn} {j : Nat} {x : Str} {p : Pos} {e : Expr} {es : List Expr} {wr : WA} (hX : FamG P w K mg base k N X) (tk : ∀ i, Takes (X i) (toWX mg W)) (hh : HasX P w K mg base j x ps fn) (ha : PDA K W X (e :: es) wr) (hj : j ≤ k := by decide) (hg : ∀ i, Gl (X i) x := by intro _; rfl) (hd : (x == ("__debug__" : Str)) = false := by decide)
    (he : ∀ i, starEach (e :: es) (X i).env = (false, eval e (X i).env) :: starEach es (X i).env := by intro _; rfl) (hpl : ∀ i, (backTo pos (starEach es (X i).env)).any (·.1) = false := by intro _; rfl) : PD K W X (.Call (.Name x p) (e :: es) [] pos) (wCallX fn wr) := by
  obtain ⟨f, fd, Fn, hm, hk, hb⟩ := hh
  obtain ⟨t, a1, a2⟩ := ha
  refine ⟨fun σ H Q => t σ H fun vs H1 => spD K mg fn vs H1 Q (fun cls d H' => toWX mg W cls d σ H'), fun i => ⟨fun pins s σ H Q I h => ?_⟩, ?_⟩
  · have hmi : (X i).mg x = some (.ref f) := by rw [hX.mg i]; exact hm
    have Fi : FnG (X i).prog (X i).w (X i).K (X i).mg (X i).base (L2.CX (X i).prog (X i).w) j f fd ps (spD K mg fn) := by rw [hX.prog i, hX.w i, hX.K i, hX.mg i, hX.base i]; exact Fn
    refine wpAny_Call_Name_kw (ld_glob I (hg i) hmi ?_ hd)
    refine PySem.W.callWith_K (h₀ := (X i).base) I.ok.mod.kin (by rw [hX.K i]; exact hk) (thn ((a1 i).run pos pins s σ H _ I h) ?_) (he i) (hpl i)
    rintro us s1 ⟨vs, H1, I1, r, q⟩
    exact ⟨I1.kIn, Fi.goesAt (hX.guards i) ((hX.room i).mono hj) (by rw [hX.K i]; exact hb) (passAt (tk i) σ) I1 r q⟩
  · intro G m F H σ ρ Q Qd Qx hW hE h hXx hQ
    refine a2 G m F H σ ρ _ _ Qx hW hE h hXx ?_
    intro ds m1 vs G1 H1 q e1 W1 r1
    refine ⟨G1, m1, F, ds, Qd, Qx, W1, r1, q, ?_, ?_⟩
    · intro d m' v G' H' z e
      exact hQ d m' v G' H' z (e1.trans e)
    · intro x m' cls d G' H' z hmx e W' r
      exact ⟨x.cls, hmx, hXx x m' d σ G' H' z (e1.trans e) W' r⟩
/-- a def that may raise keeps its promise -/
theorem fn_okX {x qual : Str} {st : Stmt} {fn : DFn} {wb : WS} (Fu : Fun K x qual st f fd) (S : FnScope N ps (defScope st)) (hlen : ∀ ds m Q Qx, fn ds m Q Qx → ds.length = ps.length)
    (hb : ∀ (cdv : Value) (A : Around) (oe : List Env) (s : Shared) (H : Hp) (E : XK), FamG P w K mg base k N (fun _ : Unit => cxOf (L2.CX P w) P w K mg base N qual (defScope st) f cdv A oe s H E) →
      (∀ i, Takes ((fun _ : Unit => cxOf (L2.CX P w) P w K mg base N qual (defScope st) f cdv A oe s H E) i) (toWX mg (byName mg fun cls d _ H => E cls d H))) →
      PDB K (byName mg fun cls d _ H => E cls d H) (fun _ : Unit => cxOf (L2.CX P w) P w K mg base N qual (defScope st) f cdv A oe s H E) (defBody st) wb)
    (hr : ∀ ds m Qd Qx, fn ds m Qd Qx → wb { nx := fun _ m' => Qd .non m', rt := Qd, ex := Qx } (ds.map some ++ List.replicate (N.length - ds.length) none) m) :
    FnG P w K mg base (L2.CX P w) (k + 1) f fd ps (spD K mg fn) := by
  obtain ⟨oc, od, kV, doc, pm, an, cdv, ct, osl, rfl, lk, hcd⟩ := Fu.ex
  have size : ∀ vs H Q E, spD K mg fn vs H Q E → vs.length = ps.length := by
    rintro vs H Q E ⟨G, m, F, ds, Qd, Qx, _, r, hf, _⟩
    exact r.len.trans (hlen _ _ _ _ hf)
  refine ⟨size, ?_⟩
  intro A oe s H ar us vs Q E hgd hrm e0 hbind r hsp
  have hl := size _ _ _ _ hsp
  have old : ∀ b o, base.get? b = some o → s.heap.get? b = some o := fun b o e => (e0.bs b o e).1
  have KX : K.In s.heap := e0.mod.kin.keeps old
  have lim : s.heap.NoLimit := e0.mod.nolimit.keeps old
  have kinds : ∀ y ∈ ps.zip us, (defScope st).names.lookup y.1 = some .local ∨ ((defScope st).names.lookup y.1 = some .cell ∧ ((cellsFrom (s.heap.objs.size + 1) (defScope st).names []).lookup y.1).isSome = true) := by
    rintro ⟨n, v⟩ hy
    rcases S.par n (List.of_mem_zip hy).1 with q | q
    · exact Or.inl q
    · exact Or.inr ⟨q, PySem.W.cellsFrom_some _ _ _ (Or.inl q)⟩
  refine codeAny_call_function hrm.depth (KX _ _ lk) rfl S.co S.gen rfl (PySem.W.codeRec_of KX hcd) (hbind _ _ _ _ ?_)
  refine wpAny_newFunctionEnv_cells S.kind kinds ?_
  rintro env rfl s1 nx
  refine ⟨lim.keeps nx.toInCall.keep, codeAny_func ?_⟩
  have fam : FamG P w K mg base k N (fun _ : Unit => cxOf (L2.CX P w) P w K mg base N qual (defScope st) f cdv A oe s H E) :=
    { prog := fun _ => rfl, w := fun _ => rfl, K := fun _ => rfl, mg := fun _ => rfl, base := fun _ => rfl, hN := fun _ => rfl, calm := fun _ => rfl, room := fun _ => hrm.deeper _, nd := S.nd, guards := fun _ => hgd }
  obtain ⟨t, h1, h2⟩ := hb cdv A oe s H E fam (fun _ => takes_by (takes_of rfl rfl rfl rfl))
  have I : Inv (cxOf (L2.CX P w) P w K mg base N qual (defScope st) f cdv A oe s H E) [] (start N vs) H s1 := inv_start S hrm.hd e0 hl r nx
  obtain ⟨G, m, F, ds, Qd, Qx, hW, rr, hf, hQ, hQx⟩ := hsp
  have reading : t { nx := fun _ H' => Q .non H', rt := Q } (start N vs) H := by
    refine h2 G m F H _ _ _ { nx := fun _ m' => Qd .non m', rt := Qd, ex := Qx } hW ?_ (hr ds m Qd Qx hf) ⟨?_, ?_, ?_, ?_, ?_⟩
    · unfold L2.start
      rw [rr.len]
      exact En.start _ rr
    · intro ρ' m' σ' G' H' q e W' _
      exact hQ _ m' _ G' H' q e W' .non
    · exact hQ
    · intro _ _ _ _ _ z; exact z.elim
    · intro _ _ _ _ _ z; exact z.elim
    · intro x m' d σ' G' H' z e W' r cls hc
      exact hQx x m' cls d G' H' z hc e W' r
  refine wpAny_mono ((h1 ()).run [] s1 (start N vs) H _ I reading) ?_ fun e s' z => z
  have fin : ∀ {s' : Shared} {σ' : L2.St} {H' : Hp} {v : V} {u : Value}, Inv (cxOf (L2.CX P w) P w K mg base N qual (defScope st) f cdv A oe s H E) [] σ' H' s' → RelV v u → Q v H' → CE oe P w H s Q u s' := by
    intro s' σ' H' v u J rv q
    exact ⟨v, H', J.os, J.bare, J.base, J.hok, rv, q⟩
  intro fl s' hs
  cases fl
  case ret u =>
    obtain ⟨v, σ', H', J, rv, q⟩ := hs
    exact fin J rv q
  case next =>
    obtain ⟨σ', H', J, q⟩ := hs
    exact fin (v := V.non) (u := Value.none) J rfl q
  case brk =>
    obtain ⟨_, _, _, q⟩ := hs
    exact (q : False).elim
  case cont =>
    obtain ⟨_, _, _, q⟩ := hs
    exact (q : False).elim
theorem has_ofX {x qual : Str} {st : Stmt} {fn : DFn} {wb : WS} (Fu : FunAt K mg x qual st ps) (S : FnScope N ps (defScope st)) (hlen : ∀ ds m Q Qx, fn ds m Q Qx → ds.length = ps.length)
    (hb : ∀ (f : Addr) (cdv : Value) (A : Around) (oe : List Env) (s : Shared) (H : Hp) (E : XK), FamG P w K mg base k N (fun _ : Unit => cxOf (L2.CX P w) P w K mg base N qual (defScope st) f cdv A oe s H E) →
      (∀ i, Takes ((fun _ : Unit => cxOf (L2.CX P w) P w K mg base N qual (defScope st) f cdv A oe s H E) i) (toWX mg (byName mg fun cls d _ H => E cls d H))) →
      PDB K (byName mg fun cls d _ H => E cls d H) (fun _ : Unit => cxOf (L2.CX P w) P w K mg base N qual (defScope st) f cdv A oe s H E) (defBody st) wb)
    (hr : ∀ ds m Qd Qx, fn ds m Qd Qx → wb { nx := fun _ m' => Qd .non m', rt := Qd, ex := Qx } (ds.map some ++ List.replicate (N.length - ds.length) none) m) : HasX P w K mg base (k + 1) x ps fn := by
  obtain ⟨f, fd, hm, F, hbi⟩ := Fu
  exact ⟨f, fd, fn_okX F S hlen (hb f) hr, hm, F.kp, hbi⟩
/-! ### try: body, except C as n: return [.., n.f] -/
/-- the contexts of a try's body that take W0 -/
def TrI {ι : Type} (X : ι → Cx) (W0 : WX) : Type := { j : ι × List (Addr × Obj) × (Value → Shared → Prop) // Takes ((X j.1).tr j.2.1 j.2.2) W0 ∧ PassesOwn (model (X j.1).prog (X j.1).w) (X j.1).A (X j.1).env j.2.2 }
def TrF {ι : Type} (X : ι → Cx) (W0 : WX) : TrI X W0 → Cx := fun j => (X j.1.1).tr j.1.2.1 j.1.2.2
theorem FamG.tr (hX : FamG P w K mg base k N X) (W0 : WX) : FamG P w K mg base k N (TrF X W0) where
  prog := fun j => hX.prog j.1.1
  w := fun j => hX.w j.1.1
  K := fun j => hX.K j.1.1
  mg := fun j => hX.mg j.1.1
  base := fun j => hX.base j.1.1
  hN := fun j => hX.hN j.1.1
  calm := fun j => hX.calm j.1.1
  room := fun j => hX.room j.1.1
  nd := hX.nd
  guards := fun j => hX.guards j.1.1
def byLen (mg : Str → Option Value) (N : List Str) (W0 : WX) : Wx := fun n d σ H => σ.length = N.length → ∀ cls, mg n = some cls → W0 cls d σ H
theorem takes_len {Y : Cx} {W0 : WX} (t : Takes Y W0) (hN : Y.N = N) : Takes Y (toWX mg (byLen mg N W0)) := by
  rintro u s' ⟨a, B, sI, pins, σ, H, cls, d, e, I, nb, up, sky, na, os, ag, n, hm, q⟩
  exact t u s' ⟨a, B, sI, pins, σ, H, cls, d, e, I, nb, up, sky, na, os, ag, q (by rw [I.len, hN]) cls hm⟩
theorem tr_takes (hX : FamG P w K mg base k N X) (W0 : WX) : ∀ j, Takes (TrF X W0 j) (toWX mg (byLen mg N W0)) := fun j => takes_len j.2.1 (hX.hN j.1.1)
def sTry (x fld tag : Str) (wb : WS) : WS := fun E ρ m => wb { nx := E.nx, rt := E.rt, bk := E.bk, ct := E.ct, ex := fun xx m' => xx.cls = x ∧ xx.fld = fld ∧ E.rt (.lst [.str tag, xx.val]) m' } ρ m
theorem xfc_of {main : Str} {C fI : Addr} {fld : Str} {B newId initId : String} {bmB : List Value} (T : XT main K C fI fld B newId initId bmB) : XfC K C := ⟨T.ga, T.gg, T.exC, T.hdC⟩
theorem ps_tryR {x fld tag n : Str} {body : List Stmt} {wb : WS} {np p1 p2 p3 p4 p5 pos' : Pos} {j1 : Nat} (hX : FamG P w K mg base k N X) (tk : ∀ i, Takes (X i) (toWX mg W)) (c : XC P K mg x fld) (v : Nat)
    (hb : ∀ W0 : WX, PDB K (byLen mg N W0) (TrF X W0) body wb) (hi : N[v]? = some n := by rfl)
    (hs : ∀ i, (X i).stack = (X i).env :: (X i).outer := by intro _; rfl) (hf : ∀ i, (X i).env.frame = some (X i).env.locals := by intro _; rfl) (hln : ∀ i, (X i).env.kindOf n = some .local := by intro _; rfl)
    (hg : ∀ i, Gl (X i) x := by intro _; rfl) (hd : (x == ("__debug__" : Str)) = false := by decide) (hv : ∀ j, Vis (X j).env.scope n := by intro _; first | exact Or.inl rfl | exact Or.inr (Or.inl rfl) | exact Or.inr (Or.inr rfl)) (hdn : (n == ("__debug__" : Str)) = false := by decide) (hcn : (n == ("__classdict__" : Str)) = false := by decide)
    (hab : ∀ i, attributeBase (.Name n p2) fld (X i).env (eval (.Name n p2) (X i).env) = eval (.Name n p2) (X i).env := by intro _; rfl) :
    PDS K W X (.Try body [.ExceptHandler (some (.Name x np)) (some n) [.Return (some (.List [.Constant (.str tag) j1 p1, .Attribute (.Name n p2) fld p3] p4)) p5] pos'] [] [] pos) (sTry x fld tag wb) := by
  obtain ⟨C, fI, B, newId, initId, bmB, D, T, hm, hex⟩ := c
  obtain ⟨ts, hts⟩ : ∃ ts : Addr → Value → Option Addr → TS, ts = fun a cls d => tRet (tLst (tCons (tC (.str tag)) (tCons (tXf a cls d C fld (tVar v)) tNil))) := ⟨_, rfl⟩
  refine ⟨fun D σ H => Classical.choose (hb (wAs K (.ref C) v ts (toWX mg W) D)) D σ H, fun i => ?_, ?_⟩
  · have q := L2.ps_try_as (X := X i) (x := x) (n := n) (np := np) (pos := pos) (pos' := pos') (body := body) (b₀ := .Return (some (.List [.Constant (.str tag) j1 p1, .Attribute (.Name n p2) fld p3] p4)) p5) (suite := []) (i := v) (c := .ref C) (ts := ts) (tb := fun W0 => Classical.choose (hb W0)) (Wout := toWX mg W) (hs i) (hf i) (by rw [hX.hN i]; exact hX.nd) (by rw [hX.hN i]; exact hi) (hln i)
      ⟨hg i, hd, Or.inl (by rw [hX.mg i]; exact hm)⟩ (tk i) (fun W0 pn xe t po => (Classical.choose_spec (hb W0)).1 ⟨(i, pn, xe), t, po⟩) (fun a oe cls d pn hz hfl => ?_)
    · rw [hX.K i] at q; exact q
    · subst hts
      refine pss_one (L2.ps_ret (pe_lst (L2.pa_cons pe_str (L2.pa_cons (pe_xf ?_ ?_ hz hfl (pe_var (by exact (hX.hN i) ▸ hi) (hv i) hdn hcn) (hab i)) L2.pa_nil))))
      · show XfC (X i).K C; rw [hX.K i]; exact xfc_of T
      · show PySem.W.findIn (X i).K (.ref C) fld = some none; rw [hX.K i]; exact T.noN
  · intro G m F H σ ρ S E hW hE h ft
    refine (Classical.choose_spec (hb (wAs K (.ref C) v ts (toWX mg W) S))).2 G m F H σ ρ S _ hW hE h ⟨ft.nx, ft.rt, ft.bk, ft.ct, ?_⟩
    rintro xx m' d σ' G' H' ⟨q1, q2, q3⟩ e W' ⟨dd, u, ed, eg, ru⟩ hlen cls hcls
    rw [q1, hm] at hcls
    cases hcls
    refine ⟨true, hex, fun _ a ha => ?_, fun z => nomatch z⟩
    subst hts
    have hvl : v < σ'.length := by
      rw [hlen]
      exact (List.getElem?_eq_some_iff.mp hi).1
    have hH : H' dd = some (.xd [(xx.fld, u)]) := W'.ex _ _ eg
    refine ⟨.ref a, by rw [List.getElem?_set_self hvl], rfl, rfl, dd, [(xx.fld, u)], u, ed, hH, by rw [q2]; simp [List.lookup], ?_, fun p hp => ?_⟩
    · show 2 ≤ sizeLine
      rw [sizeLine_eq]; decide
    · obtain ⟨e2, W2⟩ := W'.new hp (.lst [.str tag, u])
      exact ft.rt _ m' _ _ _ q3 (e.trans e2) W2 (.lst upd_same (.cons (.str tag) (.cons (ru.mono e2) .nil)))
end
end DL
/-! XR: repr of data, empty dicts among them -/
namespace DL
open PySem L2 XO
open Evl (Ex)
mutual
def plainD : D → Bool
  | .non => true | .bl _ => true | .int _ => true | .str _ => true
  | .lst ds => plainA ds | .tup ds => plainA ds
  | .dct [] [] => true
  | _ => false
def plainA : List D → Bool
  | [] => true
  | d :: ds => plainD d && plainA ds
end
section
variable {X : Cx} {pins : List (Addr × Obj)} {σ : L2.St} {G H : Hp} {s : Shared}
mutual
theorem rk_of (I : Inv X pins σ H s) (e : Ex G H) : ∀ (d : D) (v : V) (u : Value), Rp X.K G v d → RelV v u → plainD d = true → (py d).showable = true → (py d).shown.length ≤ sizeLine →
    ∃ as bs, Reads s.heap u (py d) as ∧ ReadAtMost s.heap (py d).depth bs ∧ ReprK X.prog X.w bs s.heap (py d).depth u (py d).shown
  | .non, _, _, r, ru, _, _, _ => by
    cases r; cases ru
    exact ⟨_, [], Reads.none, (fun _ h => nomatch h), by simp only [py, PyData.shown]; exact .of_is ReprIs.none _ _ _⟩
  | .bl b, _, _, r, ru, _, _, _ => by
    cases r; cases ru
    exact ⟨_, [], Reads.bool b, (fun _ h => nomatch h), by simp only [py, PyData.shown]; exact .of_is (ReprIs.bool b) _ _ _⟩
  | .int i, _, _, r, ru, _, hs, _ => by
    cases r
    obtain ⟨t, rfl⟩ := ru
    exact ⟨_, [], Reads.int i t, (fun _ h => nomatch h), by simp only [py, PyData.shown]; exact .of_is (ReprIs.int t (by simpa [py, PyData.showable] using hs)) _ _ _⟩
  | .str x, _, _, r, ru, _, _, hz => by
    cases r
    obtain ⟨t, rfl⟩ := ru
    exact ⟨_, [], Reads.str x t, (fun _ h => nomatch h), by simp only [py, PyData.shown]; exact .of_is (ReprIs.str x t (by simpa only [py, PyData.shown] using hz)) _ _ _⟩
  | .lst ds, _, _, r, ru, hp, hs, hz => by
    cases r with
    | @lst a0 xs0 _ hx rr =>
      cases ru
      obtain ⟨its, rv, ⟨o, n, ho, hc, _, hd⟩, _⟩ := I.list (SqL.of (e _ _ hx))
      have hz' : (listText (PyData.shownAll (pyA ds))).length ≤ sizeLine := by simpa only [py, PyData.shown] using hz
      obtain ⟨as, bs, hr, hb, hk⟩ := rks_of I e ds _ its rr rv (by simpa only [plainD] using hp) (by simpa only [py, PyData.showable] using hs) (fun t ht => Nat.le_trans (listText_mem_le ht) hz')
      have r : Reads s.heap (.ref a0) (.list (pyA ds)) _ := .list ho hc hd hr
      have hna : a0 ∉ bs := not_mem_of_deeper r (by simp only [PyData.depth]; omega) hb
      rw [show py (D.lst ds) = PyData.list (pyA ds) from by simp only [py]]
      refine ⟨_, _ :: bs, r, ReadAtMost.cons r (by simp only [PyData.depth]; omega) hb, ?_⟩
      simp only [PyData.depth, PyData.shown]
      cases its with
      | nil =>
        have h4' : ReadsAll s.heap [] (pyA ds) _ := hr
        cases ds with
        | nil =>
          simp only [pyA, PyData.shownAll, listText_nil]
          exact ReprK.listEmpty ho hc hd
        | cons d ds => simp only [pyA] at h4'; cases h4'
      | cons x l => exact ReprK.list ho hc hd hna (by simpa using hk.length_eq) (fun i y e => hk.item i y (by simpa using e))
  | .tup ds, _, _, r, ru, hp, hs, hz => by
    cases r with
    | @tup a0 xs0 _ hx rr =>
      cases ru
      obtain ⟨its, rv, ⟨o, ho, hc, n, hd⟩, _⟩ := I.tuple (Evl.ex_t e hx)
      have hz' : (tupleText (PyData.shownAll (pyA ds))).length ≤ sizeLine := by simpa only [py, PyData.shown] using hz
      obtain ⟨as, bs, hr, hb, hk⟩ := rks_of I e ds _ its rr rv (by simpa only [plainD] using hp) (by simpa only [py, PyData.showable] using hs) (fun t ht => Nat.le_trans (tupleText_mem_le ht) hz')
      have r : Reads s.heap (.ref a0) (.tuple (pyA ds)) _ := .tuple ho hc hd hr
      have hna : a0 ∉ bs := not_mem_of_deeper r (by simp only [PyData.depth]; omega) hb
      rw [show py (D.tup ds) = PyData.tuple (pyA ds) from by simp only [py]]
      refine ⟨_, _ :: bs, r, ReadAtMost.cons r (by simp only [PyData.depth]; omega) hb, ?_⟩
      simp only [PyData.depth, PyData.shown]
      exact ReprK.tuple ho hc hd hna hk
  | .dct [] [], _, _, r, ru, _, _, _ => by
    cases r with
    | @dct a0 kvs0 _ _ _ hx h1 h2 rr =>
      cases ru
      have hk0 : kvs0 = [] := List.map_eq_nil_iff.mp h1
      subst hk0
      obtain ⟨_, hsys, vs, kv, o, es, ep, ho, hex, hd, _, hp, _⟩ := dk_of I.hok (e _ _ hx)
      cases kv
      have hes : es.toList = [] := by
        cases hh : es.toList with
        | nil => rfl
        | cons x l => rw [hh] at hp; cases hp
      have r : Reads s.heap (.ref a0) (.dict []) _ := .dict ho hex.1 hd (by rw [hes]; exact ReadsAll.nil) (by rw [hes]; exact ReadsAll.nil)
      refine ⟨_, [a0], r, ReadAtMost.cons (n := 0) r (Nat.zero_le _) (fun _ h => nomatch h), ?_⟩
      simp only [py, PyData.depth, PyData.shown, PyData.shownKv_eq]
      exact ReprK.dict ho hex.1 hd hsys (fun h => nomatch h) (by rw [hes]; exact .nil)
  | .dct (_ :: _) _, _, _, _, _, h, _, _ => by simp [plainD] at h
  | .dct [] (_ :: _), _, _, _, _, h, _, _ => by simp [plainD] at h
  | .ty _, _, _, _, _, h, _, _ => by simp [plainD] at h
  | .scr _, _, _, _, _, h, _, _ => by simp [plainD] at h
  | .box _, _, _, _, _, h, _, _ => by simp [plainD] at h
  | .obj _ _ _, _, _, _, _, h, _, _ => by simp [plainD] at h
theorem rks_of (I : Inv X pins σ H s) (e : Ex G H) : ∀ (ds : List D) (vs : List V) (us : List Value), RpA X.K G vs ds → Vals vs us → plainA ds = true → PyData.showableAll (pyA ds) = true → (∀ t ∈ PyData.shownAll (pyA ds), t.length ≤ sizeLine) →
    ∃ as bs, ReadsAll s.heap us (pyA ds) as ∧ ReadAtMost s.heap (PyData.depthAll (pyA ds)) bs ∧ ReprAllK X.prog X.w bs s.heap (PyData.depthAll (pyA ds)) us (PyData.shownAll (pyA ds))
  | [], _, _, r, rv, _, _, _ => by
    cases r; cases rv
    exact ⟨_, [], ReadsAll.nil, (fun _ h => nomatch h), by simp only [pyA, PyData.shownAll]; exact .nil⟩
  | d :: ds, _, _, r, rv, hp, hs, hz => by
    cases r with
    | cons r1 r2 =>
      cases rv with
      | cons v1 v2 =>
        have hp' : plainD d = true ∧ plainA ds = true := by simpa [plainA] using hp
        have hs' : (py d).showable = true ∧ PyData.showableAll (pyA ds) = true := by simpa [pyA, PyData.showableAll] using hs
        obtain ⟨as1, b1, q1, hb1, k1⟩ := rk_of I e d _ _ r1 v1 hp'.1 hs'.1 (hz _ (by simp only [pyA, PyData.shownAll]; exact List.mem_cons_self ..))
        obtain ⟨as2, b2, q2, hb2, k2⟩ := rks_of I e ds _ _ r2 v2 hp'.2 hs'.2 (fun t ht => hz t (by simp only [pyA, PyData.shownAll]; exact List.mem_cons_of_mem _ ht))
        refine ⟨_, b1 ++ b2, ReadsAll.cons q1 q2, ?_, ?_⟩
        · intro b hm
          simp only [pyA, PyData.depthAll]
          rcases List.mem_append.mp hm with hm | hm
          · obtain ⟨d', as', r', hd'⟩ := hb1 b hm
            exact ⟨d', as', r', Nat.le_trans hd' (Nat.le_max_left _ _)⟩
          · obtain ⟨d', as', r', hd'⟩ := hb2 b hm
            exact ⟨d', as', r', Nat.le_trans hd' (Nat.le_max_right _ _)⟩
        · simp only [pyA, PyData.depthAll, PyData.shownAll]
          exact .cons ((k1.more fun b hb => List.mem_append_left _ hb).level_le (Nat.le_max_left _ _)) (k2.more_le (fun b hb => List.mem_append_right _ hb) (Nat.le_max_right _ _))
end
theorem py_lst {ds : List D} : (py (.lst ds)).depth = PyData.depthAll (pyA ds) + 1 ∧ (py (.lst ds)).shown = listText (PyData.shownAll (pyA ds)) := ⟨by simp only [py, PyData.depth], by simp only [py, PyData.shown]⟩
end
structure ShowsU (d : D) : Prop where
  plain : plainD d = true
  show1 : (py d).showable = true
  deep : (py d).depth ≤ 60
  size : (py d).shown.length ≤ sizeLine
def dReprU : WC := fun xs m Q => match xs with
  | [.lst ds] => ShowsU (.lst ds) ∧ Q (.str (py (.lst ds)).shown) m
  | _ => False
def rReprU (K : Fg) : List V → Hp → VK → Prop := fun xs H Q => ∃ a G ds, xs = [.ref a] ∧ Ex G H ∧ Rp K G (.ref a) (.lst ds) ∧ ShowsU (.lst ds) ∧ Q (.str (py (.lst ds)).shown) H
theorem call_reprU {X : Cx} (hc : X.A.guards = some []) (hu : X.A.units + 64 < cLine) : CallR X (.builtin "repr") (rReprU X.K) := by
  intro pins s σ H xs us Q I r h
  obtain ⟨a, G, ds, rfl, e, rp, S, q⟩ := h
  cases r with
  | cons r1 t =>
    cases t
    cases r1
    have hz := S.size
    have hdp := S.deep
    cases rp with
    | @lst a0 xs0 _ hx rr =>
      obtain ⟨its, rv, ⟨o, n, ho, hcl, _, hd⟩, _⟩ := I.list (SqL.of (e _ _ hx))
      have hz' : (listText (PyData.shownAll (pyA ds))).length ≤ sizeLine := by simpa only [py, PyData.shown] using hz
      obtain ⟨as, bs, hr, hb, hk⟩ := rks_of I e ds _ its rr rv (by simpa only [plainD] using S.plain) (by simpa only [py, PyData.showable] using S.show1) (fun t ht => Nat.le_trans (listText_mem_le ht) hz')
      have r : Reads s.heap (.ref a) (.list (pyA ds)) _ := .list ho hcl hd hr
      have hna : a ∉ bs := not_mem_of_deeper r (by simp only [PyData.depth]; omega) hb
      refine call_repr_slot (by omega) ⟨o, ho, hcl⟩ F.slot_list_repr.toG ?_
      simp only [py, PyData.depth] at hdp
      have fin : ∀ h' u tk, (∀ b o, s.heap.get? b = some o → h'.get? b = some o) → ∃ v H1, Inv X pins σ H1 { s with heap := h', toks := tk } ∧ RelV v (.str (listText (PyData.shownAll (pyA ds))) u) ∧ Q v H1 := fun h' u tk k => by
        have e2 : (py (.lst ds)).shown = listText (PyData.shownAll (pyA ds)) := py_lst.2
        rw [e2] at q
        exact ⟨.str _, H, I.kept k, ⟨u, rfl⟩, q⟩
      cases its with
      | nil =>
        have h4' : ReadsAll s.heap [] (pyA ds) _ := hr
        cases ds with
        | nil =>
          refine call_list_repr_empty ⟨o, ho, hcl⟩ ho hd ⟨_, _, rfl, ?_⟩
          have := fin s.heap s.toks (s.toks + 1) fun _ _ e => e
          simp only [pyA, PyData.shownAll, listText_nil] at this
          exact this
        | cons d ds => simp only [pyA] at h4'; cases h4'
      | cons x l =>
        exact call_list_reprK ho hcl hd hna (by simpa using hk.length_eq) (fun i y e => hk.item i y (by simpa using e)) hc (fun b _ => Clear.nil b) (by show X.A.units + 1 + (PyData.depthAll (pyA ds) + 1) < cLine; omega) (fun _ _ e => e) (fun h' u tk k => ⟨_, _, rfl, fin h' u tk k⟩) hz'
theorem b_reprU {P : Program} {w : World} {K : Fg} {mg : Str → Option Value} {base : Heap} {k : Nat} {N : List Str} {ι : Type} {X : ι → Cx} (hX : FamG P w K mg base k N X) : BiU K X (.builtin "repr") dReprU := by
  refine ⟨_, fun i => hX.K i ▸ call_reprU (hX.guards i) (by have := (hX.room i).un; omega), ?_⟩
  intro G m F H xs ds Q Qd hW r h hQ
  unfold dReprU at h
  split at h
  · obtain ⟨S, q⟩ := h
    cases r with
    | cons r1 t =>
      cases t
      have r2 := r1
      cases r1 with
      | lst hx rr => exact ⟨_, G, _, rfl, hW.ex, r2, S, hQ.here hW q (.str _)⟩
  · cases h
end DL
/-! XE: further rules at the level of data -/
namespace DL
open PySem L2 XO
open Evl (Ex)
section
variable {K : Fg} {W : Wx} {ι : Type} {X : ι → Cx} {pos : Pos} {a b c e : Expr} {es : List Expr} {wa wb wc w : WE} {wr : WA} {sts : List Stmt} {t : WS} {ua : WT}
/-! a built-in function under a name of the text -/
theorem pd_bg {mg : Str → Option Value} {x : Str} {p : Pos} {id : String} {w : WC} (hc : BiU K X (.builtin id) w) (hX : ∀ i, (X i).mg = mg) (hm : mg x = some (.builtin id)) (ha : PDA K W X (e :: es) wr) (hg : ∀ i, Gl (X i) x := by intro _; rfl)
    (he : ∀ i, starEach (e :: es) (X i).env = (false, eval e (X i).env) :: starEach es (X i).env := by intro _; rfl) (hpl : ∀ i, (backTo pos (starEach es (X i).env)).any (·.1) = false := by intro _; rfl) (hd : (x == ("__debug__" : Str)) = false := by decide) :
    PD K W X (.Call (.Name x p) (e :: es) [] pos) (wBi w wr) := by
  obtain ⟨r, c1, c2⟩ := hc
  obtain ⟨t, h1, h2⟩ := ha
  exact ⟨_, fun i => pe_callBfun (c1 i) (hg i) (by rw [hX i]; exact hm) (h1 i) hd (he i) (hpl i), lift_cb c2 h2⟩
abbrev dGcd : WC := dInt2 fun i j => ((Nat.gcd i.natAbs j.natAbs : Nat) : Int)
theorem b_gcd : BiU K X (.builtin "math.gcd") dGcd := ⟨_, fun _ => cr_gcd, lift_int2⟩
def dAbs : WC := fun xs m Q => match xs with
  | [.int i] => Q (.int (if i < 0 then -i else i)) m
  | _ => False
theorem b_abs : BiU K X (.builtin "abs") dAbs := by
  refine ⟨_, fun _ => call_abs, ?_⟩
  intro G m F H xs ds Q Qd hW r h hQ
  unfold dAbs at h
  split at h
  · cases r with
    | cons r1 t =>
      cases r1
      cases t
      exact ⟨_, rfl, hQ.here hW h (.int _)⟩
  · cases h
/-! isinstance(x, (c1, ..)) -/
/-- boxes too: they are lists -/
def typedM (m : Mem) : D → Bool
  | .box a => (m a).isSome
  | d => isTyped d
def isaL (x : D) : List String → Option Bool
  | [] => some false
  | n :: r => match isaB n x with
    | some true => some true
    | some false => isaL x r
    | none => none
theorem isaL_box {a : Addr} : ∀ ns, isaL (.box a) ns = isaL (.lst []) ns
  | [] => rfl
  | n :: r => by unfold isaL; rw [show isaB n (.box a) = isaB n (.lst []) from rfl, isaL_box r]
theorem kits {x : D} (hx : isTyped x = true) : ∀ {ns : List String} {b : Bool}, isaL x ns = some b → PySem.W.kitAny K (.type (tyD x)) (ns.map Value.type) = some b
  | [], _, h => by cases h; rfl
  | n :: r, b, h => by
    unfold isaL at h
    split at h
    · rename_i e
      cases h
      exact kitAny_cons (r := true) (kit_ty (kit_isa hx e)) (fun z => nomatch z) (fun _ => rfl)
    · rename_i e
      exact kitAny_cons (kit_ty (kit_isa hx e)) (fun _ => kits hx h) (fun z => nomatch z)
    · cases h
/-- isinstance(e, (c1, c2)) -/
def wIsiT (we : WE) (ns : List String) : WE := fun ρ m Q Qx => we ρ m (fun x m1 => typedM m1 x = true ∧ ∃ b, isaL x ns = some b ∧ Q (.bl b) m1) Qx
theorem tyM_of {G F H : Hp} {m : Mem} {v : V} {d : D} {ns : List String} {b : Bool} (hW : Wd K G m F H) (r : Rp K G v d) (ht : typedM m d = true) (h : isaL d ns = some b) : ∃ t, TyX K H v t ∧ PySem.W.kitAny K t (ns.map Value.type) = some b := by
  cases d with
  | box a =>
    cases r
    obtain ⟨ds, hm⟩ := Option.isSome_iff_exists.mp ht
    obtain ⟨_, _, xs, hx, _⟩ := hW.own a ds hm
    rw [isaL_box] at h
    exact ⟨_, .base (.lst hx), kits (x := .lst []) rfl h⟩
  | _ => exact ⟨_, ty_of hW.ex r (by exact ht), kits (by exact ht) h⟩
theorem pd_isiT2 {mg : Str → Option Value} {x1 x2 : Str} {n1 n2 : String} {p p1 p2 p3 : Pos} {kx : Nat} {we : WE} (hK : ∀ i, (X i).K = K) (hX : ∀ i, (X i).mg = mg) (hm : mg "isinstance" = none) (hi : bootBuiltins "isinstance" = some (.builtin "isinstance")) (m1 : mg x1 = none) (v1 : bootBuiltins x1 = some (.type n1)) (m2 : mg x2 = none) (v2 : bootBuiltins x2 = some (.type n2))
    (he : PD K W X e we) (hg : ∀ i, Gl (X i) "isinstance" := by intro _; rfl) (g1 : ∀ i, Gl (X i) x1 := by intro _; rfl) (g2 : ∀ i, Gl (X i) x2 := by intro _; rfl) (hn1 : x1 ≠ "__name__" := by decide) (hd1 : (x1 == ("__debug__" : Str)) = false := by decide) (hn2 : x2 ≠ "__name__" := by decide) (hd2 : (x2 == ("__debug__" : Str)) = false := by decide)
    (hs : ∀ i, starEach [e, .Tuple [.Name x1 p1, .Name x2 p2] kx p3] (X i).env = (false, eval e (X i).env) :: starEach [.Tuple [.Name x1 p1, .Name x2 p2] kx p3] (X i).env := by intro _; rfl)
    (hpl : ∀ i, (backTo pos (starEach [.Tuple [.Name x1 p1, .Name x2 p2] kx p3] (X i).env)).any (·.1) = false := by intro _; rfl) :
    PD K W X (.Call (.Name "isinstance" p) [e, .Tuple [.Name x1 p1, .Name x2 p2] kx p3] [] pos) (wIsiT we [n1, n2]) := by
  obtain ⟨t, h1, h2⟩ := he
  refine ⟨tCB (rIsiT K) (tCons t (tCons (tTup (tCons (tC (.ty n1)) (tCons (tC (.ty n2)) tNil))) tNil)), fun i => pe_callB (by have q := call_isiT (X := X i); rw [hK i] at q; exact q) (hg i) (by rw [hX i]; exact hm) hi
    (L2.pa_cons (h1 i) (L2.pa_cons (pe_tup (L2.pa_cons (pe_bltn (g1 i) (by rw [hX i]; exact m1) v1 rfl hn1 hd1) (L2.pa_cons (pe_bltn (g2 i) (by rw [hX i]; exact m2) v2 rfl hn2 hd2) L2.pa_nil))) L2.pa_nil) (hs i)) (by decide) (by decide) (hs i) (hpl i), ?_⟩
  intro G m F H σ ρ Q Qd Qx hW hE h hX hQ
  refine h2 G m F H σ ρ _ _ Qx hW hE h hX ?_
  intro d m1 x G1 H1 q e1 W1 r1
  obtain ⟨ht, b, hb, q⟩ := q
  refine ⟨by show 2 ≤ sizeLine; rw [sizeLine_eq]; decide, fun p hp => ?_⟩
  obtain ⟨e2, W2⟩ := W1.new hp (.tup [V.ty n1, V.ty n2])
  obtain ⟨t, ht2, hk⟩ := tyM_of W2 (r1.mono e2) ht hb
  exact ⟨x, p, _, t, _, b, rfl, upd_same, .cons (.ty n1) (.cons (.ty n2) .nil), ht2, hk, hQ _ _ _ _ _ q (e1.trans e2) W2 (.bl b)⟩
/-! what a variable holds, walked: a list or a tuple -/
def iVar (i : Nat) : WA := fun ρ m Q _ => match ρ[i]? with
  | some (some (.lst ds)) => Q ds m
  | some (some (.tup ds)) => Q ds m
  | some (some (.scr ns)) => Q (ns.map D.int) m
  | _ => False
theorem pi_or {Y : Cx} {tg iter : Expr} {t t' : TI} (h : PI Y tg iter t) (h' : PI Y tg iter t') : PI Y tg iter (fun σ H R => t σ H R ∨ t' σ H R) := by
  refine ⟨fun pins s σ H R I q => ?_⟩
  rcases q with q | q
  · exact h.run pins s σ H R I q
  · exact h'.run pins s σ H R I q
theorem pi_var (hK : ∀ i, (X i).K = K) (i : Nat) {N : List Str} {x : Str} (hX : ∀ j, (X j).N = N) (hN : N[i]? = some x := by rfl) (hv : ∀ j, Vis (X j).env.scope x := by intro _; first | exact Or.inl rfl | exact Or.inr (Or.inl rfl) | exact Or.inr (Or.inr rfl)) (hd : (x == ("__debug__" : Str)) = false := by decide) (hc : (x == ("__classdict__" : Str)) = false := by decide) {tg : Expr} : PDI K W X tg (.Name x pos) (iVar i) := by
  refine ⟨fun σ H R => iList K (tVar i) σ H R ∨ iTup K (tVar i) σ H R, fun j => ?_, ?_⟩
  · have pv : PE (X j) (.Name x pos) (tVar i) := pe_var (by rw [hX j]; exact hN) (hv j) hd hc
    have q := pi_or (pi_list (tg := tg) pv) (pi_tup (tg := tg) pv)
    rw [hK j] at q
    exact q
  · intro G m F H σ ρ R Qd Qx hW hE h hX hR
    unfold iVar at h
    split at h
    · rename_i ds e
      obtain ⟨v, h1, h2⟩ := hE.get e
      cases h2 with
      | lst hx rr => exact Or.inl ⟨_, h1, _, rfl, ⟨_, SqL.of (hW.ex _ _ hx)⟩, hR _ _ _ _ _ h (Ex.refl G) hW (dw_list hx rr)⟩
    · rename_i ds e
      obtain ⟨v, h1, h2⟩ := hE.get e
      cases h2 with
      | tup hx rr =>
        refine Or.inr ⟨_, h1, _, rfl, ⟨_, Evl.ex_t hW.ex hx⟩, hR _ _ _ _ _ h (Ex.refl G) hW ?_⟩
        refine ⟨_, _, rr.len ▸ walk_tup, fun G2 m F H e W => ⟨Evl.ex_t W.ex (Evl.ex_t e hx), ?_⟩⟩
        rintro i H' x d hd ⟨rfl, hx⟩
        obtain ⟨v, hv, rv⟩ := rr.at hd
        rw [hv] at hx
        cases hx
        exact ⟨G2, Ex.refl _, W, rv.mono e⟩
    · rename_i ns e
      obtain ⟨v, h1, h2⟩ := hE.get e
      cases h2 with
      | scr hx => exact Or.inl ⟨_, h1, _, rfl, ⟨_, Evl.ex_l hW.ex hx⟩, hR _ _ _ _ _ h (Ex.refl G) hW (dw_scr hx)⟩
    · cases h
/-! while -/
/-- a while of a measured state -/
def sWhile (c : WT) (body : WS) : WS := fun E ρ m => ∃ J : Nat → En0 → Mem → Prop, (∃ n, J n ρ m) ∧ ∀ n ρ m, J n ρ m → c ρ m (fun b m1 => if b = true then body { E with nx := fun ρ' m' => ∃ n', n' < n ∧ J n' ρ' m', ct := fun ρ' m' => ∃ n', n' < n ∧ J n' ρ' m', bk := E.nx } ρ m1 else E.nx ρ m1) E.ex
theorem ps_whileD (hp : ∀ i, PassesOwn (model (X i).prog (X i).w) (X i).A (X i).env (X i).xe) (hc : PDT K W X c ua) (hb : PDB K W X sts t) : PDS K W X (.While c sts [] pos) (sWhile ua t) := by
  obtain ⟨tc, c1, c2⟩ := hc
  obtain ⟨tb, b1, b2⟩ := hb
  refine ⟨_, fun i => ps_while (hp i) (c1 i) (b1 i), ?_⟩
  intro G m F H σ ρ S E hW hE ⟨J, ⟨n0, j0⟩, turn⟩ f
  refine ⟨fun n σ H => ∃ G' m' ρ', Ex G G' ∧ Wd K G' m' F H ∧ En K G' σ ρ' ∧ J n ρ' m', ⟨n0, G, m, ρ, Ex.refl G, hW, hE, j0⟩, ?_⟩
  rintro n σ H ⟨G1, m1, ρ1, e1, W1, E1, j1⟩
  refine c2 G1 m1 F H σ ρ1 _ _ E.ex W1 E1 (turn n ρ1 m1 j1) (f.ex.mono e1) ?_
  intro b m2 G2 H2 q e2 W2
  have e12 := e1.trans e2
  cases b with
  | true =>
    rw [if_pos rfl] at q
    refine ⟨fun σ' H' => ∃ m', m' < n ∧ ∃ G' mm ρ', Ex G G' ∧ Wd K G' mm F H' ∧ En K G' σ' ρ' ∧ J m' ρ' mm, fun _ _ h => h, ?_⟩
    refine b2 G2 m2 F H2 σ ρ1 _ _ W2 (E1.mono e2) q ⟨?_, (f.mono e12).rt, ?_, ?_, (f.mono e12).ex⟩
    · rintro ρ3 m3 σ3 G3 H3 ⟨n', hn, j⟩ e3 W3 E3
      exact ⟨n', hn, G3, m3, ρ3, e12.trans e3, W3, E3, j⟩
    · exact (f.mono e12).nx
    · rintro ρ3 m3 σ3 G3 H3 ⟨n', hn, j⟩ e3 W3 E3
      exact ⟨n', hn, G3, m3, ρ3, e12.trans e3, W3, E3, j⟩
  | false => exact f.nx ρ1 m2 σ G2 H2 q e12 W2 (E1.mono e2)
/-! a, b = e, f -/
def sPar (i j : Nat) (wr : WA) : WS := fun E ρ m => wr ρ m (fun ds m1 => ∃ d1 d2, ds = [d1, d2] ∧ E.nx ((ρ.set i (some d1)).set j (some d2)) m1) E.ex
theorem ps_parD (i j : Nat) {N : List Str} {x y : Str} {px py pt pt2 : Pos} {kt k2 : Nat} (hX : ∀ j, (X j).N = N) (hc : ∀ i, (X i).calm = true) (hN : N.Nodup) (h : PDA K W X [a, b] wr) (hij : i ≠ j := by decide) (hi : N[i]? = some x := by rfl) (hj : N[j]? = some y := by rfl)
    (hx : ∀ j, (X j).env.scope.names.lookup x = some .local := by intro _; rfl) (hy : ∀ j, (X j).env.scope.names.lookup y = some .local := by intro _; rfl)
    (hw : ∀ i, swappedStores [.Tuple [.Name x px, .Name y py] kt pt] (.Tuple [a, b] k2 pt2) (X i).env = pure (some [x, y]) := by intro _; rfl)
    (hs : ∀ i, swapsWithSole [.Tuple [.Name x px, .Name y py] kt pt] (.Tuple [a, b] k2 pt2) pos.line (X i).env = pure false := by intro _; rfl) :
    PDS K W X (.Assign [.Tuple [.Name x px, .Name y py] kt pt] (.Tuple [a, b] k2 pt2) pos) (sPar i j wr) := by
  obtain ⟨t, a1, a2⟩ := h
  refine ⟨_, fun l => ps_par (i := i) (j := j) (hc l) (by rw [hX l]; exact hN) (by rw [hX l]; exact hi) (by rw [hX l]; exact hj) hij (hx l) (hy l) (a1 l) (hw l) (hs l), ?_⟩
  intro G m F H σ ρ S E hW hE h f
  refine a2 G m F H σ ρ _ _ E.ex hW hE h f.ex ?_
  rintro ds m1 vs G1 H1 ⟨d1, d2, rfl, q⟩ e1 W1 r1
  cases r1 with
  | cons r1 t =>
    cases t with
    | cons r2 t =>
      cases t
      exact ⟨_, _, rfl, f.nx _ m1 _ G1 H1 q e1 W1 (((hE.mono e1).put r1 i).put r2 j)⟩
end
end DL
/-! XF: zip, append, boxes compared, calls that borrow boxes -/
namespace DL
open PySem L2 XO RZ
open Evl (Ex)
section
variable {K : Fg} {W : Wx} {ι : Type} {X : ι → Cx} {pos : Pos} {a b c e : Expr} {es : List Expr} {wa wb wc w : WE} {wr : WA} {sts : List Stmt} {t : WS} {ua : WT}
def zipD (xs ys : List D) : List D := (xs.zip ys).map fun p => .tup [p.1, p.2]
def iZipD (wr : WA) : WA := fun ρ m Q Qx => wr ρ m (fun ds m1 => match ds with
  | [.lst xs, .lst ys] => Q (zipD xs ys) m1
  | [.tup xs, .tup ys] => Q (zipD xs ys) m1
  | _ => False) Qx
theorem walk_zipT {K : Fg} {a b : Addr} {xs ys : List V} {n : Nat} (hn : n = min xs.length ys.length) : Walk (ItzT K a b) n (fun H => SqT K H a xs ∧ SqT K H b ys) (YPair (fun i => xs[i]?) (fun i => ys[i]?)) where
  goes := by
    rintro i H hi ⟨qa, qb⟩
    have la : i < xs.length := Nat.lt_of_lt_of_le (hn ▸ hi) (Nat.min_le_left _ _)
    have lb : i < ys.length := Nat.lt_of_lt_of_le (hn ▸ hi) (Nat.min_le_right _ _)
    exact ⟨xs, ys, _, _, qa, qb, List.getElem?_eq_getElem la, List.getElem?_eq_getElem lb⟩
  stops := by
    rintro H ⟨qa, qb⟩
    refine ⟨xs, ys, qa, qb, ?_⟩
    rcases Nat.le_total xs.length ys.length with c | c
    · exact Or.inl (by rw [hn, Nat.min_eq_left c]; exact Nat.le_refl _)
    · exact Or.inr (by rw [hn, Nat.min_eq_right c]; exact Nat.le_refl _)
  yields := by
    rintro i H v H' hi ⟨qa, qb⟩ ⟨T, u, u', ev, fresh, eH, ku, ku'⟩
    exact ⟨T, u, u', ev, fresh, eH, ku xs qa, ku' ys qb⟩
theorem zip_turn {G : Hp} {xs ys : List V} {ds es : List D} (r1 : RpA K G xs ds) (r2 : RpA K G ys es) {G2 : Hp} {m : Mem} {F H : Hp} (e : Ex G G2) (hW : Wd K G2 m F H) :
    ∀ i H' x d, (zipD ds es)[i]? = some d → YPair (fun i => xs[i]?) (fun i => ys[i]?) i H x H' → ∃ G', Ex G2 G' ∧ Wd K G' m F H' ∧ Rp K G' x d := by
  rintro i H' x d hd ⟨T, u, v, rfl, hT, rfl, hu, hv⟩
  unfold zipD at hd
  rw [List.getElem?_map] at hd
  cases hz : (ds.zip es)[i]? with
  | none => rw [hz] at hd; cases hd
  | some p =>
    rw [hz] at hd
    cases hd
    obtain ⟨h1, h2⟩ := List.getElem?_zip_eq_some.mp hz
    obtain ⟨u', hu', ru⟩ := r1.at h1
    obtain ⟨v', hv', rv⟩ := r2.at h2
    have hu : xs[i]? = some u := hu
    have hv : ys[i]? = some v := hv
    rw [hu] at hu'; cases hu'
    rw [hv] at hv'; cases hv'
    obtain ⟨e2, W2⟩ := hW.new hT (.tup [u, v])
    exact ⟨_, e2, W2, .tup (SqT.of upd_same) (.cons (ru.mono (e.trans e2)) (.cons (rv.mono (e.trans e2)) .nil))⟩
theorem zip_len {xs ys : List V} {ds es : List D} {G : Hp} (r1 : RpA K G xs ds) (r2 : RpA K G ys es) : (zipD ds es).length = min xs.length ys.length := by
  unfold zipD
  rw [List.length_map, List.length_zip, r1.len, r2.len]
theorem pi_zipD {mg : Str → Option Value} {p tpos : Pos} {elts : List Expr} {kk : Nat} (hK : ∀ i, (X i).K = K) (hX : ∀ i, (X i).mg = mg) (hm : mg "zip" = none) (ha : PDA K W X [a, b] wr) (hg : ∀ i, Gl (X i) "zip" := by intro _; rfl)
    (hs : ∀ i, starEach [a, b] (X i).env = (false, eval a (X i).env) :: starEach [b] (X i).env := by intro _; rfl) (hpl : ∀ i, (backTo pos (starEach [b] (X i).env)).any (·.1) = false := by intro _; rfl) :
    PDI K W X (.Tuple elts kk tpos) (.Call (.Name "zip" p) [a, b] [] pos) (iZipD wr) := by
  obtain ⟨t, h1, h2⟩ := ha
  refine ⟨iZipA K t, fun i => hK i ▸ pi_zipA (hg i) (by rw [hX i]; exact hm) (h1 i) (hs i) (hpl i), ?_⟩
  intro G m F H σ ρ R Qd Qx hW hE h hX hR
  refine h2 G m F H σ ρ _ _ Qx hW hE h hX ?_
  intro ds m1 vs G1 H1 q e1 W1 r1
  split at q
  · rename_i ds es
    cases r1 with
    | cons r1 t =>
      cases t with
      | cons r2 t =>
        cases t
        cases r1 with
        | lst hx rx =>
          cases r2 with
          | lst hy ry =>
            refine ⟨_, _, _, _, rfl, Or.inl ⟨SqL.of (W1.ex _ _ hx), SqL.of (W1.ex _ _ hy), hR _ _ _ _ _ q e1 W1 ?_⟩⟩
            exact ⟨_, _, walk_zip (zip_len rx ry), fun G2 m F H e W => ⟨⟨SqL.of (W.ex _ _ (e _ _ hx)), SqL.of (W.ex _ _ (e _ _ hy))⟩, zip_turn (G := G1) rx ry e W⟩⟩
  · rename_i ds es
    cases r1 with
    | cons r1 t =>
      cases t with
      | cons r2 t =>
        cases t
        cases r1 with
        | tup hx rx =>
          cases r2 with
          | tup hy ry =>
            refine ⟨_, _, _, _, rfl, Or.inr ⟨Evl.ex_t W1.ex hx, Evl.ex_t W1.ex hy, hR _ _ _ _ _ q e1 W1 ?_⟩⟩
            exact ⟨_, _, walk_zipT (zip_len rx ry), fun G2 m F H e W => ⟨⟨Evl.ex_t W.ex (Evl.ex_t e hx), Evl.ex_t W.ex (Evl.ex_t e hy)⟩, zip_turn (G := G1) rx ry e W⟩⟩
  · cases q
/-! xs.append(e), xs a box -/
def sAppend (o : WE) (wr : WA) : WS := fun E ρ m => o ρ m (fun x m1 => match x with
  | .box p => (m1 p).isSome = true ∧ wr ρ m1 (fun ds m2 => ∃ d xs, ds = [d] ∧ m2 p = some xs ∧ xs.length < sizeLine ∧ E.nx ρ (m2.up p (xs ++ [d]))) E.ex
  | _ => False) E.ex
theorem ps_appendD {o : Expr} {wo : WE} {apos cpos : Pos} (hK : ∀ i, (X i).K = K) (ho : PD K W X o wo) (ha : PDA K W X [e] wr)
    (hbase : ∀ i, attributeBase o "append" (X i).env (eval o (X i).env) = eval o (X i).env := by intro _; rfl)
    (hfew : ∀ i, ((backTo cpos (starEach [e] (X i).env)).all (fun x => !x.1) && (backToKw cpos (keywordEach [] (X i).env)).all (fun x => x.1.isSome)
      && decide ([e].length + ([] : List Keyword).length + (if ([] : List Keyword).isEmpty then 0 else 1) < 30)) = true := by intro _; rfl)
    (hline : (apos.endLine == cpos.line) = true := by rfl) (hs : ∀ i, starEach [e] (X i).env = (false, eval e (X i).env) :: starEach [] (X i).env := by intro _; rfl) (hplain : ∀ i, (backTo cpos (starEach [] (X i).env)).any (·.1) = false := by intro _; rfl)
    (hsw : ∀ i, swapsWith (.Call (.Attribute o "append" apos) [e] [] cpos) none pos.line (X i).env = pure false := by intro _; rfl) :
    PDS K W X (.Expr (.Call (.Attribute o "append" apos) [e] [] cpos) pos) (sAppend wo wr) := by
  obtain ⟨to, o1, o2⟩ := ho
  obtain ⟨ta, a1, a2⟩ := ha
  refine ⟨_, fun i => L2.ps_expr (te := tBM K "list" rAppend to ta) (by have q := pe_bm PySem.F.plainAttrs_list PySem.F.slot_list_append PySem.F.type_list_append (mt_append (X := X i)) (o1 i) (a1 i) (hbase i) (hfew i) hline (hs i) (hplain i); rw [hK i] at q; exact q) (hsw i), ?_⟩
  intro G m F H σ ρ S E hW hE h f
  refine o2 G m F H σ ρ _ _ E.ex hW hE h f.ex ?_
  intro x m1 xv G1 H1 q1 e1 W1 r1
  cases r1 <;> first | exact (show False from q1).elim | skip
  rename_i p
  obtain ⟨hp, q1⟩ := q1
  obtain ⟨ds0, hp⟩ := Option.isSome_iff_exists.mp hp
  obtain ⟨_, _, xs0, hx0, _⟩ := W1.own p ds0 hp
  refine ⟨Or.inl ⟨rfl, _, SqL.of hx0⟩, ?_⟩
  refine a2 G1 m1 F H1 σ ρ _ _ E.ex W1 (hE.mono e1) q1 (f.ex.mono e1) ?_
  rintro ds m2 vs G2 H2 ⟨d, xs, rfl, hm, hl, q2⟩ e2 W2 r2
  cases r2 with
  | cons r2 t =>
    cases t
    obtain ⟨_, _, ys, hy, ry⟩ := W2.own p xs hm
    refine ⟨p, ys, _, rfl, rfl, hy, by rw [ry.len]; exact hl, ?_⟩
    exact f.nx ρ _ σ G2 _ q2 (e1.trans e2) (W2.put hm (ry.app (.cons r2 .nil))) (hE.mono (e1.trans e2))
/-! data with its boxes looked up -/
mutual
def res (m : Mem) : D → D
  | .box a => match m a with
    | some ds => .lst ds
    | none => .box a
  | .lst ds => .lst (resA m ds)
  | .tup ds => .tup (resA m ds)
  | .dct ks ds => .dct ks (resA m ds)
  | .obj n ks ds => .obj n ks (resA m ds)
  | .non => .non | .bl b => .bl b | .int i => .int i | .str x => .str x | .ty n => .ty n | .scr ns => .scr ns
def resA (m : Mem) : List D → List D
  | [] => []
  | d :: ds => res m d :: resA m ds
end
/-- G2: what is good, the boxes of m among it -/
structure Adopt (K : Fg) (G : Hp) (m : Mem) (G2 : Hp) : Prop where
  ex : Ex G G2
  box : ∀ a ds, m a = some ds → ∃ xs, G2 a = some (.lst xs) ∧ RpA K G xs ds
mutual
theorem rp_res {G G2 : Hp} {m : Mem} (A : Adopt K G m G2) : ∀ {v : V} {d : D}, Rp K G v d → Rp K G2 v (res m d)
  | _, _, .non => by simp only [res]; exact .non
  | _, _, .bl b => by simp only [res]; exact .bl b
  | _, _, .int i => by simp only [res]; exact .int i
  | _, _, .str x => by simp only [res]; exact .str x
  | _, _, .ty n => by simp only [res]; exact .ty n
  | _, _, .scr h => by simp only [res]; exact .scr (Evl.ex_l A.ex h)
  | _, _, .lst h r => by simp only [res]; exact .lst (A.ex _ _ h) (rps_res A r)
  | _, _, .tup h r => by simp only [res]; exact .tup (Evl.ex_t A.ex h) (rps_res A r)
  | _, _, .dct h a b r => by simp only [res]; exact .dct (A.ex _ _ h) a b (rps_res A r)
  | _, _, .obj k h a b r => by simp only [res]; exact .obj k (A.ex _ _ h) a b (rps_res A r)
  | _, _, .box a => by
    unfold res
    split
    · rename_i ds hm
      obtain ⟨xs, hx, rr⟩ := A.box a ds hm
      exact .lst hx (rr.mono A.ex)
    · exact .box a
theorem rps_res {G G2 : Hp} {m : Mem} (A : Adopt K G m G2) : ∀ {vs : List V} {ds : List D}, RpA K G vs ds → RpA K G2 vs (resA m ds)
  | _, _, .nil => by simp only [resA]; exact .nil
  | _, _, .cons r t => by simp only [resA]; exact .cons (rp_res A r) (rps_res A t)
end
theorem Wd.adoptH {G F H : Hp} {m : Mem} (W : Wd K G m F H) : Adopt K G m H := ⟨W.ex, fun a ds h => by
  obtain ⟨_, _, xs, hx, rr⟩ := W.own a ds h
  exact ⟨xs, hx, rr⟩⟩
def dEqM : WR := fun x y m Q => SeqAt.shaped (py (res m x)) = true ∧ SeqAt.shaped (py (res m y)) = true ∧ Q (.bl (PyData.eqv (py (res m x)) (py (res m y)))) m
def dNeM : WR := fun x y m Q => SeqAt.shaped (py (res m x)) = true ∧ SeqAt.shaped (py (res m y)) = true ∧ Q (.bl (!PyData.eqv (py (res m x)) (py (res m y)))) m
theorem c_eqM {P : Program} {wo : World} {mg : Str → Option Value} {base : Heap} {k : Nat} {N : List Str} (hX : Fam P wo K mg base k N X) : CmpU K X .Eq dEqM := by
  refine ⟨rEqD K, fun i => hX.K i ▸ op_eqD (by have := (hX.room i).un; omega), ?_⟩
  rintro G m F H x y dx dy Q Qd hW rx ry ⟨h1, h2, q⟩ hQ
  exact ⟨_, _, dp_of (Ex.refl H) _ (rp_res hW.adoptH rx) (shaped_lay h1), dp_of (Ex.refl H) _ (rp_res hW.adoptH ry) (shaped_lay h2), h1, h2, hQ.here hW q (.bl _)⟩
theorem c_neM {P : Program} {wo : World} {mg : Str → Option Value} {base : Heap} {k : Nat} {N : List Str} (hX : Fam P wo K mg base k N X) : CmpU K X .NotEq dNeM := by
  refine ⟨rNeD K, fun i => hX.K i ▸ op_neD (by have := (hX.room i).un; omega), ?_⟩
  rintro G m F H x y dx dy Q Qd hW rx ry ⟨h1, h2, q⟩ hQ
  exact ⟨_, _, dp_of (Ex.refl H) _ (rp_res hW.adoptH rx) (shaped_lay h1), dp_of (Ex.refl H) _ (rp_res hW.adoptH ry) (shaped_lay h2), h1, h2, hQ.here hW q (.bl _)⟩
/-! calls that borrow the boxes: what comes back is flat -/
theorem rp_flat {G G2 : Hp} {v : V} {d : D} (h : flatD d = true) (r : Rp K G v d) : Rp K G2 v d := by
  cases r <;> first | exact .non | exact .bl _ | exact .int _ | exact .str _ | exact nomatch h
/-- G with the boxes of m -/
def withBoxes (m : Mem) (G H : Hp) : Hp := fun a => if (m a).isSome = true then H a else G a
/-- G without the boxes of m -/
def noBoxes (m : Mem) (G : Hp) : Hp := fun a => if (m a).isSome = true then none else G a
theorem Wd.lend {G F H : Hp} {m : Mem} (W : Wd K G m F H) : Adopt K G m (withBoxes m G H) ∧ Wd K (withBoxes m G H) (fun _ => none) F H := by
  have ex : Ex G (withBoxes m G H) := by
    intro a o h
    unfold withBoxes
    by_cases c : (m a).isSome = true
    · obtain ⟨ds, hm⟩ := Option.isSome_iff_exists.mp c
      rw [(W.own a ds hm).1] at h; cases h
    · rw [if_neg c]; exact h
  refine ⟨⟨ex, fun a ds h => ?_⟩, ⟨?_, fun _ _ z => (nomatch z), W.fr, ?_⟩⟩
  · obtain ⟨_, _, xs, hx, rr⟩ := W.own a ds h
    exact ⟨xs, by unfold withBoxes; rw [if_pos (by rw [h]; rfl)]; exact hx, rr⟩
  · intro a o h
    unfold withBoxes at h
    by_cases c : (m a).isSome = true
    · rw [if_pos c] at h; exact h
    · rw [if_neg c] at h; exact W.ex _ _ h
  · intro a o h
    unfold withBoxes
    by_cases c : (m a).isSome = true
    · obtain ⟨ds, hm⟩ := Option.isSome_iff_exists.mp c
      rw [(W.own a ds hm).2.1] at h; cases h
    · rw [if_neg c]; exact W.frG _ _ h
theorem Wd.back {G F H G2 H2 : Hp} {m m2 : Mem} (W : Wd K G m F H) (e : Ex (withBoxes m G H) G2) (W2 : Wd K G2 m2 F H2) : Ex G (noBoxes m G2) ∧ Wd K (noBoxes m G2) m F H2 := by
  have ex : Ex G (noBoxes m G2) := by
    intro a o h
    unfold noBoxes
    by_cases c : (m a).isSome = true
    · obtain ⟨ds, hm⟩ := Option.isSome_iff_exists.mp c
      rw [(W.own a ds hm).1] at h; cases h
    · rw [if_neg c]
      exact e _ _ (W.lend.1.ex _ _ h)
  refine ⟨ex, ⟨?_, ?_, W2.fr, ?_⟩⟩
  · intro a o h
    unfold noBoxes at h
    by_cases c : (m a).isSome = true
    · rw [if_pos c] at h; cases h
    · rw [if_neg c] at h; exact W2.ex _ _ h
  · intro a ds h
    obtain ⟨_, hF, xs, hx, rr⟩ := W.own a ds h
    refine ⟨by unfold noBoxes; rw [if_pos (by rw [h]; rfl)], hF, xs, W2.ex _ _ (e _ _ ?_), rr.mono ex⟩
    unfold withBoxes; rw [if_pos (by rw [h]; rfl)]; exact hx
  · intro a o h
    unfold noBoxes
    by_cases c : (m a).isSome = true
    · rw [if_pos c]
    · rw [if_neg c]; exact W2.frG _ _ h
theorem Wd.backX {G F H G2 : Hp} {m : Mem} {x : Xn} {d : Option Addr} (W : Wd K G m F H) (e : Ex (withBoxes m G H) G2) (hf : flatD x.val = true) (r : Xr K G2 x d) : Xr K (noBoxes m G2) x d := by
  obtain ⟨dd, v, h1, h2, h3⟩ := r
  refine ⟨dd, v, h1, ?_, rp_flat hf h3⟩
  unfold noBoxes
  by_cases c : (m dd).isSome = true
  · obtain ⟨ds, hm⟩ := Option.isSome_iff_exists.mp c
    obtain ⟨_, _, xs, hx, _⟩ := W.own dd ds hm
    have : G2 dd = some (.lst xs) := e _ _ (by unfold withBoxes; rw [if_pos c]; exact hx)
    rw [this] at h2; cases h2
  · rw [if_neg c]; exact h2
/-- a promise, the boxes lent or not -/
def lent (fn : DFn) : DFn := fun ds m Q Qx => fn ds m Q Qx ∨ fn (resA m ds) (fun _ => none) (fun d _ => flatD d = true ∧ Q d m) (fun x _ => flatD x.val = true ∧ Qx x m)
theorem spD_lent {mg : Str → Option Value} {fn : DFn} {vs : List V} {H : Hp} {Q : VK} {E : XK} (h : spD K mg (lent fn) vs H Q E) : spD K mg fn vs H Q E := by
  obtain ⟨G, m, F, ds, Qd, Qx, W, r, h, hQ, hX⟩ := h
  rcases h with h | h
  · exact ⟨G, m, F, ds, Qd, Qx, W, r, h, hQ, hX⟩
  · obtain ⟨A, W1⟩ := W.lend
    refine ⟨_, _, F, _, _, _, W1, rps_res A r, h, ?_, ?_⟩
    · rintro d m' v G' H' ⟨hf, q⟩ e W' rv
      obtain ⟨e2, W2⟩ := W.back e W'
      exact hQ d m v _ H' q e2 W2 (rp_flat hf rv)
    · rintro x m' cls d G' H' ⟨hf, q⟩ hm e W' rx
      obtain ⟨e2, W2⟩ := W.back e W'
      exact hX x m cls d _ H' q hm e2 W2 (W.backX e hf rx)
theorem FnG.lent {P : Program} {w : World} {mg : Str → Option Value} {base : Heap} {CX : CXT} {k : Nat} {f : Addr} {fd : FuncData} {ps : List Str} {fn : DFn} (Fn : FnG P w K mg base CX k f fd ps (spD K mg fn)) : FnG P w K mg base CX k f fd ps (spD K mg (lent fn)) :=
  ⟨fun vs H Q E h => Fn.size vs H Q E (spD_lent h), fun A oe s H ar us vs Q E hg hr e0 hb r h => Fn.runs A oe s H ar us vs Q E hg hr e0 hb r (spD_lent h)⟩
theorem Has.lent {P : Program} {w : World} {mg : Str → Option Value} {base : Heap} {j : Nat} {x : Str} {ps : List Str} {fn : DFn} (h : Has P w K mg base j x ps fn) : Has P w K mg base j x ps (DL.lent fn) := by
  obtain ⟨f, fd, Fn, r⟩ := h
  exact ⟨f, fd, Fn.lent, r⟩
theorem HasX.lent {P : Program} {w : World} {mg : Str → Option Value} {base : Heap} {j : Nat} {x : Str} {ps : List Str} {fn : DFn} (h : HasX P w K mg base j x ps fn) : HasX P w K mg base j x ps (DL.lent fn) := by
  obtain ⟨f, fd, Fn, r⟩ := h
  exact ⟨f, fd, Fn.lent, r⟩
end
end DL
/-! XG: the facts of an exception class, one by one -/
namespace DL
open PySem L2 XO PySem.HandSPX PySem.Calls PyProof.Rows
theorem exm_self {K : Fg} {S : Addr} (h1 : PySem.W.subIn K (.ref S) (.type "BaseException") = some true) (h2 : PySem.W.isClsIn K S = true) (h3 : PySem.W.typeIn K (.ref S) = some (.type "type")) (h4 : PySem.W.subIn K (.ref S) (.ref S) = some true) : PySem.W.exmOne K (.ref S) (.ref S) = some true := by
  unfold PySem.W.exmOne PySem.W.kitCls
  rw [if_pos (by rw [h1]; rfl)]
  show (if ((PySem.W.clsIn K S).isSome && PySem.W.typeIn K (.ref S) == some (.type "type")) = true then PySem.W.subIn K (.ref S) (.ref S) else none) = some true
  rw [if_pos (by rw [show (PySem.W.clsIn K S).isSome = true from h2, h3]; rfl)]
  exact h4
theorem xc_mk {P : Program} {K : Fg} {mg : Str → Option Value} {h : Heap} (X : K.In h) (G : h.Ns mainGlobals mg) {n fld : Str} {B newId initId : String} {bmB : List Value} (D : Base B newId initId bmB) (bind : BindOk fld)
  (names : (fld == ("self" : Str)) = false ∧ (fld == ("__debug__" : Str)) = false ∧ (("self" : Str) == fld) = false ∧ (("super" : Str) == fld) = false ∧ (("__class__" : Str) == fld) = false)
  {C fI : Addr} (a1 : PySem.W.nsIn K mainGlobals n = some (some (.ref C))) (a2 : PySem.W.findIn K (.ref C) "__init__" = some (some (.ref fI)))
  {nm q : Str} {N : Addr} {bs bm : List Value} {sn : List Str} {sub : List Value} {ab : Bool} {col : Option Bool} {dd : Option Addr} {k0 k1 k2 k3 k5 : Option Value}
  (b1 : K.lookup C = some (excClassObj nm q C N bs bm true sn sub ab col dd k0 k1 k2 k3 k5 newId)) (b2 : PySem.W.excTail bmB bm = true)
  (b3 : PySem.W.findIn K (.ref C) "__setattr__" = some (some (.builtin "object.__setattr__"))) (b4 : PySem.W.findIn K (.ref C) "__getattribute__" = some (some (.builtin "BaseException.__getattribute__"))) (b5 : PySem.W.findIn K (.ref C) "__getattr__" = some none) (b6 : PySem.W.findIn K (.ref C) fld = some none)
  (b7 : PySem.W.typeIn K (.ref fI) = some (.type "function")) (b8 : PySem.W.keepIn K (.ref C) = true) (b9 : PySem.W.subIn K (.ref C) (.type "BaseException") = some true) (c1 : PySem.W.typeIn K (.ref C) = some (.type "type")) (c2 : PySem.W.hasDictIn K C = true)
  (c3 : PySem.W.subIn K (.ref C) (.type B) = some true) (c4 : PySem.W.mroIn K C (.ref C) = some true) (c5 : PySem.W.nsIn K cStatics "thirdparty.any" = some none) (c6 : PySem.W.ks_superIn K C C "__init__" = some (some (.builtin initId)))
  (c7 : PySem.W.isClsIn K C = true) (c8 : PySem.W.subIn K (.ref C) (.ref C) = some true)
  {oc : Value} {od : Option Addr} {qual : Str} {doc pm : Value} {an : Option Addr} {cda cc : Addr} {ct : Value} {osl : Array (Option Value)} {msg : Str} {j : Nat} {p1 p2 d1 d2 d3 d4 d5 d6 q1 q2 q3 q4 : Pos}
  (e1 : K.lookup fI = some ⟨oc, od, .func (PySem.W.ksFn "__init__" qual (iA fld p1 p2) (iB fld msg j d1 d2 d3 d4 d5 d6 q1 q2 q3 q4) (iS fld) .none .none doc pm an (.ref cda) ct cc), osl⟩) (e2 : PySem.W.codeIn K (.ref cda) qual = true)
  {cl : Value} {cld : Option Addr} {csl : Array (Option Value)} (e3 : K.lookup cc = some ⟨cl, cld, .cell (some (.ref C)), csl⟩) {ccl : Value} {cdd : Option Addr} {vs : Array Value} {ccs : Array (Option Value)} {file : Str} {tf : Tok} (e4 : K.lookup cda = some ⟨ccl, cdd, .fields vs, ccs⟩) (e5 : vs[2]? = some (.str file tf)) (e6 : (P.main.file == file) = true) (e7 : (d3.endLine == d5.line) = true) :
  XC P K mg n fld :=
  ⟨C, fI, B, newId, initId, bmB, D, { cls := ⟨_, _, _, _, _, _, _, _, _, _, _, _, _, _, _, b1, b2⟩, sa := b3, ga := b4, gg := b5, noN := b6, iC := a2, tC := b7, kC := b8, exC := b9, tyC := c1, hdC := c2, subB := c3, mroC := c4, statics := c5, along := c6, fn := ⟨_, _, _, _, _, _, _, _, _, _, _, _, _, _, _, _, _, _, _, _, _, _, _, _, e1, e2, ⟨_, _, _, e3⟩, _, _, _, _, _, _, e4, e5, e6, e7⟩, bind := bind, names := names }, PySem.W.mg_of X G a1, exm_self b9 c7 c1 c8⟩
theorem nox_takes {ι : Type} {Y : ι → Cx} {mg : Str → Option Value} : ∀ i, Takes (Y i) (toWX mg fun _ _ _ _ => False) := by
  rintro i u s' ⟨a, B, sI, pins, σ, H, cls, d, e, I, nb, up, sky, na, os, ag, n, hm, q⟩
  exact q.elim
/-! f() -/
def wCall0 (fn : DFn) : WE := fun ρ m Q Qx => fn [] m Q (fun _ _ => False)
theorem pd_own_call0 {P : Program} {w : World} {K : Fg} {mg : Str → Option Value} {base : Heap} {k : Nat} {N : List Str} {W : Wx} {ι : Type} {X : ι → Cx} {pos : Pos} {fn : DFn} {j : Nat} {x : Str} {p : Pos} (hX : FamG P w K mg base k N X) (h : Has P w K mg base j x [] fn) (hj : j ≤ k := by decide) (hg : ∀ i, Gl (X i) x := by intro _; rfl) (hd : (x == ("__debug__" : Str)) = false := by decide) :
    PD K W X (.Call (.Name x p) [] [] pos) (wCall0 fn) := by
  obtain ⟨f, fd, Fn, hm, hk, hb⟩ := h
  refine ⟨fun σ H Q => spD K mg fn ([] ++ []) H Q E0, fun i => ⟨fun pins s σ H Q I h => ?_⟩, ?_⟩
  · have hmi : (X i).mg x = some (.ref f) := by rw [hX.mg i]; exact hm
    have Fi : FnG (X i).prog (X i).w (X i).K (X i).mg (X i).base CX0 j f fd [] (spD K mg fn) := by rw [hX.prog i, hX.w i, hX.K i, hX.mg i, hX.base i]; exact Fn
    refine wpAny_Call_Name_kw (ld_glob I (hg i) hmi ?_ hd)
    refine PySem.W.callWith_K0 (I.kIn) (by rw [hX.K i]; exact hk) ?_
    exact Fi.goes (hX.guards i) ((hX.room i).mono hj) (by rw [hX.K i]; exact hb) .nil pass0 I .nil h
  · intro G m F H σ ρ Q Qd Qx hW hE h hXx hQ
    exact ⟨G, m, F, [], Qd, fun _ _ => False, hW, .nil, h, hQ, fun _ _ _ _ _ _ z => z.elim⟩
end DL
/-! XI: objects as data: attributes, properties, methods, isinstance -/
namespace DL
open PySem L2 XO
open Evl (Ex)
/-- the class n of the text -/
structure Kl (K : Fg) (mg : Str → Option Value) (n : Str) (C : Addr) : Prop where
  own : PySem.W.nsIn K mainGlobals n = some (some (.ref C))
  mg : mg n = some (.ref C)
  cls : Cls K C
theorem rp_lookup {K : Fg} {G : Hp} {f : Str} {d : D} : ∀ {fs : List (Str × V)} {ds : List D}, RpA K G (fs.map (·.2)) ds → ((fs.map (·.1)).zip ds).lookup f = some d → ∃ v, fs.lookup f = some v ∧ Rp K G v d
  | [], _, r, h => by
    cases r
    cases h
  | (k, v) :: fs, _, r, h => by
    cases r with
    | cons r t =>
      rename_i d0 ds0
      have h : List.lookup f ((k, d0) :: ((fs.map (·.1)).zip ds0)) = some d := h
      rw [List.lookup_cons] at h ⊢
      cases e : (f == k) with
      | true =>
        rw [e] at h
        cases h
        exact ⟨v, rfl, r⟩
      | false =>
        rw [e] at h
        exact rp_lookup t h
section
variable {P : Program} {w : World} {K : Fg} {mg : Str → Option Value} {base : Heap} {k : Nat} {N : List Str} {W : Wx} {ι : Type} {X : ι → Cx} {pos : Pos} {a b c e : Expr} {es : List Expr} {wa wb wc we : WE} {wr : WA} {sts : List Stmt} {t : WS} {ua : WT}
/-! e.f -/
def wFld (n f : Str) (we : WE) : WE := fun ρ m Q Qx => we ρ m (fun x m1 => match x with
  | .obj n' ks ds => n' = n ∧ ∃ d, (ks.zip ds).lookup f = some d ∧ Q d m1
  | _ => False) Qx
theorem pd_fld {n f : Str} {C : Addr} (hK : ∀ i, (X i).K = K) (c : Kl K mg n C) (nf : NoAttr K C f) (he : PD K W X e we) (hb : ∀ i, attributeBase e f (X i).env (eval e (X i).env) = eval e (X i).env := by intro _; rfl) : PD K W X (.Attribute e f pos) (wFld n f we) := by
  obtain ⟨te, h1, h2⟩ := he
  refine ⟨tFld K te f, fun i => by have q := pe_fld (pos := pos) (h1 i) (hb i); rw [hK i] at q; exact q, ?_⟩
  intro G m F H σ ρ Q Qd Qx hW hE h hX hQ
  refine h2 G m F H σ ρ _ _ Qx hW hE h hX ?_
  intro x m1 v G1 H1 q e1 W1 r1
  cases r1 <;> first | exact (show False from q).elim | skip
  rename_i a0 C0 dx fs n' ks vs ds hn hg hk hv rr
  obtain ⟨rfl, d, hl, q⟩ := q
  rw [c.own] at hn
  cases hn
  subst hk hv
  obtain ⟨v, l, rv⟩ := rp_lookup rr hl
  exact ⟨a0, C, dx, fs, v, rfl, W1.ex _ _ hg, c.cls, nf, l, hQ d m1 v G1 H1 q e1 W1 rv⟩
/-- a property whose getter tells the attribute f -/
structure PropAt (K : Fg) (C : Addr) (p f : Str) : Prop where
  ex : ∃ (pa g : Addr) (fd : FuncData), PropOf K C p pa g ∧ Binds K fd ["self"] [] ∧ ∀ (P : Program) (w : World) (mg : Str → Option Value) (base : Heap), FnOk P w K mg base CX0 1 g fd ["self"] (getSp C f)
theorem pd_prop {n p f : Str} {C : Addr} (hX : FamG P w K mg base k N X) (c : Kl K mg n C) (pr : PropAt K C p f) (he : PD K W X e we) (hk : 2 ≤ k := by decide) (hb : ∀ i, attributeBase e p (X i).env (eval e (X i).env) = eval e (X i).env := by intro _; rfl) : PD K W X (.Attribute e p pos) (wFld n f we) := by
  obtain ⟨te, h1, h2⟩ := he
  obtain ⟨pa, g, fd, hp, bi, fo⟩ := pr.ex
  refine ⟨tProp C (getSp C f) [] E0 te, fun i => pe_prop (h1 i) (by rw [hX.K i]; exact c.cls) (by rw [hX.K i]; exact hp) (fo _ _ _ _ |> fun z => by rw [hX.K i]; exact z) ((hX.room i).mono hk) (by rw [hX.K i]; exact bi) .nil pass0 (hb i), ?_⟩
  intro G m F H σ ρ Q Qd Qx hW hE h hX hQ
  refine h2 G m F H σ ρ _ _ Qx hW hE h hX ?_
  intro x m1 v G1 H1 q e1 W1 r1
  cases r1 <;> first | exact (show False from q).elim | skip
  rename_i a0 C0 dx fs n' ks vs ds hn hg hk hv rr
  obtain ⟨rfl, d, hl, q⟩ := q
  rw [c.own] at hn
  cases hn
  subst hk hv
  obtain ⟨v, l, rv⟩ := rp_lookup rr hl
  exact ⟨a0, dx, fs, rfl, W1.ex _ _ hg, a0, dx, fs, v, rfl, W1.ex _ _ hg, l, hQ d m1 v G1 H1 q e1 W1 rv⟩
/-! o.m(e, ..) -/
variable {f : Addr} {fd : FuncData} {ps : List Str}
theorem FnG.goesD {X : Cx} {sp : Sp} {E : XK} {pins : List (Addr × Obj)} {σ : L2.St} {H : Hp} {s : Shared} {Q : VK} {us dus : List Value} {vs dvs : List V} {k : Nat} (Fn : FnG X.prog X.w X.K X.mg X.base (L2.CX X.prog X.w) k f fd ps sp)
    (hg : X.A.guards = some []) (hr : Room k X.A) (hb : Binds X.K fd ps dus) (hd : Vals dvs dus) (hx : PassesAt (L2.CX X.prog X.w) X σ E) (I : Inv X pins σ H s) (r : Vals vs us) (h : sp (vs ++ dvs) H Q E) :
    wpAny (model X.prog X.w) X.A (call (.ref f) us) (EP X pins σ Q) X.xe s := by
  have r2 : Vals (vs ++ dvs) (us ++ dus) := r.append hd
  have hlen : (us ++ dus).length = ps.length := r2.length.symm.trans (Fn.size _ _ _ _ h)
  have goal := Fn.runs X.A X.stack s H ⟨us, []⟩ (us ++ dus) (vs ++ dvs) Q E hg hr I.env0 (hb s us I.kIn hlen) r2 h
  refine wpAny_call (codeAny_mono goal ?_)
  rintro (e | fl) s' hq
  · exact hx pins H s e s' I hq
  · cases fl <;> first | exact I.after hq | exact (hq : False).elim
/-- the method m of the class n keeps the promise fn; dds: its defaults from the end on -/
def HasM (P : Program) (w : World) (K : Fg) (mg : Str → Option Value) (base : Heap) (j : Nat) (n m : Str) (ps : List Str) (dds : List D) (fn : DFn) : Prop :=
  ∃ C f fd dvs dus, Kl K mg n C ∧ Meth K C m f ∧ FnG P w K mg base (L2.CX P w) j f fd ps (spD K mg fn) ∧ Binds K fd ps dus ∧ Vals dvs dus ∧ ∀ G, RpA K G dvs dds
def wMeth (n m : Str) (dds : List D) (fn : DFn) (wo : WE) (wr : WA) : WE := fun ρ mm Q Qx => wo ρ mm (fun x m1 => match x with
  | .obj n' ks ds => n' = n ∧ (ks.zip ds).lookup m = none ∧ ks.length = ds.length ∧ wr ρ m1 (fun as m2 => fn (.obj n' ks ds :: (as ++ dds)) m2 Q Qx) Qx
  | _ => False) Qx
theorem rp_nolookup {G : Hp} {f : Str} : ∀ {fs : List (Str × V)} {ds : List D}, (fs.map (·.1)).length = ds.length → ((fs.map (·.1)).zip ds).lookup f = none → fs.lookup f = none
  | [], _, _, _ => rfl
  | (k, v) :: fs, [], h, _ => by cases h
  | (k, v) :: fs, d :: ds, hl, h => by
    have h : List.lookup f ((k, d) :: ((fs.map (·.1)).zip ds)) = none := h
    rw [List.lookup_cons] at h ⊢
    cases e : (f == k) with
    | true => rw [e] at h; cases h
    | false =>
      rw [e] at h
      exact rp_nolookup (G := G) (by simpa using hl) h
theorem pd_meth {n m : Str} {dds : List D} {fn : DFn} {j : Nat} {o : Expr} {wo : WE} {apos : Pos} {pl : ι → Sem Bool} (hX : FamG P w K mg base k N X) (tk : ∀ i, Takes (X i) (toWX mg W)) (hh : HasM P w K mg base j n m ps dds fn) (ho : PD K W X o wo) (ha : PDA K W X (e :: es) wr) (hj : j ≤ k := by decide)
    (hst : ∀ i, starEach (e :: es) (X i).env = (false, eval e (X i).env) :: starEach es (X i).env := by intro _; rfl) (hpl : ∀ i, (backTo pos (starEach es (X i).env)).any (·.1) = false := by intro _; rfl)
    (ht : ∀ i, eval (.Call (.Attribute o m apos) (e :: es) [] pos) (X i).env = (do
      let ov ← eval o (X i).env
      standAt apos.atName
      let (f, first) ← holding [ov] (getMethod ov m (pl i))
      callWith pos f first (backTo pos (starEach (e :: es) (X i).env)) (backToKw pos (keywordEach [] (X i).env))) := by intro _; rfl) :
    PD K W X (.Call (.Attribute o m apos) (e :: es) [] pos) (wMeth n m dds fn wo wr) := by
  obtain ⟨C, f, fd, dvs, dus, c, hm, Fn, hb, hd, hdd⟩ := hh
  obtain ⟨to, o1, o2⟩ := ho
  obtain ⟨ta, a1, a2⟩ := ha
  refine ⟨fun σ H Q => to σ H fun x H1 => ∃ a dx fs, x = .ref a ∧ H1 a = some (.ins C dx fs) ∧ fs.lookup m = none ∧ ta σ H1 fun vs H2 => spD K mg fn ((.ref a :: vs) ++ dvs) H2 Q (fun cls d H' => toWX mg W cls d σ H'), fun i => ⟨fun pins s σ H Q I h => ?_⟩, ?_⟩
  · have Fi : FnG (X i).prog (X i).w (X i).K (X i).mg (X i).base (L2.CX (X i).prog (X i).w) j f fd ps (spD K mg fn) := by rw [hX.prog i, hX.w i, hX.K i, hX.mg i, hX.base i]; exact Fn
    have ci : Cls (X i).K C := by rw [hX.K i]; exact c.cls
    have mi : Meth (X i).K C m f := by rw [hX.K i]; exact hm
    refine PySem.W.methodCall_KW (pl := pl i) (thn ((o1 i).run pins s σ H _ I h) fun u s1 ⟨x, H1, I1, rx, a, dx, fs, ex, ea, l, q⟩ => ?_) (ht i)
    subst ex
    obtain rfl : u = Value.ref a := rx
    refine getmeth_ok I1 ea ci mi l ?_
    refine PySem.W.callWith_K (first := [.ref a]) (h₀ := (X i).base) I.ok.mod.kin mi.kp (thn ((a1 i).run pos pins s1 σ H1 _ I1 q) fun us s2 ⟨vs, H2, I2, r, q2⟩ => ⟨I2.kIn, ?_⟩) (hst i) (hpl i)
    exact Fi.goesD (us := .ref a :: us) (vs := .ref a :: vs) (hX.guards i) ((hX.room i).mono hj) (by rw [hX.K i]; exact hb) hd (passAt (tk i) σ) I2 (.cons rfl r) q2
  · intro G m0 F H σ ρ Q Qd Qx hW hE h hXx hQ
    refine o2 G m0 F H σ ρ _ _ Qx hW hE h hXx ?_
    intro x m1 v G1 H1 q e1 W1 r1
    have r1' := r1
    cases r1 <;> first | exact (show False from q).elim | skip
    rename_i a0 C0 dx fs n' ks vs ds hn hg hk hv rr
    obtain ⟨rfl, hl, hlen, q⟩ := q
    rw [c.own] at hn
    cases hn
    subst hk hv
    refine ⟨a0, dx, fs, rfl, W1.ex _ _ hg, rp_nolookup (G := G) hlen hl, ?_⟩
    refine a2 G1 m1 F H1 σ ρ _ _ Qx W1 (hE.mono e1) q (hXx.mono e1) ?_
    intro as m2 vs2 G2 H2 q2 e2 W2 r2
    refine ⟨G2, m2, F, _, Qd, Qx, W2, (RpA.cons (r1'.mono e2) r2).app (hdd G2), q2, ?_, ?_⟩
    · intro d m' v G' H' z e
      exact hQ d m' v G' H' z ((e1.trans e2).trans e)
    · intro x m' cls d G' H' z hmx e W' r
      exact ⟨x.cls, hmx, hXx x m' d σ G' H' z ((e1.trans e2).trans e) W' r⟩
/-! isinstance(e, n), n a class of the text -/
structure KlI (K : Fg) (mg : Str → Option Value) (n : Str) (C : Addr) : Prop extends Kl K mg n C where
  met : PySem.W.findIn K (.ref C) "__class__" = some (some (.builtin "object.__class__")) ∧ PySem.W.specialIn K (.builtin "object.__class__") "__get__" = some (some (.builtin "getset_descriptor.__get__")) ∧ PySem.W.takesIn K (.builtin "object.__class__") = some true ∧ PySem.W.mroIn K C (.type "object") = some true
  no : ∀ t : String, t = "NoneType" ∨ t = "bool" ∨ t = "int" ∨ t = "str" ∨ t = "list" ∨ t = "tuple" ∨ t = "dict" → PySem.W.kitOne K (.type t) (.ref C) = some false
def wIsC (n : Str) (we : WE) : WE := fun ρ m Q Qx => we ρ m (fun x m1 => match x with
  | .obj n' _ _ => n' = n ∧ Q (.bl true) m1
  | x => typedM m1 x = true ∧ Q (.bl false) m1) Qx
theorem ty_names {m : Mem} {x : D} (h : typedM m x = true) : tyD x = "NoneType" ∨ tyD x = "bool" ∨ tyD x = "int" ∨ tyD x = "str" ∨ tyD x = "list" ∨ tyD x = "tuple" ∨ tyD x = "dict" := by
  cases x <;> first | (cases h; done) | (simp only [tyD]; decide)
theorem tyM_has {G F H : Hp} {m : Mem} {v : V} {d : D} (hW : Wd K G m F H) (r : Rp K G v d) (ht : typedM m d = true) : TyX K H v (.type (tyD d)) := by
  cases d with
  | box a =>
    cases r
    obtain ⟨ds, hm⟩ := Option.isSome_iff_exists.mp ht
    obtain ⟨_, _, xs, hx, _⟩ := hW.own a ds hm
    exact .base (.lst hx)
  | _ => exact ty_of hW.ex r (by exact ht)
theorem kit_same {C : Addr} : PySem.W.kitOne K (.ref C) (.ref C) = some true := by
  unfold PySem.W.kitOne
  exact if_pos (by simp)
theorem pd_isiC {n : Str} {C : Addr} {p p2 : Pos} (hK : ∀ i, (X i).K = K) (hX : ∀ i, (X i).mg = mg) (hm : mg "isinstance" = none) (hi : bootBuiltins "isinstance" = some (.builtin "isinstance")) (c : KlI K mg n C) (he : PD K W X e we) (hg : ∀ i, Gl (X i) "isinstance" := by intro _; rfl) (g1 : ∀ i, Gl (X i) n := by intro _; rfl) (hd : (n == ("__debug__" : Str)) = false := by decide)
    (hs : ∀ i, starEach [e, .Name n p2] (X i).env = (false, eval e (X i).env) :: starEach [.Name n p2] (X i).env := by intro _; rfl) (hpl : ∀ i, (backTo pos (starEach [.Name n p2] (X i).env)).any (·.1) = false := by intro _; rfl) :
    PD K W X (.Call (.Name "isinstance" p) [e, .Name n p2] [] pos) (wIsC n we) := by
  obtain ⟨t, h1, h2⟩ := he
  refine ⟨tCB (rIsi K) (tCons t (tCons (tC (.ref C)) tNil)), fun i => pe_callB (by have q := call_isi (X := X i); rw [hK i] at q; exact q) (hg i) (by rw [hX i]; exact hm) hi
    (L2.pa_cons (h1 i) (L2.pa_cons (pe_glob (v := V.ref C) (g1 i) (by rw [hX i]; exact c.mg) rfl hd) L2.pa_nil) (hs i)) (by decide) (by decide) (hs i) (hpl i), ?_⟩
  intro G m F H σ ρ Q Qd Qx hW hE h hX hQ
  refine h2 G m F H σ ρ _ _ Qx hW hE h hX ?_
  intro d m1 x G1 H1 q e1 W1 r1
  have other : typedM m1 d = true → Qd (.bl false) m1 → rIsi K [x, .ref C] H1 Q := fun ht q =>
    ⟨x, .ref C, _, .ref C, false, rfl, .own C, tyM_has W1 r1 ht, c.no _ (ty_names ht), hQ _ _ _ _ _ q e1 W1 (.bl false)⟩
  cases d with
  | obj n' ks ds =>
    obtain ⟨rfl, q⟩ := q
    cases r1 with
    | obj hn hg hk hv rr =>
      rw [c.own] at hn
      cases hn
      exact ⟨_, .ref C, _, .ref C, true, rfl, .own C, .base (.ins (W1.ex _ _ hg) c.cls c.met.1 c.met.2.1 c.met.2.2.1 c.met.2.2.2), kit_same, hQ _ _ _ _ _ q e1 W1 (.bl true)⟩
  | _ => exact other q.1 q.2
end
end DL
/-! XJ: objects made: __init__, C(e, k = e, ..) -/
namespace DL
open PySem L2 XO
open Evl (Ex)
section
variable {P : Program} {w : World} {K : Fg} {mg : Str → Option Value} {base : Heap} {k : Nat} {N : List Str} {W : Wx} {ι : Type} {X : ι → Cx} {f : Addr} {fd : FuncData} {ps : List Str} {pos : Pos}
/-- a def or method, defaults or not -/
structure FunV (K : Fg) (x qual : Str) (st : Stmt) (f : Addr) (fd : FuncData) : Prop where
  ex : ∃ (oc : Value) (od : Option Addr) (dV kV doc pm : Value) (an : Option Addr) (cdv ct : Value) (osl : Array (Option Value)),
    fd = PySem.W.fnOf x qual (defArgs st) (defBody st) (defScope st) dV kV doc pm an cdv ct ∧ K.lookup f = some ⟨oc, od, .func fd, osl⟩ ∧ PySem.W.codeIn K cdv qual = true
theorem Fun.toV {x qual : Str} {st : Stmt} {f : Addr} {fd : FuncData} (h : Fun K x qual st f fd) : FunV K x qual st f fd := by
  obtain ⟨oc, od, kV, doc, pm, an, cdv, ct, osl, e1, e2, e3⟩ := h.ex
  exact ⟨oc, od, .none, kV, doc, pm, an, cdv, ct, osl, e1, e2, e3⟩
/-- a def of any promise: its body's reading -/
theorem fn_coreV {x qual : Str} {st : Stmt} {sp : Sp} (Fu : FunV K x qual st f fd) (S : FnScope N ps (defScope st)) (size : ∀ vs H Q E, sp vs H Q E → vs.length = ps.length)
    (hb : ∀ (cdv : Value) (A : Around) (oe : List Env) (s : Shared) (H : Hp) (E : XK), FamG P w K mg base k N (fun _ : Unit => cxOf (L2.CX P w) P w K mg base N qual (defScope st) f cdv A oe s H E) →
      (∀ i, Takes ((fun _ : Unit => cxOf (L2.CX P w) P w K mg base N qual (defScope st) f cdv A oe s H E) i) (toWX mg (byName mg fun cls d _ H => E cls d H))) →
      ∃ t : TS, PSs (cxOf (L2.CX P w) P w K mg base N qual (defScope st) f cdv A oe s H E) (defBody st) t ∧ ∀ vs Q, sp vs H Q E → t { nx := fun _ H' => Q .non H', rt := Q } (start N vs) H) :
    FnG P w K mg base (L2.CX P w) (k + 1) f fd ps sp := by
  obtain ⟨oc, od, dV, kV, doc, pm, an, cdv, ct, osl, rfl, lk, hcd⟩ := Fu.ex
  refine ⟨size, ?_⟩
  intro A oe s H ar us vs Q E hgd hrm e0 hbind r hsp
  have hl := size _ _ _ _ hsp
  have old : ∀ b o, base.get? b = some o → s.heap.get? b = some o := fun b o e => (e0.bs b o e).1
  have KX : K.In s.heap := e0.mod.kin.keeps old
  have lim : s.heap.NoLimit := e0.mod.nolimit.keeps old
  have kinds : ∀ y ∈ ps.zip us, (defScope st).names.lookup y.1 = some .local ∨ ((defScope st).names.lookup y.1 = some .cell ∧ ((cellsFrom (s.heap.objs.size + 1) (defScope st).names []).lookup y.1).isSome = true) := by
    rintro ⟨n, v⟩ hy
    rcases S.par n (List.of_mem_zip hy).1 with q | q
    · exact Or.inl q
    · exact Or.inr ⟨q, PySem.W.cellsFrom_some _ _ _ (Or.inl q)⟩
  refine codeAny_call_function hrm.depth (KX _ _ lk) rfl S.co S.gen rfl (PySem.W.codeRec_of KX hcd) (hbind _ _ _ _ ?_)
  refine wpAny_newFunctionEnv_cells S.kind kinds ?_
  rintro env rfl s1 nx
  refine ⟨lim.keeps nx.toInCall.keep, codeAny_func ?_⟩
  have fam : FamG P w K mg base k N (fun _ : Unit => cxOf (L2.CX P w) P w K mg base N qual (defScope st) f cdv A oe s H E) :=
    { prog := fun _ => rfl, w := fun _ => rfl, K := fun _ => rfl, mg := fun _ => rfl, base := fun _ => rfl, hN := fun _ => rfl, calm := fun _ => rfl, room := fun _ => hrm.deeper _, nd := S.nd, guards := fun _ => hgd }
  obtain ⟨t, h1, h2⟩ := hb cdv A oe s H E fam (fun _ => takes_by (takes_of rfl rfl rfl rfl))
  have I : Inv (cxOf (L2.CX P w) P w K mg base N qual (defScope st) f cdv A oe s H E) [] (start N vs) H s1 := inv_start S hrm.hd e0 hl r nx
  refine wpAny_mono (h1.run [] s1 (start N vs) H _ I (h2 vs Q hsp)) ?_ fun e s' z => z
  have fin : ∀ {s' : Shared} {σ' : L2.St} {H' : Hp} {v : V} {u : Value}, Inv (cxOf (L2.CX P w) P w K mg base N qual (defScope st) f cdv A oe s H E) [] σ' H' s' → RelV v u → Q v H' → CE oe P w H s Q u s' := by
    intro s' σ' H' v u J rv q
    exact ⟨v, H', J.os, J.bare, J.base, J.hok, rv, q⟩
  intro fl s' hs
  cases fl
  case ret u =>
    obtain ⟨v, σ', H', J, rv, q⟩ := hs
    exact fin J rv q
  case next =>
    obtain ⟨σ', H', J, q⟩ := hs
    exact fin (v := V.non) (u := Value.none) J rfl q
  case brk =>
    obtain ⟨_, _, _, q⟩ := hs
    exact (q : False).elim
  case cont =>
    obtain ⟨_, _, _, q⟩ := hs
    exact (q : False).elim
theorem fn_core {x qual : Str} {st : Stmt} {sp : Sp} (Fu : Fun K x qual st f fd) (S : FnScope N ps (defScope st)) (size : ∀ vs H Q E, sp vs H Q E → vs.length = ps.length)
    (hb : ∀ (cdv : Value) (A : Around) (oe : List Env) (s : Shared) (H : Hp) (E : XK), FamG P w K mg base k N (fun _ : Unit => cxOf (L2.CX P w) P w K mg base N qual (defScope st) f cdv A oe s H E) →
      (∀ i, Takes ((fun _ : Unit => cxOf (L2.CX P w) P w K mg base N qual (defScope st) f cdv A oe s H E) i) (toWX mg (byName mg fun cls d _ H => E cls d H))) →
      ∃ t : TS, PSs (cxOf (L2.CX P w) P w K mg base N qual (defScope st) f cdv A oe s H E) (defBody st) t ∧ ∀ vs Q, sp vs H Q E → t { nx := fun _ H' => Q .non H', rt := Q } (start N vs) H) :
    FnG P w K mg base (L2.CX P w) (k + 1) f fd ps sp := fn_coreV (Fun.toV Fu) S size hb
/-- a def or method that may raise, defaults or not -/
theorem fn_okV {x qual : Str} {st : Stmt} {fn : DFn} {wb : WS} (Fu : FunV K x qual st f fd) (S : FnScope N ps (defScope st)) (hlen : ∀ ds m Q Qx, fn ds m Q Qx → ds.length = ps.length)
    (hb : ∀ (cdv : Value) (A : Around) (oe : List Env) (s : Shared) (H : Hp) (E : XK), FamG P w K mg base k N (fun _ : Unit => cxOf (L2.CX P w) P w K mg base N qual (defScope st) f cdv A oe s H E) →
      (∀ i, Takes ((fun _ : Unit => cxOf (L2.CX P w) P w K mg base N qual (defScope st) f cdv A oe s H E) i) (toWX mg (byName mg fun cls d _ H => E cls d H))) →
      PDB K (byName mg fun cls d _ H => E cls d H) (fun _ : Unit => cxOf (L2.CX P w) P w K mg base N qual (defScope st) f cdv A oe s H E) (defBody st) wb)
    (hr : ∀ ds m Qd Qx, fn ds m Qd Qx → wb { nx := fun _ m' => Qd .non m', rt := Qd, ex := Qx } (ds.map some ++ List.replicate (N.length - ds.length) none) m) :
    FnG P w K mg base (L2.CX P w) (k + 1) f fd ps (spD K mg fn) := by
  refine fn_coreV Fu S ?_ fun cdv A oe s H E fam tk => ?_
  · rintro vs H Q E ⟨G, m, F, ds, Qd, Qx, _, r, hf, _⟩
    exact r.len.trans (hlen _ _ _ _ hf)
  · obtain ⟨t, h1, h2⟩ := hb cdv A oe s H E fam tk
    refine ⟨t, h1 (), ?_⟩
    rintro vs Q ⟨G, m, F, ds, Qd, Qx, hW, rr, hf, hQ, hQx⟩
    refine h2 G m F H _ _ _ { nx := fun _ m' => Qd .non m', rt := Qd, ex := Qx } hW ?_ (hr ds m Qd Qx hf) ⟨?_, hQ, fun _ _ _ _ _ z => z.elim, fun _ _ _ _ _ z => z.elim, ?_⟩
    · unfold L2.start
      rw [rr.len]
      exact En.start _ rr
    · intro ρ' m' σ' G' H' q e W' _
      exact hQ _ m' _ G' H' q e W' .non
    · intro x m' d σ' G' H' z e W' r cls hc
      exact hQx x m' cls d G' H' z hc e W' r
/-! the body of an __init__: statements, self.f = e -/
abbrev WZ := List D → (List D → Mem → Prop) → XQ → En0 → Mem → Prop
def LiftZ (K : Fg) (W : Wx) (C : Addr) (ks ks' : List Str) (t : TS) (z : WZ) : Prop := ∀ G m F H σ ρ (x dx : Addr) (fs : List (Str × V)) (ds : List D) (S : Ends) (E : List D → Mem → Prop) (Qx : XQ), F x = none → Wd K G m (upd F x (.ins C dx fs)) H → En K G σ ρ → ρ[0]? = some (some (.box x)) →
  fs.map (·.1) = ks → RpA K G (fs.map (·.2)) ds → z ds E Qx ρ m → FitX K W G F Qx →
  (∀ fs' ds' m' σ' G' H', E ds' m' → Ex G G' → Wd K G' m' (upd F x (.ins C dx fs')) H' → fs'.map (·.1) = ks' → RpA K G' (fs'.map (·.2)) ds' → S.nx σ' H') → t S σ H
def PDZ (K : Fg) (W : Wx) {ι : Type} (X : ι → Cx) (C : Addr) (ks ks' : List Str) (b : List Stmt) (z : WZ) : Prop := ∃ t, (∀ i, PSs (X i) b t) ∧ LiftZ K W C ks ks' t z
def zNil : WZ := fun ds E _ _ m => E ds m
def zCons (u : WS) (z : WZ) : WZ := fun ds E Qx ρ m => u { nx := fun ρ' m' => ρ'[0]? = ρ[0]? ∧ z ds E Qx ρ' m', rt := fun _ _ => False, ex := Qx } ρ m
def zSet (v : WE) (z : WZ) : WZ := fun ds E Qx ρ m => v ρ m (fun d m' => z (ds ++ [d]) E Qx ρ m') Qx
variable {C : Addr} {ks ks' : List Str} {sts : List Stmt} {st : Stmt} {u : WS} {z : WZ}
theorem pz_nil : PDZ K W X C ks ks [] zNil := ⟨_, fun _ => pss_nil, fun G m F H σ ρ x dx fs ds S E Qx hF hW hE h0 hk hr h hX hN => hN fs ds m σ G H h (Ex.refl G) hW hk hr⟩
theorem pz_cons (h1 : PDS K W X st u) (h2 : PDZ K W X C ks ks' sts z) : PDZ K W X C ks ks' (st :: sts) (zCons u z) := by
  obtain ⟨t1, a1, a2⟩ := h1
  obtain ⟨t2, b1, b2⟩ := h2
  refine ⟨_, fun i => pss_cons (a1 i) (b1 i), ?_⟩
  intro G m F H σ ρ x dx fs ds S E Qx hF hW hE h0 hk hr h hX hN
  refine a2 G m (upd F x (.ins C dx fs)) H σ ρ _ _ hW hE h ⟨?_, fun _ _ _ _ _ z => z.elim, fun _ _ _ _ _ z => z.elim, fun _ _ _ _ _ z => z.elim, hX.frame hF⟩
  rintro ρ' m' σ' G' H' ⟨e0, q⟩ e W' E'
  refine b2 G' m' F H' σ' ρ' x dx fs ds S E Qx hF W' E' (e0.trans h0) hk (hr.mono e) q (hX.mono e) ?_
  intro fs' ds' m2 σ2 G2 H2 q2 e2
  exact hN fs' ds' m2 σ2 G2 H2 q2 (e.trans e2)
theorem putF_new {f : Str} {v : V} : ∀ {fs : List (Str × V)}, f ∉ fs.map (·.1) → putF f v fs = fs ++ [(f, v)]
  | [], _ => rfl
  | (g, x) :: r, h => by
    have hg : ¬ g = f := fun e => h (by rw [List.map_cons, e]; exact List.mem_cons_self)
    show (if g = f then (g, v) :: r else (g, x) :: putF f v r) = _
    rw [if_neg hg, putF_new fun e => h (by rw [List.map_cons]; exact List.mem_cons_of_mem _ e)]
    rfl
theorem pz_set {self f : Str} {p p' : Pos} {value : Expr} {wv : WE} (hK : ∀ i, (X i).K = K) (c : Cls K C) (nf : NoAttr K C f) (hN : ∀ j, (X j).N = N) (hv : PD K W X value wv) (r : PDZ K W X C (ks ++ [f]) ks' sts z) (hf : f ∉ ks := by decide) (hl : ks.length < 1000 := by decide) (h0 : N[0]? = some self := by rfl)
    (vis : ∀ j, Vis (X j).env.scope self := by intro _; first | exact Or.inl rfl | exact Or.inr (Or.inl rfl) | exact Or.inr (Or.inr rfl)) (hd : (self == ("__debug__" : Str)) = false := by decide) (hcd : (self == ("__classdict__" : Str)) = false := by decide)
    (hs : ∀ i, swapsWith value (some (.Attribute (.Name self p) f p')) pos.line (X i).env = pure false := by intro _; rfl) : PDZ K W X C ks ks' (.Assign [.Attribute (.Name self p) f p'] value pos :: sts) (zSet wv z) := by
  obtain ⟨tv, v1, v2⟩ := hv
  obtain ⟨t2, b1, b2⟩ := r
  refine ⟨_, fun i => pss_cons (t := sFld K (tVar 0) tv f) (by have q := ps_fld (pe_var (X := X i) (i := 0) (pos := p) (by rw [hN i]; exact h0) (vis i) hd hcd) (v1 i) (hs i); rw [hK i] at q; exact q) (b1 i), ?_⟩
  intro G m F H σ ρ x dx fs ds S E Qx hF hW hE hx hk hr h hX hNx
  refine v2 G m (upd F x (.ins C dx fs)) H σ ρ _ _ _ hW hE h (hX.frame hF) ?_
  intro d m1 y G1 H1 q e1 W1 ry
  obtain ⟨u0, hu, ru⟩ := hE.get hx
  cases ru
  refine ⟨.ref x, hu, x, C, dx, fs, rfl, W1.fr _ _ upd_same, c, nf, ?_, ?_⟩
  · rw [← hk, List.length_map] at hl
    exact hl
  · rw [putF_new (by rw [hk]; exact hf)]
    refine b2 G1 m1 F _ σ ρ x dx (fs ++ [(f, y)]) (ds ++ [d]) S E Qx hF ?_ (hE.mono e1) hx ?_ ?_ q (hX.mono e1) ?_
    · have := W1.reframe (HO.ins C dx (fs ++ [(f, y)]))
      exact this
    · rw [List.map_append, hk]; rfl
    · rw [List.map_append]
      exact (hr.mono e1).app (.cons ry .nil)
    · intro fs' ds' m2 σ2 G2 H2 q2 e2
      exact hNx fs' ds' m2 σ2 G2 H2 q2 (e1.trans e2)
/-! an __init__ keeps its promise -/
def spInit (K : Fg) (mg : Str → Option Value) (C : Addr) (fn : DFn) : Sp := fun vs H Q E => ∃ x dx H0 vs0 G m F ds Qd Qx, vs = .ref x :: vs0 ∧ H = upd (upd H0 dx (.own x)) x (.ins C dx []) ∧ H0 x = none ∧ H0 dx = none ∧ dx ≠ x ∧ Wd K G m F H0 ∧ RpA K G vs0 ds ∧ fn ds m Qd Qx ∧
  (∀ d m' G' H', Qd d m' → Ex G G' → Wd K G' m' F H' → Rp K G' (.ref x) d → Q .non H') ∧ FitXc K mg G F Qx E
theorem init_ok {x qual n : Str} {st : Stmt} {fn : DFn} (Fu : Fun K x qual st f fd) (S : FnScope N ps (defScope st)) (c : Kl K mg n C) (hlen : ∀ ds m Q Qx, fn ds m Q Qx → ds.length + 1 = ps.length)
    (hb : ∀ (cdv : Value) (A : Around) (oe : List Env) (s : Shared) (H : Hp) (E : XK), FamG P w K mg base k N (fun _ : Unit => cxOf (L2.CX P w) P w K mg base N qual (defScope st) f cdv A oe s H E) →
      (∀ i, Takes ((fun _ : Unit => cxOf (L2.CX P w) P w K mg base N qual (defScope st) f cdv A oe s H E) i) (toWX mg (byName mg fun cls d _ H => E cls d H))) →
      PDZ K (byName mg fun cls d _ H => E cls d H) (fun _ : Unit => cxOf (L2.CX P w) P w K mg base N qual (defScope st) f cdv A oe s H E) C [] ks (defBody st) z)
    (hr : ∀ ds m Qd Qx, fn ds m Qd Qx → ∀ a, z [] (fun ds' m' => Qd (.obj n ks ds') m') Qx ((D.box a :: ds).map some ++ List.replicate (N.length - (ds.length + 1)) none) m) :
    FnG P w K mg base (L2.CX P w) (k + 1) f fd ps (spInit K mg C fn) := by
  refine fn_core Fu S ?_ ?_
  · rintro vs H Q E ⟨x, dx, H0, vs0, G, m, F, ds, Qd, Qx, rfl, rfl, _, _, _, _, r, h, _, _⟩
    rw [List.length_cons, r.len]
    exact hlen _ _ _ _ h
  · intro cdv A oe s H E fam tk
    obtain ⟨t, h1, h2⟩ := hb cdv A oe s H E fam tk
    refine ⟨t, h1 (), ?_⟩
    rintro vs Q ⟨x, dx, H0, vs0, G, m, F, ds, Qd, Qx, rfl, rfl, hx, hdx, hne, W0, r, h, hQ, hX⟩
    have Fx : F x = none := by
      cases e : F x with
      | none => rfl
      | some o => rw [W0.fr _ _ e] at hx; cases hx
    have Fd : F dx = none := by
      cases e : F dx with
      | none => rfl
      | some o => rw [W0.fr _ _ e] at hdx; cases hdx
    have W1 := W0.frame hdx (.own x)
    have hx1 : upd H0 dx (.own x) x = none := by rw [upd_ne (Ne.symm hne)]; exact hx
    have W2 := W1.frame hx1 (.ins C dx [])
    have Fx1 : upd F dx (.own x) x = none := by rw [upd_ne (Ne.symm hne)]; exact Fx
    have fx : FitX K (byName mg fun cls d _ H => E cls d H) G (upd F dx (.own x)) Qx := by
      refine FitX.frame ?_ Fd
      intro y m' d σ' G' H' q e W' ry cls hc
      exact hX y m' cls d G' H' q hc e W' ry
    refine h2 G m (upd F dx (.own x)) _ _ ((D.box x :: ds).map some ++ List.replicate (N.length - (ds.length + 1)) none) x dx [] [] _ _ Qx Fx1 W2 ?_ rfl rfl .nil (hr ds m Qd Qx h x) fx ?_
    · unfold L2.start
      have := En.start (K := K) (G := G) (N.length - (V.ref x :: vs0).length) (RpA.cons (.box x) r)
      rw [List.length_cons, r.len] at this
      rw [List.length_cons, r.len]
      exact this
    · intro fs' ds' m' σ' G' H' q e W' hk hr'
      obtain ⟨e2, W3⟩ := W'.adopt Fx1
      exact hQ _ m' _ H' q (e.trans e2) (W3.unframe Fd) (.obj c.own upd_same hk rfl (hr'.mono e2))
/-! C(e, .., k = e, ..) -/
theorem run_makeG {X : Cx} {sp : Sp} {E : XK} {nn j : Nat} {g : List Value → List Value → List Value} {gV : List V → List V → List V} {kn : List Str} {pins : List (Addr × Obj)} {σ : L2.St} {H : Hp} {s : Shared} {Q : VK} {us ws : List Value} {vs zs : List V} (M : Mk X.K C f) (Fn : FnG X.prog X.w X.K X.mg X.base (L2.CX X.prog X.w) j f fd ps sp)
    (hgd : X.A.guards = some []) (hr : Room (j + 1) X.A) (hb : KBn X.K fd ps (nn + 1) kn g gV) (hx : PassesAt (L2.CX X.prog X.w) X σ E)
    (I : Inv X pins σ H s) (r : Vals vs us) (rz : Vals zs ws) (l1 : vs.length = nn) (l2 : zs.length = kn.length)
    (h : ∀ x dx, H x = none → H dx = none → dx ≠ x → sp (gV (.ref x :: vs) zs) (upd (upd H dx (.own x)) x (.ins C dx [])) (fun v H2 => v = .non ∧ Q (.ref x) H2) E) :
    wpAny (model X.prog X.w) X.A (call (.ref C) us (kn.zip ws)) (EP X pins σ Q) X.xe s := by
  have fx : H (s.heap.objs.size + 1) = none := I.hok.fresh (Nat.le_add_right _ 1)
  have asked := h _ _ fx (I.hok.fresh (Nat.le_refl s.heap.objs.size)) (Nat.ne_of_lt (Nat.lt_add_one s.heap.objs.size))
  have J := I.made (C := C)
  have self1 : Vals (V.ref (s.heap.objs.size + 1) :: vs) (Value.ref (s.heap.objs.size + 1) :: us) := .cons rfl r
  have many : (Value.ref (s.heap.objs.size + 1) :: us).length = nn + 1 := congrArg (· + 1) (r.length.symm.trans l1)
  have body := Fn.runs _ X.stack _ _ ⟨Value.ref (s.heap.objs.size + 1) :: us, kn.zip ws⟩ (g (Value.ref (s.heap.objs.size + 1) :: us) ws) _ _ E (by exact hgd) (hr.make C us (kn.zip ws)) (J.env0.make C us (kn.zip ws)) (hb.to _ _ ws J.kIn many (rz.length.symm.trans l2)) (hb.rel self1 rz) asked
  refine wpAny_call (make_map (f := f) I.kIn M.makes M.init (beq_iff_eq.mp M.fn) (codeAny_mono body ?_))
  rintro (er | fl) s2 left
  · exact hx pins _ _ er s2 J left
  · cases fl <;> first | exact (left : False).elim | skip
    obtain ⟨v, H2, J2, rv, ev, told⟩ := J.after left
    subst ev
    exact ⟨rv, ⟨V.ref (s.heap.objs.size + 1), H2, J2, rfl, told⟩⟩
section
variable {kws : List Keyword} {wk : WA} {e : Expr} {es : List Expr} {we : WE} {wr : WA}
def PDK (K : Fg) (W : Wx) {ι : Type} (X : ι → Cx) (kws : List Keyword) (w : WA) : Prop := ∃ t, (∀ i, PK (X i) kws t) ∧ LiftA K W t w
theorem pdk_nil : PDK K W X [] wNil := ⟨_, fun _ => L2.pk_nil, fun G m F H σ ρ Q Qd Qx hW hE h hX hQ => hQ [] m [] G H h (Ex.refl G) hW .nil⟩
theorem pdk_cons {nm : Option Str} {kpos : Pos} (ha : PD K W X e we) (hr : PDK K W X kws wk) : PDK K W X (⟨nm, e, kpos⟩ :: kws) (wCons we wk) := by
  obtain ⟨ta, a1, a2⟩ := ha
  obtain ⟨tr, b1, b2⟩ := hr
  refine ⟨_, fun i => L2.pk_cons (a1 i) (b1 i), ?_⟩
  intro G m F H σ ρ Q Qd Qx hW hE h hX hQ
  refine a2 G m F H σ ρ _ _ Qx hW hE h hX ?_
  intro d m1 v G1 H1 q e1 W1 r1
  refine b2 G1 m1 F H1 σ ρ _ _ Qx W1 (hE.mono e1) q (hX.mono e1) ?_
  intro ds m2 vs G2 H2 q2 e2 W2 r2
  exact hQ _ m2 _ G2 H2 q2 (e1.trans e2) W2 (.cons (r1.mono e2) r2)
/-- the class n makes objects as fn tells: nn values by position, the keywords kn; gD: all its arguments -/
def HasC (P : Program) (w : World) (K : Fg) (mg : Str → Option Value) (base : Heap) (j : Nat) (n : Str) (ps : List Str) (nn : Nat) (kn : List Str) (gD : List D → List D → List D) (fn : DFn) : Prop :=
  ∃ C f fd g gV, Kl K mg n C ∧ Mk K C f ∧ FnG P w K mg base (L2.CX P w) j f fd ps (spInit K mg C fn) ∧ KBn K fd ps (nn + 1) kn g gV ∧
    ∀ (G : Hp) (x : Addr) (vs zs : List V) (ds es : List D), RpA K G vs ds → RpA K G zs es → vs.length = nn → zs.length = kn.length → ∃ rest, gV (.ref x :: vs) zs = .ref x :: rest ∧ RpA K G rest (gD ds es)
def wMake (nn kk : Nat) (gD : List D → List D → List D) (fn : DFn) (wr wk : WA) : WE := fun ρ m Q Qx => wr ρ m (fun ds m1 => wk ρ m1 (fun es m2 => ds.length = nn ∧ es.length = kk ∧ fn (gD ds es) m2 Q Qx) Qx) Qx
theorem pd_make {n : Str} {nn j : Nat} {kn : List Str} {gD : List D → List D → List D} {fn : DFn} {p : Pos} (hX : FamG P w K mg base k N X) (tk : ∀ i, Takes (X i) (toWX mg W)) (hh : HasC P w K mg base j n ps nn kn gD fn) (ha : PDA K W X (e :: es) wr) (hkw : PDK K W X kws wk) (hj : j + 1 ≤ k := by decide)
    (hg : ∀ i, Gl (X i) n := by intro _; rfl) (hall : ∀ i, (backToKw pos (keywordEach kws (X i).env)).all (·.1.isSome) = true := by intro _; rfl) (hks : ∀ i, (backToKw pos (keywordEach kws (X i).env)).filterMap (·.1) = kn := by intro _; rfl) (hdb : (n == ("__debug__" : Str)) = false := by decide)
    (he : ∀ i, starEach (e :: es) (X i).env = (false, eval e (X i).env) :: starEach es (X i).env := by intro _; rfl) (hpl : ∀ i, ((backTo pos (starEach (e :: es) (X i).env)).any (·.1) || (backToKw pos (keywordEach kws (X i).env)).any (·.1.isNone)) = false := by intro _; rfl) :
    PD K W X (.Call (.Name n p) (e :: es) kws pos) (wMake nn kn.length gD fn wr wk) := by
  obtain ⟨C, f, fd, g, gV, c, M, Fn, hb, hgv⟩ := hh
  obtain ⟨t, a1, a2⟩ := ha
  obtain ⟨tk', k1, k2⟩ := hkw
  refine ⟨tMakeK C nn kn.length (spInit K mg C fn) gV (fun cls d H' => False) t tk' |> fun _ => fun σ H Q => tMakeK C nn kn.length (spInit K mg C fn) gV (fun cls d H' => toWX mg W cls d σ H') t tk' σ H Q, fun i => ⟨fun pins s σ H Q I h => ?_⟩, ?_⟩
  · have Fi : FnG (X i).prog (X i).w (X i).K (X i).mg (X i).base (L2.CX (X i).prog (X i).w) j f fd ps (spInit K mg C fn) := by rw [hX.prog i, hX.w i, hX.K i, hX.mg i, hX.base i]; exact Fn
    have Mi : Mk (X i).K C f := by rw [hX.K i]; exact M
    refine wpAny_Call_Name_kw (ld_glob I (hg i) (by rw [hX.mg i]; exact c.mg) ?_ hdb)
    refine PySem.W.callWith_KW (h₀ := (X i).base) I.ok.mod.kin Mi.kp (hall i) (thn ((a1 i).run pos pins s σ H _ I h) fun us s1 ⟨vs, H1, I1, r, q⟩ => ?_) (hpl i) (he i)
    refine thn ((k1 i).run pos pins s1 σ H1 _ I1 q) fun ws s2 ⟨zs, H2, I2, rz, l1, l2, q2⟩ => ⟨I2.kIn, ?_⟩
    rw [hks i]
    exact run_makeG Mi Fi (hX.guards i) ((hX.room i).mono hj) (by rw [hX.K i]; exact hb) (passAt (tk i) σ) I2 r rz l1 l2 q2
  · intro G m F H σ ρ Q Qd Qx hW hE h hXx hQ
    refine a2 G m F H σ ρ _ _ Qx hW hE h hXx ?_
    intro ds m1 vs G1 H1 q e1 W1 r1
    refine k2 G1 m1 F H1 σ ρ _ _ Qx W1 (hE.mono e1) q (hXx.mono e1) ?_
    intro es m2 zs G2 H2 q2 e2 W2 r2
    obtain ⟨l1, l2, q2⟩ := q2
    refine ⟨by rw [r1.len]; exact l1, by rw [r2.len]; exact l2, fun x dx hx hdx hne => ?_⟩
    obtain ⟨rest, eg, rr⟩ := hgv G2 x vs zs ds es (r1.mono e2) r2 (by rw [r1.len]; exact l1) (by rw [r2.len]; exact l2)
    refine ⟨x, dx, H2, rest, G2, m2, F, gD ds es, Qd, Qx, eg, rfl, hx, hdx, hne, W2, rr, q2, ?_, ?_⟩
    · intro d m' G' H' z e W' rd
      exact ⟨rfl, hQ d m' _ G' H' z ((e1.trans e2).trans e) W' rd⟩
    · intro y m' cls d G' H' z hmx e W' ry
      exact ⟨y.cls, hmx, hXx y m' d σ G' H' z ((e1.trans e2).trans e) W' ry⟩
end
end
end DL
/-! XS: sorted(text), enumerate, truth, further rules for schemes -/
namespace DL
open PySem L2 XO PyProof.Rows
open Evl (Ex)
/-- a text's signs -/
def signL (z : Str) : List Str := z.cps.toList.map fun c => (⟨#[c]⟩ : Str)
theorem strs_build : ∀ (l : List Value) (cs : List Nat), l.length = cs.length → (∀ (j : Nat) (v : Value), l[j]? = some v → ∃ c u, cs[j]? = some c ∧ v = .str ⟨#[c]⟩ u) → StrsAre l (cs.map fun c => (⟨#[c]⟩ : Str))
  | [], [], _, _ => .nil
  | [], _ :: _, h, _ => by cases h
  | _ :: _, [], h, _ => by cases h
  | v :: l, c :: cs, h, k => by
    obtain ⟨c', u, e1, e2⟩ := k 0 v rfl
    have e1 : some c = some c' := e1
    cases e1
    subst e2
    exact .cons _ _ (strs_build l cs (by simpa using h) fun j w hw => k (j + 1) w hw)
theorem strs_items {x : Str} {acc : Array Value} (h : ItemsOf (SignAt x) acc x.cps.size) : StrsAre acc.toList (signL x) := by
  refine strs_build acc.toList x.cps.toList ?_ ?_
  · rw [Array.length_toList, Array.length_toList]
    exact h.1
  · intro j v hv
    obtain ⟨c, u, e1, e2⟩ := h.2 j v (by rw [← Array.getElem?_toList]; exact hv)
    exact ⟨c, u, by rw [Array.getElem?_toList]; exact e1, e2⟩
section
variable {prog : Program} {w : World} {A : Around} {E : Value → Shared → Prop} {s : Shared}
theorem sorted_text {Q : Value → Shared → Prop} (hh : A.handled = none) (x : Str) (t : Tok) (hn : x.cps.size ≤ 1000000)
    (h : ∀ (s1 : Shared) (vs : List Value) (out : Array Value) (ss' : List Str), (∀ b o, s.heap.get? b = some o → s1.heap.get? b = some o) → s1.gens = s.gens → s1.drawn = s.drawn → s1.os = s.os → StrsAre out.toList ss' → ss'.Perm (signL x) → sortedS ss' = true →
      Q (.ref s1.heap.objs.size) { s1 with heap := sortedHeap (s1.heap.push (seqObj "list" vs.toArray 0)) s1.heap.objs.size vs out }) :
    wpAny (model prog w) A (call (.builtin "sorted") [.str x t]) Q E s := by
  refine Calls.call_function_entry kind_sorted plain_sorted entry_sorted (args_sorted1 _) ?_
  unfold Builtin.«sorted»
  refine wpAny_bind (m := checkCount "sorted" 1 1 _) (wpAny_pure ?_)
  refine wpAny_bind (wpAny_collect_str (by exact hh) x t (fun s1 acc k g d o hacc => ?_) (by rw [sizeLine_eq]; omega))
  have hS := strs_items hacc
  have hL : acc.toList.length ≤ sizeLine := by rw [Array.length_toList, hacc.1, sizeLine_eq]; omega
  refine wpAny_bind (wpAny_newList ?_ hL)
  have hoL : (s1.heap.push (seqObj "list" acc.toList.toArray 0)).get? s1.heap.objs.size = some (seqObj "list" acc.toList.toArray 0) := Heap.get?_push_size _ rfl
  show wpAny _ _ _ _ _ { s1 with heap := s1.heap.push (seqObj "list" acc.toList.toArray 0) }
  refine wpAny_bind (wpAny_holding (wpAny_call_entry slot_list_sort ⟨_, hoL, rfl⟩ entry_list_sort (list_sort_treeKAny strKind_oneLt hoL hS.keysOf (fun v₁ v₂ rest e => keyKind_strs (by rw [← e]; exact hS)) hL fun st' hp hs => ⟨_, rfl, ?_⟩) (args_list_sort _)))
  obtain ⟨ss', h1, h2, h3⟩ := sorted_out_str hS hp hs
  exact wpAny_pure ⟨_, rfl, h s1 acc.toList _ ss' k g d o h1 h2 h3⟩
end
def rSortedTx : List V → Hp → VK → Prop := fun vs H Q => ∃ z : Str, vs = [V.str z] ∧ z.cps.size ≤ 1000000 ∧ ∀ (ys : List Str) (p : Addr), ys.Perm (signL z) → sortedS ys = true → H p = none → Q (.ref p) (upd H p (.lst (ys.map V.str)))
theorem cr_sortedTx {X : Cx} (hc : X.calm = true) : CallR X (.builtin "sorted") rSortedTx := by
  intro pins s σ H vs us Q I r h
  obtain ⟨z, rfl, hz, q⟩ := h
  cases r with
  | cons r1 t0 =>
    cases t0
    obtain ⟨t, rfl⟩ := r1
    refine sorted_text (I.ok.hd hc) z t hz fun s1 vs out ys k g d o h1 h2 h3 => ?_
    obtain ⟨hp, gn, dr, tk, os⟩ := s1
    simp only at k g d o
    subst g d o
    have hlen : (ys.map V.str).length ≤ sizeLine := by
      rw [List.length_map, h2.length_eq]
      unfold signL
      rw [List.length_map, Array.length_toList, sizeLine_eq]
      omega
    have hoL : (hp.push (seqObj "list" vs.toArray 0)).get? hp.objs.size = some (seqObj "list" vs.toArray 0) := Heap.get?_push_size _ rfl
    obtain ⟨ep, he⟩ := sortedHeap_at (out := out) hoL
    have hn : H hp.objs.size = none := (I.hok.kept k).fresh (Nat.le_refl _)
    have h0 : s.heap.get? hp.objs.size = none := by
      cases e : s.heap.get? hp.objs.size with
      | none => rfl
      | some o => exact absurd (Heap.lt_size (k _ _ e)) (Nat.lt_irrefl _)
    have kk : ∀ b u, s.heap.get? b = some u → (sortedHeap (hp.push (seqObj "list" vs.toArray 0)) hp.objs.size vs out).get? b = some u := by
      intro b u e
      have e1 := k b u e
      have hb := Heap.lt_size e1
      rw [sortedHeap_old (Nat.ne_of_lt hb) (by rw [size_push']; exact Nat.lt_succ_of_lt hb)]
      exact Heap.get?_push_of_some _ e1
    exact ⟨.ref _, upd H hp.objs.size (.lst (ys.map V.str)), I.laidN (t' := tk) kk h0 hn ⟨hlen, out.toList, ep, vals_of_strs h1, he⟩, rfl, q ys _ h2 h3 hn⟩
/-- sorted(text): its signs, by code points -/
def dSortedTx : WC := fun xs m Q => match xs with
  | [.str z] => z.cps.size ≤ 1000000 ∧ ∀ ys : List Str, ys.Perm (signL z) → sortedS ys = true → Q (.lst (ys.map D.str)) m
  | _ => False
theorem rp_strs {K : Fg} {G : Hp} : ∀ ys : List Str, RpA K G (ys.map V.str) (ys.map D.str)
  | [] => .nil
  | y :: ys => .cons (.str y) (rp_strs ys)
theorem b_sortedTx {K : Fg} {ι : Type} {X : ι → Cx} (hc : ∀ i, (X i).calm = true) : BiU K X (.builtin "sorted") dSortedTx := by
  refine ⟨_, fun i => cr_sortedTx (hc i), ?_⟩
  intro G m F H xs ds Q Qd hW r h hQ
  unfold dSortedTx at h
  split at h
  · cases r with
    | cons r1 t =>
      cases r1
      cases t
      exact ⟨_, rfl, h.1, fun ys p hp hs hf => hQ.lst hW (h.2 ys hp hs) (rp_strs ys) p hf⟩
  · cases h
end DL
/-! XT: len(set(text)) -/
namespace DL
open PySem L2 XO PyProof.Rows
open Evl (Ex)
/-- how many unlike texts -/
def distinct : List Str → Nat
  | [] => 0
  | x :: l => if l.any (· == x) then distinct l else distinct l + 1
theorem distinct_le : ∀ l, distinct l ≤ l.length
  | [] => Nat.le_refl _
  | x :: l => by
    have := distinct_le l
    unfold distinct
    rw [List.length_cons]
    split <;> omega
section
variable {prog : Program} {w : World} {A : Around} {R : Result → Shared → Prop} {I : Addr} {fp wr : List Addr} {G : Array GenState → Array GenState → Prop} {n : Nat} {St : Nat → Shared → Prop} {x : Str}
/-- the loop of a set's filling over a text: l is what is in it, the last one first -/
theorem fill_signs (W : WalksS prog w A.in1 I fp wr G n (SignAt x) St) (S : Addr) (away : S ∉ fp) (hn : x.cps.toList.length = n) (small : n < 4000) :
    ∀ (rest done : List Nat) (s : Shared), x.cps.toList = done ++ rest → St done.length s →
      s.heap.SetOf (PySem.strKind prog w) S (fun k => ((done.reverse).map fun c => (⟨#[c]⟩ : Str)).any (· == k)) (distinct ((done.reverse).map fun c => (⟨#[c]⟩ : Str))) →
      (∀ s', Moved (S :: wr) G s s' → s'.heap.SetOf (PySem.strKind prog w) S (fun k => ((x.cps.toList.reverse).map fun c => (⟨#[c]⟩ : Str)).any (· == k)) (distinct ((x.cps.toList.reverse).map fun c => (⟨#[c]⟩ : Str))) → R (.ok (.ret .none)) s') →
      codeAny (model prog w) A (.builtin "set.update.loop" ⟨[.ref S, .ref I], []⟩) R s := by
  have outside : S ∉ wr := fun h => away (W.sub _ h)
  have more : ∀ b ∈ wr, b ∈ S :: wr := fun b hb => List.mem_cons_of_mem _ hb
  intro rest
  induction rest with
  | nil =>
    intro done s hx hst hS hR
    rw [List.append_nil] at hx
    have hl : done.length = n := by rw [← hx]; exact hn
    rw [hl] at hst
    refine codeAny_builtin F.entry_set_update_loop ?_
    rw [Around.under_plainId F.plain_set_update_loop _]
    show wpAny _ A.in1 (pyNext (.ref I) >>= _) _ _ s
    refine wpAny_bind (W.done s _ _ hst fun s' hm => ?_)
    show wpAny _ A.in1 (ret Value.none) _ _ s'
    refine wpAny_pure (hR s' (hm.mono more) ?_)
    rw [hx]
    obtain ⟨o, es, ep, t, ho, others⟩ := hS
    exact ⟨o, es, ep, t, hm.heap S _ outside ho, others⟩
  | cons c rest ih =>
    intro done s hx hst hS hR
    have hlt : done.length < n := by
      rw [← hn, hx, List.length_append, List.length_cons]
      omega
    refine codeAny_builtin F.entry_set_update_loop ?_
    rw [Around.under_plainId F.plain_set_update_loop _]
    show wpAny _ A.in1 (pyNext (.ref I) >>= _) _ _ s
    refine wpAny_bind (W.item done.length s _ _ hlt hst fun v s' hP hst' hm => ?_)
    obtain ⟨c', u, hc', rfl⟩ := hP
    have ec : c' = c := by
      have h1 : x.cps.toList[done.length]? = some c' := by rw [Array.getElem?_toList]; exact hc'
      rw [hx, List.getElem?_append_right (Nat.le_refl _), Nat.sub_self] at h1
      exact (Option.some.inj h1).symm
    subst ec
    have hS' : s'.heap.SetOf (PySem.strKind prog w) S (fun k => ((done.reverse).map fun c => (⟨#[c]⟩ : Str)).any (· == k)) (distinct ((done.reverse).map fun c => (⟨#[c]⟩ : Str))) := by
      obtain ⟨o, es, ep, tb, ho, others⟩ := hS
      exact ⟨o, es, ep, tb, hm.heap S _ outside ho, others⟩
    show wpAny _ A.in1 (holding [Value.str ⟨#[c']⟩ u] (setAdd S (.str ⟨#[c']⟩ u)) >>= _) _ _ s'
    refine wpAny_bind (wpAny_holding ?_)
    unfold setAdd
    refine wpAny_holding ?_
    refine wpAny_bind ((PySem.strKind prog w).pyHash (k := (⟨#[c']⟩ : Str)) (strKind_is _ _ _ _) ?_)
    have room : distinct ((done.reverse).map fun c => (⟨#[c]⟩ : Str)) + 1 < scanBound := by
      have := distinct_le ((done.reverse).map fun c => (⟨#[c]⟩ : Str))
      rw [List.length_map, List.length_reverse] at this
      unfold scanBound
      omega
    refine wpAny_setAddHashed_of (knd := PySem.strKind prog w) (s := { s' with toks := s'.toks + 1 }) (strKind_is _ _ _ _) rfl hS' room fun h' hsb hS2 => ?_
    have e1 : ((done ++ [c']).reverse).map (fun c => (⟨#[c]⟩ : Str)) = (⟨#[c']⟩ : Str) :: (done.reverse).map fun c => (⟨#[c]⟩ : Str) := by
      rw [List.reverse_append]; rfl
    have hS3 : h'.SetOf (PySem.strKind prog w) S (fun k => (((done ++ [c']).reverse).map fun c => (⟨#[c]⟩ : Str)).any (· == k)) (distinct (((done ++ [c']).reverse).map fun c => (⟨#[c]⟩ : Str))) := by
      rw [e1]
      refine SetOf_congr hS2 (fun k => ?_) ?_
      · rw [List.any_cons, Bool.or_comm]
        congr 1
        by_cases e : k = (⟨#[c']⟩ : Str)
        · subst e; simp
        · have ne : ((⟨#[c']⟩ : Str) == k) = false := by
            rw [beq_eq_false_iff_ne]
            exact fun z => e z.symm
          rw [ne, decide_eq_false e]
      · rfl
    refine wpAny_pure ⟨plainId_quiet F.plain_set_update_loop _, ih (done ++ [c']) _ (by rw [hx, List.append_assoc]; rfl) ?_ hS3 fun s2 hm2 hS4 => ?_⟩
    · rw [List.length_append, List.length_singleton]
      refine W.frame _ s' _ _ hst' (Nat.le_succ _) fun b hb o e => ?_
      rw [hsb.2 b (fun z : b = S => away (by rw [← z]; exact hb))]
      exact e
    · refine hR s2 (Moved.trans W.gtrans ((hm.mono more).then_heap (Nat.le_succ _) fun b o hb e => ?_) hm2) hS4
      rw [hsb.2 b (fun z : b = S => hb (by rw [z]; exact List.mem_cons_self))]
      exact e
end
section
variable {prog : Program} {w : World} {A : Around} {E : Value → Shared → Prop} {s : Shared}
open PySem.Spec
/-- set(text) -/
theorem call_set_text {x : Str} {t : Tok} {Q : Value → Shared → Prop} (hh : A.handled = none) (small : x.cps.toList.length < 4000)
    (told : ∀ (h' : Heap) (tk : Nat), h'.SetOf (PySem.strKind prog w) s.heap.objs.size (fun k => ((x.cps.toList.reverse).map fun c => (⟨#[c]⟩ : Str)).any (· == k)) (distinct ((x.cps.toList.reverse).map fun c => (⟨#[c]⟩ : Str))) →
      (∀ b o, b < s.heap.objs.size → s.heap.get? b = some o → h'.get? b = some o) → Q (.ref s.heap.objs.size) { s with heap := h', toks := tk }) :
    wpAny (model prog w) A (call (.type "set") [.str x t]) Q E s := by
  obtain ⟨c0, tl0, k_mro⟩ := PySem.F.called_set.mro
  have k_made := PySem.F.called_set.made
  have k_sub := PySem.F.called_set.sub
  refine wpAny_call (codeAny_of_tree ?_)
  show wpAny _ _ (callAny (.type "set") _) _ _ _
  refine wpAny_pure ⟨Code.quiet_builtin _ (by decide +kernel), codeAny_builtin PySem.F.entry_type_call ?_⟩
  rw [Around.under_plain (weight_type_call_type "set" [.str x t] []) rfl]
  have k_not := PySem.F.called_set.notType
  have k_can := PySem.F.called_set.canCreate
  have k_chk := PySem.F.typeCall_set_1 (.str x t)
  repeat (any_goals (first | assumption | wp_step))
  refine codeAny_mono (code_set_new_1 (.str x t) (E := E) (Q₁ := fun obj s1 => ∃ led : Bool, obj = .ref s.heap.objs.size ∧ s1 = { s with heap := s.heap.push { cls := .type "set", dict := none, data := .set #[] 0 (.fresh 0 0 led) } }) fun led => ⟨led, rfl, rfl⟩) fun r s1 hr => ?_
  cases r with
  | error e => exact hr
  | ok fl =>
    cases fl <;> first | exact hr.elim | skip
    rename_i obj
    obtain ⟨led, rfl, rfl⟩ := hr
    have atS : (s.heap.push { cls := .type "set", dict := none, data := .set #[] 0 (.fresh 0 0 led) }).get? s.heap.objs.size = some { cls := .type "set", dict := none, data := .set #[] 0 (.fresh 0 0 led) } := Heap.get?_push_size _ rfl
    have tyS : Shared.TypeIs { s with heap := s.heap.push { cls := .type "set", dict := none, data := .set #[] 0 (.fresh 0 0 led) } } (.ref s.heap.objs.size) "set" := ⟨_, atS, rfl⟩
    have k_look := PySem.F.called_set.init.lookup
    have k_bind := PySem.F.called_set.init.bind (.ref s.heap.objs.size)
    repeat (any_goals (first | assumption | wp_step))
    refine codeAny_mono (codeAny_call_builtin (R := wants (fun r s2 => r = .none ∧ ∃ h' tk, s2 = { s with heap := h', toks := tk } ∧
        h'.SetOf (PySem.strKind prog w) s.heap.objs.size (fun k => ((x.cps.toList.reverse).map fun c => (⟨#[c]⟩ : Str)).any (· == k)) (distinct ((x.cps.toList.reverse).map fun c => (⟨#[c]⟩ : Str))) ∧
        (∀ b o, b < s.heap.objs.size → s.heap.get? b = some o → h'.get? b = some o)) E) PySem.F.called_set.init.plain PySem.F.entry_set_init (check_set_init_1 tyS ?_)) fun r2 s2 hr2 => ?_
    · have no1 := PySem.F.sub_str_set
      have no2 := PySem.F.sub_str_frozenset
      have no3 : (Value.type "str" == Value.type "dict") = false := by decide
      unfold Builtin.«set.__init__» noKeywords Builtin.Frozenset.updateFrom
      generalize hPI : pyIter = PI
      wp_walk
      subst hPI
      refine wpAny_pyIter_str fun o St W hst => ?_
      refine wpAny_bind (wpAny_runValue ?_)
      have calm3 : A.in1.in1.in1.handled = none := by simp [hh]
      have apart : s.heap.objs.size ∉ [(s.heap.push { cls := .type "set", dict := none, data := .set #[] 0 (.fresh 0 0 led) }).objs.size] := by
        rw [Heap.size_push, List.mem_singleton]
        exact Nat.ne_of_lt (Nat.lt_succ_self _)
      refine fill_signs (W _ calm3).toS s.heap.objs.size apart (by rw [Array.length_toList]) (by rw [Array.length_toList] at small; exact small) x.cps.toList [] _ rfl hst ?hS0 ?hR
      case hS0 =>
        have at2 := Heap.get?_push_of_some o atS
        exact SetOf_congr ((setObjOf_fresh (knd := PySem.strKind prog w) led).setOf at2 (by unfold scanBound; omega)) (fun _ => rfl) rfl
      case hR =>
        intro s2 hm hS
        obtain ⟨h2, g2, d2, tk2, os2⟩ := s2
        have eg : g2 = s.gens := hm.gens
        have ed : d2 = s.drawn := hm.drawn
        have eo : os2 = s.os := hm.os
        subst eg ed eo
        refine wpAny_pure ?_
        show wpAny _ _ (ret Value.none) _ _ _
        refine wpAny_pure ⟨rfl, h2, tk2, rfl, hS, fun b o' hb e => ?_⟩
        refine hm.heap b o' (fun hin => ?_) (Heap.get?_push_of_some _ (Heap.get?_push_of_some _ e))
        rcases List.mem_cons.mp hin with z | z
        · exact Nat.ne_of_lt hb z
        · rw [List.mem_singleton, Heap.size_push] at z
          exact Nat.ne_of_lt (Nat.lt_succ_of_lt hb) z
    · cases r2 with
      | error e => exact hr2
      | ok fl2 =>
        cases fl2 <;> first | exact hr2.elim | skip
        obtain ⟨rfl, h', tk, rfl, hS, hk⟩ := hr2
        repeat (any_goals (first | assumption | wp_step))
        exact told _ _ hS hk
end
/-- how many unlike signs -/
def unlike (z : Str) : Nat := distinct ((z.cps.toList.reverse).map fun c => (⟨#[c]⟩ : Str))
def tLenSetT (ta : TE) : TE := fun σ H Q => ta σ H fun x H1 => ∃ z : Str, x = .str z ∧ z.cps.toList.length < 4000 ∧ Q (.int (unlike z : Nat)) H1
theorem pe_lenSetT {X : Cx} {a : Expr} {ta : TE} {p p2 q pos : Pos} (hc : X.calm = true) (hg : Gl X "len") (hm : X.mg "len" = none) (hg2 : Gl X "set") (hm2 : X.mg "set" = none) (ha : PE X a ta)
    (na : starEach [a] X.env = (false, eval a X.env) :: starEach [] X.env := by rfl) : PE X (.Call (.Name "len" p) [.Call (.Name "set" p2) [a] [] q] [] pos) (tLenSetT ta) := by
  refine ⟨fun pins s σ H Q I h => ?_⟩
  refine Call_ (ld_blt I hg hm boot_len (callWith_builtin1 (args_cons ?_ rfl) rfl rfl))
  refine Call_ (ld_blt I hg2 hm2 boot_set (callWith_type1 (args_cons (thn (ha.run pins s σ H _ I h) fun v s1 ⟨x, H1, I1, r1, q1⟩ => args_nil ?_) na) na rfl))
  obtain ⟨z, rfl, small, q1⟩ := q1
  obtain ⟨t, rfl⟩ := r1
  refine call_set_text (I1.ok.hd hc) small fun h' tk hS hk => args_nil ?_
  obtain ⟨o, es, ep, tb, ho, hex, hd, _, _, _, hf, hn⟩ := hS
  have I2 : Inv X pins σ H1 { s1 with heap := h', toks := tk } := I1.kept fun b o e => hk b o (Heap.lt_size e) e
  have le := distinct_le ((z.cps.toList.reverse).map fun c => (⟨#[c]⟩ : Str))
  rw [List.length_map, List.length_reverse] at le
  exact call_len_set ho hex hd hf (by rw [hn] <;> omega) ⟨.int (unlike z : Nat), H1, I2.tok _, ⟨_, by rw [hn]; rfl⟩, q1⟩
def wLenSet (we : WE) : WE := fun ρ m Q Qx => we ρ m (fun d m1 => match d with
  | .str z => z.cps.toList.length < 4000 ∧ Q (.int (unlike z : Nat)) m1
  | _ => False) Qx
theorem pd_lenSet {K : Fg} {W : Wx} {ι : Type} {X : ι → Cx} {mg : Str → Option Value} {a : Expr} {wa : WE} {p p2 q pos : Pos} (hc : ∀ i, (X i).calm = true) (hX : ∀ i, (X i).mg = mg) (hm : mg "len" = none) (hm2 : mg "set" = none) (ha : PD K W X a wa) (hg : ∀ i, Gl (X i) "len" := by intro _; rfl) (hg2 : ∀ i, Gl (X i) "set" := by intro _; rfl)
    (na : ∀ i, starEach [a] (X i).env = (false, eval a (X i).env) :: starEach [] (X i).env := by intro _; rfl) : PD K W X (.Call (.Name "len" p) [.Call (.Name "set" p2) [a] [] q] [] pos) (wLenSet wa) := by
  obtain ⟨t, h1, h2⟩ := ha
  refine ⟨tLenSetT t, fun i => pe_lenSetT (hc i) (hg i) (by rw [hX i]; exact hm) (hg2 i) (by rw [hX i]; exact hm2) (h1 i) (na i), ?_⟩
  intro G m F H σ ρ Q Qd Qx hW hE h hXx hQ
  refine h2 G m F H σ ρ _ _ Qx hW hE h hXx ?_
  intro d m1 x G1 H1 q e1 W1 r1
  cases r1 <;> first | exact (show False from q).elim | skip
  exact ⟨_, rfl, q.1, hQ _ m1 _ G1 H1 q.2 e1 W1 (.int _)⟩
/-- all signs unlike: just as many -/
theorem distinct_all : ∀ l : List Str, distinct l = l.length ↔ l.Nodup
  | [] => by simp [distinct]
  | x :: l => by
    have le := distinct_le l
    have ih := distinct_all l
    rw [List.nodup_cons, List.length_cons]
    unfold distinct
    by_cases c : x ∈ l
    · have e : l.any (· == x) = true := by simpa using c
      rw [e]
      constructor
      · intro z; simp at z; omega
      · intro z; exact absurd c z.1
    · have e : l.any (· == x) = false := by
        rw [Bool.eq_false_iff]
        intro z
        exact c (by simpa using z)
      rw [e]
      constructor
      · intro z; simp at z; exact ⟨c, ih.mp z⟩
      · intro z; simp; exact ih.mpr z.2
end DL
/-! XU: tuple(box), truth, constants of the module -/
namespace DL
open PySem L2 XO
open Evl (Ex)
section
variable {K : Fg} {W : Wx} {ι : Type} {X : ι → Cx} {pos : Pos} {a b c e : Expr} {es : List Expr} {wa wb wc w : WE} {wr : WA}
/-! tuple, list of what may be a box -/
def dTupleM : WC := fun xs m Q => match xs with
  | [.box a] => ∃ ds, m a = some ds ∧ Q (.tup ds) m
  | xs => dTuple xs m Q
def dListM : WC := fun xs m Q => match xs with
  | [.box a] => ∃ ds, m a = some ds ∧ Q (.lst ds) m
  | xs => dList xs m Q
theorem b_tupleM (hK : ∀ i, (X i).K = K) : BiU K X (.type "tuple") dTupleM := by
  refine ⟨_, fun i => hK i ▸ call_tuple_of, ?_⟩
  intro G m F H xs ds Q Qd hW r h hQ
  unfold dTupleM at h
  split at h
  · obtain ⟨ds, hm, q⟩ := h
    obtain ⟨_, _, ys, hy, ry⟩ := hW.own _ ds hm
    cases r with
    | cons r1 t =>
      cases t
      cases r1
      exact ⟨_, _, rfl, Or.inl ⟨SqL.of hy, hQ.tup hW q ry⟩⟩
  · unfold dTuple at h
    split at h
    · cases r with
      | cons r1 t =>
        cases t
        cases r1 with
        | lst hx rr => exact ⟨_, _, rfl, Or.inl ⟨SqL.of (hW.ex _ _ hx), hQ.tup hW h rr⟩⟩
    · cases r with
      | cons r1 t =>
        cases t
        cases r1 with
        | tup hx rr => exact ⟨_, _, rfl, Or.inr ⟨Evl.ex_t hW.ex hx, hQ.here hW h (.tup hx rr)⟩⟩
    · cases h
theorem b_listM (hK : ∀ i, (X i).K = K) : BiU K X (.type "list") dListM := by
  refine ⟨_, fun i => hK i ▸ call_list_of, ?_⟩
  intro G m F H xs ds Q Qd hW r h hQ
  unfold dListM at h
  split at h
  · obtain ⟨ds, hm, q⟩ := h
    obtain ⟨_, _, ys, hy, ry⟩ := hW.own _ ds hm
    cases r with
    | cons r1 t =>
      cases t
      cases r1
      exact ⟨_, _, rfl, Or.inl (SqL.of hy), hQ.lst hW q ry⟩
  · unfold dList at h
    split at h
    · cases r with
      | cons r1 t =>
        cases t
        cases r1 with
        | lst hx rr => exact ⟨_, _, rfl, Or.inl (SqL.of (hW.ex _ _ hx)), hQ.lst hW h rr⟩
    · cases r with
      | cons r1 t =>
        cases t
        cases r1 with
        | tup hx rr => exact ⟨_, _, rfl, Or.inr (Evl.ex_t hW.ex hx), hQ.lst hW h rr⟩
    · cases h
/-! if xs: -/
def truD (m : Mem) : D → Option Bool
  | .non => some false
  | .bl b => some b
  | .int i => some (i != 0)
  | .str z => if z.length ≤ 1000000 then some ((z.length : Int) != 0) else none
  | .lst ds => some (!ds.isEmpty)
  | .tup ds => some (!ds.isEmpty)
  | .scr ns => some (!ns.isEmpty)
  | .box a => (m a).map fun ds => !ds.isEmpty
  | .dct ks _ => some (!ks.isEmpty)
  | _ => none
theorem empty_of {G : Hp} {xs : List V} {ds : List D} (r : RpA K G xs ds) : (!ds.isEmpty) = !xs.isEmpty := by
  cases r <;> rfl
theorem tru_of {G F H : Hp} {m : Mem} {v : V} {d : D} {k : Bool} (hW : Wd K G m F H) (r : Rp K G v d) (h : truD m d = some k) : TruV K v H k := by
  cases r with
  | non => cases h; rfl
  | bl b => cases h; rfl
  | int i => cases h; rfl
  | str z =>
    have h : (if z.length ≤ 1000000 then some ((z.length : Int) != 0) else none) = some k := h
    by_cases hz : z.length ≤ 1000000
    · rw [if_pos hz] at h
      cases h
      exact ⟨by rw [sizeLine_eq]; omega, rfl⟩
    · rw [if_neg hz] at h
      cases h
  | ty n => cases h
  | lst hx rr => cases h; exact Or.inl ⟨_, SqL.of (hW.ex _ _ hx), empty_of rr⟩
  | tup hx rr => cases h; exact Or.inr (Or.inl ⟨_, Evl.ex_t hW.ex hx, empty_of rr⟩)
  | dct hx h1 h2 rr => cases h; exact Or.inr (Or.inr ⟨_, hW.ex _ _ hx, by rw [← h1, List.isEmpty_map]⟩)
  | scr hx => cases h; exact Or.inl ⟨_, Evl.ex_l hW.ex hx, by rw [List.isEmpty_map]⟩
  | box a =>
    have h : (m a).map (fun ds => !ds.isEmpty) = some k := h
    cases e : m a with
    | none => rw [e] at h; cases h
    | some ds =>
      rw [e] at h
      cases h
      obtain ⟨_, _, ys, hy, ry⟩ := hW.own _ ds e
      exact Or.inl ⟨_, SqL.of hy, empty_of ry⟩
  | obj _ _ _ _ _ => cases h
def wTru (w : WE) : WT := fun ρ m Q Qx => w ρ m (fun d m1 => ∃ k, truD m1 d = some k ∧ Q k m1) Qx
theorem pt_tru (hK : ∀ i, (X i).K = K) (ha : PD K W X a wa) (he : ∀ i whole, isTrue a (X i).env whole = (do let v ← whole; standAt a.pos; holding [v] (truthy v)) := by intro _ _; rfl) : PDT K W X a (wTru wa) := by
  obtain ⟨t, h1, h2⟩ := ha
  refine ⟨fun σ H Q => t σ H fun x H' => ∃ k, TruV K x H' k ∧ Q k H', fun i => by have q := pt_truth (h1 i) (he i); rw [hK i] at q; exact q, ?_⟩
  intro G m F H σ ρ Q Qd Qx hW hE h hX hQ
  refine h2 G m F H σ ρ _ _ Qx hW hE h hX ?_
  rintro d m1 x G1 H1 ⟨k, hk, q⟩ e1 W1 r1
  exact ⟨k, tru_of W1 r1 hk, hQ k m1 G1 H1 q e1 W1⟩
/-! a tuple of texts that is a constant of the module -/
theorem pd_globTs {mg : Str → Option Value} {x : Str} {ss : List Str} {at_ : Addr} {o : Obj} {its : Array Value} {n : Nat} (hX : ∀ j, (X j).mg = mg) (hm : mg x = some (.ref at_)) (lk : K.lookup at_ = some o) (oc : o.cls = .type "tuple") (od : o.data = .seq its n) (hz : its.size ≤ sizeLine) (hv : Vals (ss.map V.str) its.toList)
    (hg : ∀ j, Gl (X j) x := by intro _; rfl) (hd : (x == ("__debug__" : Str)) = false := by decide) : PD K W X (.Name x pos) (wC (.tup (ss.map D.str))) :=
  pd_glob (v := V.ref at_) hX hm rfl (fun G => .tup (Or.inr ⟨o, its, n, lk, oc, od, hz, hv⟩) (rp_strs ss)) hg hd
end
end DL
/-! XV: dicts with several texts as keys, d[k]; enumerate(list) -/
namespace DL
open PySem L2 XO
open Evl (Ex)
section
variable {K : Fg} {W : Wx} {ι : Type} {X : ι → Cx} {pos : Pos} {a b c e : Expr} {es : List Expr} {wa wb wc w : WE} {wr : WA}
def PPD (K : Fg) (W : Wx) {ι : Type} (X : ι → Cx) (pos : Pos) (keys : List (Option Expr)) (values : List Expr) (ks : List Str) (wr : WA) : Prop := ∃ trs, (∀ i, PPs (X i) pos keys values trs) ∧
  ∀ G m F H σ ρ (Q : List (V × V) → Hp → Prop) (Qd : List D → Mem → Prop) (Qx : XQ), Wd K G m F H → En K G σ ρ → wr ρ m Qd Qx → FitX K W G F Qx →
    (∀ ds m' vs G' H', Qd ds m' → Ex G G' → Wd K G' m' F H' → RpA K G' vs ds → vs.length = ks.length → Q ((ks.zip vs).map fun p => (V.str p.1, p.2)) H') → tPairs trs σ H Q
theorem ppd_nil : PPD K W X pos [] [] [] wNil := ⟨[], fun _ => pps_nil, fun G m F H σ ρ Q Qd Qx hW hE h hX hQ => hQ [] m [] G H h (Ex.refl G) hW .nil rfl⟩
theorem ppd_cons {k : Str} {j : Nat} {pk : Pos} {v : Expr} {wv : WE} {keys : List (Option Expr)} {values : List Expr} {ks : List Str} (hv : PD K W X v wv) (hr : PPD K W X pos keys values ks wr) : PPD K W X pos (some (.Constant (.str k) j pk) :: keys) (v :: values) (k :: ks) (wCons wv wr) := by
  obtain ⟨tv, h1, h2⟩ := hv
  obtain ⟨trs, r1, r2⟩ := hr
  refine ⟨_, fun i => pps_cons pe_str (h1 i) (r1 i), ?_⟩
  intro G m F H σ ρ Q Qd Qx hW hE h hX hQ
  show tv σ H _
  refine h2 G m F H σ ρ _ _ Qx hW hE h hX ?_
  intro d m1 y G1 H1 q e1 W1 ry
  refine r2 G1 m1 F H1 σ ρ _ _ Qx W1 (hE.mono e1) q (hX.mono e1) ?_
  intro ds m2 vs G2 H2 q2 e2 W2 r hl
  exact hQ _ m2 _ G2 H2 q2 (e1.trans e2) W2 (.cons (ry.mono e2) r) (congrArg (· + 1) hl)
theorem valV_out {ks : List Str} {vs : List V} {k : Str} (h : k ∉ ks) : valV ((ks.zip vs).map fun p => ((.inr p.1 : Key), p.2)) (.inr k) = none := by
  unfold valV
  rw [List.find?_eq_none.mpr ?_]
  · rfl
  · intro x hx
    obtain ⟨p, hp, rfl⟩ := List.mem_map.mp hx
    have := (List.of_mem_zip hp).1
    simp only [decide_eq_true_eq]
    intro z
    cases z
    exact h this
theorem merge_new : ∀ (ks : List Str) (vs : List V) (pre : List Str) (pvs : List V), pre.length = pvs.length → ks.length = vs.length → (pre ++ ks).Nodup →
    mergeK ((pre.zip pvs).map fun p => ((.inr p.1 : Key), p.2)) ((ks.zip vs).map fun p => ((.inr p.1 : Key), p.2)) = ((pre ++ ks).zip (pvs ++ vs)).map fun p => ((.inr p.1 : Key), p.2)
  | [], [], pre, pvs, _, _, _ => by rw [List.append_nil, List.append_nil]; rfl
  | [], _ :: _, _, _, _, h, _ => by cases h
  | _ :: _, [], _, _, _, h, _ => by cases h
  | k :: ks, v :: vs, pre, pvs, hp, h, nd => by
    have hk : k ∉ pre := fun z => (List.nodup_append.mp nd).2.2 k z k List.mem_cons_self rfl
    have e : mergeK ((pre.zip pvs).map fun p => ((.inr p.1 : Key), p.2)) (((k :: ks).zip (v :: vs)).map fun p => ((.inr p.1 : Key), p.2)) = mergeK (putK ((pre.zip pvs).map fun p => ((.inr p.1 : Key), p.2)) (.inr k) v) ((ks.zip vs).map fun p => ((.inr p.1 : Key), p.2)) := rfl
    rw [e, putK_new v (valV_out hk)]
    have e2 : ((pre.zip pvs).map fun p => ((.inr p.1 : Key), p.2)) ++ [((.inr k : Key), v)] = (((pre ++ [k]).zip (pvs ++ [v])).map fun p => ((.inr p.1 : Key), p.2)) := by
      rw [List.zip_append hp, List.map_append]
      rfl
    rw [e2, merge_new ks vs (pre ++ [k]) (pvs ++ [v]) (by rw [List.length_append, List.length_append, hp]; rfl) (by simpa using h) (by rw [List.append_assoc]; exact nd), List.append_assoc, List.append_assoc]
    rfl
/-- {'k': v, ..} -/
def wDctN (ks : List Str) (wr : WA) : WE := fun ρ m Q Qx => wr ρ m (fun ds m1 => Q (.dct (ks.map .inr) ds) m1) Qx
theorem pd_dctN {keys : List (Option Expr)} {values : List Expr} {ks : List Str} (h : PPD K W X pos keys values ks wr) (nd : ks.Nodup := by decide) (hz : ks.length ≤ 15 := by decide) (hall : keys.all (·.isSome) = true := by rfl) (hl : keys.length = values.length := by rfl) (h0 : keys ≠ [] := by exact fun z => nomatch z) (h15 : keys.length ≤ 15 := by decide) : PD K W X (.Dict keys values pos) (wDctN ks wr) := by
  obtain ⟨trs, h1, h2⟩ := h
  refine ⟨_, fun i => pe_disp (h1 i) hall hl h0 h15, ?_⟩
  intro G m F H σ ρ Q Qd Qx hW hE h hX hQ p hp
  obtain ⟨hG, hm, hF⟩ := hW.fresh hp
  have W0 := hW.frame hp (.dK [])
  refine h2 G m (upd F p (.dK [])) _ σ ρ _ _ Qx W0 hE h (hX.frame hF) ?_
  intro ds m1 vs G1 H1 q e1 W1 r hlen
  have hlen2 : ks.length = vs.length := hlen.symm
  refine ⟨W1.fr p _ upd_same, (ks.zip vs).map fun p => ((.inr p.1 : Key), p.2), by rw [List.map_map]; rfl, by rw [List.length_map, List.length_zip]; omega, ?_⟩
  have em := merge_new ks vs [] [] rfl hlen2 nd
  have em : mergeK [] ((ks.zip vs).map fun p => ((.inr p.1 : Key), p.2)) = (ks.zip vs).map fun p => ((.inr p.1 : Key), p.2) := em
  rw [em]
  have W2 := W1.reframe (.dK ((ks.zip vs).map fun p => ((.inr p.1 : Key), p.2)))
  obtain ⟨e3, W3⟩ := W2.adopt hF
  have k1 : ((ks.zip vs).map fun p => ((.inr p.1 : Key), p.2)).map (·.1) = ks.map .inr := by
    rw [List.map_map]
    have : ((·.1) ∘ fun p : Str × V => ((.inr p.1 : Key), p.2)) = (fun s : Str => (.inr s : Key)) ∘ Prod.fst := rfl
    rw [this, ← List.map_map, List.map_fst_zip (by omega)]
  have k2 : ((ks.zip vs).map fun p => ((.inr p.1 : Key), p.2)).map (·.2) = vs := by
    rw [List.map_map]
    have : ((·.2) ∘ fun p : Str × V => ((.inr p.1 : Key), p.2)) = Prod.snd := rfl
    rw [this, List.map_snd_zip (by omega)]
  exact hQ _ m1 _ _ _ q (e1.trans e3) W3 (.dct upd_same k1 k2 (r.mono e3))
/-! d[k] -/
def findD : List Key → List D → Key → Option D
  | k :: ks, d :: ds, x => if k = x then some d else findD ks ds x
  | _, _, _ => none
def wDGet (we wi : WE) : WE := fun ρ m Q Qx => we ρ m (fun x m1 => wi ρ m1 (fun y m2 => match x, y with
  | .dct ks ds, .str s => ∃ d, findD ks ds (.inr s) = some d ∧ Q d m2
  | .dct ks ds, .int i => ∃ d, findD ks ds (.inl i) = some d ∧ Q d m2
  | _, _ => False) Qx) Qx
theorem find_of {G : Hp} {x : Key} : ∀ {kvs : List (Key × V)} {ds : List D} {d : D}, RpA K G (kvs.map (·.2)) ds → findD (kvs.map (·.1)) ds x = some d → ∃ v, valV kvs x = some v ∧ Rp K G v d
  | [], _, _, r, h => by cases r; cases h
  | (k, v) :: kvs, _, d, r, h => by
    cases r with
    | cons r t =>
      have h : (if k = x then some _ else findD (kvs.map (·.1)) _ x) = some d := h
      by_cases c : k = x
      · rw [if_pos c] at h
        cases h
        exact ⟨v, valV_pos c, r⟩
      · rw [if_neg c] at h
        obtain ⟨u, hu, ru⟩ := find_of t h
        refine ⟨u, ?_, ru⟩
        unfold valV at hu ⊢
        rw [List.find?_cons_of_neg (by simpa using c)]
        exact hu
theorem pd_dget {P : Program} {wo : World} {mg : Str → Option Value} {base : Heap} {k : Nat} {N : List Str} (hX : Fam P wo K mg base k N X) (ha : PD K W X a wa) (hb : PD K W X b wb) (hs : NoSl b := by exact fun _ _ => rfl) : PD K W X (.Subscript a b pos) (wDGet wa wb) := by
  obtain ⟨ta, a1, a2⟩ := ha
  obtain ⟨tb, b1, b2⟩ := hb
  refine ⟨_, fun i => pe_dget (by have := (hX.room i).un; omega) (a1 i) (b1 i) hs, ?_⟩
  intro G m F H σ ρ Q Qd Qx hW hE h hXx hQ
  refine a2 G m F H σ ρ _ _ Qx hW hE h hXx ?_
  intro x m1 xv G1 H1 q1 e1 W1 r1
  refine b2 G1 m1 F H1 σ ρ _ _ Qx W1 (hE.mono e1) q1 (hXx.mono e1) ?_
  intro y m2 yv G2 H2 q2 e2 W2 r2
  have r1 := r1.mono e2
  cases r1 <;> first | exact (show False from q2).elim | skip
  rename_i a0 kvs ks vs ds hg h1 h2 rr
  subst h1 h2
  cases r2 <;> first | exact (show False from q2).elim | skip
  · obtain ⟨d, hf, q⟩ := q2
    obtain ⟨v, hv, rv⟩ := find_of rr hf
    exact ⟨a0, v, rfl, Or.inl ⟨kvs, _, Or.inl (W2.ex _ _ hg), rfl, hv.symm⟩, hQ d m2 v G2 H2 q (e1.trans e2) W2 rv⟩
  · obtain ⟨d, hf, q⟩ := q2
    obtain ⟨v, hv, rv⟩ := find_of rr hf
    exact ⟨a0, v, rfl, Or.inl ⟨kvs, _, Or.inl (W2.ex _ _ hg), rfl, hv.symm⟩, hQ d m2 v G2 H2 q (e1.trans e2) W2 rv⟩
end
end DL
/-! XW: a try with several «except C as e» -/
namespace DL
open PySem L2 XO PySem.Spec PyProof.Rows
open Evl (Ex)
abbrev HTs := Addr → Value → Option Addr → TS
inductive HdsAs (X : Cx) (n : Str) : List ExceptHandler → List (Value × HTs) → Prop
  | nil : HdsAs X n [] []
  | cons {x : Str} {c : Value} {ts : HTs} {b0 : Stmt} {suite : List Stmt} {np pos' : Pos} {hds : List ExceptHandler} {l : List (Value × HTs)} (hc : Names X x c)
      (hsu : ∀ (a : Addr) (oe : Obj) (cls : Value) (d : Option Addr) (pn : List (Addr × Obj)), Zc cls d oe → (∃ vs, oe.data = .fields vs) → PSs (X.suite a ((a, oe) :: pn)) (b0 :: suite) (ts a cls d)) (r : HdsAs X n hds l) :
      HdsAs X n (.ExceptHandler (some (.Name x np)) (some n) (b0 :: suite) pos' :: hds) ((c, ts) :: l)
/-- the clauses from the left -/
def wAsL (K : Fg) (i : Nat) (Wout : WX) (D : Ends) : List (Value × HTs) → WX
  | [] => Wout
  | (c, ts) :: r => fun cls d σ H => ∃ b, PySem.W.exmOne K cls c = some b ∧
      (b = true → ∀ a, H a = none → ts a cls d { nx := fun σ' H' => D.nx (σ'.set i none) H', rt := D.rt, bk := fun σ' H' => D.bk (σ'.set i none) H', ct := fun σ' H' => D.ct (σ'.set i none) H' } (σ.set i (some (.ref a))) H) ∧
      (b = false → wAsL K i Wout D r cls d σ H)
section
variable {X : Cx} {n : Str} {i : Nat} {Wout : WX} {D : Ends}
theorem catches (hs : X.stack = X.env :: X.outer) (hf : X.env.frame = some X.env.locals) (hN : X.N.Nodup) (hi : X.N[i]? = some n) (hln : X.env.kindOf n = some .local) (tk : L2.Takes X Wout)
    {pins : List (Addr × Obj)} {sI s' : Shared} {σ' : L2.St} {H' : Hp} {cls : Value} {d : Option Addr} {a : Addr} {B h3 : Heap} (ok : X.Ok) (J : Inv X pins σ' H' sI) (nb : ∀ b o, sI.heap.get? b = some o → b ∉ frs X.stack → B.get? b = some o) (up : sI.heap.UpToSlots s'.heap) (na : H' a = none) (os : s'.os = sI.os) (ag : AllBare s'.gens)
    (fl3 : HandSPX.FlyingZ B (X.env :: X.outer) a (Zc cls d) h3) (up3 : s'.heap.UpToSlots h3) : ∀ {hds : List ExceptHandler} {l : List (Value × HTs)}, HdsAs X n hds l → wAsL X.K i Wout D l cls d σ' H' →
    wpAny (model X.prog X.w) X.A (handleBy (.ref a) X.env hds) (SP X pins D) X.xe { s' with heap := h3 } := by
  have J3 : Inv X pins σ' H' { s' with heap := h3 } := J.landed nb fl3.1 (up.trans up3) os ag
  obtain ⟨oe3, vs3, he3, hz3, hd3⟩ := fl3.there
  have apart : ∀ {h : Heap} {o : Obj} {vs : Array Value}, h.FunFrames B (X.env :: X.outer) → h.get? a = some o → o.data = .fields vs → a ∉ frs (X.env :: X.outer) := by
    intro h o vs ff e dd hm
    obtain ⟨_, o', e', hnf⟩ := ff.mem hm
    cases e.symm.trans e'
    exact hnf _ dd
  have nfr := apart fl3.2.2.1 he3 hd3
  have nL : a ≠ X.env.locals := fun z => nfr (List.mem_filterMap.mpr ⟨X.env, List.mem_cons_self, hf.trans (congrArg some z.symm)⟩)
  have nF : a ∉ X.fs := by
    intro hm
    obtain ⟨e, he, q⟩ := List.mem_filterMap.mp hm
    exact nfr (List.mem_filterMap.mpr ⟨e, List.mem_cons_of_mem _ he, q⟩)
  have S3 := J3.suite he3 hd3 na nL nF
  have looks : PySem.W.Looks (model X.prog X.w) h3 (typeOf (.ref a)) cls := fun A Q E s k q => wpAny_typeOf_ref (k _ _ he3) (hz3.1.symm ▸ q)
  intro hds l hh
  induction hh with
  | nil =>
    intro hw
    refine wpAny_handleBy_nil ?_
    obtain ⟨_, _, _, oe, vs, T, oT, ts', he, hz, hd, h1, hr⟩ := id fl3
    unfold PySem.passOn
    refine wpAny_bind (wpAny_field he hd h1 ?_)
    rw [if_neg (show ¬ ((Value.ref T == Value.none) = true) from by simp)]
    have out : wpAny (model X.prog X.w) X.A (setFlight (.ref a) X.env.frame) (fun _ s4 => wpAny (model X.prog X.w) X.A (throw (.ref a) : Sem Flow) (SP X pins D) X.xe s4) X.xe { s' with heap := h3 } := by
      rw [hf]
      refine HandSPX.setFlight_upZ fl3 fun h4 hh4 up4 => wpAny_throw (tk _ _ ⟨a, B, sI, pins, σ', H', cls, d, rfl, J, nb, (up.trans up3).trans up4, .inr (.inr (hs ▸ hh4)), na, os, ag, hw⟩)
    first | exact wpAny_bind (wpAny_pure (wpAny_bind out)) | exact wpAny_bind out
  | cons hc hsu r ih =>
    rename_i x c ts b0 suite np pos' hds l
    rintro ⟨b, hb, hyes, hno⟩
    have looksM := PySem.W.exm_one (M := model X.prog X.w) J3.kIn looks hb
    refine wpAny_handleBy_cons (codeAny_handlers_test ?_) (by intro q; cases q)
    have test : ∀ {Q E : Value → Shared → Prop}, Q c { s' with heap := h3 } → wpAny (model X.prog X.w) (X.A.mark (some (.ref a))) (eval (.Name x np) X.env) Q E { s' with heap := h3 } := by
      intro Q E q
      obtain ⟨hg, hdbg, hm | ⟨hm, hv, hnn⟩⟩ := hc
      · exact ld_glob (X := X.suite a ((a, oe3) :: (X.pn ++ pins))) S3 hg hm q hdbg
      · exact ld_blt (X := X.suite a ((a, oe3) :: (X.pn ++ pins))) S3 hg hm hv q hnn hdbg
    refine test (looksM.here ?_)
    cases b with
    | false => exact ih (hno rfl)
    | true =>
      refine codeAny_handlers_suite_as (HandSPX.lands_againZ fl3 fun h4 fl4 up4 => ?_)
      have J4 : Inv X pins σ' H' { s' with heap := h4 } := J.landed nb fl4.1 ((up.trans up3).trans up4) os ag
      obtain ⟨oe4, vs4, he4, hz4, hd4⟩ := fl4.there
      have S4 := J4.suite he4 hd4 na nL nF
      refine store_ok (X := X.suite a ((a, oe4) :: (X.pn ++ pins))) (v := .ref a) S4 hN hi (.inl hln) rfl (fun s5 S5 => ?_) (.inr hln)
      refine wpAny_mono ((hsu a oe4 cls d (X.pn ++ pins) hz4 ⟨_, hd4⟩).run [] s5 _ H' _ S5 (hyes rfl a na)) (fun f s6 hsp => ?_) (fun _ _ z => z.elim)
      have gone : ∀ {σ6 : L2.St} {H6 : Hp} {Q : Shared → Prop}, Inv (X.suite a ((a, oe4) :: (X.pn ++ pins))) [] σ6 H6 s6 → (∀ s7, Inv X pins (σ6.set i none) H6 s7 → Q s7) →
          wpAny (model X.prog X.w) X.A (do bindName X.env n .none; unbindBehindTheSuite X.env n pos') (fun _ s7 => Q s7) X.xe s6 := fun S6 hq => gone_ok (S6.unsuite ok) hN hi hln hq
      cases f with
      | ret u =>
        obtain ⟨v6, σ6, H6, S6, r6, q6⟩ := hsp
        exact gone S6 fun s7 J7 => ⟨_, _, _, J7, r6, q6⟩
      | next => obtain ⟨σ6, H6, S6, q6⟩ := hsp; exact gone S6 fun s7 J7 => ⟨_, _, J7, q6⟩
      | brk => obtain ⟨σ6, H6, S6, q6⟩ := hsp; exact gone S6 fun s7 J7 => ⟨_, _, J7, q6⟩
      | cont => obtain ⟨σ6, H6, S6, q6⟩ := hsp; exact gone S6 fun s7 J7 => ⟨_, _, J7, q6⟩
/-- try: body, the clauses from the left -/
theorem try_asL {body : List Stmt} {h0 : ExceptHandler} {hds : List ExceptHandler} {l : List (Value × HTs)} {pos : Pos} {tb : WX → TS} (hs : X.stack = X.env :: X.outer) (hf : X.env.frame = some X.env.locals) (hN : X.N.Nodup) (hi : X.N[i]? = some n) (hln : X.env.kindOf n = some .local) (tk : L2.Takes X Wout)
    (hb : ∀ (W : WX) (pn : List (Addr × Obj)) (xe : Value → Shared → Prop), L2.Takes (X.tr pn xe) W → PassesOwn (model X.prog X.w) X.A X.env xe → PSs (X.tr pn xe) body (tb W)) (hh : HdsAs X n (h0 :: hds) l) :
    PS X (.Try body (h0 :: hds) [] [] pos) (fun D σ H => tb (wAsL X.K i Wout D l) D σ H) := by
  refine ⟨fun pins s σ H D I h => wpAny_Try_except ?_⟩
  have ok := I.ok
  have frames : X.A.frames = some (X.env :: X.outer) := ok.frames.trans (congrArg some hs)
  have caught : ∀ (xe : Value → Shared → Prop) (u : Value) (s' : Shared), L2.XE (X.tr (X.pn ++ pins) xe) (wAsL X.K i Wout D l) u s' → wpAny (model X.prog X.w) X.A (noteFrame u X.env) (fun _ s2 => wpAny (model X.prog X.w) X.A (setFlight u none) (fun _ s3 => wpAny (model X.prog X.w) X.A (handleBy u X.env (h0 :: hds)) (SP X pins D) X.xe s3) X.xe s2) X.xe s' := by
    rintro xe u s' ⟨a, B, sI, pins', σ', H', cls, d, rfl, J', nb, up, sky, na, os, ag, q⟩
    refine Sky.land Zc.steady frames hf (hs ▸ sky) fun h3 fl3 up3 => ?_
    exact catches hs hf hN hi hln tk ok (J'.ofTry ok) nb up na os ag fl3 up3 hh q
  refine wpAny_mono ((hb (wAsL X.K i Wout D l) (X.pn ++ pins) (fun e s1 => wpAny (model X.prog X.w) X.A (noteFrame e X.env) (fun _ s2 => wpAny (model X.prog X.w) X.A (setFlight e none) (fun _ s3 => wpAny (model X.prog X.w) X.A (handleBy e X.env (h0 :: hds)) (SP X pins D) X.xe s3) X.xe s2) X.xe s1) (fun u s' xx => caught _ u s' xx) PassesOwn.looking).run [] s σ H D (I.toTry _) h) (fun f s1 hsp => ?_) (fun e s1 he => he)
  cases f with
  | next => obtain ⟨σ', H', J', q⟩ := hsp; exact wpAny_execs_nil ⟨σ', H', J'.ofTry ok, q⟩
  | brk => obtain ⟨σ', H', J', q⟩ := hsp; exact ⟨σ', H', J'.ofTry ok, q⟩
  | cont => obtain ⟨σ', H', J', q⟩ := hsp; exact ⟨σ', H', J'.ofTry ok, q⟩
  | ret u => obtain ⟨v, σ', H', J', r, q⟩ := hsp; exact ⟨v, σ', H', J'.ofTry ok, r, q⟩
end
/-! at the level of data: each clause «return [tag, e.field]» -/
abbrev Cl := Str × Str × Str
inductive HdD (P : Program) (K : Fg) (mg : Str → Option Value) {ι : Type} (X : ι → Cx) (n : Str) : List ExceptHandler → List Cl → Prop
  | nil : HdD P K mg X n [] []
  | cons {x fld tag : Str} {np p1 p2 p3 p4 p5 pos' : Pos} {j1 : Nat} {hds : List ExceptHandler} {cs : List Cl} (c : XC P K mg x fld) (r : HdD P K mg X n hds cs) (hg : ∀ i, Gl (X i) x := by intro _; rfl) (hd : (x == ("__debug__" : Str)) = false := by decide)
      (hab : ∀ i, attributeBase (.Name n p2) fld (X i).env (eval (.Name n p2) (X i).env) = eval (.Name n p2) (X i).env := by intro _; rfl) :
      HdD P K mg X n (.ExceptHandler (some (.Name x np)) (some n) [.Return (some (.List [.Constant (.str tag) j1 p1, .Attribute (.Name n p2) fld p3] p4)) p5] pos' :: hds) ((x, fld, tag) :: cs)
/-- of a clause and one behind it: who is raised for the later isn't caught by the earlier -/
def Apart (K : Fg) (mg : Str → Option Value) (c c' : Cl) : Prop := ∀ C C', mg c.1 = some (.ref C) → mg c'.1 = some (.ref C') → PySem.W.exmOne K (.ref C') (.ref C) = some false
def tsOf (v : Nat) (C : Addr) (c : Cl) : HTs := fun a cls d => tRet (tLst (tCons (tC (.str c.2.2)) (tCons (tXf a cls d C c.2.1 (tVar v)) tNil)))
inductive LL (K : Fg) (mg : Str → Option Value) (v : Nat) : List Cl → List (Value × HTs) → Prop
  | nil : LL K mg v [] []
  | cons {c : Cl} {C : Addr} {cs : List Cl} {l : List (Value × HTs)} (hm : mg c.1 = some (.ref C)) (he : PySem.W.exmOne K (.ref C) (.ref C) = some true) (r : LL K mg v cs l) : LL K mg v (c :: cs) ((.ref C, tsOf v C c) :: l)
section
variable {P : Program} {w : World} {K : Fg} {mg : Str → Option Value} {base : Heap} {k : Nat} {N : List Str} {W : Wx} {ι : Type} {X : ι → Cx} {n : Str} {v : Nat}
theorem hds_of (hX : FamG P w K mg base k N X) (hi : N[v]? = some n) (hv : ∀ j, Vis (X j).env.scope n) (hdn : (n == ("__debug__" : Str)) = false) (hcn : (n == ("__classdict__" : Str)) = false) :
    ∀ {hds : List ExceptHandler} {cs : List Cl}, HdD P K mg X n hds cs → ∃ l, (∀ i, HdsAs (X i) n hds l) ∧ LL K mg v cs l := by
  intro hds cs hh
  induction hh with
  | nil => exact ⟨[], fun _ => .nil, .nil⟩
  | cons c r hg hd hab ih =>
    obtain ⟨l, h1, h2⟩ := ih
    obtain ⟨C, fI, B, newId, initId, bmB, D, T, hm, hex⟩ := c
    rename_i x fld tag np p1 p2 p3 p4 p5 pos' j1 hds cs
    refine ⟨(.ref C, tsOf v C (x, fld, tag)) :: l, fun i => .cons ⟨hg i, hd, Or.inl (by rw [hX.mg i]; exact hm)⟩ (fun a oe cls d pn hz hfl => ?_) (h1 i), .cons hm hex h2⟩
    refine pss_one (L2.ps_ret (pe_lst (L2.pa_cons pe_str (L2.pa_cons (pe_xf ?_ ?_ hz hfl (pe_var (by exact (hX.hN i) ▸ hi) (hv i) hdn hcn) (hab i)) L2.pa_nil))))
    · show XfC (X i).K C; rw [hX.K i]; exact xfc_of T
    · show PySem.W.findIn (X i).K (.ref C) fld = some none; rw [hX.K i]; exact T.noN
def sTrys (cs : List Cl) (wb : WS) : WS := fun E ρ m => wb { nx := E.nx, rt := E.rt, bk := E.bk, ct := E.ct, ex := fun xx m' => ∃ c ∈ cs, c.1 = xx.cls ∧ c.2.1 = xx.fld ∧ E.rt (.lst [.str c.2.2, xx.val]) m' } ρ m
theorem catch_lift {S : Ends} {Wout : WX} {xx : Xn} {m' : Mem} {d : Option Addr} {σ' : L2.St} {G' F H' : Hp} {cls : Value} {Er : D → Mem → Prop} (hlen : v < σ'.length) (W' : Wd K G' m' F H') (rx : Xr K G' xx d) (hcls : mg xx.cls = some cls)
    (rt : ∀ d m2 v G2 H2, Er d m2 → Ex G' G2 → Wd K G2 m2 F H2 → Rp K G2 v d → S.rt v H2) : ∀ {cs : List Cl} {l : List (Value × HTs)}, LL K mg v cs l → cs.Pairwise (Apart K mg) → (∃ c ∈ cs, c.1 = xx.cls ∧ c.2.1 = xx.fld ∧ Er (.lst [.str c.2.2, xx.val]) m') → wAsL K v Wout S l cls d σ' H' := by
  intro cs l ll
  induction ll with
  | nil => rintro _ ⟨c, hc, _⟩; exact nomatch hc
  | cons hm he r ih =>
    rename_i c C cs l
    intro hp h
    obtain ⟨p1, p2⟩ := List.pairwise_cons.mp hp
    by_cases e : c.1 = xx.cls ∧ c.2.1 = xx.fld ∧ Er (.lst [.str c.2.2, xx.val]) m'
    · obtain ⟨q1, q2, q3⟩ := e
      rw [← q1, hm] at hcls
      cases hcls
      obtain ⟨dd, u, ed, eg, ru⟩ := rx
      refine ⟨true, he, fun _ a ha => ?_, fun z => nomatch z⟩
      refine ⟨.ref a, by rw [List.getElem?_set_self hlen], rfl, rfl, dd, [(xx.fld, u)], u, ed, W'.ex _ _ eg, by rw [q2]; simp [List.lookup], ?_, fun p hp => ?_⟩
      · show 2 ≤ sizeLine
        rw [sizeLine_eq]; decide
      · obtain ⟨e2, W2⟩ := W'.new hp (.lst [.str c.2.2, u])
        exact rt _ m' _ _ _ q3 e2 W2 (.lst upd_same (.cons (.str _) (.cons (ru.mono e2) .nil)))
    · obtain ⟨c', hc', q⟩ := h
      have hin : c' ∈ cs := by
        rcases List.mem_cons.mp hc' with z | z
        · subst z; exact absurd q e
        · exact z
      have hm' : ∃ C', mg c'.1 = some (.ref C') := by
        have look : ∀ {cs : List Cl} {l : List (Value × HTs)}, LL K mg v cs l → ∀ c ∈ cs, ∃ C', mg c.1 = some (.ref C') := by
          intro cs l ll
          induction ll with
          | nil => intro c hc; exact nomatch hc
          | cons hm _ _ ih =>
            intro c hc
            rcases List.mem_cons.mp hc with z | z
            · subst z; exact ⟨_, hm⟩
            · exact ih c z
        exact look r c' hin
      obtain ⟨C', hm'⟩ := hm'
      have ec : cls = .ref C' := by
        rw [← q.1, hm'] at hcls
        exact (Option.some.inj hcls).symm
      refine ⟨false, by rw [ec]; exact p1 c' hin C C' hm hm', (fun z => Bool.noConfusion z), fun _ => ih p2 ⟨c', hin, q⟩⟩
theorem ps_tryRs {body : List Stmt} {wb : WS} {h0 : ExceptHandler} {hds : List ExceptHandler} {cs : List Cl} {pos : Pos} (hX : FamG P w K mg base k N X) (tk : ∀ i, Takes (X i) (toWX mg W)) (v : Nat) (hh : HdD P K mg X n (h0 :: hds) cs) (hp : cs.Pairwise (Apart K mg))
    (hb : ∀ W0 : WX, PDB K (byLen mg N W0) (TrF X W0) body wb) (hi : N[v]? = some n := by rfl)
    (hs : ∀ i, (X i).stack = (X i).env :: (X i).outer := by intro _; rfl) (hf : ∀ i, (X i).env.frame = some (X i).env.locals := by intro _; rfl) (hln : ∀ i, (X i).env.kindOf n = some .local := by intro _; rfl)
    (hv : ∀ j, Vis (X j).env.scope n := by intro _; first | exact Or.inl rfl | exact Or.inr (Or.inl rfl) | exact Or.inr (Or.inr rfl)) (hdn : (n == ("__debug__" : Str)) = false := by decide) (hcn : (n == ("__classdict__" : Str)) = false := by decide) :
    PDS K W X (.Try body (h0 :: hds) [] [] pos) (sTrys cs wb) := by
  obtain ⟨l, h1, h2⟩ := hds_of hX hi hv hdn hcn hh
  refine ⟨fun D σ H => Classical.choose (hb (wAsL K v (toWX mg W) D l)) D σ H, fun i => ?_, ?_⟩
  · have q := try_asL (X := X i) (i := v) (pos := pos) (Wout := toWX mg W) (tb := fun W0 => Classical.choose (hb W0)) (hs i) (hf i) (by rw [hX.hN i]; exact hX.nd) (by rw [hX.hN i]; exact hi) (hln i) (tk i) (fun W0 pn xe t po => (Classical.choose_spec (hb W0)).1 ⟨(i, pn, xe), t, po⟩) (h1 i)
    rw [hX.K i] at q
    exact q
  · intro G m F H σ ρ S E hW hE h ft
    refine (Classical.choose_spec (hb (wAsL K v (toWX mg W) S l))).2 G m F H σ ρ S _ hW hE h ⟨ft.nx, ft.rt, ft.bk, ft.ct, ?_⟩
    intro xx m' d σ' G' H' hx e W' rx hlen cls hcls
    have hvl : v < σ'.length := by
      rw [hlen]
      exact (List.getElem?_eq_some_iff.mp hi).1
    exact catch_lift hvl W' rx hcls (fun d m2 u G2 H2 q e2 => ft.rt d m2 u G2 H2 q (e.trans e2)) h2 hp hx
end
end DL
/-! XY: for i, x in enumerate(list) -/
namespace DL
open PySem L2 XO
open Evl (Ex)
section
variable {K : Fg} {W : Wx} {ι : Type} {X : ι → Cx} {pos : Pos} {a : Expr} {wr : WA}
def enumD (ds : List D) : List D := ds.mapIdx fun i d => .tup [.int (i : Nat), d]
theorem enumD_len (ds : List D) : (enumD ds).length = ds.length := by unfold enumD; rw [List.length_mapIdx]
def iEnumD (wr : WA) : WA := fun ρ m Q Qx => wr ρ m (fun ds m1 => match ds with
  | [.lst xs] => Q (enumD xs) m1
  | _ => False) Qx
theorem pi_enumD {mg : Str → Option Value} {p tpos : Pos} {elts : List Expr} {kk : Nat} (hK : ∀ i, (X i).K = K) (hX : ∀ i, (X i).mg = mg) (hm : mg "enumerate" = none) (ha : PDA K W X [a] wr) (hg : ∀ i, Gl (X i) "enumerate" := by intro _; rfl)
    (hs : ∀ i, starEach [a] (X i).env = [(false, eval a (X i).env)] := by intro _; rfl) : PDI K W X (.Tuple elts kk tpos) (.Call (.Name "enumerate" p) [a] [] pos) (iEnumD wr) := by
  obtain ⟨t, h1, h2⟩ := ha
  refine ⟨iEnum K t, fun i => hK i ▸ pi_enum (hg i) (by rw [hX i]; exact hm) (h1 i) (hs i), ?_⟩
  intro G m F H σ ρ R Qd Qx hW hE h hX hR
  refine h2 G m F H σ ρ _ _ Qx hW hE h hX ?_
  intro ds m1 vs G1 H1 q e1 W1 r1
  split at q
  · rename_i ds
    cases r1 with
    | cons r1 t =>
      cases t
      cases r1 with
      | lst hx rx =>
        refine ⟨_, _, rfl, SqL.of (W1.ex _ _ hx), hR _ _ _ _ _ q e1 W1 ?_⟩
        refine ⟨_, _, by rw [enumD_len, ← rx.len]; exact walk_enum, fun G2 m F H e W => ⟨SqL.of (W.ex _ _ (e _ _ hx)), ?_⟩⟩
        rintro i H' x d hd ⟨T, u, v, rfl, hT, rfl, hu, hv⟩
        unfold enumD at hd
        rw [List.getElem?_mapIdx] at hd
        cases hz : ds[i]? with
        | none => rw [hz] at hd; cases hd
        | some d0 =>
          rw [hz] at hd
          cases hd
          obtain ⟨v', hv', rv⟩ := rx.at hz
          cases hv'.symm.trans hv
          cases (show some (V.int (i : Nat)) = some u from hu)
          obtain ⟨e2, W2⟩ := W.new hT (.tup [.int (i : Nat), v])
          exact ⟨_, e2, W2, .tup (SqT.of upd_same) (.cons (.int _) (.cons (rv.mono (e.trans e2)) .nil))⟩
  · cases q
end
end DL
/-! XZ: enumerate(tuple) -/
namespace DL
open PySem L2 XO
open AutoSeq1 (wpAny_loadPart')
open Evl (Ex)
/-- the iterator of a tuple, as it begins -/
abbrev tupIt (l : Addr) : Obj := { cls := .type "tuple_iterator", data := .fields #[.ref l, .int 0 0] }
abbrev enumOver (it : Addr) : Obj := { cls := .type "enumerate", data := .fields #[.none, .bool false, .ref it, rawInt 0, .none, .none] }
theorem new_enumT (l : Addr) (items : Array Value) (n : Nat) (dct : Option Addr) (sl : Array (Option Value)) :
    Meets (Builtin.«enumerate.__new__» ⟨[.type "enumerate", .ref l], []⟩) (fun _ R s => s.heap.get? l = some { cls := .type "tuple", dict := dct, data := .seq items n, slots := sl } ∧
      R (.ok (.ret (.ref (s.heap.push (tupIt l)).objs.size))) { s with heap := (s.heap.push (tupIt l)).push (enumOver s.heap.objs.size) }) :=
  .of_wp fun prog w A R s h => by
    obtain ⟨hp, gn, dr, tk, os⟩ := s
    obtain ⟨hl, h⟩ := h
    have k_sub := sub_enumerate
    have isT : Heap.IsTuple (Shared.heap ⟨hp, gn, dr, tk, os⟩) l items := ⟨_, hl, rfl, n, rfl⟩
    wp_walk using wpAny_loadPart' hl
    refine wpAny_stack_any fun st => wpAny_pure ?_
    split
    · rename_i c _ _ _ _ _
      cases (c == Value.type "enumerate") <;>
      · wp_walk using wpAny_loadPart' hl, wpAny_pyIter_tuple isT
        exact ⟨_, rfl, h⟩
    · wp_walk using wpAny_loadPart' hl, wpAny_pyIter_tuple isT
      exact ⟨_, rfl, h⟩
section
variable {prog : Program} {w : World} {A : Around} {E : Value → Shared → Prop} {s : Shared}
theorem call_enumT {l : Addr} {items : Array Value} {Q : Value → Shared → Prop} (isT : s.heap.IsTuple l items)
    (told : ∀ h', IsEnum h' (s.heap.objs.size + 1) s.heap.objs.size 0 .none → h'.IsTupleIter s.heap.objs.size l 0 → h'.objs.size = s.heap.objs.size + 2 → (∀ b o, s.heap.get? b = some o → h'.get? b = some o) → Q (.ref (s.heap.objs.size + 1)) { s with heap := h' }) :
    wpAny (model prog w) A (call (.type "enumerate") [.ref l]) Q E s := by
  obtain ⟨⟨c, dct, dt, sl⟩, hl, hc, n, hd⟩ := isT
  obtain rfl : c = .type "tuple" := hc
  obtain rfl : dt = .seq items n := hd
  refine callType_new F.called_enumerate (by decide) (F.typeCall_enumerate_1 _) (F.newCall_enumerate_1 _) (fun obj => F.args_object_init_2 obj _) F.entry_enumerate_new (new_enumT l items n dct sl) ⟨hl, ?_⟩
  have size1 : (s.heap.push (tupIt l)).objs.size = s.heap.objs.size + 1 := Heap.size_push ..
  show _ ∧ _
  rw [size1]
  have he : IsEnum ((s.heap.push (tupIt l)).push (enumOver s.heap.objs.size)) (s.heap.objs.size + 1) s.heap.objs.size 0 .none := by
    have q := Heap.get?_push_size (s.heap.push (tupIt l)) (o := enumOver s.heap.objs.size) rfl
    rw [size1] at q
    exact q
  exact ⟨⟨_, he, rfl⟩, told _ he ⟨_, Heap.get?_push_of_some _ (Heap.get?_push_size _ rfl), rfl, rfl⟩ (by rw [Heap.size_push, size1]) fun b o x => Heap.get?_push_of_some _ (Heap.get?_push_of_some _ x)⟩
end
/-- the tuple at a, each item in a new pair -/
def IteT (K : Fg) (a : Addr) : It :=
  ⟨fun i H => ∃ (xs : List V) (x : V), SqT K H a xs ∧ xs[i]? = some x, fun i H v H' => ∃ T x, v = .ref T ∧ H T = none ∧ H' = upd H T (.tup [.int (i : Nat), x]) ∧ ∀ xs, SqT K H a xs → xs[i]? = some x, fun i H => ∃ xs : List V, SqT K H a xs ∧ xs.length = i⟩
theorem turn_enumT {P : Program} {w : World} {K : Fg} {elts : List Expr} {kk : Nat} {tpos : Pos} (a e it : Addr) :
    Turn P w K (.Tuple elts kk tpos) (IteT K a) [e, it] e (fun i h => (∃ old, IsEnum h e it ((i : Nat) : Int) old) ∧ h.IsTupleIter it a i ∧ e ≠ it ∧ a ≠ it ∧ a ≠ e) where
  mem := List.mem_cons_self
  obj := by
    rintro i h ⟨⟨old, he⟩, ⟨o, ho, hc, hd⟩, _⟩ b hb
    rcases (show b = e ∨ b = it by simpa using hb) with z | z
    · subst z
      exact ⟨_, he, fun v q => nomatch q⟩
    · subst z
      exact ⟨o, ho, fun v q => by rw [hd] at q; cases q⟩
  keep := by
    rintro i h h' ⟨⟨old, he⟩, hi, hne⟩ k
    exact ⟨⟨old, k e (by simp) _ he⟩, hi.at fun o q => k it (by simp) o q, hne⟩
  item := by
    rintro X rfl rfl rfl hc i pins s σ H E I hf ⟨⟨old, he⟩, hit, hne, hai, hae⟩ ⟨xs, x, hq, hx⟩
    obtain ⟨its, rv, p, hz⟩ := I.tuple hq
    obtain ⟨u, hu, ru⟩ := rv.get hx
    have hel : e < s.heap.objs.size := Heap.lt_size he
    have hil : it < s.heap.objs.size := by obtain ⟨_, q, _⟩ := hit; exact Heap.lt_size q
    have isT : s.heap.IsTuple a its.toArray := p
    have calm : X.A.in1.handled = none := I.ok.hd hc
    have far : e ∉ [it, a] := by
      intro z
      rcases (show e = it ∨ e = a by simpa using z) with z | z
      · exact hne z
      · exact hae z.symm
    have hlt : i < its.toArray.size := by
      rw [List.size_toArray]
      exact (List.getElem?_eq_some_iff.mp hu).1
    refine wpAny_pyNext_enum_itemD (Draws.tuple calm it a hai its.toArray) he ⟨hit, isT⟩ hlt hne far fun y h' tk hy ho hst2 hT hsz hk => ?_
    obtain rfl : y = u := by
      have : its.toArray[i]? = some u := by simpa using hu
      exact Option.some.inj (hy.symm.trans this)
    refine ⟨_, rfl, wpAny_letOwnedTupleGo_enum (s := { s with heap := h', toks := tk + 1 }) ho fun h2 he2 sb => ?_⟩
    have hT2 : h2.get? s.heap.objs.size = some { cls := .type "tuple", data := .seq #[.int i tk, y] } := (sb.2 _ (Nat.ne_of_gt hel)).trans hT
    have laid : ObjOk X.prog X.w (upd H s.heap.objs.size (.tup [.int (i : Nat), x])) h2 s.heap.objs.size (.tup [.int (i : Nat), x]) :=
      ⟨by show 2 ≤ sizeLine; decide, [.int i tk, y], .cons ⟨_, rfl⟩ (.cons ru .nil), ⟨_, hT2, rfl, _, rfl⟩⟩
    have J : Inv X pins σ (upd H s.heap.objs.size (.tup [.int (i : Nat), x])) { s with heap := h2, toks := tk + 1 } :=
      I.turnedNew (ch := [e, it]) (fun b ob hb q => (sb.2 b (fun z => hb (by simp [z]))).trans (hk b ob (fun z => hb (by simp [z])) (fun z => hb (by simp [z])) q)) hf (Nat.le_refl _) laid
    refine ⟨.ref s.heap.objs.size, _, J, rfl, ⟨_, x, rfl, I.hok.fresh (Nat.le_refl _), rfl, fun ys hy => by rw [I.tuple_inj hy hq]; exact hx⟩, ⟨⟨y, ?_⟩, hst2.1.at fun o q => (sb.2 it (Ne.symm hne)).trans q, hne, hai, hae⟩, fun b hb => ?_⟩
    · have e1 : ((i + 1 : Nat) : Int) = (i : Int) + 1 := by omega
      rw [e1]
      exact he2
    · have below : b < s.heap.objs.size := by
        rcases (show b = e ∨ b = it by simpa using hb) with z | z
        · exact z ▸ hel
        · exact z ▸ hil
      rw [upd_ne (Nat.ne_of_lt below)]
      exact (hf b hb).1
  done := by
    rintro X rfl rfl rfl hc i pins s σ H E I hf ⟨⟨old, he⟩, hit, hne, hai, hae⟩ ⟨xs, hq, hx⟩
    obtain ⟨its, rv, p, hz⟩ := I.tuple hq
    have isT : s.heap.IsTuple a its.toArray := p
    have calm : X.A.in1.handled = none := I.ok.hd hc
    obtain ⟨f0, f1, f2, f3, f4, f5⟩ := hf it (by simp)
    have ei : i = its.toArray.size := by rw [List.size_toArray, ← rv.length, hx]
    rw [ei] at hit
    exact wpAny_pyNext_enum_endD (Draws.tuple calm it a hai its.toArray) he ⟨hit, isT⟩ fun h' eb => ⟨rfl, I.turned (t' := s.toks) (fun b o hb q => eb b o hb q) f0 f1 f3 f4 f5⟩
  self := fun A i s Q E st h => let ⟨⟨_, he⟩, _⟩ := st; wpAny_pyIter_enum he h
theorem walk_enumT {K : Fg} {a : Addr} {xs : List V} : Walk (IteT K a) xs.length (fun H => SqT K H a xs) (YPair (fun i => some (.int (i : Nat))) (fun i => xs[i]?)) where
  goes := by
    rintro i H hi q
    exact ⟨xs, _, q, List.getElem?_eq_getElem hi⟩
  stops := by
    rintro H q
    exact ⟨xs, q, rfl⟩
  yields := by
    rintro i H v H' hi q ⟨T, x, ev, fresh, eH, kx⟩
    exact ⟨T, _, x, ev, fresh, eH, rfl, kx xs q⟩
def iEnumA (K : Fg) (ta : TA) : TI := fun σ H R => ta σ H fun vs H1 => ∃ a xs, vs = [.ref a] ∧ ((SqL K H1 a xs ∧ R (Ite K a) H1) ∨ (SqT K H1 a xs ∧ R (IteT K a) H1))
theorem pi_enumT {X : Cx} {e : Expr} {ta : TA} {p pos tpos : Pos} {elts : List Expr} {kk : Nat} (hg : Gl X "enumerate") (hm : X.mg "enumerate" = none) (ha : PA X [e] ta) (hs : starEach [e] X.env = [(false, eval e X.env)] := by rfl) :
    PI X (.Tuple elts kk tpos) (.Call (.Name "enumerate" p) [e] [] pos) (iEnumA X.K ta) := by
  refine ⟨fun pins s σ H R I h => ?_⟩
  refine PyProof.Rows.Call_ (ld_blt I hg hm PyProof.Rows.boot_enumerate (PyProof.Rows.callWith_type1 (thn (ha.run pos pins s σ H _ I h) fun us s1 ⟨vs, H1, I1, r1, q1⟩ => ?_) hs rfl))
  obtain ⟨a, xs, rfl, q1⟩ := q1
  cases r1 with
  | cons r rr =>
    cases rr
    cases r
    have two : ∀ b, b ∈ [s1.heap.objs.size + 1, s1.heap.objs.size] → s1.heap.objs.size ≤ b := by
      intro b hb
      rcases (show b = s1.heap.objs.size + 1 ∨ b = s1.heap.objs.size by simpa using hb) with z | z
      · exact z ▸ Nat.le_add_right _ _
      · exact z ▸ Nat.le_refl _
    rcases q1 with ⟨hq, q⟩ | ⟨hq, q⟩
    · obtain ⟨its, rv, p', hz⟩ := I1.list hq
      refine PySem.call_enumerate_list p'.isList fun h' he hit hsz hk => wpAny_pyIter_enum he ?_
      have J : Inv X pins σ H1 { s1 with heap := h' } := I1.kept (t' := s1.toks) hk
      exact ⟨s1.heap.objs.size + 1, [s1.heap.objs.size + 1, s1.heap.objs.size], _, _, H1, rfl, J, turn_enum a (s1.heap.objs.size + 1) s1.heap.objs.size, ⟨⟨.none, he⟩, hit, Nat.succ_ne_self _⟩, fun b hb => I1.fpOk (two b hb) (I1.hok.fresh (two b hb)), q⟩
    · obtain ⟨its, rv, p', hz⟩ := I1.tuple hq
      have isT : s1.heap.IsTuple a its.toArray := p'
      have low : a < s1.heap.objs.size := by obtain ⟨_, e0, _⟩ := isT; exact Heap.lt_size e0
      refine call_enumT isT fun h' he hit hsz hk => wpAny_pyIter_enum he ?_
      have J : Inv X pins σ H1 { s1 with heap := h' } := I1.kept (t' := s1.toks) hk
      exact ⟨s1.heap.objs.size + 1, [s1.heap.objs.size + 1, s1.heap.objs.size], _, _, H1, rfl, J, turn_enumT a (s1.heap.objs.size + 1) s1.heap.objs.size, ⟨⟨.none, he⟩, hit, Nat.succ_ne_self _, Nat.ne_of_lt low, Nat.ne_of_lt (Nat.lt_succ_of_lt low)⟩, fun b hb => I1.fpOk (two b hb) (I1.hok.fresh (two b hb)), q⟩
section
variable {K : Fg} {W : Wx} {ι : Type} {X : ι → Cx} {pos : Pos} {a : Expr} {wr : WA}
def iEnumB (wr : WA) : WA := fun ρ m Q Qx => wr ρ m (fun ds m1 => match ds with
  | [.lst xs] => Q (enumD xs) m1
  | [.tup xs] => Q (enumD xs) m1
  | _ => False) Qx
theorem enum_turn {G G2 : Hp} {xs : List V} {ds : List D} {m : Mem} {F H : Hp} (rx : RpA K G xs ds) (e : Ex G G2) (W : Wd K G2 m F H) : ∀ i H' x d, (enumD ds)[i]? = some d → YPair (fun i => some (.int (i : Nat))) (fun i => xs[i]?) i H x H' → ∃ G', Ex G2 G' ∧ Wd K G' m F H' ∧ Rp K G' x d := by
  rintro i H' x d hd ⟨T, u, v, rfl, hT, rfl, hu, hv⟩
  unfold enumD at hd
  rw [List.getElem?_mapIdx] at hd
  cases hz : ds[i]? with
  | none => rw [hz] at hd; cases hd
  | some d0 =>
    rw [hz] at hd
    cases hd
    obtain ⟨v', hv', rv⟩ := rx.at hz
    cases hv'.symm.trans hv
    cases (show some (V.int (i : Nat)) = some u from hu)
    obtain ⟨e2, W2⟩ := W.new hT (.tup [.int (i : Nat), v])
    exact ⟨_, e2, W2, .tup (SqT.of upd_same) (.cons (.int _) (.cons (rv.mono (e.trans e2)) .nil))⟩
theorem pi_enumB {mg : Str → Option Value} {p tpos : Pos} {elts : List Expr} {kk : Nat} (hK : ∀ i, (X i).K = K) (hX : ∀ i, (X i).mg = mg) (hm : mg "enumerate" = none) (ha : PDA K W X [a] wr) (hg : ∀ i, Gl (X i) "enumerate" := by intro _; rfl)
    (hs : ∀ i, starEach [a] (X i).env = [(false, eval a (X i).env)] := by intro _; rfl) : PDI K W X (.Tuple elts kk tpos) (.Call (.Name "enumerate" p) [a] [] pos) (iEnumB wr) := by
  obtain ⟨t, h1, h2⟩ := ha
  refine ⟨iEnumA K t, fun i => hK i ▸ pi_enumT (hg i) (by rw [hX i]; exact hm) (h1 i) (hs i), ?_⟩
  intro G m F H σ ρ R Qd Qx hW hE h hX hR
  refine h2 G m F H σ ρ _ _ Qx hW hE h hX ?_
  intro ds m1 vs G1 H1 q e1 W1 r1
  split at q
  · cases r1 with
    | cons r1 t =>
      cases t
      cases r1 with
      | lst hx rx => exact ⟨_, _, rfl, Or.inl ⟨SqL.of (W1.ex _ _ hx), hR _ _ _ _ _ q e1 W1 ⟨_, _, by rw [enumD_len, ← rx.len]; exact walk_enum, fun G2 m F H e W => ⟨SqL.of (W.ex _ _ (e _ _ hx)), enum_turn rx e W⟩⟩⟩⟩
  · cases r1 with
    | cons r1 t =>
      cases t
      cases r1 with
      | tup hx rx => exact ⟨_, _, rfl, Or.inr ⟨Evl.ex_t W1.ex hx, hR _ _ _ _ _ q e1 W1 ⟨_, _, by rw [enumD_len, ← rx.len]; exact walk_enumT, fun G2 m F H e W => ⟨Evl.ex_t W.ex (Evl.ex_t e hx), enum_turn rx e W⟩⟩⟩⟩
  · cases q
end
end DL
/-! XL: enumerate(text), repr with boxes, lists beside [], a, b, .. = a list -/
namespace DL
open PySem L2 XO
open AutoSeq1 (wpAny_loadPart')
open Evl (Ex)
/-! enumerate(text) -/
def IteS (z : Str) : It :=
  ⟨fun i _ => i < z.cps.size, fun i H v H' => ∃ T c, v = .ref T ∧ H T = none ∧ H' = upd H T (.tup [.int (i : Nat), .str ⟨#[c]⟩]) ∧ z.cps[i]? = some c, fun i _ => z.cps.size = i⟩
theorem turn_enumS {P : Program} {w : World} {K : Fg} {elts : List Expr} {kk : Nat} {tpos : Pos} (z : Str) (t : Tok) (e it : Addr) :
    Turn P w K (.Tuple elts kk tpos) (IteS z) [e, it] e (fun i h => (∃ old, IsEnum h e it ((i : Nat) : Int) old) ∧ h.IsStrIter it (strIterType z) z t i ∧ e ≠ it) where
  mem := List.mem_cons_self
  obj := by
    rintro i h ⟨⟨old, he⟩, ⟨o, ho, hc, hd⟩, _⟩ b hb
    rcases (show b = e ∨ b = it by simpa using hb) with q | q
    · subst q
      exact ⟨_, he, fun v q => nomatch q⟩
    · subst q
      exact ⟨o, ho, fun v q => by rw [hd] at q; cases q⟩
  keep := by
    rintro i h h' ⟨⟨old, he⟩, hi, hne⟩ k
    obtain ⟨o, ho, hc, hd⟩ := hi
    exact ⟨⟨old, k e (by simp) _ he⟩, ⟨o, k it (by simp) o ho, hc, hd⟩, hne⟩
  item := by
    rintro X rfl rfl rfl hc i pins s σ H E I hf ⟨⟨old, he⟩, hit, hne⟩ hlt
    have hel : e < s.heap.objs.size := Heap.lt_size he
    have hil : it < s.heap.objs.size := by obtain ⟨_, q, _⟩ := hit; exact Heap.lt_size q
    have calm : X.A.in1.handled = none := I.ok.hd hc
    have far : e ∉ [it] := fun q => hne (List.mem_singleton.mp q)
    refine wpAny_pyNext_enum_itemD (Draws.text calm it z t) he hit hlt hne far fun y h' tk hy ho hst2 hT hsz hk => ?_
    obtain ⟨c, u, hcc, rfl⟩ := hy
    refine ⟨_, rfl, wpAny_letOwnedTupleGo_enum (s := { s with heap := h', toks := tk + 1 }) ho fun h2 he2 sb => ?_⟩
    have hT2 : h2.get? s.heap.objs.size = some { cls := .type "tuple", data := .seq #[.int i tk, .str ⟨#[c]⟩ u] } := (sb.2 _ (Nat.ne_of_gt hel)).trans hT
    have laid : ObjOk X.prog X.w (upd H s.heap.objs.size (.tup [.int (i : Nat), .str ⟨#[c]⟩])) h2 s.heap.objs.size (.tup [.int (i : Nat), .str ⟨#[c]⟩]) :=
      ⟨by show 2 ≤ sizeLine; decide, [.int i tk, .str ⟨#[c]⟩ u], .cons ⟨_, rfl⟩ (.cons ⟨_, rfl⟩ .nil), ⟨_, hT2, rfl, _, rfl⟩⟩
    have J : Inv X pins σ (upd H s.heap.objs.size (.tup [.int (i : Nat), .str ⟨#[c]⟩])) { s with heap := h2, toks := tk + 1 } :=
      I.turnedNew (ch := [e, it]) (fun b ob hb q => (sb.2 b (fun z => hb (by simp [z]))).trans (hk b ob (fun z => hb (by simp [z])) (fun z => hb (by simp [z])) q)) hf (Nat.le_refl _) laid
    refine ⟨.ref s.heap.objs.size, _, J, rfl, ⟨_, c, rfl, I.hok.fresh (Nat.le_refl _), rfl, hcc⟩, ⟨⟨.str ⟨#[c]⟩ u, ?_⟩, (by obtain ⟨o, q1, q2, q3⟩ := hst2; exact ⟨o, (sb.2 it (Ne.symm hne)).trans q1, q2, q3⟩), hne⟩, fun b hb => ?_⟩
    · have e1 : ((i + 1 : Nat) : Int) = (i : Int) + 1 := by omega
      rw [e1]
      exact he2
    · have below : b < s.heap.objs.size := by
        rcases (show b = e ∨ b = it by simpa using hb) with q | q
        · exact q ▸ hel
        · exact q ▸ hil
      rw [upd_ne (Nat.ne_of_lt below)]
      exact (hf b hb).1
  done := by
    rintro X rfl rfl rfl hc i pins s σ H E I hf ⟨⟨old, he⟩, hit, hne⟩ hx
    have calm : X.A.in1.handled = none := I.ok.hd hc
    obtain ⟨f0, f1, f2, f3, f4, f5⟩ := hf it (by simp)
    have hx : z.cps.size = i := hx
    rw [← hx] at hit
    exact wpAny_pyNext_enum_endD (Draws.text calm it z t) he hit fun h' eb => ⟨rfl, I.turned (t' := s.toks) (fun b o hb q => eb b o hb q) f0 f1 f3 f4 f5⟩
  self := fun A i s Q E st h => let ⟨⟨_, he⟩, _⟩ := st; wpAny_pyIter_enum he h
theorem walk_enumS {z : Str} : Walk (IteS z) z.cps.size (fun _ => True) (fun i H v H' => ∃ T c, v = .ref T ∧ H T = none ∧ H' = upd H T (.tup [.int (i : Nat), .str ⟨#[c]⟩]) ∧ z.cps[i]? = some c) where
  goes := fun i H hi _ => hi
  stops := fun H _ => rfl
  yields := fun i H v H' hi _ q => q
def iEnumSA (ta : TA) : TI := fun σ H R => ta σ H fun vs H1 => ∃ z, vs = [.str z] ∧ R (IteS z) H1
theorem pi_enumSA {X : Cx} {e : Expr} {ta : TA} {p pos tpos : Pos} {elts : List Expr} {kk : Nat} (hg : Gl X "enumerate") (hm : X.mg "enumerate" = none) (ha : PA X [e] ta) (hs : starEach [e] X.env = [(false, eval e X.env)] := by rfl) :
    PI X (.Tuple elts kk tpos) (.Call (.Name "enumerate" p) [e] [] pos) (iEnumSA ta) := by
  refine ⟨fun pins s σ H R I h => ?_⟩
  refine PyProof.Rows.Call_ (ld_blt I hg hm PyProof.Rows.boot_enumerate (PyProof.Rows.callWith_type1 (thn (ha.run pos pins s σ H _ I h) fun us s1 ⟨vs, H1, I1, r1, q1⟩ => ?_) hs rfl))
  obtain ⟨z, rfl, q1⟩ := q1
  cases r1 with
  | cons r rr =>
    cases rr
    obtain ⟨t, rfl⟩ := r
    have two : ∀ b, b ∈ [s1.heap.objs.size + 1, s1.heap.objs.size] → s1.heap.objs.size ≤ b := by
      intro b hb
      rcases (show b = s1.heap.objs.size + 1 ∨ b = s1.heap.objs.size by simpa using hb) with q | q
      · exact q ▸ Nat.le_add_right _ _
      · exact q ▸ Nat.le_refl _
    refine call_enumerate_str fun h' he hit hsz hk => wpAny_pyIter_enum he ?_
    have J : Inv X pins σ H1 { s1 with heap := h' } := I1.kept (t' := s1.toks) hk
    exact ⟨s1.heap.objs.size + 1, [s1.heap.objs.size + 1, s1.heap.objs.size], _, _, H1, rfl, J, turn_enumS z t (s1.heap.objs.size + 1) s1.heap.objs.size, ⟨⟨.none, he⟩, hit, Nat.succ_ne_self _⟩, fun b hb => I1.fpOk (two b hb) (I1.hok.fresh (two b hb)), q1⟩
section
variable {K : Fg} {W : Wx} {ι : Type} {X : ι → Cx} {pos : Pos} {a : Expr} {wr : WA}
def iEnumS (wr : WA) : WA := fun ρ m Q Qx => wr ρ m (fun ds m1 => match ds with
  | [.str z] => Q (enumD (signs z)) m1
  | _ => False) Qx
theorem pi_enumS {mg : Str → Option Value} {p tpos : Pos} {elts : List Expr} {kk : Nat} (hX : ∀ i, (X i).mg = mg) (hm : mg "enumerate" = none) (ha : PDA K W X [a] wr) (hg : ∀ i, Gl (X i) "enumerate" := by intro _; rfl)
    (hs : ∀ i, starEach [a] (X i).env = [(false, eval a (X i).env)] := by intro _; rfl) : PDI K W X (.Tuple elts kk tpos) (.Call (.Name "enumerate" p) [a] [] pos) (iEnumS wr) := by
  obtain ⟨t, h1, h2⟩ := ha
  refine ⟨iEnumSA t, fun i => pi_enumSA (hg i) (by rw [hX i]; exact hm) (h1 i) (hs i), ?_⟩
  intro G m F H σ ρ R Qd Qx hW hE h hX hR
  refine h2 G m F H σ ρ _ _ Qx hW hE h hX ?_
  intro ds m1 vs G1 H1 q e1 W1 r1
  split at q
  · cases r1 with
    | cons r1 t =>
      cases t
      cases r1
      rename_i z
      refine ⟨z, rfl, hR _ _ _ _ _ q e1 W1 ?_⟩
      have hl : (enumD (signs z)).length = z.cps.size := by
        rw [enumD_len]
        unfold signs
        rw [List.length_map, Array.length_toList]
      refine ⟨_, _, hl ▸ walk_enumS (z := z), fun G2 m F H e W => ⟨trivial, ?_⟩⟩
      rintro i H' x d hd ⟨T, c, rfl, hT, rfl, hcc⟩
      unfold enumD signs at hd
      rw [List.getElem?_mapIdx, List.getElem?_map, Array.getElem?_toList, hcc] at hd
      cases hd
      obtain ⟨e2, W2⟩ := W.new hT (.tup [.int (i : Nat), .str ⟨#[c]⟩])
      exact ⟨_, e2, W2, .tup (SqT.of upd_same) (.cons (.int _) (.cons (.str _) .nil))⟩
  · cases q
end
/-! repr of a list, boxes looked up -/
def dReprM : WC := fun xs m Q => match xs with
  | [x] => ∃ ds, res m x = .lst ds ∧ ShowsU (.lst ds) ∧ Q (.str (py (.lst ds)).shown) m
  | _ => False
theorem b_reprM {P : Program} {w : World} {K : Fg} {mg : Str → Option Value} {base : Heap} {k : Nat} {N : List Str} {ι : Type} {X : ι → Cx} (hX : FamG P w K mg base k N X) : BiU K X (.builtin "repr") dReprM := by
  refine ⟨_, fun i => hX.K i ▸ call_reprU (hX.guards i) (by have := (hX.room i).un; omega), ?_⟩
  intro G m F H xs ds Q Qd hW r h hQ
  unfold dReprM at h
  split at h
  · obtain ⟨es, he, S, q⟩ := h
    cases r with
    | cons r1 t =>
      cases t
      have r2 := rp_res hW.adoptH r1
      rw [he] at r2
      have r3 := r2
      cases r2 with
      | lst hx rr => exact ⟨_, H, _, rfl, Ex.refl H, r3, S, hQ.here hW q (.str _)⟩
  · cases h
/-! a list beside the empty list -/
def rNil (K : Fg) (neg : Bool) : R2 := fun x y H Q => ∃ a b xs, x = .ref a ∧ y = .ref b ∧ SqL K H a xs ∧ SqL K H b [] ∧ Q (.bl (xs.isEmpty ^^ neg)) H
theorem sizes_ne {v : Value} {l : List Value} : ((v :: l).toArray.size != ([] : List Value).toArray.size) = true := by simp
theorem op_eqNil {X : Cx} (hu : X.A.units + 64 < cLine) : OpR X (compareOp .Eq) (rNil X.K false) := by
  rintro pins s σ H x y v u Q I rx ry ⟨a, b, xs, rfl, rfl, h1, h2, q⟩
  cases xs with
  | nil => exact op_eqD hu pins s σ H _ _ v u Q I rx ry ⟨.list [], .list [], .lst h1 .nil, .lst h2 .nil, by decide, by decide, q⟩
  | cons c xs =>
    cases rx; cases ry
    obtain ⟨its, rv, p, hz⟩ := I.list h1
    obtain ⟨its2, rv2, p2, hz2⟩ := I.list h2
    cases rv with
    | cons r1 rr =>
      cases rv2
      exact SeqAt.eq_list_lengthsAt p.isList p2.isList sizes_ne (by omega) ⟨.bl _, H, I, rfl, q⟩
theorem op_neNil {X : Cx} (hu : X.A.units + 64 < cLine) : OpR X (compareOp .NotEq) (rNil X.K true) := by
  rintro pins s σ H x y v u Q I rx ry ⟨a, b, xs, rfl, rfl, h1, h2, q⟩
  cases xs with
  | nil => exact op_neD hu pins s σ H _ _ v u Q I rx ry ⟨.list [], .list [], .lst h1 .nil, .lst h2 .nil, by decide, by decide, q⟩
  | cons c xs =>
    cases rx; cases ry
    obtain ⟨its, rv, p, hz⟩ := I.list h1
    obtain ⟨its2, rv2, p2, hz2⟩ := I.list h2
    cases rv with
    | cons r1 rr =>
      cases rv2
      exact SeqAt.RcNeAt.lists_lengths p.isList p2.isList sizes_ne (by omega) X.prog X.w _ _ ⟨.bl _, H, I, rfl, q⟩
def dNilB (neg : Bool) : WR := fun x y m Q => y = .lst [] ∧ ((∃ ds, x = .lst ds ∧ Q (.bl (ds.isEmpty ^^ neg)) m) ∨ (∃ a ds, x = .box a ∧ m a = some ds ∧ Q (.bl (ds.isEmpty ^^ neg)) m))
theorem lift_nil {K : Fg} {neg : Bool} : LiftR K (rNil K neg) (dNilB neg) := by
  rintro G m F H x y dx dy Q Qd hW rx ry ⟨rfl, h⟩ hQ
  cases ry with
  | lst hy ry =>
    cases ry
    rcases h with ⟨ds, rfl, q⟩ | ⟨a, ds, rfl, hm, q⟩
    · cases rx with
      | lst hx rx =>
        exact ⟨_, _, _, rfl, rfl, SqL.of (hW.ex _ _ hx), SqL.of (hW.ex _ _ hy), by rw [← (show ds.isEmpty = List.isEmpty _ by cases rx <;> rfl)]; exact hQ.here hW q (.bl _)⟩
    · cases rx
      obtain ⟨_, _, xs, hx, rx⟩ := hW.own _ _ hm
      exact ⟨_, _, xs, rfl, rfl, SqL.of hx, SqL.of (hW.ex _ _ hy), by rw [← (show ds.isEmpty = xs.isEmpty by cases rx <;> rfl)]; exact hQ.here hW q (.bl _)⟩
theorem c_eqNil {P : Program} {wo : World} {K : Fg} {mg : Str → Option Value} {base : Heap} {k : Nat} {N : List Str} {ι : Type} {X : ι → Cx} (hX : Fam P wo K mg base k N X) : CmpU K X .Eq (dNilB false) :=
  ⟨_, fun i => hX.K i ▸ op_eqNil (by have := (hX.room i).un; omega), lift_nil⟩
theorem c_neNil {P : Program} {wo : World} {K : Fg} {mg : Str → Option Value} {base : Heap} {k : Nat} {N : List Str} {ι : Type} {X : ι → Cx} (hX : Fam P wo K mg base k N X) : CmpU K X .NotEq (dNilB true) :=
  ⟨_, fun i => hX.K i ▸ op_neNil (by have := (hX.room i).un; omega), lift_nil⟩
/-! a, b, .. = a list, a tuple, a box -/
theorem pg_or {X : Cx} {tg : Expr} {t t' : TG} (h : PG X tg t) (h' : PG X tg t') : PG X tg (fun v σ H Q => t v σ H Q ∨ t' v σ H Q) := by
  refine ⟨fun pins s σ H v u Q I r hw => ?_⟩
  rcases hw with hw | hw
  · exact h.run pins s σ H v u Q I r hw
  · exact h'.run pins s σ H v u Q I r hw
def sUnp (n : Nat) (g : WGs) (w : WE) : WS := fun E ρ m => w ρ m (fun d m1 => ∃ ds, (d = .lst ds ∨ d = .tup ds ∨ ∃ a, d = .box a ∧ m1 a = some ds) ∧ ds.length = n ∧ g ds ρ (fun ρ' => E.nx ρ' m1)) E.ex
theorem ps_unp {K : Fg} {W : Wx} {ι : Type} {X : ι → Cx} {pos p' : Pos} {e : Expr} {es : List Expr} {kx n : Nat} {js : List Nat} {g : WGs} {we : WE} (hK : ∀ i, (X i).K = K) (hc : ∀ i, (X i).calm = true) (he : PD K W X e we) (h : PDGs K X es js g)
    (hn : ∀ i, (assignEach es (X i).env).length = n := by intro _; rfl) (hst : ∀ i, (assignEach es (X i).env).findIdx? (·.1) = none := by intro _; rfl)
    (hs : ∀ i, swapsWithSole [.Tuple es kx p'] e pos.line (X i).env = pure false := by intro _; rfl) (hw : ∀ i, swappedStores [.Tuple es kx p'] e (X i).env = pure none := by intro _; rfl)
    (h1 : ∀ i, (assignEach [.Tuple es kx p'] (X i).env).map (·.2) = [assign (.Tuple es kx p') (X i).env] := by intro _; rfl) : PDS K W X (.Assign [.Tuple es kx p'] e pos) (sUnp n g we) := by
  obtain ⟨te, e1, e2⟩ := he
  obtain ⟨t, a1, a2⟩ := h
  refine ⟨_, fun i => ps_asg (e1 i) (pg_or (hK i ▸ L2.pg_tup (hc i) (a1 i) (hn i) (hst i)) (hK i ▸ L2.pg_lst (hc i) (a1 i) (hn i) (hst i))) (hs i) (hw i) (h1 i), ?_⟩
  intro G m F H σ ρ S E hW hE h f
  refine e2 G m F H σ ρ _ _ E.ex hW hE h f.ex ?_
  rintro d m1 v G1 H1 ⟨ds, hd, hl, q⟩ ex1 W1 r1
  have fin : ∀ (xs : List V), RpA K G1 xs ds → t xs σ H1 S.nx := fun xs rr => a2 G1 m1 F H1 xs ds σ ρ _ _ W1 (hE.mono ex1) rr q fun ρ' σ' h' hE' _ => f.nx ρ' m1 σ' G1 H1 h' ex1 W1 hE'
  rcases hd with rfl | rfl | ⟨a, rfl, hm⟩
  · cases r1 with
    | lst hx rr => exact Or.inr ⟨_, _, rfl, SqL.of (W1.ex _ _ hx), by rw [rr.len]; exact hl, fin _ rr⟩
  · cases r1 with
    | tup hx rr => exact Or.inl ⟨_, _, rfl, Evl.ex_t W1.ex hx, by rw [rr.len]; exact hl, fin _ rr⟩
  · cases r1
    obtain ⟨_, _, xs, hx, rr⟩ := W1.own _ _ hm
    exact Or.inr ⟨_, _, rfl, SqL.of hx, by rw [rr.len]; exact hl, fin _ rr⟩
end DL
/-! XM: a dict beside a text -/
namespace DL
open PySem L2 XO SeqAt
open AutoSeq1 (wpAny_loadPart')
open Evl (Ex)
theorem dict_ne_no (l : Addr) (dt : Data) (dd : Option Addr) (sl : Array (Option Value)) (b : Str) (u : Tok) :
    Meets (Builtin.«dict.__ne__» ⟨[.ref l, .str b u], []⟩) (fun _ R s => s.heap.get? l = some { cls := .type "dict", dict := dd, data := dt, slots := sl } ∧ R (.ok (.ret .notImplemented)) s) :=
  .of_wp fun prog w A R s h => by
    obtain ⟨hp, g, d, tk, os⟩ := s
    obtain ⟨hl, h⟩ := h
    have f1 := F.sub_str_dict
    wp_walk using wpAny_loadPart' hl
    exact ⟨_, rfl, h⟩
theorem str_ne_no (b : Str) (u : Tok) (l : Addr) (c : Value) (ens) (epp) (dd : Option Addr) (sl : Array (Option Value)) :
    Meets (Builtin.«str.__ne__» ⟨[.str b u, .ref l], []⟩) (fun _ R s => s.heap.get? l = some { cls := c, dict := dd, data := .dict ens epp, slots := sl } ∧ R (.ok (.ret .notImplemented)) s) :=
  .of_wp fun prog w A R s h => by
    obtain ⟨hp, g, d, tk, os⟩ := s
    obtain ⟨hl, h⟩ := h
    wp_walk using wpAny_loadPart' hl, wpAny_load hl
    exact ⟨_, rfl, h⟩
theorem ne_dict_str {A : Around} {s : Shared} {l : Addr} {o : Obj} {ens epp} (b : Str) (u : Tok) (ho : s.heap.get? l = some o) (hc : o.cls = .type "dict") (hd : o.data = .dict ens epp) (hu : A.units < cLine) : RcNeAt A s (.ref l) (.str b u) true := fun prog w E Q h => by
  obtain ⟨cls, dd, data, sl⟩ := o
  simp only at hc hd
  subst hc hd
  exact rc_ne_decline_or (k := false) ⟨_, ho, rfl⟩ (typeIs_str s b u) (by decide) F.sub_str_dict F.slot_dict_ne F.slot_str_ne_refl
    (fun _ hq => call_meets F.slot_dict_ne ⟨_, ho, rfl⟩ F.entry_dict_ne (F.args_dict_ne_2 _ _) (dict_ne_no l _ dd sl b u) ⟨ho, hq⟩)
    (fun _ hq => call_meets F.slot_str_ne_refl (typeIs_str s b u) F.entry_str_ne (F.args_str_ne_2 _ _) (str_ne_no b u l (.type "dict") _ _ dd sl) ⟨ho, hq⟩)
    (fun _ hq => wpAny_of_eq (rfl : isSame (.ref l) (.str b u) = pure false) hq) (.inr hu) h
def rNeDS : R2 := fun x y H Q => ∃ a kvs z, x = .ref a ∧ y = .str z ∧ H a = some (.dK kvs) ∧ Q (.bl true) H
theorem op_neDS {X : Cx} (hu : X.A.units + 64 < cLine) : OpR X (compareOp .NotEq) rNeDS := by
  rintro pins s σ H x y v u Q I rx ry ⟨a, kvs, z, rfl, rfl, h1, q⟩
  cases rx
  obtain ⟨t, rfl⟩ := ry
  obtain ⟨_, _, vs, kv, o, es, ep, ho, hex, hd, _⟩ := dk_of I.hok h1
  exact ne_dict_str z t ho hex.1 hd (by omega) X.prog X.w _ _ ⟨.bl _, H, I, rfl, q⟩
/-- x != text, x may be a dict -/
def dNeS : WR := fun x y m Q => match x, y with
  | .dct _ _, .str _ => Q (.bl true) m
  | x, y => dNe x y m Q
theorem c_neS {P : Program} {wo : World} {K : Fg} {mg : Str → Option Value} {base : Heap} {k : Nat} {N : List Str} {ι : Type} {X : ι → Cx} (hX : Fam P wo K mg base k N X) : CmpU K X .NotEq dNeS := by
  obtain ⟨r, h1, h2⟩ := c_ne hX
  refine ⟨fun x y H Q => r x y H Q ∨ rNeDS x y H Q, fun i => (h1 i).or (op_neDS (by have := (hX.room i).un; omega)), ?_⟩
  intro G m F H x y dx dy Q Qd hW rx ry h hQ
  unfold dNeS at h
  split at h
  · cases rx with
    | dct hx _ _ _ =>
      cases ry
      exact Or.inr ⟨_, _, _, rfl, rfl, hW.ex _ _ hx, hQ.here hW h (.bl _)⟩
  · exact Or.inl (h2 G m F H x y dx dy Q Qd hW rx ry h hQ)
end DL
/-! XN: list(e) that is changed later, constants, clauses apart -/
namespace DL
open PySem L2 XO
open Evl (Ex)
section
variable {K : Fg} {W : Wx} {ι : Type} {X : ι → Cx} {pos : Pos}
/-- list(e), owned -/
def itemsD (m : Mem) : D → Option (List D)
  | .lst ds => some ds
  | .tup ds => some ds
  | .box a => m a
  | _ => none
def dListO : WC := fun xs m Q => match xs with
  | [x] => ∃ ds, itemsD m x = some ds ∧ ∀ p, m p = none → Q (.box p) (m.up p ds)
  | _ => False
theorem b_listO (hK : ∀ i, (X i).K = K) : BiU K X (.type "list") dListO := by
  refine ⟨_, fun i => hK i ▸ call_list_of, ?_⟩
  intro G m F H xs ds Q Qd hW r h hQ
  unfold dListO at h
  split at h
  · obtain ⟨es, hi, q⟩ := h
    have fin : ∀ ys, RpA K G ys es → ∀ p, H p = none → Q (.ref p) (upd H p (.lst ys)) := by
      intro ys rr p hp
      obtain ⟨hm, W'⟩ := hW.newOwn hp rr
      exact hQ _ _ _ G _ (q p hm) (Ex.refl G) W' (.box p)
    cases r with
    | cons r1 t =>
      cases t
      cases r1 with
      | lst hx rr => cases hi; exact ⟨_, _, rfl, Or.inl (SqL.of (hW.ex _ _ hx)), fin _ rr⟩
      | tup hx rr => cases hi; exact ⟨_, _, rfl, Or.inr (Evl.ex_t hW.ex hx), fin _ rr⟩
      | box a =>
        obtain ⟨_, _, ys, hy, ry⟩ := hW.own _ _ hi
        exact ⟨_, _, rfl, Or.inl (SqL.of hy), fin _ ry⟩
      | _ => cases hi
  · cases h
/-- a constant that is an object -/
theorem pd_globR {mg : Str → Option Value} {x : Str} {d : D} (hX : ∀ j, (X j).mg = mg) (hm : ∃ a, mg x = some (.ref a) ∧ ∀ G, Rp K G (.ref a) d) (hg : ∀ j, Gl (X j) x := by intro _; rfl) (hd : (x == ("__debug__" : Str)) = false := by decide) : PD K W X (.Name x pos) (wC d) := by
  obtain ⟨a, hm, r⟩ := hm
  exact pd_glob (v := V.ref a) hX hm rfl r hg hd
end
theorem rp_globT {K : Fg} {ss : List Str} {a : Addr} {o : Obj} {its : Array Value} {n : Nat} (lk : K.lookup a = some o) (oc : o.cls = .type "tuple") (od : o.data = .seq its n) (hz : its.size ≤ sizeLine) (hv : Vals (ss.map V.str) its.toList) : ∀ G, Rp K G (.ref a) (.tup (ss.map D.str)) :=
  fun G => .tup (Or.inr ⟨o, its, n, lk, oc, od, hz, hv⟩) (rp_strs ss)
/-- all arguments: those by position, those by name -/
def gApp : List D → List D → List D := fun ds es => ds ++ es
/-- no class of the names catches what is raised for another -/
def ApartAll (K : Fg) (mg : Str → Option Value) (l : List Str) : Prop := ∀ x ∈ l, ∀ y ∈ l, x ≠ y → ∀ C C', mg x = some (.ref C) → mg y = some (.ref C') → PySem.W.exmOne K (.ref C') (.ref C) = some false
theorem pw_of {K : Fg} {mg : Str → Option Value} {l : List Str} (h : ApartAll K mg l) : ∀ {cs : List Cl}, (∀ c ∈ cs, c.1 ∈ l) → (cs.map (·.1)).Nodup → cs.Pairwise (Apart K mg)
  | [], _, _ => .nil
  | c :: cs, hl, hn => by
    rw [List.map_cons, List.nodup_cons] at hn
    refine .cons (fun c' hc' C C' h1 h2 => ?_) (pw_of h (fun c hc => hl c (List.mem_cons_of_mem _ hc)) hn.2)
    refine h c.1 (hl c List.mem_cons_self) c'.1 (hl c' (List.mem_cons_of_mem _ hc')) (fun e => hn.1 ?_) C C' h1 h2
    rw [e]
    exact List.mem_map_of_mem hc'
end DL
namespace DL
open PySem L2 XO
def apartB (K : Fg) (cs : List (Str × Addr)) : Bool := cs.all fun p => cs.all fun q => p.1 == q.1 || PySem.W.exmOne K (.ref q.2) (.ref p.2) == some false
theorem apart_mk {K : Fg} {mg : Str → Option Value} {cs : List (Str × Addr)} (hm : ∀ p ∈ cs, mg p.1 = some (.ref p.2)) (h : apartB K cs = true) : ApartAll K mg (cs.map (·.1)) := by
  intro x hx y hy hne C C' h1 h2
  obtain ⟨p, hp, rfl⟩ := List.mem_map.mp hx
  obtain ⟨q, hq, rfl⟩ := List.mem_map.mp hy
  rw [hm p hp] at h1
  rw [hm q hq] at h2
  cases h1; cases h2
  have a := List.all_eq_true.mp (List.all_eq_true.mp h p hp) q hq
  rcases Bool.or_eq_true_iff.mp a with a | a
  · exact absurd (eq_of_beq a) hne
  · exact eq_of_beq a
end DL
namespace DL
open PySem L2 XO
theorem exm_other {K : Fg} {S T : Addr} (h1 : PySem.W.subIn K (.ref T) (.type "BaseException") = some true) (h2 : PySem.W.isClsIn K T = true) (h3 : PySem.W.typeIn K (.ref T) = some (.type "type")) (h4 : PySem.W.subIn K (.ref S) (.ref T) = some false) : PySem.W.exmOne K (.ref S) (.ref T) = some false := by
  unfold PySem.W.exmOne PySem.W.kitCls
  rw [if_pos (by rw [h1]; rfl)]
  show (if ((PySem.W.clsIn K T).isSome && PySem.W.typeIn K (.ref T) == some (.type "type")) = true then PySem.W.subIn K (.ref S) (.ref T) else none) = some false
  rw [if_pos (by rw [show (PySem.W.clsIn K T).isSome = true from h2, h3]; rfl)]
  exact h4
theorem binds_full {K : Fg} {fd : FuncData} {ps : List Str} (h : ∃ ds, Vals ([] : List V) ds ∧ Binds K fd ps ds) : Binds K fd ps [] := by
  obtain ⟨ds, v, b⟩ := h
  cases v
  exact b
end DL
/-! XP: len(o), x in o, o == p by the own defs of the class of o -/
namespace DL
open PySem L2 XO
open Evl (Ex)
section
variable {P : Program} {w : World} {K : Fg} {mg : Str → Option Value} {base : Heap} {k : Nat} {N : List Str} {W : Wx} {ι : Type} {X : ι → Cx} {f C : Addr} {fd : FuncData} {ps : List Str}
abbrev noX : XK := fun _ _ _ => False
/-- a def that raises nothing, run at A -/
theorem FnG.goesA {X : Cx} {A : Around} {sp : Sp} {pins : List (Addr × Obj)} {σ : L2.St} {H : Hp} {s : Shared} {Q : VK} {us : List Value} {vs : List V} {k : Nat} (Fn : FnG X.prog X.w X.K X.mg X.base (L2.CX X.prog X.w) k f fd ps sp)
    (hg : A.guards = some []) (hr : Room k A) (e0 : Env0 X.prog X.w X.K X.mg X.base A X.stack s H) (hb : Binds X.K fd ps []) (I : Inv X pins σ H s) (r : Vals vs us) (h : sp vs H Q noX) :
    codeAny (model X.prog X.w) A (.call (.ref f) ⟨us, []⟩) (fun r s' => match r with | .ok (.ret v) => EP X pins σ Q v s' | .ok _ => False | .error e => X.xe e s') s := by
  have hlen : (us ++ []).length = ps.length := by
    rw [List.append_nil]
    exact r.length.symm.trans (Fn.size _ _ _ _ h)
  have hbs := hb s us I.kIn hlen
  rw [List.append_nil] at hbs
  refine codeAny_mono (Fn.runs A X.stack s H ⟨us, []⟩ us vs Q noX hg hr e0 hbs r h) ?_
  rintro (e | fl) s' hq
  · obtain ⟨_, _, _, _, _, _, _, _, _, _, _, _, z⟩ := hq
    exact z.elim
  · cases fl <;> first | exact I.after hq | exact (hq : False).elim
/-- len -/
def rLenO (C : Addr) (sp : Sp) : List V → Hp → VK → Prop := fun xs H Q => ∃ a dx fs, xs = [V.ref a] ∧ H a = some (.ins C dx fs) ∧ sp [.ref a] H (fun z H' => ∃ i : Int, z = .int i ∧ 0 ≤ i ∧ i < 2 ^ 62 ∧ Q (.int i) H') noX
theorem call_lenO {X : Cx} {sp : Sp} {k : Nat} (hm : Meth X.K C "__len__" f) (Fn : FnG X.prog X.w X.K X.mg X.base (L2.CX X.prog X.w) k f fd ps sp) (hg : X.A.guards = some []) (hr : Room (k + 1) X.A) (hb : Binds X.K fd ps []) : CallR X (.builtin "len") (rLenO C sp) := by
  intro pins s σ H xs us Q I r h
  obtain ⟨a, dx, fs, rfl, ea, q⟩ := h
  obtain ⟨u, rfl, ru⟩ := r.one
  cases (show u = Value.ref a from ru)
  obtain ⟨mA, O, _⟩ := ins_get I.hok ea
  obtain ⟨od, J, _⟩ := O.look
  obtain ⟨m, hF⟩ := I.fr
  have hr1 : Room k X.A.in1 := Room.in1 hr
  refine PySem.W.len_K hF I.ok.mod.kin J hm.at_ hm.fn (wpAny_mono (wpAny_call (Fn.goesA (us := [.ref a]) (vs := [.ref a]) (A := X.A.in1) hg hr1 I.env0.in1 hb I (.cons rfl .nil) q)) (fun w s' z => ?_) fun _ _ x => x)
  obtain ⟨z', H', I', rz, i, ei, h0, h1, qz⟩ := z
  subst ei
  obtain ⟨t, e⟩ := (show ∃ t, w = Value.int i t from rz)
  cases e
  exact ⟨⟨h0, by omega⟩, .int i, H', I'.tok _, ⟨_, rfl⟩, qz⟩
/-- x in o -/
def rInO (C : Addr) (sp : Sp) : R2 := fun x y H Q => ∃ a dx fs, y = .ref a ∧ H a = some (.ins C dx fs) ∧ sp [y, x] H (fun z H' => ∃ b, z = .bl b ∧ Q (.bl b) H') noX
theorem op_inO {X : Cx} {sp : Sp} {k : Nat} (hm : Meth X.K C "__contains__" f) (Fn : FnG X.prog X.w X.K X.mg X.base (L2.CX X.prog X.w) k f fd ps sp) (hg : X.A.guards = some []) (hr : Room k X.A) (hb : Binds X.K fd ps []) : OpR X (compareOp .In) (rInO C sp) := by
  intro pins s σ H x y v u Q I rx ry h
  obtain ⟨a, dx, fs, rfl, ea, q⟩ := h
  cases (show u = Value.ref a from ry)
  obtain ⟨mA, O, _⟩ := ins_get I.hok ea
  obtain ⟨od, J, _⟩ := O.look
  obtain ⟨m, hF⟩ := I.fr
  refine PySem.W.in_K hF I.ok.mod.kin J hm.at_ hm.fn (wpAny_mono (wpAny_call (Fn.goesA (us := [.ref a, v]) (vs := [.ref a, x]) (A := X.A) hg hr I.env0 hb I (.cons rfl (.cons rx .nil)) q)) (fun w s' z => ?_) fun _ _ x => x)
  obtain ⟨z', H', I', rz, b, ei, qz⟩ := z
  subst ei
  cases (show w = Value.bool b from rz)
  exact wpAny_truthy_bool ⟨.bl b, H', I', rfl, qz⟩
/-- o == y, y no instance of a class under that of o -/
def rEqO (K : Fg) (C : Addr) (sp : Sp) : R2 := fun x y H Q => ∃ a dx fs T, x = .ref a ∧ H a = some (.ins C dx fs) ∧ TyX K H y T ∧ PySem.W.notFirst K C T = true ∧ sp [x, y] H Q noX
theorem op_eqO {X : Cx} {sp : Sp} {k : Nat} (hm : Meth X.K C "__eq__" f) (Fn : FnG X.prog X.w X.K X.mg X.base (L2.CX X.prog X.w) k f fd ps sp) (hg : X.A.guards = some []) (hr : Room k X.A) (hb : Binds X.K fd ps []) : OpR X (compareOp .Eq) (rEqO X.K C sp) := by
  intro pins s σ H x y v u Q I rx ry h
  obtain ⟨a, dx, fs, T, rfl, ea, ty, hn, q⟩ := h
  cases (show v = Value.ref a from rx)
  obtain ⟨mA, O, _⟩ := ins_get I.hok ea
  obtain ⟨od, J, _⟩ := O.look
  obtain ⟨m, hF⟩ := I.fr
  have hu : X.A.units < cLine := hr.units0
  show wpAny (model X.prog X.w) X.A (richCompare .Eq (.ref a) u) (EP X pins σ Q) X.xe s
  obtain ⟨Ph, kx, hp, _⟩ := kit_of I ry ty
  refine PySem.W.cmp_K (op := .Eq) (tb := T) hu hF I.ok.mod.kin J (kx.ty _ _ I.kIn hp) hn hm.at_ hm.fn ?_
  refine wpAny_mono (wpAny_call (Fn.goesA (us := [.ref a, u]) (vs := [.ref a, y]) (A := X.A) hg hr I.env0 hb I (.cons rfl (.cons ry .nil)) q)) (fun w s' z => ?_) fun _ _ x => x
  obtain ⟨z', H', I', rz, qz⟩ := z
  exact SlX.cmpback rz ⟨z', H', I', rz, qz⟩
/-! the same on data -/
def dLenO (n : Str) (fn : DFn) : WC := fun xs m Q => match xs with
  | [.obj n' ks ds] => n' = n ∧ fn [.obj n' ks ds] m (fun z m2 => ∃ i : Int, z = .int i ∧ 0 ≤ i ∧ i < 2 ^ 62 ∧ Q (.int i) m2) (fun _ _ => False)
  | _ => False
def dInO (n : Str) (fn : DFn) : WR := fun x y m Q => match y with
  | .obj n' ks ds => n' = n ∧ fn [.obj n' ks ds, x] m (fun z m2 => ∃ b : Bool, z = .bl b ∧ Q (.bl b) m2) (fun _ _ => False)
  | _ => False
def isObj (n : Str) : D → Bool
  | .obj n' _ _ => n' == n
  | _ => false
def dEqO (n : Str) (fn : DFn) : WR := fun x y m Q => match x with
  | .obj n' ks ds => n' = n ∧ (typedM m y = true ∨ isObj n y = true) ∧ fn [.obj n' ks ds, y] m Q (fun _ _ => False)
  | _ => False
theorem HasM.plain {j : Nat} {n m : Str} {fn : DFn} (hh : HasM P w K mg base j n m ps [] fn) : ∃ C f fd, Kl K mg n C ∧ Meth K C m f ∧ FnG P w K mg base (L2.CX P w) j f fd ps (spD K mg fn) ∧ Binds K fd ps [] := by
  obtain ⟨C, f, fd, dvs, dus, c, hm, Fn, hb, hd, hdd⟩ := hh
  cases hdd (fun _ => none)
  cases hd
  exact ⟨C, f, fd, c, hm, Fn, hb⟩
theorem b_lenO {j : Nat} {n : Str} {fn : DFn} (hX : FamG P w K mg base k N X) (hh : HasM P w K mg base j n "__len__" ps [] fn) (hj : j + 1 ≤ k := by decide) : BiU K X (.builtin "len") (dLenO n fn) := by
  obtain ⟨C, f, fd, c, hm, Fn, hb⟩ := hh.plain
  refine ⟨rLenO C (spD K mg fn), fun i => ?_, ?_⟩
  · have Fi : FnG (X i).prog (X i).w (X i).K (X i).mg (X i).base (L2.CX (X i).prog (X i).w) j f fd ps (spD K mg fn) := by rw [hX.prog i, hX.w i, hX.K i, hX.mg i, hX.base i]; exact Fn
    exact call_lenO (by rw [hX.K i]; exact hm) Fi (hX.guards i) ((hX.room i).mono hj) (by rw [hX.K i]; exact hb)
  · intro G m F H xs ds Q Qd hW r h hQ
    unfold dLenO at h
    split at h
    · rename_i n' ks ds
      obtain ⟨rfl, q⟩ := h
      cases r with
      | cons r1 t =>
        cases t
        have r1' := r1
        cases r1 with
        | obj hn hg hk hv rr =>
          rw [c.own] at hn
          cases hn
          refine ⟨_, _, _, rfl, hW.ex _ _ hg, G, m, F, _, _, (fun _ _ => False), hW, .cons r1' .nil, q, ?_, ?_⟩
          · rintro d m' v G' H' ⟨i, rfl, h0, h1, q⟩ e W' r
            cases r
            exact ⟨i, rfl, h0, h1, hQ _ _ _ _ _ q e W' (.int i)⟩
          · intro x m' cls d G' H' z
            exact z.elim
    · exact h.elim
theorem c_inO {j : Nat} {n : Str} {fn : DFn} (hX : FamG P w K mg base k N X) (hh : HasM P w K mg base j n "__contains__" ps [] fn) (hj : j ≤ k := by decide) : CmpU K X .In (dInO n fn) := by
  obtain ⟨C, f, fd, c, hm, Fn, hb⟩ := hh.plain
  refine ⟨rInO C (spD K mg fn), fun i => ?_, ?_⟩
  · have Fi : FnG (X i).prog (X i).w (X i).K (X i).mg (X i).base (L2.CX (X i).prog (X i).w) j f fd ps (spD K mg fn) := by rw [hX.prog i, hX.w i, hX.K i, hX.mg i, hX.base i]; exact Fn
    exact op_inO (by rw [hX.K i]; exact hm) Fi (hX.guards i) ((hX.room i).mono hj) (by rw [hX.K i]; exact hb)
  · intro G m F H x y dx dy Q Qd hW rx ry h hQ
    unfold dInO at h
    split at h
    · obtain ⟨rfl, q⟩ := h
      have ry' := ry
      cases ry with
      | obj hn hg hk hv rr =>
        rw [c.own] at hn
        cases hn
        refine ⟨_, _, _, rfl, hW.ex _ _ hg, G, m, F, _, _, (fun _ _ => False), hW, .cons ry' (.cons rx .nil), q, ?_, ?_⟩
        · rintro d m' v G' H' ⟨b, rfl, q⟩ e W' r
          cases r
          exact ⟨b, rfl, hQ _ _ _ _ _ q e W' (.bl b)⟩
        · intro x m' cls d G' H' z
          exact z.elim
    · exact h.elim
theorem c_eqO {j : Nat} {n : Str} {C0 : Addr} {fn : DFn} (hX : FamG P w K mg base k N X) (hh : HasM P w K mg base j n "__eq__" ps [] fn) (ci : KlI K mg n C0)
    (hno : ∀ t : String, t = "NoneType" ∨ t = "bool" ∨ t = "int" ∨ t = "str" ∨ t = "list" ∨ t = "tuple" ∨ t = "dict" → PySem.W.notFirst K C0 (.type t) = true) (hj : j ≤ k := by decide) : CmpU K X .Eq (dEqO n fn) := by
  obtain ⟨C, f, fd, c, hm, Fn, hb⟩ := hh.plain
  obtain rfl : C0 = C := by
    have e := ci.own.symm.trans c.own
    cases e
    rfl
  refine ⟨rEqO K C0 (spD K mg fn), fun i => ?_, ?_⟩
  · have Fi : FnG (X i).prog (X i).w (X i).K (X i).mg (X i).base (L2.CX (X i).prog (X i).w) j f fd ps (spD K mg fn) := by rw [hX.prog i, hX.w i, hX.K i, hX.mg i, hX.base i]; exact Fn
    have z := op_eqO (C := C0) (by rw [hX.K i]; exact hm) Fi (hX.guards i) ((hX.room i).mono hj) (by rw [hX.K i]; exact hb)
    rw [hX.K i] at z
    exact z
  · intro G m F H x y dx dy Q Qd hW rx ry h hQ
    unfold dEqO at h
    split at h
    · obtain ⟨rfl, hy, q⟩ := h
      have rx' := rx
      cases rx with
      | obj hn hg hk hv rr =>
        rw [c.own] at hn
        cases hn
        have ty : ∃ T, TyX K H y T ∧ PySem.W.notFirst K C0 T = true := by
          rcases hy with hy | hy
          · exact ⟨_, tyM_has hW ry hy, hno _ (ty_names hy)⟩
          · cases dy <;> first | (cases hy; done) | skip
            rename_i n2 ks2 ds2
            have e2 : n2 = _ := eq_of_beq hy
            subst e2
            cases ry with
            | obj hn2 hg2 hk2 hv2 rr2 =>
              rw [c.own] at hn2
              cases hn2
              exact ⟨.ref C0, .base (.ins (hW.ex _ _ hg2) ci.cls ci.met.1 ci.met.2.1 ci.met.2.2.1 ci.met.2.2.2), by unfold PySem.W.notFirst; simp⟩
        obtain ⟨T, t1, t2⟩ := ty
        refine ⟨_, _, _, T, rfl, hW.ex _ _ hg, t1, t2, G, m, F, _, Qd, (fun _ _ => False), hW, .cons rx' (.cons ry .nil), q, hQ, ?_⟩
        intro x m' cls d G' H' z
        exact z.elim
    · exact h.elim
end
end DL
/-! XPN: o != p by the own == of the class of o -/
namespace HNE
open PySem PySem.Spec PyProof.Rows PySem.SeqAt
section
variable {prog : Program} {w : World} {A : Around} {E : Value → Shared → Prop} {s : Shared} {K : PySem.W.Frag} {x C f L : Addr} {ox : Obj} {od : Option Obj} {u tb : Value}
theorem entry_neO {Q : Fin → Shared → Prop} (hu : A.units < cLine) (X : K.In s.heap) (I : PySem.W.InstAt s.heap x ox C od) (hs : PySem.W.findIn K (.ref C) "__eq__" = some (some (.ref f))) (hf : PySem.W.isFn K (.ref f) = true)
    (hcall : wpAny (model prog w) A (call (.ref f) [.ref x, u]) (fun v s' => ∃ b, v = .bool b ∧ Q (.done (.ret (.bool (!b)))) s') E s) : wpAny (model prog w) A (Builtin.«object.__ne__» ⟨[.ref x, u], []⟩) Q E s := by
  unfold Builtin.«object.__ne__»
  repeat (first
    | with_reducible refine wpAny_cRoomFor hu ?_
    | (refine wpAny_bind (m := callSpecialIfBound? (.ref x) (Str.ofString "__eq__") [u])
        (PySem.W.ifBound_K X I hs hf (wpAny_mono hcall (fun r s' hr => by
          obtain ⟨b, rfl, hq⟩ := hr
          repeat (first | exact hq | exact wpAny_pure hq | exact wpAny_truthy_bool hq | (refine wpAny_bind (m := truthy (.bool _)) (wpAny_truthy_bool ?_)) | wp_step)) fun _ _ e => e)))
    | wp_step)
theorem ifBound_objNe {args : List Value} {Q : Option Value → Shared → Prop} (X : K.In s.heap) (I : PySem.W.InstAt s.heap x ox C od) (hs : PySem.W.findIn K (.ref C) "__ne__" = some (some (.builtin "object.__ne__")))
    (h : wpAny (model prog w) A (call (.builtin "object.__ne__") (.ref x :: args)) (fun v => Q (some v)) E s) : wpAny (model prog w) A (callSpecialIfBound? (.ref x) "__ne__" args) Q E s := by
  simp only [callSpecialIfBound?, bindSpecialIfBound?]
  refine wpAny_holding (wpAny_bind (wpAny_bind (wpAny_bind (I.type.here ((PySem.W.looks_findIn X hs).here ?_)))))
  refine wpAny_bind (wpAny_askSetting (wpAny_ite ?_))
  have fin : wpAny (model prog w) A (call (.builtin "object.__ne__") ([.ref x] ++ args) >>= fun v => pure (some v)) Q E s := wpAny_bind (wpAny_mono h (fun v s' h' => wpAny_pure h') fun _ _ h' => h')
  split
  · exact wpAny_bind (wpAny_of_eq (F.cmp_object.ne.bind _) (wpAny_pure (by exact fin)))
  · exact wpAny_tryCatch (wpAny_bind (wpAny_of_eq (F.cmp_object.ne.bind _) (wpAny_pure (by exact fin))))
theorem cmpNe_K {Q : Value → Shared → Prop} (hu : A.units + 1 < cLine) (X : K.In s.heap) (I : PySem.W.InstAt s.heap x ox C od) (hb : PySem.W.Looks (model prog w) s.heap (typeOf u) tb) (hn : PySem.W.notFirst K C tb = true)
    (he : PySem.W.findIn K (.ref C) "__eq__" = some (some (.ref f))) (hf : PySem.W.isFn K (.ref f) = true) (hne : PySem.W.findIn K (.ref C) "__ne__" = some (some (.builtin "object.__ne__"))) (hm : PySem.W.mroIn K C (.type "object") = some true)
    (h : wpAny (model prog w) A.in1 (call (.ref f) [.ref x, u]) (fun v s' => ∃ b, v = .bool b ∧ Q (.bool (!b)) s') E s) : wpAny (model prog w) A (richCompare .NotEq (.ref x) u) Q E s := by
  have one : wpAny (model prog w) A (tryCompare (.ref x) "__ne__" u) (fun r s' => ∃ v, r = some v ∧ Q v s') E s := by
    unfold tryCompare
    refine wpAny_bind (ifBound_objNe X I hne (wpAny_call (codeAny_call_builtin F.cmp_object.ne.plain F.cmpEntry_ne (PySem.W.check_slot F.cmpKind_ne F.cmpSplit_ne (I.type.andThen (PySem.W.looks_mroIn X hm)) (F.cmpArgs_ne _ _)
      (entry_neO (A := A.in1) (Nat.lt_of_succ_lt_succ (by have : A.in1.units = A.units + 1 := rfl; omega)) X I he hf (wpAny_mono h (fun v s' hv => ?_) fun _ _ e => e))))))
    obtain ⟨b, rfl, hq⟩ := hv
    first | exact ⟨b, rfl, wpAny_pure ⟨_, rfl, hq⟩⟩ | exact ⟨b, rfl, ⟨_, rfl, hq⟩⟩ | exact ⟨b, rfl, wpAny_pure (wpAny_pure ⟨_, rfl, hq⟩)⟩
  unfold richCompare
  simp only [oneThing_ref]
  refine wpAny_holding (wpAny_bind (wpAny_cRoomFor (by omega) ?_))
  rw [cmpInfo_NotEq]
  refine wpAny_bind (I.type.here (wpAny_bind (hb.here ?_)))
  split
  · rename_i q
    have e : PySem.W.subIn K tb (.ref C) = some false := by
      rcases Bool.or_eq_true_iff.mp hn with e | e
      · rw [beq_iff_eq.mp e] at q; simp at q
      · exact beq_iff_eq.mp e
    refine wpAny_bind ((PySem.W.looks_subIn X e).here ?_)
    simp only [Bool.false_eq_true, if_false]
    refine wpAny_bind (wpAny_mono one (fun r s' z => ?_) fun _ _ e => e)
    obtain ⟨v, rfl, hq⟩ := z
    exact wpAny_pure hq
  · refine wpAny_bind (wpAny_pure ?_)
    simp only [Bool.false_eq_true, if_false]
    refine wpAny_bind (wpAny_mono one (fun r s' z => ?_) fun _ _ e => e)
    obtain ⟨v, rfl, hq⟩ := z
    exact wpAny_pure hq
end
end HNE
namespace DL
open PySem L2 XO
open Evl (Ex)
section
variable {P : Program} {w : World} {K : Fg} {mg : Str → Option Value} {base : Heap} {k : Nat} {N : List Str} {W : Wx} {ι : Type} {X : ι → Cx} {f C : Addr} {fd : FuncData} {ps : List Str}
/-- the class has the != of object -/
def NeOf (K : Fg) (C : Addr) : Prop := PySem.W.findIn K (.ref C) "__ne__" = some (some (.builtin "object.__ne__")) ∧ PySem.W.mroIn K C (.type "object") = some true
def rNeO (K : Fg) (C : Addr) (sp : Sp) : R2 := fun x y H Q => ∃ a dx fs T, x = .ref a ∧ H a = some (.ins C dx fs) ∧ TyX K H y T ∧ PySem.W.notFirst K C T = true ∧ sp [x, y] H (fun z H' => ∃ b, z = .bl b ∧ Q (.bl (!b)) H') noX
theorem op_neO {X : Cx} {sp : Sp} {k : Nat} (hm : Meth X.K C "__eq__" f) (hne : NeOf X.K C) (Fn : FnG X.prog X.w X.K X.mg X.base (L2.CX X.prog X.w) k f fd ps sp) (hg : X.A.guards = some []) (hr : Room (k + 1) X.A) (hb : Binds X.K fd ps []) : OpR X (compareOp .NotEq) (rNeO X.K C sp) := by
  intro pins s σ H x y v u Q I rx ry h
  obtain ⟨a, dx, fs, T, rfl, ea, ty, hn, q⟩ := h
  cases (show v = Value.ref a from rx)
  obtain ⟨mA, O, _⟩ := ins_get I.hok ea
  obtain ⟨od, J, _⟩ := O.look
  have hr1 : Room k X.A.in1 := Room.in1 hr
  have hu : X.A.units + 1 < cLine := hr1.units0
  show wpAny (model X.prog X.w) X.A (richCompare .NotEq (.ref a) u) (EP X pins σ Q) X.xe s
  obtain ⟨Ph, kx, hp, _⟩ := kit_of I ry ty
  refine HNE.cmpNe_K (tb := T) hu I.kIn J (kx.ty _ _ I.kIn hp) hn hm.at_ hm.fn hne.1 hne.2 ?_
  refine wpAny_mono (wpAny_call (Fn.goesA (us := [.ref a, u]) (vs := [.ref a, y]) (A := X.A.in1) hg hr1 I.env0.in1 hb I (.cons rfl (.cons ry .nil)) q)) (fun w s' z => ?_) fun _ _ x => x
  obtain ⟨z', H', I', rz, b, ei, qz⟩ := z
  subst ei
  cases (show w = Value.bool b from rz)
  exact ⟨b, rfl, .bl (!b), H', I', rfl, qz⟩
def dNeO (n : Str) (fn : DFn) : WR := fun x y m Q => match x with
  | .obj n' ks ds => n' = n ∧ (typedM m y = true ∨ isObj n y = true) ∧ fn [.obj n' ks ds, y] m (fun z m2 => ∃ b : Bool, z = .bl b ∧ Q (.bl (!b)) m2) (fun _ _ => False)
  | _ => False
theorem c_neO {j : Nat} {n : Str} {C0 : Addr} {fn : DFn} (hX : FamG P w K mg base k N X) (hh : HasM P w K mg base j n "__eq__" ps [] fn) (ci : KlI K mg n C0) (hne : NeOf K C0)
    (hno : ∀ t : String, t = "NoneType" ∨ t = "bool" ∨ t = "int" ∨ t = "str" ∨ t = "list" ∨ t = "tuple" ∨ t = "dict" → PySem.W.notFirst K C0 (.type t) = true) (hj : j + 1 ≤ k := by decide) : CmpU K X .NotEq (dNeO n fn) := by
  obtain ⟨C, f, fd, c, hm, Fn, hb⟩ := hh.plain
  obtain rfl : C0 = C := by
    have e := ci.own.symm.trans c.own
    cases e
    rfl
  refine ⟨rNeO K C0 (spD K mg fn), fun i => ?_, ?_⟩
  · have Fi : FnG (X i).prog (X i).w (X i).K (X i).mg (X i).base (L2.CX (X i).prog (X i).w) j f fd ps (spD K mg fn) := by rw [hX.prog i, hX.w i, hX.K i, hX.mg i, hX.base i]; exact Fn
    have z := op_neO (C := C0) (by rw [hX.K i]; exact hm) (by rw [hX.K i]; exact hne) Fi (hX.guards i) ((hX.room i).mono hj) (by rw [hX.K i]; exact hb)
    rw [hX.K i] at z
    exact z
  · intro G m F H x y dx dy Q Qd hW rx ry h hQ
    unfold dNeO at h
    split at h
    · obtain ⟨rfl, hy, q⟩ := h
      have rx' := rx
      cases rx with
      | obj hn hg hk hv rr =>
        rw [c.own] at hn
        cases hn
        have ty : ∃ T, TyX K H y T ∧ PySem.W.notFirst K C0 T = true := by
          rcases hy with hy | hy
          · exact ⟨_, tyM_has hW ry hy, hno _ (ty_names hy)⟩
          · cases dy <;> first | (cases hy; done) | skip
            rename_i n2 ks2 ds2
            have e2 : n2 = _ := eq_of_beq hy
            subst e2
            cases ry with
            | obj hn2 hg2 hk2 hv2 rr2 =>
              rw [c.own] at hn2
              cases hn2
              exact ⟨.ref C0, .base (.ins (hW.ex _ _ hg2) ci.cls ci.met.1 ci.met.2.1 ci.met.2.2.1 ci.met.2.2.2), by unfold PySem.W.notFirst; simp⟩
        obtain ⟨T, t1, t2⟩ := ty
        refine ⟨_, _, _, T, rfl, hW.ex _ _ hg, t1, t2, G, m, F, _, _, (fun _ _ => False), hW, .cons rx' (.cons ry .nil), q, ?_, ?_⟩
        · rintro d m' v G' H' ⟨b, rfl, q⟩ e W' r
          cases r
          exact ⟨b, rfl, hQ _ _ _ _ _ q e W' (.bl _)⟩
        · intro x m' cls d G' H' z
          exact z.elim
    · exact h.elim
end
end DL
/-! XPA: -x, int(x), max and min of a list -/
namespace DL
open PySem L2 XO
open Evl (Ex)
section
variable {P : Program} {w : World} {K : Fg} {mg : Str → Option Value} {base : Heap} {k : Nat} {N : List Str} {W : Wx} {ι : Type} {X : ι → Cx} {pos : Pos} {a : Expr} {wa : WE}
def wNeg (wa : WE) : WE := fun ρ m Q Qx => wa ρ m (fun d m1 => match d with
  | .int i => Q (.int (-i)) m1
  | _ => False) Qx
theorem pd_neg (ha : PD K W X a wa) : PD K W X (.UnaryOp .USub a pos) (wNeg wa) := by
  obtain ⟨t, h1, h2⟩ := ha
  refine ⟨tUn (rU fun i => .int (-i)) t, fun i => pe_un un_neg (h1 i), ?_⟩
  intro G m F H σ ρ Q Qd Qx hW hE h hX hQ
  refine h2 G m F H σ ρ _ _ Qx hW hE h hX ?_
  intro d m1 v G1 H1 q e1 W1 r1
  cases d <;> first | exact (show False from q).elim | skip
  cases r1
  exact ⟨_, rfl, hQ _ _ _ _ _ q e1 W1 (.int _)⟩
def dInt : WC := fun xs m Q => match xs with
  | [.int i] => Q (.int i) m
  | [.bl b] => Q (.int (if b then 1 else 0)) m
  | _ => False
theorem b_int : BiU K X (.type "int") dInt := by
  refine ⟨_, fun _ => call_int1, ?_⟩
  intro G m F H xs ds Q Qd hW r h hQ
  unfold dInt at h
  split at h
  · cases r with
    | cons r1 t =>
      cases r1
      cases t
      exact Or.inl ⟨_, rfl, hQ.here hW h (.int _)⟩
  · cases r with
    | cons r1 t =>
      cases r1
      cases t
      exact Or.inr ⟨_, rfl, hQ.here hW h (.int _)⟩
  · cases h
/-- the greatest, the least of a list of integers -/
def dMaxL : WC := fun xs m Q => ∃ ns : List Int, xs = [.lst (ns.map D.int)] ∧ 0 < ns.length ∧ ∀ i, i ∈ ns → (∀ y, y ∈ ns → y ≤ i) → Q (.int i) m
def dMinL : WC := fun xs m Q => ∃ ns : List Int, xs = [.lst (ns.map D.int)] ∧ 0 < ns.length ∧ ∀ i, i ∈ ns → (∀ y, y ∈ ns → i ≤ y) → Q (.int i) m
theorem rpa_ints {G : Hp} : ∀ {ns : List Int} {vs : List V}, RpA K G vs (ns.map D.int) → vs = ns.map V.int
  | [], _, r => by cases r; rfl
  | n :: ns, _, r => by
    cases r with
    | cons r t =>
      cases r
      rw [rpa_ints t]
      rfl
theorem b_maxL (hK : ∀ i, (X i).K = K) (hc : ∀ i, (X i).calm = true) : BiU K X (.builtin "max") dMaxL := by
  refine ⟨rMax K, fun i => hK i ▸ cr_max (hc i), ?_⟩
  intro G m F H xs ds Q Qd hW r h hQ
  obtain ⟨ns, rfl, h0, q⟩ := h
  cases r with
  | cons r1 t =>
    cases t
    cases r1 with
    | lst hl rr =>
      have e := rpa_ints rr
      subst e
      exact ⟨_, ns, rfl, SqL.of (hW.ex _ _ hl), h0, fun i hi hm => hQ.here hW (q i hi hm) (.int i)⟩
theorem b_minL (hK : ∀ i, (X i).K = K) (hc : ∀ i, (X i).calm = true) : BiU K X (.builtin "min") dMinL := by
  refine ⟨rMin K, fun i => hK i ▸ cr_min (hc i), ?_⟩
  intro G m F H xs ds Q Qd hW r h hQ
  obtain ⟨ns, rfl, h0, q⟩ := h
  cases r with
  | cons r1 t =>
    cases t
    cases r1 with
    | lst hl rr =>
      have e := rpa_ints rr
      subst e
      exact ⟨_, ns, rfl, SqL.of (hW.ex _ _ hl), h0, fun i hi hm => hQ.here hW (q i hi hm) (.int i)⟩
end
end DL
/-! XA1: starred items, several targets, x op= e, l.pop(i), dict of pairs, d.get -/
namespace DL
open PySem L2 XO
open Evl (Ex)
section
variable {K : Fg} {W : Wx} {ι : Type} {X : ι → Cx} {pos : Pos} {a b c e f : Expr} {es : List Expr} {wa wb wc we wf w : WE} {wr : WA}
/-- *e -/
def wStar (we : WE) (wr : WA) : WA := fun ρ m Q Qx => we ρ m (fun x m1 => match x with
  | .lst ds => wr ρ m1 (fun es m2 => Q (ds ++ es) m2) Qx
  | .tup ds => wr ρ m1 (fun es m2 => Q (ds ++ es) m2) Qx
  | _ => False) Qx
theorem pa_starD {p : Pos} (hK : ∀ i, (X i).K = K) (he : PD K W X e we) (hr : PDA K W X es wr) (hs : ∀ i, starEach (.Starred e p :: es) (X i).env = (true, eval e (X i).env) :: starEach es (X i).env := by intro _; rfl) : PDA K W X (.Starred e p :: es) (wStar we wr) := by
  obtain ⟨te, e1, e2⟩ := he
  obtain ⟨tr, r1, r2⟩ := hr
  refine ⟨_, fun i => hK i ▸ StX.pa_star (e1 i) (r1 i) (hs i), ?_⟩
  intro G m F H σ ρ Q Qd Qx hW hE h hX hQ
  refine e2 G m F H σ ρ _ _ Qx hW hE h hX ?_
  intro d m1 v G1 H1 q f1 W1 r
  cases r <;> first | exact (show False from q).elim | skip
  case lst a xs ds hx rr =>
    refine ⟨a, xs, rfl, Or.inr (SqL.of (W1.ex _ _ hx)), r2 G1 m1 F H1 σ ρ _ _ Qx W1 (hE.mono f1) q (hX.mono f1) ?_⟩
    intro es m2 vs G2 H2 q2 f2 W2 rs
    exact hQ _ m2 _ G2 H2 q2 (f1.trans f2) W2 ((rr.mono f2).app rs)
  case tup a xs ds hx rr =>
    refine ⟨a, xs, rfl, Or.inl (Evl.ex_t W1.ex hx), r2 G1 m1 F H1 σ ρ _ _ Qx W1 (hE.mono f1) q (hX.mono f1) ?_⟩
    intro es m2 vs G2 H2 q2 f2 W2 rs
    exact hQ _ m2 _ G2 H2 q2 (f1.trans f2) W2 ((rr.mono f2).app rs)
/-! t1 = t2 = e, t1 = t2 = t3 = t4 = e -/
theorem wpAny_Assign_four {M : Model} {A : Around} {E : Value → Shared → Prop} {s : Shared} {env : Env} {t₁ t₂ t₃ t₄ value : Expr} {pos : Pos} {Q : Flow → Shared → Prop}
    (h : wpAny M A (eval value env) (fun v s₁ => wpAny M A (assign t₁ env v) (fun _ s₂ => wpAny M A (assign t₂ env v) (fun _ s₃ => wpAny M A (assign t₃ env v) (fun _ s₄ => wpAny M A (assign t₄ env v) (fun _ => Q .next) E s₄) E s₃) E s₂) E s₁) E s)
    (he : (assignEach [t₁, t₂, t₃, t₄] env).map (·.2) = [assign t₁ env, assign t₂ env, assign t₃ env, assign t₄ env] := by rfl)
    (hs : swapsWithSole [t₁, t₂, t₃, t₄] value pos.line env = pure false := by rfl)
    (hw : swappedStores [t₁, t₂, t₃, t₄] value env = pure none := by rfl) :
    wpAny M A (exec (.Assign [t₁, t₂, t₃, t₄] value pos) env) Q E s := by
  refine wpAny_Assign_stores (wpAny_mono h (fun v s₁ h₁ => ?_) fun _ _ x => x) hs hw
  rw [he]
  exact wpAny_bind (wpAny_holding (wpAny_mono h₁ (fun _ s₂ h₂ => wpAny_bind (wpAny_holding (wpAny_mono h₂ (fun _ s₃ h₃ => wpAny_bind (wpAny_holding h₃)) fun _ _ x => x))) fun _ _ x => x))
def sAsg2 (g1 g2 : WG) (we : WE) : WS := fun E ρ m => we ρ m (fun d m1 => g1 d ρ fun ρ1 => g2 d ρ1 fun ρ2 => E.nx ρ2 m1) E.ex
def sAsg4 (g1 g2 g3 g4 : WG) (we : WE) : WS := fun E ρ m => we ρ m (fun d m1 => g1 d ρ fun ρ1 => g2 d ρ1 fun ρ2 => g3 d ρ2 fun ρ3 => g4 d ρ3 fun ρ4 => E.nx ρ4 m1) E.ex
theorem ps_asg2D {t1 t2 : Expr} {j1 j2 : List Nat} {g1 g2 : WG} (he : PD K W X e we) (h1 : PDG K X t1 j1 g1) (h2 : PDG K X t2 j2 g2) (ha : ∀ i, (assignEach [t1, t2] (X i).env).map (·.2) = [assign t1 (X i).env, assign t2 (X i).env] := by intro _; rfl) (hw : ∀ i, swappedStores [t1, t2] e (X i).env = pure none := by intro _; rfl) :
    PDS K W X (.Assign [t1, t2] e pos) (sAsg2 g1 g2 we) := by
  obtain ⟨te, e1, e2⟩ := he
  obtain ⟨u1, a1, a2⟩ := h1
  obtain ⟨u2, b1, b2⟩ := h2
  refine ⟨_, fun i => L2.ps_asg2 (e1 i) (a1 i) (b1 i) (ha i) (hw i), ?_⟩
  intro G m F H σ ρ S E hW hE h fs
  refine e2 G m F H σ ρ _ _ E.ex hW hE h fs.ex ?_
  intro d m1 v G1 H1 q f1 W1 r1
  refine a2 G1 m1 F H1 v d σ ρ _ _ W1 (hE.mono f1) r1 q ?_
  intro ρ1 σ1 q1 E1 _
  refine b2 G1 m1 F H1 v d σ1 ρ1 _ _ W1 E1 r1 q1 ?_
  intro ρ2 σ2 q2 E2 _
  exact fs.nx _ m1 _ G1 _ q2 f1 W1 E2
theorem ps_asg4D {t1 t2 t3 t4 : Expr} {j1 j2 j3 j4 : List Nat} {g1 g2 g3 g4 : WG} (he : PD K W X e we) (h1 : PDG K X t1 j1 g1) (h2 : PDG K X t2 j2 g2) (h3 : PDG K X t3 j3 g3) (h4 : PDG K X t4 j4 g4)
    (ha : ∀ i, (assignEach [t1, t2, t3, t4] (X i).env).map (·.2) = [assign t1 (X i).env, assign t2 (X i).env, assign t3 (X i).env, assign t4 (X i).env] := by intro _; rfl) (hs : ∀ i, swapsWithSole [t1, t2, t3, t4] e pos.line (X i).env = pure false := by intro _; rfl) (hw : ∀ i, swappedStores [t1, t2, t3, t4] e (X i).env = pure none := by intro _; rfl) :
    PDS K W X (.Assign [t1, t2, t3, t4] e pos) (sAsg4 g1 g2 g3 g4 we) := by
  obtain ⟨te, e1, e2⟩ := he
  obtain ⟨u1, a1, a2⟩ := h1
  obtain ⟨u2, b1, b2⟩ := h2
  obtain ⟨u3, c1, c2⟩ := h3
  obtain ⟨u4, d1, d2⟩ := h4
  refine ⟨fun D σ H => te σ H fun x H1 => u1 x σ H1 fun σ1 H2 => u2 x σ1 H2 fun σ2 H3 => u3 x σ2 H3 fun σ3 H4 => u4 x σ3 H4 D.nx, fun i => ⟨fun pins s σ H D I h => ?_⟩, ?_⟩
  · refine wpAny_Assign_four (thn ((e1 i).run pins s σ H _ I h) fun v s1 ⟨x, H1, I1, r1, q1⟩ => ?_) (ha i) (hs i) (hw i)
    refine thn ((a1 i).run pins s1 σ H1 x v _ I1 r1 q1) fun _ s2 ⟨σ2, H2, I2, q2⟩ => ?_
    refine thn ((b1 i).run pins s2 σ2 H2 x v _ I2 r1 q2) fun _ s3 ⟨σ3, H3, I3, q3⟩ => ?_
    refine thn ((c1 i).run pins s3 σ3 H3 x v _ I3 r1 q3) fun _ s4 ⟨σ4, H4, I4, q4⟩ => ?_
    exact thn ((d1 i).run pins s4 σ4 H4 x v _ I4 r1 q4) fun _ s5 q => q
  · intro G m F H σ ρ S E hW hE h fs
    refine e2 G m F H σ ρ _ _ E.ex hW hE h fs.ex ?_
    intro d m1 v G1 H1 q f1 W1 r1
    refine a2 G1 m1 F H1 v d σ ρ _ _ W1 (hE.mono f1) r1 q ?_
    intro ρ1 σ1 q1 E1 _
    refine b2 G1 m1 F H1 v d σ1 ρ1 _ _ W1 E1 r1 q1 ?_
    intro ρ2 σ2 q2 E2 _
    refine c2 G1 m1 F H1 v d σ2 ρ2 _ _ W1 E2 r1 q2 ?_
    intro ρ3 σ3 q3 E3 _
    refine d2 G1 m1 F H1 v d σ3 ρ3 _ _ W1 E3 r1 q3 ?_
    intro ρ4 σ4 q4 E4 _
    exact fs.nx _ m1 _ G1 _ q4 f1 W1 E4
/-! x op= e -/
def InU (K : Fg) {ι : Type} (X : ι → Cx) (op : Operator) (w : WR) : Prop := ∃ r : R2, (∀ i, PIp (X i) op r) ∧ LiftR K r w
def dAddI : WR := fun x y m Q => match x, y with
  | .int i, .int j => Q (.int (i + j)) m
  | _, _ => False
theorem in_addD : InU K X .Add dAddI := by
  refine ⟨L2.rAdd, fun i => in_add, ?_⟩
  intro G m F H x y dx dy Q Qd hW rx ry h hQ
  cases rx <;> cases ry <;> first | exact (show False from h).elim | skip
  case int.int i j => exact ⟨i, j, rfl, rfl, hQ.here hW h (.int _)⟩
def sAug (i : Nat) (r : WR) (we : WE) : WS := fun E ρ m => match ρ[i]? with
  | some (some d) => we ρ m (fun y m1 => r d y m1 fun z m2 => E.nx (ρ.set i (some z)) m2) E.ex
  | _ => False
theorem ps_augD (i : Nat) {op : Operator} {N : List Str} {x : Str} {p' : Pos} {r : WR} (ho : InU K X op r) (hX : ∀ j, (X j).N = N) (hN : N.Nodup) (he : PD K W X e we) (hi : N[i]? = some x := by rfl) (hx : ∀ j, Loc (X j).env.scope x := by intro _; first | exact Or.inl rfl | exact Or.inr rfl)
    (hf : ∀ j, (X j).fn x = true ∨ (X j).env.scope.names.lookup x = some .local := by intro _; first | exact Or.inl rfl | exact Or.inr rfl) : PDS K W X (.AugAssign (.Name x p') op e pos) (sAug i r we) := by
  obtain ⟨te, e1, e2⟩ := he
  obtain ⟨rr, o1, o2⟩ := ho
  refine ⟨_, fun j => L2.ps_aug (i := i) (by rw [hX j]; exact hN) (by rw [hX j]; exact hi) (hx j) (e1 j) (o1 j) (hf j), ?_⟩
  intro G m F H σ ρ S E hW hE h fs
  unfold sAug at h
  split at h
  · rename_i d ed
    obtain ⟨v, h1, h2⟩ := hE.get ed
    refine ⟨v, h1, e2 G m F H σ ρ _ _ E.ex hW hE h fs.ex ?_⟩
    intro y m1 u G1 H1 q f1 W1 ry
    refine o2 G1 m1 F H1 v u d y _ _ W1 (h2.mono f1) ry q ?_
    intro z m2 zv G2 H2 q2 f2 W2 rz
    exact fs.nx _ m2 _ G2 _ q2 (f1.trans f2) W2 ((hE.mono (f1.trans f2)).put rz i)
  · cases h
end
end DL
/-! XA2: tuple * k, also for k = 1 and k ≤ 0 -/
namespace L2
open PySem PySem.Spec PyProof.Rows
theorem tuple_mul1 (l : Addr) (items : Array Value) (n : Nat) (dd : Option Addr) (x : Int) (u : Tok) (sl : Array (Option Value)) (c0 : (decide (x < -(2 ^ 63)) || decide (x ≥ 2 ^ 63)) = false) (c1 : (items.isEmpty || x == 1) = true) :
    Meets (Builtin.«tuple.__mul__» ⟨[.ref l, .int x u], []⟩) (fun _ R s => s.heap.get? l = some { cls := .type "tuple", dict := dd, data := .seq items n, slots := sl } ∧
      R (.ok (.ret (Value.ref l))) s) :=
  .of_wp fun prog w A R s h => by
    obtain ⟨hp, g, d, tk, os⟩ := s
    obtain ⟨hl, h⟩ := h
    have f1 := AutoSeq1.idx_int
    wp_walk using wpAny_loadPart' hl
    repeat (first
      | (refine wpAny_ite_false (decide_eq_false (by rw [c0]; exact Bool.false_ne_true)) ?_; wp_walk using wpAny_loadPart' hl)
      | (refine wpAny_ite_true (decide_eq_true c1) ?_; wp_walk using wpAny_loadPart' hl))
    all_goals exact ⟨_, rfl, h⟩
theorem tuple_mul0 (l : Addr) (items : Array Value) (n : Nat) (dd : Option Addr) (x : Int) (u : Tok) (sl : Array (Option Value)) (c0 : (decide (x < -(2 ^ 63)) || decide (x ≥ 2 ^ 63)) = false) (c1 : (items.isEmpty || x == 1) = false) (c2 : (decide (x ≤ 0) || items.isEmpty) = true) :
    Meets (Builtin.«tuple.__mul__» ⟨[.ref l, .int x u], []⟩) (fun _ R s => s.heap.get? l = some { cls := .type "tuple", dict := dd, data := .seq items n, slots := sl } ∧
      R (.ok (.ret (Value.ref s.heap.objs.size))) { s with heap := s.heap.push { cls := Value.type "tuple", data := Data.seq #[] }, toks := s.toks }) :=
  .of_wp fun prog w A R s h => by
    obtain ⟨hp, g, d, tk, os⟩ := s
    obtain ⟨hl, h⟩ := h
    have f1 := AutoSeq1.idx_int
    wp_walk using wpAny_loadPart' hl
    repeat (first
      | (refine wpAny_ite_false (decide_eq_false (by rw [c0]; exact Bool.false_ne_true)) ?_; wp_walk using wpAny_loadPart' hl)
      | (refine wpAny_ite_false (decide_eq_false (by rw [c1]; exact Bool.false_ne_true)) ?_; wp_walk using wpAny_loadPart' hl)
      | (refine wpAny_ite_true (decide_eq_true c2) ?_; wp_walk using wpAny_loadPart' hl))
    all_goals exact ⟨_, rfl, h⟩
def rRepT0 (K : PySem.W.Frag) : R2 := fun x y H Q => ∃ l k xs, x = .ref l ∧ y = .int k ∧ SqT K H l xs ∧ xs ≠ [] ∧ -1000 ≤ k ∧ k ≤ 0 ∧ ∀ p, H p = none → Q (.ref p) (upd H p (.tup []))
def rRepT1 (K : PySem.W.Frag) : R2 := fun x y H Q => ∃ l xs, x = .ref l ∧ y = .int 1 ∧ SqT K H l xs ∧ Q (.ref l) H
section
variable {X : Cx}
theorem op_repT1 : OpR X (binaryOp .Mult) (rRepT1 X.K) := by
  intro pins s σ H x y v u Q I rx ry h
  obtain ⟨l, xs, rfl, rfl, hT, q⟩ := h
  cases rx
  obtain ⟨t, rfl⟩ := ry
  obtain ⟨its, r, ⟨⟨cls, dd, data, sl⟩, ho, hc, n, hd⟩, hs⟩ := I.tuple hT
  simp only at hc hd
  subst hc hd
  have ty : s.TypeIs (.ref l) "tuple" := ⟨_, ho, rfl⟩
  have c0 : (decide ((1 : Int) < -(2 ^ 63)) || decide ((1 : Int) ≥ 2 ^ 63)) = false := by decide
  refine wpAny_binaryOp_repeat_ref (T := "tuple") (U := "int") (by decide) ⟨_, ho, rfl⟩ (fun s' => typeIs_int s' 1 t) noFill_tuple_mul F.fills_int_mul F.slot_int_rmul repeat_tuple F.slot_int_index.lookup
    (call_meets F.slot_int_rmul (typeIs_int s 1 t) F.entry_int_rmul (F.args_int_rmul_2 _ _) (int_rmul_tuple 1 t l its.toArray n dd sl)
      ⟨ho, rfl, ⟨_, ho, rfl⟩, call_meets F.slot_tuple_mul ⟨_, ho, rfl⟩ F.entry_tuple_mul (F.args_tuple_mul_2 _ _) (tuple_mul1 l its.toArray n dd 1 t sl c0 (by rw [Bool.or_eq_true]; exact Or.inr rfl)) ⟨ho, ?_⟩⟩)
  exact ⟨.ref l, _, I.tok _, rfl, q⟩
theorem op_repT0 : OpR X (binaryOp .Mult) (rRepT0 X.K) := by
  intro pins s σ H x y v u Q I rx ry h
  obtain ⟨l, k, xs, rfl, rfl, hT, hne, h1, h2, q⟩ := h
  cases rx
  obtain ⟨t, rfl⟩ := ry
  obtain ⟨its, r, ⟨⟨cls, dd, data, sl⟩, ho, hc, n, hd⟩, hs⟩ := I.tuple hT
  simp only at hc hd
  subst hc hd
  have hle : its.length = xs.length := r.length.symm
  have hi : its.toArray.isEmpty = false := by
    cases its with
    | nil => exact absurd (List.eq_nil_of_length_eq_zero hle.symm) hne
    | cons a b => rfl
  have c0 : (decide (k < -(2 ^ 63)) || decide (k ≥ 2 ^ 63)) = false := by
    rw [decide_eq_false (by omega), decide_eq_false (by omega)] <;> rfl
  have c1 : (its.toArray.isEmpty || k == 1) = false := by
    rw [hi, Bool.false_or]
    exact beq_eq_false_iff_ne.mpr (by omega)
  have c2 : (decide (k ≤ 0) || its.toArray.isEmpty) = true := by
    rw [decide_eq_true h2]; rfl
  refine wpAny_binaryOp_repeat_ref (T := "tuple") (U := "int") (by decide) ⟨_, ho, rfl⟩ (fun s' => typeIs_int s' k t) noFill_tuple_mul F.fills_int_mul F.slot_int_rmul repeat_tuple F.slot_int_index.lookup
    (call_meets F.slot_int_rmul (typeIs_int s k t) F.entry_int_rmul (F.args_int_rmul_2 _ _) (int_rmul_tuple k t l its.toArray n dd sl)
      ⟨ho, rfl, ⟨_, ho, rfl⟩, call_meets F.slot_tuple_mul ⟨_, ho, rfl⟩ F.entry_tuple_mul (F.args_tuple_mul_2 _ _) (tuple_mul0 l its.toArray n dd k t sl c0 c1 c2) ⟨ho, ?_⟩⟩)
  refine ⟨.ref s.heap.objs.size, _, I.laid (t' := s.toks) (o := .tup []) (fun b ob q => Heap.get?_push_of_some _ q) (Nat.le_refl _) ?_, rfl, q _ (I.hok.fresh (Nat.le_refl _))⟩
  exact ⟨Nat.zero_le _, _, .nil, IsTup.new _ _⟩
end
end L2
/-! XA3: min of a list of pairs of integers -/
namespace L2
open PySem PySem.Spec PyProof.Rows PySem.W
def pairP (p : Int × Int) : PyData := .tuple [.int p.1, .int p.2]
def pairLt (p q : Int × Int) : Prop := p.1 < q.1 ∨ (p.1 = q.1 ∧ p.2 < q.2)
theorem pair_lt (p q : Int × Int) : dataLt (pairP p) (pairP q) = true ↔ pairLt p q := by
  obtain ⟨a, b⟩ := p
  obtain ⟨c, d⟩ := q
  have e1 : keyToks (pairP (a, b)) = [Sum.inl 1, Sum.inl a, Sum.inl 1, Sum.inl b, Sum.inl 0] := by
    simp [pairP, keyToks, keyToksAll]
  have e2 : keyToks (pairP (c, d)) = [Sum.inl 1, Sum.inl c, Sum.inl 1, Sum.inl d, Sum.inl 0] := by
    simp [pairP, keyToks, keyToksAll]
  unfold dataLt pairLt
  rw [e1, e2]
  rw [lex_self (O := itemOrd)]
  by_cases h : a = c
  · subst h
    rw [lex_self (O := itemOrd), lex_self (O := itemOrd)]
    by_cases h2 : b = d
    · subst h2
      rw [lex_self (O := itemOrd), lex_self (O := itemOrd)]
      simp
      rfl
    · rw [lex_diff (O := itemOrd) (fun z => h2 (Sum.inl.inj z))]
      show decide (b < d) = true ↔ _
      rw [decide_eq_true_eq]
      simp
  · rw [lex_diff (O := itemOrd) (fun z => h (Sum.inl.inj z))]
    show decide (a < c) = true ↔ _
    rw [decide_eq_true_eq]
    constructor
    · exact fun x => Or.inl x
    · rintro (x | ⟨x, _⟩)
      · exact x
      · exact absurd x h
theorem best_le (bt : Nat → Nat → Bool) : ∀ n, argBest bt n ≤ n
  | 0 => Nat.le_refl _
  | n + 1 => by
    unfold argBest
    split
    · exact Nat.le_refl _
    · exact Nat.le_succ_of_le (best_le bt n)
theorem best_min (f : Nat → Int × Int) (bt : Nat → Nat → Bool) (N : Nat) (hb : ∀ i j, i ≤ N → j ≤ N → (bt i j = true ↔ pairLt (f i) (f j))) : ∀ n i, n ≤ N → i ≤ n → ¬ pairLt (f i) (f (argBest bt n))
  | 0, i, _, h => by
    have : i = 0 := by omega
    subst this
    unfold argBest pairLt
    omega
  | n + 1, i, hN, h => by
    have ih := best_min f bt N hb n
    have le := best_le bt n
    unfold argBest
    by_cases c : bt (n + 1) (argBest bt n) = true
    · rw [if_pos c]
      have c := (hb _ _ hN (by omega)).mp c
      rcases Nat.lt_or_ge i (n + 1) with hlt | hge
      · have := ih i (by omega) (by omega)
        unfold pairLt at *
        omega
      · have : i = n + 1 := by omega
        subst this
        unfold pairLt
        omega
    · rw [if_neg c]
      have c : ¬ pairLt (f (n + 1)) (f (argBest bt n)) := fun z => c ((hb _ _ hN (by omega)).mpr z)
      rcases Nat.lt_or_ge i (n + 1) with hlt | hge
      · exact ih i (by omega) (by omega)
      · have : i = n + 1 := by omega
        subst this
        exact c
theorem min_list_at {prog : Program} {w : World} {A : Around} {E : Value → Shared → Prop} {s : Shared} {l : Addr} {vs : Array Value} {x : PyData} {xs : List PyData} {as : List Addr} {Q : Value → Shared → Prop} (hh : A.handled = none) (hl : s.heap.IsList l vs) (hr : ReadsAll s.heap vs.toList (x :: xs) as) (ha : AlikeAll (x :: xs)) (hu : A.units + 1 + PyData.depthAll (x :: xs) < cLine)
    (h : ∀ v h' tk, vs[argBest (fun i j => dataLt ((x :: xs).getD i .none) ((x :: xs).getD j .none)) xs.length]? = some v → (∀ b o, s.heap.get? b = some o → h'.get? b = some o) → Q v { s with heap := h', toks := tk }) :
    wpAny (model prog w) A (call (.builtin "min") [.ref l]) Q E s := by
  have hn : vs.size = xs.length + 1 := readsAll_len hr
  refine call_min_walkH (iter_listW (A := A.in1) hh hl fun s₂ e W st hfp hw hk => ?_)
  refine ⟨_, _, _, _, _, _, _, s.heap, _, rfl, W, st, hfp, by omega, hw, hk, cmpIn_lt (A := A.in1) hr ha (by show A.units + 1 + _ < _; exact hu), fun v s' hP m => ?_⟩
  obtain ⟨h', tk, rfl, hk'⟩ := moved_old e rfl m
  have e1 : vs.size - 1 = xs.length := by omega
  rw [e1] at hP
  exact h v h' tk hP hk'
def rMinP (K : PySem.W.Frag) : List V → Hp → VK → Prop := fun vs H Q => ∃ (a : Addr) (ts : List Addr) (ps : List (Int × Int)), vs = [V.ref a] ∧ SqL K H a (ts.map V.ref) ∧ Paired (fun t p => SqT K H t [.int p.1, .int p.2]) ts ps ∧ ps ≠ [] ∧
  ∀ (i : Nat) (t : Addr) (p : Int × Int), ts[i]? = some t → ps[i]? = some p → (∀ q ∈ ps, ¬ pairLt q p) → Q (.ref t) H
theorem dp_pairs {K : PySem.W.Frag} {H : Hp} : ∀ {ts : List Addr} {ps : List (Int × Int)}, Paired (fun t p => SqT K H t [.int p.1, .int p.2]) ts ps → DpAll K H (ts.map V.ref) (ps.map pairP)
  | _, _, .nil => .nil
  | _, _, .cons h t => .cons (.tup h (.cons (.int _) (.cons (.int _) .nil))) (dp_pairs t)
theorem paired_at {α β : Type} {F : α → β → Prop} : ∀ {l : List α} {m : List β}, Paired F l m → l.length = m.length
  | _, _, .nil => rfl
  | _, _, .cons _ t => by rw [List.length_cons, List.length_cons, paired_at t]
theorem depth_pairs : ∀ ps : List (Int × Int), PyData.depthAll (ps.map pairP) ≤ 2
  | [] => by simp [PyData.depthAll]
  | p :: ps => by
    have := depth_pairs ps
    have e : (pairP p).depth ≤ 2 := by simp [pairP, PyData.depth, PyData.depthAll]
    simp only [List.map_cons, PyData.depthAll]
    exact Nat.max_le.mpr ⟨e, this⟩
theorem cr_minP {X : Cx} (hc : X.calm = true) (hu : X.A.units + 64 < cLine) : CallR X (.builtin "min") (rMinP X.K) := by
  intro pins s σ H vs us Q I r h
  obtain ⟨a, ts, ps, rfl, hs, hp, hne, q⟩ := h
  obtain ⟨its, rv, hl, _⟩ := I.list hs
  rw [Vals.ref1 r]
  obtain ⟨as, hr⟩ := Dp.readsAll I (ps.map pairP) _ its (dp_pairs hp) rv
  cases ps with
  | nil => exact absurd rfl hne
  | cons p0 ps =>
    have hr' : ReadsAll s.heap its.toArray.toList (pairP p0 :: ps.map pairP) as := by simpa using hr
    have alk : AlikeAll (pairP p0 :: ps.map pairP) := by
      have e : ∀ x ∈ (pairP p0 :: ps.map pairP), ∃ p, x = pairP p := by
        intro x hx
        rcases List.mem_cons.mp hx with rfl | hx
        · exact ⟨_, rfl⟩
        · obtain ⟨p, _, rfl⟩ := List.mem_map.mp hx
          exact ⟨p, rfl⟩
      refine ⟨fun x hx y hy => ?_, fun x hx => ?_⟩
      · obtain ⟨p, rfl⟩ := e x hx
        obtain ⟨q, rfl⟩ := e y hy
        simp [pairP, alike, alikeAll]
      · obtain ⟨p, rfl⟩ := e x hx
        intro z
        cases z
    have dep := depth_pairs (p0 :: ps)
    refine min_list_at (A := X.A) (I.ok.hd hc) hl.isList hr' alk (by simp only [List.map_cons] at dep; omega) ?_
    intro v h' tk hv hk
    have hlen := paired_at hp
    generalize hI : argBest (fun i j => dataLt ((pairP p0 :: ps.map pairP).getD i .none) ((pairP p0 :: ps.map pairP).getD j .none)) (ps.map pairP).length = ix at hv
    have ile : ix ≤ ps.length := by
      rw [← hI]
      have := best_le (fun i j => dataLt ((pairP p0 :: ps.map pairP).getD i .none) ((pairP p0 :: ps.map pairP).getD j .none)) (ps.map pairP).length
      rw [List.length_map] at this ⊢
      exact this
    have hix : ix < (p0 :: ps).length := by rw [List.length_cons]; omega
    have ht : ix < ts.length := by rw [hlen]; exact hix
    have e1 : ts[ix]? = some ts[ix] := List.getElem?_eq_getElem ht
    have e2 : (p0 :: ps)[ix]? = some (p0 :: ps)[ix] := List.getElem?_eq_getElem hix
    have hv' : its[ix]? = some v := by simpa using hv
    obtain ⟨w, hw, rw'⟩ := Vals.get rv (i := ix) (x := V.ref ts[ix]) (by rw [List.getElem?_map, e1]; rfl)
    rw [hv'] at hw
    cases hw
    cases rw'
    refine ⟨.ref ts[ix], H, I.kept hk, rfl, q ix _ _ e1 e2 ?_⟩
    intro y hy
    obtain ⟨j, hj, ej⟩ := List.mem_iff_getElem.mp hy
    have key := best_min (fun i => (p0 :: ps).getD i (0, 0)) (fun i j => dataLt ((pairP p0 :: ps.map pairP).getD i .none) ((pairP p0 :: ps.map pairP).getD j .none)) ps.length (fun i j hi hj => by
      have g : ∀ i, i ≤ ps.length → (pairP p0 :: ps.map pairP).getD i .none = pairP ((p0 :: ps).getD i (0, 0)) := by
        intro i hi
        have e : (pairP p0 :: ps.map pairP) = (p0 :: ps).map pairP := rfl
        have hi' : i < (p0 :: ps).length := by rw [List.length_cons]; omega
        rw [e, List.getD_eq_getElem?_getD, List.getD_eq_getElem?_getD, List.getElem?_map, List.getElem?_eq_getElem hi']
        rfl
      show dataLt _ _ = true ↔ _
      rw [g i hi, g j hj]
      exact pair_lt _ _) ps.length j (Nat.le_refl _) (by rw [List.length_cons] at hj; omega)
    rw [List.length_map] at hI
    rw [hI] at key
    have g1 : (p0 :: ps).getD j (0, 0) = y := by
      rw [List.getD_eq_getElem?_getD, List.getElem?_eq_getElem hj, ej]
      rfl
    have g2 : (p0 :: ps).getD ix (0, 0) = (p0 :: ps)[ix] := by
      rw [List.getD_eq_getElem?_getD, e2]
      rfl
    simp only [g1, g2] at key
    exact key
end L2
/-! XA4: at the level of data: tuple * k, min of pairs, dict of pairs, d.get(k, x), l.pop(i) as a statement -/
namespace DL
open PySem L2 XO
open Evl (Ex)
section
variable {K : Fg} {W : Wx} {ι : Type} {X : ι → Cx} {pos : Pos} {a b c e f : Expr} {es : List Expr} {wa wb wc we wf w : WE} {wr : WA}
/-! tuple * k -/
def dMulT : WR := fun x y m Q => match x, y with
  | .tup a, .int k => (a ≠ [] ∧ -1000 ≤ k ∧ k ≤ 1000 ∧ a.length ≤ 1000) ∧ Q (.tup (List.replicate k.toNat a).flatten) m
  | _, _ => False
def rMulT (K : Fg) : R2 := fun x y H Q => (rRepT0 K x y H Q ∨ rRepT1 K x y H Q) ∨ rRepT K x y H Q
theorem op_mulT {X : Cx} : OpR X (binaryOp .Mult) (rMulT X.K) := (op_repT0.or op_repT1).or op_repT
theorem lift_mulT {K : Fg} : LiftR K (rMulT K) dMulT := by
  intro G m F H x y dx dy Q Qd hW rx ry h hQ
  cases rx <;> cases ry <;> first | exact (show False from h).elim | skip
  case tup.int a xs ds h1 r1 k =>
    obtain ⟨⟨c1, c2, c3, c4⟩, q⟩ := h
    have hT := Evl.ex_t hW.ex h1
    have hne : xs ≠ [] := fun z => by subst z; cases r1; exact c1 rfl
    rcases Int.lt_trichotomy k 1 with hk | hk | hk
    · refine Or.inl (Or.inl ⟨a, k, xs, rfl, rfl, hT, hne, c2, by omega, ?_⟩)
      have e : k.toNat = 0 := by omega
      have q : Qd (.tup (List.replicate k.toNat ds).flatten) m := q
      rw [e] at q
      exact hQ.tup hW q .nil
    · subst hk
      refine Or.inl (Or.inr ⟨a, xs, rfl, rfl, hT, ?_⟩)
      have e : (List.replicate (1 : Int).toNat ds).flatten = ds := by
        have : (1 : Int).toNat = 1 := rfl
        rw [this]
        simp
      have q : Qd (.tup (List.replicate (1 : Int).toNat ds).flatten) m := q
      rw [e] at q
      exact hQ.here hW q (.tup h1 r1)
    · exact Or.inr ⟨a, k, xs, rfl, rfl, hT, hne, by omega, c3, by rw [r1.len]; exact c4, hQ.tup hW q (r1.rep _)⟩
theorem pd_mulT (hK : ∀ i, (X i).K = K) (ha : PD K W X a wa) (hb : PD K W X b wb) : PD K W X (.BinOp a .Mult b pos) (wOp dMulT wa wb) := bin_of (fun i => hK i ▸ op_mulT) lift_mulT ha hb
/-! min of a list of pairs -/
def pairD (p : Int × Int) : D := .tup [.int p.1, .int p.2]
def dMinP : WC := fun xs m Q => ∃ ps : List (Int × Int), xs = [.lst (ps.map pairD)] ∧ ps ≠ [] ∧ ∀ p ∈ ps, (∀ q ∈ ps, ¬ pairLt q p) → Q (pairD p) m
theorem rp_pairs {G H : Hp} (e : Ex G H) : ∀ {ps : List (Int × Int)} {vs : List V}, RpA K G vs (ps.map pairD) → ∃ ts : List Addr, vs = ts.map V.ref ∧ Paired (fun t p => SqT K H t [.int p.1, .int p.2]) ts ps ∧ ∀ (i : Nat) (t : Addr) (p : Int × Int), ts[i]? = some t → ps[i]? = some p → Rp K G (.ref t) (pairD p)
  | [], _, r => by
    cases r
    exact ⟨[], rfl, .nil, fun i t p h => by simp at h⟩
  | p :: ps, _, r => by
    cases r with
    | cons r t =>
      obtain ⟨ts, rfl, h2, h3⟩ := rp_pairs e t
      have r0 := r
      cases r with
      | tup hx rr =>
        rename_i a xs
        cases rr with
        | cons ra rr =>
          cases rr with
          | cons rb rr =>
            cases rr
            cases ra
            cases rb
            refine ⟨a :: ts, rfl, .cons (Evl.ex_t e hx) h2, ?_⟩
            intro i t p hi hp
            cases i with
            | zero => simp at hi hp; subst hi hp; exact r0
            | succ i => exact h3 i t p (by simpa using hi) (by simpa using hp)
theorem b_minP {P : Program} {wo : World} {mg : Str → Option Value} {base : Heap} {k : Nat} {N : List Str} (hX : Fam P wo K mg base k N X) : BiU K X (.builtin "min") dMinP := by
  refine ⟨rMinP K, fun i => hX.K i ▸ cr_minP (hX.calm i) (by have := (hX.room i).un; omega), ?_⟩
  intro G m F H xs ds Q Qd hW r h hQ
  obtain ⟨ps, rfl, hne, q⟩ := h
  cases r with
  | cons r1 t =>
    cases t
    cases r1 with
    | lst hl rr =>
      obtain ⟨ts, rfl, h2, h3⟩ := rp_pairs hW.ex rr
      refine ⟨_, ts, ps, rfl, SqL.of (hW.ex _ _ hl), h2, hne, fun i t p hi hp hmin => ?_⟩
      exact hQ.here hW (q p (List.mem_of_getElem? hp) hmin) (h3 i t p hi hp)
/-! dict of a list of pairs -/
def keyD : Key → D
  | .inl i => .int i
  | .inr s => .str s
def pairsD (ks : List Key) (ds : List D) : List D := (ks.zip ds).map fun p => .tup [keyD p.1, p.2]
def dDictP : WC := fun xs m Q => ∃ ks ds, xs = [.lst (pairsD ks ds)] ∧ ks.length = ds.length ∧ ks.Nodup ∧ Q (.dct ks ds) m
theorem rp_key {G : Hp} {v : V} {k : Key} (r : Rp K G v (keyD k)) : v = kV k := by
  cases k <;> (cases r; rfl)
theorem rp_kvs {G H : Hp} (e : Ex G H) : ∀ {ks : List Key} {ds : List D} {vs : List V}, ks.length = ds.length → RpA K G vs (pairsD ks ds) → ∃ (ts : List Addr) (us : List V), vs = ts.map V.ref ∧ Paired (fun t kv => SqT K H t [kV kv.1, kv.2]) ts (ks.zip us) ∧ us.length = ks.length ∧ RpA K G us ds
  | [], [], _, _, r => by
    cases r
    exact ⟨[], [], rfl, .nil, rfl, .nil⟩
  | [], _ :: _, _, h, _ => by cases h
  | _ :: _, [], _, h, _ => by cases h
  | k :: ks, d :: ds, _, h, r => by
    cases r with
    | cons r t =>
      obtain ⟨ts, us, rfl, h2, h3, h4⟩ := rp_kvs e (by simpa using h) t
      cases r with
      | tup hx rr =>
        rename_i a xs
        cases rr with
        | cons ra rr =>
          cases rr with
          | cons rb rr =>
            cases rr
            have := rp_key ra
            subst this
            exact ⟨a :: ts, _ :: us, rfl, .cons (Evl.ex_t e hx) h2, by rw [List.length_cons, List.length_cons, h3], .cons rb h4⟩
theorem merge_zip : ∀ (kvs pre : List (Key × V)), ((pre ++ kvs).map (·.1)).Nodup → mergeK pre kvs = pre ++ kvs
  | [], pre, _ => by rw [List.append_nil]; rfl
  | kv :: kvs, pre, nd => by
    have hk : valV pre kv.1 = none := by
      unfold valV
      rw [List.find?_eq_none.mpr ?_]
      · rfl
      · intro x hx
        simp only [decide_eq_true_eq]
        intro z
        rw [List.map_append, List.map_cons] at nd
        exact (List.nodup_append.mp nd).2.2 x.1 (List.mem_map_of_mem hx) kv.1 List.mem_cons_self z
    have e : mergeK pre (kv :: kvs) = mergeK (putK pre kv.1 kv.2) kvs := rfl
    rw [e, putK_new _ hk, merge_zip kvs (pre ++ [(kv.1, kv.2)]) (by rw [List.append_assoc]; exact nd), List.append_assoc]
    rfl
theorem zip_fst {α β : Type} : ∀ {ks : List α} {us : List β}, us.length = ks.length → (ks.zip us).map (·.1) = ks
  | [], [], _ => rfl
  | [], _ :: _, h => by cases h
  | _ :: _, [], h => by cases h
  | k :: ks, u :: us, h => by
    show k :: ((ks.zip us).map (·.1)) = _
    rw [zip_fst (by simpa using h)]
theorem zip_snd {α β : Type} : ∀ {ks : List α} {us : List β}, us.length = ks.length → (ks.zip us).map (·.2) = us
  | [], [], _ => rfl
  | [], _ :: _, h => by cases h
  | _ :: _, [], h => by cases h
  | k :: ks, u :: us, h => by
    show u :: ((ks.zip us).map (·.2)) = _
    rw [zip_snd (by simpa using h)]
theorem b_dictP (hK : ∀ i, (X i).K = K) (hc : ∀ i, (X i).calm = true) : BiU K X (.type "dict") dDictP := by
  refine ⟨fun xs H Q => ∃ (a : Addr) (ps : List Addr) (kvs : List (Key × V)), xs = [.ref a] ∧ SqL K H a (ps.map V.ref) ∧ Paired (fun p kv => SqT K H p [kV kv.1, kv.2]) ps kvs ∧
    ∀ p, H p = none → Q (.ref p) (upd H p (.dK (mergeK [] kvs))), fun i => hK i ▸ call_dictP (hc i), ?_⟩
  intro G m F H xs ds0 Q Qd hW r h hQ
  obtain ⟨ks, ds, rfl, hl, nd, q⟩ := h
  cases r with
  | cons r1 t =>
    cases t
    cases r1 with
    | lst hx rr =>
      obtain ⟨ts, us, rfl, h2, h3, h4⟩ := rp_kvs hW.ex hl rr
      refine ⟨_, ts, ks.zip us, rfl, SqL.of (hW.ex _ _ hx), h2, fun p hp => ?_⟩
      rw [merge_zip _ [] (by rw [List.nil_append, zip_fst h3]; exact nd), List.nil_append]
      obtain ⟨e, W'⟩ := hW.new hp (.dK (ks.zip us))
      exact hQ _ m _ _ _ q e W' (.dct upd_same (zip_fst h3) (zip_snd h3) (h4.mono e))
/-! d.get(k, x) -/
def wGet2 (we wi wx : WE) : WE := fun ρ m Q Qx => we ρ m (fun x m1 => (match x with
  | .dct _ _ => True
  | _ => False) ∧ wi ρ m1 (fun y m2 => wx ρ m2 (fun z m3 => match x, y with
  | .dct ks ds, .str s => Q ((findD ks ds (.inr s)).getD z) m3
  | .dct ks ds, .int i => Q ((findD ks ds (.inl i)).getD z) m3
  | _, _ => False) Qx) Qx) Qx
theorem find_none {G : Hp} {x : Key} : ∀ {kvs : List (Key × V)} {ds : List D}, RpA K G (kvs.map (·.2)) ds → findD (kvs.map (·.1)) ds x = none → valV kvs x = none
  | [], _, r, h => rfl
  | (k, v) :: kvs, _, r, h => by
    cases r with
    | cons r t =>
      have h : (if k = x then some _ else findD (kvs.map (·.1)) _ x) = none := h
      by_cases c : k = x
      · rw [if_pos c] at h; cases h
      · rw [if_neg c] at h
        have := find_none t h
        unfold valV at this ⊢
        rw [List.find?_cons_of_neg (by simpa using c)]
        exact this
theorem get_of {G : Hp} {x : Key} {kvs : List (Key × V)} {ds : List D} {z : V} {d : D} (r : RpA K G (kvs.map (·.2)) ds) (rz : Rp K G z d) : Rp K G ((valV kvs x).getD z) ((findD (kvs.map (·.1)) ds x).getD d) := by
  cases e : findD (kvs.map (·.1)) ds x with
  | none => rw [find_none r e]; exact rz
  | some y =>
    obtain ⟨v, h1, h2⟩ := find_of r e
    rw [h1]
    exact h2
theorem pd_get2 {P : Program} {wo : World} {mg : Str → Option Value} {base : Heap} {k : Nat} {N : List Str} {apos : Pos} (hX : Fam P wo K mg base k N X) (ha : PD K W X a wa) (hb : PD K W X b wb) (hf : PD K W X f wf) (hm : ∀ i, M2 (X i) a "get" apos b f pos := by intro _; exact ⟨rfl, rfl, rfl, rfl⟩) : PD K W X (.Call (.Attribute a "get" apos) [b, f] [] pos) (wGet2 wa wb wf) := by
  obtain ⟨ta, a1, a2⟩ := ha
  obtain ⟨tb, b1, b2⟩ := hb
  obtain ⟨tf, f1, f2⟩ := hf
  refine ⟨_, fun i => pe_dget2 (by have := (hX.room i).un; omega) (a1 i) (b1 i) (f1 i) (hm i), ?_⟩
  intro G m F H σ ρ Q Qd Qx hW hE h hXx hQ
  refine a2 G m F H σ ρ _ _ Qx hW hE h hXx ?_
  intro x m1 xv G1 H1 q1 e1 W1 r1
  obtain ⟨q0, q1⟩ := q1
  cases r1 <;> first | exact (show False from q0).elim | skip
  rename_i a0 kvs ks vs ds hg h1 h2 rr
  subst h1 h2
  refine ⟨a0, rfl, Or.inl ⟨kvs, Or.inl (W1.ex _ _ hg)⟩, ?_⟩
  refine b2 G1 m1 F H1 σ ρ _ _ Qx W1 (hE.mono e1) q1 (hXx.mono e1) ?_
  intro y m2 yv G2 H2 q2 e2 W2 r2
  refine f2 G2 m2 F H2 σ ρ _ _ Qx W2 (hE.mono (e1.trans e2)) q2 (hXx.mono (e1.trans e2)) ?_
  intro z m3 zv G3 H3 q3 e3 W3 r3
  have r2 := r2.mono e3
  have hg := W3.ex _ _ ((e2.trans e3) _ _ hg)
  have rr := rr.mono (e2.trans e3)
  cases r2 <;> first | exact (show False from q3).elim | skip
  · exact ⟨_, Or.inl ⟨kvs, .inl _, Or.inl hg, rfl, rfl⟩, hQ _ m3 _ G3 H3 q3 ((e1.trans e2).trans e3) W3 (get_of rr r3)⟩
  · exact ⟨_, Or.inl ⟨kvs, .inr _, Or.inl hg, rfl, rfl⟩, hQ _ m3 _ G3 H3 q3 ((e1.trans e2).trans e3) W3 (get_of rr r3)⟩
/-! l.pop(i), a statement -/
def sPopAt (o : WE) (wr : WA) : WS := fun E ρ m => o ρ m (fun x m1 => match x with
  | .box p => (m1 p).isSome = true ∧ wr ρ m1 (fun ds m2 => ∃ i xs n, ds = [.int i] ∧ m2 p = some xs ∧ -(2 ^ 63) ≤ i ∧ i < 2 ^ 63 ∧ seqIndex? i xs.length = some n ∧ n < xs.length ∧ E.nx ρ (m2.up p (xs.eraseIdx n))) E.ex
  | _ => False) E.ex
theorem RpA.erase {G : Hp} : ∀ {vs : List V} {ds : List D} (n : Nat), RpA K G vs ds → RpA K G (vs.eraseIdx n) (ds.eraseIdx n)
  | _, _, _, .nil => .nil
  | _, _, 0, .cons _ t => t
  | _, _, n + 1, .cons r t => .cons r (RpA.erase n t)
theorem ps_popAt {o : Expr} {wo : WE} {apos cpos : Pos} (hK : ∀ i, (X i).K = K) (ho : PD K W X o wo) (ha : PDA K W X [e] wr)
    (hbase : ∀ i, attributeBase o "pop" (X i).env (eval o (X i).env) = eval o (X i).env := by intro _; rfl)
    (hfew : ∀ i, ((backTo cpos (starEach [e] (X i).env)).all (fun x => !x.1) && (backToKw cpos (keywordEach [] (X i).env)).all (fun x => x.1.isSome)
      && decide ([e].length + ([] : List Keyword).length + (if ([] : List Keyword).isEmpty then 0 else 1) < 30)) = true := by intro _; rfl)
    (hline : (apos.endLine == cpos.line) = true := by rfl) (hs : ∀ i, starEach [e] (X i).env = (false, eval e (X i).env) :: starEach [] (X i).env := by intro _; rfl) (hplain : ∀ i, (backTo cpos (starEach [] (X i).env)).any (·.1) = false := by intro _; rfl)
    (hsw : ∀ i, swapsWith (.Call (.Attribute o "pop" apos) [e] [] cpos) none pos.line (X i).env = pure false := by intro _; rfl) :
    PDS K W X (.Expr (.Call (.Attribute o "pop" apos) [e] [] cpos) pos) (sPopAt wo wr) := by
  obtain ⟨to, o1, o2⟩ := ho
  obtain ⟨ta, a1, a2⟩ := ha
  refine ⟨_, fun i => L2.ps_expr (te := tBM K "list" rPopAt to ta) (by have q := pe_bm PySem.F.plainAttrs_list PySem.F.slot_list_pop PySem.F.type_list_pop (mt_popAt (X := X i)) (o1 i) (a1 i) (hbase i) (hfew i) hline (hs i) (hplain i); rw [hK i] at q; exact q) (hsw i), ?_⟩
  intro G m F H σ ρ S E hW hE h f
  refine o2 G m F H σ ρ _ _ E.ex hW hE h f.ex ?_
  intro x m1 xv G1 H1 q1 e1 W1 r1
  cases r1 <;> first | exact (show False from q1).elim | skip
  rename_i p
  obtain ⟨hp, q1⟩ := q1
  obtain ⟨ds0, hp⟩ := Option.isSome_iff_exists.mp hp
  obtain ⟨_, _, xs0, hx0, _⟩ := W1.own p ds0 hp
  refine ⟨Or.inl ⟨rfl, _, SqL.of hx0⟩, ?_⟩
  refine a2 G1 m1 F H1 σ ρ _ _ E.ex W1 (hE.mono e1) q1 (f.ex.mono e1) ?_
  rintro ds m2 vs G2 H2 ⟨i, xs, n, rfl, hm, hi1, hi2, hn, hlt, q2⟩ e2 W2 r2
  cases r2 with
  | cons r2 t =>
    cases t
    cases r2
    obtain ⟨_, _, ys, hy, ry⟩ := W2.own p xs hm
    have hlt' : n < ys.length := by rw [ry.len]; exact hlt
    refine ⟨p, ys, i, n, ys[n], rfl, rfl, hy, hi1, hi2, by rw [ry.len]; exact hn, List.getElem?_eq_getElem hlt', ?_⟩
    exact f.nx ρ _ σ G2 _ q2 (e1.trans e2) (W2.put hm (ry.erase n)) (hE.mono (e1.trans e2))
end
end DL
/-! XA5: calls of defs by keywords alone -/
namespace DL
open PySem L2 XO
open Evl (Ex)
section
variable {P : Program} {w : World} {K : Fg} {mg : Str → Option Value} {base : Heap} {k : Nat} {N ps : List Str} {W : Wx} {ι : Type} {X : ι → Cx} {pos : Pos}
/-- a def and what it was made of -/
def HasXF (P : Program) (w : World) (K : Fg) (mg : Str → Option Value) (base : Heap) (j : Nat) (x qual : Str) (st : Stmt) (ps : List Str) (fn : DFn) : Prop :=
  ∃ f fd, FnG P w K mg base (L2.CX P w) j f fd ps (spD K mg fn) ∧ mg x = some (.ref f) ∧ PySem.W.keepIn K (.ref f) = true ∧ Binds K fd ps [] ∧ Fun K x qual st f fd
theorem HasXF.x {j : Nat} {x qual : Str} {st : Stmt} {fn : DFn} (h : HasXF P w K mg base j x qual st ps fn) : HasX P w K mg base j x ps fn := by
  obtain ⟨f, fd, h1, h2, h3, h4, _⟩ := h
  exact ⟨f, fd, h1, h2, h3, h4⟩
theorem has_ofXF {x qual : Str} {st : Stmt} {fn : DFn} {wb : WS} (Fu : FunAt K mg x qual st ps) (S : FnScope N ps (defScope st)) (hlen : ∀ ds m Q Qx, fn ds m Q Qx → ds.length = ps.length)
    (hb : ∀ (f : Addr) (cdv : Value) (A : Around) (oe : List Env) (s : Shared) (H : Hp) (E : XK), FamG P w K mg base k N (fun _ : Unit => cxOf (L2.CX P w) P w K mg base N qual (defScope st) f cdv A oe s H E) →
      (∀ i, Takes ((fun _ : Unit => cxOf (L2.CX P w) P w K mg base N qual (defScope st) f cdv A oe s H E) i) (toWX mg (byName mg (fun cls d _ H' => E cls d H')))) →
      PDB K (byName mg (fun cls d _ H' => E cls d H')) (fun _ : Unit => cxOf (L2.CX P w) P w K mg base N qual (defScope st) f cdv A oe s H E) (defBody st) wb)
    (hr : ∀ ds m Qd Qx, fn ds m Qd Qx → wb { nx := fun _ m' => Qd .non m', rt := Qd, ex := Qx } (ds.map some ++ List.replicate (N.length - ds.length) none) m) : HasXF P w K mg base (k + 1) x qual st ps fn := by
  obtain ⟨f, fd, hm, F, hbi⟩ := Fu
  exact ⟨f, fd, fn_okX F S hlen (hb f) hr, hm, F.kp, hbi, F⟩
/-- called by keywords alone: kn their names as they are written; gD puts the values in the parameters' order -/
def HasKX (P : Program) (w : World) (K : Fg) (mg : Str → Option Value) (base : Heap) (j : Nat) (x : Str) (ps kn : List Str) (gD : List D → List D) (fn : DFn) : Prop :=
  ∃ f fd g gV, FnG P w K mg base (L2.CX P w) j f fd ps (spD K mg fn) ∧ mg x = some (.ref f) ∧ PySem.W.keepIn K (.ref f) = true ∧ KBn K fd ps 0 kn g gV ∧ ∀ (G : Hp) (zs : List V) (es : List D), RpA K G zs es → es.length = kn.length → RpA K G (gV [] zs) (gD es)
theorem HasXF.kw {j : Nat} {x qual : Str} {st : Stmt} {fn : DFn} (h : HasXF P w K mg base j x qual st ps fn) (kn : List Str) (g : {α : Type} → List α → List α)
    (hb : ∀ (kV doc pm : Value) (an : Option Addr) (cdv ct : Value) (ws : List Value), ws.length = kn.length → bindArgs (PySem.W.fnOf x qual (defArgs st) (defBody st) (defScope st) .none kV doc pm an cdv ct) ⟨[], kn.zip ws⟩ = pure (ps.zip (g ws)))
    (hv : ∀ {zs : List V} {ws : List Value}, ws.length = kn.length → Vals zs ws → Vals (g zs) (g ws)) (hd : ∀ (G : Hp) (zs : List V) (es : List D), RpA K G zs es → es.length = kn.length → RpA K G (g zs) (g es))
    (hv0 : ∀ {zs : List V} {ws : List Value}, Vals zs ws → Vals (g zs) (g ws)) : HasKX P w K mg base j x ps kn g fn := by
  obtain ⟨f, fd, h1, h2, h3, h4, h5⟩ := h
  refine ⟨f, fd, fun _ ws => g ws, fun _ zs => g zs, h1, h2, h3, ⟨fun s us ws _ l1 l2 => ?_, fun _ r2 => hv0 r2⟩, hd⟩
  obtain ⟨oc, od, kV, doc, pm, an, cdv, ct, osl, rfl, _, _⟩ := h5.ex
  have : us = [] := List.eq_nil_of_length_eq_zero l1
  subst this
  exact .of_eq (hb kV doc pm an cdv ct ws l2)
def wCallKX (fn : DFn) (n : Nat) (gD : List D → List D) (wk : WA) : WE := fun ρ m Q Qx => wk ρ m (fun es m2 => es.length = n ∧ fn (gD es) m2 Q Qx) Qx
theorem pd_own_callKX {x : Str} {j : Nat} {kn : List Str} {gD : List D → List D} {fn : DFn} {p : Pos} {kws : List Keyword} {wk : WA} (hX : FamG P w K mg base k N X) (tk : ∀ i, Takes (X i) (toWX mg W)) (hh : HasKX P w K mg base j x ps kn gD fn) (hkw : PDK K W X kws wk) (hj : j ≤ k := by decide)
    (hg : ∀ i, Gl (X i) x := by intro _; rfl) (hall : ∀ i, (backToKw pos (keywordEach kws (X i).env)).all (·.1.isSome) = true := by intro _; rfl) (hks : ∀ i, (backToKw pos (keywordEach kws (X i).env)).filterMap (·.1) = kn := by intro _; rfl) (hdb : (x == ("__debug__" : Str)) = false := by decide)
    (hpl : ∀ i, ((backTo pos (starEach [] (X i).env)).any (·.1) || (backToKw pos (keywordEach kws (X i).env)).any (·.1.isNone)) = false := by intro _; rfl) :
    PD K W X (.Call (.Name x p) [] kws pos) (wCallKX fn kn.length gD wk) := by
  obtain ⟨f, fd, g, gV, Fn, hm, hk, hb, hgv⟩ := hh
  obtain ⟨tk', k1, k2⟩ := hkw
  refine ⟨fun σ H Q => tk' σ H fun zs H2 => zs.length = kn.length ∧ spD K mg fn (gV [] zs) H2 Q (fun cls d H' => toWX mg W cls d σ H'), fun i => ⟨fun pins s σ H Q I h => ?_⟩, ?_⟩
  · have hmi : (X i).mg x = some (.ref f) := by rw [hX.mg i]; exact hm
    have Fi : FnG (X i).prog (X i).w (X i).K (X i).mg (X i).base (L2.CX (X i).prog (X i).w) j f fd ps (spD K mg fn) := by rw [hX.prog i, hX.w i, hX.K i, hX.mg i, hX.base i]; exact Fn
    refine wpAny_Call_Name_kw (ld_glob I (hg i) hmi ?_ hdb)
    refine PySem.W.callWith_KW0 (h₀ := (X i).base) I.ok.mod.kin (by rw [hX.K i]; exact hk) (hall i) ?_ (hpl i)
    refine thn ((k1 i).run pos pins s σ H _ I h) fun ws s2 ⟨zs, H2, I2, rz, l2, q2⟩ => ⟨I2.kIn, ?_⟩
    rw [hks i]
    have hb' : KBn (X i).K fd ps 0 kn g gV := by rw [hX.K i]; exact hb
    have r2 := hb'.rel .nil rz
    refine wpAny_call (codeAny_mono (Fi.runs (X i).A (X i).stack s2 H2 ⟨[], kn.zip ws⟩ (g [] ws) (gV [] zs) Q (fun cls d H' => toWX mg W cls d σ H') (hX.guards i) ((hX.room i).mono hj) I2.env0 (hb'.to s2 [] ws I2.kIn rfl (rz.length.symm.trans l2)) r2 q2) ?_)
    rintro (e | fl) s' hq
    · exact passAt (tk i) σ pins _ _ e s' I2 hq
    · cases fl <;> first | exact I2.after hq | exact (hq : False).elim
  · intro G m F H σ ρ Q Qd Qx hW hE h hXx hQ
    refine k2 G m F H σ ρ _ _ Qx hW hE h hXx ?_
    intro es m2 zs G2 H2 q2 e2 W2 r2
    obtain ⟨l2, q2⟩ := q2
    refine ⟨by rw [r2.len]; exact l2, G2, m2, F, gD es, Qd, Qx, W2, hgv G2 zs es r2 l2, q2, ?_, ?_⟩
    · intro d m' v G' H' z e
      exact hQ d m' v G' H' z (e2.trans e)
    · intro x m' cls d G' H' z hmx e W' r
      exact ⟨x.cls, hmx, hXx x m' d σ G' H' z (e2.trans e) W' r⟩
def swap2 {α : Type} : List α → List α
  | [a, b] => [b, a]
  | l => l
theorem swap2_vals : ∀ {zs : List V} {ws : List Value}, Vals zs ws → Vals (swap2 zs) (swap2 ws)
  | _, _, .nil => .nil
  | _, _, .cons a .nil => .cons a .nil
  | _, _, .cons a (.cons b .nil) => .cons b (.cons a .nil)
  | _, _, .cons a (.cons b (.cons c t)) => .cons a (.cons b (.cons c t))
theorem swap2_rp {G : Hp} : ∀ {zs : List V} {es : List D}, RpA K G zs es → RpA K G (swap2 zs) (swap2 es)
  | _, _, .nil => .nil
  | _, _, .cons a .nil => .cons a .nil
  | _, _, .cons a (.cons b .nil) => .cons b (.cons a .nil)
  | _, _, .cons a (.cons b (.cons c t)) => .cons a (.cons b (.cons c t))
/-- two parameters, called by keywords in exchanged order -/
theorem HasXF.swap {j : Nat} {x qual a b : Str} {st : Stmt} {fn : DFn} (h : HasXF P w K mg base j x qual st [a, b] fn)
    (hb : ∀ (kV doc pm : Value) (an : Option Addr) (cdv ct u v : Value), bindArgs (PySem.W.fnOf x qual (defArgs st) (defBody st) (defScope st) .none kV doc pm an cdv ct) ⟨[], [(b, u), (a, v)]⟩ = pure [(a, v), (b, u)]) : HasKX P w K mg base j x [a, b] [b, a] swap2 fn :=
  h.kw [b, a] (fun l => swap2 l) (fun kV doc pm an cdv ct ws hl => match ws, hl with
    | [u, v], _ => hb kV doc pm an cdv ct u v) (fun _ r => swap2_vals r) (fun G zs es r _ => swap2_rp r) (fun r => swap2_vals r)
end
end DL
/-! XA6: zip of two sequences, each a list or a tuple -/
namespace DL
open PySem L2 XO
open AutoSeq1 (wpAny_loadPart')
open Evl (Ex)
/-- a list (false) or a tuple (true) -/
def SqB (b : Bool) (K : Fg) (H : Hp) (a : Addr) (xs : List V) : Prop := match b with
  | true => SqT K H a xs
  | false => SqL K H a xs
def isB (b : Bool) (h : Heap) (a : Addr) (its : Array Value) : Prop := match b with
  | true => h.IsTuple a its
  | false => h.IsList a its
def itB (b : Bool) (h : Heap) (i l : Addr) (k : Nat) : Prop := match b with
  | true => h.IsTupleIter i l k
  | false => h.IsListIter i l k
theorem seqB {X : Cx} {pins : List (Addr × Obj)} {σ : L2.St} {H : Hp} {s : Shared} (I : Inv X pins σ H s) {b : Bool} {a : Addr} {xs : List V} (h : SqB b X.K H a xs) : ∃ its : List Value, Vals xs its ∧ isB b s.heap a its.toArray := by
  cases b with
  | true =>
    obtain ⟨its, r, p, _⟩ := I.tuple h
    exact ⟨its, r, p⟩
  | false =>
    obtain ⟨its, r, p, _⟩ := I.list h
    exact ⟨its, r, p.isList⟩
theorem seqB_inj {X : Cx} {pins : List (Addr × Obj)} {σ : L2.St} {H : Hp} {s : Shared} (I : Inv X pins σ H s) {b : Bool} {a : Addr} {xs ys : List V} (h : SqB b X.K H a xs) (h' : SqB b X.K H a ys) : xs = ys := by
  cases b with
  | true => exact I.tuple_inj h h'
  | false => exact I.list_inj h h'
theorem isB_lt {b : Bool} {h : Heap} {a : Addr} {its : Array Value} (p : isB b h a its) : a < h.objs.size := by
  cases b with
  | true => obtain ⟨o, ho, _⟩ := p; exact Heap.lt_size ho
  | false => obtain ⟨o, ho, _⟩ := p; exact Heap.lt_size ho
theorem itB_get {b : Bool} {h : Heap} {i l : Addr} {k : Nat} (p : itB b h i l k) : ∃ o, h.get? i = some o ∧ ∀ v, o.data ≠ .cell v := by
  cases b with
  | true => obtain ⟨o, ho, _, hd⟩ := p; exact ⟨o, ho, fun v q => by rw [hd] at q; cases q⟩
  | false => obtain ⟨o, ho, _, hd⟩ := p; exact ⟨o, ho, fun v q => by rw [hd] at q; cases q⟩
theorem itB_at {b : Bool} {h h' : Heap} {i l : Addr} {k : Nat} (p : itB b h i l k) (q : ∀ o, h.get? i = some o → h'.get? i = some o) : itB b h' i l k := by
  cases b with
  | true => exact Heap.IsTupleIter.at p q
  | false => exact Heap.IsListIter.at p q
theorem draws_B {prog : Program} {w : World} {A : Around} (calm : A.handled = none) (b : Bool) (it l : Addr) (hne : l ≠ it) (items : Array Value) :
    Draws prog w A it [it, l] items.size (fun i v => items[i]? = some v) (fun i h => itB b h it l i ∧ isB b h l items) := by
  cases b with
  | true => exact Draws.tuple calm it l hne items
  | false => exact Draws.list calm it l hne items
/-- the iterator as it begins -/
abbrev seqIt (b : Bool) (l : Addr) : Obj := { cls := .type (if b then "tuple_iterator" else "list_iterator"), data := .fields #[.ref l, .int 0 0] }
/-- the two at a and b as they stand at each turn, their items in new pairs -/
def ItzB (p q : Bool) (K : Fg) (a b : Addr) : It :=
  ⟨fun i H => ∃ (xs ys : List V) (x y : V), SqB p K H a xs ∧ SqB q K H b ys ∧ xs[i]? = some x ∧ ys[i]? = some y,
    fun i H v H' => ∃ T x y, v = .ref T ∧ H T = none ∧ H' = upd H T (.tup [x, y]) ∧ (∀ xs, SqB p K H a xs → xs[i]? = some x) ∧ ∀ ys, SqB q K H b ys → ys[i]? = some y,
    fun i H => ∃ xs ys : List V, SqB p K H a xs ∧ SqB q K H b ys ∧ i ≤ xs.length ∧ i ≤ ys.length ∧ (i = xs.length ∨ i = ys.length)⟩
theorem sep_of {z TI TO i1 i2 a b : Addr} (D : ZipApart z TI TO i1 i2 a b) : ZipSep2 z TI TO i1 i2 [i1, a] [i2, b] where
  TIz := D.TIz
  TOz := D.TOz
  TITO := D.TITO
  TIi1 := D.TIi1
  mem1 := List.mem_cons_self
  zf1 := by simp [D.i1z.symm, D.l1z.symm]
  Tf1 := by simp [D.TOi1, D.l1TO.symm]
  TIi2 := D.TIi2
  mem2 := List.mem_cons_self
  zf2 := by simp [D.i2z.symm, D.l2z.symm]
  Tf2 := by simp [D.TOi2, D.l2TO.symm]
  sep1_2 := by simp [D.i12, D.l2i1.symm]
  sep2_1 := by simp [D.i12.symm, D.l1i2.symm]
theorem five {α : Type} {c a1 a2 a3 a4 a5 : α} : c ∈ [a1, a2, a3, a4, a5] ↔ (c = a1 ∨ c = a2 ∨ c = a3 ∨ c = a4 ∨ c = a5) := by simp
theorem turn_zipB {P : Program} {w : World} {K : Fg} {elts : List Expr} {kk : Nat} {tpos : Pos} {a b z TI TO i1 i2 : Addr} (p q : Bool) (D : ZipApart z TI TO i1 i2 a b) :
    Turn P w K (.Tuple elts kk tpos) (ItzB p q K a b) [z, TI, TO, i1, i2] z (fun i h => IsZip h z TI TO .none ∧ IsPair h TI (.ref i1) (.ref i2) ∧ (∃ x y, IsPair h TO x y) ∧ itB p h i1 a i ∧ itB q h i2 b i) where
  mem := List.mem_cons_self
  obj := by
    rintro i h ⟨hz, hTI, ⟨x, y, hTO⟩, h1, h2⟩ c hc
    rcases five.mp hc with e | e | e | e | e <;> subst e
    · exact ⟨_, hz, fun v q => nomatch q⟩
    · exact ⟨_, hTI, fun v q => nomatch q⟩
    · exact ⟨_, hTO, fun v q => nomatch q⟩
    · exact itB_get h1
    · exact itB_get h2
  keep := by
    rintro i h h' ⟨hz, hTI, ⟨x, y, hTO⟩, h1, h2⟩ k
    have k5 : ∀ c, (c = z ∨ c = TI ∨ c = TO ∨ c = i1 ∨ c = i2) → ∀ o, h.get? c = some o → h'.get? c = some o := fun c hc => k c (five.mpr hc)
    exact ⟨k5 z (by simp) _ hz, k5 TI (by simp) _ hTI, ⟨x, y, k5 TO (by simp) _ hTO⟩, itB_at h1 (k5 i1 (by simp)), itB_at h2 (k5 i2 (by simp))⟩
  item := by
    rintro X rfl rfl rfl calm i pins s σ H E I hf ⟨hz, hTI, ⟨x0, y0, hTO⟩, h1, h2⟩ ⟨xs, ys, x, y, hqx, hqy, hx, hy⟩
    obtain ⟨its, rv, p1⟩ := seqB I hqx
    obtain ⟨its2, rv2, p2⟩ := seqB I hqy
    obtain ⟨u, hu, ru⟩ := rv.get hx
    obtain ⟨u2, hu2, ru2⟩ := rv2.get hy
    have zlt : z < s.heap.objs.size := Heap.lt_size hz
    have hin : X.A.in1.handled = none := I.ok.hd calm
    have lt1 : i < its.toArray.size := by
      rw [List.size_toArray]
      exact (List.getElem?_eq_some_iff.mp hu).1
    have lt2 : i < its2.toArray.size := by
      rw [List.size_toArray]
      exact (List.getElem?_eq_some_iff.mp hu2).1
    refine wpAny_pyNext_zipD2_item (sep_of D) (draws_B hin p i1 a D.l1i1 its.toArray) (draws_B hin q i2 b D.l2i2 its2.toArray) hz hTI hTO ⟨h1, p1⟩ ⟨h2, p2⟩ lt1 lt2 ?_
    intro y1 y2 h' tk e1 e2 z' TO' st1 st2 hT hsz hk
    have e1 : its.toArray[i]? = some y1 := e1
    have e2 : its2.toArray[i]? = some y2 := e2
    have e1 : y1 = u := by
      have e1 : its[i]? = some y1 := by simpa using e1
      rw [hu] at e1; cases e1; rfl
    have e2 : y2 = u2 := by
      have e2 : its2[i]? = some y2 := by simpa using e2
      rw [hu2] at e2; cases e2; rfl
    subst e1 e2
    refine ⟨_, rfl, wpAny_letOwnedTupleGo_zip (s := { s with heap := h', toks := tk }) z' fun h'' z'' sb => ?_⟩
    have far : ∀ c, c ≠ z → ∀ o, h'.get? c = some o → h''.get? c = some o := fun c hc o e => (sb.2 c hc).trans e
    have new : ObjOk X.prog X.w (upd H s.heap.objs.size (.tup [x, y])) h'' s.heap.objs.size (.tup [x, y]) :=
      ⟨(by show 2 ≤ sizeLine; decide), [y1, y2], .cons ru (.cons ru2 .nil), ⟨_, far _ (Nat.ne_of_gt zlt) _ hT, rfl, _, rfl⟩⟩
    have J : Inv X pins σ (upd H s.heap.objs.size (.tup [x, y])) { s with heap := h'', toks := tk } :=
      I.turnedNew (t' := tk) (ch := [z, TI, TO, i1, i2]) (fun c o hb e => by
        have nz : ¬ (c = z ∨ c = TI ∨ c = TO ∨ c = i1 ∨ c = i2) := fun hc => hb (five.mpr hc)
        exact far c (fun e => nz (Or.inl e)) o (hk c o (fun e => nz (Or.inl e)) (fun e => nz (Or.inr (Or.inr (Or.inl e)))) (fun e => nz (Or.inr (Or.inr (Or.inr (Or.inl e))))) (fun e => nz (Or.inr (Or.inr (Or.inr (Or.inr e))))) e)) hf (Nat.le_refl _) new
    refine ⟨.ref s.heap.objs.size, _, J, rfl, ⟨_, x, y, rfl, I.hok.fresh (Nat.le_refl _), rfl, fun l hl => by rw [seqB_inj I hl hqx]; exact hx, fun l hl => by rw [seqB_inj I hl hqy]; exact hy⟩, ?_, ?_⟩
    · refine ⟨z'', far _ D.TIz _ (hk _ _ D.TIz D.TITO D.TIi1 D.TIi2 hTI), ⟨y1, y2, far _ D.TOz _ TO'⟩, itB_at st1.1 (far _ D.i1z), itB_at st2.1 (far _ D.i2z)⟩
    · intro c hc
      have lt : c < s.heap.objs.size := by
        rcases five.mp hc with e | e | e | e | e <;> subst e
        · exact zlt
        · exact Heap.lt_size hTI
        · exact Heap.lt_size hTO
        · obtain ⟨_, e, _⟩ := itB_get h1; exact Heap.lt_size e
        · obtain ⟨_, e, _⟩ := itB_get h2; exact Heap.lt_size e
      rw [upd_ne (Nat.ne_of_lt lt)]
      exact (hf c hc).1
  done := by
    rintro X rfl rfl rfl calm i pins s σ H E I hf ⟨hz, hTI, ⟨x0, y0, hTO⟩, h1, h2⟩ ⟨xs, ys, hqx, hqy, l1, l2, hend⟩
    obtain ⟨its, rv, p1⟩ := seqB I hqx
    obtain ⟨its2, rv2, p2⟩ := seqB I hqy
    have hin : X.A.in1.handled = none := I.ok.hd calm
    have n1 := rv.length
    have n2 := rv2.length
    refine wpAny_pyNext_zipD2_end (sep_of D) (draws_B hin p i1 a D.l1i1 its.toArray) (draws_B hin q i2 b D.l2i2 its2.toArray) hz hTI hTO ⟨h1, p1⟩ ⟨h2, p2⟩ (by rw [List.size_toArray]; omega) (by rw [List.size_toArray]; omega) (by rw [List.size_toArray, List.size_toArray]; omega) ?_
    intro h' tk hk
    refine ⟨rfl, I.turnedL (t' := tk) (ch := [z, TI, TO, i1, i2]) (fun c o hb e => ?_) hf⟩
    have nz : ¬ (c = z ∨ c = TI ∨ c = TO ∨ c = i1 ∨ c = i2) := fun hc => hb (five.mpr hc)
    exact hk c o (fun e => nz (Or.inl e)) (fun e => nz (Or.inr (Or.inr (Or.inl e)))) (fun e => nz (Or.inr (Or.inr (Or.inr (Or.inl e))))) (fun e => nz (Or.inr (Or.inr (Or.inr (Or.inr e))))) e
  self := fun A i s Q E st told => wpAny_pyIter_zip st.1 told
end DL
namespace DL
open PySem L2 XO
open AutoSeq1 (wpAny_loadPart')
open Evl (Ex)
/-! the call zip(a, b) -/
abbrev zh1 (p : Bool) (h : Heap) (l1 : Addr) : Heap := h.push (seqIt p l1)
abbrev zh2 (p q : Bool) (h : Heap) (l1 l2 : Addr) : Heap := (zh1 p h l1).push (seqIt q l2)
abbrev zh3 (p q : Bool) (h : Heap) (l1 l2 : Addr) : Heap := (zh2 p q h l1 l2).push { cls := .type "tuple", data := .seq #[.ref h.objs.size, .ref (zh1 p h l1).objs.size] }
abbrev zh4 (p q : Bool) (h : Heap) (l1 l2 : Addr) : Heap := (zh3 p q h l1 l2).push { cls := .type "tuple", data := .seq #[.none, .none] }
abbrev zipObj (x y : Addr) : Obj := { cls := .type "zip", data := .fields #[.none, .bool false, .bool false, .ref x, .ref y] }
abbrev zh5 (p q : Bool) (h : Heap) (l1 l2 : Addr) : Heap := (zh4 p q h l1 l2).push (zipObj (zh2 p q h l1 l2).objs.size (zh3 p q h l1 l2).objs.size)
theorem isB_push {b : Bool} {h : Heap} {a : Addr} {its : Array Value} (p : isB b h a its) (o : Obj) : isB b (h.push o) a its := by
  cases b with
  | true => exact Heap.IsTuple.push p o
  | false => exact Heap.IsList.push p o
theorem new_zipTL (l1 l2 : Addr) (xs ys : Array Value) :
    Meets (Builtin.«zip.__new__» ⟨[.type "zip", .ref l1, .ref l2], []⟩) (fun _ R s => isB true s.heap l1 xs ∧ isB false s.heap l2 ys ∧ R (.ok (.ret (.ref (zh4 true false s.heap l1 l2).objs.size))) { s with heap := zh5 true false s.heap l1 l2 }) :=
  .of_wp fun prog w A R s h => by
    obtain ⟨hp, gn, dr, tk, os⟩ := s
    obtain ⟨m1, m2, h⟩ := h
    have k_sub := sub_zip
    have t1 : Heap.IsTuple (Shared.heap ⟨hp, gn, dr, tk, os⟩) l1 xs := m1
    have t2 : Heap.IsList (Shared.heap ⟨hp.push { cls := .type "tuple_iterator", data := .fields #[.ref l1, .int 0 0] }, gn, dr, tk, os⟩) l2 ys := isB_push (b := false) m2 _
    wp_walk using wpAny_pyIter_tuple t1, wpAny_pyIter_list t2
    exact ⟨_, rfl, h⟩
theorem new_zipLT (l1 l2 : Addr) (xs ys : Array Value) :
    Meets (Builtin.«zip.__new__» ⟨[.type "zip", .ref l1, .ref l2], []⟩) (fun _ R s => isB false s.heap l1 xs ∧ isB true s.heap l2 ys ∧ R (.ok (.ret (.ref (zh4 false true s.heap l1 l2).objs.size))) { s with heap := zh5 false true s.heap l1 l2 }) :=
  .of_wp fun prog w A R s h => by
    obtain ⟨hp, gn, dr, tk, os⟩ := s
    obtain ⟨m1, m2, h⟩ := h
    have k_sub := sub_zip
    have t1 : Heap.IsList (Shared.heap ⟨hp, gn, dr, tk, os⟩) l1 xs := m1
    have t2 : Heap.IsTuple (Shared.heap ⟨hp.push { cls := .type "list_iterator", data := .fields #[.ref l1, .int 0 0] }, gn, dr, tk, os⟩) l2 ys := isB_push (b := true) m2 _
    wp_walk using wpAny_pyIter_list t1, wpAny_pyIter_tuple t2
    exact ⟨_, rfl, h⟩
end DL
/-! XA7: for .. in zip(a, b), a and b a list and a tuple, by data -/
namespace DL
open PySem L2 XO
open Evl (Ex)
/-- what the heap holds behind zip(a, b) -/
structure ZipMade (p q : Bool) (h h' : Heap) (l1 l2 : Addr) : Prop where
  z : IsZip h' (h.objs.size + 4) (h.objs.size + 2) (h.objs.size + 3) .none
  ti : IsPair h' (h.objs.size + 2) (.ref h.objs.size) (.ref (h.objs.size + 1))
  to : IsPair h' (h.objs.size + 3) .none .none
  i1 : itB p h' h.objs.size l1 0
  i2 : itB q h' (h.objs.size + 1) l2 0
  up : ∀ c o, h.get? c = some o → h'.get? c = some o
theorem zip_made (p q : Bool) (h : Heap) (l1 l2 : Addr) : (zh4 p q h l1 l2).objs.size = h.objs.size + 4 ∧ ZipMade p q h (zh5 p q h l1 l2) l1 l2 := by
  have s1 : (zh1 p h l1).objs.size = h.objs.size + 1 := Heap.size_push ..
  have s2 : (zh2 p q h l1 l2).objs.size = h.objs.size + 2 := by rw [Heap.size_push, s1]
  have s3 : (zh3 p q h l1 l2).objs.size = h.objs.size + 3 := by rw [Heap.size_push, s2]
  have s4 : (zh4 p q h l1 l2).objs.size = h.objs.size + 4 := by rw [Heap.size_push, s3]
  have u4 : ∀ c o, (zh4 p q h l1 l2).get? c = some o → (zh5 p q h l1 l2).get? c = some o := fun c o e => Heap.get?_push_of_some _ e
  have u3 : ∀ c o, (zh3 p q h l1 l2).get? c = some o → (zh5 p q h l1 l2).get? c = some o := fun c o e => u4 c o (Heap.get?_push_of_some _ e)
  have u2 : ∀ c o, (zh2 p q h l1 l2).get? c = some o → (zh5 p q h l1 l2).get? c = some o := fun c o e => u3 c o (Heap.get?_push_of_some _ e)
  have u1 : ∀ c o, (zh1 p h l1).get? c = some o → (zh5 p q h l1 l2).get? c = some o := fun c o e => u2 c o (Heap.get?_push_of_some _ e)
  have a5 : (zh5 p q h l1 l2).get? (zh4 p q h l1 l2).objs.size = some _ := Heap.get?_push_size _ rfl
  have a4 := u4 (zh3 p q h l1 l2).objs.size _ (Heap.get?_push_size _ rfl)
  have a3 := u3 (zh2 p q h l1 l2).objs.size _ (Heap.get?_push_size _ rfl)
  have a2 := u2 (zh1 p h l1).objs.size _ (Heap.get?_push_size _ (by cases q <;> rfl))
  have a1 := u1 h.objs.size _ (Heap.get?_push_size _ (by cases p <;> rfl))
  refine ⟨s4, ⟨?_, ?_, ?_, ?_, ?_, fun c o e => u1 c o (Heap.get?_push_of_some _ e)⟩⟩
  · rw [s2, s3, s4] at a5; exact a5
  · rw [s1, s2] at a3; exact a3
  · rw [s3] at a4; exact a4
  · cases p <;> exact ⟨_, a1, rfl, rfl⟩
  · rw [s1] at a2
    cases q <;> exact ⟨_, a2, rfl, rfl⟩
section
variable {prog : Program} {w : World} {A : Around} {E : Value → Shared → Prop} {s : Shared}
theorem call_zipB {p q : Bool} {l1 l2 : Addr} {xs ys : Array Value} {Q : Value → Shared → Prop} (m1 : isB p s.heap l1 xs) (m2 : isB q s.heap l2 ys)
    (told : ∀ h', ZipMade p q s.heap h' l1 l2 → Q (.ref (s.heap.objs.size + 4)) { s with heap := h' }) : wpAny (model prog w) A (call (.type "zip") [.ref l1, .ref l2]) Q E s := by
  obtain ⟨e4, zm⟩ := zip_made p q s.heap l1 l2
  have fin : s.heap.objs.size + 4 = (zh4 p q s.heap l1 l2).objs.size := e4.symm
  have isz : (zh5 p q s.heap l1 l2).get? (zh4 p q s.heap l1 l2).objs.size = some (zipObj (zh2 p q s.heap l1 l2).objs.size (zh3 p q s.heap l1 l2).objs.size) := Heap.get?_push_size _ rfl
  cases p with
  | true =>
    cases q with
    | true => exact RZ.call_zipT (xs := xs) (ys := ys) m1 m2 fun h' a b c d e _ k => told h' ⟨a, b, c, d, e, k⟩
    | false =>
      have told := told _ zm
      rw [fin] at told
      exact callType_new F.called_zip (by decide) (F.typeCall_zip_2 _ _) (F.newCall_zip_2 _ _) (fun obj => F.args_object_init_3 obj _ _) F.entry_zip_new (new_zipTL l1 l2 xs ys) ⟨m1, m2, ⟨_, isz, rfl⟩, told⟩
  | false =>
    cases q with
    | false => exact call_zip_2 (xs := xs) (ys := ys) m1 m2 fun h' a b c d e _ k => told h' ⟨a, b, c, d, e, k⟩
    | true =>
      have told := told _ zm
      rw [fin] at told
      exact callType_new F.called_zip (by decide) (F.typeCall_zip_2 _ _) (F.newCall_zip_2 _ _) (fun obj => F.args_object_init_3 obj _ _) F.entry_zip_new (new_zipLT l1 l2 xs ys) ⟨m1, m2, ⟨_, isz, rfl⟩, told⟩
end
def iZipB (K : Fg) (ta : TA) : L2.TI := fun σ H R => ta σ H fun vs H1 => ∃ p q a b xs ys, vs = [.ref a, .ref b] ∧ SqB p K H1 a xs ∧ SqB q K H1 b ys ∧ R (ItzB p q K a b) H1
theorem pi_zipB {X : Cx} {e e2 : Expr} {ta : TA} {np pos tpos : Pos} {elts : List Expr} {kk : Nat} (hg : Gl X "zip") (hm : X.mg "zip" = none) (ha : PA X [e, e2] ta)
    (hs : starEach [e, e2] X.env = (false, eval e X.env) :: starEach [e2] X.env := by rfl) (hpl : (backTo pos (starEach [e2] X.env)).any (·.1) = false := by rfl) : PI X (.Tuple elts kk tpos) (.Call (.Name "zip" np) [e, e2] [] pos) (iZipB X.K ta) := by
  refine ⟨fun pins s σ H R I h => ?_⟩
  refine PyProof.Rows.Call_ (ld_blt I hg hm PyProof.Rows.boot_zip (PyProof.Rows.callWith_type1 (thn (ha.run pos pins s σ H _ I h) ?_) hs hpl))
  rintro us s1 ⟨vs, H1, I1, r1, p, q, a, b, xs, ys, rfl, hqx, hqy, told⟩
  cases r1 with
  | cons ra r1 =>
    cases r1 with
    | cons rb r1 =>
      cases r1
      cases ra
      cases rb
      obtain ⟨its, rv, p1⟩ := seqB I1 hqx
      obtain ⟨its2, rv2, p2⟩ := seqB I1 hqy
      refine call_zipB p1 p2 fun h' zm => wpAny_pyIter_zip zm.z ?_
      have J : Inv X pins σ H1 { s1 with heap := h' } := I1.kept (t' := s1.toks) zm.up
      refine ⟨_, [s1.heap.objs.size + 4, s1.heap.objs.size + 2, s1.heap.objs.size + 3, s1.heap.objs.size, s1.heap.objs.size + 1], _, _, H1, rfl, J, turn_zipB p q (PySem.W.ktu_apart s1.heap.objs.size a b (isB_lt p1) (isB_lt p2)), ⟨zm.z, zm.ti, ⟨_, _, zm.to⟩, zm.i1, zm.i2⟩, ?_, told⟩
      intro c hc
      have big : s1.heap.objs.size ≤ c := by
        rcases five.mp hc with e | e | e | e | e <;> subst e <;> omega
      exact I1.fpOk big (I1.hok.fresh big)
theorem walk_zipB {p q : Bool} {K : Fg} {a b : Addr} {xs ys : List V} {n : Nat} (hn : n = min xs.length ys.length) : Walk (ItzB p q K a b) n (fun H => SqB p K H a xs ∧ SqB q K H b ys) (YPair (fun i => xs[i]?) (fun i => ys[i]?)) where
  goes := by
    rintro i H hi ⟨qa, qb⟩
    have la : i < xs.length := by omega
    have lb : i < ys.length := by omega
    exact ⟨xs, ys, _, _, qa, qb, List.getElem?_eq_getElem la, List.getElem?_eq_getElem lb⟩
  stops := by
    rintro H ⟨qa, qb⟩
    exact ⟨xs, ys, qa, qb, by omega, by omega, by omega⟩
  yields := by
    rintro i H v H' hi ⟨qa, qb⟩ ⟨T, u, u', ev, fresh, eH, ku, ku'⟩
    exact ⟨T, u, u', ev, fresh, eH, ku xs qa, ku' ys qb⟩
/-- the items of a sequence -/
def seqA : D → Option (List D)
  | .tup ds => some ds
  | .lst ds => some ds
  | _ => none
def iZipX (wr : WA) : WA := fun ρ m Q Qx => wr ρ m (fun ds m1 => ∃ x y xs ys, ds = [x, y] ∧ seqA x = some xs ∧ seqA y = some ys ∧ Q (zipD xs ys) m1) Qx
theorem seqA_rp {K : Fg} {G : Hp} {v : V} {d : D} {ds : List D} (r : Rp K G v d) (h : seqA d = some ds) : ∃ b a xs, v = .ref a ∧ RpA K G xs ds ∧ ∀ H, Ex G H → SqB b K H a xs := by
  cases r <;> first | (cases h; done) | skip
  case lst a xs ds' hx rr =>
    cases h
    exact ⟨false, a, xs, rfl, rr, fun H e => SqL.of (e _ _ hx)⟩
  case tup a xs ds' hx rr =>
    cases h
    exact ⟨true, a, xs, rfl, rr, fun H e => Evl.ex_t e hx⟩
theorem pi_zipX {K : Fg} {W : Wx} {ι : Type} {X : ι → Cx} {pos : Pos} {a b : Expr} {wr : WA} {mg : Str → Option Value} {np tpos : Pos} {elts : List Expr} {kk : Nat} (hK : ∀ i, (X i).K = K) (hX : ∀ i, (X i).mg = mg) (hm : mg "zip" = none) (ha : PDA K W X [a, b] wr) (hg : ∀ i, Gl (X i) "zip" := by intro _; rfl)
    (hs : ∀ i, starEach [a, b] (X i).env = (false, eval a (X i).env) :: starEach [b] (X i).env := by intro _; rfl) (hpl : ∀ i, (backTo pos (starEach [b] (X i).env)).any (·.1) = false := by intro _; rfl) :
    PDI K W X (.Tuple elts kk tpos) (.Call (.Name "zip" np) [a, b] [] pos) (iZipX wr) := by
  obtain ⟨t, h1, h2⟩ := ha
  refine ⟨iZipB K t, fun i => hK i ▸ pi_zipB (hg i) (by rw [hX i]; exact hm) (h1 i) (hs i) (hpl i), ?_⟩
  intro G m F H σ ρ R Qd Qx hW hE h hX hR
  refine h2 G m F H σ ρ _ _ Qx hW hE h hX ?_
  rintro ds m1 vs G1 H1 ⟨x, y, xs, ys, rfl, ex, ey, told⟩ e1 W1 r1
  cases r1 with
  | cons rx r1 =>
    cases r1 with
    | cons ry r1 =>
      cases r1
      obtain ⟨p, a1, us, rfl, ru, su⟩ := seqA_rp rx ex
      obtain ⟨q, a2, us2, rfl, ru2, su2⟩ := seqA_rp ry ey
      refine ⟨p, q, _, _, _, _, rfl, su H1 W1.ex, su2 H1 W1.ex, hR _ _ _ _ _ told e1 W1 ?_⟩
      exact ⟨_, _, walk_zipB (zip_len ru ru2), fun G2 m F H e W => ⟨⟨su H (e.trans W.ex), su2 H (e.trans W.ex)⟩, zip_turn (G := G1) ru ru2 e W⟩⟩
end DL
/-! XA8: a comprehension whose list is changed later; constants that are tuples of tuples -/
namespace DL
open PySem L2 XO
open Evl (Ex)
section
variable {K : Fg} {G : Hp} {m : Mem} {F H : Hp}
/-- the frame's list is owned from here on -/
theorem Wd.toOwn {p : Addr} {xs : List V} {ds : List D} (W : Wd K G m (upd F p (.lst xs)) H) (hF : F p = none) (r : RpA K G xs ds) : m p = none ∧ Wd K G (m.up p ds) F H := by
  have hG : G p = none := W.frG p _ upd_same
  have hm : m p = none := by
    cases e : m p with
    | none => rfl
    | some ds =>
      obtain ⟨_, h, _⟩ := W.own p ds e
      rw [upd_same] at h; cases h
  refine ⟨hm, W.ex, fun a es e => ?_, fun a u e => ?_, fun a u e => ?_⟩
  · by_cases q : a = p
    · subst q
      rw [Mem.up_same] at e
      cases e
      exact ⟨hG, hF, xs, W.fr _ _ upd_same, r⟩
    · rw [Mem.up_ne q] at e
      obtain ⟨h1, h2, h3⟩ := W.own a es e
      rw [upd_ne q] at h2
      exact ⟨h1, h2, h3⟩
  · have q : a ≠ p := fun z => by subst z; rw [hF] at e; cases e
    exact W.fr a u (by rw [upd_ne q]; exact e)
  · have q : a ≠ p := fun z => by subst z; rw [hF] at e; cases e
    exact W.frG a u (by rw [upd_ne q]; exact e)
end
section
variable {K : Fg} {W : Wx} {ι : Type} {X : ι → Cx} {pos : Pos}
def wLcOGo (g : WG) (tt : WT) (te : WE) (ρ : En0) (Qx : XQ) : List D → List D → Mem → (D → Mem → Prop) → Prop
  | [], acc, m, Q => ∀ p, m p = none → Q (.box p) (m.up p acc)
  | d :: ds, acc, m, Q => g d ρ fun ρ1 => tt ρ1 m (fun b m1 => if b = true then te ρ1 m1 (fun y m2 => wLcOGo g tt te ρ Qx ds (acc ++ [y]) m2 Q) Qx else wLcOGo g tt te ρ Qx ds acc m1 Q) Qx
def wLcO (wi : WA) (g : WG) (tt : WT) (te : WE) (vs : List Nat) : WE := fun ρ m Q Qx => wi ρ m (fun ds m1 => ds.length ≤ 1000000 ∧ wLcOGo g tt te (wipeD ρ vs) Qx ds [] m1 Q) Qx
theorem lift_lcO {ti : TI} {wi : WA} {tG : TG} {js : List Nat} {g : WG} {tT : TT} {tt : WT} {tE : TE} {te : WE} {vs : List Nat} (hi : LiftI K W ti wi) (hg : LiftG K js tG g) (ht : LiftT K W tT tt) (he : LiftE K W tE te) (hj : ∀ j ∈ js, j ∈ vs) :
    LiftE K W (tLc ti tG tT tE vs) (wLcO wi g tt te vs) := by
  intro G m F H σ ρ Q Qd Qx hW hE h hX hQ
  refine hi G m F H σ ρ _ _ Qx hW hE h hX ?_
  intro ds m1 J G1 H1 h1 e1 W1 dw
  intro Dl hD
  obtain ⟨Gd, Y, wk, st⟩ := dw
  obtain ⟨hG, hm, hF⟩ := W1.fresh hD
  obtain ⟨hz, h1⟩ := h1
  refine lc_it wk (fun i H => ∃ G' m' acc xs, Ex G1 G' ∧ Wd K G' m' (upd F Dl (.lst xs)) H ∧ RpA K G' xs acc ∧ acc.length ≤ i ∧ wLcOGo g tt te (wipeD ρ vs) Qx (ds.drop i) acc m' Qd)
    ⟨G1, m1, [], [], Ex.refl _, W1.frame hD (.lst []), .nil, Nat.le_refl _, h1⟩ ?_ ?_ ?_
  · rintro i H _ ⟨G', m', acc, xs, e', W', _⟩
    exact (st G' m' _ H e' W').1
  · rintro i x H H' hi' ⟨G', m', acc, xs, e', W', ra, hl, l⟩ y
    rw [drop_cons hi'] at l
    obtain ⟨G2, e2, W2, r⟩ := (st G' m' _ H e' W').2 i H' x ds[i] (List.getElem?_eq_getElem hi') y
    have e12 := (e1.trans e').trans e2
    refine hg G2 m' _ H' x _ (L2.wipe σ vs) (wipeD ρ vs) _ _ W2 ((hE.mono e12).wipe vs) r l ?_
    intro ρ1 σ1 q E1 w1
    refine ⟨(w1 vs hj).trans wipe_wipe, ?_⟩
    refine ht G2 m' _ H' σ1 ρ1 _ _ Qx W2 E1 q ((hX.mono e12).frame hF) ?_
    intro b m2 G3 H3 q3 e3 W3
    have e13 := e12.trans e3
    cases b with
    | true =>
      refine he G3 m2 _ H3 σ1 ρ1 _ _ Qx W3 (E1.mono e3) q3 ((hX.mono e13).frame hF) ?_
      intro d m3 v G4 H4 q4 e4 W4 r4
      have rx := (ra.mono e2).mono (e3.trans e4)
      refine ⟨xs, W4.fr _ _ upd_same, ?_, G4, m3, acc ++ [d], xs ++ [v], ((e'.trans e2).trans e3).trans e4, W4.reframe _, rx.app (.cons r4 .nil), ?_, q4⟩
      · rw [ra.len]
        have := line_big
        omega
      · rw [List.length_append, List.length_singleton]; omega
    | false =>
      exact ⟨G3, m2, acc, xs, (e'.trans e2).trans e3, W3, (ra.mono e2).mono e3, by omega, q3⟩
  · rintro H ⟨G', m', acc, xs, e', W', ra, hl, l⟩
    rw [List.drop_length] at l
    obtain ⟨hm', W3⟩ := W'.toOwn hF ra
    exact hQ _ _ _ _ _ (l Dl hm') (e1.trans e') W3 (.box Dl)
theorem ps_setLcO {i : Nat} {y : Str} {py : Pos} {elt tg iter : Expr} {ifs : List Expr} {scope : Scope} {own : List (Str × Nat)} {wi : WA} {js : List Nat} {g : WG} {tt : WT} {te : WE} {N : List Str} {spos : Pos} (hX : ∀ j, (X j).N = N) (hc : ∀ i, (X i).calm = true) (hN : N.Nodup) (hy : N[i]? = some y)
    (hyl : ∀ j, (X j).env.scope.names.lookup y = some .local) (hsw : ∀ j, swapsWith (.ListComp elt [⟨tg, iter, ifs, 0⟩] scope pos) (some (.Name y py)) spos.line (X j).env = pure true) (hi : PDI K W X tg iter wi)
    (ok : ∀ i, BlkOk N (X i).env.scope scope own) (hg : PDG K (Blk X scope) tg js g) (ht : PDTs K W (Blk X scope) ifs tt) (he : PD K W (Blk X scope) elt te) (hj : ∀ j ∈ js, j ∈ own.map (·.2) := by decide) (hs : ∀ i x, foldedSetIterable iter (X i).env x = pure x := by intro _ _; rfl) :
    PDS K W X (.Assign [.Name y py] (.ListComp elt [⟨tg, iter, ifs, 0⟩] scope pos) spos) (sSet i (wLcO wi g tt te (own.map (·.2)))) := by
  obtain ⟨ti, i1, i2⟩ := hi
  obtain ⟨tG, g1, g2⟩ := hg
  obtain ⟨tT, t1, t2⟩ := ht
  obtain ⟨tE, e1, e2⟩ := he
  refine ⟨_, fun j => L2.ps_setLc (i := i) (hc j) (by rw [hX j]; exact hN) (by rw [hX j]; exact hy) (hyl j) (hsw j) (i1 j) (by rw [hX j]; exact ok j) (fun s H C cl fp => g1 (j, s, H, C, cl, fp)) (fun s H C cl fp => t1 (j, s, H, C, cl, fp)) (fun s H C cl fp => e1 (j, s, H, C, cl, fp)) (hs j), ?_⟩
  intro G m F H σ ρ S E hW hE h f
  refine lift_lcO i2 g2 t2 e2 hj G m F H σ ρ _ _ E.ex hW hE h f.ex ?_
  intro d m' v G' H' q e W' r
  exact f.nx _ m' _ G' H' q e W' ((hE.mono e).put r i)
end
/-- a constant tuple, its items told apart -/
theorem rp_globN {K : Fg} {a : Addr} {o : Obj} {its : Array Value} {n : Nat} {vs : List V} {ds : List D} (lk : K.lookup a = some o) (oc : o.cls = .type "tuple") (od : o.data = .seq its n) (hz : its.size ≤ sizeLine) (hv : Vals vs its.toList) (rr : ∀ G, RpA K G vs ds) : ∀ G, Rp K G (.ref a) (.tup ds) :=
  fun G => .tup (Or.inr ⟨o, its, n, lk, oc, od, hz, hv⟩) (rr G)
end DL
/-! XSM: methods of texts at the level of data -/
namespace DL
open PySem L2
open Evl (Ex)
section
variable {K : Fg} {W : Wx} {ι : Type} {X : ι → Cx} {pos : Pos} {e : Expr} {wa : WE}
abbrev WM := Str → List D → Mem → (D → Mem → Prop) → Prop
def LiftM (K : Fg) (r : V → List V → Hp → VK → Prop) (w : WM) : Prop := ∀ G m F H z xs ds (Q : VK) (Qd : D → Mem → Prop), Wd K G m F H → RpA K G xs ds → w z ds m Qd → FitE K G F Q Qd → r (.str z) xs H Q
def MtU (K : Fg) {ι : Type} (X : ι → Cx) (id : String) (w : WM) : Prop := ∃ r, (∀ i, MtR (X i) id r) ∧ LiftM K r w
/-- o.name() -/
def wM0 (w : WM) (wo : WE) : WE := fun ρ m Q Qx => wo ρ m (fun x m1 => match x with
  | .str z => w z [] m1 Q
  | _ => False) Qx
/-- o.name(e) -/
def wM1 (w : WM) (wo we : WE) : WE := fun ρ m Q Qx => wo ρ m (fun x m1 => match x with
  | .str z => we ρ m1 (fun y m2 => w z [y] m2 Q) Qx
  | _ => False) Qx
theorem pd_m0 {id : String} {name : Str} {o : Expr} {wo : WE} {apos : Pos} {w : WM} (hm : MtU K X id w) (slot : Slot "str" name id) (ty : typeOf (.builtin id) = pure (.type "method_descriptor")) (ho : PD K W X o wo)
    (hb : ∀ i, attributeBase o name (X i).env (eval o (X i).env) = eval o (X i).env := by intro _; rfl) (hl : (apos.endLine == pos.line) = true := by rfl) : PD K W X (.Call (.Attribute o name apos) [] [] pos) (wM0 w wo) := by
  obtain ⟨r, m1, m2⟩ := hm
  obtain ⟨to, o1, o2⟩ := ho
  refine ⟨_, fun i => pe_m0 slot ty (m1 i) (o1 i) (hb i) hl, ?_⟩
  intro G m F H σ ρ Q Qd Qx hW hE h hX hQ
  refine o2 G m F H σ ρ _ _ Qx hW hE h hX ?_
  intro x m1 xv G1 H1 q1 f1 W1 r1
  cases r1 <;> first | exact (show False from q1).elim | skip
  rename_i a
  refine ⟨⟨a, rfl⟩, m2 G1 m1 F H1 a [] [] Q Qd W1 .nil q1 ?_⟩
  exact fun d m' v G' H' q e => hQ d m' v G' H' q (f1.trans e)
theorem pd_m1 {id : String} {name : Str} {o : Expr} {wo : WE} {apos : Pos} {w : WM} (hm : MtU K X id w) (slot : Slot "str" name id) (ty : typeOf (.builtin id) = pure (.type "method_descriptor")) (ho : PD K W X o wo) (he : PD K W X e wa)
    (hs : ∀ i, starEach [e] (X i).env = [(false, eval e (X i).env)] := by intro _; rfl) (hb : ∀ i, attributeBase o name (X i).env (eval o (X i).env) = eval o (X i).env := by intro _; rfl) (hl : (apos.endLine == pos.line) = true := by rfl) : PD K W X (.Call (.Attribute o name apos) [e] [] pos) (wM1 w wo wa) := by
  obtain ⟨r, m1, m2⟩ := hm
  obtain ⟨to, o1, o2⟩ := ho
  obtain ⟨te, e1, e2⟩ := he
  refine ⟨_, fun i => pe_m1 slot ty (m1 i) (o1 i) (e1 i) (hs i) (hb i) hl, ?_⟩
  intro G m F H σ ρ Q Qd Qx hW hE h hX hQ
  refine o2 G m F H σ ρ _ _ Qx hW hE h hX ?_
  intro x m1 xv G1 H1 q1 f1 W1 r1
  cases r1 <;> first | exact (show False from q1).elim | skip
  rename_i a
  refine ⟨⟨a, rfl⟩, e2 G1 m1 F H1 σ ρ _ _ Qx W1 (hE.mono f1) q1 (hX.mono f1) ?_⟩
  intro y m2' yv G2 H2 q2 f2 W2 r2
  refine m2 G2 m2' F H2 a [yv] [y] Q Qd W2 (.cons r2 .nil) q2 ?_
  exact fun d m' v G' H' q e => hQ d m' v G' H' q ((f1.trans f2).trans e)
/-- a method without arguments that says yes or no -/
def wIs (f : Str → Bool) : WM := fun z ds m Q => ds = [] ∧ Q (.bl (f z)) m
theorem lift_is0 {f : Str → Bool} : LiftM K (fun x xs H Q => ∃ a, x = .str a ∧ xs = [] ∧ True ∧ Q (.bl (f a)) H) (wIs f) := by
  intro G m F H z xs ds Q Qd hW r h hQ
  obtain ⟨rfl, q⟩ := h
  cases r
  exact ⟨z, rfl, rfl, trivial, hQ.here hW q (.bl _)⟩
theorem m_isascii : MtU K X "str.isascii" (wIs Txt.isascii) := ⟨_, fun _ => mt_isascii, lift_is0⟩
theorem m_isalpha : MtU K X "str.isalpha" (wIs Txt.isalpha) := ⟨_, fun _ => mt_isalpha, lift_is0⟩
theorem m_islower : MtU K X "str.islower" (wIs Txt.islower) := ⟨_, fun _ => mt_islower, lift_is0⟩
theorem m_isdecimal : MtU K X "str.isdecimal" (wIs Txt.isdecimal) := ⟨_, fun _ => mt_isdecimal, lift_is0⟩
end
/-! small letters -/
def lowC (c : Nat) : Bool := decide (97 ≤ c) && decide (c ≤ 122)
theorem ascii_c : ∀ c, c < 128 → Unicode.isAlpha c = (lowC c || (decide (65 ≤ c) && decide (c ≤ 90))) ∧ Unicode.isLower c = lowC c ∧ (Unicode.isUpper c || Unicode.isTitle c) = (decide (65 ≤ c) && decide (c ≤ 90)) := by decide +kernel
theorem low_big {c : Nat} (h : ¬ c < 128) : lowC c = false := by
  unfold lowC
  have : decide (c ≤ 122) = false := decide_eq_false (by omega)
  rw [this, Bool.and_false]
theorem lower_list {l : List Nat} (h : l.all (fun c => decide (c < 128)) = true) : ((decide (l.length > 0) && l.all Unicode.isAlpha) && (l.any Unicode.isLower && !l.any fun c => Unicode.isUpper c || Unicode.isTitle c)) = (decide (l.length > 0) && l.all lowC) := by
  have h1 : ∀ c ∈ l, Unicode.isAlpha c = (lowC c || (decide (65 ≤ c) && decide (c ≤ 90))) ∧ Unicode.isLower c = lowC c ∧ (Unicode.isUpper c || Unicode.isTitle c) = (decide (65 ≤ c) && decide (c ≤ 90)) := by
    intro c hc
    exact ascii_c c (by simpa using (List.all_eq_true.mp h) c hc)
  rw [Bool.eq_iff_iff]
  simp only [Bool.and_eq_true, decide_eq_true_eq, List.all_eq_true, List.any_eq_true, Bool.not_eq_true', List.any_eq_false]
  constructor
  · rintro ⟨⟨h0, h2⟩, _, h4⟩
    refine ⟨h0, fun c hc => ?_⟩
    have a := h2 c hc
    have u := h4 c hc
    rw [(h1 c hc).1] at a
    rw [(h1 c hc).2.2] at u
    rcases Bool.or_eq_true _ _ |>.mp a with a | a
    · exact a
    · exact absurd a u
  · rintro ⟨h0, h2⟩
    refine ⟨⟨h0, fun c hc => by rw [(h1 c hc).1, h2 c hc]; rfl⟩, ?_, fun c hc => ?_⟩
    · obtain ⟨c, l', rfl⟩ := List.exists_cons_of_length_pos h0
      exact ⟨c, List.mem_cons_self, by rw [(h1 c List.mem_cons_self).2.1, h2 c List.mem_cons_self]⟩
    · rw [(h1 c hc).2.2]
      have := h2 c hc
      unfold lowC at this
      simp only [Bool.and_eq_true, decide_eq_true_eq] at this ⊢
      omega
theorem lettered_eq (z : Str) : (if (Txt.isascii z) = true then (if Txt.isalpha z = true then Txt.islower z else false) else false) = (decide (z.cps.toList.length > 0) && z.cps.toList.all lowC) := by
  unfold Txt.isascii Txt.isalpha Txt.islower
  have e0 : z.length = z.cps.toList.length := by unfold Str.length; simp
  rw [e0]
  rw [← Array.all_toList, ← Array.all_toList, ← Array.any_toList, ← Array.any_toList]
  generalize z.cps.toList = l
  cases ha : l.all (fun c => decide (c < 128)) with
  | true =>
    rw [if_pos rfl, ← lower_list ha]
    cases (decide (l.length > 0) && l.all Unicode.isAlpha) <;> simp
  | false =>
    rw [if_neg Bool.false_ne_true]
    obtain ⟨c, hc, hn⟩ := List.all_eq_false.mp ha
    symm
    rw [Bool.and_eq_false_iff]
    right
    rw [List.all_eq_false]
    exact ⟨c, hc, by rw [low_big (by simpa using hn)]; exact Bool.false_ne_true⟩
end DL
/-! XA9: a target of several names, handed a list or a tuple -/
namespace DL
open PySem L2 XO
open Evl (Ex)
def gvSeq (n : Nat) (g : WGs) : WG := fun d ρ Q => ∃ ds, seqA d = some ds ∧ ds.length = n ∧ g ds ρ Q
theorem pg_seq {K : Fg} {ι : Type} {X : ι → Cx} {pos : Pos} {es : List Expr} {n : Nat} {js : List Nat} {g : WGs} {kx : Nat} (hK : ∀ i, (X i).K = K) (hc : ∀ i, (X i).calm = true) (h : PDGs K X es js g) (hn : ∀ i, (assignEach es (X i).env).length = n := by intro _; rfl) (hst : ∀ i, (assignEach es (X i).env).findIdx? (·.1) = none := by intro _; rfl) : PDG K X (.Tuple es kx pos) js (gvSeq n g) := by
  obtain ⟨t, a1, a2⟩ := h
  refine ⟨_, fun j => pg_or (hK j ▸ L2.pg_tup (hc j) (a1 j) (hn j) (hst j)) (hK j ▸ L2.pg_lst (hc j) (a1 j) (hn j) (hst j)), ?_⟩
  rintro G m F H v d σ ρ Q Qd hW hE r ⟨ds, hd, hl, q⟩ hQ
  cases r <;> first | (cases hd; done) | skip
  case lst a0 xs ds' hx rr =>
    cases hd
    exact Or.inr ⟨_, _, rfl, SqL.of (hW.ex _ _ hx), by rw [rr.len]; exact hl, a2 G m F H xs ds σ ρ Q Qd hW hE rr q hQ⟩
  case tup a0 xs ds' hx rr =>
    cases hd
    exact Or.inl ⟨_, _, rfl, Evl.ex_t hW.ex hx, by rw [rr.len]; exact hl, a2 G m F H xs ds σ ρ Q Qd hW hE rr q hQ⟩
end DL
/-! XQ: readings opened one after another -/
namespace DL
open PySem L2 XO
section
variable {ρ : En0} {m : Mem} {Q : D → Mem → Prop} {Qx : XQ} {E : De} {P : Prop}
theorem a_test {w : WE} {Qb : Bool → Mem → Prop} : wTest w ρ m Qb Qx = w ρ m (fun d m' => match d with
  | .bl b => Qb b m'
  | _ => False) Qx := rfl
theorem a_op {r : WR} {a b : WE} : wOp r a b ρ m Q Qx = a ρ m (fun x m1 => b ρ m1 (fun y m2 => r x y m2 Q) Qx) Qx := rfl
theorem a_var {i : Nat} : wVar i ρ m Q Qx = (match ρ[i]? with
  | some (some d) => Q d m
  | _ => False) := rfl
theorem a_c {d : D} : wC d ρ m Q Qx = Q d m := rfl
theorem a_call {fn : DFn} {a : WA} : wCall fn a ρ m Q Qx = a ρ m (fun ds m1 => fn ds m1 Q (fun _ _ => False)) Qx := rfl
theorem a_callX {fn : DFn} {a : WA} : wCallX fn a ρ m Q Qx = a ρ m (fun ds m1 => fn ds m1 Q Qx) Qx := rfl
theorem a_call0 {fn : DFn} : wCall0 fn ρ m Q Qx = fn [] m Q (fun _ _ => False) := rfl
theorem a_nil {Ql : List D → Mem → Prop} : wNil ρ m Ql Qx = Ql [] m := rfl
theorem a_cons {a : WE} {r : WA} {Ql : List D → Mem → Prop} : wCons a r ρ m Ql Qx = a ρ m (fun x m1 => r ρ m1 (fun xs m2 => Ql (x :: xs) m2) Qx) Qx := rfl
theorem a_bi {w : WC} {a : WA} : wBi w a ρ m Q Qx = a ρ m (fun ds m1 => w ds m1 Q) Qx := rfl
theorem a_tnot {a : WT} {Qb : Bool → Mem → Prop} : tvNot a ρ m Qb Qx = a ρ m (fun c m1 => Qb (!c) m1) Qx := rfl
theorem a_tor {a b : WT} {Qb : Bool → Mem → Prop} : tvOr a b ρ m Qb Qx = a ρ m (fun c m1 => if c = true then Qb true m1 else b ρ m1 Qb Qx) Qx := rfl
theorem a_tand {a b : WT} {Qb : Bool → Mem → Prop} : tvAnd a b ρ m Qb Qx = a ρ m (fun c m1 => if c = true then b ρ m1 Qb Qx else Qb false m1) Qx := rfl
theorem a_tru {w : WE} {Qb : Bool → Mem → Prop} : wTru w ρ m Qb Qx = w ρ m (fun d m1 => ∃ k, truD m1 d = some k ∧ Qb k m1) Qx := rfl
theorem a_yes {Qb : Bool → Mem → Prop} : tvYes ρ m Qb Qx = Qb true m := rfl
theorem a_if {t : WT} {a b : WE} : wIf t a b ρ m Q Qx = t ρ m (fun c m1 => if c = true then a ρ m1 Q Qx else b ρ m1 Q Qx) Qx := rfl
theorem a_and {a b : WE} : wAnd a b ρ m Q Qx = a ρ m (fun x m1 => match x with
  | .bl c => if c = true then b ρ m1 Q Qx else Q (.bl false) m1
  | _ => False) Qx := rfl
theorem a_or {a b : WE} : wOr a b ρ m Q Qx = a ρ m (fun x m1 => match x with
  | .bl c => if c = true then Q (.bl true) m1 else b ρ m1 Q Qx
  | _ => False) Qx := rfl
theorem a_not {a : WE} : wNot a ρ m Q Qx = a ρ m (fun x m1 => match x with
  | .bl c => Q (.bl (!c)) m1
  | _ => False) Qx := rfl
theorem a_chain {r r' : WR} {a b c : WE} : wChain r r' a b c ρ m Q Qx = a ρ m (fun x m1 => b ρ m1 (fun y m2 => r x y m2 fun z m3 => match z with
  | .bl k => if k = true then c ρ m3 (fun u m4 => r' y u m4 Q) Qx else Q (.bl false) m3
  | _ => False) Qx) Qx := rfl
theorem a_sl {a : WE} {l h : WO} : wSl a l h ρ m Q Qx = a ρ m (fun x m1 => l ρ m1 (fun lo m2 => h ρ m2 (fun hi m3 => dSl x lo hi m3 Q) Qx) Qx) Qx := rfl
theorem a_noPart {Qo : Option Int → Mem → Prop} : wNoPart ρ m Qo Qx = Qo none m := rfl
theorem a_part {a : WE} {Qo : Option Int → Mem → Prop} : wPart a ρ m Qo Qx = a ρ m (fun d m1 => match d with
  | .int i => Qo (some i) m1
  | _ => False) Qx := rfl
theorem a_lst {r : WA} : wLst r ρ m Q Qx = r ρ m (fun ds m1 => ds.length ≤ sizeLine ∧ Q (.lst ds) m1) Qx := rfl
theorem a_tup {r : WA} : wTup r ρ m Q Qx = r ρ m (fun ds m1 => ds.length ≤ sizeLine ∧ Q (.tup ds) m1) Qx := rfl
theorem a_dct0 : wDct0 ρ m Q Qx = Q (.dct [] []) m := rfl
theorem a_own {r : WA} : wOwn r ρ m Q Qx = r ρ m (fun ds m1 => ds.length ≤ sizeLine ∧ ∀ p, m1 p = none → Q (.box p) (m1.up p ds)) Qx := rfl
theorem a_isT {we : WE} {ns : List String} : wIsiT we ns ρ m Q Qx = we ρ m (fun x m1 => typedM m1 x = true ∧ ∃ b, isaL x ns = some b ∧ Q (.bl b) m1) Qx := rfl
theorem a_next : sNext E ρ m = E.nx ρ m := rfl
theorem a_seq {t u : WS} : sSeq t u E ρ m = t { E with nx := fun ρ' m' => u E ρ' m' } ρ m := rfl
theorem a_ret {w : WE} : sRet w E ρ m = w ρ m E.rt E.ex := rfl
theorem a_drop {w : WE} : sDrop w E ρ m = w ρ m (fun _ m' => E.nx ρ m') E.ex := rfl
theorem a_sif {c : WT} {t u : WS} : sIf c t u E ρ m = c ρ m (fun k m' => if k = true then t E ρ m' else u E ρ m') E.ex := rfl
theorem a_set {i : Nat} {w : WE} : sSet i w E ρ m = w ρ m (fun d m' => E.nx (ρ.set i (some d)) m') E.ex := rfl
theorem a_raise {n fld : Str} {w : WE} : sRaise n fld w E ρ m = w ρ m (fun v m1 => E.ex ⟨n, fld, v⟩ m1) E.ex := rfl
theorem a_for {wi : WA} {g : WG} {body : WS} : sFor wi g body E ρ m = wi ρ m (fun ds m1 => wLoop g body E ds ρ m1) E.ex := rfl
theorem a_iVar {i : Nat} {Ql : List D → Mem → Prop} : iVar i ρ m Ql Qx = (match ρ[i]? with
  | some (some (.lst ds)) => Ql ds m
  | some (some (.tup ds)) => Ql ds m
  | some (some (.scr ns)) => Ql (ns.map D.int) m
  | _ => False) := by
  unfold iVar
  split <;> first | rfl | (split <;> first | rfl | simp_all)
theorem a_fld {n f : Str} {we : WE} : wFld n f we ρ m Q Qx = we ρ m (fun x m1 => match x with
  | .obj n' ks ds => n' = n ∧ ∃ d, (ks.zip ds).lookup f = some d ∧ Q d m1
  | _ => False) Qx := rfl
theorem a_lc {wi : WA} {g : WG} {tt : WT} {te : WE} {vs : List Nat} : wLc wi g tt te vs ρ m Q Qx = wi ρ m (fun ds m1 => ds.length ≤ 1000000 ∧ wLcGo g tt te (wipeD ρ vs) Qx ds [] m1 Q) Qx := rfl
theorem a_iEnumB {wr : WA} {Ql : List D → Mem → Prop} : iEnumB wr ρ m Ql Qx = wr ρ m (fun ds m1 => match ds with
  | [.lst xs] => Ql (enumD xs) m1
  | [.tup xs] => Ql (enumD xs) m1
  | _ => False) Qx := rfl
theorem a_iEnumS {wr : WA} {Ql : List D → Mem → Prop} : iEnumS wr ρ m Ql Qx = wr ρ m (fun ds m1 => match ds with
  | [.str z] => Ql (enumD (signs z)) m1
  | _ => False) Qx := rfl
theorem a_iSg {w : WE} {Ql : List D → Mem → Prop} : iSg w ρ m Ql Qx = w ρ m (fun d m1 => match d with
  | .str z => Ql (signs z) m1
  | _ => False) Qx := rfl
theorem a_iLst {w : WE} {Ql : List D → Mem → Prop} : iLst w ρ m Ql Qx = w ρ m (fun d m1 => match d with
  | .lst ds => Ql ds m1
  | .scr ns => Ql (ns.map D.int) m1
  | _ => False) Qx := rfl
theorem a_iTp {w : WE} {Ql : List D → Mem → Prop} : iTp w ρ m Ql Qx = w ρ m (fun d m1 => match d with
  | .tup ds => Ql ds m1
  | _ => False) Qx := rfl
theorem a_join {o e : WE} : wJoin o e ρ m Q Qx = o ρ m (fun x m1 => match x with
  | .str a => e ρ m1 (fun y m2 => match y with
    | .lst ds => ∃ ys, strsD ds = some ys ∧ (ys.map (·.length)).sum + ys.length * a.length ≤ 16777216 ∧ Q (.str (Txt.join a ys)) m2
    | _ => False) Qx
  | _ => False) Qx := rfl
theorem a_lenSet {we : WE} : wLenSet we ρ m Q Qx = we ρ m (fun d m1 => match d with
  | .str z => z.cps.toList.length < 4000 ∧ Q (.int (unlike z : Nat)) m1
  | _ => False) Qx := rfl
theorem a_append {o : WE} {wr : WA} : sAppend o wr E ρ m = o ρ m (fun x m1 => match x with
  | .box p => (m1 p).isSome = true ∧ wr ρ m1 (fun ds m2 => ∃ d xs, ds = [d] ∧ m2 p = some xs ∧ xs.length < sizeLine ∧ E.nx ρ (m2.up p (xs ++ [d]))) E.ex
  | _ => False) E.ex := rfl
theorem a_put {o i v : WE} : sPut o i v E ρ m = v ρ m (fun d m1 => o ρ m1 (fun x m2 => i ρ m2 (fun k m3 => match x, k with
  | .box a, .int j => ∃ ds n, m3 a = some ds ∧ ixN ds.length j = some n ∧ E.nx ρ (m3.up a (ds.set n d))
  | _, _ => False) E.ex) E.ex) E.ex := rfl
theorem a_par {i j : Nat} {wr : WA} : sPar i j wr E ρ m = wr ρ m (fun ds m1 => ∃ d1 d2, ds = [d1, d2] ∧ E.nx ((ρ.set i (some d1)).set j (some d2)) m1) E.ex := rfl
theorem a_unp {n : Nat} {g : WGs} {w : WE} : sUnp n g w E ρ m = w ρ m (fun d m1 => ∃ ds, (d = .lst ds ∨ d = .tup ds ∨ ∃ a, d = .box a ∧ m1 a = some ds) ∧ ds.length = n ∧ g ds ρ (fun ρ' => E.nx ρ' m1)) E.ex := rfl
theorem a_meth {n mm : Str} {dds : List D} {fn : DFn} {wo : WE} {wr : WA} : wMeth n mm dds fn wo wr ρ m Q Qx = wo ρ m (fun x m1 => match x with
  | .obj n' ks ds => n' = n ∧ (ks.zip ds).lookup mm = none ∧ ks.length = ds.length ∧ wr ρ m1 (fun as m2 => fn (.obj n' ks ds :: (as ++ dds)) m2 Q Qx) Qx
  | _ => False) Qx := rfl
theorem a_make {nn kk : Nat} {gD : List D → List D → List D} {fn : DFn} {wr wk : WA} : wMake nn kk gD fn wr wk ρ m Q Qx = wr ρ m (fun ds m1 => wk ρ m1 (fun es m2 => ds.length = nn ∧ es.length = kk ∧ fn (gD ds es) m2 Q Qx) Qx) Qx := rfl
theorem a_rg1 {w : WA} {Ql : List D → Mem → Prop} : iRg1 w ρ m Ql Qx = w ρ m (fun ds m1 => match ds with
  | [.int n] => (-(2 ^ 62) ≤ n ∧ n < 2 ^ 62) ∧ Ql ((List.range n.toNat).map fun i => D.int (0 + (i : Nat))) m1
  | _ => False) Qx := rfl
theorem a_gTup {n : Nat} {g : WGs} {ds : List D} {Qe : En0 → Prop} : gvTup n g (.tup ds) ρ Qe = (ds.length = n ∧ g ds ρ Qe) := rfl
theorem a_gName {i : Nat} {d : D} {Qe : En0 → Prop} : gvName i d ρ Qe = Qe (ρ.set i (some d)) := rfl
theorem a_gNil {Qe : En0 → Prop} : gvNil [] ρ Qe = Qe ρ := by
  show (([] : List D) = [] ∧ Qe ρ) = Qe ρ
  simp
theorem a_gCons {g : WG} {r : WGs} {d : D} {ds : List D} {Qe : En0 → Prop} : gvCons g r (d :: ds) ρ Qe = g d ρ fun ρ1 => r ds ρ1 Qe := by
  apply propext
  constructor
  · rintro ⟨d', t, e, h⟩
    cases e
    exact h
  · intro h
    exact ⟨d, ds, rfl, h⟩
theorem a_loopN {g : WG} {body : WS} : wLoop g body E [] ρ m = E.nx ρ m := rfl
theorem a_loopC {g : WG} {body : WS} {d : D} {ds : List D} : wLoop g body E (d :: ds) ρ m = g d ρ fun ρ1 => body { E with nx := wLoop g body E ds, ct := wLoop g body E ds, bk := E.nx } ρ1 m := rfl
end
end DL
/-! XQQ: slots by their numbers -/
namespace DL
open PySem L2 XO
/-- the statements that follow, not opened yet -/
def Hold (u : WS) (E : De) : En0 → Mem → Prop := fun ρ m => u E ρ m
theorem a_hold {u : WS} {E : De} {ρ : En0} {m : Mem} : Hold u E ρ m = u E ρ m := rfl
theorem a_seqH {t u : WS} {E : De} {ρ : En0} {m : Mem} : sSeq t u E ρ m = t { E with nx := Hold u E } ρ m := rfl
section
variable {m : Mem} {Q : D → Mem → Prop} {Qx : XQ} {E : De} {w : WE} {ρ : En0} {d : D} {Qe : En0 → Prop} {Ql : List D → Mem → Prop}
theorem a_v0 : wVar 0 (some d :: ρ) m Q Qx = Q d m := rfl
theorem a_s0 {p : Option D} : sSet 0 w E (p :: ρ) m = w (p :: ρ) m (fun d m' => E.nx (some d :: ρ) m') E.ex := rfl
theorem a_g0 {p : Option D} : gvName 0 d (p :: ρ) Qe = Qe (some d :: ρ) := rfl
theorem a_ilst0 {ds : List D} : iVar 0 (some (.lst ds) :: ρ) m Ql Qx = Ql ds m := rfl
theorem a_itup0 {ds : List D} : iVar 0 (some (.tup ds) :: ρ) m Ql Qx = Ql ds m := rfl
theorem a_v1 {o0 : Option D} : wVar 1 (o0 :: some d :: ρ) m Q Qx = Q d m := rfl
theorem a_s1 {o0 : Option D} {p : Option D} : sSet 1 w E (o0 :: p :: ρ) m = w (o0 :: p :: ρ) m (fun d m' => E.nx (o0 :: some d :: ρ) m') E.ex := rfl
theorem a_g1 {o0 : Option D} {p : Option D} : gvName 1 d (o0 :: p :: ρ) Qe = Qe (o0 :: some d :: ρ) := rfl
theorem a_ilst1 {o0 : Option D} {ds : List D} : iVar 1 (o0 :: some (.lst ds) :: ρ) m Ql Qx = Ql ds m := rfl
theorem a_itup1 {o0 : Option D} {ds : List D} : iVar 1 (o0 :: some (.tup ds) :: ρ) m Ql Qx = Ql ds m := rfl
theorem a_v2 {o0 o1 : Option D} : wVar 2 (o0 :: o1 :: some d :: ρ) m Q Qx = Q d m := rfl
theorem a_s2 {o0 o1 : Option D} {p : Option D} : sSet 2 w E (o0 :: o1 :: p :: ρ) m = w (o0 :: o1 :: p :: ρ) m (fun d m' => E.nx (o0 :: o1 :: some d :: ρ) m') E.ex := rfl
theorem a_g2 {o0 o1 : Option D} {p : Option D} : gvName 2 d (o0 :: o1 :: p :: ρ) Qe = Qe (o0 :: o1 :: some d :: ρ) := rfl
theorem a_ilst2 {o0 o1 : Option D} {ds : List D} : iVar 2 (o0 :: o1 :: some (.lst ds) :: ρ) m Ql Qx = Ql ds m := rfl
theorem a_itup2 {o0 o1 : Option D} {ds : List D} : iVar 2 (o0 :: o1 :: some (.tup ds) :: ρ) m Ql Qx = Ql ds m := rfl
theorem a_v3 {o0 o1 o2 : Option D} : wVar 3 (o0 :: o1 :: o2 :: some d :: ρ) m Q Qx = Q d m := rfl
theorem a_s3 {o0 o1 o2 : Option D} {p : Option D} : sSet 3 w E (o0 :: o1 :: o2 :: p :: ρ) m = w (o0 :: o1 :: o2 :: p :: ρ) m (fun d m' => E.nx (o0 :: o1 :: o2 :: some d :: ρ) m') E.ex := rfl
theorem a_g3 {o0 o1 o2 : Option D} {p : Option D} : gvName 3 d (o0 :: o1 :: o2 :: p :: ρ) Qe = Qe (o0 :: o1 :: o2 :: some d :: ρ) := rfl
theorem a_ilst3 {o0 o1 o2 : Option D} {ds : List D} : iVar 3 (o0 :: o1 :: o2 :: some (.lst ds) :: ρ) m Ql Qx = Ql ds m := rfl
theorem a_itup3 {o0 o1 o2 : Option D} {ds : List D} : iVar 3 (o0 :: o1 :: o2 :: some (.tup ds) :: ρ) m Ql Qx = Ql ds m := rfl
theorem a_v4 {o0 o1 o2 o3 : Option D} : wVar 4 (o0 :: o1 :: o2 :: o3 :: some d :: ρ) m Q Qx = Q d m := rfl
theorem a_s4 {o0 o1 o2 o3 : Option D} {p : Option D} : sSet 4 w E (o0 :: o1 :: o2 :: o3 :: p :: ρ) m = w (o0 :: o1 :: o2 :: o3 :: p :: ρ) m (fun d m' => E.nx (o0 :: o1 :: o2 :: o3 :: some d :: ρ) m') E.ex := rfl
theorem a_g4 {o0 o1 o2 o3 : Option D} {p : Option D} : gvName 4 d (o0 :: o1 :: o2 :: o3 :: p :: ρ) Qe = Qe (o0 :: o1 :: o2 :: o3 :: some d :: ρ) := rfl
theorem a_ilst4 {o0 o1 o2 o3 : Option D} {ds : List D} : iVar 4 (o0 :: o1 :: o2 :: o3 :: some (.lst ds) :: ρ) m Ql Qx = Ql ds m := rfl
theorem a_itup4 {o0 o1 o2 o3 : Option D} {ds : List D} : iVar 4 (o0 :: o1 :: o2 :: o3 :: some (.tup ds) :: ρ) m Ql Qx = Ql ds m := rfl
theorem a_v5 {o0 o1 o2 o3 o4 : Option D} : wVar 5 (o0 :: o1 :: o2 :: o3 :: o4 :: some d :: ρ) m Q Qx = Q d m := rfl
theorem a_s5 {o0 o1 o2 o3 o4 : Option D} {p : Option D} : sSet 5 w E (o0 :: o1 :: o2 :: o3 :: o4 :: p :: ρ) m = w (o0 :: o1 :: o2 :: o3 :: o4 :: p :: ρ) m (fun d m' => E.nx (o0 :: o1 :: o2 :: o3 :: o4 :: some d :: ρ) m') E.ex := rfl
theorem a_g5 {o0 o1 o2 o3 o4 : Option D} {p : Option D} : gvName 5 d (o0 :: o1 :: o2 :: o3 :: o4 :: p :: ρ) Qe = Qe (o0 :: o1 :: o2 :: o3 :: o4 :: some d :: ρ) := rfl
theorem a_ilst5 {o0 o1 o2 o3 o4 : Option D} {ds : List D} : iVar 5 (o0 :: o1 :: o2 :: o3 :: o4 :: some (.lst ds) :: ρ) m Ql Qx = Ql ds m := rfl
theorem a_itup5 {o0 o1 o2 o3 o4 : Option D} {ds : List D} : iVar 5 (o0 :: o1 :: o2 :: o3 :: o4 :: some (.tup ds) :: ρ) m Ql Qx = Ql ds m := rfl
theorem a_v6 {o0 o1 o2 o3 o4 o5 : Option D} : wVar 6 (o0 :: o1 :: o2 :: o3 :: o4 :: o5 :: some d :: ρ) m Q Qx = Q d m := rfl
theorem a_s6 {o0 o1 o2 o3 o4 o5 : Option D} {p : Option D} : sSet 6 w E (o0 :: o1 :: o2 :: o3 :: o4 :: o5 :: p :: ρ) m = w (o0 :: o1 :: o2 :: o3 :: o4 :: o5 :: p :: ρ) m (fun d m' => E.nx (o0 :: o1 :: o2 :: o3 :: o4 :: o5 :: some d :: ρ) m') E.ex := rfl
theorem a_g6 {o0 o1 o2 o3 o4 o5 : Option D} {p : Option D} : gvName 6 d (o0 :: o1 :: o2 :: o3 :: o4 :: o5 :: p :: ρ) Qe = Qe (o0 :: o1 :: o2 :: o3 :: o4 :: o5 :: some d :: ρ) := rfl
theorem a_ilst6 {o0 o1 o2 o3 o4 o5 : Option D} {ds : List D} : iVar 6 (o0 :: o1 :: o2 :: o3 :: o4 :: o5 :: some (.lst ds) :: ρ) m Ql Qx = Ql ds m := rfl
theorem a_itup6 {o0 o1 o2 o3 o4 o5 : Option D} {ds : List D} : iVar 6 (o0 :: o1 :: o2 :: o3 :: o4 :: o5 :: some (.tup ds) :: ρ) m Ql Qx = Ql ds m := rfl
theorem a_v7 {o0 o1 o2 o3 o4 o5 o6 : Option D} : wVar 7 (o0 :: o1 :: o2 :: o3 :: o4 :: o5 :: o6 :: some d :: ρ) m Q Qx = Q d m := rfl
theorem a_s7 {o0 o1 o2 o3 o4 o5 o6 : Option D} {p : Option D} : sSet 7 w E (o0 :: o1 :: o2 :: o3 :: o4 :: o5 :: o6 :: p :: ρ) m = w (o0 :: o1 :: o2 :: o3 :: o4 :: o5 :: o6 :: p :: ρ) m (fun d m' => E.nx (o0 :: o1 :: o2 :: o3 :: o4 :: o5 :: o6 :: some d :: ρ) m') E.ex := rfl
theorem a_g7 {o0 o1 o2 o3 o4 o5 o6 : Option D} {p : Option D} : gvName 7 d (o0 :: o1 :: o2 :: o3 :: o4 :: o5 :: o6 :: p :: ρ) Qe = Qe (o0 :: o1 :: o2 :: o3 :: o4 :: o5 :: o6 :: some d :: ρ) := rfl
theorem a_ilst7 {o0 o1 o2 o3 o4 o5 o6 : Option D} {ds : List D} : iVar 7 (o0 :: o1 :: o2 :: o3 :: o4 :: o5 :: o6 :: some (.lst ds) :: ρ) m Ql Qx = Ql ds m := rfl
theorem a_itup7 {o0 o1 o2 o3 o4 o5 o6 : Option D} {ds : List D} : iVar 7 (o0 :: o1 :: o2 :: o3 :: o4 :: o5 :: o6 :: some (.tup ds) :: ρ) m Ql Qx = Ql ds m := rfl
theorem a_v8 {o0 o1 o2 o3 o4 o5 o6 o7 : Option D} : wVar 8 (o0 :: o1 :: o2 :: o3 :: o4 :: o5 :: o6 :: o7 :: some d :: ρ) m Q Qx = Q d m := rfl
theorem a_s8 {o0 o1 o2 o3 o4 o5 o6 o7 : Option D} {p : Option D} : sSet 8 w E (o0 :: o1 :: o2 :: o3 :: o4 :: o5 :: o6 :: o7 :: p :: ρ) m = w (o0 :: o1 :: o2 :: o3 :: o4 :: o5 :: o6 :: o7 :: p :: ρ) m (fun d m' => E.nx (o0 :: o1 :: o2 :: o3 :: o4 :: o5 :: o6 :: o7 :: some d :: ρ) m') E.ex := rfl
theorem a_g8 {o0 o1 o2 o3 o4 o5 o6 o7 : Option D} {p : Option D} : gvName 8 d (o0 :: o1 :: o2 :: o3 :: o4 :: o5 :: o6 :: o7 :: p :: ρ) Qe = Qe (o0 :: o1 :: o2 :: o3 :: o4 :: o5 :: o6 :: o7 :: some d :: ρ) := rfl
theorem a_ilst8 {o0 o1 o2 o3 o4 o5 o6 o7 : Option D} {ds : List D} : iVar 8 (o0 :: o1 :: o2 :: o3 :: o4 :: o5 :: o6 :: o7 :: some (.lst ds) :: ρ) m Ql Qx = Ql ds m := rfl
theorem a_itup8 {o0 o1 o2 o3 o4 o5 o6 o7 : Option D} {ds : List D} : iVar 8 (o0 :: o1 :: o2 :: o3 :: o4 :: o5 :: o6 :: o7 :: some (.tup ds) :: ρ) m Ql Qx = Ql ds m := rfl
theorem a_v9 {o0 o1 o2 o3 o4 o5 o6 o7 o8 : Option D} : wVar 9 (o0 :: o1 :: o2 :: o3 :: o4 :: o5 :: o6 :: o7 :: o8 :: some d :: ρ) m Q Qx = Q d m := rfl
theorem a_s9 {o0 o1 o2 o3 o4 o5 o6 o7 o8 : Option D} {p : Option D} : sSet 9 w E (o0 :: o1 :: o2 :: o3 :: o4 :: o5 :: o6 :: o7 :: o8 :: p :: ρ) m = w (o0 :: o1 :: o2 :: o3 :: o4 :: o5 :: o6 :: o7 :: o8 :: p :: ρ) m (fun d m' => E.nx (o0 :: o1 :: o2 :: o3 :: o4 :: o5 :: o6 :: o7 :: o8 :: some d :: ρ) m') E.ex := rfl
theorem a_g9 {o0 o1 o2 o3 o4 o5 o6 o7 o8 : Option D} {p : Option D} : gvName 9 d (o0 :: o1 :: o2 :: o3 :: o4 :: o5 :: o6 :: o7 :: o8 :: p :: ρ) Qe = Qe (o0 :: o1 :: o2 :: o3 :: o4 :: o5 :: o6 :: o7 :: o8 :: some d :: ρ) := rfl
theorem a_ilst9 {o0 o1 o2 o3 o4 o5 o6 o7 o8 : Option D} {ds : List D} : iVar 9 (o0 :: o1 :: o2 :: o3 :: o4 :: o5 :: o6 :: o7 :: o8 :: some (.lst ds) :: ρ) m Ql Qx = Ql ds m := rfl
theorem a_itup9 {o0 o1 o2 o3 o4 o5 o6 o7 o8 : Option D} {ds : List D} : iVar 9 (o0 :: o1 :: o2 :: o3 :: o4 :: o5 :: o6 :: o7 :: o8 :: some (.tup ds) :: ρ) m Ql Qx = Ql ds m := rfl
theorem a_v10 {o0 o1 o2 o3 o4 o5 o6 o7 o8 o9 : Option D} : wVar 10 (o0 :: o1 :: o2 :: o3 :: o4 :: o5 :: o6 :: o7 :: o8 :: o9 :: some d :: ρ) m Q Qx = Q d m := rfl
theorem a_s10 {o0 o1 o2 o3 o4 o5 o6 o7 o8 o9 : Option D} {p : Option D} : sSet 10 w E (o0 :: o1 :: o2 :: o3 :: o4 :: o5 :: o6 :: o7 :: o8 :: o9 :: p :: ρ) m = w (o0 :: o1 :: o2 :: o3 :: o4 :: o5 :: o6 :: o7 :: o8 :: o9 :: p :: ρ) m (fun d m' => E.nx (o0 :: o1 :: o2 :: o3 :: o4 :: o5 :: o6 :: o7 :: o8 :: o9 :: some d :: ρ) m') E.ex := rfl
theorem a_g10 {o0 o1 o2 o3 o4 o5 o6 o7 o8 o9 : Option D} {p : Option D} : gvName 10 d (o0 :: o1 :: o2 :: o3 :: o4 :: o5 :: o6 :: o7 :: o8 :: o9 :: p :: ρ) Qe = Qe (o0 :: o1 :: o2 :: o3 :: o4 :: o5 :: o6 :: o7 :: o8 :: o9 :: some d :: ρ) := rfl
theorem a_ilst10 {o0 o1 o2 o3 o4 o5 o6 o7 o8 o9 : Option D} {ds : List D} : iVar 10 (o0 :: o1 :: o2 :: o3 :: o4 :: o5 :: o6 :: o7 :: o8 :: o9 :: some (.lst ds) :: ρ) m Ql Qx = Ql ds m := rfl
theorem a_itup10 {o0 o1 o2 o3 o4 o5 o6 o7 o8 o9 : Option D} {ds : List D} : iVar 10 (o0 :: o1 :: o2 :: o3 :: o4 :: o5 :: o6 :: o7 :: o8 :: o9 :: some (.tup ds) :: ρ) m Ql Qx = Ql ds m := rfl
theorem a_v11 {o0 o1 o2 o3 o4 o5 o6 o7 o8 o9 o10 : Option D} : wVar 11 (o0 :: o1 :: o2 :: o3 :: o4 :: o5 :: o6 :: o7 :: o8 :: o9 :: o10 :: some d :: ρ) m Q Qx = Q d m := rfl
theorem a_s11 {o0 o1 o2 o3 o4 o5 o6 o7 o8 o9 o10 : Option D} {p : Option D} : sSet 11 w E (o0 :: o1 :: o2 :: o3 :: o4 :: o5 :: o6 :: o7 :: o8 :: o9 :: o10 :: p :: ρ) m = w (o0 :: o1 :: o2 :: o3 :: o4 :: o5 :: o6 :: o7 :: o8 :: o9 :: o10 :: p :: ρ) m (fun d m' => E.nx (o0 :: o1 :: o2 :: o3 :: o4 :: o5 :: o6 :: o7 :: o8 :: o9 :: o10 :: some d :: ρ) m') E.ex := rfl
theorem a_g11 {o0 o1 o2 o3 o4 o5 o6 o7 o8 o9 o10 : Option D} {p : Option D} : gvName 11 d (o0 :: o1 :: o2 :: o3 :: o4 :: o5 :: o6 :: o7 :: o8 :: o9 :: o10 :: p :: ρ) Qe = Qe (o0 :: o1 :: o2 :: o3 :: o4 :: o5 :: o6 :: o7 :: o8 :: o9 :: o10 :: some d :: ρ) := rfl
theorem a_ilst11 {o0 o1 o2 o3 o4 o5 o6 o7 o8 o9 o10 : Option D} {ds : List D} : iVar 11 (o0 :: o1 :: o2 :: o3 :: o4 :: o5 :: o6 :: o7 :: o8 :: o9 :: o10 :: some (.lst ds) :: ρ) m Ql Qx = Ql ds m := rfl
theorem a_itup11 {o0 o1 o2 o3 o4 o5 o6 o7 o8 o9 o10 : Option D} {ds : List D} : iVar 11 (o0 :: o1 :: o2 :: o3 :: o4 :: o5 :: o6 :: o7 :: o8 :: o9 :: o10 :: some (.tup ds) :: ρ) m Ql Qx = Ql ds m := rfl
theorem a_v12 {o0 o1 o2 o3 o4 o5 o6 o7 o8 o9 o10 o11 : Option D} : wVar 12 (o0 :: o1 :: o2 :: o3 :: o4 :: o5 :: o6 :: o7 :: o8 :: o9 :: o10 :: o11 :: some d :: ρ) m Q Qx = Q d m := rfl
theorem a_s12 {o0 o1 o2 o3 o4 o5 o6 o7 o8 o9 o10 o11 : Option D} {p : Option D} : sSet 12 w E (o0 :: o1 :: o2 :: o3 :: o4 :: o5 :: o6 :: o7 :: o8 :: o9 :: o10 :: o11 :: p :: ρ) m = w (o0 :: o1 :: o2 :: o3 :: o4 :: o5 :: o6 :: o7 :: o8 :: o9 :: o10 :: o11 :: p :: ρ) m (fun d m' => E.nx (o0 :: o1 :: o2 :: o3 :: o4 :: o5 :: o6 :: o7 :: o8 :: o9 :: o10 :: o11 :: some d :: ρ) m') E.ex := rfl
theorem a_g12 {o0 o1 o2 o3 o4 o5 o6 o7 o8 o9 o10 o11 : Option D} {p : Option D} : gvName 12 d (o0 :: o1 :: o2 :: o3 :: o4 :: o5 :: o6 :: o7 :: o8 :: o9 :: o10 :: o11 :: p :: ρ) Qe = Qe (o0 :: o1 :: o2 :: o3 :: o4 :: o5 :: o6 :: o7 :: o8 :: o9 :: o10 :: o11 :: some d :: ρ) := rfl
theorem a_ilst12 {o0 o1 o2 o3 o4 o5 o6 o7 o8 o9 o10 o11 : Option D} {ds : List D} : iVar 12 (o0 :: o1 :: o2 :: o3 :: o4 :: o5 :: o6 :: o7 :: o8 :: o9 :: o10 :: o11 :: some (.lst ds) :: ρ) m Ql Qx = Ql ds m := rfl
theorem a_itup12 {o0 o1 o2 o3 o4 o5 o6 o7 o8 o9 o10 o11 : Option D} {ds : List D} : iVar 12 (o0 :: o1 :: o2 :: o3 :: o4 :: o5 :: o6 :: o7 :: o8 :: o9 :: o10 :: o11 :: some (.tup ds) :: ρ) m Ql Qx = Ql ds m := rfl
theorem a_v13 {o0 o1 o2 o3 o4 o5 o6 o7 o8 o9 o10 o11 o12 : Option D} : wVar 13 (o0 :: o1 :: o2 :: o3 :: o4 :: o5 :: o6 :: o7 :: o8 :: o9 :: o10 :: o11 :: o12 :: some d :: ρ) m Q Qx = Q d m := rfl
theorem a_s13 {o0 o1 o2 o3 o4 o5 o6 o7 o8 o9 o10 o11 o12 : Option D} {p : Option D} : sSet 13 w E (o0 :: o1 :: o2 :: o3 :: o4 :: o5 :: o6 :: o7 :: o8 :: o9 :: o10 :: o11 :: o12 :: p :: ρ) m = w (o0 :: o1 :: o2 :: o3 :: o4 :: o5 :: o6 :: o7 :: o8 :: o9 :: o10 :: o11 :: o12 :: p :: ρ) m (fun d m' => E.nx (o0 :: o1 :: o2 :: o3 :: o4 :: o5 :: o6 :: o7 :: o8 :: o9 :: o10 :: o11 :: o12 :: some d :: ρ) m') E.ex := rfl
theorem a_g13 {o0 o1 o2 o3 o4 o5 o6 o7 o8 o9 o10 o11 o12 : Option D} {p : Option D} : gvName 13 d (o0 :: o1 :: o2 :: o3 :: o4 :: o5 :: o6 :: o7 :: o8 :: o9 :: o10 :: o11 :: o12 :: p :: ρ) Qe = Qe (o0 :: o1 :: o2 :: o3 :: o4 :: o5 :: o6 :: o7 :: o8 :: o9 :: o10 :: o11 :: o12 :: some d :: ρ) := rfl
theorem a_ilst13 {o0 o1 o2 o3 o4 o5 o6 o7 o8 o9 o10 o11 o12 : Option D} {ds : List D} : iVar 13 (o0 :: o1 :: o2 :: o3 :: o4 :: o5 :: o6 :: o7 :: o8 :: o9 :: o10 :: o11 :: o12 :: some (.lst ds) :: ρ) m Ql Qx = Ql ds m := rfl
theorem a_itup13 {o0 o1 o2 o3 o4 o5 o6 o7 o8 o9 o10 o11 o12 : Option D} {ds : List D} : iVar 13 (o0 :: o1 :: o2 :: o3 :: o4 :: o5 :: o6 :: o7 :: o8 :: o9 :: o10 :: o11 :: o12 :: some (.tup ds) :: ρ) m Ql Qx = Ql ds m := rfl
end
end DL
/-! XQ3: more openings -/
namespace DL
open PySem L2 XO
section
variable {ρ : En0} {m : Mem} {d : D} {w : WE} {Q : D → Mem → Prop} {Ql : List D → Mem → Prop} {Qe : En0 → Prop} {Qx : XQ} {E : De}
theorem a_v14 {o0 o1 o2 o3 o4 o5 o6 o7 o8 o9 o10 o11 o12 o13 : Option D} : wVar 14 (o0 :: o1 :: o2 :: o3 :: o4 :: o5 :: o6 :: o7 :: o8 :: o9 :: o10 :: o11 :: o12 :: o13 :: some d :: ρ) m Q Qx = Q d m := rfl
theorem a_s14 {o0 o1 o2 o3 o4 o5 o6 o7 o8 o9 o10 o11 o12 o13 : Option D} {p : Option D} : sSet 14 w E (o0 :: o1 :: o2 :: o3 :: o4 :: o5 :: o6 :: o7 :: o8 :: o9 :: o10 :: o11 :: o12 :: o13 :: p :: ρ) m = w (o0 :: o1 :: o2 :: o3 :: o4 :: o5 :: o6 :: o7 :: o8 :: o9 :: o10 :: o11 :: o12 :: o13 :: p :: ρ) m (fun d m' => E.nx (o0 :: o1 :: o2 :: o3 :: o4 :: o5 :: o6 :: o7 :: o8 :: o9 :: o10 :: o11 :: o12 :: o13 :: some d :: ρ) m') E.ex := rfl
theorem a_g14 {o0 o1 o2 o3 o4 o5 o6 o7 o8 o9 o10 o11 o12 o13 : Option D} {p : Option D} : gvName 14 d (o0 :: o1 :: o2 :: o3 :: o4 :: o5 :: o6 :: o7 :: o8 :: o9 :: o10 :: o11 :: o12 :: o13 :: p :: ρ) Qe = Qe (o0 :: o1 :: o2 :: o3 :: o4 :: o5 :: o6 :: o7 :: o8 :: o9 :: o10 :: o11 :: o12 :: o13 :: some d :: ρ) := rfl
theorem a_v15 {o0 o1 o2 o3 o4 o5 o6 o7 o8 o9 o10 o11 o12 o13 o14 : Option D} : wVar 15 (o0 :: o1 :: o2 :: o3 :: o4 :: o5 :: o6 :: o7 :: o8 :: o9 :: o10 :: o11 :: o12 :: o13 :: o14 :: some d :: ρ) m Q Qx = Q d m := rfl
theorem a_s15 {o0 o1 o2 o3 o4 o5 o6 o7 o8 o9 o10 o11 o12 o13 o14 : Option D} {p : Option D} : sSet 15 w E (o0 :: o1 :: o2 :: o3 :: o4 :: o5 :: o6 :: o7 :: o8 :: o9 :: o10 :: o11 :: o12 :: o13 :: o14 :: p :: ρ) m = w (o0 :: o1 :: o2 :: o3 :: o4 :: o5 :: o6 :: o7 :: o8 :: o9 :: o10 :: o11 :: o12 :: o13 :: o14 :: p :: ρ) m (fun d m' => E.nx (o0 :: o1 :: o2 :: o3 :: o4 :: o5 :: o6 :: o7 :: o8 :: o9 :: o10 :: o11 :: o12 :: o13 :: o14 :: some d :: ρ) m') E.ex := rfl
theorem a_g15 {o0 o1 o2 o3 o4 o5 o6 o7 o8 o9 o10 o11 o12 o13 o14 : Option D} {p : Option D} : gvName 15 d (o0 :: o1 :: o2 :: o3 :: o4 :: o5 :: o6 :: o7 :: o8 :: o9 :: o10 :: o11 :: o12 :: o13 :: o14 :: p :: ρ) Qe = Qe (o0 :: o1 :: o2 :: o3 :: o4 :: o5 :: o6 :: o7 :: o8 :: o9 :: o10 :: o11 :: o12 :: o13 :: o14 :: some d :: ρ) := rfl
theorem a_v16 {o0 o1 o2 o3 o4 o5 o6 o7 o8 o9 o10 o11 o12 o13 o14 o15 : Option D} : wVar 16 (o0 :: o1 :: o2 :: o3 :: o4 :: o5 :: o6 :: o7 :: o8 :: o9 :: o10 :: o11 :: o12 :: o13 :: o14 :: o15 :: some d :: ρ) m Q Qx = Q d m := rfl
theorem a_s16 {o0 o1 o2 o3 o4 o5 o6 o7 o8 o9 o10 o11 o12 o13 o14 o15 : Option D} {p : Option D} : sSet 16 w E (o0 :: o1 :: o2 :: o3 :: o4 :: o5 :: o6 :: o7 :: o8 :: o9 :: o10 :: o11 :: o12 :: o13 :: o14 :: o15 :: p :: ρ) m = w (o0 :: o1 :: o2 :: o3 :: o4 :: o5 :: o6 :: o7 :: o8 :: o9 :: o10 :: o11 :: o12 :: o13 :: o14 :: o15 :: p :: ρ) m (fun d m' => E.nx (o0 :: o1 :: o2 :: o3 :: o4 :: o5 :: o6 :: o7 :: o8 :: o9 :: o10 :: o11 :: o12 :: o13 :: o14 :: o15 :: some d :: ρ) m') E.ex := rfl
theorem a_g16 {o0 o1 o2 o3 o4 o5 o6 o7 o8 o9 o10 o11 o12 o13 o14 o15 : Option D} {p : Option D} : gvName 16 d (o0 :: o1 :: o2 :: o3 :: o4 :: o5 :: o6 :: o7 :: o8 :: o9 :: o10 :: o11 :: o12 :: o13 :: o14 :: o15 :: p :: ρ) Qe = Qe (o0 :: o1 :: o2 :: o3 :: o4 :: o5 :: o6 :: o7 :: o8 :: o9 :: o10 :: o11 :: o12 :: o13 :: o14 :: o15 :: some d :: ρ) := rfl
theorem a_v17 {o0 o1 o2 o3 o4 o5 o6 o7 o8 o9 o10 o11 o12 o13 o14 o15 o16 : Option D} : wVar 17 (o0 :: o1 :: o2 :: o3 :: o4 :: o5 :: o6 :: o7 :: o8 :: o9 :: o10 :: o11 :: o12 :: o13 :: o14 :: o15 :: o16 :: some d :: ρ) m Q Qx = Q d m := rfl
theorem a_s17 {o0 o1 o2 o3 o4 o5 o6 o7 o8 o9 o10 o11 o12 o13 o14 o15 o16 : Option D} {p : Option D} : sSet 17 w E (o0 :: o1 :: o2 :: o3 :: o4 :: o5 :: o6 :: o7 :: o8 :: o9 :: o10 :: o11 :: o12 :: o13 :: o14 :: o15 :: o16 :: p :: ρ) m = w (o0 :: o1 :: o2 :: o3 :: o4 :: o5 :: o6 :: o7 :: o8 :: o9 :: o10 :: o11 :: o12 :: o13 :: o14 :: o15 :: o16 :: p :: ρ) m (fun d m' => E.nx (o0 :: o1 :: o2 :: o3 :: o4 :: o5 :: o6 :: o7 :: o8 :: o9 :: o10 :: o11 :: o12 :: o13 :: o14 :: o15 :: o16 :: some d :: ρ) m') E.ex := rfl
theorem a_g17 {o0 o1 o2 o3 o4 o5 o6 o7 o8 o9 o10 o11 o12 o13 o14 o15 o16 : Option D} {p : Option D} : gvName 17 d (o0 :: o1 :: o2 :: o3 :: o4 :: o5 :: o6 :: o7 :: o8 :: o9 :: o10 :: o11 :: o12 :: o13 :: o14 :: o15 :: o16 :: p :: ρ) Qe = Qe (o0 :: o1 :: o2 :: o3 :: o4 :: o5 :: o6 :: o7 :: o8 :: o9 :: o10 :: o11 :: o12 :: o13 :: o14 :: o15 :: o16 :: some d :: ρ) := rfl
theorem a_v18 {o0 o1 o2 o3 o4 o5 o6 o7 o8 o9 o10 o11 o12 o13 o14 o15 o16 o17 : Option D} : wVar 18 (o0 :: o1 :: o2 :: o3 :: o4 :: o5 :: o6 :: o7 :: o8 :: o9 :: o10 :: o11 :: o12 :: o13 :: o14 :: o15 :: o16 :: o17 :: some d :: ρ) m Q Qx = Q d m := rfl
theorem a_s18 {o0 o1 o2 o3 o4 o5 o6 o7 o8 o9 o10 o11 o12 o13 o14 o15 o16 o17 : Option D} {p : Option D} : sSet 18 w E (o0 :: o1 :: o2 :: o3 :: o4 :: o5 :: o6 :: o7 :: o8 :: o9 :: o10 :: o11 :: o12 :: o13 :: o14 :: o15 :: o16 :: o17 :: p :: ρ) m = w (o0 :: o1 :: o2 :: o3 :: o4 :: o5 :: o6 :: o7 :: o8 :: o9 :: o10 :: o11 :: o12 :: o13 :: o14 :: o15 :: o16 :: o17 :: p :: ρ) m (fun d m' => E.nx (o0 :: o1 :: o2 :: o3 :: o4 :: o5 :: o6 :: o7 :: o8 :: o9 :: o10 :: o11 :: o12 :: o13 :: o14 :: o15 :: o16 :: o17 :: some d :: ρ) m') E.ex := rfl
theorem a_g18 {o0 o1 o2 o3 o4 o5 o6 o7 o8 o9 o10 o11 o12 o13 o14 o15 o16 o17 : Option D} {p : Option D} : gvName 18 d (o0 :: o1 :: o2 :: o3 :: o4 :: o5 :: o6 :: o7 :: o8 :: o9 :: o10 :: o11 :: o12 :: o13 :: o14 :: o15 :: o16 :: o17 :: p :: ρ) Qe = Qe (o0 :: o1 :: o2 :: o3 :: o4 :: o5 :: o6 :: o7 :: o8 :: o9 :: o10 :: o11 :: o12 :: o13 :: o14 :: o15 :: o16 :: o17 :: some d :: ρ) := rfl
theorem a_v19 {o0 o1 o2 o3 o4 o5 o6 o7 o8 o9 o10 o11 o12 o13 o14 o15 o16 o17 o18 : Option D} : wVar 19 (o0 :: o1 :: o2 :: o3 :: o4 :: o5 :: o6 :: o7 :: o8 :: o9 :: o10 :: o11 :: o12 :: o13 :: o14 :: o15 :: o16 :: o17 :: o18 :: some d :: ρ) m Q Qx = Q d m := rfl
theorem a_s19 {o0 o1 o2 o3 o4 o5 o6 o7 o8 o9 o10 o11 o12 o13 o14 o15 o16 o17 o18 : Option D} {p : Option D} : sSet 19 w E (o0 :: o1 :: o2 :: o3 :: o4 :: o5 :: o6 :: o7 :: o8 :: o9 :: o10 :: o11 :: o12 :: o13 :: o14 :: o15 :: o16 :: o17 :: o18 :: p :: ρ) m = w (o0 :: o1 :: o2 :: o3 :: o4 :: o5 :: o6 :: o7 :: o8 :: o9 :: o10 :: o11 :: o12 :: o13 :: o14 :: o15 :: o16 :: o17 :: o18 :: p :: ρ) m (fun d m' => E.nx (o0 :: o1 :: o2 :: o3 :: o4 :: o5 :: o6 :: o7 :: o8 :: o9 :: o10 :: o11 :: o12 :: o13 :: o14 :: o15 :: o16 :: o17 :: o18 :: some d :: ρ) m') E.ex := rfl
theorem a_g19 {o0 o1 o2 o3 o4 o5 o6 o7 o8 o9 o10 o11 o12 o13 o14 o15 o16 o17 o18 : Option D} {p : Option D} : gvName 19 d (o0 :: o1 :: o2 :: o3 :: o4 :: o5 :: o6 :: o7 :: o8 :: o9 :: o10 :: o11 :: o12 :: o13 :: o14 :: o15 :: o16 :: o17 :: o18 :: p :: ρ) Qe = Qe (o0 :: o1 :: o2 :: o3 :: o4 :: o5 :: o6 :: o7 :: o8 :: o9 :: o10 :: o11 :: o12 :: o13 :: o14 :: o15 :: o16 :: o17 :: o18 :: some d :: ρ) := rfl
theorem a_v20 {o0 o1 o2 o3 o4 o5 o6 o7 o8 o9 o10 o11 o12 o13 o14 o15 o16 o17 o18 o19 : Option D} : wVar 20 (o0 :: o1 :: o2 :: o3 :: o4 :: o5 :: o6 :: o7 :: o8 :: o9 :: o10 :: o11 :: o12 :: o13 :: o14 :: o15 :: o16 :: o17 :: o18 :: o19 :: some d :: ρ) m Q Qx = Q d m := rfl
theorem a_s20 {o0 o1 o2 o3 o4 o5 o6 o7 o8 o9 o10 o11 o12 o13 o14 o15 o16 o17 o18 o19 : Option D} {p : Option D} : sSet 20 w E (o0 :: o1 :: o2 :: o3 :: o4 :: o5 :: o6 :: o7 :: o8 :: o9 :: o10 :: o11 :: o12 :: o13 :: o14 :: o15 :: o16 :: o17 :: o18 :: o19 :: p :: ρ) m = w (o0 :: o1 :: o2 :: o3 :: o4 :: o5 :: o6 :: o7 :: o8 :: o9 :: o10 :: o11 :: o12 :: o13 :: o14 :: o15 :: o16 :: o17 :: o18 :: o19 :: p :: ρ) m (fun d m' => E.nx (o0 :: o1 :: o2 :: o3 :: o4 :: o5 :: o6 :: o7 :: o8 :: o9 :: o10 :: o11 :: o12 :: o13 :: o14 :: o15 :: o16 :: o17 :: o18 :: o19 :: some d :: ρ) m') E.ex := rfl
theorem a_g20 {o0 o1 o2 o3 o4 o5 o6 o7 o8 o9 o10 o11 o12 o13 o14 o15 o16 o17 o18 o19 : Option D} {p : Option D} : gvName 20 d (o0 :: o1 :: o2 :: o3 :: o4 :: o5 :: o6 :: o7 :: o8 :: o9 :: o10 :: o11 :: o12 :: o13 :: o14 :: o15 :: o16 :: o17 :: o18 :: o19 :: p :: ρ) Qe = Qe (o0 :: o1 :: o2 :: o3 :: o4 :: o5 :: o6 :: o7 :: o8 :: o9 :: o10 :: o11 :: o12 :: o13 :: o14 :: o15 :: o16 :: o17 :: o18 :: o19 :: some d :: ρ) := rfl
theorem a_v21 {o0 o1 o2 o3 o4 o5 o6 o7 o8 o9 o10 o11 o12 o13 o14 o15 o16 o17 o18 o19 o20 : Option D} : wVar 21 (o0 :: o1 :: o2 :: o3 :: o4 :: o5 :: o6 :: o7 :: o8 :: o9 :: o10 :: o11 :: o12 :: o13 :: o14 :: o15 :: o16 :: o17 :: o18 :: o19 :: o20 :: some d :: ρ) m Q Qx = Q d m := rfl
theorem a_s21 {o0 o1 o2 o3 o4 o5 o6 o7 o8 o9 o10 o11 o12 o13 o14 o15 o16 o17 o18 o19 o20 : Option D} {p : Option D} : sSet 21 w E (o0 :: o1 :: o2 :: o3 :: o4 :: o5 :: o6 :: o7 :: o8 :: o9 :: o10 :: o11 :: o12 :: o13 :: o14 :: o15 :: o16 :: o17 :: o18 :: o19 :: o20 :: p :: ρ) m = w (o0 :: o1 :: o2 :: o3 :: o4 :: o5 :: o6 :: o7 :: o8 :: o9 :: o10 :: o11 :: o12 :: o13 :: o14 :: o15 :: o16 :: o17 :: o18 :: o19 :: o20 :: p :: ρ) m (fun d m' => E.nx (o0 :: o1 :: o2 :: o3 :: o4 :: o5 :: o6 :: o7 :: o8 :: o9 :: o10 :: o11 :: o12 :: o13 :: o14 :: o15 :: o16 :: o17 :: o18 :: o19 :: o20 :: some d :: ρ) m') E.ex := rfl
theorem a_g21 {o0 o1 o2 o3 o4 o5 o6 o7 o8 o9 o10 o11 o12 o13 o14 o15 o16 o17 o18 o19 o20 : Option D} {p : Option D} : gvName 21 d (o0 :: o1 :: o2 :: o3 :: o4 :: o5 :: o6 :: o7 :: o8 :: o9 :: o10 :: o11 :: o12 :: o13 :: o14 :: o15 :: o16 :: o17 :: o18 :: o19 :: o20 :: p :: ρ) Qe = Qe (o0 :: o1 :: o2 :: o3 :: o4 :: o5 :: o6 :: o7 :: o8 :: o9 :: o10 :: o11 :: o12 :: o13 :: o14 :: o15 :: o16 :: o17 :: o18 :: o19 :: o20 :: some d :: ρ) := rfl
theorem a_v22 {o0 o1 o2 o3 o4 o5 o6 o7 o8 o9 o10 o11 o12 o13 o14 o15 o16 o17 o18 o19 o20 o21 : Option D} : wVar 22 (o0 :: o1 :: o2 :: o3 :: o4 :: o5 :: o6 :: o7 :: o8 :: o9 :: o10 :: o11 :: o12 :: o13 :: o14 :: o15 :: o16 :: o17 :: o18 :: o19 :: o20 :: o21 :: some d :: ρ) m Q Qx = Q d m := rfl
theorem a_s22 {o0 o1 o2 o3 o4 o5 o6 o7 o8 o9 o10 o11 o12 o13 o14 o15 o16 o17 o18 o19 o20 o21 : Option D} {p : Option D} : sSet 22 w E (o0 :: o1 :: o2 :: o3 :: o4 :: o5 :: o6 :: o7 :: o8 :: o9 :: o10 :: o11 :: o12 :: o13 :: o14 :: o15 :: o16 :: o17 :: o18 :: o19 :: o20 :: o21 :: p :: ρ) m = w (o0 :: o1 :: o2 :: o3 :: o4 :: o5 :: o6 :: o7 :: o8 :: o9 :: o10 :: o11 :: o12 :: o13 :: o14 :: o15 :: o16 :: o17 :: o18 :: o19 :: o20 :: o21 :: p :: ρ) m (fun d m' => E.nx (o0 :: o1 :: o2 :: o3 :: o4 :: o5 :: o6 :: o7 :: o8 :: o9 :: o10 :: o11 :: o12 :: o13 :: o14 :: o15 :: o16 :: o17 :: o18 :: o19 :: o20 :: o21 :: some d :: ρ) m') E.ex := rfl
theorem a_g22 {o0 o1 o2 o3 o4 o5 o6 o7 o8 o9 o10 o11 o12 o13 o14 o15 o16 o17 o18 o19 o20 o21 : Option D} {p : Option D} : gvName 22 d (o0 :: o1 :: o2 :: o3 :: o4 :: o5 :: o6 :: o7 :: o8 :: o9 :: o10 :: o11 :: o12 :: o13 :: o14 :: o15 :: o16 :: o17 :: o18 :: o19 :: o20 :: o21 :: p :: ρ) Qe = Qe (o0 :: o1 :: o2 :: o3 :: o4 :: o5 :: o6 :: o7 :: o8 :: o9 :: o10 :: o11 :: o12 :: o13 :: o14 :: o15 :: o16 :: o17 :: o18 :: o19 :: o20 :: o21 :: some d :: ρ) := rfl
theorem a_v23 {o0 o1 o2 o3 o4 o5 o6 o7 o8 o9 o10 o11 o12 o13 o14 o15 o16 o17 o18 o19 o20 o21 o22 : Option D} : wVar 23 (o0 :: o1 :: o2 :: o3 :: o4 :: o5 :: o6 :: o7 :: o8 :: o9 :: o10 :: o11 :: o12 :: o13 :: o14 :: o15 :: o16 :: o17 :: o18 :: o19 :: o20 :: o21 :: o22 :: some d :: ρ) m Q Qx = Q d m := rfl
theorem a_s23 {o0 o1 o2 o3 o4 o5 o6 o7 o8 o9 o10 o11 o12 o13 o14 o15 o16 o17 o18 o19 o20 o21 o22 : Option D} {p : Option D} : sSet 23 w E (o0 :: o1 :: o2 :: o3 :: o4 :: o5 :: o6 :: o7 :: o8 :: o9 :: o10 :: o11 :: o12 :: o13 :: o14 :: o15 :: o16 :: o17 :: o18 :: o19 :: o20 :: o21 :: o22 :: p :: ρ) m = w (o0 :: o1 :: o2 :: o3 :: o4 :: o5 :: o6 :: o7 :: o8 :: o9 :: o10 :: o11 :: o12 :: o13 :: o14 :: o15 :: o16 :: o17 :: o18 :: o19 :: o20 :: o21 :: o22 :: p :: ρ) m (fun d m' => E.nx (o0 :: o1 :: o2 :: o3 :: o4 :: o5 :: o6 :: o7 :: o8 :: o9 :: o10 :: o11 :: o12 :: o13 :: o14 :: o15 :: o16 :: o17 :: o18 :: o19 :: o20 :: o21 :: o22 :: some d :: ρ) m') E.ex := rfl
theorem a_g23 {o0 o1 o2 o3 o4 o5 o6 o7 o8 o9 o10 o11 o12 o13 o14 o15 o16 o17 o18 o19 o20 o21 o22 : Option D} {p : Option D} : gvName 23 d (o0 :: o1 :: o2 :: o3 :: o4 :: o5 :: o6 :: o7 :: o8 :: o9 :: o10 :: o11 :: o12 :: o13 :: o14 :: o15 :: o16 :: o17 :: o18 :: o19 :: o20 :: o21 :: o22 :: p :: ρ) Qe = Qe (o0 :: o1 :: o2 :: o3 :: o4 :: o5 :: o6 :: o7 :: o8 :: o9 :: o10 :: o11 :: o12 :: o13 :: o14 :: o15 :: o16 :: o17 :: o18 :: o19 :: o20 :: o21 :: o22 :: some d :: ρ) := rfl
theorem a_v24 {o0 o1 o2 o3 o4 o5 o6 o7 o8 o9 o10 o11 o12 o13 o14 o15 o16 o17 o18 o19 o20 o21 o22 o23 : Option D} : wVar 24 (o0 :: o1 :: o2 :: o3 :: o4 :: o5 :: o6 :: o7 :: o8 :: o9 :: o10 :: o11 :: o12 :: o13 :: o14 :: o15 :: o16 :: o17 :: o18 :: o19 :: o20 :: o21 :: o22 :: o23 :: some d :: ρ) m Q Qx = Q d m := rfl
theorem a_s24 {o0 o1 o2 o3 o4 o5 o6 o7 o8 o9 o10 o11 o12 o13 o14 o15 o16 o17 o18 o19 o20 o21 o22 o23 : Option D} {p : Option D} : sSet 24 w E (o0 :: o1 :: o2 :: o3 :: o4 :: o5 :: o6 :: o7 :: o8 :: o9 :: o10 :: o11 :: o12 :: o13 :: o14 :: o15 :: o16 :: o17 :: o18 :: o19 :: o20 :: o21 :: o22 :: o23 :: p :: ρ) m = w (o0 :: o1 :: o2 :: o3 :: o4 :: o5 :: o6 :: o7 :: o8 :: o9 :: o10 :: o11 :: o12 :: o13 :: o14 :: o15 :: o16 :: o17 :: o18 :: o19 :: o20 :: o21 :: o22 :: o23 :: p :: ρ) m (fun d m' => E.nx (o0 :: o1 :: o2 :: o3 :: o4 :: o5 :: o6 :: o7 :: o8 :: o9 :: o10 :: o11 :: o12 :: o13 :: o14 :: o15 :: o16 :: o17 :: o18 :: o19 :: o20 :: o21 :: o22 :: o23 :: some d :: ρ) m') E.ex := rfl
theorem a_g24 {o0 o1 o2 o3 o4 o5 o6 o7 o8 o9 o10 o11 o12 o13 o14 o15 o16 o17 o18 o19 o20 o21 o22 o23 : Option D} {p : Option D} : gvName 24 d (o0 :: o1 :: o2 :: o3 :: o4 :: o5 :: o6 :: o7 :: o8 :: o9 :: o10 :: o11 :: o12 :: o13 :: o14 :: o15 :: o16 :: o17 :: o18 :: o19 :: o20 :: o21 :: o22 :: o23 :: p :: ρ) Qe = Qe (o0 :: o1 :: o2 :: o3 :: o4 :: o5 :: o6 :: o7 :: o8 :: o9 :: o10 :: o11 :: o12 :: o13 :: o14 :: o15 :: o16 :: o17 :: o18 :: o19 :: o20 :: o21 :: o22 :: o23 :: some d :: ρ) := rfl
theorem a_v25 {o0 o1 o2 o3 o4 o5 o6 o7 o8 o9 o10 o11 o12 o13 o14 o15 o16 o17 o18 o19 o20 o21 o22 o23 o24 : Option D} : wVar 25 (o0 :: o1 :: o2 :: o3 :: o4 :: o5 :: o6 :: o7 :: o8 :: o9 :: o10 :: o11 :: o12 :: o13 :: o14 :: o15 :: o16 :: o17 :: o18 :: o19 :: o20 :: o21 :: o22 :: o23 :: o24 :: some d :: ρ) m Q Qx = Q d m := rfl
theorem a_s25 {o0 o1 o2 o3 o4 o5 o6 o7 o8 o9 o10 o11 o12 o13 o14 o15 o16 o17 o18 o19 o20 o21 o22 o23 o24 : Option D} {p : Option D} : sSet 25 w E (o0 :: o1 :: o2 :: o3 :: o4 :: o5 :: o6 :: o7 :: o8 :: o9 :: o10 :: o11 :: o12 :: o13 :: o14 :: o15 :: o16 :: o17 :: o18 :: o19 :: o20 :: o21 :: o22 :: o23 :: o24 :: p :: ρ) m = w (o0 :: o1 :: o2 :: o3 :: o4 :: o5 :: o6 :: o7 :: o8 :: o9 :: o10 :: o11 :: o12 :: o13 :: o14 :: o15 :: o16 :: o17 :: o18 :: o19 :: o20 :: o21 :: o22 :: o23 :: o24 :: p :: ρ) m (fun d m' => E.nx (o0 :: o1 :: o2 :: o3 :: o4 :: o5 :: o6 :: o7 :: o8 :: o9 :: o10 :: o11 :: o12 :: o13 :: o14 :: o15 :: o16 :: o17 :: o18 :: o19 :: o20 :: o21 :: o22 :: o23 :: o24 :: some d :: ρ) m') E.ex := rfl
theorem a_g25 {o0 o1 o2 o3 o4 o5 o6 o7 o8 o9 o10 o11 o12 o13 o14 o15 o16 o17 o18 o19 o20 o21 o22 o23 o24 : Option D} {p : Option D} : gvName 25 d (o0 :: o1 :: o2 :: o3 :: o4 :: o5 :: o6 :: o7 :: o8 :: o9 :: o10 :: o11 :: o12 :: o13 :: o14 :: o15 :: o16 :: o17 :: o18 :: o19 :: o20 :: o21 :: o22 :: o23 :: o24 :: p :: ρ) Qe = Qe (o0 :: o1 :: o2 :: o3 :: o4 :: o5 :: o6 :: o7 :: o8 :: o9 :: o10 :: o11 :: o12 :: o13 :: o14 :: o15 :: o16 :: o17 :: o18 :: o19 :: o20 :: o21 :: o22 :: o23 :: o24 :: some d :: ρ) := rfl
theorem a_v26 {o0 o1 o2 o3 o4 o5 o6 o7 o8 o9 o10 o11 o12 o13 o14 o15 o16 o17 o18 o19 o20 o21 o22 o23 o24 o25 : Option D} : wVar 26 (o0 :: o1 :: o2 :: o3 :: o4 :: o5 :: o6 :: o7 :: o8 :: o9 :: o10 :: o11 :: o12 :: o13 :: o14 :: o15 :: o16 :: o17 :: o18 :: o19 :: o20 :: o21 :: o22 :: o23 :: o24 :: o25 :: some d :: ρ) m Q Qx = Q d m := rfl
theorem a_s26 {o0 o1 o2 o3 o4 o5 o6 o7 o8 o9 o10 o11 o12 o13 o14 o15 o16 o17 o18 o19 o20 o21 o22 o23 o24 o25 : Option D} {p : Option D} : sSet 26 w E (o0 :: o1 :: o2 :: o3 :: o4 :: o5 :: o6 :: o7 :: o8 :: o9 :: o10 :: o11 :: o12 :: o13 :: o14 :: o15 :: o16 :: o17 :: o18 :: o19 :: o20 :: o21 :: o22 :: o23 :: o24 :: o25 :: p :: ρ) m = w (o0 :: o1 :: o2 :: o3 :: o4 :: o5 :: o6 :: o7 :: o8 :: o9 :: o10 :: o11 :: o12 :: o13 :: o14 :: o15 :: o16 :: o17 :: o18 :: o19 :: o20 :: o21 :: o22 :: o23 :: o24 :: o25 :: p :: ρ) m (fun d m' => E.nx (o0 :: o1 :: o2 :: o3 :: o4 :: o5 :: o6 :: o7 :: o8 :: o9 :: o10 :: o11 :: o12 :: o13 :: o14 :: o15 :: o16 :: o17 :: o18 :: o19 :: o20 :: o21 :: o22 :: o23 :: o24 :: o25 :: some d :: ρ) m') E.ex := rfl
theorem a_g26 {o0 o1 o2 o3 o4 o5 o6 o7 o8 o9 o10 o11 o12 o13 o14 o15 o16 o17 o18 o19 o20 o21 o22 o23 o24 o25 : Option D} {p : Option D} : gvName 26 d (o0 :: o1 :: o2 :: o3 :: o4 :: o5 :: o6 :: o7 :: o8 :: o9 :: o10 :: o11 :: o12 :: o13 :: o14 :: o15 :: o16 :: o17 :: o18 :: o19 :: o20 :: o21 :: o22 :: o23 :: o24 :: o25 :: p :: ρ) Qe = Qe (o0 :: o1 :: o2 :: o3 :: o4 :: o5 :: o6 :: o7 :: o8 :: o9 :: o10 :: o11 :: o12 :: o13 :: o14 :: o15 :: o16 :: o17 :: o18 :: o19 :: o20 :: o21 :: o22 :: o23 :: o24 :: o25 :: some d :: ρ) := rfl
theorem a_v27 {o0 o1 o2 o3 o4 o5 o6 o7 o8 o9 o10 o11 o12 o13 o14 o15 o16 o17 o18 o19 o20 o21 o22 o23 o24 o25 o26 : Option D} : wVar 27 (o0 :: o1 :: o2 :: o3 :: o4 :: o5 :: o6 :: o7 :: o8 :: o9 :: o10 :: o11 :: o12 :: o13 :: o14 :: o15 :: o16 :: o17 :: o18 :: o19 :: o20 :: o21 :: o22 :: o23 :: o24 :: o25 :: o26 :: some d :: ρ) m Q Qx = Q d m := rfl
theorem a_s27 {o0 o1 o2 o3 o4 o5 o6 o7 o8 o9 o10 o11 o12 o13 o14 o15 o16 o17 o18 o19 o20 o21 o22 o23 o24 o25 o26 : Option D} {p : Option D} : sSet 27 w E (o0 :: o1 :: o2 :: o3 :: o4 :: o5 :: o6 :: o7 :: o8 :: o9 :: o10 :: o11 :: o12 :: o13 :: o14 :: o15 :: o16 :: o17 :: o18 :: o19 :: o20 :: o21 :: o22 :: o23 :: o24 :: o25 :: o26 :: p :: ρ) m = w (o0 :: o1 :: o2 :: o3 :: o4 :: o5 :: o6 :: o7 :: o8 :: o9 :: o10 :: o11 :: o12 :: o13 :: o14 :: o15 :: o16 :: o17 :: o18 :: o19 :: o20 :: o21 :: o22 :: o23 :: o24 :: o25 :: o26 :: p :: ρ) m (fun d m' => E.nx (o0 :: o1 :: o2 :: o3 :: o4 :: o5 :: o6 :: o7 :: o8 :: o9 :: o10 :: o11 :: o12 :: o13 :: o14 :: o15 :: o16 :: o17 :: o18 :: o19 :: o20 :: o21 :: o22 :: o23 :: o24 :: o25 :: o26 :: some d :: ρ) m') E.ex := rfl
theorem a_g27 {o0 o1 o2 o3 o4 o5 o6 o7 o8 o9 o10 o11 o12 o13 o14 o15 o16 o17 o18 o19 o20 o21 o22 o23 o24 o25 o26 : Option D} {p : Option D} : gvName 27 d (o0 :: o1 :: o2 :: o3 :: o4 :: o5 :: o6 :: o7 :: o8 :: o9 :: o10 :: o11 :: o12 :: o13 :: o14 :: o15 :: o16 :: o17 :: o18 :: o19 :: o20 :: o21 :: o22 :: o23 :: o24 :: o25 :: o26 :: p :: ρ) Qe = Qe (o0 :: o1 :: o2 :: o3 :: o4 :: o5 :: o6 :: o7 :: o8 :: o9 :: o10 :: o11 :: o12 :: o13 :: o14 :: o15 :: o16 :: o17 :: o18 :: o19 :: o20 :: o21 :: o22 :: o23 :: o24 :: o25 :: o26 :: some d :: ρ) := rfl
theorem a_star {we : WE} {wr : WA} : wStar we wr ρ m Ql Qx = we ρ m (fun x m1 => match x with
  | .lst ds => wr ρ m1 (fun es m2 => Ql (ds ++ es) m2) Qx
  | .tup ds => wr ρ m1 (fun es m2 => Ql (ds ++ es) m2) Qx
  | _ => False) Qx := rfl
theorem a_asg2 {g1 g2 : WG} {we : WE} : sAsg2 g1 g2 we E ρ m = we ρ m (fun d m1 => g1 d ρ fun ρ1 => g2 d ρ1 fun ρ2 => E.nx ρ2 m1) E.ex := rfl
theorem a_asg4 {g1 g2 g3 g4 : WG} {we : WE} : sAsg4 g1 g2 g3 g4 we E ρ m = we ρ m (fun d m1 => g1 d ρ fun ρ1 => g2 d ρ1 fun ρ2 => g3 d ρ2 fun ρ3 => g4 d ρ3 fun ρ4 => E.nx ρ4 m1) E.ex := rfl
theorem a_neg {wa : WE} : wNeg wa ρ m Q Qx = wa ρ m (fun d m1 => match d with
  | .int i => Q (.int (-i)) m1
  | _ => False) Qx := rfl
theorem a_zipX {wr : WA} : iZipX wr ρ m Ql Qx = wr ρ m (fun ds m1 => ∃ x y xs ys, ds = [x, y] ∧ seqA x = some xs ∧ seqA y = some ys ∧ Ql (zipD xs ys) m1) Qx := rfl
theorem a_callKX {fn : DFn} {n : Nat} {gD : List D → List D} {wk : WA} : wCallKX fn n gD wk ρ m Q Qx = wk ρ m (fun es m2 => es.length = n ∧ fn (gD es) m2 Q Qx) Qx := rfl
theorem a_get2 {we wi wx : WE} : wGet2 we wi wx ρ m Q Qx = we ρ m (fun x m1 => (match x with
  | .dct _ _ => True
  | _ => False) ∧ wi ρ m1 (fun y m2 => wx ρ m2 (fun z m3 => match x, y with
  | .dct ks ds, .str s => Q ((findD ks ds (.inr s)).getD z) m3
  | .dct ks ds, .int i => Q ((findD ks ds (.inl i)).getD z) m3
  | _, _ => False) Qx) Qx) Qx := rfl
theorem a_lcO {wi : WA} {g : WG} {tt : WT} {te : WE} {vs : List Nat} : wLcO wi g tt te vs ρ m Q Qx = wi ρ m (fun ds m1 => ds.length ≤ 1000000 ∧ wLcOGo g tt te (wipeD ρ vs) Qx ds [] m1 Q) Qx := rfl
theorem a_popAt {o : WE} {wr : WA} : sPopAt o wr E ρ m = o ρ m (fun x m1 => match x with
  | .box p => (m1 p).isSome = true ∧ wr ρ m1 (fun ds m2 => ∃ i xs n, ds = [.int i] ∧ m2 p = some xs ∧ -(2 ^ 63) ≤ i ∧ i < 2 ^ 63 ∧ seqIndex? i xs.length = some n ∧ n < xs.length ∧ E.nx ρ (m2.up p (xs.eraseIdx n))) E.ex
  | _ => False) E.ex := rfl
theorem a_m0 {w : WM} {wo : WE} : wM0 w wo ρ m Q Qx = wo ρ m (fun x m1 => match x with
  | .str z => w z [] m1 Q
  | _ => False) Qx := rfl
end
end DL
/-! GB: what the readings of several laws share -/
namespace GB
open PySem L2 XO DL
def listB : D → Option (List D)
  | .lst ds => some ds
  | .tup ds => some ds
  | _ => none
def isL (x : D) : Bool := lstB x || tupB x || (match x with | .box _ => true | _ => false)
def typM (m : Mem) (x : D) : Prop := typedM m x = true
def Sub (m m' : Mem) : Prop := ∀ b ds, m b = some ds → m' b = some ds
/-- the box: three ints; the third counts -/
def Box (l : List D) (c : Int) : Prop := ∃ x y z : Int, l = [.int x, .int y, .int z] ∧ 0 ≤ x ∧ 0 ≤ y ∧ y < 2147483648 ∧ 0 ≤ z ∧ z ≤ c
/-- the box at a was drawn from, new objects beside it -/
def Nx (a : Addr) (c : Int) (m m' : Mem) : Prop := (∀ b ds, b ≠ a → m b = some ds → m' b = some ds) ∧ ∃ l, m' a = some l ∧ Box l c
mutual
def okD : D → Nat → Bool
  | .non, _ => true
  | .bl _, _ => true
  | .int i, _ => decide (i.natAbs < 10 ^ 100)
  | .str z, _ => decide (z.length ≤ 20) && PyData.strOk z
  | .lst ds, n + 1 => decide (ds.length ≤ 100000) && okA ds n
  | .tup ds, n + 1 => decide (ds.length ≤ 100000) && okA ds n
  | .dct [] [], _ + 1 => true
  | _, _ => false
def okA : List D → Nat → Bool
  | [], _ => true
  | d :: ds, n => okD d n && okA ds n
end
mutual
def wtD : D → Nat
  | .lst ds => 10 + wtA ds
  | .tup ds => 10 + wtA ds
  | _ => 300
def wtA : List D → Nat
  | [] => 0
  | d :: ds => wtD d + 2 + wtA ds
end
theorem ifb {c : Bool} {A B : Prop} (h1 : c = true → A) (h2 : c = false → B) : if c = true then A else B := by
  cases c
  · exact h2 rfl
  · exact h1 rfl
theorem dec_le {a b : Nat} {i j : Int} (ha : i = a) (hb : j = b) : decide (i ≤ j) = decide (a ≤ b) := by
  subst ha hb
  by_cases c : a ≤ b
  · rw [decide_eq_true c, decide_eq_true (by omega)]
  · rw [decide_eq_false c, decide_eq_false (by omega)]
theorem dec_eq {a b : Nat} {i j : Int} (ha : i = a) (hb : j = b) : decide (i = j) = decide (a = b) := by
  subst ha hb
  by_cases c : a = b
  · rw [decide_eq_true c, decide_eq_true (by omega)]
  · rw [decide_eq_false c, decide_eq_false (by omega)]
theorem small_line {n : Nat} (h : n ≤ 1000) : n ≤ sizeLine := Nat.le_trans h (by rw [sizeLine_eq]; decide)
/-! data -/
theorem okD.ty {d : D} {n : Nat} (h : okD d n = true) : isTyped d = true := by
  cases d with
  | dct ks ds => rfl
  | lst ds => rfl
  | tup ds => rfl
  | _ => first | rfl | (simp [okD] at h)
theorem okD.str {z : Str} {n : Nat} (h : okD (.str z) n = true) : z.length ≤ 20 ∧ PyData.strOk z = true := by
  simp only [okD, Bool.and_eq_true, decide_eq_true_eq] at h
  exact h
theorem okA.mem {n : Nat} : ∀ {ds : List D}, okA ds n = true → ∀ d ∈ ds, okD d n = true
  | [], _, d, h => nomatch h
  | e :: ds, h, d, hd => by
    simp only [okA, Bool.and_eq_true] at h
    rcases List.mem_cons.mp hd with rfl | hd
    · exact h.1
    · exact okA.mem h.2 d hd
theorem okA.of {n : Nat} : ∀ {ds : List D}, (∀ d ∈ ds, okD d n = true) → okA ds n = true
  | [], _ => by simp [okA]
  | e :: ds, h => by
    simp only [okA, Bool.and_eq_true]
    exact ⟨h e List.mem_cons_self, okA.of fun d hd => h d (List.mem_cons_of_mem _ hd)⟩
theorem okD.len {x : D} {n : Nat} (h : okD x n = true) {ds : List D} (hl : listB x = some ds) : ds.length ≤ 100000 := by
  cases x with
  | lst es =>
    cases hl
    cases n with
    | zero => simp [okD] at h
    | succ n => simp only [okD, Bool.and_eq_true, decide_eq_true_eq] at h; exact h.1
  | tup es =>
    cases hl
    cases n with
    | zero => simp [okD] at h
    | succ n => simp only [okD, Bool.and_eq_true, decide_eq_true_eq] at h; exact h.1
  | _ => cases hl
theorem okD.items {x : D} {n : Nat} (h : okD x n = true) {ds : List D} (hl : listB x = some ds) : ∃ k, ∀ d ∈ ds, okD d k = true := by
  cases x with
  | lst es =>
    cases hl
    cases n with
    | zero => simp [okD] at h
    | succ n => simp only [okD, Bool.and_eq_true, decide_eq_true_eq] at h; exact ⟨n, okA.mem h.2⟩
  | tup es =>
    cases hl
    cases n with
    | zero => simp [okD] at h
    | succ n => simp only [okD, Bool.and_eq_true, decide_eq_true_eq] at h; exact ⟨n, okA.mem h.2⟩
  | _ => cases hl
mutual
theorem okD.up : ∀ {d : D} {n k : Nat}, okD d n = true → n ≤ k → okD d k = true
  | .non, _, _, _, _ => by simp [okD]
  | .bl _, _, _, _, _ => by simp [okD]
  | .int _, _, _, h, _ => by simpa [okD] using h
  | .str _, _, _, h, _ => by simpa [okD] using h
  | .lst ds, 0, _, h, _ => by simp [okD] at h
  | .lst ds, n + 1, 0, _, hk => absurd hk (by omega)
  | .lst ds, n + 1, k + 1, h, hk => by
    simp only [okD, Bool.and_eq_true, decide_eq_true_eq] at h ⊢
    exact ⟨h.1, okA.up h.2 (by omega)⟩
  | .tup ds, 0, _, h, _ => by simp [okD] at h
  | .tup ds, n + 1, 0, _, hk => absurd hk (by omega)
  | .tup ds, n + 1, k + 1, h, hk => by
    simp only [okD, Bool.and_eq_true, decide_eq_true_eq] at h ⊢
    exact ⟨h.1, okA.up h.2 (by omega)⟩
  | .dct [] [], 0, _, h, _ => by simp [okD] at h
  | .dct [] [], n + 1, 0, _, hk => absurd hk (by omega)
  | .dct [] [], n + 1, k + 1, _, _ => by simp [okD]
  | .dct (_ :: _) _, _, _, h, _ => by simp [okD] at h
  | .dct [] (_ :: _), _, _, h, _ => by simp [okD] at h
  | .ty _, _, _, h, _ => by simp [okD] at h
  | .scr _, _, _, h, _ => by simp [okD] at h
  | .box _, _, _, h, _ => by simp [okD] at h
  | .obj _ _ _, _, _, h, _ => by simp [okD] at h
theorem okA.up : ∀ {ds : List D} {n k : Nat}, okA ds n = true → n ≤ k → okA ds k = true
  | [], _, _, _, _ => by simp [okA]
  | d :: ds, n, k, h, hk => by
    simp only [okA, Bool.and_eq_true] at h ⊢
    exact ⟨okD.up h.1 hk, okA.up h.2 hk⟩
end
theorem log_small {i : Int} (h : i.natAbs < 10 ^ 100) : i.natAbs.log2 < 1920 := PySem.Flt.log2_lt_of (by decide) (Nat.lt_of_lt_of_le h (by decide +kernel))
theorem str_shown {z : Str} (h1 : z.length ≤ 20) (h2 : PyData.strOk z = true) : (reprText z).length ≤ 300 := by
  have a := StrLaws.reprText_len z fun c hc => by
    unfold PyData.strOk at h2
    rw [Array.all_eq_true'] at h2
    have := of_decide_eq_true (h2 c (Array.mem_toList_iff.mp hc))
    exact Nat.lt_of_lt_of_le this (by decide)
  omega
/-- what repr writes -/
structure Shw (d : D) (n : Nat) : Prop where
  plain : plainD d = true
  show1 : (py d).showable = true
  deep : (py d).depth ≤ n
  size : (py d).shown.length ≤ wtD d
structure ShwA (ds : List D) (n : Nat) : Prop where
  plain : plainA ds = true
  show1 : PyData.showableAll (pyA ds) = true
  deep : PyData.depthAll (pyA ds) ≤ n
  size : ((PyData.shownAll (pyA ds)).map (·.length)).sum + 2 * (PyData.shownAll (pyA ds)).length ≤ wtA ds
theorem int_shown {i : Int} (h : i.natAbs < 10 ^ 100) : (PyData.shown (.int i)).length ≤ 101 := by
  rw [PyData.shown_int, PySem.ofString_length]
  exact int_text_length_le10 (by decide) h
mutual
theorem shw : ∀ (d : D) (n : Nat), okD d n = true → Shw d n
  | .non, n, _ => ⟨by simp [plainD], by simp [py, PyData.showable], by simp [py, PyData.depth], by simp only [py, wtD]; decide⟩
  | .bl b, n, _ => ⟨by simp [plainD], by simp [py, PyData.showable], by simp [py, PyData.depth], by cases b <;> (simp only [py, wtD]; decide)⟩
  | .int i, n, h => by
    have h : i.natAbs < 10 ^ 100 := by simpa [okD] using h
    exact ⟨by simp [plainD], by simp only [py, PyData.showable]; exact decide_eq_true (log_small h), by simp [py, PyData.depth], by simp only [py, wtD]; have := int_shown h; omega⟩
  | .str z, n, h => by
    obtain ⟨h1, h2⟩ := okD.str h
    exact ⟨by simp [plainD], by simp [py, PyData.showable], by simp [py, PyData.depth], by simp only [py, wtD, PyData.shown]; exact str_shown h1 h2⟩
  | .lst ds, 0, h => by simp [okD] at h
  | .lst ds, n + 1, h => by
    simp only [okD, Bool.and_eq_true] at h
    have a := shwA ds n h.2
    refine ⟨by simp only [plainD]; exact a.plain, by simp only [py, PyData.showable]; exact a.show1, by simp only [py, PyData.depth]; have := a.deep; omega, ?_⟩
    simp only [py, wtD, PyData.shown]
    have := listText_len_le (PyData.shownAll (pyA ds))
    have := a.size
    omega
  | .tup ds, 0, h => by simp [okD] at h
  | .tup ds, n + 1, h => by
    simp only [okD, Bool.and_eq_true] at h
    have a := shwA ds n h.2
    refine ⟨by simp only [plainD]; exact a.plain, by simp only [py, PyData.showable]; exact a.show1, by simp only [py, PyData.depth]; have := a.deep; omega, ?_⟩
    simp only [py, wtD, PyData.shown]
    have := tupleText_len_le (PyData.shownAll (pyA ds))
    have := a.size
    omega
  | .dct [] [], 0, h => by simp [okD] at h
  | .dct [] [], n + 1, _ => ⟨by simp [plainD], by simp [py, PyData.showable, PyData.showableKv], by simp [py, PyData.depth, PyData.depthKv], by simp only [py, wtD]; decide⟩
  | .dct (_ :: _) _, _, h => by simp [okD] at h
  | .dct [] (_ :: _), _, h => by simp [okD] at h
  | .ty _, _, h => by simp [okD] at h
  | .scr _, _, h => by simp [okD] at h
  | .box _, _, h => by simp [okD] at h
  | .obj _ _ _, _, h => by simp [okD] at h
theorem shwA : ∀ (ds : List D) (n : Nat), okA ds n = true → ShwA ds n
  | [], n, _ => ⟨by simp [plainA], by simp [pyA, PyData.showableAll], by simp [pyA, PyData.depthAll], by simp [pyA, PyData.shownAll, wtA]⟩
  | d :: ds, n, h => by
    simp only [okA, Bool.and_eq_true] at h
    have a := shw d n h.1
    have b := shwA ds n h.2
    refine ⟨by simp only [plainA, Bool.and_eq_true]; exact ⟨a.plain, b.plain⟩, by simp only [pyA, PyData.showableAll, Bool.and_eq_true]; exact ⟨a.show1, b.show1⟩, by simp only [pyA, PyData.depthAll]; have := a.deep; have := b.deep; omega, ?_⟩
    simp only [pyA, PyData.shownAll, wtA, List.map_cons, List.sum_cons, List.length_cons]
    have := a.size
    have := b.size
    omega
end
theorem showsU {ds : List D} {n : Nat} (h : okD (.lst ds) n = true) (hn : n ≤ 50) (hw : wtD (.lst ds) ≤ 1000000) : ShowsU (.lst ds) := by
  have a := shw _ _ h
  refine ⟨a.plain, a.show1, by have := a.deep; omega, Nat.le_trans a.size (Nat.le_trans hw ?_)⟩
  rw [sizeLine_eq]; decide
mutual
theorem res_plain (m : Mem) : ∀ d : D, plainD d = true → res m d = d
  | .non, _ => by simp only [res]
  | .bl _, _ => by simp only [res]
  | .int _, _ => by simp only [res]
  | .str _, _ => by simp only [res]
  | .lst ds, h => by simp only [plainD] at h; simp only [res, resA_plain m ds h]
  | .tup ds, h => by simp only [plainD] at h; simp only [res, resA_plain m ds h]
  | .dct [] [], _ => by simp only [res, resA]
  | .dct (_ :: _) _, h => by simp [plainD] at h
  | .dct [] (_ :: _), h => by simp [plainD] at h
  | .ty _, _ => by simp only [res]
  | .scr _, _ => by simp only [res]
  | .box _, h => by simp [plainD] at h
  | .obj _ _ _, h => by simp [plainD] at h
theorem resA_plain (m : Mem) : ∀ ds : List D, plainA ds = true → resA m ds = ds
  | [], _ => by simp only [resA]
  | d :: ds, h => by
    simp only [plainA, Bool.and_eq_true] at h
    simp only [resA, res_plain m d h.1, resA_plain m ds h.2]
end
theorem wtA_app : ∀ a b : List D, wtA (a ++ b) = wtA a + wtA b
  | [], b => by simp [wtA]
  | d :: a, b => by simp only [List.cons_append, wtA, wtA_app a b]; omega
theorem wtA_sub {a b : List D} (h : List.Sublist a b) : wtA a ≤ wtA b := by
  induction h with
  | slnil => exact Nat.le_refl _
  | cons x _ ih => simp only [wtA]; omega
  | cons_cons x _ ih => simp only [wtA]; omega
theorem len_wtA : ∀ a : List D, a.length ≤ wtA a
  | [] => Nat.zero_le _
  | d :: a => by have := len_wtA a; simp only [wtA, List.length_cons]; omega
theorem wtD_mem {d : D} {ds : List D} (h : d ∈ ds) : wtD d ≤ wtA ds := by
  induction ds with
  | nil => cases h
  | cons e ds ih =>
    simp only [wtA]
    rcases List.mem_cons.mp h with rfl | h
    · omega
    · have := ih h; omega
theorem cut_sub (ds : List D) (lo hi : Option Int) : List.Sublist (cutD ds lo hi) ds := (List.take_sublist _ _).trans (List.drop_sublist _ _)
/-! one thing -/
theorem typedM_of {m : Mem} {x : D} (h : isTyped x = true) : typedM m x = true := by
  cases x <;> first | exact h | cases h
theorem isaLT (x : D) : isaL x ["list", "tuple"] = some (isL x) := by
  have e : ∀ y : D, isL y = (lstB y || tupB y || (match y with | .box _ => true | _ => false)) := fun _ => rfl
  cases x with
  | box a =>
    rw [isaL_box]
    unfold isaL
    rw [isa_list]
    rfl
  | _ =>
    unfold isaL
    rw [isa_list]
    first
      | rfl
      | (show isaL _ ["tuple"] = _; unfold isaL; rw [isa_tuple]; rfl)
theorem bls_map (f : D → Bool) : ∀ ds : List D, blsD (ds.map fun d => .bl (f d)) = some (ds.map f)
  | [] => rfl
  | d :: ds => by
    rw [List.map_cons, List.map_cons]
    unfold blsD
    rw [bls_map f ds]
    rfl
theorem sign_ok {z : Str} (hs : PyData.strOk z = true) {d : D} (hd : d ∈ signs z) : ∃ c, d = .str ⟨#[c]⟩ ∧ c ∈ z.cps.toList ∧ PyData.strOk ⟨#[c]⟩ = true := by
  obtain ⟨c, hc, rfl⟩ := List.mem_map.mp hd
  refine ⟨c, rfl, hc, ?_⟩
  unfold PyData.strOk at hs ⊢
  rw [Array.all_eq_true'] at hs
  have := hs c (Array.mem_toList_iff.mp hc)
  simpa using this
theorem ok_sign {c : Nat} (h : PyData.strOk ⟨#[c]⟩ = true) : okD (.str ⟨#[c]⟩) 0 = true := by
  simp only [okD, Bool.and_eq_true, decide_eq_true_eq]
  exact ⟨(by decide : (1 : Nat) ≤ 20), h⟩
theorem signs_len (z : Str) : (signs z).length = z.length := by
  unfold signs
  rw [List.length_map, Array.length_toList]
  rfl
def enumF (k : Nat) : List D → List D
  | [] => []
  | d :: ds => .tup [.int (k : Nat), d] :: enumF (k + 1) ds
theorem enumF_eq (ds : List D) : enumD ds = enumF 0 ds := by
  have go : ∀ (ds : List D) (k : Nat), (ds.mapIdx fun i d => D.tup [.int ((i + k : Nat) : Int), d]) = enumF k ds := by
    intro ds
    induction ds with
    | nil => intro k; rfl
    | cons d ds ih =>
      intro k
      rw [List.mapIdx_cons]
      unfold enumF
      congr 1
      · rw [Nat.zero_add]
      · rw [← ih (k + 1)]
        congr 1
        funext i e
        rw [Nat.add_assoc, Nat.add_comm 1 k]
  exact go ds 0
theorem cut_pre (pre xs : List D) : cutD (pre ++ xs) none (some (pre.length : Int)) = pre := by
  unfold cutD
  rw [HT.sIx_nat, HT.sIx_none, List.length_append, Nat.min_eq_left (by omega), List.drop_zero, Nat.sub_zero, List.take_left']
  rfl
theorem mul_ok {i j : Int} {a b : Nat} (ha : i.natAbs < 2 ^ a) (hb : j.natAbs < 2 ^ b) (h0 : 0 < a := by decide) (h1 : 0 < b := by decide) (h : a + b ≤ 1000000 := by decide) : CMul i j ∨ CMulW i j := Or.inr (wide_mul ha hb h0 h1 h)
/-- a comprehension over xs.map h: what p lets through, each as f -/
theorem lc_fmA {α : Type} {g : WG} {tt : WT} {te : WE} {ρ : En0} {Qx : XQ} {m : Mem} (h : α → D) (p : α → Bool) (f : α → D) : ∀ (xs : List α) (acc : List D) (Q : D → Mem → Prop),
    (∀ a ∈ xs, ∀ (K : D → Mem → Prop) (K' : Mem → Prop), (p a = true → K (f a) m) → (p a = false → K' m) → g (h a) ρ fun ρ1 => tt ρ1 m (fun b m1 => if b = true then te ρ1 m1 K Qx else K' m1) Qx) →
    Q (.lst (acc ++ (xs.filter p).map f)) m → wLcGo g tt te ρ Qx (xs.map h) acc m Q
  | [], acc, Q, _, q => by
    have q : Q (.lst (acc ++ [])) m := q
    rw [List.append_nil] at q
    exact q
  | a :: xs, acc, Q, hs, q => by
    refine hs a List.mem_cons_self (fun y m2 => wLcGo g tt te ρ Qx (xs.map h) (acc ++ [y]) m2 Q) (fun m1 => wLcGo g tt te ρ Qx (xs.map h) acc m1 Q) (fun hp => ?_) (fun hp => ?_)
    · refine lc_fmA h p f xs (acc ++ [f a]) Q (fun b hb => hs b (List.mem_cons_of_mem _ hb)) ?_
      rw [List.filter_cons_of_pos hp, List.map_cons] at q
      rw [List.append_assoc]
      exact q
    · refine lc_fmA h p f xs acc Q (fun b hb => hs b (List.mem_cons_of_mem _ hb)) ?_
      rw [List.filter_cons_of_neg (by rw [hp]; exact Bool.false_ne_true)] at q
      exact q
/-- the same without a test -/
theorem lc_mpA {α : Type} {g : WG} {te : WE} {ρ : En0} {Qx : XQ} {m : Mem} (h : α → D) (f : α → D) (xs : List α) (Q : D → Mem → Prop)
    (hs : ∀ a ∈ xs, ∀ (K : D → Mem → Prop), K (f a) m → g (h a) ρ fun ρ1 => te ρ1 m K Qx) (q : Q (.lst (xs.map f)) m) : wLcGo g tvYes te ρ Qx (xs.map h) [] m Q := by
  refine lc_fmA h (fun _ => true) f xs [] Q (fun a ha K K' k1 _ => hs a ha K (k1 rfl)) ?_
  have e : xs.filter (fun _ => true) = xs := List.filter_eq_self.mpr fun _ _ => rfl
  rw [e]
  exact q
end GB
/-! Four rows of four integers: cofactors, and the exchange of a row. Pure arithmetic: no program in it. -/
namespace Adj
abbrev Mat := Nat → Nat → Int
def s4 (f : Nat → Int) : Int := f 0 + f 1 + f 2 + f 3
def det3 (a b c d e f g h i : Int) : Int := a * (e * i - f * h) - b * (d * i - f * g) + c * (d * h - e * g)
def sk (j k : Nat) : Nat := if k < j then k else k + 1
def cof (A : Mat) (j p : Nat) : Int := (if (j + p) % 2 = 0 then 1 else -1) *
  det3 (A (sk j 0) (sk p 0)) (A (sk j 0) (sk p 1)) (A (sk j 0) (sk p 2)) (A (sk j 1) (sk p 0)) (A (sk j 1) (sk p 1)) (A (sk j 1) (sk p 2)) (A (sk j 2) (sk p 0)) (A (sk j 2) (sk p 1)) (A (sk j 2) (sk p 2))
def det (A : Mat) : Int := s4 fun p => A 0 p * cof A 0 p
theorem lt4 {i : Nat} (h : i < 4) : i = 0 ∨ i = 1 ∨ i = 2 ∨ i = 3 := by omega
theorem right (A : Mat) {i j : Nat} (hi : i < 4) (hj : j < 4) : (s4 fun p => A i p * cof A j p) = if i = j then det A else 0 := by
  rcases lt4 hi with rfl | rfl | rfl | rfl <;> rcases lt4 hj with rfl | rfl | rfl | rfl <;>
    simp [s4, cof, det, det3, sk] <;> grind
theorem left (A : Mat) {p q : Nat} (hp : p < 4) (hq : q < 4) : (s4 fun j => cof A j p * A j q) = if p = q then det A else 0 := by
  rcases lt4 hp with rfl | rfl | rfl | rfl <;> rcases lt4 hq with rfl | rfl | rfl | rfl <;>
    simp [s4, cof, det, det3, sk] <;> grind
/-- the row l replaced -/
def rep (A : Mat) (l : Nat) (r : Nat → Int) : Mat := fun i => if i = l then r else A i
theorem cof_rep {A : Mat} {l : Nat} {r : Nat → Int} (hl : l < 4) {p : Nat} : cof (rep A l r) l p = cof A l p := by
  rcases lt4 hl with rfl | rfl | rfl | rfl <;> simp [cof, rep, sk]
theorem s4_add (f g : Nat → Int) : (s4 fun p => f p + g p) = s4 f + s4 g := by simp only [s4]; omega
theorem s4_mul (c : Int) (f : Nat → Int) : (s4 fun p => c * f p) = c * s4 f := by simp only [s4]; grind
theorem s4_congr {f g : Nat → Int} (h : ∀ p, p < 4 → f p = g p) : s4 f = s4 g := by
  simp only [s4, h 0 (by omega), h 1 (by omega), h 2 (by omega), h 3 (by omega)]
/-- the weight of the row r at the column j -/
def wt (A : Mat) (r : Nat → Int) (j : Nat) : Int := s4 fun p => r p * cof A j p
theorem det_rep {A : Mat} {l : Nat} {r : Nat → Int} (hl : l < 4) : det (rep A l r) = wt A r l := by
  have h := right (rep A l r) hl hl
  rw [if_pos rfl] at h
  rw [← h]
  refine s4_congr fun p _ => ?_
  rw [cof_rep hl]
  simp [rep]
/-- what all rows of a matrix with a determinant turn to zero is zero -/
theorem zero_of {A : Mat} (hd : det A ≠ 0) {v : Nat → Int} (h : ∀ i, i < 4 → (s4 fun p => A i p * v p) = 0) : ∀ p, p < 4 → v p = 0 := by
  intro p hp
  have e : det A * v p = s4 fun j => cof A j p * (s4 fun q => A j q * v q) := by
    have l0 := left A hp (q := 0) (by omega)
    have l1 := left A hp (q := 1) (by omega)
    have l2 := left A hp (q := 2) (by omega)
    have l3 := left A hp (q := 3) (by omega)
    have sw : (s4 fun j => cof A j p * (s4 fun q => A j q * v q)) = (s4 fun j => cof A j p * A j 0) * v 0 + (s4 fun j => cof A j p * A j 1) * v 1 + (s4 fun j => cof A j p * A j 2) * v 2 + (s4 fun j => cof A j p * A j 3) * v 3 := by
      generalize cof A = C
      simp only [s4]
      grind
    rw [sw, l0, l1, l2, l3]
    rcases lt4 hp with rfl | rfl | rfl | rfl <;> simp
  have z : (s4 fun j => cof A j p * (s4 fun q => A j q * v q)) = 0 := by
    rw [s4_congr (g := fun _ => 0) fun j hj => by rw [h j hj, Int.mul_zero]]
    rfl
  rw [z] at e
  rcases Int.mul_eq_zero.mp e with e | e
  · exact absurd e hd
  · exact e
/-- the exchange: what is divided by the determinant leaves no rest -/
theorem exchange {A : Mat} {l j p : Nat} {r : Nat → Int} (hl : l < 4) (hj : j < 4) (hp : p < 4) (hne : j ≠ l) (hd : wt A r l ≠ 0) : wt A r l * cof A j p - wt A r j * cof A l p = det A * cof (rep A l r) j p := by
  have hd' : det (rep A l r) ≠ 0 := by rw [det_rep hl]; exact hd
  have key := zero_of hd' (v := fun p => wt A r l * cof A j p + (-(wt A r j)) * cof A l p + (-(det A)) * cof (rep A l r) j p) ?_ p hp
  · rw [Int.neg_mul, Int.neg_mul] at key
    omega
  · intro i hi
    have split : ∀ a : Nat → Int, (s4 fun p => a p * (wt A r l * cof A j p + (-(wt A r j)) * cof A l p + (-(det A)) * cof (rep A l r) j p)) = wt A r l * (s4 fun p => a p * cof A j p) + (-(wt A r j)) * (s4 fun p => a p * cof A l p) + (-(det A)) * (s4 fun p => a p * cof (rep A l r) j p) := by
      intro a
      generalize cof A = C
      generalize cof (rep A l r) = C'
      generalize det A = d
      generalize wt A r = ww
      simp only [s4]
      grind
    rw [split]
    have r3 := right (rep A l r) hi hj
    by_cases e : i = l
    · subst e
      rw [if_neg (Ne.symm hne)] at r3
      have e1 : rep A i r i = r := by simp [rep]
      rw [r3, e1]
      show wt A r i * wt A r j + -wt A r j * wt A r i + -det A * 0 = 0
      grind
    · have e1 : rep A l r i = A i := by simp [rep, e]
      rw [r3, e1, right A hi hj, right A hi hl, if_neg e, det_rep hl]
      by_cases e2 : i = j
      · rw [if_pos e2, if_pos e2]; grind
      · rw [if_neg e2, if_neg e2]; simp
/-- the new column, as it is reckoned -/
theorem exchange_div {A : Mat} {l j p : Nat} {r : Nat → Int} (hl : l < 4) (hj : j < 4) (hp : p < 4) (hne : j ≠ l) (hd : 0 < wt A r l) (h0 : 0 < det A) : (wt A r l * cof A j p - wt A r j * cof A l p) / det A = cof (rep A l r) j p := by
  rw [exchange hl hj hp hne (by omega)]
  exact Int.mul_ediv_cancel_left _ (by omega)
/-- a row is the sum of the tight rows, each times its weight -/
theorem sum_of {A : Mat} {r v : Nat → Int} : (s4 fun j => wt A r j * (s4 fun p => A j p * v p)) = det A * s4 fun p => r p * v p := by
  have e : ∀ q, q < 4 → (s4 fun j => wt A r j * A j q) = det A * r q := by
    intro q hq
    have l0 := left A (p := 0) (by omega) hq
    have l1 := left A (p := 1) (by omega) hq
    have l2 := left A (p := 2) (by omega) hq
    have l3 := left A (p := 3) (by omega) hq
    have sw : (s4 fun j => wt A r j * A j q) = r 0 * (s4 fun j => cof A j 0 * A j q) + r 1 * (s4 fun j => cof A j 1 * A j q) + r 2 * (s4 fun j => cof A j 2 * A j q) + r 3 * (s4 fun j => cof A j 3 * A j q) := by
      unfold wt
      generalize cof A = C
      simp only [s4]
      grind
    rw [sw, l0, l1, l2, l3]
    rcases lt4 hq with rfl | rfl | rfl | rfl <;> simp [Int.mul_comm]
  have e0 := e 0 (by omega)
  have e1 := e 1 (by omega)
  have e2 := e 2 (by omega)
  have e3 := e 3 (by omega)
  have sw : (s4 fun j => wt A r j * (s4 fun p => A j p * v p)) = (s4 fun j => wt A r j * A j 0) * v 0 + (s4 fun j => wt A r j * A j 1) * v 1 + (s4 fun j => wt A r j * A j 2) * v 2 + (s4 fun j => wt A r j * A j 3) * v 3 := by
    generalize wt A r = ww
    simp only [s4]
    grind
  rw [sw, e0, e1, e2, e3]
  simp only [s4]
  grind
end Adj
/-! Bland's rule for rows of numbers: no choice of tight rows comes twice. Pure arithmetic: no program in it. -/
namespace Bland
def sm (l : List Nat) (f : Nat → Int) : Int := (l.map f).sum
theorem sm_cons (a : Nat) (l : List Nat) (f : Nat → Int) : sm (a :: l) f = f a + sm l f := by simp [sm]
theorem sm_nil (f : Nat → Int) : sm [] f = 0 := rfl
theorem sm_mul (c : Int) (f : Nat → Int) : ∀ l, c * sm l f = sm l fun i => c * f i
  | [] => by simp [sm_nil]
  | a :: l => by rw [sm_cons, sm_cons, Int.mul_add, sm_mul c f l]
theorem sm_sub (f g : Nat → Int) : ∀ l, sm l f - sm l g = sm l fun i => f i - g i
  | [] => by simp [sm_nil]
  | a :: l => by
    have := sm_sub f g l
    simp only [sm_cons]
    omega
theorem sm_congr {f g : Nat → Int} : ∀ {l : List Nat}, (∀ i ∈ l, f i = g i) → sm l f = sm l g
  | [], _ => rfl
  | a :: l, h => by rw [sm_cons, sm_cons, h a List.mem_cons_self, sm_congr fun i hi => h i (List.mem_cons_of_mem _ hi)]
theorem sm_nonpos {f : Nat → Int} : ∀ {l : List Nat}, (∀ i ∈ l, f i ≤ 0) → sm l f ≤ 0
  | [], _ => by simp [sm_nil]
  | a :: l, h => by
    have h1 := h a List.mem_cons_self
    have h2 := sm_nonpos fun i hi => h i (List.mem_cons_of_mem _ hi)
    rw [sm_cons]; omega
theorem sm_neg {f : Nat → Int} {q : Nat} : ∀ {l : List Nat}, q ∈ l → f q < 0 → (∀ i ∈ l, f i ≤ 0) → sm l f < 0
  | [], hq, _, _ => by cases hq
  | a :: l, hq, hn, h => by
    rw [sm_cons]
    rcases List.mem_cons.mp hq with rfl | hq
    · have h2 := sm_nonpos fun i hi => h i (List.mem_cons_of_mem _ hi)
      omega
    · have h1 := h a List.mem_cons_self
      have h2 := sm_neg hq hn fun i hi => h i (List.mem_cons_of_mem _ hi)
      omega
/-- V: points; A i v: the row i at the point v; b i: what it asks. A choice of tight rows with its point, times its size. -/
structure St (V : Type) where
  tight : List Nat
  x : V
  d : Int
structure Ok {V : Type} (A : Nat → V → Int) (b : Nat → Int) (s : St V) : Prop where
  pos : 0 < s.d
  at_ : ∀ i ∈ s.tight, A i s.x = s.d * b i
/-- the row r is missed, q makes way -/
structure Step {V : Type} (A : Nat → V → Int) (b : Nat → Int) (s s' : St V) (r q : Nat) : Prop where
  miss : A r s.x < s.d * b r
  first : ∀ i, i < r → s.d * b i ≤ A i s.x
  w : ∃ w : Nat → Int, (∀ v, s.d * A r v = sm s.tight fun i => w i * A i v) ∧ 0 < w q ∧ ∀ i ∈ s.tight, 0 < w i → q ≤ i
  mem : q ∈ s.tight
  next : ∀ i, i ∈ s'.tight ↔ (i ∈ s.tight ∧ i ≠ q) ∨ i = r
section
variable {V : Type} {A : Nat → V → Int} {b : Nat → Int}
theorem Step.out {s s' : St V} {r q : Nat} (h : Step A b s s' r q) (o : Ok A b s) : r ∉ s.tight := fun hr => by
  have := h.miss
  rw [o.at_ r hr] at this
  omega
/-- q comes at s, and goes at t for a smaller row: so it cannot be, if what is above q and tight at t is tight at s -/
theorem core {s s' t t' : St V} {q r q' : Nat} (os : Ok A b s) (ot : Ok A b t) (hs : Step A b s s' q q') (ht : Step A b t t' r q) (hr : r < q) (up : ∀ i ∈ t.tight, q < i → i ∈ s.tight) : False := by
  obtain ⟨w, hw, wq, wmin⟩ := ht.w
  have e : t.d * (t.d * A r s.x - s.d * A r t.x) = t.d * sm t.tight fun i => w i * (A i s.x - s.d * b i) := by
    have e1 : t.d * (t.d * A r s.x) = t.d * sm t.tight (fun i => w i * A i s.x) := by rw [hw]
    have e2 : s.d * (t.d * A r t.x) = s.d * sm t.tight (fun i => w i * A i t.x) := by rw [hw]
    rw [sm_mul] at e1 e2
    have e3 := sm_sub (fun i => t.d * (w i * A i s.x)) (fun i => s.d * (w i * A i t.x)) t.tight
    rw [← e1, ← e2] at e3
    have e4 : sm t.tight (fun i => t.d * (w i * A i s.x) - s.d * (w i * A i t.x)) = sm t.tight fun i => t.d * (w i * (A i s.x - s.d * b i)) := by
      refine sm_congr fun i hi => ?_
      rw [ot.at_ i hi]
      grind
    rw [e4] at e3
    rw [sm_mul, ← e3]
    grind
  have e := Int.eq_of_mul_eq_mul_left (Int.ne_of_gt ot.pos) e
  have neg : (sm t.tight fun i => w i * (A i s.x - s.d * b i)) < 0 := by
    refine sm_neg (q := q) ht.mem ?_ ?_
    · have := hs.miss
      exact Int.mul_neg_of_pos_of_neg wq (by omega)
    · intro i hi
      rcases Nat.lt_trichotomy i q with h | h | h
      · have h1 := hs.first i h
        have h2 : w i ≤ 0 := by
          rcases Int.lt_or_le 0 (w i) with h2 | h2
          · have := wmin i hi h2; omega
          · exact h2
        exact Int.mul_nonpos_of_nonpos_of_nonneg h2 (by omega)
      · subst h
        have := hs.miss
        exact Int.le_of_lt (Int.mul_neg_of_pos_of_neg wq (by omega))
      · rw [os.at_ i (up i hi h), Int.sub_self, Int.mul_zero]
        exact Int.le_refl _
  have pos : 0 < t.d * A r s.x - s.d * A r t.x := by
    have h1 := hs.first r hr
    have h2 := ht.miss
    have h3 := Int.mul_le_mul_of_nonneg_left h1 (Int.le_of_lt ot.pos)
    have h4 := Int.mul_lt_mul_of_pos_left h2 os.pos
    have h5 : t.d * (s.d * b r) = s.d * (t.d * b r) := by grind
    omega
  omega
/-- a greatest one -/
theorem greatest (f : Nat → Nat) (i : Nat) : ∀ n, ∃ k, i ≤ k ∧ k < i + n + 1 ∧ ∀ k2, i ≤ k2 → k2 < i + n + 1 → f k2 ≤ f k
  | 0 => by
    refine ⟨i, by omega, by omega, fun k2 h1 h2 => ?_⟩
    have : k2 = i := by omega
    rw [this]
    exact Nat.le_refl _
  | n + 1 => by
    obtain ⟨k, h1, h2, h3⟩ := greatest f i n
    rcases Nat.le_total (f (i + n + 1)) (f k) with h | h
    · refine ⟨k, h1, by omega, fun k2 a c => ?_⟩
      rcases Nat.lt_or_ge k2 (i + n + 1) with hlt | hge
      · exact h3 k2 a hlt
      · have : k2 = i + n + 1 := by omega
        rw [this]; exact h
    · refine ⟨i + n + 1, by omega, by omega, fun k2 a c => ?_⟩
      rcases Nat.lt_or_ge k2 (i + n + 1) with hlt | hge
      · exact Nat.le_trans (h3 k2 a hlt) h
      · have : k2 = i + n + 1 := by omega
        rw [this]; exact Nat.le_refl _
/-- from a on, up to b, a property stays -/
theorem stays {p : Nat → Prop} {a : Nat} : ∀ {b : Nat}, a ≤ b → (∀ m, a ≤ m → m < b → p m → p (m + 1)) → p a → p b
  | 0, h, _, pa => by
    have : a = 0 := by omega
    rw [this] at pa
    exact pa
  | b + 1, h, st, pa => by
    rcases Nat.lt_or_ge b a with hlt | hge
    · have : a = b + 1 := by omega
      rw [this] at pa; exact pa
    · exact st b hge (by omega) (stays hge (fun m h1 h2 => st m h1 (by omega)) pa)
theorem no_repeat {s : Nat → St V} {r q : Nat → Nat} {i j : Nat} (hij : i < j) (ok : ∀ k, i ≤ k → k < j → Ok A b (s k)) (st : ∀ k, i ≤ k → k < j → Step A b (s k) (s (k + 1)) (r k) (q k)) (same : ∀ x, x ∈ (s i).tight ↔ x ∈ (s j).tight) : False := by
  obtain ⟨k, k1, k2, kmax⟩ := greatest r i (j - i - 1)
  have k2 : k < j := by omega
  have kmax : ∀ m, i ≤ m → m < j → r m ≤ r k := fun m h1 h2 => kmax m h1 (by omega)
  have out := (st k k1 k2).out (ok k k1 k2)
  have inn : r k ∈ (s (k + 1)).tight := ((st k k1 k2).next _).mpr (Or.inr rfl)
  -- what stays unless it goes
  have keep : ∀ y m, i ≤ m → m < j → q m ≠ y → y ∈ (s m).tight → y ∈ (s (m + 1)).tight := fun y m h1 h2 h3 h4 => ((st m h1 h2).next y).mpr (Or.inl ⟨h4, fun z => h3 z.symm⟩)
  by_cases go : ∃ k', i ≤ k' ∧ k' < j ∧ q k' = r k
  · obtain ⟨t, t1, t2, tq⟩ := go
    have stT := st t t1 t2
    rw [tq] at stT
    have tin : r k ∈ (s t).tight := stT.mem
    have hr : r t < r k := by
      have h1 := kmax t t1 t2
      have h2 : r t ≠ r k := fun z => stT.out (ok t t1 t2) (by rw [z]; exact tin)
      omega
    refine core (ok k k1 k2) (ok t t1 t2) (st k k1 k2) stT hr ?_
    intro y hy hlt
    -- y never comes
    have back : ∀ m, i ≤ m → m < j → y ∈ (s (m + 1)).tight → y ∈ (s m).tight := by
      intro m h1 h2 h3
      rcases ((st m h1 h2).next y).mp h3 with h | h
      · exact h.1
      · have := kmax m h1 h2; omega
    have down : ∀ (n : Nat), ∀ m, i ≤ m → m + n ≤ j → y ∈ (s (m + n)).tight → y ∈ (s m).tight := by
      intro n
      induction n with
      | zero => intro m _ _ h; exact h
      | succ n ih =>
        intro m h1 h2 h3
        refine back m h1 (by omega) (ih (m + 1) (by omega) (by omega) ?_)
        have : m + 1 + n = m + (n + 1) := by omega
        rw [this]; exact h3
    have yi : y ∈ (s i).tight := down (t - i) i (Nat.le_refl _) (by omega) (by rw [show i + (t - i) = t by omega]; exact hy)
    have yj := (same y).mp yi
    exact down (j - k) k k1 (by omega) (by rw [show k + (j - k) = j by omega]; exact yj)
  · have go : ∀ m, i ≤ m → m < j → q m ≠ r k := fun m h1 h2 z => go ⟨m, h1, h2, z⟩
    have yj : r k ∈ (s j).tight := stays (p := fun m => r k ∈ (s m).tight) (a := k + 1) (by omega) (fun m h1 h2 h3 => keep _ m (by omega) h2 (go m (by omega) h2) h3) inn
    have yi := (same _).mpr yj
    exact out (stays (p := fun m => r k ∈ (s m).tight) (a := i) k1 (fun m h1 h2 h3 => keep _ m h1 (by omega) (go m h1 (by omega)) h3) yi)
end
/-! how many lists there are -/
theorem few : ∀ (M : Nat) (l : List Nat), l.Nodup → (∀ x ∈ l, x < M) → l.length ≤ M
  | 0, l, _, h => by
    cases l with
    | nil => exact Nat.le_refl _
    | cons a l => have := h a List.mem_cons_self; omega
  | M + 1, l, nd, h => by
    have e := few M (l.erase M) (nd.erase M) (fun x hx => by
      have h1 := h x (List.mem_of_mem_erase hx)
      have h2 : x ≠ M := fun z => by
        subst z
        exact (List.Nodup.not_mem_erase nd) hx
      omega)
    have : l.length ≤ (l.erase M).length + 1 := by
      rw [List.length_erase]
      split <;> omega
    omega
def code (N : Nat) : List Nat → Nat
  | [] => 0
  | a :: l => a + N * code N l
theorem code_lt {N : Nat} : ∀ {l : List Nat}, (∀ x ∈ l, x < N) → code N l < N ^ l.length
  | [], _ => by simp [code]
  | a :: l, h => by
    have h1 := h a List.mem_cons_self
    have h2 := code_lt fun x hx => h x (List.mem_cons_of_mem _ hx)
    have h3 : N * (code N l + 1) ≤ N * N ^ l.length := Nat.mul_le_mul_left N h2
    rw [Nat.mul_add] at h3
    simp only [code, List.length_cons, Nat.pow_succ]
    rw [Nat.mul_comm (N ^ l.length)]
    omega
theorem code_inj {N : Nat} : ∀ {l k : List Nat}, (∀ x ∈ l, x < N) → (∀ x ∈ k, x < N) → l.length = k.length → code N l = code N k → l = k
  | [], [], _, _, _, _ => rfl
  | [], b :: k, _, _, h, _ => by cases h
  | a :: l, [], _, _, h, _ => by cases h
  | a :: l, b :: k, h1, h2, h3, h4 => by
    have ha := h1 a List.mem_cons_self
    have hb := h2 b List.mem_cons_self
    simp only [code] at h4
    have e1 : a = b := by
      have := congrArg (· % N) h4
      simp only [Nat.add_mul_mod_self_left] at this
      rw [Nat.mod_eq_of_lt ha, Nat.mod_eq_of_lt hb] at this
      exact this
    subst e1
    have e2 : code N l = code N k := Nat.eq_of_mul_eq_mul_left (by omega) (Nat.add_left_cancel h4)
    rw [code_inj (fun x hx => h1 x (List.mem_cons_of_mem _ hx)) (fun x hx => h2 x (List.mem_cons_of_mem _ hx)) (by simpa using h3) e2]
/-- different lists of n numbers below N: at most N ^ n -/
theorem few_lists {N n : Nat} (H : List (List Nat)) (nd : H.Nodup) (h : ∀ l ∈ H, l.length = n ∧ ∀ x ∈ l, x < N) : H.length ≤ N ^ n := by
  have := few (N ^ n) (H.map (code N)) ?_ ?_
  · rw [List.length_map] at this; exact this
  · rw [List.Nodup, List.pairwise_map]
    refine List.Pairwise.imp_of_mem ?_ nd
    intro a c ha hc hne e
    exact hne (code_inj (h a ha).2 (h c hc).2 (by rw [(h a ha).1, (h c hc).1]) e)
  · intro x hx
    obtain ⟨l, hl, rfl⟩ := List.mem_map.mp hx
    have := code_lt (h l hl).2
    rw [(h l hl).1] at this
    exact this
end Bland
/-! The exact search over four rows: corners, steps, its end. Pure arithmetic: no program in it. -/
namespace Sett
open Adj Bland
structure Rw where
  v : Nat → Int
  s : Bool
def bi (r : Rw) : Int := if r.s then 1 else 0
abbrev Vec := Nat → Int
def av (rs : Nat → Rw) (i : Nat) (x : Vec) : Int := s4 fun p => (rs i).v p * x p
/-- a corner: four rows of the list, their matrix -/
structure Cn (N : Nat) (rs : Nat → Rw) (t : Nat → Nat) (A : Mat) : Prop where
  lt : ∀ j, j < 4 → t j < N
  row : ∀ j, j < 4 → ∀ p, A j p = (rs (t j)).v p
  pos : 0 < det A
def tl (t : Nat → Nat) : List Nat := [t 0, t 1, t 2, t 3]
def pt (A : Mat) (ss : Nat → Bool) (p : Nat) : Int := s4 fun j => if ss j then cof A j p else 0
theorem s4_if {c : Prop} [Decidable c] {f : Nat → Int} : (s4 fun p => if c then f p else 0) = if c then s4 f else 0 := by
  split <;> simp [s4]
theorem swap4 {A C : Mat} {ss : Nat → Bool} {j : Nat} : (s4 fun p => A j p * s4 fun k => if ss k then C k p else 0) = (if ss 0 then s4 fun p => A j p * C 0 p else 0) + (if ss 1 then s4 fun p => A j p * C 1 p else 0) + (if ss 2 then s4 fun p => A j p * C 2 p else 0) + (if ss 3 then s4 fun p => A j p * C 3 p else 0) := by
  simp only [s4]
  generalize ss 0 = b0
  generalize ss 1 = b1
  generalize ss 2 = b2
  generalize ss 3 = b3
  generalize A j 0 = a0
  generalize A j 1 = a1
  generalize A j 2 = a2
  generalize A j 3 = a3
  cases b0 <;> cases b1 <;> cases b2 <;> cases b3 <;> simp [Int.mul_add] <;> omega
theorem tight_at {A : Mat} {ss : Nat → Bool} {j : Nat} (hj : j < 4) : (s4 fun p => A j p * pt A ss p) = det A * (if ss j then 1 else 0) := by
  have r0 := right A hj (j := 0) (by omega)
  have r1 := right A hj (j := 1) (by omega)
  have r2 := right A hj (j := 2) (by omega)
  have r3 := right A hj (j := 3) (by omega)
  have e : (s4 fun p => A j p * pt A ss p) = _ := swap4 (A := A) (C := cof A) (ss := ss) (j := j)
  rw [e, r0, r1, r2, r3]
  rcases lt4 hj with rfl | rfl | rfl | rfl <;> simp <;> split <;> simp
section
variable {N : Nat} {rs : Nat → Rw} {t : Nat → Nat} {A : Mat}
theorem Cn.ne (c : Cn N rs t A) {j k : Nat} (hj : j < 4) (hk : k < 4) (h : j ≠ k) : t j ≠ t k := by
  intro e
  have r1 := right A hj hk
  rw [if_neg h] at r1
  have r2 := right A hk hk
  rw [if_pos rfl] at r2
  have : (s4 fun p => A j p * cof A k p) = s4 fun p => A k p * cof A k p := by
    refine s4_congr fun p _ => ?_
    rw [c.row j hj, c.row k hk, e]
  rw [this, r2] at r1
  have := c.pos
  omega
def ssOf (rs : Nat → Rw) (t : Nat → Nat) (j : Nat) : Bool := (rs (t j)).s
def stOf (rs : Nat → Rw) (t : Nat → Nat) (A : Mat) : St Vec := ⟨tl t, pt A (ssOf rs t), det A⟩
theorem mem_tl {i : Nat} : i ∈ tl t ↔ ∃ j, j < 4 ∧ t j = i := by
  unfold tl
  simp only [List.mem_cons, List.not_mem_nil, or_false]
  constructor
  · rintro (h | h | h | h)
    · exact ⟨0, by omega, h.symm⟩
    · exact ⟨1, by omega, h.symm⟩
    · exact ⟨2, by omega, h.symm⟩
    · exact ⟨3, by omega, h.symm⟩
  · rintro ⟨j, hj, rfl⟩
    rcases lt4 hj with rfl | rfl | rfl | rfl <;> simp
theorem av_at (c : Cn N rs t A) {j : Nat} (hj : j < 4) (x : Vec) : av rs (t j) x = s4 fun p => A j p * x p := by
  refine s4_congr fun p _ => ?_
  rw [c.row j hj]
theorem Cn.ok (c : Cn N rs t A) : Ok (av rs) (fun i => bi (rs i)) (stOf rs t A) := by
  refine ⟨c.pos, fun i hi => ?_⟩
  obtain ⟨j, hj, rfl⟩ := mem_tl.mp hi
  show av rs (t j) (pt A (ssOf rs t)) = det A * bi (rs (t j))
  rw [av_at c hj, tight_at hj]
  rfl
/-- t with the place l given to r -/
def put (t : Nat → Nat) (l r : Nat) (j : Nat) : Nat := if j = l then r else t j
theorem Cn.next (c : Cn N rs t A) {l r : Nat} (hl : l < 4) (hr : r < N) (hw : 0 < wt A (rs r).v l) : Cn N rs (put t l r) (rep A l (rs r).v) := by
  refine ⟨fun j hj => ?_, fun j hj p => ?_, ?_⟩
  · unfold put
    split
    · exact hr
    · exact c.lt j hj
  · unfold put rep
    split
    · rfl
    · exact c.row j hj p
  · rw [det_rep hl]; exact hw
def wOf (t : Nat → Nat) (w : Nat → Int) (i : Nat) : Int := if i = t 0 then w 0 else if i = t 1 then w 1 else if i = t 2 then w 2 else w 3
theorem wOf_at (c : Cn N rs t A) {w : Nat → Int} {j : Nat} (hj : j < 4) : wOf t w (t j) = w j := by
  have n01 := c.ne (j := 0) (k := 1) (by omega) (by omega) (by omega)
  have n02 := c.ne (j := 0) (k := 2) (by omega) (by omega) (by omega)
  have n03 := c.ne (j := 0) (k := 3) (by omega) (by omega) (by omega)
  have n12 := c.ne (j := 1) (k := 2) (by omega) (by omega) (by omega)
  have n13 := c.ne (j := 1) (k := 3) (by omega) (by omega) (by omega)
  have n23 := c.ne (j := 2) (k := 3) (by omega) (by omega) (by omega)
  unfold wOf
  rcases lt4 hj with rfl | rfl | rfl | rfl
  · rw [if_pos rfl]
  · rw [if_neg (Ne.symm n01), if_pos rfl]
  · rw [if_neg (Ne.symm n02), if_neg (Ne.symm n12), if_pos rfl]
  · rw [if_neg (Ne.symm n03), if_neg (Ne.symm n13), if_neg (Ne.symm n23)]
theorem Cn.step (c : Cn N rs t A) {l r : Nat} (hl : l < 4) (hr : r < N) (hw : 0 < wt A (rs r).v l) (hmin : ∀ j, j < 4 → 0 < wt A (rs r).v j → t l ≤ t j)
    (miss : av rs r (pt A (ssOf rs t)) < det A * bi (rs r)) (first : ∀ i, i < r → det A * bi (rs i) ≤ av rs i (pt A (ssOf rs t))) :
    Step (av rs) (fun i => bi (rs i)) (stOf rs t A) (stOf rs (put t l r) (rep A l (rs r).v)) r (t l) := by
  have out : ∀ j, j < 4 → t j ≠ r := by
    intro j hj e
    have h := c.ok.at_ (t j) (mem_tl.mpr ⟨j, hj, rfl⟩)
    rw [e] at h
    have h : av rs r (pt A (ssOf rs t)) = det A * bi (rs r) := h
    omega
  refine ⟨miss, first, ⟨wOf t (wt A (rs r).v), fun x => ?_, ?_, ?_⟩, mem_tl.mpr ⟨l, hl, rfl⟩, fun i => ?_⟩
  · show det A * av rs r x = sm (tl t) fun i => wOf t (wt A (rs r).v) i * av rs i x
    have e := sum_of (A := A) (r := (rs r).v) (v := x)
    unfold tl
    simp only [sm_cons, sm_nil]
    rw [wOf_at c (by omega : 0 < 4), wOf_at c (by omega : 1 < 4), wOf_at c (by omega : 2 < 4), wOf_at c (by omega : 3 < 4), av_at c (by omega : 0 < 4), av_at c (by omega : 1 < 4), av_at c (by omega : 2 < 4), av_at c (by omega : 3 < 4)]
    have e2 : av rs r x = s4 fun p => (rs r).v p * x p := rfl
    rw [e2, ← e]
    generalize wt A (rs r).v = ww
    show ww 0 * _ + ww 1 * _ + ww 2 * _ + ww 3 * _ = _
    omega
  · rw [wOf_at c hl]; exact hw
  · intro i hi
    obtain ⟨j, hj, rfl⟩ := mem_tl.mp hi
    rw [wOf_at c hj]
    exact hmin j hj
  · show i ∈ tl (put t l r) ↔ (i ∈ tl t ∧ i ≠ t l) ∨ i = r
    rw [mem_tl, mem_tl]
    constructor
    · rintro ⟨j, hj, rfl⟩
      unfold put
      by_cases e : j = l
      · rw [if_pos e]; exact Or.inr rfl
      · rw [if_neg e]
        exact Or.inl ⟨⟨j, hj, rfl⟩, c.ne hj hl e⟩
    · rintro (⟨⟨j, hj, rfl⟩, h⟩ | rfl)
      · have e : j ≠ l := fun e => h (by rw [e])
        exact ⟨j, hj, if_neg e⟩
      · exact ⟨l, hl, if_pos rfl⟩
/-- what was seen so far: n steps -/
structure Hist (N : Nat) (rs : Nat → Rw) (n : Nat) (cur : St Vec) : Prop where
  ex : ∃ (s : Nat → St Vec) (r q : Nat → Nat), s n = cur ∧ (∀ k, k ≤ n → Ok (av rs) (fun i => bi (rs i)) (s k) ∧ (s k).tight.length = 4 ∧ ∀ x ∈ (s k).tight, x < N) ∧
    ∀ k, k < n → Step (av rs) (fun i => bi (rs i)) (s k) (s (k + 1)) (r k) (q k)
theorem tl_ok (c : Cn N rs t A) : (stOf rs t A).tight.length = 4 ∧ ∀ x ∈ (stOf rs t A).tight, x < N := by
  refine ⟨rfl, fun x hx => ?_⟩
  obtain ⟨j, hj, rfl⟩ := mem_tl.mp hx
  exact c.lt j hj
theorem Hist.zero (c : Cn N rs t A) : Hist N rs 0 (stOf rs t A) :=
  ⟨fun _ => stOf rs t A, fun _ => 0, fun _ => 0, rfl, fun k hk => ⟨c.ok, tl_ok c⟩, fun k hk => by omega⟩
theorem Hist.succ {n r q : Nat} {cur nxt : St Vec} (h : Hist N rs n cur) (st : Step (av rs) (fun i => bi (rs i)) cur nxt r q) (o : Ok (av rs) (fun i => bi (rs i)) nxt) (l : nxt.tight.length = 4 ∧ ∀ x ∈ nxt.tight, x < N) : Hist N rs (n + 1) nxt := by
  obtain ⟨s, rr, qq, e, ok, steps⟩ := h.ex
  refine ⟨fun k => if k ≤ n then s k else nxt, fun k => if k < n then rr k else r, fun k => if k < n then qq k else q, ?_, fun k hk => ?_, fun k hk => ?_⟩
  · exact if_neg (by omega)
  · by_cases c : k ≤ n
    · simp only [if_pos c]; exact ok k c
    · simp only [if_neg c]; exact ⟨o, l⟩
  · by_cases c : k < n
    · simp only [if_pos (show k ≤ n by omega), if_pos (show k + 1 ≤ n by omega), if_pos c]
      exact steps k c
    · have : k = n := by omega
      subst this
      simp only [if_pos (Nat.le_refl k), if_neg (show ¬ k + 1 ≤ k by omega), if_neg (show ¬ k < k by omega)]
      rw [e]; exact st
theorem Hist.le {n : Nat} {cur : St Vec} (h : Hist N rs n cur) : n + 1 ≤ N ^ 4 := by
  obtain ⟨s, r, q, _, ok, steps⟩ := h.ex
  have := few_lists (N := N) (n := 4) ((List.range (n + 1)).map fun k => (s k).tight) ?_ ?_
  · rw [List.length_map, List.length_range] at this; exact this
  · rw [List.Nodup, List.pairwise_map]
    refine List.Pairwise.imp_of_mem ?_ List.pairwise_lt_range
    intro i j hi hj hij e
    have hj' : j < n + 1 := List.mem_range.mp hj
    exact no_repeat hij (fun k _ h2 => (ok k (by omega)).1) (fun k _ h2 => steps k (by omega)) (fun x => by rw [e])
  · intro l hl
    obtain ⟨k, hk, rfl⟩ := List.mem_map.mp hl
    exact (ok k (by have := List.mem_range.mp hk; omega)).2
/-- the sum that cannot be -/
theorem cert_sum {r : Vec} {q : Nat} (hq : q < 4) : (s4 fun j => wt A r j * A j q) = det A * r q := by
  have e := sum_of (A := A) (r := r) (v := fun p => if p = q then 1 else 0)
  have e1 : ∀ f : Nat → Int, (s4 fun p => f p * (if p = q then 1 else 0)) = f q := by
    intro f
    rcases lt4 hq with rfl | rfl | rfl | rfl <;> simp [s4]
  rw [e1] at e
  rw [← e]
  refine s4_congr fun j _ => ?_
  rw [e1]
theorem cert_pos (c : Cn N rs t A) {r : Nat} (miss : av rs r (pt A (ssOf rs t)) < det A * bi (rs r)) : 0 < det A * bi (rs r) + s4 fun j => -(wt A (rs r).v j) * bi (rs (t j)) := by
  have e := sum_of (A := A) (r := (rs r).v) (v := pt A (ssOf rs t))
  have t0 := tight_at (A := A) (ss := ssOf rs t) (by omega : 0 < 4)
  have t1 := tight_at (A := A) (ss := ssOf rs t) (by omega : 1 < 4)
  have t2 := tight_at (A := A) (ss := ssOf rs t) (by omega : 2 < 4)
  have t3 := tight_at (A := A) (ss := ssOf rs t) (by omega : 3 < 4)
  have b0 : ∀ j, (if ssOf rs t j then (1 : Int) else 0) = bi (rs (t j)) := fun j => rfl
  rw [b0] at t0 t1 t2 t3
  have e' : wt A (rs r).v 0 * (det A * bi (rs (t 0))) + wt A (rs r).v 1 * (det A * bi (rs (t 1))) + wt A (rs r).v 2 * (det A * bi (rs (t 2))) + wt A (rs r).v 3 * (det A * bi (rs (t 3))) = det A * av rs r (pt A (ssOf rs t)) := by
    rw [← t0, ← t1, ← t2, ← t3]
    exact e
  generalize wt A (rs r).v = ww at *
  generalize hP : av rs r (pt A (ssOf rs t)) = P at *
  have key : det A * (ww 0 * bi (rs (t 0)) + ww 1 * bi (rs (t 1)) + ww 2 * bi (rs (t 2)) + ww 3 * bi (rs (t 3))) = det A * P := by
    rw [← e']; grind
  have key := Int.eq_of_mul_eq_mul_left (Int.ne_of_gt c.pos) key
  show 0 < det A * bi (rs r) + (-(ww 0) * bi (rs (t 0)) + -(ww 1) * bi (rs (t 1)) + -(ww 2) * bi (rs (t 2)) + -(ww 3) * bi (rs (t 3)))
  rw [Int.neg_mul, Int.neg_mul, Int.neg_mul, Int.neg_mul]
  omega
end
/-! how large -/
def Bd (k : Nat) (x : Int) : Prop := x.natAbs < 2 ^ k
theorem Bd.up {k l : Nat} {x : Int} (h : Bd k x) (hl : k ≤ l) : Bd l x := Nat.lt_of_lt_of_le h (Nat.pow_le_pow_right (by decide) hl)
theorem Bd.add {k : Nat} {x y : Int} (h : Bd k x) (h' : Bd k y) : Bd (k + 1) (x + y) := by
  unfold Bd at *
  have := Int.natAbs_add_le x y
  rw [Nat.pow_succ]
  omega
theorem Bd.neg {k : Nat} {x : Int} (h : Bd k x) : Bd k (-x) := by
  unfold Bd at *
  rw [Int.natAbs_neg]; exact h
theorem Bd.sub {k : Nat} {x y : Int} (h : Bd k x) (h' : Bd k y) : Bd (k + 1) (x - y) := by
  rw [Int.sub_eq_add_neg]
  exact h.add h'.neg
theorem Bd.mul {a b : Nat} {x y : Int} (h : Bd a x) (h' : Bd b y) : Bd (a + b) (x * y) := by
  unfold Bd at *
  rw [Int.natAbs_mul, Nat.pow_add]
  exact Nat.mul_lt_mul'' h h'
theorem Bd.zero {k : Nat} : Bd k 0 := Nat.pow_pos (by decide)
theorem Bd.sum4 {k : Nat} {f : Nat → Int} (h : ∀ p, p < 4 → Bd k (f p)) : Bd (k + 2) (s4 f) := by
  have h0 := h 0 (by omega)
  have h1 := h 1 (by omega)
  have h2 := h 2 (by omega)
  have h3 := h 3 (by omega)
  unfold Bd at *
  unfold s4
  have a1 := Int.natAbs_add_le (f 0) (f 1)
  have a2 := Int.natAbs_add_le (f 0 + f 1) (f 2)
  have a3 := Int.natAbs_add_le (f 0 + f 1 + f 2) (f 3)
  rw [Nat.pow_add]
  omega
theorem sk_lt {j k : Nat} (hk : k < 3) : sk j k < 4 := by
  unfold sk
  split <;> omega
theorem Bd.cof {k : Nat} {A : Mat} (h : ∀ i p, i < 4 → p < 4 → Bd k (A i p)) (j p : Nat) : Bd (3 * k + 3) (cof A j p) := by
  have e : ∀ a b, a < 3 → b < 3 → Bd k (A (sk j a) (sk p b)) := fun a b ha hb => h _ _ (sk_lt ha) (sk_lt hb)
  have m2 : ∀ {x y z w : Int}, Bd k x → Bd k y → Bd k z → Bd k w → Bd (2 * k + 1) (x * y - z * w) := by
    intro x y z w hx hy hz hw
    have := (hx.mul hy).sub (hz.mul hw)
    rw [show 2 * k + 1 = k + k + 1 by omega]; exact this
  have m3 : ∀ {u x y z w : Int}, Bd k u → Bd k x → Bd k y → Bd k z → Bd k w → Bd (3 * k + 1) (u * (x * y - z * w)) := by
    intro u x y z w hu hx hy hz hw
    have := hu.mul (m2 hx hy hz hw)
    rw [show 3 * k + 1 = k + (2 * k + 1) by omega]; exact this
  unfold Adj.cof det3
  have d : Bd (3 * k + 3) (A (sk j 0) (sk p 0) * (A (sk j 1) (sk p 1) * A (sk j 2) (sk p 2) - A (sk j 1) (sk p 2) * A (sk j 2) (sk p 1)) - A (sk j 0) (sk p 1) * (A (sk j 1) (sk p 0) * A (sk j 2) (sk p 2) - A (sk j 1) (sk p 2) * A (sk j 2) (sk p 0)) + A (sk j 0) (sk p 2) * (A (sk j 1) (sk p 0) * A (sk j 2) (sk p 1) - A (sk j 1) (sk p 1) * A (sk j 2) (sk p 0))) := by
    have z := fun (a b : Nat) (ha : a < 3) (hb : b < 3) => e a b ha hb
    have t1 := m3 (e 0 0 (by omega) (by omega)) (e 1 1 (by omega) (by omega)) (e 2 2 (by omega) (by omega)) (e 1 2 (by omega) (by omega)) (e 2 1 (by omega) (by omega))
    have t2 := m3 (e 0 1 (by omega) (by omega)) (e 1 0 (by omega) (by omega)) (e 2 2 (by omega) (by omega)) (e 1 2 (by omega) (by omega)) (e 2 0 (by omega) (by omega))
    have t3 := m3 (e 0 2 (by omega) (by omega)) (e 1 0 (by omega) (by omega)) (e 2 1 (by omega) (by omega)) (e 1 1 (by omega) (by omega)) (e 2 0 (by omega) (by omega))
    exact (t1.sub t2).add (t3.up (by omega))
  split
  · rw [Int.one_mul]; exact d
  · rw [Int.neg_mul, Int.one_mul]; exact d.neg
theorem Bd.wt {k : Nat} {A : Mat} {r : Vec} (h : ∀ i p, i < 4 → p < 4 → Bd k (A i p)) (hr : ∀ p, p < 4 → Bd k (r p)) (j : Nat) : Bd (4 * k + 5) (wt A r j) := by
  have := Bd.sum4 (f := fun p => r p * Adj.cof A j p) fun p hp => (hr p hp).mul (Bd.cof h j p)
  rw [show 4 * k + 5 = k + (3 * k + 3) + 2 by omega]
  exact this
theorem Bd.det {k : Nat} {A : Mat} (h : ∀ i p, i < 4 → p < 4 → Bd k (A i p)) : Bd (4 * k + 5) (det A) := Bd.wt h (fun p hp => h 0 p (by omega) hp) 0
theorem Bd.pt {k : Nat} {A : Mat} {ss : Nat → Bool} (h : ∀ i p, i < 4 → p < 4 → Bd k (A i p)) (p : Nat) : Bd (3 * k + 5) (pt A ss p) := by
  have := Bd.sum4 (f := fun j => if ss j then Adj.cof A j p else 0) fun j hj => by
    cases ss j
    · exact Bd.zero (k := 3 * k + 3)
    · exact Bd.cof h j p
  exact this
end Sett
namespace K18
open PySem L2 XO DL GB
/-! ### data of the search -/
def rowD (r : Sett.Rw) : D := .tup [.int (r.v 0), .int (r.v 1), .int (r.v 2), .int (r.v 3), .int (if r.s then 1 else 0)]
def intL (ns : List Int) : List D := ns.map D.int
def vecD (x : Nat → Int) : List D := [.int (x 0), .int (x 1), .int (x 2), .int (x 3)]
def colD (A : Adj.Mat) (j : Nat) : D := .tup (vecD (Adj.cof A j))
def colsD (A : Adj.Mat) : List D := [colD A 0, colD A 1, colD A 2, colD A 3]
def tD (t : Nat → Nat) : List D := [.int (t 0 : Nat), .int (t 1 : Nat), .int (t 2 : Nat), .int (t 3 : Nat)]
def cnD (A : Adj.Mat) (t : Nat → Nat) : D := .tup [.tup (colsD A), .tup (tD t), .int (Adj.det A)]
def idM : Adj.Mat := fun i p => if i = p then 1 else 0
def rsOf (L : List Sett.Rw) : Nat → Sett.Rw := fun i => L.getD i ⟨fun _ => 0, false⟩
def Bv (k : Nat) (x : Nat → Int) : Prop := ∀ p, p < 4 → Sett.Bd k (x p)
def Bm (A : Adj.Mat) : Prop := ∀ i p, i < 4 → p < 4 → Sett.Bd 60 (A i p)
def BL (L : List Sett.Rw) : Prop := L.length ≤ 1000 ∧ ∀ r ∈ L, Bv 60 r.v
/-- four numbers, zeros behind them -/
def pad4 (ns : List Int) : List Int := (ns ++ [0, 0, 0, 0]).take 4
def F_in_four : DFn := fun ds m Q _ => ∃ x ns, ds = [x] ∧ seqA x = some (intL ns) ∧ ns.length ≤ 900 ∧ Q (.tup (intL (pad4 ns))) m
def F_row_in_four : DFn := fun ds m Q _ => ∃ x ns s, ds = [x, .bl s] ∧ seqA x = some (intL ns) ∧ ns.length ≤ 900 ∧ Q (.tup (intL (pad4 ns ++ [if s then 1 else 0]))) m
def F_unit_corner : DFn := fun ds m Q _ => ∃ k : Nat, ds = [.int (k : Nat)] ∧ Q (cnD idM fun j => k + j) m
def F_point_of : DFn := fun ds m Q _ => ∃ L A t, ds = [.lst (L.map rowD), cnD A t] ∧ (∀ j, j < 4 → t j < L.length) ∧ Q (.tup (vecD (Sett.pt A (Sett.ssOf (rsOf L) t)))) m
def F_first_missed : DFn := fun ds m Q _ => ∃ (L : List Sett.Rw) (x : Nat → Int) (sz : Int), ds = [.lst (L.map rowD), .tup (vecD x), .int sz] ∧ BL L ∧ Bv 500 x ∧ Sett.Bd 500 sz ∧
  ((∀ i, i < L.length → sz * Sett.bi (rsOf L i) ≤ Sett.av (rsOf L) i x) → Q .non m) ∧
  (∀ i, i < L.length → Sett.av (rsOf L) i x < sz * Sett.bi (rsOf L i) → (∀ k, k < i → sz * Sett.bi (rsOf L k) ≤ Sett.av (rsOf L) k x) → Q (.int (i : Nat)) m)
def F_weights_of : DFn := fun ds m Q _ => ∃ r A, ds = [rowD r, .tup (colsD A)] ∧ Bm A ∧ Bv 60 r.v ∧ Q (.lst (vecD (Adj.wt A r.v))) m
def F_leaving_place : DFn := fun ds m Q _ => ∃ t ws, ds = [.tup (tD t), .lst (vecD ws)] ∧ ((∀ j, j < 4 → ws j ≤ 0) → Q .non m) ∧
  (∀ l, l < 4 → 0 < ws l → (∀ j, j < 4 → 0 < ws j → t l ≤ t j) → Q (.int (l : Nat)) m)
def F_exchanged : DFn := fun ds m Q _ => ∃ A t r l mi, ds = [cnD A t, .int (mi : Nat), .lst (vecD (Adj.wt A r)), .int (l : Nat)] ∧ l < 4 ∧ 0 < Adj.det A ∧ 0 < Adj.wt A r l ∧ Bm A ∧ Bv 60 r ∧
  ∀ m', Sub m m' → Q (cnD (Adj.rep A l r) (Sett.put t l mi)) m'
/-- amounts that show that nothing keeps the rows -/
structure Cert (L : List Sett.Rw) (am : List (Nat × Int)) : Prop where
  nd : (am.map (·.1)).Nodup
  ok : ∀ p ∈ am, p.1 < L.length ∧ 0 < p.2 ∧ Sett.Bd 500 p.2
  zero : ∀ q, q < 4 → (am.map fun p => p.2 * (rsOf L p.1).v q).sum = 0
  pos : 0 < (am.map fun p => p.2 * Sett.bi (rsOf L p.1)).sum
  few : am.length ≤ 5
def natP (p : Nat × Int) : Int × Int := ((p.1 : Int), p.2)
def F_settled : DFn := fun ds m Q _ => ∃ L A t, ds = [.lst (L.map rowD), cnD A t] ∧ BL L ∧ Sett.Cn L.length (rsOf L) t A ∧
  (∀ m' c x sz, Sub m m' → 0 < sz → (∀ i, i < L.length → sz * Sett.bi (rsOf L i) ≤ Sett.av (rsOf L) i x) → Bv 300 x → Q (.tup [c, .tup (vecD x), .non]) m') ∧
  (∀ m' c am, Sub m m' → Cert L am → Q (.tup [c, .non, .lst (am.map fun p => pairD (natP p))]) m')
/-! ### values -/
def isWhole : D → Bool
  | .int _ => true
  | _ => false
def wholeL (x : D) : Bool := match seqA x with
  | some ds => ds.all isWhole
  | none => false
def okT (x : D) : Prop := ∃ n, okD x n = true
def tame (x : D) : Prop := isTyped x = true ∧ isL x = (seqA x).isSome
def F_is_list : DFn := fun ds m Q _ => ∃ x, ds = [x] ∧ tame x ∧ Q (.bl (seqA x).isSome) m
def F_is_whole : DFn := fun ds m Q _ => ∃ x, ds = [x] ∧ (okT x ∨ ∃ i, x = .int i) ∧ Q (.bl (isWhole x)) m
def F_is_whole_list : DFn := fun ds m Q _ => ∃ x, ds = [x] ∧ (okT x ∨ ∃ ns, x = .tup (intL ns) ∧ ns.length ≤ 1000) ∧ Q (.bl (wholeL x)) m
def inB (lo hi : Int) : D → Bool
  | .int i => decide (lo ≤ i) && decide (i ≤ hi)
  | _ => false
def F_is_integer : DFn := fun ds m Q _ => ∃ x lo hi, ds = [x, .int lo, .int hi] ∧ okT x ∧ Q (.bl (inB lo hi x)) m
def costN : D → Bool
  | .int i => decide (1 ≤ i)
  | _ => false
def F_is_cost_number : DFn := fun ds m Q _ => ∃ x, ds = [x] ∧ okT x ∧ Q (.bl (costN x)) m
def gcdF (g : Nat) (ns : List Int) : Nat := ns.foldl (fun g n => Nat.gcd g n.natAbs) g
def scaledI (ns : List Int) : List Int := if gcdF 0 ns = 0 then ns else ns.map fun n => n / ((gcdF 0 ns : Nat) : Int)
def F_scaled : DFn := fun ds m Q _ => ∃ ns, ds = [.tup (intL ns)] ∧ ns.length ≤ 1000 ∧ (∀ n ∈ ns, Sett.Bd 600 n) ∧ Q (.tup (intL (scaledI ns))) m
def dotL (ns ks : List Int) : Int := ((ns.zip ks).map fun p => p.1 * p.2).sum
def F_weighed : DFn := fun ds m Q _ => ∃ x y ns ks, ds = [x, y] ∧ seqA x = some (intL ns) ∧ seqA y = some (intL ks) ∧ ns.length ≤ 1000 ∧ (∀ n ∈ ns, Sett.Bd 600 n) ∧ (∀ n ∈ ks, Sett.Bd 600 n) ∧ Q (.int (dotL ns ks)) m
/-- a row for so many costs -/
def numRow (many : Int) (x : D) : Bool := match seqA x with
  | some [a, .bl _] => (match seqA a with
    | some ns => ns.all isWhole && decide ((ns.length : Int) = many)
    | none => false)
  | _ => false
def F_is_number_row : DFn := fun ds m Q _ => ∃ many x, ds = [.int many, x] ∧ okT x ∧ Q (.bl (numRow many x)) m
inductive Fl where
  | part (x : D) | row (x : D) | integer (x : D)
def Fl.xn : Fl → Xn
  | .part x => ⟨"InvalidPart", "value", x⟩
  | .row x => ⟨"InvalidRow", "value", x⟩
  | .integer x => ⟨"InvalidInteger", "value", x⟩
def Fl.told : Fl → List D
  | .part x => [.str (Str.ofString "part"), x]
  | .row x => [.str (Str.ofString "row"), x]
  | .integer x => [.str (Str.ofString "integer"), x]
def dueL (many : Int) : List D → Option Fl
  | [] => none
  | x :: xs => if numRow many x = true then dueL many xs else some (.row x)
def dueRows (many rows : D) : Option Fl := match many with
  | .int k => if 1 ≤ k ∧ k ≤ 4 then (match seqA rows with
    | none => some (.part rows)
    | some ds => dueL k ds) else some (.integer many)
  | _ => some (.integer many)
def F_check_number_rows : DFn := fun ds m Q Qx => ∃ many rows, ds = [many, rows] ∧ okT many ∧ okT rows ∧ (match dueRows many rows with
  | none => Q .non m
  | some f => Qx f.xn m)
/-- numbers and strict, read off a row -/
def decRow (x : D) : List Int × Bool := match seqA x with
  | some [a, .bl s] => (match seqA a with
    | some ds => (ds.map fun | .int i => i | _ => 0, s)
    | none => ([], s))
  | _ => ([], false)
def rowsOf (x : D) : List (List Int × Bool) := ((seqA x).getD []).map decRow
def dueKeeps (ns row : D) : Option Fl := match seqA ns with
  | none => some (.part ns)
  | some ds => if 1 ≤ ds.length ∧ ds.length ≤ 4 then (if ds.all costN = true then (if numRow ds.length row = true then none else some (.row row)) else some (.part ns)) else some (.part ns)
def intsOf (x : D) : List Int := ((seqA x).getD []).map fun | .int i => i | _ => 0
def F_keeps : DFn := fun ds m Q Qx => ∃ ns row, ds = [ns, row] ∧ okT ns ∧ okT row ∧ (match dueKeeps ns row with
  | none => Q (.bl (decide ((if (decRow row).2 then 1 else 0 : Int) ≤ dotL (decRow row).1 (intsOf ns)))) m
  | some f => Qx f.xn m)
/-! settle: rows padded, the unit rows behind them -/
def rwOf (p : List Int × Bool) : Sett.Rw := ⟨fun j => (pad4 p.1).getD j 0, p.2⟩
def unitR (q : Nat) : Sett.Rw := ⟨fun j => if j = q then 1 else 0, true⟩
def units : List Sett.Rw := [unitR 0, unitR 1, unitR 2, unitR 3]
/-- what settle tells of its numbers: positive, all rows kept -/
structure KeepR (R : List (List Int × Bool)) (sz : Int) (x : Nat → Int) : Prop where
  pos : 0 < sz
  row : ∀ r ∈ R, sz * Sett.bi (rwOf r) ≤ Adj.s4 fun p => (rwOf r).v p * x p
  unit : ∀ p, p < 4 → sz ≤ x p
structure GoodCosts (many : Nat) (R : List (List Int × Bool)) (x : Nat → Int) : Prop where
  pos : ∀ p, p < 4 → 0 < x p
  keep : ∃ sz, KeepR R sz x
def amOf (am : List (Nat × Int)) (i : Nat) : Int := (am.lookup i).getD 0
def F_settle : DFn := fun ds m Q Qx => ∃ many rows, ds = [many, rows] ∧ okT many ∧ okT rows ∧ (match dueRows many rows with
  | none => (∀ r ∈ rowsOf rows, ∀ n ∈ r.1, Sett.Bd 60 n) ∧ (rowsOf rows).length ≤ 900 ∧ ∀ k : Nat, many = .int (k : Nat) →
    (∀ m' x, Sub m m' → GoodCosts k (rowsOf rows) x → Bv 300 x → Q (.tup [.str (Str.ofString "costs"), .tup (intL (scaledI ((List.range k).map x)))]) m') ∧
    (∀ m' am, Sub m m' → Cert ((rowsOf rows).map rwOf ++ units) am → Q (.tup [.str (Str.ofString "sum"), .tup (intL (scaledI ((List.range (rowsOf rows).length).map (amOf am))))]) m')
  | some f => Qx f.xn m)
def colSum (R : List (List Int × Bool)) (as : List Int) (q : Nat) : Int := ((as.zip R).map fun p => p.1 * p.2.1.getD q 0).sum
def F_summed : DFn := fun ds m Q _ => ∃ (k : Nat) (rows : D) (as : List Int), ds = [.int (k : Nat), rows, .tup (intL as)] ∧ k ≤ 4 ∧ (∃ rl, seqA rows = some rl ∧ dueL k rl = none ∧ okT rows ∧ rl.length ≤ 900) ∧ (∀ n ∈ as, Sett.Bd 600 n) ∧ as.length ≤ 900 ∧
  Q (.lst (intL ((List.range k).map (colSum (rowsOf rows) as)))) m
/-- amounts that show that no integers keep all rows -/
def showsB (k : Nat) (R : List (List Int × Bool)) : D → Bool
  | .tup ds => decide (ds.length = R.length) && ds.all (fun | .int i => decide (0 ≤ i) | _ => false) && ((List.range k).all fun q => decide (colSum R (intsOf (.tup ds)) q ≤ 0)) &&
    (((List.range k).any fun q => decide (colSum R (intsOf (.tup ds)) q < 0)) || ((intsOf (.tup ds)).zip R).any fun p => p.2.2 && decide (0 < p.1))
  | _ => false
/-- amounts that the judge takes: integers that are not endless -/
def okAm (x : D) : Prop := okT x ∨ ∃ ds, (x = .tup ds ∨ x = .lst ds) ∧ ds.length ≤ 900 ∧ ∀ d ∈ ds, okD d 0 = true ∨ ∃ i, d = .int i ∧ Sett.Bd 600 i
def F_shows_sum : DFn := fun ds m Q Qx => ∃ many rows x, ds = [many, rows, x] ∧ okT many ∧ okT rows ∧ (match dueRows many rows with
  | none => okAm x ∧ (rowsOf rows).length ≤ 900 ∧ ∀ k : Nat, many = .int (k : Nat) → Q (.bl (showsB k (rowsOf rows) x)) m
  | some f => Qx f.xn m)
def d_UNIT_COLUMNS : D := (.tup [(.tup [(.int 1), (.int 0), (.int 0), (.int 0)]), (.tup [(.int 0), (.int 1), (.int 0), (.int 0)]), (.tup [(.int 0), (.int 0), (.int 1), (.int 0)]), (.tup [(.int 0), (.int 0), (.int 0), (.int 1)])])
def d_UNIT_ROWS : D := (.tup [(.tup [(.int 1), (.int 0), (.int 0), (.int 0), (.int 1)]), (.tup [(.int 0), (.int 1), (.int 0), (.int 0), (.int 1)]), (.tup [(.int 0), (.int 0), (.int 1), (.int 0), (.int 1)]), (.tup [(.int 0), (.int 0), (.int 0), (.int 1), (.int 1)])])
def w_in_four : WS := (sSeq (sSet 1 (wTup (wStar (wVar 0) (wCons (wC (.int 0)) (wCons (wC (.int 0)) (wCons (wC (.int 0)) (wCons (wC (.int 0)) wNil))))))) (sRet (wSl (wVar 1) wNoPart (wPart (wC (.int 4))))))
def w_unit_corner : WS := (sRet (wTup (wCons (wC d_UNIT_COLUMNS) (wCons (wTup (wCons (wVar 0) (wCons (wOp dAdd (wVar 0) (wC (.int 1))) (wCons (wOp dAdd (wVar 0) (wC (.int 2))) (wCons (wOp dAdd (wVar 0) (wC (.int 3))) wNil))))) (wCons (wC (.int 1)) wNil)))))
def w_point_of : WS := (sSeq (sUnp 3 (gvCons (gvName 2) (gvCons (gvName 3) (gvCons (gvName 4) gvNil))) (wVar 1)) (sSeq (sAsg4 (gvName 5) (gvName 6) (gvName 7) (gvName 8) (wC (.int 0))) (sSeq (sFor (iZipX (wCons (wVar 3) (wCons (wVar 2) wNil))) (gvTup 2 (gvCons (gvName 9) (gvCons (gvName 10) gvNil))) (sIf (wTru (wOp dIx (wOp dIx (wVar 0) (wVar 9)) (wC (.int 4)))) (sSeq (sAug 5 dAddI (wOp dIx (wVar 10) (wC (.int 0)))) (sSeq (sAug 6 dAddI (wOp dIx (wVar 10) (wC (.int 1)))) (sSeq (sAug 7 dAddI (wOp dIx (wVar 10) (wC (.int 2)))) (sAug 8 dAddI (wOp dIx (wVar 10) (wC (.int 3))))))) sNext)) (sRet (wTup (wCons (wVar 5) (wCons (wVar 6) (wCons (wVar 7) (wCons (wVar 8) wNil)))))))))
def w_first_missed : WS := (sSeq (sUnp 4 (gvCons (gvName 3) (gvCons (gvName 4) (gvCons (gvName 5) (gvCons (gvName 6) gvNil)))) (wVar 1)) (sSeq (sFor (iEnumB (wCons (wVar 0) wNil)) (gvTup 2 (gvCons (gvName 7) (gvCons (gvTup 5 (gvCons (gvName 8) (gvCons (gvName 9) (gvCons (gvName 10) (gvCons (gvName 11) (gvCons (gvName 12) gvNil)))))) gvNil))) (sIf (wTest (wOp dLt (wOp dAdd (wOp dAdd (wOp dAdd (wOp dMul (wVar 8) (wVar 3)) (wOp dMul (wVar 9) (wVar 4))) (wOp dMul (wVar 10) (wVar 5))) (wOp dMul (wVar 11) (wVar 6))) (wOp dMul (wVar 12) (wVar 2)))) (sRet (wVar 7)) sNext)) (sRet (wC .non))))
def w_weights_of : WS := (sSeq (sUnp 5 (gvCons (gvName 2) (gvCons (gvName 3) (gvCons (gvName 4) (gvCons (gvName 5) (gvCons (gvName 6) gvNil))))) (wVar 0)) (sRet (wLc (iTp (wVar 1)) (gvTup 4 (gvCons (gvName 7) (gvCons (gvName 8) (gvCons (gvName 9) (gvCons (gvName 10) gvNil))))) tvYes (wOp dAdd (wOp dAdd (wOp dAdd (wOp dMul (wVar 7) (wVar 2)) (wOp dMul (wVar 8) (wVar 3))) (wOp dMul (wVar 9) (wVar 4))) (wOp dMul (wVar 10) (wVar 5))) [7, 8, 9, 10])))
def w_leaving_place : WS := (sSeq (sSet 2 (wLc (iEnumB (wCons (wVar 0) wNil)) (gvTup 2 (gvCons (gvName 3) (gvCons (gvName 4) gvNil))) (wTest (wOp dGt (wOp dIx (wVar 1) (wVar 3)) (wC (.int 0)))) (wTup (wCons (wVar 4) (wCons (wVar 3) wNil))) [3, 4])) (sRet (wIf (wTru (wVar 2)) (wOp dIx (wBi dMinP (wCons (wVar 2) wNil)) (wC (.int 1))) (wC .non))))
def w_exchanged : WS := (sSeq (sUnp 3 (gvCons (gvName 4) (gvCons (gvName 5) (gvCons (gvName 6) gvNil))) (wVar 0)) (sSeq (sSet 7 (wOp dIx (wVar 2) (wVar 3))) (sSeq (sUnp 4 (gvCons (gvName 8) (gvCons (gvName 9) (gvCons (gvName 10) (gvCons (gvName 11) gvNil)))) (wOp dIx (wVar 4) (wVar 3))) (sSeq (sSet 12 (wOwn wNil)) (sSeq (sFor (iZipX (wCons (wVar 4) (wCons (wVar 2) wNil))) (gvTup 2 (gvCons (gvTup 4 (gvCons (gvName 13) (gvCons (gvName 14) (gvCons (gvName 15) (gvCons (gvName 16) gvNil))))) (gvCons (gvName 17) gvNil))) (sAppend (wVar 12) (wCons (wTup (wCons (wOp dDiv (wOp dSub (wOp dMul (wVar 7) (wVar 13)) (wOp dMul (wVar 17) (wVar 8))) (wVar 6)) (wCons (wOp dDiv (wOp dSub (wOp dMul (wVar 7) (wVar 14)) (wOp dMul (wVar 17) (wVar 9))) (wVar 6)) (wCons (wOp dDiv (wOp dSub (wOp dMul (wVar 7) (wVar 15)) (wOp dMul (wVar 17) (wVar 10))) (wVar 6)) (wCons (wOp dDiv (wOp dSub (wOp dMul (wVar 7) (wVar 16)) (wOp dMul (wVar 17) (wVar 11))) (wVar 6)) wNil))))) wNil))) (sSeq (sPut (wVar 12) (wVar 3) (wOp dIx (wVar 4) (wVar 3))) (sRet (wTup (wCons (wBi dTupleM (wCons (wVar 12) wNil)) (wCons (wTup (wStar (wSl (wVar 5) wNoPart (wPart (wVar 3))) (wCons (wVar 1) (wStar (wSl (wVar 5) (wPart (wOp dAdd (wVar 3) (wC (.int 1)))) wNoPart) wNil)))) (wCons (wVar 7) wNil)))))))))))
def w_is_list : WS := (sRet (wIsiT (wVar 0) ["list", "tuple"]))
def w_is_whole : WS := (sRet (wAnd (wBi dIsi (wCons (wVar 0) (wCons (wC (.ty "int")) wNil))) (wNot (wBi dIsi (wCons (wVar 0) (wCons (wC (.ty "bool")) wNil))))))
def w_weighed : WS := (sRet (wBi dSum (wCons (wLc (iZipX (wCons (wVar 0) (wCons (wVar 1) wNil))) (gvTup 2 (gvCons (gvName 2) (gvCons (gvName 3) gvNil))) tvYes (wOp dMul (wVar 2) (wVar 3)) [2, 3]) wNil)))
def w_summed : WS := (sRet (wLc (iRg1 (wCons (wVar 0) wNil)) (gvName 3) tvYes (wBi dSum (wCons (wLc (iZipX (wCons (wVar 2) (wCons (wVar 1) wNil))) (gvTup 2 (gvCons (gvName 4) (gvCons (gvName 5) gvNil))) tvYes (wOp dMul (wVar 4) (wOp dIx (wOp dIx (wVar 5) (wC (.int 0))) (wVar 3))) [4, 5]) wNil)) [3]))
def w_row_in_four : WS := (sRet (wTup (wStar (wCall F_in_four (wCons (wVar 0) wNil)) (wCons (wIf (wTest (wVar 1)) (wC (.int 1)) (wC (.int 0))) wNil))))
def w_settled : WS := (sWhile (wTest (wC (.bl true))) (sSeq (sSet 2 (wCall F_point_of (wCons (wVar 0) (wCons (wVar 1) wNil)))) (sSeq (sSet 3 (wCall F_first_missed (wCons (wVar 0) (wCons (wVar 2) (wCons (wOp dIx (wVar 1) (wC (.int 2))) wNil))))) (sSeq (sIf (wTest (wOp (dIsB false) (wVar 3) (wC .non))) (sRet (wTup (wCons (wVar 1) (wCons (wVar 2) (wCons (wC .non) wNil))))) sNext) (sSeq (sSet 4 (wCall F_weights_of (wCons (wOp dIx (wVar 0) (wVar 3)) (wCons (wOp dIx (wVar 1) (wC (.int 0))) wNil)))) (sSeq (sSet 5 (wCall F_leaving_place (wCons (wOp dIx (wVar 1) (wC (.int 1))) (wCons (wVar 4) wNil)))) (sSeq (sIf (wTest (wOp (dIsB false) (wVar 5) (wC .non))) (sSeq (sSet 6 (wLc (iZipX (wCons (wOp dIx (wVar 1) (wC (.int 1))) (wCons (wVar 4) wNil))) (gvTup 2 (gvCons (gvName 7) (gvCons (gvName 8) gvNil))) (wTest (wOp dLt (wVar 8) (wC (.int 0)))) (wTup (wCons (wVar 7) (wCons (wNeg (wVar 8)) wNil))) [7, 8])) (sRet (wTup (wCons (wVar 1) (wCons (wC .non) (wCons (wLst (wCons (wTup (wCons (wVar 3) (wCons (wOp dIx (wVar 1) (wC (.int 2))) wNil))) (wStar (wVar 6) wNil))) wNil)))))) sNext) (sSet 1 (wCall F_exchanged (wCons (wVar 1) (wCons (wVar 3) (wCons (wVar 4) (wCons (wVar 5) wNil)))))))))))))
def w_is_whole_list : WS := (sRet (wAnd (wCall F_is_list (wCons (wVar 0) wNil)) (wBi (dBls fun bs => bs.all id) (wCons (wLc (iVar 0) (gvName 1) tvYes (wCall F_is_whole (wCons (wVar 1) wNil)) [1]) wNil))))
def w_is_integer : WS := (sRet (wAnd (wCall F_is_whole (wCons (wVar 0) wNil)) (wChain dLe dLe (wVar 1) (wVar 0) (wVar 2))))
def w_is_cost_number : WS := (sRet (wAnd (wCall F_is_whole (wCons (wVar 0) wNil)) (wOp dGe (wVar 0) (wC (.int 1)))))
def w_scaled : WS := (sSeq (sIf (tvNot (wTest (wCall F_is_whole_list (wCons (wVar 0) wNil)))) (sRaise "InvalidPart" "value" (wVar 0)) sNext) (sSeq (sSet 1 (wC (.int 0))) (sSeq (sFor (iVar 0) (gvName 2) (sSet 1 (wBi dGcd (wCons (wVar 1) (wCons (wVar 2) wNil))))) (sSeq (sIf (wTest (wOp dEq (wVar 1) (wC (.int 0)))) (sRet (wBi dTupleM (wCons (wVar 0) wNil))) sNext) (sRet (wBi dTupleM (wCons (wLc (iVar 0) (gvName 2) tvYes (wOp dDiv (wVar 2) (wVar 1)) [2]) wNil)))))))
def w_is_number_row : WS := (sSeq (sIf (tvOr (tvNot (wTest (wCall F_is_list (wCons (wVar 1) wNil)))) (tvOr (wTest (wOp dNe (wBi dLen (wCons (wVar 1) wNil)) (wC (.int 2)))) (tvNot (wTest (wBi dIsi (wCons (wOp dIx (wVar 1) (wC (.int 1))) (wCons (wC (.ty "bool")) wNil))))))) (sRet (wC (.bl false))) sNext) (sRet (wAnd (wCall F_is_whole_list (wCons (wOp dIx (wVar 1) (wC (.int 0))) wNil)) (wOp dEq (wBi dLen (wCons (wOp dIx (wVar 1) (wC (.int 0))) wNil)) (wVar 0)))))
def w_check_number_rows : WS := (sSeq (sIf (tvNot (wTest (wCall F_is_integer (wCons (wVar 0) (wCons (wC (.int 1)) (wCons (wC (.int 4)) wNil)))))) (sRaise "InvalidInteger" "value" (wVar 0)) sNext) (sSeq (sIf (tvNot (wTest (wCall F_is_list (wCons (wVar 1) wNil)))) (sRaise "InvalidPart" "value" (wVar 1)) sNext) (sFor (iVar 1) (gvName 2) (sIf (tvNot (wTest (wCall F_is_number_row (wCons (wVar 0) (wCons (wVar 2) wNil))))) (sRaise "InvalidRow" "value" (wVar 2)) sNext))))
def w_keeps : WS := (sSeq (sIf (tvOr (tvNot (wTest (wCall F_is_list (wCons (wVar 0) wNil)))) (tvNot (wTest (wChain dLe dLe (wC (.int 1)) (wBi dLen (wCons (wVar 0) wNil)) (wC (.int 4)))))) (sRaise "InvalidPart" "value" (wVar 0)) sNext) (sSeq (sIf (tvNot (wTest (wBi (dBls fun bs => bs.all id) (wCons (wLc (iVar 0) (gvName 2) tvYes (wCall F_is_cost_number (wCons (wVar 2) wNil)) [2]) wNil)))) (sRaise "InvalidPart" "value" (wVar 0)) sNext) (sSeq (sIf (tvNot (wTest (wCall F_is_number_row (wCons (wBi dLen (wCons (wVar 0) wNil)) (wCons (wVar 1) wNil))))) (sRaise "InvalidRow" "value" (wVar 1)) sNext) (sRet (wOp dGe (wCall F_weighed (wCons (wOp dIx (wVar 1) (wC (.int 0))) (wCons (wVar 0) wNil))) (wIf (wTest (wOp dIx (wVar 1) (wC (.int 1)))) (wC (.int 1)) (wC (.int 0))))))))
def w_settle : WS := (sSeq (sDrop (wCallX F_check_number_rows (wCons (wVar 0) (wCons (wVar 1) wNil)))) (sSeq (sSet 2 (wOp dAdd (wLc (iVar 1) (gvSeq 2 (gvCons (gvName 7) (gvCons (gvName 8) gvNil))) tvYes (wCall F_row_in_four (wCons (wVar 7) (wCons (wVar 8) wNil))) [7, 8]) (wBi dListM (wCons (wC d_UNIT_ROWS) wNil)))) (sSeq (sUnp 3 (gvCons (gvName 3) (gvCons (gvName 4) (gvCons (gvName 5) gvNil))) (wCall F_settled (wCons (wVar 2) (wCons (wCall F_unit_corner (wCons (wBi dLen (wCons (wVar 1) wNil)) wNil)) wNil)))) (sSeq (sIf (wTest (wOp (dIsB false) (wVar 5) (wC .non))) (sRet (wTup (wCons (wC (.str (Str.ofString "costs"))) (wCons (wCallX F_scaled (wCons (wSl (wVar 4) wNoPart (wPart (wVar 0))) wNil)) wNil)))) sNext) (sSeq (sSet 6 (wBi dDictP (wCons (wVar 5) wNil))) (sRet (wTup (wCons (wC (.str (Str.ofString "sum"))) (wCons (wCallX F_scaled (wCons (wBi dTupleM (wCons (wLc (iRg1 (wCons (wBi dLen (wCons (wVar 1) wNil)) wNil)) (gvName 9) tvYes (wGet2 (wVar 6) (wVar 9) (wC (.int 0))) [9]) wNil)) wNil)) wNil)))))))))
def w_shows_sum : WS := (sSeq (sDrop (wCallX F_check_number_rows (wCons (wVar 0) (wCons (wVar 1) wNil)))) (sSeq (sIf (tvOr (tvNot (wTest (wBi dIsi (wCons (wVar 2) (wCons (wC (.ty "tuple")) wNil))))) (wTest (wOp dNe (wBi dLen (wCons (wVar 2) wNil)) (wBi dLen (wCons (wVar 1) wNil))))) (sRet (wC (.bl false))) sNext) (sSeq (sIf (tvNot (wTest (wBi (dBls fun bs => bs.all id) (wCons (wLc (iTp (wVar 2)) (gvName 5) tvYes (wAnd (wCall F_is_whole (wCons (wVar 5) wNil)) (wOp dGe (wVar 5) (wC (.int 0)))) [5]) wNil)))) (sRet (wC (.bl false))) sNext) (sSeq (sSet 3 (wCall F_summed (wCons (wVar 0) (wCons (wVar 1) (wCons (wVar 2) wNil))))) (sSeq (sSet 4 (wBi (dBls fun bs => bs.any id) (wCons (wLc (iZipX (wCons (wVar 2) (wCons (wVar 1) wNil))) (gvTup 2 (gvCons (gvName 5) (gvCons (gvName 6) gvNil))) tvYes (wAnd (wOp dIx (wVar 6) (wC (.int 1))) (wOp dGt (wVar 5) (wC (.int 0)))) [5, 6]) wNil))) (sRet (wAnd (wOp dLe (wBi dMaxL (wCons (wVar 3) wNil)) (wC (.int 0))) (wOr (wOp dLt (wBi dMinL (wCons (wVar 3) wNil)) (wC (.int 0))) (wVar 4)))))))))
end K18
namespace K18
open PySem L2 XO DL GB
local macro_rules | `(tactic| walk_at "wg") => `(tactic| ((try dsimp only); (try rw [a_hold]); (try simp only [List.map_cons, List.map_nil, List.length_cons, List.length_nil, List.cons_append, List.nil_append, List.replicate_succ, List.replicate_zero, Nat.reduceAdd, Nat.reduceSub]); (try simp only [↓a_test, ↓a_v0, ↓a_s0, ↓a_g0, ↓a_v1, ↓a_s1, ↓a_g1, ↓a_v2, ↓a_s2, ↓a_g2, ↓a_v3, ↓a_s3, ↓a_g3, ↓a_v4, ↓a_s4, ↓a_g4, ↓a_v5, ↓a_s5, ↓a_g5, ↓a_v6, ↓a_s6, ↓a_g6, ↓a_v7, ↓a_s7, ↓a_g7, ↓a_v8, ↓a_s8, ↓a_g8, ↓a_v9, ↓a_s9, ↓a_g9, ↓a_v10, ↓a_s10, ↓a_g10, ↓a_v11, ↓a_s11, ↓a_g11, ↓a_v12, ↓a_s12, ↓a_g12, ↓a_v13, ↓a_s13, ↓a_g13, ↓a_v14, ↓a_s14, ↓a_g14, ↓a_v15, ↓a_s15, ↓a_g15, ↓a_v16, ↓a_s16, ↓a_g16, ↓a_v17, ↓a_s17, ↓a_g17, ↓a_v18, ↓a_s18, ↓a_g18, ↓a_v19, ↓a_s19, ↓a_g19, ↓a_v20, ↓a_s20, ↓a_g20, ↓a_v21, ↓a_s21, ↓a_g21, ↓a_v22, ↓a_s22, ↓a_g22, ↓a_v23, ↓a_s23, ↓a_g23, ↓a_v24, ↓a_s24, ↓a_g24, ↓a_v25, ↓a_s25, ↓a_g25, ↓a_v26, ↓a_s26, ↓a_g26, ↓a_v27, ↓a_s27, ↓a_g27, ↓a_star, ↓a_asg2, ↓a_asg4, ↓a_neg, ↓a_zipX, ↓a_callKX, ↓a_get2, ↓a_lcO, ↓a_popAt, ↓a_m0, ↓a_op, ↓a_c, ↓a_call, ↓a_callX, ↓a_call0, ↓a_nil, ↓a_cons, ↓a_bi, ↓a_tnot, ↓a_tor, ↓a_tand, ↓a_tru, ↓a_yes, ↓a_if, ↓a_and, ↓a_or, ↓a_not, ↓a_chain, ↓a_sl, ↓a_noPart, ↓a_part, ↓a_lst, ↓a_tup, ↓a_dct0, ↓a_own, ↓a_isT, ↓a_next, ↓a_seqH, ↓a_ret, ↓a_drop, ↓a_sif, ↓a_raise, ↓a_for, ↓a_iVar, ↓a_fld, ↓a_lc, ↓a_iEnumB, ↓a_iEnumS, ↓a_iSg, ↓a_iLst, ↓a_iTp, ↓a_join, ↓a_lenSet, ↓a_append, ↓a_put, ↓a_par, ↓a_unp, ↓a_meth, ↓a_make, ↓a_rg1, ↓a_gTup, ↓a_gNil, ↓a_gCons, ↓a_loopN, wipeD, List.map_cons, List.map_nil, List.length_cons, List.length_nil, List.cons_append, List.nil_append, List.replicate_succ, List.replicate_zero, List.append_nil, List.getElem?_cons_zero, List.getElem?_cons_succ, List.set_cons_zero, List.set_cons_succ, Nat.reduceAdd, Nat.reduceSub, Bool.not_true, Bool.not_false, reduceIte, Bool.false_eq_true, true_and])))
theorem len_intL (ns : List Int) : (intL ns).length = ns.length := List.length_map _
theorem intL_app (a b : List Int) : intL (a ++ b) = intL a ++ intL b := List.map_append
theorem cut4 (ns : List Int) : cutD (intL ns ++ [D.int 0, D.int 0, D.int 0, D.int 0]) none (some 4) = intL (pad4 ns) := by
  have e : intL ns ++ [D.int 0, D.int 0, D.int 0, D.int 0] = intL (ns ++ [0, 0, 0, 0]) := by rw [intL_app]; rfl
  unfold cutD
  rw [e]
  have e2 : HT.sIx (intL (ns ++ [0, 0, 0, 0])).length (intL (ns ++ [0, 0, 0, 0])).length (some 4) = 4 := by
    have h := HT.sIx_nat (intL (ns ++ [0, 0, 0, 0])).length (intL (ns ++ [0, 0, 0, 0])).length 4
    refine h.trans ?_
    rw [len_intL, List.length_append]
    exact Nat.min_eq_left (Nat.le_add_left _ _)
  rw [HT.sIx_none, List.drop_zero, e2, Nat.sub_zero]
  unfold pad4 intL
  rw [List.map_take]
theorem seqA_cases {x : D} {ds : List D} (h : seqA x = some ds) : x = .lst ds ∨ x = .tup ds := by
  cases x <;> first | (cases h; exact Or.inl rfl) | (cases h; exact Or.inr rfl) | cases h
theorem r_in_four : ∀ ds m Qd Qx, F_in_four ds m Qd Qx → w_in_four { nx := fun _ m' => Qd .non m', rt := Qd } (ds.map some ++ List.replicate (2 - ds.length) none) m := by
  rintro ds m Qd Qx ⟨x, ns, rfl, hx, hl, q⟩
  have fin : (intL ns ++ [D.int 0, D.int 0, D.int 0, D.int 0]).length ≤ sizeLine ∧ Qd (.tup (cutD (intL ns ++ [D.int 0, D.int 0, D.int 0, D.int 0]) none (some 4))) m := by
    refine ⟨small_line (by rw [List.length_append, len_intL]; show ns.length + 4 ≤ 1000; omega), ?_⟩
    rw [cut4]; exact q
  unfold w_in_four
  rcases seqA_cases hx with rfl | rfl
  · exact fin
  · exact fin
theorem r_row_in_four : ∀ ds m Qd Qx, F_row_in_four ds m Qd Qx → w_row_in_four { nx := fun _ m' => Qd .non m', rt := Qd } (ds.map some ++ List.replicate (2 - ds.length) none) m := by
  rintro ds m Qd Qx ⟨x, ns, s, rfl, hx, hl, q⟩
  unfold w_row_in_four
  refine ⟨x, ns, rfl, hx, hl, ?_⟩
  have e : intL (pad4 ns ++ [if s then 1 else 0]) = intL (pad4 ns) ++ [D.int (if s then 1 else 0)] := by rw [intL_app]; rfl
  rw [e] at q
  have hz : (intL (pad4 ns) ++ [D.int (if s then 1 else 0)]).length ≤ sizeLine := small_line (by rw [List.length_append, len_intL]; unfold pad4; rw [List.length_take]; show min _ _ + 1 ≤ 1000; omega)
  cases s <;> exact ⟨hz, q⟩
theorem cof_id : ∀ j p, j < 4 → p < 4 → Adj.cof idM j p = if j = p then 1 else 0 := by
  intro j p hj hp
  rcases Adj.lt4 hj with rfl | rfl | rfl | rfl <;> rcases Adj.lt4 hp with rfl | rfl | rfl | rfl <;> rfl
theorem det_id : Adj.det idM = 1 := rfl
theorem cols_id : D.tup (colsD idM) = d_UNIT_COLUMNS := rfl
theorem r_unit_corner : ∀ ds m Qd Qx, F_unit_corner ds m Qd Qx → w_unit_corner { nx := fun _ m' => Qd .non m', rt := Qd } (ds.map some ++ List.replicate (1 - ds.length) none) m := by
  rintro ds m Qd Qx ⟨k, rfl, q⟩
  unfold w_unit_corner
  have q : Qd (.tup [d_UNIT_COLUMNS, .tup [.int ((k + 0 : Nat) : Int), .int ((k + 1 : Nat) : Int), .int ((k + 2 : Nat) : Int), .int ((k + 3 : Nat) : Int)], .int 1]) m := q
  exact ⟨small_line (n := 4) (by decide), small_line (n := 3) (by decide), q⟩
theorem rs_at {L : List Sett.Rw} {i : Nat} (h : i < L.length) : L[i]? = some (rsOf L i) := by
  unfold rsOf
  rw [List.getD_eq_getElem?_getD, List.getElem?_eq_getElem h]
  rfl
theorem ix_row {L : List Sett.Rw} {i : Nat} {m : Mem} {Q : D → Mem → Prop} (h : i < L.length) (q : Q (rowD (rsOf L i)) m) : dIx (.lst (L.map rowD)) (.int (i : Nat)) m Q := by
  refine ⟨_, L2.atI_nat ?_, q⟩
  rw [List.getElem?_map, rs_at h]
  rfl
abbrev ptBody : WS := sIf (wTru (wOp dIx (wOp dIx (wVar 0) (wVar 9)) (wC (.int 4)))) (sSeq (sAug 5 dAddI (wOp dIx (wVar 10) (wC (.int 0)))) (sSeq (sAug 6 dAddI (wOp dIx (wVar 10) (wC (.int 1)))) (sSeq (sAug 7 dAddI (wOp dIx (wVar 10) (wC (.int 2)))) (sAug 8 dAddI (wOp dIx (wVar 10) (wC (.int 3))))))) sNext
theorem pt_turn {L : List Sett.Rw} {t j : Nat} {A : Adj.Mat} {a b c d : Int} {o1 o2 o3 o4 : Option D} {E : De} {m : Mem} (ht : t < L.length)
    (h : E.nx [some (.lst (L.map rowD)), o1, o2, o3, o4, some (.int (a + if (rsOf L t).s then Adj.cof A j 0 else 0)), some (.int (b + if (rsOf L t).s then Adj.cof A j 1 else 0)), some (.int (c + if (rsOf L t).s then Adj.cof A j 2 else 0)), some (.int (d + if (rsOf L t).s then Adj.cof A j 3 else 0)), some (.int (t : Nat)), some (colD A j)] m) :
    ptBody E [some (.lst (L.map rowD)), o1, o2, o3, o4, some (.int a), some (.int b), some (.int c), some (.int d), some (.int (t : Nat)), some (colD A j)] m := by
  unfold ptBody
  walk_at "wg"
  refine ix_row ht ?_
  cases e : (rsOf L t).s with
  | true =>
    rw [e] at h
    refine ⟨.int 1, by rw [e]; rfl, true, rfl, ?_⟩
    exact ⟨_, rfl, _, rfl, _, rfl, _, rfl, h⟩
  | false =>
    rw [e] at h
    refine ⟨.int 0, by rw [e]; rfl, false, rfl, ?_⟩
    have h : E.nx [some (.lst (L.map rowD)), o1, o2, o3, o4, some (.int (a + 0)), some (.int (b + 0)), some (.int (c + 0)), some (.int (d + 0)), some (.int (t : Nat)), some (colD A j)] m := h
    rw [Int.add_zero, Int.add_zero, Int.add_zero, Int.add_zero] at h
    exact h
theorem r_point_of : ∀ ds m Qd Qx, F_point_of ds m Qd Qx → w_point_of { nx := fun _ m' => Qd .non m', rt := Qd } (ds.map some ++ List.replicate (11 - ds.length) none) m := by
  rintro ds m Qd Qx ⟨L, A, t, rfl, ht, q⟩
  unfold w_point_of
  refine ⟨_, Or.inr (Or.inl rfl), rfl, _, _, rfl, _, _, rfl, _, _, rfl, rfl, ?_⟩
  refine ⟨_, _, _, _, rfl, rfl, rfl, ?_⟩
  refine ⟨rfl, _, _, rfl, _, _, rfl, rfl, pt_turn (ht 0 (by omega)) ?_⟩
  refine ⟨rfl, _, _, rfl, _, _, rfl, rfl, pt_turn (ht 1 (by omega)) ?_⟩
  refine ⟨rfl, _, _, rfl, _, _, rfl, rfl, pt_turn (ht 2 (by omega)) ?_⟩
  refine ⟨rfl, _, _, rfl, _, _, rfl, rfl, pt_turn (ht 3 (by omega)) ?_⟩
  refine ⟨small_line (n := 4) (by decide), ?_⟩
  have e : ∀ p, Sett.pt A (Sett.ssOf (rsOf L) t) p = 0 + (if (rsOf L (t 0)).s then Adj.cof A 0 p else 0) + (if (rsOf L (t 1)).s then Adj.cof A 1 p else 0) + (if (rsOf L (t 2)).s then Adj.cof A 2 p else 0) + (if (rsOf L (t 3)).s then Adj.cof A 3 p else 0) := by
    intro p
    rw [Int.zero_add]
    rfl
  unfold vecD at q
  rw [e, e, e, e] at q
  exact q

end K18
namespace K18
open PySem L2 XO DL GB
local macro_rules | `(tactic| walk_at "wg") => `(tactic| ((try dsimp only); (try rw [a_hold]); (try simp only [List.map_cons, List.map_nil, List.length_cons, List.length_nil, List.cons_append, List.nil_append, List.replicate_succ, List.replicate_zero, Nat.reduceAdd, Nat.reduceSub]); (try simp only [↓a_test, ↓a_v0, ↓a_s0, ↓a_g0, ↓a_v1, ↓a_s1, ↓a_g1, ↓a_v2, ↓a_s2, ↓a_g2, ↓a_v3, ↓a_s3, ↓a_g3, ↓a_v4, ↓a_s4, ↓a_g4, ↓a_v5, ↓a_s5, ↓a_g5, ↓a_v6, ↓a_s6, ↓a_g6, ↓a_v7, ↓a_s7, ↓a_g7, ↓a_v8, ↓a_s8, ↓a_g8, ↓a_v9, ↓a_s9, ↓a_g9, ↓a_v10, ↓a_s10, ↓a_g10, ↓a_v11, ↓a_s11, ↓a_g11, ↓a_v12, ↓a_s12, ↓a_g12, ↓a_v13, ↓a_s13, ↓a_g13, ↓a_v14, ↓a_s14, ↓a_g14, ↓a_v15, ↓a_s15, ↓a_g15, ↓a_v16, ↓a_s16, ↓a_g16, ↓a_v17, ↓a_s17, ↓a_g17, ↓a_v18, ↓a_s18, ↓a_g18, ↓a_v19, ↓a_s19, ↓a_g19, ↓a_v20, ↓a_s20, ↓a_g20, ↓a_v21, ↓a_s21, ↓a_g21, ↓a_v22, ↓a_s22, ↓a_g22, ↓a_v23, ↓a_s23, ↓a_g23, ↓a_v24, ↓a_s24, ↓a_g24, ↓a_v25, ↓a_s25, ↓a_g25, ↓a_v26, ↓a_s26, ↓a_g26, ↓a_v27, ↓a_s27, ↓a_g27, ↓a_star, ↓a_asg2, ↓a_asg4, ↓a_neg, ↓a_zipX, ↓a_callKX, ↓a_get2, ↓a_lcO, ↓a_popAt, ↓a_m0, ↓a_op, ↓a_c, ↓a_call, ↓a_callX, ↓a_call0, ↓a_nil, ↓a_cons, ↓a_bi, ↓a_tnot, ↓a_tor, ↓a_tand, ↓a_tru, ↓a_yes, ↓a_if, ↓a_and, ↓a_or, ↓a_not, ↓a_chain, ↓a_sl, ↓a_noPart, ↓a_part, ↓a_lst, ↓a_tup, ↓a_dct0, ↓a_own, ↓a_isT, ↓a_next, ↓a_seqH, ↓a_ret, ↓a_drop, ↓a_sif, ↓a_raise, ↓a_for, ↓a_iVar, ↓a_fld, ↓a_lc, ↓a_iEnumB, ↓a_iEnumS, ↓a_iSg, ↓a_iLst, ↓a_iTp, ↓a_join, ↓a_lenSet, ↓a_append, ↓a_put, ↓a_par, ↓a_unp, ↓a_meth, ↓a_make, ↓a_rg1, ↓a_gTup, ↓a_gNil, ↓a_gCons, ↓a_loopN, wipeD, List.map_cons, List.map_nil, List.length_cons, List.length_nil, List.cons_append, List.nil_append, List.replicate_succ, List.replicate_zero, List.append_nil, List.getElem?_cons_zero, List.getElem?_cons_succ, List.set_cons_zero, List.set_cons_succ, Nat.reduceAdd, Nat.reduceSub, Bool.not_true, Bool.not_false, reduceIte, Bool.false_eq_true, true_and])))
abbrev fmBody : WS := sIf (wTest (wOp dLt (wOp dAdd (wOp dAdd (wOp dAdd (wOp dMul (wVar 8) (wVar 3)) (wOp dMul (wVar 9) (wVar 4))) (wOp dMul (wVar 10) (wVar 5))) (wOp dMul (wVar 11) (wVar 6))) (wOp dMul (wVar 12) (wVar 2)))) (sRet (wVar 7)) sNext
abbrev fmG : WG := gvTup 2 (gvCons (gvName 7) (gvCons (gvTup 5 (gvCons (gvName 8) (gvCons (gvName 9) (gvCons (gvName 10) (gvCons (gvName 11) (gvCons (gvName 12) gvNil)))))) gvNil))
theorem rs_mid {pre xs : List Sett.Rw} {r : Sett.Rw} : rsOf (pre ++ r :: xs) pre.length = r := by
  unfold rsOf
  rw [List.getD_eq_getElem?_getD, List.getElem?_append_right (Nat.le_refl _), Nat.sub_self]
  rfl
theorem strict_bd (s : Bool) : Sett.Bd 1 (if s then (1 : Int) else 0) := by
  cases s <;> (show _ < _; decide)
theorem fm_loop {L : List Sett.Rw} {x : Nat → Int} {sz : Int} {E : De} {m : Mem} {od o1 : Option D} (hL : BL L) (hx : Bv 500 x) (hs : Sett.Bd 500 sz)
    (hnone : (∀ i, i < L.length → sz * Sett.bi (rsOf L i) ≤ Sett.av (rsOf L) i x) → ∀ ρ, E.nx ρ m)
    (hsome : ∀ i, i < L.length → Sett.av (rsOf L) i x < sz * Sett.bi (rsOf L i) → (∀ k, k < i → sz * Sett.bi (rsOf L k) ≤ Sett.av (rsOf L) k x) → E.rt (.int (i : Nat)) m) :
    ∀ (xs pre : List Sett.Rw) (o7 o8 o9 o10 o11 o12 : Option D), L = pre ++ xs → (∀ k, k < pre.length → sz * Sett.bi (rsOf L k) ≤ Sett.av (rsOf L) k x) →
      wLoop fmG fmBody E (enumF pre.length (xs.map rowD)) [od, o1, some (.int sz), some (.int (x 0)), some (.int (x 1)), some (.int (x 2)), some (.int (x 3)), o7, o8, o9, o10, o11, o12] m
  | [], pre, _, _, _, _, _, _, e, hp => by
    rw [List.append_nil] at e
    subst e
    exact hnone hp _
  | r :: xs, pre, _, _, _, _, _, _, e, hp => by
    have hr : Bv 60 r.v := hL.2 r (by rw [e]; exact List.mem_append_right _ List.mem_cons_self)
    have er : rsOf L pre.length = r := by rw [e]; exact rs_mid
    have hlt : pre.length < L.length := by rw [e, List.length_append]; show pre.length < pre.length + (xs.length + 1); omega
    refine ⟨rfl, _, _, rfl, _, _, rfl, rfl, _, _, rfl, _, _, rfl, _, _, rfl, _, _, rfl, _, _, rfl, rfl, rfl, ?_⟩
    refine ⟨mul_ok (hr 0 (by omega)) (hx 0 (by omega)), mul_ok (hr 1 (by omega)) (hx 1 (by omega)), mul_ok (hr 2 (by omega)) (hx 2 (by omega)), mul_ok (hr 3 (by omega)) (hx 3 (by omega)), mul_ok (strict_bd r.s) hs, ?_⟩
    have ea : r.v 0 * x 0 + r.v 1 * x 1 + r.v 2 * x 2 + r.v 3 * x 3 = Sett.av (rsOf L) pre.length x := by
      unfold Sett.av
      rw [er]
      rfl
    have eb : (if r.s then (1 : Int) else 0) * sz = sz * Sett.bi (rsOf L pre.length) := by
      rw [er, Int.mul_comm]
      rfl
    show if decide (r.v 0 * x 0 + r.v 1 * x 1 + r.v 2 * x 2 + r.v 3 * x 3 < (if r.s then (1 : Int) else 0) * sz) = true then _ else _
    rw [ea, eb]
    refine ifb (fun c => ?_) (fun c => ?_)
    · exact hsome pre.length hlt (of_decide_eq_true c) hp
    · have c := of_decide_eq_false c
      have len : pre.length + 1 = (pre ++ [r]).length := by rw [List.length_append]; rfl
      show wLoop fmG fmBody E (enumF (pre.length + 1) (xs.map rowD)) _ m
      rw [len]
      refine fm_loop hL hx hs hnone hsome xs (pre ++ [r]) _ _ _ _ _ _ (by rw [List.append_assoc]; exact e) ?_
      intro k hk
      rw [← len] at hk
      rcases Nat.lt_or_ge k pre.length with h | h
      · exact hp k h
      · have : k = pre.length := by omega
        subst this
        omega
theorem r_first_missed : ∀ ds m Qd Qx, F_first_missed ds m Qd Qx → w_first_missed { nx := fun _ m' => Qd .non m', rt := Qd } (ds.map some ++ List.replicate (13 - ds.length) none) m := by
  rintro ds m Qd Qx ⟨L, x, sz, rfl, hL, hx, hs, h1, h2⟩
  unfold w_first_missed
  refine ⟨_, Or.inr (Or.inl rfl), rfl, _, _, rfl, _, _, rfl, _, _, rfl, _, _, rfl, rfl, ?_⟩
  show wLoop fmG fmBody _ (enumD (L.map rowD)) _ m
  rw [enumF_eq]
  exact fm_loop hL hx hs (fun k ρ => h1 k) h2 L [] _ _ _ _ _ _ rfl (fun k hk => absurd hk (Nat.not_lt_zero k))
def colC (C : Nat → Nat → Int) (j : Nat) : D := .tup (vecD (C j))
theorem weights_go {C : Nat → Nat → Int} {r : Sett.Rw} {m : Mem} {E : De} (bc : ∀ j p, Sett.Bd 183 (C j p)) (hr : Bv 60 r.v)
    (q : E.rt (.lst [.int (C 0 0 * r.v 0 + C 0 1 * r.v 1 + C 0 2 * r.v 2 + C 0 3 * r.v 3), .int (C 1 0 * r.v 0 + C 1 1 * r.v 1 + C 1 2 * r.v 2 + C 1 3 * r.v 3), .int (C 2 0 * r.v 0 + C 2 1 * r.v 1 + C 2 2 * r.v 2 + C 2 3 * r.v 3), .int (C 3 0 * r.v 0 + C 3 1 * r.v 1 + C 3 2 * r.v 2 + C 3 3 * r.v 3)]) m) :
    w_weights_of E [some (rowD r), some (.tup [colC C 0, colC C 1, colC C 2, colC C 3]), none, none, none, none, none, none, none, none, none] m := by
  unfold w_weights_of
  refine ⟨_, Or.inr (Or.inl rfl), rfl, _, _, rfl, _, _, rfl, _, _, rfl, _, _, rfl, _, _, rfl, rfl, ?_⟩
  have turn : ∀ j, (CMul (C j 0) (r.v 0) ∨ CMulW (C j 0) (r.v 0)) ∧ (CMul (C j 1) (r.v 1) ∨ CMulW (C j 1) (r.v 1)) ∧ (CMul (C j 2) (r.v 2) ∨ CMulW (C j 2) (r.v 2)) ∧ (CMul (C j 3) (r.v 3) ∨ CMulW (C j 3) (r.v 3)) :=
    fun j => ⟨mul_ok (bc j 0) (hr 0 (by omega)), mul_ok (bc j 1) (hr 1 (by omega)), mul_ok (bc j 2) (hr 2 (by omega)), mul_ok (bc j 3) (hr 3 (by omega))⟩
  walk_at "wg"
  refine ⟨(show 4 ≤ 1000000 by decide), ?_⟩
  refine lc_mpA (colC C) (fun j => .int (C j 0 * r.v 0 + C j 1 * r.v 1 + C j 2 * r.v 2 + C j 3 * r.v 3)) [0, 1, 2, 3] _ (fun j hj K k => ?_) q
  refine ⟨rfl, _, _, rfl, _, _, rfl, _, _, rfl, _, _, rfl, rfl, ?_⟩
  exact ⟨(turn j).1, (turn j).2.1, (turn j).2.2.1, (turn j).2.2.2, k⟩
theorem wt_flip {A : Adj.Mat} {r : Nat → Int} (j : Nat) : Adj.cof A j 0 * r 0 + Adj.cof A j 1 * r 1 + Adj.cof A j 2 * r 2 + Adj.cof A j 3 * r 3 = Adj.wt A r j := by
  unfold Adj.wt
  generalize Adj.cof A = C
  rw [Int.mul_comm (C j 0), Int.mul_comm (C j 1), Int.mul_comm (C j 2), Int.mul_comm (C j 3)]
  rfl
theorem r_weights_of : ∀ ds m Qd Qx, F_weights_of ds m Qd Qx → w_weights_of { nx := fun _ m' => Qd .non m', rt := Qd } (ds.map some ++ List.replicate (11 - ds.length) none) m := by
  rintro ds m Qd Qx ⟨r, A, rfl, hA, hr, q⟩
  unfold vecD at q
  rw [← wt_flip, ← wt_flip, ← wt_flip, ← wt_flip] at q
  have bc : ∀ j p, Sett.Bd 183 (Adj.cof A j p) := fun j p => Sett.Bd.cof hA j p
  have e : colsD A = [colC (Adj.cof A) 0, colC (Adj.cof A) 1, colC (Adj.cof A) 2, colC (Adj.cof A) 3] := rfl
  rw [e]
  generalize Adj.cof A = C at *
  exact weights_go bc hr q

end K18
namespace K18
open PySem L2 XO DL GB
local macro_rules | `(tactic| walk_at "wg") => `(tactic| ((try dsimp only); (try rw [a_hold]); (try simp only [List.map_cons, List.map_nil, List.length_cons, List.length_nil, List.cons_append, List.nil_append, List.replicate_succ, List.replicate_zero, Nat.reduceAdd, Nat.reduceSub]); (try simp only [↓a_test, ↓a_v0, ↓a_s0, ↓a_g0, ↓a_v1, ↓a_s1, ↓a_g1, ↓a_v2, ↓a_s2, ↓a_g2, ↓a_v3, ↓a_s3, ↓a_g3, ↓a_v4, ↓a_s4, ↓a_g4, ↓a_v5, ↓a_s5, ↓a_g5, ↓a_v6, ↓a_s6, ↓a_g6, ↓a_v7, ↓a_s7, ↓a_g7, ↓a_v8, ↓a_s8, ↓a_g8, ↓a_v9, ↓a_s9, ↓a_g9, ↓a_v10, ↓a_s10, ↓a_g10, ↓a_v11, ↓a_s11, ↓a_g11, ↓a_v12, ↓a_s12, ↓a_g12, ↓a_v13, ↓a_s13, ↓a_g13, ↓a_v14, ↓a_s14, ↓a_g14, ↓a_v15, ↓a_s15, ↓a_g15, ↓a_v16, ↓a_s16, ↓a_g16, ↓a_v17, ↓a_s17, ↓a_g17, ↓a_v18, ↓a_s18, ↓a_g18, ↓a_v19, ↓a_s19, ↓a_g19, ↓a_v20, ↓a_s20, ↓a_g20, ↓a_v21, ↓a_s21, ↓a_g21, ↓a_v22, ↓a_s22, ↓a_g22, ↓a_v23, ↓a_s23, ↓a_g23, ↓a_v24, ↓a_s24, ↓a_g24, ↓a_v25, ↓a_s25, ↓a_g25, ↓a_v26, ↓a_s26, ↓a_g26, ↓a_v27, ↓a_s27, ↓a_g27, ↓a_star, ↓a_asg2, ↓a_asg4, ↓a_neg, ↓a_zipX, ↓a_callKX, ↓a_get2, ↓a_lcO, ↓a_popAt, ↓a_m0, ↓a_op, ↓a_c, ↓a_call, ↓a_callX, ↓a_call0, ↓a_nil, ↓a_cons, ↓a_bi, ↓a_tnot, ↓a_tor, ↓a_tand, ↓a_tru, ↓a_yes, ↓a_if, ↓a_and, ↓a_or, ↓a_not, ↓a_chain, ↓a_sl, ↓a_noPart, ↓a_part, ↓a_lst, ↓a_tup, ↓a_dct0, ↓a_own, ↓a_isT, ↓a_next, ↓a_seqH, ↓a_ret, ↓a_drop, ↓a_sif, ↓a_raise, ↓a_for, ↓a_iVar, ↓a_fld, ↓a_lc, ↓a_iEnumB, ↓a_iEnumS, ↓a_iSg, ↓a_iLst, ↓a_iTp, ↓a_join, ↓a_lenSet, ↓a_append, ↓a_put, ↓a_par, ↓a_unp, ↓a_meth, ↓a_make, ↓a_rg1, ↓a_gTup, ↓a_gNil, ↓a_gCons, ↓a_loopN, wipeD, List.map_cons, List.map_nil, List.length_cons, List.length_nil, List.cons_append, List.nil_append, List.replicate_succ, List.replicate_zero, List.append_nil, List.getElem?_cons_zero, List.getElem?_cons_succ, List.set_cons_zero, List.set_cons_succ, Nat.reduceAdd, Nat.reduceSub, Bool.not_true, Bool.not_false, reduceIte, Bool.false_eq_true, true_and])))
theorem ws_at {ws : Nat → Int} {j : Nat} (hj : j < 4) : L2.atI (vecD ws) (j : Int) = some (.int (ws j)) := by
  refine L2.atI_nat ?_
  rcases Adj.lt4 hj with rfl | rfl | rfl | rfl <;> rfl
theorem r_leaving_place : ∀ ds m Qd Qx, F_leaving_place ds m Qd Qx → w_leaving_place { nx := fun _ m' => Qd .non m', rt := Qd } (ds.map some ++ List.replicate (5 - ds.length) none) m := by
  rintro ds m Qd Qx ⟨t, ws, rfl, q0, q1⟩
  unfold w_leaving_place
  walk_at "wg"
  refine ⟨(show 4 ≤ 1000000 by decide), ?_⟩
  refine lc_fmA (fun j : Nat => D.tup [.int (j : Nat), .int (t j : Nat)]) (fun j => decide (0 < ws j)) (fun j => pairD ((t j : Int), (j : Int))) [0, 1, 2, 3] [] _ (fun j hj K K' k1 k2 => ?_) ?_
  · have hj : j < 4 := by
      simp only [List.mem_cons, List.not_mem_nil, or_false] at hj
      omega
    refine ⟨rfl, _, _, rfl, _, _, rfl, rfl, ?_⟩
    refine ⟨_, ws_at hj, ?_⟩
    show if decide (0 < ws j) = true then _ else _
    refine ifb (fun c => ?_) (fun c => ?_)
    · exact ⟨small_line (n := 2) (by decide), k1 c⟩
    · exact k2 c
  · rw [List.nil_append]
    walk_at "wg"
    generalize hF : ([0, 1, 2, 3] : List Nat).filter (fun j => decide (0 < ws j)) = fl
    have mem : ∀ j, j ∈ fl ↔ j < 4 ∧ 0 < ws j := by
      intro j
      rw [← hF, List.mem_filter, decide_eq_true_eq]
      simp only [List.mem_cons, List.not_mem_nil, or_false]
      constructor
      · rintro ⟨h, h2⟩; exact ⟨by omega, h2⟩
      · rintro ⟨h, h2⟩; exact ⟨by omega, h2⟩
    refine ⟨_, rfl, ?_⟩
    cases fl with
    | nil =>
      refine q0 fun j hj => ?_
      rcases Int.lt_or_le 0 (ws j) with h | h
      · exact absurd ((mem j).mpr ⟨hj, h⟩) List.not_mem_nil
      · exact h
    | cons a fl =>
      show if true = true then _ else _
      rw [if_pos rfl]
      refine ⟨(a :: fl).map fun j => ((t j : Int), (j : Int)), by rw [List.map_map]; rfl, (fun z => by cases z), ?_⟩
      intro p hp hmin
      obtain ⟨l, hl, rfl⟩ := List.mem_map.mp hp
      obtain ⟨hl4, hlw⟩ := (mem l).mp hl
      refine ⟨.int (l : Nat), rfl, q1 l hl4 hlw fun j hj hjw => ?_⟩
      have := hmin _ (List.mem_map_of_mem (f := fun j : Nat => ((t j : Int), (j : Int))) ((mem j).mpr ⟨hj, hjw⟩))
      unfold pairLt at this
      simp only at this
      omega

end K18
namespace K18
open PySem L2 XO DL GB
local macro_rules | `(tactic| walk_at "wg") => `(tactic| ((try dsimp only); (try rw [a_hold]); (try simp only [List.map_cons, List.map_nil, List.length_cons, List.length_nil, List.cons_append, List.nil_append, List.replicate_succ, List.replicate_zero, Nat.reduceAdd, Nat.reduceSub]); (try simp only [↓a_test, ↓a_v0, ↓a_s0, ↓a_g0, ↓a_v1, ↓a_s1, ↓a_g1, ↓a_v2, ↓a_s2, ↓a_g2, ↓a_v3, ↓a_s3, ↓a_g3, ↓a_v4, ↓a_s4, ↓a_g4, ↓a_v5, ↓a_s5, ↓a_g5, ↓a_v6, ↓a_s6, ↓a_g6, ↓a_v7, ↓a_s7, ↓a_g7, ↓a_v8, ↓a_s8, ↓a_g8, ↓a_v9, ↓a_s9, ↓a_g9, ↓a_v10, ↓a_s10, ↓a_g10, ↓a_v11, ↓a_s11, ↓a_g11, ↓a_v12, ↓a_s12, ↓a_g12, ↓a_v13, ↓a_s13, ↓a_g13, ↓a_v14, ↓a_s14, ↓a_g14, ↓a_v15, ↓a_s15, ↓a_g15, ↓a_v16, ↓a_s16, ↓a_g16, ↓a_v17, ↓a_s17, ↓a_g17, ↓a_v18, ↓a_s18, ↓a_g18, ↓a_v19, ↓a_s19, ↓a_g19, ↓a_v20, ↓a_s20, ↓a_g20, ↓a_v21, ↓a_s21, ↓a_g21, ↓a_v22, ↓a_s22, ↓a_g22, ↓a_v23, ↓a_s23, ↓a_g23, ↓a_v24, ↓a_s24, ↓a_g24, ↓a_v25, ↓a_s25, ↓a_g25, ↓a_v26, ↓a_s26, ↓a_g26, ↓a_v27, ↓a_s27, ↓a_g27, ↓a_star, ↓a_asg2, ↓a_asg4, ↓a_neg, ↓a_zipX, ↓a_callKX, ↓a_get2, ↓a_lcO, ↓a_popAt, ↓a_m0, ↓a_op, ↓a_c, ↓a_call, ↓a_callX, ↓a_call0, ↓a_nil, ↓a_cons, ↓a_bi, ↓a_tnot, ↓a_tor, ↓a_tand, ↓a_tru, ↓a_yes, ↓a_if, ↓a_and, ↓a_or, ↓a_not, ↓a_chain, ↓a_sl, ↓a_noPart, ↓a_part, ↓a_lst, ↓a_tup, ↓a_dct0, ↓a_own, ↓a_isT, ↓a_next, ↓a_seqH, ↓a_ret, ↓a_drop, ↓a_sif, ↓a_raise, ↓a_for, ↓a_iVar, ↓a_fld, ↓a_lc, ↓a_iEnumB, ↓a_iEnumS, ↓a_iSg, ↓a_iLst, ↓a_iTp, ↓a_join, ↓a_lenSet, ↓a_append, ↓a_put, ↓a_par, ↓a_unp, ↓a_meth, ↓a_make, ↓a_rg1, ↓a_gTup, ↓a_gNil, ↓a_gCons, ↓a_loopN, wipeD, List.map_cons, List.map_nil, List.length_cons, List.length_nil, List.cons_append, List.nil_append, List.replicate_succ, List.replicate_zero, List.append_nil, List.getElem?_cons_zero, List.getElem?_cons_succ, List.set_cons_zero, List.set_cons_succ, Nat.reduceAdd, Nat.reduceSub, Bool.not_true, Bool.not_false, reduceIte, Bool.false_eq_true, true_and])))
abbrev exG : WG := gvTup 2 (gvCons (gvTup 4 (gvCons (gvName 13) (gvCons (gvName 14) (gvCons (gvName 15) (gvCons (gvName 16) gvNil))))) (gvCons (gvName 17) gvNil))
abbrev exBody : WS := sAppend (wVar 12) (wCons (wTup (wCons (wOp dDiv (wOp dSub (wOp dMul (wVar 7) (wVar 13)) (wOp dMul (wVar 17) (wVar 8))) (wVar 6)) (wCons (wOp dDiv (wOp dSub (wOp dMul (wVar 7) (wVar 14)) (wOp dMul (wVar 17) (wVar 9))) (wVar 6)) (wCons (wOp dDiv (wOp dSub (wOp dMul (wVar 7) (wVar 15)) (wOp dMul (wVar 17) (wVar 10))) (wVar 6)) (wCons (wOp dDiv (wOp dSub (wOp dMul (wVar 7) (wVar 16)) (wOp dMul (wVar 17) (wVar 11))) (wVar 6)) wNil))))) wNil)
def newC (C : Nat → Nat → Int) (W : Nat → Int) (d : Int) (l j : Nat) : D := .tup [.int ((W l * C j 0 - W j * C l 0) / d), .int ((W l * C j 1 - W j * C l 1) / d), .int ((W l * C j 2 - W j * C l 2) / d), .int ((W l * C j 3 - W j * C l 3) / d)]
theorem ex_turn {C : Nat → Nat → Int} {W : Nat → Int} {d : Int} {l j : Nat} {p : Addr} {acc : List D} {m : Mem} {E : De} {o0 o1 o2 o3 o4 o5 o13 o14 o15 o16 o17 : Option D}
    (bc : ∀ j p, Sett.Bd 183 (C j p)) (bw : ∀ j, Sett.Bd 245 (W j)) (hd : 0 < d) (bd : Sett.Bd 245 d) (hm : m p = some acc) (hl : acc.length ≤ 10)
    (h : ∀ o13 o14 o15 o16 o17, E.nx [o0, o1, o2, o3, o4, o5, some (.int d), some (.int (W l)), some (.int (C l 0)), some (.int (C l 1)), some (.int (C l 2)), some (.int (C l 3)), some (.box p), o13, o14, o15, o16, o17] (m.up p (acc ++ [newC C W d l j]))) :
    exG (.tup [colC C j, .int (W j)]) [o0, o1, o2, o3, o4, o5, some (.int d), some (.int (W l)), some (.int (C l 0)), some (.int (C l 1)), some (.int (C l 2)), some (.int (C l 3)), some (.box p), o13, o14, o15, o16, o17] fun ρ1 => exBody E ρ1 m := by
  refine ⟨rfl, _, _, rfl, rfl, _, _, rfl, _, _, rfl, _, _, rfl, _, _, rfl, rfl, _, _, rfl, rfl, ?_⟩
  have k : ∀ q, (CMul (W l) (C j q) ∨ CMulW (W l) (C j q)) ∧ (CMul (W j) (C l q) ∨ CMulW (W j) (C l q)) := fun q => ⟨mul_ok (bw l) (bc j q), mul_ok (bw j) (bc l q)⟩
  have dv : ∀ i, CDivW i d := fun i => wide_div hd bd (by decide) (by decide)
  refine ⟨by rw [hm]; rfl, ?_⟩
  refine ⟨(k 0).1, (k 0).2, dv _, (k 1).1, (k 1).2, dv _, (k 2).1, (k 2).2, dv _, (k 3).1, (k 3).2, dv _, small_line (n := 4) (by decide), ?_⟩
  exact ⟨_, acc, rfl, hm, Nat.lt_of_le_of_lt hl (by rw [sizeLine_eq]; decide), h _ _ _ _ _⟩
theorem ix_nat {ds : List D} {i : Nat} {d : D} {m : Mem} {Q : D → Mem → Prop} (h : ds[i]? = some d) (q : Q d m) : dIx (.tup ds) (.int (i : Nat)) m Q := ⟨d, L2.atI_nat h, q⟩
theorem ixL_nat {ds : List D} {i : Nat} {d : D} {m : Mem} {Q : D → Mem → Prop} (h : ds[i]? = some d) (q : Q d m) : dIx (.lst ds) (.int (i : Nat)) m Q := ⟨d, L2.atI_nat h, q⟩
theorem vec_at {W : Nat → Int} {l : Nat} (hl : l < 4) : (vecD W)[l]? = some (.int (W l)) := by
  rcases Adj.lt4 hl with rfl | rfl | rfl | rfl <;> rfl
theorem col_at {C : Nat → Nat → Int} {l : Nat} (hl : l < 4) : ([colC C 0, colC C 1, colC C 2, colC C 3] : List D)[l]? = some (colC C l) := by
  rcases Adj.lt4 hl with rfl | rfl | rfl | rfl <;> rfl
theorem sub_up {m : Mem} {p : Addr} {l : List D} (hp : m p = none) : Sub m (m.up p l) := by
  intro b ds h
  have : b ≠ p := fun z => by subst z; rw [hp] at h; cases h
  rw [Mem.up_ne this]; exact h
theorem tight_put {t : Nat → Nat} {l mi : Nat} (hl : l < 4) : cutD (tD t) none (some (l : Int)) ++ (.int (mi : Nat) :: (cutD (tD t) (some ((l : Int) + 1)) none ++ [])) = tD (Sett.put t l mi) := by
  rcases Adj.lt4 hl with rfl | rfl | rfl | rfl <;> rfl
theorem ex_loop {C : Nat → Nat → Int} {W : Nat → Int} {d : Int} {l : Nat} {p : Addr} {m : Mem} {E : De} {o0 o1 o2 o3 o4 o5 o13 o14 o15 o16 o17 : Option D}
    (bc : ∀ j p, Sett.Bd 183 (C j p)) (bw : ∀ j, Sett.Bd 245 (W j)) (hd : 0 < d) (bd : Sett.Bd 245 d)
    (h : ∀ o13 o14 o15 o16 o17, E.nx [o0, o1, o2, o3, o4, o5, some (.int d), some (.int (W l)), some (.int (C l 0)), some (.int (C l 1)), some (.int (C l 2)), some (.int (C l 3)), some (.box p), o13, o14, o15, o16, o17] (m.up p [newC C W d l 0, newC C W d l 1, newC C W d l 2, newC C W d l 3])) :
    wLoop exG exBody E [.tup [colC C 0, .int (W 0)], .tup [colC C 1, .int (W 1)], .tup [colC C 2, .int (W 2)], .tup [colC C 3, .int (W 3)]] [o0, o1, o2, o3, o4, o5, some (.int d), some (.int (W l)), some (.int (C l 0)), some (.int (C l 1)), some (.int (C l 2)), some (.int (C l 3)), some (.box p), o13, o14, o15, o16, o17] (m.up p []) := by
  refine ex_turn (j := 0) bc bw hd bd Mem.up_same (show 0 ≤ 10 by decide) fun _ _ _ _ _ => ?_
  refine ex_turn (j := 1) bc bw hd bd Mem.up_same (show 1 ≤ 10 by decide) fun _ _ _ _ _ => ?_
  refine ex_turn (j := 2) bc bw hd bd Mem.up_same (show 2 ≤ 10 by decide) fun _ _ _ _ _ => ?_
  refine ex_turn (j := 3) bc bw hd bd Mem.up_same (show 3 ≤ 10 by decide) fun _ _ _ _ _ => ?_
  rw [Mem.up_up, Mem.up_up, Mem.up_up, Mem.up_up]
  exact h _ _ _ _ _
theorem ex_go {C : Nat → Nat → Int} {W : Nat → Int} {t : Nat → Nat} {d : Int} {l mi : Nat} {m : Mem} {E : De} (bc : ∀ j p, Sett.Bd 183 (C j p)) (bw : ∀ j, Sett.Bd 245 (W j)) (hd : 0 < d) (bd : Sett.Bd 245 d) (hl : l < 4)
    (h : ∀ m', Sub m m' → E.rt (.tup [.tup ([newC C W d l 0, newC C W d l 1, newC C W d l 2, newC C W d l 3].set l (colC C l)), .tup (tD (Sett.put t l mi)), .int (W l)]) m') :
    w_exchanged E [some (.tup [.tup [colC C 0, colC C 1, colC C 2, colC C 3], .tup (tD t), .int d]), some (.int (mi : Nat)), some (.lst (vecD W)), some (.int (l : Nat)), none, none, none, none, none, none, none, none, none, none, none, none, none, none] m := by
  unfold w_exchanged
  walk_at "wg"
  refine ⟨_, Or.inr (Or.inl rfl), rfl, ?_⟩
  walk_at "wg"
  walk_at "wg"
  refine ixL_nat (vec_at hl) ?_
  walk_at "wg"
  refine ix_nat (col_at hl) ?_
  refine ⟨_, Or.inr (Or.inl rfl), rfl, _, _, rfl, _, _, rfl, _, _, rfl, _, _, rfl, rfl, ?_⟩
  walk_at "wg"
  refine ⟨small_line (n := 0) (by decide), fun p hp => ?_⟩
  walk_at "wg"
  refine ⟨_, _, _, _, rfl, rfl, rfl, ?_⟩
  refine ex_loop bc bw hd bd fun o13 o14 o15 o16 o17 => ?_
  walk_at "wg"
  refine ix_nat (col_at hl) ?_
  walk_at "wg"
  have i4 : ixN 4 (l : Int) = some l := by
    unfold ixN
    rw [if_pos (by omega), if_pos (by omega)]; simp
  refine ⟨_, l, Mem.up_same, i4, ?_⟩
  walk_at "wg"
  refine ⟨_, Mem.up_same, ?_⟩
  walk_at "wg"
  have ct := tight_put (t := t) (mi := mi) hl
  rw [List.append_nil] at ct
  refine ⟨?_, small_line (n := 3) (by decide), ?_⟩
  · rw [ct]; exact small_line (n := 4) (by decide)
  · rw [ct]
    exact h _ (fun b ds hb => by rw [Mem.up_up]; exact sub_up hp b ds hb)
theorem cols_new {A : Adj.Mat} {r : Nat → Int} {l : Nat} (hl : l < 4) (h0 : 0 < Adj.det A) (hw : 0 < Adj.wt A r l) :
    ([newC (Adj.cof A) (Adj.wt A r) (Adj.det A) l 0, newC (Adj.cof A) (Adj.wt A r) (Adj.det A) l 1, newC (Adj.cof A) (Adj.wt A r) (Adj.det A) l 2, newC (Adj.cof A) (Adj.wt A r) (Adj.det A) l 3].set l (colC (Adj.cof A) l)) = colsD (Adj.rep A l r) := by
  have k : ∀ j, j < 4 → j ≠ l → newC (Adj.cof A) (Adj.wt A r) (Adj.det A) l j = colD (Adj.rep A l r) j := by
    intro j hj hne
    unfold newC colD vecD
    rw [Adj.exchange_div hl hj (p := 0) (by omega) hne hw h0, Adj.exchange_div hl hj (p := 1) (by omega) hne hw h0, Adj.exchange_div hl hj (p := 2) (by omega) hne hw h0, Adj.exchange_div hl hj (p := 3) (by omega) hne hw h0]
  have kl : colC (Adj.cof A) l = colD (Adj.rep A l r) l := by
    unfold colC colD vecD
    rw [Adj.cof_rep hl, Adj.cof_rep hl, Adj.cof_rep hl, Adj.cof_rep hl]
  rw [kl]
  unfold colsD
  rcases Adj.lt4 hl with rfl | rfl | rfl | rfl
  · rw [k 1 (by omega) (by omega), k 2 (by omega) (by omega), k 3 (by omega) (by omega)]; rfl
  · rw [k 0 (by omega) (by omega), k 2 (by omega) (by omega), k 3 (by omega) (by omega)]; rfl
  · rw [k 0 (by omega) (by omega), k 1 (by omega) (by omega), k 3 (by omega) (by omega)]; rfl
  · rw [k 0 (by omega) (by omega), k 1 (by omega) (by omega), k 2 (by omega) (by omega)]; rfl
theorem r_exchanged : ∀ ds m Qd Qx, F_exchanged ds m Qd Qx → w_exchanged { nx := fun _ m' => Qd .non m', rt := Qd } (ds.map some ++ List.replicate (18 - ds.length) none) m := by
  rintro ds m Qd Qx ⟨A, t, r, l, mi, rfl, hl, h0, hw, hA, hr, q⟩
  have bc : ∀ j p, Sett.Bd 183 (Adj.cof A j p) := fun j p => Sett.Bd.cof hA j p
  have bw : ∀ j, Sett.Bd 245 (Adj.wt A r j) := fun j => Sett.Bd.wt hA hr j
  have e : cnD A t = .tup [.tup [colC (Adj.cof A) 0, colC (Adj.cof A) 1, colC (Adj.cof A) 2, colC (Adj.cof A) 3], .tup (tD t), .int (Adj.det A)] := rfl
  rw [e]
  refine ex_go (W := Adj.wt A r) bc bw h0 (Sett.Bd.det hA) hl fun m' hm => ?_
  have := q m' hm
  unfold cnD at this
  rw [Adj.det_rep hl] at this
  rw [cols_new hl h0 hw]
  exact this

end K18
namespace K18
open PySem L2 XO DL GB
local macro_rules | `(tactic| walk_at "wg") => `(tactic| ((try dsimp only); (try rw [a_hold]); (try simp only [List.map_cons, List.map_nil, List.length_cons, List.length_nil, List.cons_append, List.nil_append, List.replicate_succ, List.replicate_zero, Nat.reduceAdd, Nat.reduceSub]); (try simp only [↓a_test, ↓a_v0, ↓a_s0, ↓a_g0, ↓a_v1, ↓a_s1, ↓a_g1, ↓a_v2, ↓a_s2, ↓a_g2, ↓a_v3, ↓a_s3, ↓a_g3, ↓a_v4, ↓a_s4, ↓a_g4, ↓a_v5, ↓a_s5, ↓a_g5, ↓a_v6, ↓a_s6, ↓a_g6, ↓a_v7, ↓a_s7, ↓a_g7, ↓a_v8, ↓a_s8, ↓a_g8, ↓a_v9, ↓a_s9, ↓a_g9, ↓a_v10, ↓a_s10, ↓a_g10, ↓a_v11, ↓a_s11, ↓a_g11, ↓a_v12, ↓a_s12, ↓a_g12, ↓a_v13, ↓a_s13, ↓a_g13, ↓a_v14, ↓a_s14, ↓a_g14, ↓a_v15, ↓a_s15, ↓a_g15, ↓a_v16, ↓a_s16, ↓a_g16, ↓a_v17, ↓a_s17, ↓a_g17, ↓a_v18, ↓a_s18, ↓a_g18, ↓a_v19, ↓a_s19, ↓a_g19, ↓a_v20, ↓a_s20, ↓a_g20, ↓a_v21, ↓a_s21, ↓a_g21, ↓a_v22, ↓a_s22, ↓a_g22, ↓a_v23, ↓a_s23, ↓a_g23, ↓a_v24, ↓a_s24, ↓a_g24, ↓a_v25, ↓a_s25, ↓a_g25, ↓a_v26, ↓a_s26, ↓a_g26, ↓a_v27, ↓a_s27, ↓a_g27, ↓a_star, ↓a_asg2, ↓a_asg4, ↓a_neg, ↓a_zipX, ↓a_callKX, ↓a_get2, ↓a_lcO, ↓a_popAt, ↓a_m0, ↓a_op, ↓a_c, ↓a_call, ↓a_callX, ↓a_call0, ↓a_nil, ↓a_cons, ↓a_bi, ↓a_tnot, ↓a_tor, ↓a_tand, ↓a_tru, ↓a_yes, ↓a_if, ↓a_and, ↓a_or, ↓a_not, ↓a_chain, ↓a_sl, ↓a_noPart, ↓a_part, ↓a_lst, ↓a_tup, ↓a_dct0, ↓a_own, ↓a_isT, ↓a_next, ↓a_seqH, ↓a_ret, ↓a_drop, ↓a_sif, ↓a_raise, ↓a_for, ↓a_iVar, ↓a_fld, ↓a_lc, ↓a_iEnumB, ↓a_iEnumS, ↓a_iSg, ↓a_iLst, ↓a_iTp, ↓a_join, ↓a_lenSet, ↓a_append, ↓a_put, ↓a_par, ↓a_unp, ↓a_meth, ↓a_make, ↓a_rg1, ↓a_gTup, ↓a_gNil, ↓a_gCons, ↓a_loopN, wipeD, List.map_cons, List.map_nil, List.length_cons, List.length_nil, List.cons_append, List.nil_append, List.replicate_succ, List.replicate_zero, List.append_nil, List.getElem?_cons_zero, List.getElem?_cons_succ, List.set_cons_zero, List.set_cons_succ, Nat.reduceAdd, Nat.reduceSub, Bool.not_true, Bool.not_false, reduceIte, Bool.false_eq_true, true_and])))
theorem rs_mem {L : List Sett.Rw} {i : Nat} (h : i < L.length) : rsOf L i ∈ L := by
  unfold rsOf
  rw [List.getD_eq_getElem?_getD, List.getElem?_eq_getElem h]
  exact List.getElem_mem h
theorem BL.bm {L : List Sett.Rw} {t : Nat → Nat} {A : Adj.Mat} (b : BL L) (c : Sett.Cn L.length (rsOf L) t A) : Bm A := by
  intro i p hi hp
  rw [c.row i hi]
  exact b.2 _ (rs_mem (c.lt i hi)) p hp
theorem fil_sum (n : Nat → Bool) (g : Nat → Int) : ((([0, 1, 2, 3] : List Nat).filter n).map g).sum = Adj.s4 fun j => if n j = true then g j else 0 := by
  unfold Adj.s4
  simp only [List.filter_cons, List.filter_nil]
  cases n 0 <;> cases n 1 <;> cases n 2 <;> cases n 3 <;> simp <;> omega
theorem cert_of {L : List Sett.Rw} {t : Nat → Nat} {A : Adj.Mat} {r : Nat} (b : BL L) (c : Sett.Cn L.length (rsOf L) t A) (hr : r < L.length)
    (miss : Sett.av (rsOf L) r (Sett.pt A (Sett.ssOf (rsOf L) t)) < Adj.det A * Sett.bi (rsOf L r)) (low : ∀ j, j < 4 → Adj.wt A (rsOf L r).v j ≤ 0) :
    Cert L ((r, Adj.det A) :: (([0, 1, 2, 3] : List Nat).filter fun j => decide (Adj.wt A (rsOf L r).v j < 0)).map fun j => (t j, -Adj.wt A (rsOf L r).v j)) := by
  have hA := b.bm c
  have hv := b.2 _ (rs_mem hr)
  have bw : ∀ j, Sett.Bd 245 (Adj.wt A (rsOf L r).v j) := fun j => Sett.Bd.wt hA hv j
  have bd := Sett.Bd.det hA
  have out : ∀ j, j < 4 → t j ≠ r := by
    intro j hj e
    have h := c.ok.at_ (t j) (Sett.mem_tl.mpr ⟨j, hj, rfl⟩)
    rw [e] at h
    have h : Sett.av (rsOf L) r (Sett.pt A (Sett.ssOf (rsOf L) t)) = Adj.det A * Sett.bi (rsOf L r) := h
    omega
  have cp := Sett.cert_pos c miss
  have cs := fun q (hq : q < 4) => Sett.cert_sum (A := A) (r := (rsOf L r).v) hq
  generalize Adj.wt A (rsOf L r).v = w at *
  have lt4 : ∀ j ∈ ([0, 1, 2, 3] : List Nat), j < 4 := by
    intro j hj
    simp only [List.mem_cons, List.not_mem_nil, or_false] at hj
    omega
  have tot : ∀ f : Nat → Int, ((([0, 1, 2, 3] : List Nat).filter fun j => decide (w j < 0)).map fun j => -w j * f (t j)).sum = Adj.s4 fun j => -w j * f (t j) := by
    intro f
    rw [fil_sum]
    refine Adj.s4_congr fun j hj => ?_
    have := low j hj
    by_cases h : w j < 0
    · rw [if_pos (decide_eq_true h)]
    · rw [if_neg (by rw [decide_eq_false h]; exact Bool.false_ne_true)]
      have : w j = 0 := by omega
      rw [this]; simp
  refine ⟨?_, ?_, ?_, ?_, ?_⟩
  · rw [List.map_cons, List.map_map]
    refine List.nodup_cons.mpr ⟨fun h => ?_, ?_⟩
    · obtain ⟨j, hj, e⟩ := List.mem_map.mp h
      exact out j (lt4 j (List.mem_filter.mp hj).1) e
    · rw [List.Nodup, List.pairwise_map]
      refine List.Pairwise.imp_of_mem (R := fun i j => i ≠ j) ?_ (List.Nodup.sublist List.filter_sublist (by decide))
      intro i j hi hj hne
      exact c.ne (lt4 i (List.mem_filter.mp hi).1) (lt4 j (List.mem_filter.mp hj).1) hne
  · intro p hp
    rcases List.mem_cons.mp hp with rfl | hp
    · exact ⟨hr, c.pos, bd.up (by decide)⟩
    · obtain ⟨j, hj, rfl⟩ := List.mem_map.mp hp
      obtain ⟨h1, h2⟩ := List.mem_filter.mp hj
      have h2 := of_decide_eq_true h2
      exact ⟨c.lt j (lt4 j h1), by show 0 < -w j; omega, (bw j).neg.up (by decide)⟩
  · intro q hq
    rw [List.map_cons, List.sum_cons, List.map_map]
    show Adj.det A * (rsOf L r).v q + ((([0, 1, 2, 3] : List Nat).filter fun j => decide (w j < 0)).map fun j => -w j * (rsOf L (t j)).v q).sum = 0
    rw [tot fun i => (rsOf L i).v q]
    have e := cs q hq
    have e2 : (Adj.s4 fun j => -w j * (rsOf L (t j)).v q) = - Adj.s4 fun j => w j * A j q := by
      have := Adj.s4_mul (-1) fun j => w j * A j q
      rw [show -(Adj.s4 fun j => w j * A j q) = -1 * Adj.s4 fun j => w j * A j q by omega, ← this]
      refine Adj.s4_congr fun j hj => ?_
      rw [c.row j hj, Int.neg_mul, Int.neg_mul, Int.one_mul]
    rw [e2, e]
    omega
  · rw [List.map_cons, List.sum_cons, List.map_map]
    show 0 < Adj.det A * Sett.bi (rsOf L r) + ((([0, 1, 2, 3] : List Nat).filter fun j => decide (w j < 0)).map fun j => -w j * Sett.bi (rsOf L (t j))).sum
    rw [tot fun i => Sett.bi (rsOf L i)]
    exact cp
  · rw [List.length_cons, List.length_map]
    have := List.length_filter_le (fun j => decide (w j < 0)) ([0, 1, 2, 3] : List Nat)
    simp only [List.length_cons, List.length_nil] at this
    omega
theorem row_at {L : List Sett.Rw} {i : Nat} (h : i < L.length) : (L.map rowD)[i]? = some (rowD (rsOf L i)) := by
  unfold rsOf
  rw [List.getElem?_map, List.getElem?_eq_getElem h, List.getD_eq_getElem?_getD, List.getElem?_eq_getElem h]
  rfl
theorem sub_refl (m : Mem) : Sub m m := fun _ _ h => h
theorem if_t {c : Bool} {A B : Prop} (hc : c = true) (h : A) : if c = true then A else B := by rw [if_pos hc]; exact h
theorem if_f {c : Bool} {A B : Prop} (hc : c = false) (h : B) : if c = true then A else B := by rw [if_neg (by rw [hc]; exact Bool.false_ne_true)]; exact h
theorem isb_non {m : Mem} {Q : D → Mem → Prop} (h : Q (.bl true) m) : dIsB false .non .non m Q := h
theorem isb_int {i : Int} {m : Mem} {Q : D → Mem → Prop} (h : Q (.bl false) m) : dIsB false (.int i) .non m Q := h
theorem isb_tup {i : List D} {m : Mem} {Q : D → Mem → Prop} (h : Q (.bl false) m) : dIsB false (.tup i) .non m Q := h
theorem isb_lst {i : List D} {m : Mem} {Q : D → Mem → Prop} (h : Q (.bl false) m) : dIsB false (.lst i) .non m Q := h
abbrev stBody : WS := (sSeq (sSet 2 (wCall F_point_of (wCons (wVar 0) (wCons (wVar 1) wNil)))) (sSeq (sSet 3 (wCall F_first_missed (wCons (wVar 0) (wCons (wVar 2) (wCons (wOp dIx (wVar 1) (wC (.int 2))) wNil))))) (sSeq (sIf (wTest (wOp (dIsB false) (wVar 3) (wC .non))) (sRet (wTup (wCons (wVar 1) (wCons (wVar 2) (wCons (wC .non) wNil))))) sNext) (sSeq (sSet 4 (wCall F_weights_of (wCons (wOp dIx (wVar 0) (wVar 3)) (wCons (wOp dIx (wVar 1) (wC (.int 0))) wNil)))) (sSeq (sSet 5 (wCall F_leaving_place (wCons (wOp dIx (wVar 1) (wC (.int 1))) (wCons (wVar 4) wNil)))) (sSeq (sIf (wTest (wOp (dIsB false) (wVar 5) (wC .non))) (sSeq (sSet 6 (wLc (iZipX (wCons (wOp dIx (wVar 1) (wC (.int 1))) (wCons (wVar 4) wNil))) (gvTup 2 (gvCons (gvName 7) (gvCons (gvName 8) gvNil))) (wTest (wOp dLt (wVar 8) (wC (.int 0)))) (wTup (wCons (wVar 7) (wCons (wNeg (wVar 8)) wNil))) [7, 8])) (sRet (wTup (wCons (wVar 1) (wCons (wC .non) (wCons (wLst (wCons (wTup (wCons (wVar 3) (wCons (wOp dIx (wVar 1) (wC (.int 2))) wNil))) (wStar (wVar 6) wNil))) wNil)))))) sNext) (sSet 1 (wCall F_exchanged (wCons (wVar 1) (wCons (wVar 3) (wCons (wVar 4) (wCons (wVar 5) wNil))))))))))))
theorem settled_turn {L : List Sett.Rw} {A : Adj.Mat} {t : Nat → Nat} {m : Mem} {E : De} {o2 o3 o4 o5 o6 o7 o8 : Option D} (b : BL L) (c : Sett.Cn L.length (rsOf L) t A)
    (qk : ∀ x, (∀ i, i < L.length → Adj.det A * Sett.bi (rsOf L i) ≤ Sett.av (rsOf L) i x) → Bv 300 x → E.rt (.tup [cnD A t, .tup (vecD x), .non]) m)
    (qn : ∀ am, Cert L am → E.rt (.tup [cnD A t, .non, .lst (am.map fun p => pairD (natP p))]) m)
    (q : ∀ l r m' o2 o3 o4 o5 o6 o7 o8, l < 4 → r < L.length → 0 < Adj.wt A (rsOf L r).v l → (∀ j, j < 4 → 0 < Adj.wt A (rsOf L r).v j → t l ≤ t j) → Sett.av (rsOf L) r (Sett.pt A (Sett.ssOf (rsOf L) t)) < Adj.det A * Sett.bi (rsOf L r) → (∀ i, i < r → Adj.det A * Sett.bi (rsOf L i) ≤ Sett.av (rsOf L) i (Sett.pt A (Sett.ssOf (rsOf L) t))) → Sub m m' →
      E.nx [some (.lst (L.map rowD)), some (cnD (Adj.rep A l (rsOf L r).v) (Sett.put t l r)), o2, o3, o4, o5, o6, o7, o8] m') :
    stBody E [some (.lst (L.map rowD)), some (cnD A t), o2, o3, o4, o5, o6, o7, o8] m := by
  have hA := b.bm c
  have bd := Sett.Bd.det hA
  unfold stBody
  walk_at "wg"
  refine ⟨L, A, t, rfl, c.lt, ?_⟩
  walk_at "wg"
  refine ⟨_, rfl, ?_⟩
  refine ⟨L, _, Adj.det A, rfl, b, fun p hp => (Sett.Bd.pt hA p).up (by decide), bd.up (by decide), fun hk => ?_, fun r hr miss first => ?_⟩
  · walk_at "wg"
    refine isb_non ?_
    walk_at "wg"
    refine ⟨small_line (n := 3) (by decide), qk _ hk fun p hp => (Sett.Bd.pt hA p).up (by decide)⟩
  · walk_at "wg"
    refine isb_int ?_
    walk_at "wg"
    refine ixL_nat (row_at hr) ?_
    walk_at "wg"
    refine ⟨_, rfl, ?_⟩
    refine ⟨rsOf L r, A, rfl, hA, b.2 _ (rs_mem hr), ?_⟩
    walk_at "wg"
    refine ⟨_, rfl, ?_⟩
    refine ⟨t, _, rfl, fun low => ?_, fun l hl hw hmin => ?_⟩
    · have ce := cert_of b c hr miss low
      walk_at "wg"
      refine isb_non ?_
      walk_at "wg"
      refine ⟨_, rfl, ?_⟩
      refine ⟨_, _, tD t, vecD (Adj.wt A (rsOf L r).v), rfl, rfl, rfl, (show 4 ≤ 1000000 by decide), ?_⟩
      generalize hw : Adj.wt A (rsOf L r).v = w at *
      have ez : zipD (tD t) (vecD w) = ([0, 1, 2, 3] : List Nat).map fun j => D.tup [.int (t j : Nat), .int (w j)] := rfl
      rw [ez]
      refine lc_fmA _ (fun j => decide (w j < 0)) (fun j => pairD (natP (t j, -w j))) [0, 1, 2, 3] [] _ (fun j hj K K' k1 k2 => ?_) ?_
      · refine ⟨rfl, _, _, rfl, _, _, rfl, rfl, ?_⟩
        show if decide (w j < 0) = true then _ else _
        refine ifb (fun c => ?_) (fun c => ?_)
        · exact ⟨small_line (n := 2) (by decide), k1 c⟩
        · exact k2 c
      · rw [List.nil_append]
        walk_at "wg"
        refine ⟨_, rfl, ?_⟩
        have few := ce.few
        have q := qn _ ce
        rw [List.map_cons, List.map_map] at q
        rw [List.length_cons, List.length_map] at few
        refine ⟨small_line (n := 2) (by decide), ?_, small_line (n := 3) (by decide), q⟩
        rw [List.length_map]
        exact small_line (by omega)
    · walk_at "wg"
      refine isb_int ?_
      walk_at "wg"
      refine ⟨A, t, (rsOf L r).v, l, r, rfl, hl, c.pos, hw, hA, b.2 _ (rs_mem hr), fun m' hm => ?_⟩
      exact q l r m' _ _ _ _ _ _ _ hl hr hw hmin miss first hm
theorem r_settled : ∀ ds m Qd Qx, F_settled ds m Qd Qx → w_settled { nx := fun _ m' => Qd .non m', rt := Qd } (ds.map some ++ List.replicate (9 - ds.length) none) m := by
  rintro ds m Qd Qx ⟨L, A, t, rfl, b, c, qk, qn⟩
  unfold w_settled
  refine ⟨fun n ρ m' => ∃ (A : Adj.Mat) (t : Nat → Nat) (k : Nat) (o2 o3 o4 o5 o6 o7 o8 : Option D), ρ = [some (.lst (L.map rowD)), some (cnD A t), o2, o3, o4, o5, o6, o7, o8] ∧ Sub m m' ∧ Sett.Cn L.length (rsOf L) t A ∧ Sett.Hist L.length (rsOf L) k (Sett.stOf (rsOf L) t A) ∧ n + k = L.length ^ 4,
    ⟨L.length ^ 4, A, t, 0, none, none, none, none, none, none, none, rfl, sub_refl m, c, Sett.Hist.zero c, rfl⟩, ?_⟩
  clear c A t
  rintro n _ m' ⟨A, t, k, o2, o3, o4, o5, o6, o7, o8, rfl, hs, c, hi, hn⟩
  refine settled_turn (A := A) (t := t) b c (fun x hx bx => qk m' _ x _ hs c.pos hx bx) (fun am ha => qn m' _ am hs ha) ?_
  intro l r m2 o2 o3 o4 o5 o6 o7 o8 hl hr hw hmin miss first hm
  have c2 := c.next hl hr hw
  have h2 := hi.succ (c.step hl hr hw hmin miss first) c2.ok (Sett.tl_ok c2)
  have := h2.le
  exact ⟨n - 1, by omega, _, _, k + 1, _, _, _, _, _, _, _, rfl, fun b ds hb => hm b ds (hs b ds hb), c2, h2, by omega⟩

end K18
namespace K18
open PySem L2 XO DL GB
local macro_rules | `(tactic| walk_at "wg") => `(tactic| ((try dsimp only); (try rw [a_hold]); (try simp only [List.map_cons, List.map_nil, List.length_cons, List.length_nil, List.cons_append, List.nil_append, List.replicate_succ, List.replicate_zero, Nat.reduceAdd, Nat.reduceSub]); (try simp only [↓a_test, ↓a_v0, ↓a_s0, ↓a_g0, ↓a_v1, ↓a_s1, ↓a_g1, ↓a_v2, ↓a_s2, ↓a_g2, ↓a_v3, ↓a_s3, ↓a_g3, ↓a_v4, ↓a_s4, ↓a_g4, ↓a_v5, ↓a_s5, ↓a_g5, ↓a_v6, ↓a_s6, ↓a_g6, ↓a_v7, ↓a_s7, ↓a_g7, ↓a_v8, ↓a_s8, ↓a_g8, ↓a_v9, ↓a_s9, ↓a_g9, ↓a_v10, ↓a_s10, ↓a_g10, ↓a_v11, ↓a_s11, ↓a_g11, ↓a_v12, ↓a_s12, ↓a_g12, ↓a_v13, ↓a_s13, ↓a_g13, ↓a_v14, ↓a_s14, ↓a_g14, ↓a_v15, ↓a_s15, ↓a_g15, ↓a_v16, ↓a_s16, ↓a_g16, ↓a_v17, ↓a_s17, ↓a_g17, ↓a_v18, ↓a_s18, ↓a_g18, ↓a_v19, ↓a_s19, ↓a_g19, ↓a_v20, ↓a_s20, ↓a_g20, ↓a_v21, ↓a_s21, ↓a_g21, ↓a_v22, ↓a_s22, ↓a_g22, ↓a_v23, ↓a_s23, ↓a_g23, ↓a_v24, ↓a_s24, ↓a_g24, ↓a_v25, ↓a_s25, ↓a_g25, ↓a_v26, ↓a_s26, ↓a_g26, ↓a_v27, ↓a_s27, ↓a_g27, ↓a_star, ↓a_asg2, ↓a_asg4, ↓a_neg, ↓a_zipX, ↓a_callKX, ↓a_get2, ↓a_lcO, ↓a_popAt, ↓a_m0, ↓a_op, ↓a_c, ↓a_call, ↓a_callX, ↓a_call0, ↓a_nil, ↓a_cons, ↓a_bi, ↓a_tnot, ↓a_tor, ↓a_tand, ↓a_tru, ↓a_yes, ↓a_if, ↓a_and, ↓a_or, ↓a_not, ↓a_chain, ↓a_sl, ↓a_noPart, ↓a_part, ↓a_lst, ↓a_tup, ↓a_dct0, ↓a_own, ↓a_isT, ↓a_next, ↓a_seqH, ↓a_ret, ↓a_drop, ↓a_sif, ↓a_raise, ↓a_for, ↓a_iVar, ↓a_fld, ↓a_lc, ↓a_iEnumB, ↓a_iEnumS, ↓a_iSg, ↓a_iLst, ↓a_iTp, ↓a_join, ↓a_lenSet, ↓a_append, ↓a_put, ↓a_par, ↓a_unp, ↓a_meth, ↓a_make, ↓a_rg1, ↓a_gTup, ↓a_gNil, ↓a_gCons, ↓a_loopN, wipeD, List.map_cons, List.map_nil, List.length_cons, List.length_nil, List.cons_append, List.nil_append, List.replicate_succ, List.replicate_zero, List.append_nil, List.getElem?_cons_zero, List.getElem?_cons_succ, List.set_cons_zero, List.set_cons_succ, Nat.reduceAdd, Nat.reduceSub, Bool.not_true, Bool.not_false, reduceIte, Bool.false_eq_true, true_and])))
/-! ### values -/
theorem seq_list (x : D) : seqA x = listB x := by cases x <;> rfl
theorem okT.ty {x : D} (h : okT x) : isTyped x = true := h.elim fun _ h => okD.ty h
theorem okT.isl {x : D} (h : okT x) : isL x = (seqA x).isSome := by
  have := h.ty
  obtain ⟨n, hn⟩ := h
  cases x <;> first | rfl | (cases this; done) | (simp [okD] at hn)
theorem okT.tame {x : D} (h : okT x) : tame x := ⟨h.ty, h.isl⟩
theorem okT.items {x : D} (h : okT x) {ds : List D} (hs : seqA x = some ds) : ∀ d ∈ ds, okT d := by
  obtain ⟨n, h⟩ := h
  rw [seq_list] at hs
  obtain ⟨k, hk⟩ := okD.items h hs
  exact fun d hd => ⟨k, hk d hd⟩
theorem okT.len {x : D} (h : okT x) {ds : List D} (hs : seqA x = some ds) : ds.length ≤ 100000 := by
  obtain ⟨n, h⟩ := h
  rw [seq_list] at hs
  exact okD.len h hs
theorem okT.int {i : Int} (h : okT (.int i)) : i.natAbs < 10 ^ 100 := by
  obtain ⟨n, h⟩ := h
  simpa [okD] using h
theorem r_is_list : ∀ ds m Qd Qx, F_is_list ds m Qd Qx → w_is_list { nx := fun _ m' => Qd .non m', rt := Qd } (ds.map some ++ List.replicate (1 - ds.length) none) m := by
  rintro ds m Qd Qx ⟨x, rfl, hx, h⟩
  rw [← hx.2] at h
  exact ⟨typedM_of hx.1, _, isaLT x, h⟩
theorem r_is_whole : ∀ ds m Qd Qx, F_is_whole ds m Qd Qx → w_is_whole { nx := fun _ m' => Qd .non m', rt := Qd } (ds.map some ++ List.replicate (1 - ds.length) none) m := by
  rintro ds m Qd Qx ⟨x, rfl, hx, h⟩
  have hx : isTyped x = true := by
    rcases hx with hx | ⟨i, rfl⟩
    · exact hx.ty
    · rfl
  refine ⟨hx, _, isa_int, ifb (fun e => ?_) (fun e => ?_)⟩
  · refine ⟨hx, _, isa_bool, ?_⟩
    cases x <;> first | (cases e; done) | exact h
  · cases x <;> first | (cases e; done) | exact h
theorem all_whole {ds : List D} {ρ : En0} {m : Mem} {Qd : D → Mem → Prop} {Qx : XQ} {x : D} (hl : ds.length ≤ 1000000) (hi : ∀ d ∈ ds, okT d ∨ ∃ i, d = .int i) (h : Qd (.bl (ds.all isWhole)) m) (hρ : ρ = [some x, none]) :
    ds.length ≤ 1000000 ∧ wLcGo (gvName 1) tvYes (wCall F_is_whole (wCons (wVar 1) wNil)) ρ Qx ds [] m (fun d m1 => dBls (fun bs => bs.all id) [d] m1 Qd) := by
  subst hρ
  refine ⟨hl, ?_⟩
  have e : ds = ds.map id := (List.map_id _).symm
  rw [e]
  refine lc_mpA id (fun d => .bl (isWhole d)) ds _ (fun d hd K k => ?_) ?_
  · exact ⟨d, rfl, hi d hd, k⟩
  · refine ⟨_, bls_map isWhole ds, ?_⟩
    show Qd (.bl ((ds.map isWhole).all id)) m
    rw [List.all_map]
    exact h
theorem r_is_whole_list : ∀ ds m Qd Qx, F_is_whole_list ds m Qd Qx → w_is_whole_list { nx := fun _ m' => Qd .non m', rt := Qd } (ds.map some ++ List.replicate (2 - ds.length) none) m := by
  rintro ds m Qd Qx ⟨x, rfl, hx, h⟩
  have hx2 : tame x := by
    rcases hx with hx | ⟨ns, rfl, _⟩
    · exact hx.tame
    · exact ⟨rfl, rfl⟩
  unfold w_is_whole_list
  walk_at "wg"
  refine ⟨x, rfl, hx2, ?_⟩
  cases hs : seqA x with
  | none =>
    refine if_f rfl ?_
    have e : wholeL x = false := by unfold wholeL; rw [hs]
    rw [e] at h; exact h
  | some ds =>
    refine if_t rfl ?_
    have e : wholeL x = ds.all isWhole := by unfold wholeL; rw [hs]
    rw [e] at h
    have hl : ds.length ≤ 1000000 := by
      rcases hx with hx | ⟨ns, rfl, h2⟩
      · have := hx.len hs; omega
      · cases hs
        unfold intL
        rw [List.length_map]; omega
    have hi : ∀ d ∈ ds, okT d ∨ ∃ i, d = .int i := by
      rcases hx with hx | ⟨ns, rfl, _⟩
      · exact fun d hd => .inl (hx.items hs d hd)
      · cases hs
        intro d hd
        obtain ⟨i, _, rfl⟩ := List.mem_map.mp hd
        exact .inr ⟨i, rfl⟩
    have go := all_whole (x := x) (Qx := fun _ _ => False) hl hi h rfl
    cases x with
    | lst es => cases hs; exact go
    | tup es => cases hs; exact go
    | _ => cases hs
theorem r_is_integer : ∀ ds m Qd Qx, F_is_integer ds m Qd Qx → w_is_integer { nx := fun _ m' => Qd .non m', rt := Qd } (ds.map some ++ List.replicate (3 - ds.length) none) m := by
  rintro ds m Qd Qx ⟨x, lo, hi, rfl, hx, h⟩
  unfold w_is_integer
  walk_at "wg"
  refine ⟨x, rfl, .inl hx, ?_⟩
  cases x with
  | int i =>
    refine if_t rfl ?_
    have h : Qd (.bl (decide (lo ≤ i) && decide (i ≤ hi))) m := h
    show if decide (lo ≤ i) = true then Qd (.bl (decide (i ≤ hi))) m else Qd (.bl false) m
    refine ifb (fun e => ?_) (fun e => ?_)
    · rw [e] at h; exact h
    · rw [e] at h; exact h
  | _ => exact h
theorem r_is_cost_number : ∀ ds m Qd Qx, F_is_cost_number ds m Qd Qx → w_is_cost_number { nx := fun _ m' => Qd .non m', rt := Qd } (ds.map some ++ List.replicate (1 - ds.length) none) m := by
  rintro ds m Qd Qx ⟨x, rfl, hx, h⟩
  unfold w_is_cost_number
  walk_at "wg"
  refine ⟨x, rfl, .inl hx, ?_⟩
  cases x with
  | int i =>
    exact h
  | _ => exact h
theorem zip_ints (ns ks : List Int) : zipD (intL ns) (intL ks) = (ns.zip ks).map fun p => D.tup [.int p.1, .int p.2] := by
  unfold zipD intL
  rw [List.zip_map, List.map_map]
  rfl
theorem ints_of (ns : List Int) : intsD (intL ns) = some ns := by
  induction ns with
  | nil => rfl
  | cons n ns ih =>
    show intsD (.int n :: intL ns) = _
    unfold intsD
    rw [ih]; rfl
theorem r_weighed : ∀ ds m Qd Qx, F_weighed ds m Qd Qx → w_weighed { nx := fun _ m' => Qd .non m', rt := Qd } (ds.map some ++ List.replicate (4 - ds.length) none) m := by
  rintro ds m Qd Qx ⟨x, y, ns, ks, rfl, hx, hy, hl, b1, b2, h⟩
  unfold w_weighed
  walk_at "wg"
  refine ⟨x, y, _, _, rfl, hx, hy, ?_⟩
  rw [zip_ints]
  refine ⟨?_, ?_⟩
  · rw [List.length_map, List.length_zip]
    omega
  · refine lc_mpA (fun p : Int × Int => D.tup [.int p.1, .int p.2]) (fun p => .int (p.1 * p.2)) (ns.zip ks) _ (fun p hp K k => ?_) ?_
    · refine ⟨rfl, _, _, rfl, _, _, rfl, rfl, ?_⟩
      have := List.of_mem_zip hp
      exact ⟨mul_ok (b1 _ this.1) (b2 _ this.2), k⟩
    · unfold dotL at h
      refine ⟨(ns.zip ks).map fun p => p.1 * p.2, ?_, h⟩
      have := ints_of ((ns.zip ks).map fun p => p.1 * p.2)
      unfold intL at this
      rw [List.map_map] at this
      exact this
theorem gcd_small {a b : Nat} {k : Nat} (ha : a < k) (hb : b < k) : Nat.gcd a b < k := by
  by_cases h : a = 0
  · subst h; rw [Nat.gcd_zero_left]; exact hb
  · exact Nat.lt_of_le_of_lt (Nat.gcd_le_left b (Nat.pos_of_ne_zero h)) ha
theorem gcdF_small {k : Nat} : ∀ (ns : List Int) (g : Nat), g < k → (∀ n ∈ ns, n.natAbs < k) → gcdF g ns < k
  | [], g, h, _ => h
  | n :: ns, g, h, hn => gcdF_small ns (Nat.gcd g n.natAbs) (gcd_small h (hn n List.mem_cons_self)) fun k hk => hn k (List.mem_cons_of_mem _ hk)
theorem whole_ints (ns : List Int) : wholeL (.tup (intL ns)) = true := by
  show (intL ns).all isWhole = true
  unfold intL
  rw [List.all_map, List.all_eq_true]
  intro i _; rfl
theorem gcd_loop (E : De) (x : D) (m : Mem) : ∀ (ns : List Int) (g : Nat) (o : Option D), (∀ o', E.nx [some x, some (.int ((gcdF g ns : Nat) : Int)), o'] m) → wLoop (gvName 2) (sSet 1 (wBi dGcd (wCons (wVar 1) (wCons (wVar 2) wNil)))) E (intL ns) [some x, some (.int (g : Int)), o] m
  | [], g, o, h => h o
  | n :: ns, g, o, h => gcd_loop E x m ns (Nat.gcd g n.natAbs) (some (.int n)) h
theorem eq_int {i j : Int} {m : Mem} {Q : D → Mem → Prop} (h : Q (.bl (decide (i = j))) m) : dEq (.int i) (.int j) m Q := by
  have e : dEq (.int i) (.int j) m Q = Q (.bl (decide (i = j) ^^ false)) m := rfl
  rw [e, Bool.xor_false]; exact h
theorem ne_int {i j : Int} {m : Mem} {Q : D → Mem → Prop} (h : Q (.bl (!decide (i = j))) m) : dNe (.int i) (.int j) m Q := by
  have e : dNe (.int i) (.int j) m Q = Q (.bl (decide (i = j) ^^ true)) m := rfl
  rw [e, Bool.xor_true]; exact h
theorem r_scaled : ∀ ds m Qd Qx, F_scaled ds m Qd Qx → w_scaled { nx := fun _ m' => Qd .non m', rt := Qd, ex := Qx } (ds.map some ++ List.replicate (3 - ds.length) none) m := by
  rintro ds m Qd Qx ⟨ns, rfl, hl, hb, h⟩
  unfold w_scaled
  walk_at "wg"
  refine ⟨_, rfl, .inr ⟨ns, rfl, hl⟩, ?_⟩
  rw [whole_ints]
  refine if_f rfl ?_
  walk_at "wg"
  refine gcd_loop _ _ m ns 0 none fun o' => ?_
  walk_at "wg"
  have en : decide (((gcdF 0 ns : Nat) : Int) = 0) = decide (gcdF 0 ns = 0) := dec_eq rfl rfl
  refine eq_int ?_
  rw [en]
  refine ifb (fun e => ?_) (fun e => ?_)
  · have e := of_decide_eq_true e
    have es : scaledI ns = ns := if_pos e
    rw [es] at h
    exact h
  · have e := of_decide_eq_false e
    have es : scaledI ns = ns.map fun n => n / ((gcdF 0 ns : Nat) : Int) := if_neg e
    rw [es] at h
    walk_at "wg"
    refine ⟨by unfold intL; rw [List.length_map]; omega, ?_⟩
    have gb : gcdF 0 ns < 2 ^ 600 := gcdF_small ns 0 (by decide) fun n hn => hb n hn
    refine lc_mpA D.int (fun n => .int (n / ((gcdF 0 ns : Nat) : Int))) ns _ (fun n hn K k => ?_) ?_
    · refine ⟨?_, k⟩
      exact wide_div (b := 600) (by omega) (by rw [Int.natAbs_natCast]; exact gb) (by decide) (by decide)
    · unfold intL at h
      rw [List.map_map] at h
      exact h
theorem len_seq {x : D} {ds : List D} {m : Mem} {Q : D → Mem → Prop} (hs : seqA x = some ds) (q : Q (.int ds.length) m) : dLen [x] m Q := by
  cases x <;> first | (cases hs; exact q) | cases hs
theorem ix_seq {x d : D} {ds : List D} {i : Int} {m : Mem} {Q : D → Mem → Prop} (hs : seqA x = some ds) (ha : L2.atI ds i = some d) (q : Q d m) : dIx x (.int i) m Q := by
  cases x <;> first | (cases hs; exact ⟨d, ha, q⟩) | cases hs
def numL (many : Int) : List D → Bool
  | [a, .bl _] => (match seqA a with
    | some ns => ns.all isWhole && decide ((ns.length : Int) = many)
    | none => false)
  | _ => false
theorem num_row (many : Int) (x : D) : numRow many x = match seqA x with
  | some ds => numL many ds
  | none => false := by
  unfold numRow numL
  cases seqA x with
  | none => rfl
  | some ds =>
    rcases ds with _ | ⟨a, _ | ⟨b, _ | ⟨c, ds⟩⟩⟩
    · rfl
    · rfl
    · cases b <;> rfl
    · cases b <;> rfl
theorem isi_bool {x : D} {m : Mem} {Q : D → Mem → Prop} (hx : isTyped x = true) (q : Q (.bl (match x with | .bl _ => true | _ => false)) m) : dIsi [x, .ty "bool"] m Q := by
  refine ⟨hx, _, isa_bool, ?_⟩
  cases x <;> exact q
theorem r_is_number_row : ∀ ds m Qd Qx, F_is_number_row ds m Qd Qx → w_is_number_row { nx := fun _ m' => Qd .non m', rt := Qd } (ds.map some ++ List.replicate (2 - ds.length) none) m := by
  rintro ds m Qd Qx ⟨many, x, rfl, hx, h⟩
  rw [num_row] at h
  unfold w_is_number_row
  walk_at "wg"
  refine ⟨x, rfl, hx.tame, ?_⟩
  cases hs : seqA x with
  | none =>
    rw [hs] at h
    exact h
  | some ds =>
    rw [hs] at h
    have h : Qd (.bl (numL many ds)) m := h
    refine if_f rfl ?_
    have hi := hx.items hs
    refine len_seq hs ?_
    refine ne_int ?_
    rcases ds with _ | ⟨a, _ | ⟨b, _ | ⟨c, ds⟩⟩⟩
    · exact h
    · exact h
    · refine if_f rfl ?_
      refine ix_seq (i := 1) hs rfl ?_
      refine isi_bool (hi b (by simp)).ty ?_
      cases b with
      | bl s =>
        refine if_f rfl ?_
        walk_at "wg"
        refine ix_seq (i := 0) hs rfl ?_
        refine ⟨a, rfl, .inl (hi a (by simp)), ?_⟩
        have h : Qd (.bl (match seqA a with
          | some ns => ns.all isWhole && decide ((ns.length : Int) = many)
          | none => false)) m := h
        cases ha : seqA a with
        | none =>
          have e : wholeL a = false := by unfold wholeL; rw [ha]
          rw [e]
          rw [ha] at h
          exact h
        | some ns =>
          have e : wholeL a = ns.all isWhole := by unfold wholeL; rw [ha]
          rw [e]
          rw [ha] at h
          have h : Qd (.bl (ns.all isWhole && decide ((ns.length : Int) = many))) m := h
          refine ifb (fun c => ?_) (fun c => ?_)
          · rw [c] at h
            refine ix_seq (i := 0) hs rfl ?_
            refine len_seq ha ?_
            exact eq_int h
          · rw [c] at h
            exact h
      | _ => exact h
    · refine if_t ?_ ?_
      · rw [decide_eq_false (by simp only [List.length_cons]; omega)]; rfl
      · cases b <;> exact h

end K18
namespace K18
open PySem L2 XO DL GB
local macro_rules | `(tactic| walk_at "wg") => `(tactic| ((try dsimp only); (try rw [a_hold]); (try simp only [List.map_cons, List.map_nil, List.length_cons, List.length_nil, List.cons_append, List.nil_append, List.replicate_succ, List.replicate_zero, Nat.reduceAdd, Nat.reduceSub]); (try simp only [↓a_test, ↓a_v0, ↓a_s0, ↓a_g0, ↓a_v1, ↓a_s1, ↓a_g1, ↓a_v2, ↓a_s2, ↓a_g2, ↓a_v3, ↓a_s3, ↓a_g3, ↓a_v4, ↓a_s4, ↓a_g4, ↓a_v5, ↓a_s5, ↓a_g5, ↓a_v6, ↓a_s6, ↓a_g6, ↓a_v7, ↓a_s7, ↓a_g7, ↓a_v8, ↓a_s8, ↓a_g8, ↓a_v9, ↓a_s9, ↓a_g9, ↓a_v10, ↓a_s10, ↓a_g10, ↓a_v11, ↓a_s11, ↓a_g11, ↓a_v12, ↓a_s12, ↓a_g12, ↓a_v13, ↓a_s13, ↓a_g13, ↓a_v14, ↓a_s14, ↓a_g14, ↓a_v15, ↓a_s15, ↓a_g15, ↓a_v16, ↓a_s16, ↓a_g16, ↓a_v17, ↓a_s17, ↓a_g17, ↓a_v18, ↓a_s18, ↓a_g18, ↓a_v19, ↓a_s19, ↓a_g19, ↓a_v20, ↓a_s20, ↓a_g20, ↓a_v21, ↓a_s21, ↓a_g21, ↓a_v22, ↓a_s22, ↓a_g22, ↓a_v23, ↓a_s23, ↓a_g23, ↓a_v24, ↓a_s24, ↓a_g24, ↓a_v25, ↓a_s25, ↓a_g25, ↓a_v26, ↓a_s26, ↓a_g26, ↓a_v27, ↓a_s27, ↓a_g27, ↓a_star, ↓a_asg2, ↓a_asg4, ↓a_neg, ↓a_zipX, ↓a_callKX, ↓a_get2, ↓a_lcO, ↓a_popAt, ↓a_m0, ↓a_op, ↓a_c, ↓a_call, ↓a_callX, ↓a_call0, ↓a_nil, ↓a_cons, ↓a_bi, ↓a_tnot, ↓a_tor, ↓a_tand, ↓a_tru, ↓a_yes, ↓a_if, ↓a_and, ↓a_or, ↓a_not, ↓a_chain, ↓a_sl, ↓a_noPart, ↓a_part, ↓a_lst, ↓a_tup, ↓a_dct0, ↓a_own, ↓a_isT, ↓a_next, ↓a_seqH, ↓a_ret, ↓a_drop, ↓a_sif, ↓a_raise, ↓a_for, ↓a_iVar, ↓a_fld, ↓a_lc, ↓a_iEnumB, ↓a_iEnumS, ↓a_iSg, ↓a_iLst, ↓a_iTp, ↓a_join, ↓a_lenSet, ↓a_append, ↓a_put, ↓a_par, ↓a_unp, ↓a_meth, ↓a_make, ↓a_rg1, ↓a_gTup, ↓a_gNil, ↓a_gCons, ↓a_loopN, wipeD, List.map_cons, List.map_nil, List.length_cons, List.length_nil, List.cons_append, List.nil_append, List.replicate_succ, List.replicate_zero, List.append_nil, List.getElem?_cons_zero, List.getElem?_cons_succ, List.set_cons_zero, List.set_cons_succ, Nat.reduceAdd, Nat.reduceSub, Bool.not_true, Bool.not_false, reduceIte, Bool.false_eq_true, true_and])))
theorem due_many {many rows : D} (h : inB 1 4 many = true) : ∃ k, many = .int k ∧ 1 ≤ k ∧ k ≤ 4 ∧ dueRows many rows = (match seqA rows with
    | none => some (.part rows)
    | some ds => dueL k ds) := by
  cases many with
  | int k =>
    have h : (decide (1 ≤ k) && decide (k ≤ 4)) = true := h
    rw [Bool.and_eq_true, decide_eq_true_eq, decide_eq_true_eq] at h
    exact ⟨k, rfl, h.1, h.2, if_pos h⟩
  | _ => cases h
theorem due_bad {many rows : D} (h : inB 1 4 many = false) : dueRows many rows = some (.integer many) := by
  cases many with
  | int k =>
    have h : (decide (1 ≤ k) && decide (k ≤ 4)) = false := h
    unfold dueRows
    refine if_neg fun c => ?_
    rw [decide_eq_true c.1, decide_eq_true c.2] at h
    cases h
  | _ => rfl
theorem rows_loop (E : De) (r : D) (k : Int) (m : Mem) : ∀ (xs : List D) (o : Option D), (∀ d ∈ xs, okT d) → (match dueL k xs with
    | none => ∀ o', E.nx [some (.int k), some r, o'] m
    | some f => E.ex f.xn m) → wLoop (gvName 2) (sIf (tvNot (wTest (wCall F_is_number_row (wCons (wVar 0) (wCons (wVar 2) wNil))))) (sRaise "InvalidRow" "value" (wVar 2)) sNext) E xs [some (.int k), some r, o] m
  | [], o, _, h => h o
  | x :: xs, o, hx, h => by
    refine ⟨k, x, rfl, hx x List.mem_cons_self, ?_⟩
    unfold dueL at h
    cases e : numRow k x with
    | true =>
      rw [if_pos e] at h
      exact rows_loop E r k m xs _ (fun d hd => hx d (List.mem_cons_of_mem _ hd)) h
    | false =>
      rw [if_neg (by rw [e]; exact Bool.false_ne_true)] at h
      exact h
theorem r_check_number_rows : ∀ ds m Qd Qx, F_check_number_rows ds m Qd Qx → w_check_number_rows { nx := fun _ m' => Qd .non m', rt := Qd, ex := Qx } (ds.map some ++ List.replicate (3 - ds.length) none) m := by
  rintro ds m Qd Qx ⟨many, rows, rfl, hm, hr, h⟩
  unfold w_check_number_rows
  walk_at "wg"
  refine ⟨many, 1, 4, rfl, hm, ?_⟩
  cases hb : inB 1 4 many with
  | false =>
    rw [due_bad hb] at h
    exact h
  | true =>
    obtain ⟨k, rfl, h1, h4, e⟩ := due_many (rows := rows) hb
    rw [e] at h
    refine if_f rfl ?_
    walk_at "wg"
    refine ⟨rows, rfl, hr.tame, ?_⟩
    cases hs : seqA rows with
    | none =>
      rw [hs] at h
      exact h
    | some ds =>
      rw [hs] at h
      refine if_f rfl ?_
      walk_at "wg"
      have go : wLoop (gvName 2) (sIf (tvNot (wTest (wCall F_is_number_row (wCons (wVar 0) (wCons (wVar 2) wNil))))) (sRaise "InvalidRow" "value" (wVar 2)) sNext) { nx := fun _ m' => Qd .non m', rt := Qd, ex := Qx } ds [some (.int k), some rows, none] m := by
        refine rows_loop _ rows k m ds none (hr.items hs) ?_
        have h : match dueL k ds with
          | none => Qd .non m
          | some f => Qx f.xn m := h
        cases e : dueL k ds with
        | none => rw [e] at h; exact fun _ => h
        | some f => rw [e] at h; exact h
      cases rows with
      | lst es => cases hs; exact go
      | tup es => cases hs; exact go
      | _ => cases hs
def toI : D → Int
  | .int i => i
  | _ => 0
theorem ints_all {ds : List D} (h : ds.all isWhole = true) : ds = intL (ds.map toI) := by
  unfold intL
  rw [List.map_map]
  conv => lhs; rw [← List.map_id ds]
  refine List.map_congr_left fun d hd => ?_
  have := List.all_eq_true.mp h d hd
  cases d <;> first | rfl | cases this
theorem num_dec {many : Int} {x : D} (h : numRow many x = true) : ∃ a s as, seqA x = some [a, .bl s] ∧ seqA a = some (intL as) ∧ (as.length : Int) = many ∧ decRow x = (as, s) := by
  rw [num_row] at h
  cases hs : seqA x with
  | none => rw [hs] at h; cases h
  | some ds =>
    rw [hs] at h
    have h : numL many ds = true := h
    rcases ds with _ | ⟨a, _ | ⟨b, _ | ⟨c, ds⟩⟩⟩
    · cases h
    · cases h
    · cases b with
      | bl s =>
        have h : (match seqA a with
          | some ns => ns.all isWhole && decide ((ns.length : Int) = many)
          | none => false) = true := h
        cases ha : seqA a with
        | none => rw [ha] at h; cases h
        | some ns =>
          rw [ha] at h
          have h : (ns.all isWhole && decide ((ns.length : Int) = many)) = true := h
          rw [Bool.and_eq_true, decide_eq_true_eq] at h
          refine ⟨a, s, ns.map toI, rfl, ?_, ?_, ?_⟩
          · rw [ha, ← ints_all h.1]
          · rw [List.length_map]; exact h.2
          · unfold decRow
            rw [hs]
            show (match seqA a with | some ds => _ | none => _) = _
            rw [ha]
            rfl
      | _ => cases h
    · cases b <;> cases h
theorem bd_ten {i : Int} (h : i.natAbs < 10 ^ 100) : Sett.Bd 400 i := by
  unfold Sett.Bd
  have : (10 : Nat) ^ 100 ≤ 16 ^ 100 := Nat.pow_le_pow_left (by decide) 100
  have e : (16 : Nat) ^ 100 = 2 ^ 400 := by rw [show (16 : Nat) = 2 ^ 4 by decide, ← Nat.pow_mul]
  omega
theorem okT.bd {x : D} {ns : List Int} (h : okT x) (hs : seqA x = some (intL ns)) : ∀ n ∈ ns, Sett.Bd 400 n := by
  intro n hn
  exact bd_ten (h.items hs (.int n) (List.mem_map_of_mem hn)).int
theorem seq_or {x : D} {ds : List D} (hs : seqA x = some ds) : x = .lst ds ∨ x = .tup ds := by
  cases x <;> first | (cases hs; exact .inl rfl) | (cases hs; exact .inr rfl) | cases hs
theorem cost_whole {ds : List D} (h : ds.all costN = true) : ds.all isWhole = true := by
  rw [List.all_eq_true] at h ⊢
  intro d hd
  have := h d hd
  cases d <;> first | rfl | cases this
theorem r_keeps : ∀ ds m Qd Qx, F_keeps ds m Qd Qx → w_keeps { nx := fun _ m' => Qd .non m', rt := Qd, ex := Qx } (ds.map some ++ List.replicate (3 - ds.length) none) m := by
  rintro ds m Qd Qx ⟨ns, row, rfl, hn, hr, h⟩
  unfold w_keeps
  walk_at "wg"
  refine ⟨ns, rfl, hn.tame, ?_⟩
  cases hs : seqA ns with
  | none =>
    have e : dueKeeps ns row = some (.part ns) := by unfold dueKeeps; rw [hs]
    rw [e] at h
    exact h
  | some ds =>
    have e : dueKeeps ns row = if 1 ≤ ds.length ∧ ds.length ≤ 4 then (if ds.all costN = true then (if numRow ds.length row = true then none else some (.row row)) else some (.part ns)) else some (.part ns) := by
      unfold dueKeeps; rw [hs]
    rw [e] at h
    refine if_f rfl ?_
    walk_at "wg"
    refine len_seq hs ?_
    show if decide (1 ≤ (ds.length : Int)) = true then _ else _
    have e1 : decide ((1 : Int) ≤ (ds.length : Nat)) = decide (1 ≤ ds.length) := dec_le rfl rfl
    have e4 : decide ((ds.length : Int) ≤ 4) = decide (ds.length ≤ 4) := dec_le rfl rfl
    rw [e1]
    by_cases c1 : 1 ≤ ds.length
    · refine if_t (decide_eq_true c1) ?_
      show if (!decide ((ds.length : Int) ≤ 4)) = true then _ else _
      rw [e4]
      by_cases c4 : ds.length ≤ 4
      · refine if_f (by rw [decide_eq_true c4]; rfl) ?_
        rw [if_pos ⟨c1, c4⟩] at h
        walk_at "wg"
        rcases seq_or hs with rfl | rfl
        all_goals
          have al : blsD (ds.map fun d => .bl (costN d)) = some (ds.map costN) := bls_map costN ds
          refine ⟨by have := hn.len hs; omega, ?_⟩
          have em : ds = ds.map id := (List.map_id _).symm
          have hcost : ∀ (Q : D → Mem → Prop) (Qx : XQ) (ρ : En0), ρ.length = 3 → Q (.lst (ds.map fun d => .bl (costN d))) m → wLcGo (gvName 2) tvYes (wCall F_is_cost_number (wCons (wVar 2) wNil)) ρ Qx ds [] m Q := by
            intro Q Qx ρ hρ q
            match ρ, hρ with
            | [o0, o1, o2], _ =>
              have go := lc_mpA (g := gvName 2) (te := wCall F_is_cost_number (wCons (wVar 2) wNil)) (ρ := [o0, o1, o2]) (Qx := Qx) (m := m) id (fun d => .bl (costN d)) ds Q (fun d hd K k => ⟨d, rfl, hn.items hs d hd, k⟩) q
              rw [List.map_id] at go
              exact go
          refine hcost _ _ _ rfl ?_
          refine ⟨_, al, ?_⟩
          show if (!(ds.map costN).all id) = true then _ else _
          rw [List.all_map]
          have ea : ds.all (id ∘ costN) = ds.all costN := rfl
          rw [ea]
          by_cases ca : ds.all costN = true
          · rw [if_pos ca] at h
            refine if_f (by rw [ca]; rfl) ?_
            walk_at "wg"
            refine ⟨(ds.length : Nat), row, rfl, hr, ?_⟩
            by_cases cr : numRow ds.length row = true
            · rw [if_pos cr] at h
              rw [cr]
              refine if_f rfl ?_
              obtain ⟨a, s, as, h1, h2, h3, h4⟩ := num_dec cr
              walk_at "wg"
              have w := cost_whole ca
              have es : ds = intL (ds.map toI) := ints_all w
              refine ix_seq (i := 0) h1 rfl ?_
              refine ⟨a, _, as, ds.map toI, rfl, h2, by rw [← es]; exact hs, by omega, fun n hn2 => (okT.bd (hr.items h1 a (by simp)) h2 n hn2).up (by decide), fun n hn2 => (okT.bd hn (by rw [← es]; exact hs) n hn2).up (by decide), ?_⟩
              refine ix_seq (i := 1) h1 rfl ?_
              rw [h4] at h
              cases s with
              | true => exact h
              | false => exact h
            · rw [if_neg cr] at h
              refine if_t (by rw [Bool.not_eq_true] at cr; rw [cr]; rfl) ?_
              exact h
          · rw [if_neg ca] at h
            refine if_t (by rw [Bool.not_eq_true] at ca; rw [ca]; rfl) ?_
            exact h
      · refine if_t (by rw [decide_eq_false c4]; rfl) ?_
        rw [if_neg (fun c => c4 c.2)] at h
        exact h
    · refine if_f (decide_eq_false c1) ?_
      rw [if_neg (fun c => c1 c.1)] at h
      exact h

theorem due_rows {k : Int} : ∀ {xs : List D}, dueL k xs = none → ∀ x ∈ xs, numRow k x = true
  | [], _, x, h => nomatch h
  | y :: xs, h, x, hx => by
    unfold dueL at h
    cases e : numRow k y with
    | true =>
      rw [if_pos e] at h
      rcases List.mem_cons.mp hx with rfl | hx
      · exact e
      · exact due_rows h x hx
    | false =>
      rw [if_neg (by rw [e]; exact Bool.false_ne_true)] at h
      cases h
theorem zip_rows (ns : List Int) (rl : List D) : zipD (intL ns) rl = (ns.zip rl).map fun p => D.tup [.int p.1, p.2] := by
  unfold zipD intL
  rw [List.zip_map_left, List.map_map]
  rfl
theorem r_summed : ∀ ds m Qd Qx, F_summed ds m Qd Qx → w_summed { nx := fun _ m' => Qd .non m', rt := Qd } (ds.map some ++ List.replicate (6 - ds.length) none) m := by
  rintro ds m Qd Qx ⟨k, rows, as, rfl, hk, ⟨rl, hs, hd, ho, hl⟩, hb, hal, h⟩
  unfold w_summed
  walk_at "wg"
  have er : (List.range ((k : Int)).toNat).map (fun i : Nat => D.int (0 + (i : Int))) = (List.range k).map fun q : Nat => D.int (q : Int) := by
    rw [Int.toNat_natCast]
    exact List.map_congr_left fun i _ => by rw [Int.zero_add]
  rw [er]
  have hR : rowsOf rows = rl.map decRow := by unfold rowsOf; rw [hs]; rfl
  refine ⟨⟨by omega, by omega⟩, by rw [List.length_map, List.length_range]; omega, ?_⟩
  refine lc_mpA (fun q : Nat => D.int (q : Int)) (fun q => .int (colSum (rowsOf rows) as q)) (List.range k) _ (fun q hq K kk => ?_) ?_
  · have hq := List.mem_range.mp hq
    walk_at "wg"
    refine ⟨_, _, intL as, rl, rfl, rfl, hs, ?_⟩
    rw [zip_rows]
    refine ⟨by rw [List.length_map, List.length_zip]; omega, ?_⟩
    refine lc_mpA (fun p : Int × D => D.tup [.int p.1, p.2]) (fun p => .int (p.1 * (decRow p.2).1.getD q 0)) (as.zip rl) _ (fun p hp K2 kk2 => ?_) ?_
    · have hz := List.of_mem_zip hp
      obtain ⟨a, s, bs, h1, h2, h3, h4⟩ := num_dec (due_rows hd p.2 hz.2)
      refine ⟨rfl, _, _, rfl, _, _, rfl, rfl, ?_⟩
      have oa : okT a := (ho.items hs p.2 hz.2).items h1 a (by simp)
      have hlt : q < bs.length := by omega
      rw [h4] at kk2
      have kk2 : K2 (.int (p.1 * bs.getD q 0)) m := kk2
      have hget : bs.getD q 0 = bs[q] := by rw [List.getD_eq_getElem?_getD, List.getElem?_eq_getElem hlt]; rfl
      rw [hget] at kk2
      have hat : L2.atI (intL bs) (q : Int) = some (.int bs[q]) := by
        refine L2.atI_nat ?_
        unfold intL
        rw [List.getElem?_map, List.getElem?_eq_getElem hlt]; rfl
      have bb : Sett.Bd 600 bs[q] := (oa.bd h2 bs[q] (List.getElem_mem hlt)).up (by decide)
      walk_at "wg"
      refine ix_seq (i := 0) h1 rfl ?_
      refine ix_seq h2 hat ?_
      exact ⟨mul_ok (hb _ hz.1) bb, kk2⟩
    · refine ⟨(as.zip rl).map fun p => p.1 * (decRow p.2).1.getD q 0, ?_, ?_⟩
      · have := ints_of ((as.zip rl).map fun p => p.1 * (decRow p.2).1.getD q 0)
        unfold intL at this
        rw [List.map_map] at this
        exact this
      · have e : colSum (rowsOf rows) as q = ((as.zip rl).map fun p => p.1 * (decRow p.2).1.getD q 0).sum := by
          rw [hR]
          unfold colSum
          rw [List.zip_map_right, List.map_map]
          rfl
        rw [← e]
        exact kk
  · unfold intL at h
    rw [List.map_map] at h
    exact h

end K18
namespace K18
open PySem L2 XO DL GB
local macro_rules | `(tactic| walk_at "wg") => `(tactic| ((try dsimp only); (try rw [a_hold]); (try simp only [List.map_cons, List.map_nil, List.length_cons, List.length_nil, List.cons_append, List.nil_append, List.replicate_succ, List.replicate_zero, Nat.reduceAdd, Nat.reduceSub]); (try simp only [↓a_test, ↓a_v0, ↓a_s0, ↓a_g0, ↓a_v1, ↓a_s1, ↓a_g1, ↓a_v2, ↓a_s2, ↓a_g2, ↓a_v3, ↓a_s3, ↓a_g3, ↓a_v4, ↓a_s4, ↓a_g4, ↓a_v5, ↓a_s5, ↓a_g5, ↓a_v6, ↓a_s6, ↓a_g6, ↓a_v7, ↓a_s7, ↓a_g7, ↓a_v8, ↓a_s8, ↓a_g8, ↓a_v9, ↓a_s9, ↓a_g9, ↓a_v10, ↓a_s10, ↓a_g10, ↓a_v11, ↓a_s11, ↓a_g11, ↓a_v12, ↓a_s12, ↓a_g12, ↓a_v13, ↓a_s13, ↓a_g13, ↓a_v14, ↓a_s14, ↓a_g14, ↓a_v15, ↓a_s15, ↓a_g15, ↓a_v16, ↓a_s16, ↓a_g16, ↓a_v17, ↓a_s17, ↓a_g17, ↓a_v18, ↓a_s18, ↓a_g18, ↓a_v19, ↓a_s19, ↓a_g19, ↓a_v20, ↓a_s20, ↓a_g20, ↓a_v21, ↓a_s21, ↓a_g21, ↓a_v22, ↓a_s22, ↓a_g22, ↓a_v23, ↓a_s23, ↓a_g23, ↓a_v24, ↓a_s24, ↓a_g24, ↓a_v25, ↓a_s25, ↓a_g25, ↓a_v26, ↓a_s26, ↓a_g26, ↓a_v27, ↓a_s27, ↓a_g27, ↓a_star, ↓a_asg2, ↓a_asg4, ↓a_neg, ↓a_zipX, ↓a_callKX, ↓a_get2, ↓a_lcO, ↓a_popAt, ↓a_m0, ↓a_op, ↓a_c, ↓a_call, ↓a_callX, ↓a_call0, ↓a_nil, ↓a_cons, ↓a_bi, ↓a_tnot, ↓a_tor, ↓a_tand, ↓a_tru, ↓a_yes, ↓a_if, ↓a_and, ↓a_or, ↓a_not, ↓a_chain, ↓a_sl, ↓a_noPart, ↓a_part, ↓a_lst, ↓a_tup, ↓a_dct0, ↓a_own, ↓a_isT, ↓a_next, ↓a_seqH, ↓a_ret, ↓a_drop, ↓a_sif, ↓a_raise, ↓a_for, ↓a_iVar, ↓a_fld, ↓a_lc, ↓a_iEnumB, ↓a_iEnumS, ↓a_iSg, ↓a_iLst, ↓a_iTp, ↓a_join, ↓a_lenSet, ↓a_append, ↓a_put, ↓a_par, ↓a_unp, ↓a_meth, ↓a_make, ↓a_rg1, ↓a_gTup, ↓a_gNil, ↓a_gCons, ↓a_loopN, wipeD, List.map_cons, List.map_nil, List.length_cons, List.length_nil, List.cons_append, List.nil_append, List.replicate_succ, List.replicate_zero, List.append_nil, List.getElem?_cons_zero, List.getElem?_cons_succ, List.set_cons_zero, List.set_cons_succ, Nat.reduceAdd, Nat.reduceSub, Bool.not_true, Bool.not_false, reduceIte, Bool.false_eq_true, true_and])))
theorem okAm.ty {x : D} (h : okAm x) : isTyped x = true := by
  rcases h with h | ⟨ds, rfl | rfl, _⟩
  · exact h.ty
  · rfl
  · rfl
theorem okAm.items {ds : List D} (h : okAm (.tup ds)) : ∀ d ∈ ds, okT d ∨ ∃ i, d = .int i ∧ Sett.Bd 600 i := by
  rcases h with h | ⟨es, e | e, h1, h2⟩
  · exact fun d hd => .inl (h.items rfl d hd)
  · cases e
    intro d hd
    rcases h2 d hd with h | h
    · exact .inl ⟨0, h⟩
    · exact .inr h
  · cases e
def natI : D → Bool
  | .int i => decide (0 ≤ i)
  | _ => false
theorem nat_whole {ds : List D} (h : ds.all natI = true) : ds.all isWhole = true := by
  rw [List.all_eq_true] at h ⊢
  intro d hd
  have := h d hd
  cases d <;> first | rfl | cases this
theorem shows_tup (k : Nat) (R : List (List Int × Bool)) (ds : List D) : showsB k R (.tup ds) = (decide (ds.length = R.length) && ds.all natI && ((List.range k).all fun q => decide (colSum R (ds.map toI) q ≤ 0)) &&
    (((List.range k).any fun q => decide (colSum R (ds.map toI) q < 0)) || ((ds.map toI).zip R).any fun p => p.2.2 && decide (0 < p.1))) := rfl
theorem max_le {k : Nat} (hk : 0 < k) {f : Nat → Int} {m : Mem} {Q : D → Mem → Prop} (q : ∀ i : Int, decide (i ≤ 0) = ((List.range k).all fun q => decide (f q ≤ 0)) → Q (.int i) m) : dMaxL [.lst (intL ((List.range k).map f))] m Q := by
  refine ⟨(List.range k).map f, rfl, by rw [List.length_map, List.length_range]; exact hk, fun i hi hm => q i ?_⟩
  obtain ⟨j, hj, rfl⟩ := List.mem_map.mp hi
  rw [Bool.eq_iff_iff, decide_eq_true_eq, List.all_eq_true]
  constructor
  · intro h x hx
    have := hm (f x) (List.mem_map_of_mem hx)
    exact decide_eq_true (by omega)
  · intro h
    exact of_decide_eq_true (h j hj)
theorem min_lt {k : Nat} (hk : 0 < k) {f : Nat → Int} {m : Mem} {Q : D → Mem → Prop} (q : ∀ i : Int, decide (i < 0) = ((List.range k).any fun q => decide (f q < 0)) → Q (.int i) m) : dMinL [.lst (intL ((List.range k).map f))] m Q := by
  refine ⟨(List.range k).map f, rfl, by rw [List.length_map, List.length_range]; exact hk, fun i hi hm => q i ?_⟩
  obtain ⟨j, hj, rfl⟩ := List.mem_map.mp hi
  rw [Bool.eq_iff_iff, decide_eq_true_eq, List.any_eq_true]
  constructor
  · intro h
    exact ⟨j, hj, decide_eq_true h⟩
  · rintro ⟨x, hx, h⟩
    have := hm (f x) (List.mem_map_of_mem hx)
    have := of_decide_eq_true h
    omega
theorem isi_tup {x : D} {m : Mem} {Q : D → Mem → Prop} (hx : isTyped x = true) (q : Q (.bl (match x with | .tup _ => true | _ => false)) m) : dIsi [x, .ty "tuple"] m Q := by
  refine ⟨hx, _, isa_tuple, ?_⟩
  cases x <;> exact q
theorem nat_items {ds : List D} {o : En0} {m : Mem} {Q : D → Mem → Prop} {Qx : XQ} (ho : o.length = 7) (hi : ∀ d ∈ ds, okT d ∨ ∃ i, d = .int i ∧ Sett.Bd 600 i) (q : Q (.lst (ds.map fun d => .bl (natI d))) m) :
    wLcGo (gvName 5) tvYes (wAnd (wCall F_is_whole (wCons (wVar 5) wNil)) (wOp dGe (wVar 5) (wC (D.int 0)))) o Qx ds [] m Q := by
  match o, ho with
  | [o0, o1, o2, o3, o4, o5, o6], _ =>
    have go := lc_mpA (g := gvName 5) (te := wAnd (wCall F_is_whole (wCons (wVar 5) wNil)) (wOp dGe (wVar 5) (wC (D.int 0)))) (ρ := [o0, o1, o2, o3, o4, o5, o6]) (Qx := Qx) (m := m) id (fun d => .bl (natI d)) ds Q (fun d hd K k => by
      refine ⟨d, rfl, (hi d hd).imp id fun ⟨i, e, _⟩ => ⟨i, e⟩, ?_⟩
      cases d <;> exact k) q
    rw [List.map_id] at go
    exact go
theorem bls_pairs {α : Type} (f : α → Bool) : ∀ xs : List α, blsD (xs.map fun a => .bl (f a)) = some (xs.map f)
  | [] => rfl
  | d :: ds => by
    rw [List.map_cons, List.map_cons]
    unfold blsD
    rw [bls_pairs f ds]
    rfl
theorem r_shows_sum : ∀ ds m Qd Qx, F_shows_sum ds m Qd Qx → w_shows_sum { nx := fun _ m' => Qd .non m', rt := Qd, ex := Qx } (ds.map some ++ List.replicate (7 - ds.length) none) m := by
  rintro ds m Qd Qx ⟨many, rows, x, rfl, hm, hr, h⟩
  unfold w_shows_sum
  walk_at "wg"
  refine ⟨many, rows, rfl, hm, hr, ?_⟩
  cases hd : dueRows many rows with
  | some f =>
    rw [hd] at h
    exact h
  | none =>
    rw [hd] at h
    obtain ⟨hx, hl, h⟩ := h
    have hb : inB 1 4 many = true := by
      cases hb : inB 1 4 many with
      | true => rfl
      | false => rw [due_bad hb] at hd; cases hd
    obtain ⟨k0, rfl, k1, k4, e⟩ := due_many (rows := rows) hb
    rw [e] at hd
    obtain ⟨k, rfl⟩ : ∃ k : Nat, k0 = (k : Int) := ⟨k0.toNat, by omega⟩
    have h := h k rfl
    cases hs : seqA rows with
    | none => rw [hs] at hd; cases hd
    | some rl =>
      rw [hs] at hd
      have hd : dueL k rl = none := hd
      have hR : rowsOf rows = rl.map decRow := by unfold rowsOf; rw [hs]; rfl
      walk_at "wg"
      refine isi_tup hx.ty ?_
      cases x with
      | tup ds =>
        refine if_f rfl ?_
        rw [shows_tup] at h
        have hi := hx.items
        refine len_seq (ds := ds) rfl ?_
        refine len_seq hs ?_
        refine ne_int ?_
        have el : decide ((ds.length : Int) = (rl.length : Nat)) = decide (ds.length = rl.length) := dec_eq rfl rfl
        have elR : (rowsOf rows).length = rl.length := by rw [hR, List.length_map]
        rw [el]
        rw [elR] at h hl
        by_cases cl : ds.length = rl.length
        · refine if_f (by rw [decide_eq_true cl]; rfl) ?_
          rw [decide_eq_true cl, Bool.true_and] at h
          walk_at "wg"
          refine ⟨by omega, ?_⟩
          refine nat_items (o := [some (.int (k : Nat)), some rows, some (.tup ds), none, none, none, none]) rfl hi ?_
          refine ⟨_, bls_map natI ds, ?_⟩
          show if (!(ds.map natI).all id) = true then _ else _
          rw [List.all_map]
          have ea : ds.all (id ∘ natI) = ds.all natI := rfl
          rw [ea]
          cases ca : ds.all natI with
          | false =>
            rw [ca] at h
            exact h
          | true =>
            rw [ca, Bool.true_and] at h
            refine if_f rfl ?_
            have es : ds = intL (ds.map toI) := ints_all (nat_whole ca)
            have hq := h
            generalize hv : ds.map toI = vs at *
            subst es
            have hvl : vs.length = rl.length := by
              unfold intL at cl
              rw [List.length_map] at cl; exact cl
            have hvb : ∀ n ∈ vs, Sett.Bd 600 n := by
              intro n hn
              rcases hi (.int n) (List.mem_map_of_mem hn) with ho | ⟨i, e, hb⟩
              · exact (bd_ten ho.int).up (by decide)
              · cases e; exact hb
            walk_at "wg"
            refine ⟨k, rows, vs, rfl, by omega, ⟨rl, hs, hd, hr, hl⟩, hvb, by omega, ?_⟩
            walk_at "wg"
            refine ⟨_, _, intL vs, rl, rfl, rfl, hs, ?_⟩
            rw [zip_rows]
            refine ⟨by rw [List.length_map, List.length_zip]; omega, ?_⟩
            refine lc_mpA (fun p : Int × D => D.tup [.int p.1, p.2]) (fun p => .bl ((decRow p.2).2 && decide (0 < p.1))) (vs.zip rl) _ (fun p hp K2 kk2 => ?_) ?_
            · have hz := List.of_mem_zip hp
              obtain ⟨a, s, bs, h1, h2, h3, h4⟩ := num_dec (due_rows hd p.2 hz.2)
              rw [h4] at kk2
              refine ⟨rfl, _, _, rfl, _, _, rfl, rfl, ?_⟩
              walk_at "wg"
              refine ix_seq (i := 1) h1 rfl ?_
              cases s with
              | true => exact kk2
              | false => exact kk2
            · refine ⟨(vs.zip rl).map fun p => (decRow p.2).2 && decide (0 < p.1), bls_pairs _ _, ?_⟩
              have e3 : ((vs.zip rl).map fun p => (decRow p.2).2 && decide (0 < p.1)).any id = (vs.zip (rowsOf rows)).any fun p => p.2.2 && decide (0 < p.1) := by
                rw [hR, List.zip_map_right, List.any_map, List.any_map]
                rfl
              walk_at "wg"
              rw [e3]
              refine max_le (by omega) fun i1 e1 => ?_
              show if decide (i1 ≤ 0) = true then _ else _
              rw [e1]
              refine ifb (fun c1 => ?_) (fun c1 => ?_)
              · rw [c1, Bool.true_and] at hq
                refine min_lt (by omega) fun i2 e2 => ?_
                show if decide (i2 < 0) = true then _ else _
                rw [e2]
                refine ifb (fun c2 => ?_) (fun c2 => ?_)
                · rw [c2, Bool.true_or] at hq
                  exact hq
                · rw [c2, Bool.false_or] at hq
                  exact hq
              · rw [c1, Bool.false_and] at hq
                exact hq
        · refine if_t (by rw [decide_eq_false cl]; rfl) ?_
          rw [decide_eq_false cl] at h
          exact h
      | _ => exact h

end K18
namespace K18
open PySem L2 XO DL GB
local macro_rules | `(tactic| walk_at "wg") => `(tactic| ((try dsimp only); (try rw [a_hold]); (try simp only [List.map_cons, List.map_nil, List.length_cons, List.length_nil, List.cons_append, List.nil_append, List.replicate_succ, List.replicate_zero, Nat.reduceAdd, Nat.reduceSub]); (try simp only [↓a_test, ↓a_v0, ↓a_s0, ↓a_g0, ↓a_v1, ↓a_s1, ↓a_g1, ↓a_v2, ↓a_s2, ↓a_g2, ↓a_v3, ↓a_s3, ↓a_g3, ↓a_v4, ↓a_s4, ↓a_g4, ↓a_v5, ↓a_s5, ↓a_g5, ↓a_v6, ↓a_s6, ↓a_g6, ↓a_v7, ↓a_s7, ↓a_g7, ↓a_v8, ↓a_s8, ↓a_g8, ↓a_v9, ↓a_s9, ↓a_g9, ↓a_v10, ↓a_s10, ↓a_g10, ↓a_v11, ↓a_s11, ↓a_g11, ↓a_v12, ↓a_s12, ↓a_g12, ↓a_v13, ↓a_s13, ↓a_g13, ↓a_v14, ↓a_s14, ↓a_g14, ↓a_v15, ↓a_s15, ↓a_g15, ↓a_v16, ↓a_s16, ↓a_g16, ↓a_v17, ↓a_s17, ↓a_g17, ↓a_v18, ↓a_s18, ↓a_g18, ↓a_v19, ↓a_s19, ↓a_g19, ↓a_v20, ↓a_s20, ↓a_g20, ↓a_v21, ↓a_s21, ↓a_g21, ↓a_v22, ↓a_s22, ↓a_g22, ↓a_v23, ↓a_s23, ↓a_g23, ↓a_v24, ↓a_s24, ↓a_g24, ↓a_v25, ↓a_s25, ↓a_g25, ↓a_v26, ↓a_s26, ↓a_g26, ↓a_v27, ↓a_s27, ↓a_g27, ↓a_star, ↓a_asg2, ↓a_asg4, ↓a_neg, ↓a_zipX, ↓a_callKX, ↓a_get2, ↓a_lcO, ↓a_popAt, ↓a_m0, ↓a_op, ↓a_c, ↓a_call, ↓a_callX, ↓a_call0, ↓a_nil, ↓a_cons, ↓a_bi, ↓a_tnot, ↓a_tor, ↓a_tand, ↓a_tru, ↓a_yes, ↓a_if, ↓a_and, ↓a_or, ↓a_not, ↓a_chain, ↓a_sl, ↓a_noPart, ↓a_part, ↓a_lst, ↓a_tup, ↓a_dct0, ↓a_own, ↓a_isT, ↓a_next, ↓a_seqH, ↓a_ret, ↓a_drop, ↓a_sif, ↓a_raise, ↓a_for, ↓a_iVar, ↓a_fld, ↓a_lc, ↓a_iEnumB, ↓a_iEnumS, ↓a_iSg, ↓a_iLst, ↓a_iTp, ↓a_join, ↓a_lenSet, ↓a_append, ↓a_put, ↓a_par, ↓a_unp, ↓a_meth, ↓a_make, ↓a_rg1, ↓a_gTup, ↓a_gNil, ↓a_gCons, ↓a_loopN, wipeD, List.map_cons, List.map_nil, List.length_cons, List.length_nil, List.cons_append, List.nil_append, List.replicate_succ, List.replicate_zero, List.append_nil, List.getElem?_cons_zero, List.getElem?_cons_succ, List.set_cons_zero, List.set_cons_succ, Nat.reduceAdd, Nat.reduceSub, Bool.not_true, Bool.not_false, reduceIte, Bool.false_eq_true, true_and])))
theorem pad_bd {ns : List Int} (h : ∀ n ∈ ns, Sett.Bd 60 n) (j : Nat) : Sett.Bd 60 ((pad4 ns).getD j 0) := by
  rw [List.getD_eq_getElem?_getD]
  cases e : (pad4 ns)[j]? with
  | none => exact Sett.Bd.zero
  | some v =>
    have hv : v ∈ pad4 ns := List.mem_of_getElem? e
    unfold pad4 at hv
    rcases List.mem_append.mp (List.mem_of_mem_take hv) with hv | hv
    · exact h v hv
    · simp only [List.mem_cons, List.not_mem_nil, or_false] at hv
      have : v = 0 := by omega
      subst this
      exact Sett.Bd.zero
theorem pad_len (ns : List Int) : (pad4 ns).length = 4 := by
  unfold pad4
  rw [List.length_take, List.length_append]
  simp only [List.length_cons, List.length_nil]
  omega
theorem row_pad (p : List Int × Bool) : D.tup (intL (pad4 p.1 ++ [if p.2 = true then 1 else 0])) = rowD (rwOf p) := by
  have hl := pad_len p.1
  unfold rowD rwOf
  generalize pad4 p.1 = l at *
  match l, hl with
  | [a, b, c, d], _ => rfl
theorem bl_known {R : List (List Int × Bool)} (hl : R.length ≤ 900) (hb : ∀ r ∈ R, ∀ n ∈ r.1, Sett.Bd 60 n) : BL (R.map rwOf ++ units) := by
  refine ⟨?_, fun r hr p hp => ?_⟩
  · rw [List.length_append, List.length_map]
    show _ + 4 ≤ _
    omega
  · rcases List.mem_append.mp hr with hr | hr
    · obtain ⟨q, hq, rfl⟩ := List.mem_map.mp hr
      exact pad_bd (hb q hq) p
    · have : ∃ q, r = unitR q := by
        unfold units at hr
        simp only [List.mem_cons, List.not_mem_nil, or_false] at hr
        rcases hr with rfl | rfl | rfl | rfl <;> exact ⟨_, rfl⟩
      obtain ⟨q, rfl⟩ := this
      show Sett.Bd 60 (if p = q then 1 else 0)
      split
      · unfold Sett.Bd; decide
      · exact Sett.Bd.zero
theorem rs_left {R : List (List Int × Bool)} {i : Nat} (h : i < R.length) : rsOf (R.map rwOf ++ units) i = rwOf R[i] := by
  unfold rsOf
  rw [List.getD_eq_getElem?_getD, List.getElem?_append_left (by rw [List.length_map]; exact h), List.getElem?_map, List.getElem?_eq_getElem h]
  rfl
theorem rs_right {R : List (List Int × Bool)} {q : Nat} (h : q < 4) : rsOf (R.map rwOf ++ units) (R.length + q) = unitR q := by
  unfold rsOf
  rw [List.getD_eq_getElem?_getD, List.getElem?_append_right (by rw [List.length_map]; omega), List.length_map, Nat.add_sub_cancel_left]
  rcases Adj.lt4 h with rfl | rfl | rfl | rfl <;> rfl
theorem known_len (R : List (List Int × Bool)) : (R.map rwOf ++ units).length = R.length + 4 := by
  rw [List.length_append, List.length_map]; rfl
theorem cn_units (R : List (List Int × Bool)) : Sett.Cn (R.map rwOf ++ units).length (rsOf (R.map rwOf ++ units)) (fun j => R.length + j) idM := by
  refine ⟨fun j hj => ?_, fun j hj p => ?_, by decide⟩
  · rw [known_len]; omega
  · rw [rs_right hj]
    show (if j = p then (1 : Int) else 0) = if p = j then 1 else 0
    by_cases e : j = p
    · rw [if_pos e, if_pos e.symm]
    · rw [if_neg e, if_neg (Ne.symm e)]
theorem unit_av {R : List (List Int × Bool)} {q : Nat} (h : q < 4) (x : Nat → Int) : Sett.av (rsOf (R.map rwOf ++ units)) (R.length + q) x = x q := by
  unfold Sett.av
  rw [rs_right h]
  rcases Adj.lt4 h with rfl | rfl | rfl | rfl <;> simp [Adj.s4, unitR]
theorem good_of {R : List (List Int × Bool)} {k : Nat} {x : Nat → Int} {sz : Int} (h0 : 0 < sz) (h : ∀ i, i < (R.map rwOf ++ units).length → sz * Sett.bi (rsOf (R.map rwOf ++ units) i) ≤ Sett.av (rsOf (R.map rwOf ++ units)) i x) : GoodCosts k R x := by
  rw [known_len] at h
  have un : ∀ p, p < 4 → sz ≤ x p := by
    intro p hp
    have := h (R.length + p) (by omega)
    rw [unit_av hp, rs_right hp] at this
    have this : sz * 1 ≤ x p := this
    omega
  refine ⟨fun p hp => by have := un p hp; omega, sz, h0, fun r hr => ?_, un⟩
  obtain ⟨i, hi, rfl⟩ := List.mem_iff_getElem.mp hr
  have := h i (by omega)
  unfold Sett.av at this
  rw [rs_left hi] at this
  exact this
theorem cut_vec (x : Nat → Int) {k : Nat} (hk : k ≤ 4) : cutD (vecD x) none (some (k : Int)) = intL ((List.range k).map x) := by
  have : k = 0 ∨ k = 1 ∨ k = 2 ∨ k = 3 ∨ k = 4 := by omega
  rcases this with rfl | rfl | rfl | rfl | rfl <;> rfl
theorem am_pairs (am : List (Nat × Int)) : pairsD (am.map fun p => .inl (p.1 : Int)) (am.map fun p => .int p.2) = am.map fun p => pairD (natP p) := by
  induction am with
  | nil => rfl
  | cons p am ih =>
    show D.tup [keyD (.inl (p.1 : Int)), .int p.2] :: pairsD (am.map fun p => .inl (p.1 : Int)) (am.map fun p => .int p.2) = _
    rw [ih]; rfl
theorem am_nodup {am : List (Nat × Int)} (h : (am.map (·.1)).Nodup) : (am.map fun p => (Sum.inl (p.1 : Int) : Key)).Nodup := by
  have e : (am.map fun p => (Sum.inl (p.1 : Int) : Key)) = (am.map (·.1)).map fun i : Nat => (Sum.inl (i : Int) : Key) := by rw [List.map_map]; rfl
  rw [e, List.Nodup, List.pairwise_map]
  refine List.Pairwise.imp (fun hne e => hne ?_) h
  injection e with e
  exact Int.ofNat.inj e
theorem find_am (i : Nat) (x : D) : ∀ am : List (Nat × Int), (findD (am.map fun p => .inl (p.1 : Int)) (am.map fun p => .int p.2) (.inl (i : Int))).getD x = (match am.lookup i with
    | some v => .int v
    | none => x)
  | [] => rfl
  | p :: am => by
    rw [List.map_cons, List.map_cons]
    unfold findD
    by_cases e : p.1 = i
    · rw [if_pos (by rw [e])]
      have : (p :: am).lookup i = some p.2 := by
        unfold List.lookup
        subst e
        simp
      rw [this]; rfl
    · rw [if_neg (by intro h; injection h with h; exact e (Int.ofNat.inj h)), find_am i x am]
      have : (p :: am).lookup i = am.lookup i := by
        rw [List.lookup_cons]
        have : (i == p.1) = false := by rw [beq_eq_false_iff_ne]; exact Ne.symm e
        rw [this]
      rw [this]
theorem look_mem {i : Nat} {v : Int} : ∀ {am : List (Nat × Int)}, am.lookup i = some v → (i, v) ∈ am
  | p :: am, h => by
    rw [List.lookup_cons] at h
    cases e : (i == p.1) with
    | true =>
      rw [e] at h
      have e := eq_of_beq e
      cases h
      rw [e]; exact List.mem_cons_self
    | false =>
      rw [e] at h
      exact List.mem_cons_of_mem _ (look_mem h)
theorem sl_vec {x : Nat → Int} {k : Nat} {m : Mem} {Q : D → Mem → Prop} (hk : k ≤ 4) (q : Q (.tup (intL ((List.range k).map x))) m) : dSl (.tup (vecD x)) none (some (k : Int)) m Q := by
  show Q (.tup (cutD (vecD x) none (some (k : Int)))) m
  rw [cut_vec x hk]; exact q
theorem range_ints (k : Nat) : (List.range ((k : Nat) : Int).toNat).map (fun i : Nat => D.int (0 + (i : Int))) = (List.range k).map fun q : Nat => D.int (q : Int) := by
  rw [Int.toNat_natCast]
  exact List.map_congr_left fun i _ => by rw [Int.zero_add]
theorem r_settle : ∀ ds m Qd Qx, F_settle ds m Qd Qx → w_settle { nx := fun _ m' => Qd .non m', rt := Qd, ex := Qx } (ds.map some ++ List.replicate (10 - ds.length) none) m := by
  rintro ds m Qd Qx ⟨many, rows, rfl, hm, hr, h⟩
  unfold w_settle
  walk_at "wg"
  refine ⟨many, rows, rfl, hm, hr, ?_⟩
  cases hd : dueRows many rows with
  | some f =>
    rw [hd] at h
    exact h
  | none =>
    rw [hd] at h
    obtain ⟨hb5, hl, h⟩ := h
    have hb : inB 1 4 many = true := by
      cases hb : inB 1 4 many with
      | true => rfl
      | false => rw [due_bad hb] at hd; cases hd
    obtain ⟨k0, rfl, k1, k4, e⟩ := due_many (rows := rows) hb
    rw [e] at hd
    obtain ⟨k, rfl⟩ : ∃ k : Nat, k0 = (k : Int) := ⟨k0.toNat, by omega⟩
    obtain ⟨hc, hsum⟩ := h k rfl
    cases hs : seqA rows with
    | none => rw [hs] at hd; cases hd
    | some rl =>
      rw [hs] at hd
      have hd : dueL k rl = none := hd
      have hR : rowsOf rows = rl.map decRow := by unfold rowsOf; rw [hs]; rfl
      have hRl : (rowsOf rows).length = rl.length := by rw [hR, List.length_map]
      generalize hRR : rowsOf rows = R at *
      walk_at "wg"
      have hrows : ∀ (Q : D → Mem → Prop) (o0 o1 o2 o3 o4 o5 o6 o7 o8 o9 : Option D), Q (.lst (R.map fun p => rowD (rwOf p))) m →
          wLcGo (gvSeq 2 (gvCons (gvName 7) (gvCons (gvName 8) gvNil))) tvYes (wCall F_row_in_four (wCons (wVar 7) (wCons (wVar 8) wNil))) [o0, o1, o2, o3, o4, o5, o6, o7, o8, o9] Qx rl [] m Q := by
        intro Q o0 o1 o2 o3 o4 o5 o6 o7 o8 o9 q
        have go := lc_mpA (g := gvSeq 2 (gvCons (gvName 7) (gvCons (gvName 8) gvNil))) (te := wCall F_row_in_four (wCons (wVar 7) (wCons (wVar 8) wNil))) (ρ := [o0, o1, o2, o3, o4, o5, o6, o7, o8, o9]) (Qx := Qx) (m := m) id (fun d => rowD (rwOf (decRow d))) rl Q (fun d hdm K kk => by
          obtain ⟨a, s, bs, h1, h2, h3, h4⟩ := num_dec (due_rows hd d hdm)
          refine ⟨_, h1, rfl, _, _, rfl, _, _, rfl, rfl, ?_⟩
          refine ⟨a, bs, s, rfl, h2, by omega, ?_⟩
          rw [h4, ← row_pad] at kk
          exact kk) (by rw [hR, List.map_map] at q; exact q)
        rw [List.map_id] at go
        exact go
      have hunits : (.tup (units.map rowD) : D) = d_UNIT_ROWS := rfl
      have hbl := bl_known hl hb5
      have hcn := cn_units R
      rcases seq_or hs with rfl | rfl
      all_goals
        refine ⟨by omega, ?_⟩
        refine hrows _ _ _ _ _ _ _ _ _ _ _ ?_
        rw [← hunits]
        refine ⟨small_line (by rw [List.length_map, List.length_map]; show _ + 4 ≤ _; omega), ?_⟩
        have ek : (R.map fun p => rowD (rwOf p)) ++ units.map rowD = (R.map rwOf ++ units).map rowD := by
          rw [List.map_append, List.map_map]; rfl
        rw [ek]
        walk_at "wg"
        refine len_seq hs ?_
        rw [← hRl]
        refine ⟨R.length, rfl, ?_⟩
        refine ⟨R.map rwOf ++ units, idM, fun j => R.length + j, rfl, hbl, hcn, fun m' c x sz hsub h0 hkeep hbx => ?_, fun m' c am hsub ce => ?_⟩
        · refine ⟨_, Or.inr (Or.inl rfl), rfl, ?_⟩
          walk_at "wg"
          walk_at "wg"
          refine isb_non ?_
          walk_at "wg"
          refine sl_vec (by omega) ?_
          refine ⟨(List.range k).map x, rfl, by rw [List.length_map, List.length_range]; omega, fun n hn => ?_, ?_⟩
          · obtain ⟨i, hi, rfl⟩ := List.mem_map.mp hn
            exact (hbx i (by have := List.mem_range.mp hi; omega)).up (by decide)
          · exact ⟨small_line (n := 2) (by decide), hc m' x hsub (good_of h0 hkeep) hbx⟩
        · refine ⟨_, Or.inr (Or.inl rfl), rfl, ?_⟩
          walk_at "wg"
          walk_at "wg"
          refine isb_lst ?_
          walk_at "wg"
          refine ⟨am.map fun p => .inl (p.1 : Int), am.map fun p => .int p.2, by rw [am_pairs], by rw [List.length_map, List.length_map], am_nodup ce.nd, ?_⟩
          walk_at "wg"
          refine len_seq hs ?_
          rw [← hRl]
          walk_at "wg"
          rw [range_ints]
          refine ⟨⟨by omega, by omega⟩, by rw [List.length_map, List.length_range]; omega, ?_⟩
          refine lc_mpA (fun q : Nat => D.int (q : Int)) (fun i => .int (amOf am i)) (List.range R.length) _ (fun i hi K kk => ?_) ?_
          · have e : (findD (am.map fun p => .inl (p.1 : Int)) (am.map fun p => .int p.2) (.inl (i : Int))).getD (.int 0) = .int (amOf am i) := by
              rw [find_am]
              unfold amOf
              cases am.lookup i <;> rfl
            rw [← e] at kk
            exact ⟨trivial, kk⟩
          · have e : (List.range R.length).map (fun i => D.int (amOf am i)) = intL ((List.range R.length).map (amOf am)) := by
              unfold intL
              rw [List.map_map]; rfl
            rw [e]
            refine ⟨(List.range R.length).map (amOf am), rfl, by rw [List.length_map, List.length_range]; omega, fun n hn => ?_, ?_⟩
            · obtain ⟨i, hi, rfl⟩ := List.mem_map.mp hn
              unfold amOf
              cases hlk : am.lookup i with
              | none => exact Sett.Bd.zero
              | some v => exact (ce.ok _ (look_mem hlk)).2.2.up (by decide)
            · exact ⟨small_line (n := 2) (by decide), hsum m' am hsub ce⟩

end K18
namespace K18
open PySem L2 XO DL GB
local macro_rules | `(tactic| walk_at "wg") => `(tactic| ((try dsimp only); (try rw [a_hold]); (try simp only [List.map_cons, List.map_nil, List.length_cons, List.length_nil, List.cons_append, List.nil_append, List.replicate_succ, List.replicate_zero, Nat.reduceAdd, Nat.reduceSub]); (try simp only [↓a_test, ↓a_v0, ↓a_s0, ↓a_g0, ↓a_v1, ↓a_s1, ↓a_g1, ↓a_v2, ↓a_s2, ↓a_g2, ↓a_v3, ↓a_s3, ↓a_g3, ↓a_v4, ↓a_s4, ↓a_g4, ↓a_v5, ↓a_s5, ↓a_g5, ↓a_v6, ↓a_s6, ↓a_g6, ↓a_v7, ↓a_s7, ↓a_g7, ↓a_v8, ↓a_s8, ↓a_g8, ↓a_v9, ↓a_s9, ↓a_g9, ↓a_v10, ↓a_s10, ↓a_g10, ↓a_v11, ↓a_s11, ↓a_g11, ↓a_v12, ↓a_s12, ↓a_g12, ↓a_v13, ↓a_s13, ↓a_g13, ↓a_v14, ↓a_s14, ↓a_g14, ↓a_v15, ↓a_s15, ↓a_g15, ↓a_v16, ↓a_s16, ↓a_g16, ↓a_v17, ↓a_s17, ↓a_g17, ↓a_v18, ↓a_s18, ↓a_g18, ↓a_v19, ↓a_s19, ↓a_g19, ↓a_v20, ↓a_s20, ↓a_g20, ↓a_v21, ↓a_s21, ↓a_g21, ↓a_v22, ↓a_s22, ↓a_g22, ↓a_v23, ↓a_s23, ↓a_g23, ↓a_v24, ↓a_s24, ↓a_g24, ↓a_v25, ↓a_s25, ↓a_g25, ↓a_v26, ↓a_s26, ↓a_g26, ↓a_v27, ↓a_s27, ↓a_g27, ↓a_star, ↓a_asg2, ↓a_asg4, ↓a_neg, ↓a_zipX, ↓a_callKX, ↓a_get2, ↓a_lcO, ↓a_popAt, ↓a_m0, ↓a_op, ↓a_c, ↓a_call, ↓a_callX, ↓a_call0, ↓a_nil, ↓a_cons, ↓a_bi, ↓a_tnot, ↓a_tor, ↓a_tand, ↓a_tru, ↓a_yes, ↓a_if, ↓a_and, ↓a_or, ↓a_not, ↓a_chain, ↓a_sl, ↓a_noPart, ↓a_part, ↓a_lst, ↓a_tup, ↓a_dct0, ↓a_own, ↓a_isT, ↓a_next, ↓a_seqH, ↓a_ret, ↓a_drop, ↓a_sif, ↓a_raise, ↓a_for, ↓a_iVar, ↓a_fld, ↓a_lc, ↓a_iEnumB, ↓a_iEnumS, ↓a_iSg, ↓a_iLst, ↓a_iTp, ↓a_join, ↓a_lenSet, ↓a_append, ↓a_put, ↓a_par, ↓a_unp, ↓a_meth, ↓a_make, ↓a_rg1, ↓a_gTup, ↓a_gNil, ↓a_gCons, ↓a_loopN, wipeD, List.map_cons, List.map_nil, List.length_cons, List.length_nil, List.cons_append, List.nil_append, List.replicate_succ, List.replicate_zero, List.append_nil, List.getElem?_cons_zero, List.getElem?_cons_succ, List.set_cons_zero, List.set_cons_succ, Nat.reduceAdd, Nat.reduceSub, Bool.not_true, Bool.not_false, reduceIte, Bool.false_eq_true, true_and])))
/-! ### costs and sums exclude each other; what each shows -/
def Lr (R : List (List Int × Bool)) : List Sett.Rw := R.map rwOf ++ units
theorem KeepR.at {R : List (List Int × Bool)} {sz : Int} {x : Nat → Int} (h : KeepR R sz x) {i : Nat} (hi : i < (Lr R).length) : sz * Sett.bi (rsOf (Lr R) i) ≤ Sett.av (rsOf (Lr R)) i x := by
  have hl : (Lr R).length = R.length + 4 := known_len R
  by_cases c : i < R.length
  · unfold Sett.av Lr
    rw [rs_left c]
    exact h.row _ (List.getElem_mem c)
  · obtain ⟨q, rfl⟩ : ∃ q, i = R.length + q := ⟨i - R.length, by omega⟩
    have hq : q < 4 := by omega
    unfold Lr
    rw [unit_av hq, rs_right hq]
    show sz * 1 ≤ x q
    have := h.unit q hq
    omega
theorem lin_sum (rs : Nat → Sett.Rw) (x : Nat → Int) : ∀ am : List (Nat × Int), (am.map fun p => p.2 * Sett.av rs p.1 x).sum = Adj.s4 fun q => (am.map fun p => p.2 * (rs p.1).v q).sum * x q
  | [] => by simp [Adj.s4]
  | p :: am => by
    rw [List.map_cons, List.sum_cons, lin_sum rs x am]
    simp only [List.map_cons, List.sum_cons, Sett.av, Adj.s4]
    grind
theorem mono_sum {f g : Nat → Int} {sz : Int} : ∀ am : List (Nat × Int), (∀ p ∈ am, 0 < p.2 ∧ sz * f p.1 ≤ g p.1) → sz * (am.map fun p => p.2 * f p.1).sum ≤ (am.map fun p => p.2 * g p.1).sum
  | [], _ => by simp
  | p :: am, h => by
    rw [List.map_cons, List.sum_cons, List.map_cons, List.sum_cons]
    have h1 := h p List.mem_cons_self
    have h2 := mono_sum am fun q hq => h q (List.mem_cons_of_mem _ hq)
    have h3 : p.2 * (sz * f p.1) ≤ p.2 * g p.1 := Int.mul_le_mul_of_nonneg_left h1.2 (Int.le_of_lt h1.1)
    have e : sz * (p.2 * f p.1 + (am.map fun p => p.2 * f p.1).sum) = p.2 * (sz * f p.1) + sz * (am.map fun p => p.2 * f p.1).sum := by grind
    rw [e]
    omega
theorem no_cert {R : List (List Int × Bool)} {sz : Int} {x : Nat → Int} {am : List (Nat × Int)} (h : KeepR R sz x) (c : Cert (Lr R) am) : False := by
  have m := mono_sum (f := fun i => Sett.bi (rsOf (Lr R) i)) (g := fun i => Sett.av (rsOf (Lr R)) i x) (sz := sz) am fun p hp => ⟨(c.ok p hp).2.1, h.at (c.ok p hp).1⟩
  have e := lin_sum (rsOf (Lr R)) x am
  have z := c.zero
  have z0 := z 0 (by omega)
  have z1 := z 1 (by omega)
  have z2 := z 2 (by omega)
  have z3 := z 3 (by omega)
  have e0 : (Adj.s4 fun q => (am.map fun p => p.2 * (rsOf (Lr R) p.1).v q).sum * x q) = 0 := by
    unfold Adj.s4
    simp only [z0, z1, z2, z3]
    simp
  have p := c.pos
  have hp : 0 < sz * (am.map fun p => p.2 * Sett.bi (rsOf (Lr R) p.1)).sum := Int.mul_pos h.pos p
  rw [e0] at e
  have m : sz * (am.map fun p => p.2 * Sett.bi (rsOf (Lr R) p.1)).sum ≤ (am.map fun p => p.2 * Sett.av (rsOf (Lr R)) p.1 x).sum := m
  rw [e] at m
  omega
theorem KeepR.less {R S : List (List Int × Bool)} {sz : Int} {x : Nat → Int} (h : KeepR (R ++ S) sz x) : KeepR R sz x :=
  ⟨h.pos, fun r hr => h.row r (List.mem_append_left _ hr), h.unit⟩
/-! costs, scaled -/
def w01 (b : Bool) : Int := if b then 1 else 0
theorem dot_s4 {k : Nat} {r : List Int × Bool} (x : Nat → Int) (hr : r.1.length = k) (hk : k ≤ 4) : dotL r.1 ((List.range k).map x) = Adj.s4 fun p => (rwOf r).v p * x p := by
  unfold dotL rwOf Adj.s4 pad4
  subst hr
  rcases r with ⟨l, b⟩
  rcases l with _ | ⟨a, _ | ⟨a2, _ | ⟨a3, _ | ⟨a4, _ | ⟨a5, l⟩⟩⟩⟩⟩
  · simp
  · simp [List.range_succ]
  · simp [List.range_succ]
  · simp [List.range_succ]; omega
  · simp [List.range_succ]; omega
  · simp at hk
theorem gcd_dvd : ∀ (ns : List Int) (g : Nat), gcdF g ns ∣ g ∧ ∀ n ∈ ns, gcdF g ns ∣ n.natAbs
  | [], g => ⟨Nat.dvd_refl g, fun _ h => nomatch h⟩
  | n :: ns, g => by
    obtain ⟨h1, h2⟩ := gcd_dvd ns (Nat.gcd g n.natAbs)
    refine ⟨Nat.dvd_trans h1 (Nat.gcd_dvd_left _ _), fun k hk => ?_⟩
    rcases List.mem_cons.mp hk with rfl | hk
    · exact Nat.dvd_trans h1 (Nat.gcd_dvd_right _ _)
    · exact h2 k hk
/-- scaled: all divided by one number from 1 on, none with a rest -/
theorem scaled_by (ns : List Int) : ∃ g : Int, 0 < g ∧ ns = (scaledI ns).map fun n => n * g := by
  unfold scaledI
  split
  · exact ⟨1, by decide, by conv => lhs; rw [← List.map_id ns]
                            exact List.map_congr_left fun n _ => (Int.mul_one n).symm⟩
  · rename_i h
    refine ⟨((gcdF 0 ns : Nat) : Int), by omega, ?_⟩
    rw [List.map_map]
    conv => lhs; rw [← List.map_id ns]
    refine List.map_congr_left fun n hn => ?_
    have hd : ((gcdF 0 ns : Nat) : Int) ∣ n := Int.ofNat_dvd_left.mpr ((gcd_dvd ns 0).2 n hn)
    exact (Int.ediv_mul_cancel hd).symm
theorem dot_mul (l : List Int) (ns : List Int) (g : Int) : dotL l (ns.map fun n => n * g) = dotL l ns * g := by
  unfold dotL
  induction l generalizing ns with
  | nil => simp
  | cons a l ih =>
    cases ns with
    | nil => simp
    | cons n ns =>
      simp only [List.map_cons, List.zip_cons_cons, List.sum_cons]
      rw [ih ns]
      grind
theorem pos_of {d g : Int} (hg : 0 < g) (h : 0 < d * g) : 1 ≤ d := by
  rcases Int.lt_or_le 0 d with h1 | h1
  · omega
  · have := Int.mul_le_mul_of_nonneg_right h1 (Int.le_of_lt hg)
    omega
theorem nn_of {d g : Int} (hg : 0 < g) (h : 0 ≤ d * g) : 0 ≤ d := by
  rcases Int.lt_or_le d 0 with h1 | h1
  · have := Int.mul_lt_mul_of_pos_right h1 hg
    omega
  · exact h1
theorem costs_keep {k : Nat} {R : List (List Int × Bool)} {sz : Int} {x : Nat → Int} (h : KeepR R sz x) (hk : k ≤ 4) (hR : ∀ r ∈ R, r.1.length = k) :
    (scaledI ((List.range k).map x)).length = k ∧ (∀ n ∈ scaledI ((List.range k).map x), 1 ≤ n) ∧ ∀ r ∈ R, w01 r.2 ≤ dotL r.1 (scaledI ((List.range k).map x)) := by
  obtain ⟨g, hg, e⟩ := scaled_by ((List.range k).map x)
  generalize scaledI ((List.range k).map x) = fs at *
  refine ⟨?_, fun n hn => ?_, fun r hr => ?_⟩
  · have := congrArg List.length e
    rw [List.length_map, List.length_range, List.length_map] at this
    exact this.symm
  · have : n * g ∈ (List.range k).map x := by rw [e]; exact List.mem_map_of_mem hn
    obtain ⟨p, hp, e2⟩ := List.mem_map.mp this
    have hp := List.mem_range.mp hp
    have := h.unit p (by omega)
    have := h.pos
    exact pos_of hg (by omega)
  · have d := dot_s4 x (hR r hr) hk
    have row := h.row r hr
    rw [← d, e, dot_mul] at row
    have hp := h.pos
    unfold w01
    cases hb : r.2 with
    | true =>
      have : Sett.bi (rwOf r) = 1 := by unfold Sett.bi rwOf; rw [hb]; rfl
      rw [this, Int.mul_one] at row
      exact pos_of hg (by omega)
    | false =>
      have : Sett.bi (rwOf r) = 0 := by unfold Sett.bi rwOf; rw [hb]; rfl
      rw [this, Int.mul_zero] at row
      exact nn_of hg row

end K18
namespace K18
open PySem L2 XO DL GB
local macro_rules | `(tactic| walk_at "wg") => `(tactic| ((try dsimp only); (try rw [a_hold]); (try simp only [List.map_cons, List.map_nil, List.length_cons, List.length_nil, List.cons_append, List.nil_append, List.replicate_succ, List.replicate_zero, Nat.reduceAdd, Nat.reduceSub]); (try simp only [↓a_test, ↓a_v0, ↓a_s0, ↓a_g0, ↓a_v1, ↓a_s1, ↓a_g1, ↓a_v2, ↓a_s2, ↓a_g2, ↓a_v3, ↓a_s3, ↓a_g3, ↓a_v4, ↓a_s4, ↓a_g4, ↓a_v5, ↓a_s5, ↓a_g5, ↓a_v6, ↓a_s6, ↓a_g6, ↓a_v7, ↓a_s7, ↓a_g7, ↓a_v8, ↓a_s8, ↓a_g8, ↓a_v9, ↓a_s9, ↓a_g9, ↓a_v10, ↓a_s10, ↓a_g10, ↓a_v11, ↓a_s11, ↓a_g11, ↓a_v12, ↓a_s12, ↓a_g12, ↓a_v13, ↓a_s13, ↓a_g13, ↓a_v14, ↓a_s14, ↓a_g14, ↓a_v15, ↓a_s15, ↓a_g15, ↓a_v16, ↓a_s16, ↓a_g16, ↓a_v17, ↓a_s17, ↓a_g17, ↓a_v18, ↓a_s18, ↓a_g18, ↓a_v19, ↓a_s19, ↓a_g19, ↓a_v20, ↓a_s20, ↓a_g20, ↓a_v21, ↓a_s21, ↓a_g21, ↓a_v22, ↓a_s22, ↓a_g22, ↓a_v23, ↓a_s23, ↓a_g23, ↓a_v24, ↓a_s24, ↓a_g24, ↓a_v25, ↓a_s25, ↓a_g25, ↓a_v26, ↓a_s26, ↓a_g26, ↓a_v27, ↓a_s27, ↓a_g27, ↓a_star, ↓a_asg2, ↓a_asg4, ↓a_neg, ↓a_zipX, ↓a_callKX, ↓a_get2, ↓a_lcO, ↓a_popAt, ↓a_m0, ↓a_op, ↓a_c, ↓a_call, ↓a_callX, ↓a_call0, ↓a_nil, ↓a_cons, ↓a_bi, ↓a_tnot, ↓a_tor, ↓a_tand, ↓a_tru, ↓a_yes, ↓a_if, ↓a_and, ↓a_or, ↓a_not, ↓a_chain, ↓a_sl, ↓a_noPart, ↓a_part, ↓a_lst, ↓a_tup, ↓a_dct0, ↓a_own, ↓a_isT, ↓a_next, ↓a_seqH, ↓a_ret, ↓a_drop, ↓a_sif, ↓a_raise, ↓a_for, ↓a_iVar, ↓a_fld, ↓a_lc, ↓a_iEnumB, ↓a_iEnumS, ↓a_iSg, ↓a_iLst, ↓a_iTp, ↓a_join, ↓a_lenSet, ↓a_append, ↓a_put, ↓a_par, ↓a_unp, ↓a_meth, ↓a_make, ↓a_rg1, ↓a_gTup, ↓a_gNil, ↓a_gCons, ↓a_loopN, wipeD, List.map_cons, List.map_nil, List.length_cons, List.length_nil, List.cons_append, List.nil_append, List.replicate_succ, List.replicate_zero, List.append_nil, List.getElem?_cons_zero, List.getElem?_cons_succ, List.set_cons_zero, List.set_cons_succ, Nat.reduceAdd, Nat.reduceSub, Bool.not_true, Bool.not_false, reduceIte, Bool.false_eq_true, true_and])))
/-! ### amounts, scaled, show it -/
theorem range_upd (j : Nat) (v : Int) (g f : Nat → Int) : ∀ N, j < N → ((List.range N).map fun i => (if i = j then v else g i) * f i).sum = (v - g j) * f j + ((List.range N).map fun i => g i * f i).sum := by
  have low : ∀ N, N ≤ j → ((List.range N).map fun i => (if i = j then v else g i) * f i).sum = ((List.range N).map fun i => g i * f i).sum := by
    intro N hN
    congr 1
    refine List.map_congr_left fun i hi => ?_
    have := List.mem_range.mp hi
    rw [if_neg (by omega)]
  intro N
  induction N with
  | zero => intro h; omega
  | succ N ih =>
    intro h
    rw [List.range_succ, List.map_append, List.map_append, List.sum_append, List.sum_append]
    simp only [List.map_cons, List.map_nil, List.sum_cons, List.sum_nil]
    by_cases e : j = N
    · subst e
      rw [low j (Nat.le_refl _), if_pos rfl]
      grind
    · rw [ih (by omega), if_neg (by omega)]
      omega
theorem range_zero (f : Nat → Int) (N : Nat) : ((List.range N).map fun i => (0 : Int) * f i).sum = 0 := by
  induction N with
  | zero => rfl
  | succ N ih => rw [List.range_succ, List.map_append, List.sum_append, ih]; simp
theorem am_sum (f : Nat → Int) (N : Nat) : ∀ am : List (Nat × Int), (am.map (·.1)).Nodup → (∀ p ∈ am, p.1 < N) → (am.map fun p => p.2 * f p.1).sum = ((List.range N).map fun i => amOf am i * f i).sum
  | [], _, _ => by
    have e : (fun i => amOf [] i * f i) = fun i => (0 : Int) * f i := rfl
    rw [e, range_zero]; rfl
  | p :: am, nd, h => by
    rw [List.map_cons, List.nodup_cons] at nd
    have e : (fun i => amOf (p :: am) i * f i) = fun i => (if i = p.1 then p.2 else amOf am i) * f i := by
      funext i
      unfold amOf
      rw [List.lookup_cons]
      by_cases c : i = p.1
      · subst c
        simp
      · rw [if_neg c]
        have : (i == p.1) = false := by rw [beq_eq_false_iff_ne]; exact c
        rw [this]
    have z : amOf am p.1 = 0 := by
      unfold amOf
      cases hl : am.lookup p.1 with
      | none => rfl
      | some v => exact absurd (List.mem_map_of_mem (f := (·.1)) (look_mem hl)) nd.1
    rw [e, range_upd p.1 p.2 (amOf am) f N (h p List.mem_cons_self), z, List.map_cons, List.sum_cons, am_sum f N am nd.2 fun q hq => h q (List.mem_cons_of_mem _ hq), Int.sub_zero]
theorem range_rows {α : Type} (a : Nat → Int) (F : α → Int) : ∀ (R : List α), ((((List.range R.length).map a).zip R).map fun p => p.1 * F p.2).sum = ((List.range R.length).map fun i => a i * (R[i]?.map F).getD 0).sum := by
  intro R
  induction R generalizing a with
  | nil => rfl
  | cons r R ih =>
    rw [List.length_cons, List.range_succ_eq_map, List.map_cons, List.map_cons, List.zip_cons_cons, List.map_cons, List.sum_cons, List.sum_cons, List.map_map, List.map_map]
    have := ih (a ∘ Nat.succ)
    rw [this]
    rfl
theorem am_pos {L : List Sett.Rw} {am : List (Nat × Int)} (c : Cert L am) (i : Nat) : 0 ≤ amOf am i := by
  unfold amOf
  cases hl : am.lookup i with
  | none => exact Int.le_refl _
  | some v => exact Int.le_of_lt (c.ok _ (look_mem hl)).2.1
/-- the sum over the rows and over the four unit rows -/
theorem split4 {R : List (List Int × Bool)} {am : List (Nat × Int)} (c : Cert (Lr R) am) (f : Nat → Int) : (am.map fun p => p.2 * f p.1).sum = ((List.range R.length).map fun i => amOf am i * f i).sum + Adj.s4 fun q => amOf am (R.length + q) * f (R.length + q) := by
  have hl : (Lr R).length = R.length + 4 := known_len R
  rw [am_sum f (R.length + 4) am c.nd fun p hp => by have := (c.ok p hp).1; omega]
  simp only [List.range_succ, List.map_append, List.sum_append, List.map_cons, List.map_nil, List.sum_cons, List.sum_nil, Adj.s4, Nat.add_zero]
  omega
theorem pad_get {l : List Int} {q : Nat} (hq : q < 4) (hl : l.length ≤ 4) : (pad4 l).getD q 0 = l.getD q 0 := by
  unfold pad4
  rcases l with _ | ⟨a, _ | ⟨a2, _ | ⟨a3, _ | ⟨a4, _ | ⟨a5, l⟩⟩⟩⟩⟩ <;> first | (rcases Adj.lt4 hq with rfl | rfl | rfl | rfl <;> rfl) | (simp at hl)
theorem col_am {R : List (List Int × Bool)} {am : List (Nat × Int)} {k : Nat} (c : Cert (Lr R) am) (hR : ∀ r ∈ R, r.1.length = k) (hk : k ≤ 4) {q : Nat} (hq : q < 4) : colSum R ((List.range R.length).map (amOf am)) q = -amOf am (R.length + q) := by
  have z := c.zero q hq
  rw [split4 c fun i => (rsOf (Lr R) i).v q] at z
  have e1 : ((List.range R.length).map fun i => amOf am i * (rsOf (Lr R) i).v q) = (List.range R.length).map fun i => amOf am i * (R[i]?.map fun r => r.1.getD q 0).getD 0 := by
    refine List.map_congr_left fun i hi => ?_
    have hi := List.mem_range.mp hi
    unfold Lr
    rw [rs_left hi, List.getElem?_eq_getElem hi]
    show amOf am i * (pad4 R[i].1).getD q 0 = amOf am i * R[i].1.getD q 0
    rw [pad_get hq (by rw [hR _ (List.getElem_mem hi)]; exact hk)]
  have e2 : (Adj.s4 fun p => amOf am (R.length + p) * (rsOf (Lr R) (R.length + p)).v q) = amOf am (R.length + q) := by
    have : ∀ p, p < 4 → (rsOf (Lr R) (R.length + p)).v q = if q = p then 1 else 0 := fun p hp => by
      unfold Lr
      rw [rs_right hp]; rfl
    unfold Adj.s4
    dsimp only
    rw [this 0 (by omega), this 1 (by omega), this 2 (by omega), this 3 (by omega)]
    rcases Adj.lt4 hq with rfl | rfl | rfl | rfl <;> simp
  rw [e1, e2] at z
  have r := range_rows (amOf am) (fun r : List Int × Bool => r.1.getD q 0) R
  unfold colSum
  rw [r]
  omega
theorem col_mul (R : List (List Int × Bool)) (as : List Int) (g : Int) (q : Nat) : colSum R (as.map fun n => n * g) q = colSum R as q * g := by
  unfold colSum
  induction as generalizing R with
  | nil => simp
  | cons a as ih =>
    cases R with
    | nil => simp
    | cons r R =>
      simp only [List.map_cons, List.zip_cons_cons, List.sum_cons]
      rw [ih R]
      grind
theorem get_out {l : List Int} {q : Nat} (h : l.length ≤ q) : l.getD q 0 = 0 := by
  rw [List.getD_eq_getElem?_getD, List.getElem?_eq_none h]; rfl
theorem col_out {R : List (List Int × Bool)} {as : List Int} {k q : Nat} (hR : ∀ r ∈ R, r.1.length = k) (hq : k ≤ q) : colSum R as q = 0 := by
  unfold colSum
  have : ∀ p ∈ as.zip R, p.1 * p.2.1.getD q 0 = 0 := by
    intro p hp
    rw [get_out (by rw [hR _ (List.of_mem_zip hp).2]; exact hq), Int.mul_zero]
  have e : ((as.zip R).map fun p => p.1 * p.2.1.getD q 0) = (as.zip R).map fun _ => (0 : Int) := List.map_congr_left this
  rw [e]
  generalize as.zip R = z
  induction z with
  | nil => rfl
  | cons a z ih => rw [List.map_cons, List.sum_cons, ih]; rfl
theorem sum_show {R : List (List Int × Bool)} {am : List (Nat × Int)} {k : Nat} (c : Cert (Lr R) am) (hR : ∀ r ∈ R, r.1.length = k) (hk : k ≤ 4) :
    (scaledI ((List.range R.length).map (amOf am))).length = R.length ∧ showsB k R (.tup (intL (scaledI ((List.range R.length).map (amOf am))))) = true := by
  have hcol := fun q (hq : q < 4) => col_am c hR hk hq
  have hnn := am_pos c
  obtain ⟨g, hg, e⟩ := scaled_by ((List.range R.length).map (amOf am))
  generalize has : scaledI ((List.range R.length).map (amOf am)) = as at *
  have hlen : as.length = R.length := by
    have := congrArg List.length e
    rw [List.length_map, List.length_range, List.length_map] at this
    exact this.symm
  refine ⟨hlen, ?_⟩
  have hat : ∀ i, (hi : i < R.length) → as[i]'(by omega) * g = amOf am i := by
    intro i hi
    have h1 : ((List.range R.length).map (amOf am))[i]? = some (amOf am i) := by rw [List.getElem?_map, List.getElem?_range hi]; rfl
    rw [e, List.getElem?_map, List.getElem?_eq_getElem (by omega)] at h1
    exact Option.some.inj h1
  have hs : ∀ q, q < 4 → colSum R as q * g = -amOf am (R.length + q) := by
    intro q hq
    rw [← col_mul, ← e]
    exact hcol q hq
  have hle : ∀ q, q < 4 → colSum R as q ≤ 0 := by
    intro q hq
    have h1 := hs q hq
    have h2 := hnn (R.length + q)
    have := nn_of (d := -colSum R as q) hg (by rw [Int.neg_mul]; omega)
    omega
  rw [shows_tup]
  have ei : (intL as).map toI = as := by
    unfold intL
    rw [List.map_map]
    exact List.map_id _
  have el : (intL as).length = as.length := by unfold intL; rw [List.length_map]
  rw [ei, el, decide_eq_true hlen, Bool.true_and]
  have en : (intL as).all natI = true := by
    rw [List.all_eq_true]
    intro d hd
    obtain ⟨n, hn, rfl⟩ := List.mem_map.mp hd
    obtain ⟨i, hi, rfl⟩ := List.mem_iff_getElem.mp hn
    refine decide_eq_true (nn_of hg ?_)
    rw [hat i (by omega)]
    exact hnn i
  rw [en, Bool.true_and]
  have ea : ((List.range k).all fun q => decide (colSum R as q ≤ 0)) = true := by
    rw [List.all_eq_true]
    intro q hq
    have := List.mem_range.mp hq
    exact decide_eq_true (hle q (by omega))
  rw [ea, Bool.true_and, Bool.or_eq_true]
  have pos := c.pos
  rw [split4 c fun i => Sett.bi (rsOf (Lr R) i)] at pos
  have eu : (Adj.s4 fun q => amOf am (R.length + q) * Sett.bi (rsOf (Lr R) (R.length + q))) = Adj.s4 fun q => amOf am (R.length + q) := by
    refine Adj.s4_congr fun q hq => ?_
    unfold Lr
    rw [rs_right hq]
    show _ * 1 = _
    omega
  rw [eu] at pos
  by_cases hst : ((as.zip R).any fun p => p.2.2 && decide (0 < p.1)) = true
  · exact .inr hst
  · refine .inl ?_
    have zero : ((List.range R.length).map fun i => amOf am i * Sett.bi (rsOf (Lr R) i)).sum = 0 := by
      have : ∀ i ∈ List.range R.length, amOf am i * Sett.bi (rsOf (Lr R) i) = (0 : Int) * 0 := by
        intro i hi
        have hi := List.mem_range.mp hi
        unfold Lr
        rw [rs_left hi]
        cases hb : (R[i]).2 with
        | false =>
          have : Sett.bi (rwOf R[i]) = 0 := by unfold Sett.bi rwOf; rw [hb]; rfl
          rw [this]; omega
        | true =>
          have : ¬ 0 < as[i]'(by omega) := by
            intro h0
            refine hst ?_
            rw [List.any_eq_true]
            have hz : i < (as.zip R).length := by rw [List.length_zip]; omega
            refine ⟨(as.zip R)[i], List.getElem_mem hz, ?_⟩
            rw [List.getElem_zip, hb, decide_eq_true h0]; rfl
          have h1 := hat i hi
          have h2 := hnn i
          have : as[i]'(by omega) = 0 := by
            have := nn_of hg (show 0 ≤ as[i]'(by omega) * g by rw [h1]; exact h2)
            omega
          rw [this, Int.zero_mul] at h1
          rw [← h1]; simp
      have e0 : ((List.range R.length).map fun i => amOf am i * Sett.bi (rsOf (Lr R) i)) = (List.range R.length).map fun i => (0 : Int) * (fun _ => 0) i := List.map_congr_left this
      rw [e0]
      exact range_zero _ _
    rw [zero] at pos
    have : ∃ q, q < 4 ∧ 0 < amOf am (R.length + q) := by
      unfold Adj.s4 at pos
      dsimp only at pos
      have a0 := hnn (R.length + 0)
      have a1 := hnn (R.length + 1)
      have a2 := hnn (R.length + 2)
      have a3 := hnn (R.length + 3)
      by_cases c0 : 0 < amOf am (R.length + 0)
      · exact ⟨0, by omega, c0⟩
      · by_cases c1 : 0 < amOf am (R.length + 1)
        · exact ⟨1, by omega, c1⟩
        · by_cases c2 : 0 < amOf am (R.length + 2)
          · exact ⟨2, by omega, c2⟩
          · exact ⟨3, by omega, by omega⟩
    obtain ⟨q, hq, hp⟩ := this
    have h1 := hs q hq
    have hqk : q < k := by
      rcases Nat.lt_or_ge q k with h | h
      · exact h
      · have := col_out (as := as) hR h
        rw [this, Int.zero_mul] at h1
        omega
    rw [List.any_eq_true]
    refine ⟨q, List.mem_range.mpr hqk, decide_eq_true ?_⟩
    have h2 := hle q hq
    rcases Int.lt_or_le (colSum R as q) 0 with h | h
    · exact h
    · have : colSum R as q = 0 := by omega
      rw [this, Int.zero_mul] at h1
      omega
/-- costs from 1 on keep not all rows, where a sum is -/
theorem not_kept {R : List (List Int × Bool)} {am : List (Nat × Int)} {k : Nat} {ns : List Int} (c : Cert (Lr R) am) (hR : ∀ r ∈ R, r.1.length = k) (hk : k ≤ 4) (hn : ns.length = k) (h1 : ∀ n ∈ ns, 1 ≤ n) (h : ∀ r ∈ R, w01 r.2 ≤ dotL r.1 ns) : False := by
  refine no_cert (sz := 1) (x := fun p => ns.getD p 1) ⟨by decide, fun r hr => ?_, fun p hp => ?_⟩ c
  · have d := dot_s4 (fun p => ns.getD p 1) (hR r hr) hk
    have en : (List.range k).map (fun p => ns.getD p 1) = ns := by
      refine List.ext_getElem (by rw [List.length_map, List.length_range, hn]) fun i h1 h2 => ?_
      rw [List.getElem_map, List.getElem_range, List.getD_eq_getElem?_getD, List.getElem?_eq_getElem h2]; rfl
    rw [en] at d
    rw [← d, Int.one_mul]
    exact h r hr
  · rw [List.getD_eq_getElem?_getD]
    cases e : ns[p]? with
    | none => exact Int.le_refl _
    | some n => exact h1 n (List.mem_of_getElem? e)
theorem empty_keep : KeepR [] 1 (fun _ => 1) := ⟨by decide, fun r hr => (nomatch hr), fun p hp => by decide⟩

end K18
/-! XA10: repr of a truth beside repr of a list -/
namespace DL
open PySem L2 XO
open Evl (Ex)
section
variable {K : Fg} {W : Wx} {ι : Type} {X : ι → Cx} {pos : Pos}
def dReprMB : WC := fun xs m Q => match xs with
  | [.bl b] => Q (.str (if b then "True" else "False")) m
  | xs => dReprM xs m Q
theorem b_reprMB {P : Program} {w : World} {K : Fg} {mg : Str → Option Value} {base : Heap} {k : Nat} {N : List Str} {ι : Type} {X : ι → Cx} (hX : FamG P w K mg base k N X) : BiU K X (.builtin "repr") dReprMB := by
  obtain ⟨r, h1, h2⟩ := b_reprM hX
  refine ⟨fun xs H Q => r xs H Q ∨ rReprB xs H Q, fun i pins s σ H xs us Q I rr h => ?_, ?_⟩
  · rcases h with h | h
    · exact h1 i pins s σ H xs us Q I rr h
    · exact call_reprB pins s σ H xs us Q I rr h
  · intro G m F H xs ds Q Qd hW r h hQ
    unfold dReprMB at h
    split at h
    · cases r with
      | cons r1 t =>
        cases t
        cases r1
        exact Or.inr ⟨_, rfl, hQ.here hW h (.str _)⟩
    · exact Or.inl (h2 G m F H xs _ Q Qd hW r h hQ)
end
end DL
/-! XA11: a comprehension within another -/
namespace DL
open PySem L2 XO
def dEnv (sc : Scope) : Env := { scope := sc, locals := 0, globals := 0, cells := [] }
theorem relabel_env (s : Scope) (e : Env) : relabel s e = relabel s (dEnv e.scope) := rfl
theorem blkOk_in {ι : Type} {X : ι → Cx} {N : List Str} {sc0 sc scope : Scope} {own : List (Str × Nat)} {j : BI ι} (h0 : (X j.1).env.scope = sc0) (h : L2.blkC N (relabel sc (dEnv sc0)) scope own = true) : L2.BlkOk N (Blk X sc j).env.scope scope own := by
  have e : (Blk X sc j).env.scope = relabel sc (dEnv sc0) := by
    rw [← h0]
    exact relabel_env sc (X j.1).env
  rw [e]
  exact L2.blkOk_by h
end DL
/-! GC: the law's drawing box, loops, repr -/
namespace GB
open PySem L2 XO DL
def F_law_cell : DFn := fun ds m Q _ => ∃ (ns : List Int) (k : Int), ds = [.scr ns, .int k] ∧ 0 ≤ k ∧ k < 1000 ∧ ∀ i : Int, Q (.int i) m
def F_law_box : DFn := fun ds m Q _ => ∃ i : Int, ds = [.int i] ∧ ∀ p l, m p = none → Box l 0 → Q (.box p) (m.up p l)
def F_law_take : DFn := fun ds m Q _ => ∃ (a : Addr) (n c : Int) (l : List D), ds = [.box a, .int n] ∧ m a = some l ∧ Box l c ∧ c ≤ 1000000 ∧ 0 < n ∧ n < 2 ^ 200 ∧ ∀ (d : Int) (m' : Mem), 0 ≤ d → d < n → Nx a (c + 1) m m' → Q (.int d) m'
theorem ixN_lt {n : Nat} {i : Int} (h0 : 0 ≤ i) (h1 : i < n) : ixN n i = some i.toNat := by
  unfold ixN
  rw [if_pos h0, if_pos h1]
theorem atI_lt {α : Type} {xs : List α} {i : Int} (h0 : 0 ≤ i) (h1 : i < xs.length) : ∃ x, atI xs i = some x ∧ x ∈ xs := by
  unfold L2.atI
  rw [ixN_lt h0 h1]
  have h : i.toNat < xs.length := by omega
  exact ⟨xs[i.toNat], List.getElem?_eq_getElem h, List.getElem_mem h⟩
theorem div_ok {j : Int} (h0 : 0 < j) (h1 : j < 2 ^ 200) (i : Int) : CDivW i j := by
  refine wide_div (b := 200) h0 ?_ (by decide) (by decide)
  have : (j.natAbs : Int) = j := Int.natAbs_of_nonneg (Int.le_of_lt h0)
  have h2 : (j.natAbs : Int) < ((2 ^ 200 : Nat) : Int) := by rw [this]; exact_mod_cast h1
  exact_mod_cast h2
theorem Nx.mk_ {a : Addr} {k : Int} {m : Mem} {l l' : List D} (hm : m a = some l) (hb : Box l' k) : Nx a k m (m.up a l') :=
  ⟨fun b ds hb e => by rw [Mem.up_ne hb]; exact e, l', Mem.up_same, hb⟩
theorem Nx.refl {b : Addr} {k : Int} {m : Mem} {l : List D} (h : m b = some l) (hb : Box l k) : Nx b k m m := ⟨fun _ _ _ e => e, l, h, hb⟩
theorem Nx.step {b : Addr} {k k' : Int} {m m1 m2 : Mem} (h : Nx b k m m1) (h' : Nx b k' m1 m2) : Nx b k' m m2 := ⟨fun x ds hx e => h'.1 x ds hx (h.1 x ds hx e), h'.2⟩
theorem Nx.isSome {b : Addr} {k : Int} {m m1 : Mem} (h : Nx b k m m1) {p : Addr} (hp : m1 p = none) : p ≠ b := by
  obtain ⟨l, e, _⟩ := h.2
  exact fun z => by subst z; rw [hp] at e; cases e
theorem Nx.up {b : Addr} {k : Int} {m m1 : Mem} (h : Nx b k m m1) {p : Addr} (hm : m p = none) (hb : p ≠ b) (l : List D) : Nx b k m (m1.up p l) := by
  refine ⟨fun x ds hx e => ?_, ?_⟩
  · have : x ≠ p := fun z => by subst z; rw [hm] at e; cases e
    rw [Mem.up_ne this]
    exact h.1 x ds hx e
  · obtain ⟨l', e, q⟩ := h.2
    exact ⟨l', by rw [Mem.up_ne (Ne.symm hb)]; exact e, q⟩
theorem Nx.new {b : Addr} {k : Int} {m m1 : Mem} (h : Nx b k m m1) {p : Addr} (hp : m1 p = none) (l : List D) : Nx b k m (m1.up p l) := by
  have hb := h.isSome hp
  refine h.up ?_ hb l
  cases e : m p with
  | none => rfl
  | some ds => rw [h.1 p ds hb e] at hp; cases hp
theorem Nx.le {b : Addr} {k k' : Int} {m m1 : Mem} (h : Nx b k m m1) (hk : k ≤ k') : Nx b k' m m1 := by
  obtain ⟨h1, l, e, x, y, z, q1, q2, q3, q4, q5, q6⟩ := h
  exact ⟨h1, l, e, x, y, z, q1, q2, q3, q4, q5, by omega⟩
theorem take_ok {b : Addr} {n k : Int} {m m1 : Mem} {Q : D → Mem → Prop} {Qx : XQ} (h : Nx b k m m1) (hk : k ≤ 1000000) (h0 : 0 < n) (h1 : n < 2 ^ 200) (q : ∀ d m2, 0 ≤ d → d < n → Nx b (k + 1) m m2 → Nx b (k + 1) m1 m2 → Q (.int d) m2) : F_law_take [.box b, .int n] m1 Q Qx := by
  obtain ⟨l, e, hb⟩ := h.2
  exact ⟨b, n, k, l, rfl, e, hb, hk, h0, h1, fun d m2 a1 a2 hn => q d m2 a1 a2 (h.step hn) hn⟩
theorem add_int {i j : Int} {m : Mem} {Q : D → Mem → Prop} (q : Q (.int (i + j)) m) : dAdd (.int i) (.int j) m Q := q
theorem sl_lst {ds : List D} {lo hi : Option Int} {m : Mem} {Q : D → Mem → Prop} (q : Q (.lst (cutD ds lo hi)) m) : dSl (.lst ds) lo hi m Q := q
theorem isNon_ok {x : D} {m : Mem} {Q : D → Mem → Prop} (q : Q (.bl (isNonD x)) m) : dIsB false x .non m Q := by
  show Q (.bl (isNonD x ^^ false)) m
  rw [Bool.xor_false]
  exact q
theorem loop_ind {g : WG} {body : WS} {E : De} {P : List D → En0 → Mem → Prop} (hnil : ∀ ρ m, P [] ρ m → E.nx ρ m)
    (hcons : ∀ d ds ρ m, P (d :: ds) ρ m → (∀ ρ' m', P ds ρ' m' → wLoop g body E ds ρ' m') → g d ρ fun ρ1 => body { E with nx := wLoop g body E ds, ct := wLoop g body E ds, bk := E.nx } ρ1 m) :
    ∀ ds ρ m, P ds ρ m → wLoop g body E ds ρ m
  | [], ρ, m, h => by rw [a_loopN]; exact hnil ρ m h
  | d :: ds, ρ, m, h => by
    rw [a_loopC]
    exact hcons d ds ρ m h fun ρ' m' h' => loop_ind hnil hcons ds ρ' m' h'
theorem dNe_str {a b : Str} {m : Mem} {Q : D → Mem → Prop} (q : Q (.bl (!decide (a = b))) m) : dNe (.str a) (.str b) m Q := by
  show Q (.bl (decide (a = b) ^^ true)) m
  rw [Bool.xor_true]; exact q
/-- repr of data that is good -/
theorem repr_ok {m : Mem} {x : D} {l : List D} {n : Nat} {Q : D → Mem → Prop} (hr : res m x = .lst l) (ok : okD (.lst l) n = true) (hn : n ≤ 50) (hw : wtD (.lst l) ≤ 1000000) (q : Q (.str (py (.lst l)).shown) m) : dReprM [x] m Q := ⟨l, hr, showsU ok hn hw, q⟩
theorem res_ok {m : Mem} {x : D} {n : Nat} (h : okD x n = true) : res m x = x := res_plain m x (shw x n h).plain
theorem a_trys {cs : List Cl} {wb : WS} {E : De} {ρ : En0} {m : Mem} : sTrys cs wb E ρ m = wb { nx := E.nx, rt := E.rt, bk := E.bk, ct := E.ct, ex := fun xx m' => ∃ c ∈ cs, c.1 = xx.cls ∧ c.2.1 = xx.fld ∧ E.rt (.lst [.str c.2.2, xx.val]) m' } ρ m := rfl
theorem nil_lst {ds : List D} {neg : Bool} {m : Mem} {Q : D → Mem → Prop} (q : Q (.bl (ds.isEmpty ^^ neg)) m) : dNilB neg (.lst ds) (.lst []) m Q := ⟨rfl, Or.inl ⟨ds, rfl, q⟩⟩
theorem add_lst {a b : List D} {m : Mem} {Q : D → Mem → Prop} (h : a.length + b.length ≤ 1000000) (q : Q (.lst (a ++ b)) m) : dAdd (.lst a) (.lst b) m Q := ⟨Nat.le_trans h (by rw [sizeLine_eq]; decide), q⟩
theorem line_of {n : Nat} (h : n ≤ 1000000) : n ≤ sizeLine := Nat.le_trans h (by rw [sizeLine_eq]; decide)
theorem Nx.at {b : Addr} {k : Int} {m m1 : Mem} (h : Nx b k m m1) : ∃ l, m1 b = some l ∧ Box l k := h.2
/-- a comprehension whose items draw -/
theorem lc_draw {g : WG} {te : WE} {ρ : En0} {Qx : XQ} {b : Addr} {per lim : Int} (hper : 0 ≤ per) (G : D → Prop) {m0 : Mem} : ∀ (xs : List D) (acc : List D) (c : Int) (m : Mem) (Q : D → Mem → Prop), Nx b c m0 m → c + per * xs.length ≤ lim → (∀ d ∈ acc, G d) →
    (∀ x ∈ xs, ∀ (c : Int) (m : Mem) (K : D → Mem → Prop), Nx b c m0 m → c ≤ lim → (∀ y m', G y → Nx b (c + per) m m' → K y m') → g x ρ fun ρ1 => te ρ1 m K Qx) →
    (∀ l m', l.length = acc.length + xs.length → (∀ d ∈ l, G d) → Nx b (c + per * xs.length) m0 m' → Q (.lst l) m') → wLcGo g tvYes te ρ Qx xs acc m Q
  | [], acc, c, m, Q, hn, hc, ha, hs, q => by
    have := q acc m rfl ha (by rw [List.length_nil, Int.natCast_zero, Int.mul_zero, Int.add_zero]; exact hn)
    exact this
  | x :: xs, acc, c, m, Q, hn, hc, ha, hs, q => by
    have e : per * ((x :: xs).length : Int) = per + per * (xs.length : Int) := by
      rw [List.length_cons, Int.natCast_add, Int.mul_add, Int.natCast_one, Int.mul_one, Int.add_comm]
    have hp : 0 ≤ per * (xs.length : Int) := Int.mul_nonneg hper (Int.natCast_nonneg _)
    rw [e] at hc q
    refine hs x List.mem_cons_self c m (fun y m2 => wLcGo g tvYes te ρ Qx xs (acc ++ [y]) m2 Q) hn (by omega) fun y m' hy hm => ?_
    refine lc_draw hper G xs (acc ++ [y]) (c + per) m' Q (hn.step hm) (by omega) (fun d hd => ?_) (fun x' hx' => hs x' (List.mem_cons_of_mem _ hx')) fun l m2 hl hg hm2 => ?_
    · rcases List.mem_append.mp hd with hd | hd
      · exact ha d hd
      · rw [List.mem_singleton] at hd; subst hd; exact hy
    · refine q l m2 ?_ hg (by rw [← Int.add_assoc]; exact hm2)
      rw [hl, List.length_append, List.length_cons, List.length_cons, List.length_nil]; omega
end GB
/-! XA12: a comprehension over a list that is changed elsewhere, not in the comprehension -/
namespace DL
open PySem L2 XO
open Evl (Ex)
section
variable {K : Fg} {W : Wx} {ι : Type} {X : ι → Cx} {pos : Pos}
theorem walk_box {K : Fg} {a : Addr} {n : Nat} : Walk (Itl K a) n (fun H => ∃ xs, SqL K H a xs ∧ xs.length = n) (fun i H x H' => H' = H ∧ ∀ xs, SqL K H a xs → xs[i]? = some x) := by
  refine ⟨fun i H hi ⟨xs, h, hl⟩ => ?_, fun H ⟨xs, h, hl⟩ => ⟨xs, h, by omega⟩, fun i H x H' hi _ y => y⟩
  exact ⟨xs, xs[i]'(by omega), h, List.getElem?_eq_getElem (by omega)⟩
def wLcBGo (a : Addr) (ds0 : List D) (g : WG) (tt : WT) (te : WE) (ρ : En0) (Qx : XQ) : List D → List D → Mem → (D → Mem → Prop) → Prop
  | [], acc, m, Q => m a = some ds0 ∧ Q (.lst acc) m
  | d :: ds, acc, m, Q => m a = some ds0 ∧ g d ρ fun ρ1 => tt ρ1 m (fun b m1 => if b = true then te ρ1 m1 (fun y m2 => wLcBGo a ds0 g tt te ρ Qx ds (acc ++ [y]) m2 Q) Qx else wLcBGo a ds0 g tt te ρ Qx ds acc m1 Q) Qx
theorem wLcBGo.at {a : Addr} {ds0 : List D} {g : WG} {tt : WT} {te : WE} {ρ : En0} {Qx : XQ} : ∀ {ds acc : List D} {m : Mem} {Q : D → Mem → Prop}, wLcBGo a ds0 g tt te ρ Qx ds acc m Q → m a = some ds0
  | [], _, _, _, h => h.1
  | _ :: _, _, _, _, h => h.1
def wLcB (i : Nat) (g : WG) (tt : WT) (te : WE) (vs : List Nat) : WE := fun ρ m Q Qx => match ρ[i]? with
  | some (some (.box a)) => ∃ ds0, m a = some ds0 ∧ ds0.length ≤ 1000000 ∧ wLcBGo a ds0 g tt te (wipeD ρ vs) Qx ds0 [] m Q
  | _ => False
theorem lift_lcB {i : Nat} {tG : TG} {js : List Nat} {g : WG} {tT : TT} {tt : WT} {tE : TE} {te : WE} {vs : List Nat} (hg : LiftG K js tG g) (ht : LiftT K W tT tt) (he : LiftE K W tE te) (hj : ∀ j ∈ js, j ∈ vs) :
    LiftE K W (tLc (iList K (tVar i)) tG tT tE vs) (wLcB i g tt te vs) := by
  intro G m F H σ ρ Q Qd Qx hW hE h hX hQ
  unfold wLcB at h
  split at h
  case h_2 => exact h.elim
  rename_i a ea
  obtain ⟨ds0, hm, hz, h⟩ := h
  obtain ⟨v, h1, h2⟩ := hE.get ea
  cases h2
  have sq : ∀ {G : Hp} {m : Mem} {F H : Hp}, Wd K G m F H → m a = some ds0 → ∃ xs, SqL K H a xs ∧ RpA K G xs ds0 := by
    intro G m F H W hm
    obtain ⟨_, _, xs, hx, r⟩ := W.own a ds0 hm
    exact ⟨xs, SqL.of hx, r⟩
  refine ⟨_, h1, a, rfl, (sq hW hm).imp fun _ h => h.1, ?_⟩
  intro Dl hD
  obtain ⟨hG, hm', hF⟩ := hW.fresh hD
  refine lc_it (walk_box (K := K) (a := a) (n := ds0.length)) (fun i H => ∃ G' m' acc xs, Ex G G' ∧ Wd K G' m' (upd F Dl (.lst xs)) H ∧ RpA K G' xs acc ∧ acc.length ≤ i ∧ wLcBGo a ds0 g tt te (wipeD ρ vs) Qx (ds0.drop i) acc m' Qd)
    ⟨G, m, [], [], Ex.refl _, hW.frame hD (.lst []), .nil, Nat.le_refl _, h⟩ ?_ ?_ ?_
  · rintro i H _ ⟨G', m', acc, xs, e', W', _, _, l⟩
    obtain ⟨xs, h, r⟩ := sq W' l.at
    exact ⟨xs, h, r.len⟩
  · rintro i x H H' hi' ⟨G', m', acc, xs, e', W', ra, hl, l⟩ ⟨rfl, y⟩
    obtain ⟨ys, hy, ry⟩ := sq W' l.at
    rw [drop_cons hi'] at l
    obtain ⟨v, hv, r⟩ := ry.at (List.getElem?_eq_getElem hi')
    have hx := y ys hy
    rw [hv] at hx
    cases hx
    have l := l.2
    refine hg G' m' _ H' x _ (L2.wipe σ vs) (wipeD ρ vs) _ _ W' ((hE.mono e').wipe vs) r l ?_
    intro ρ1 σ1 q E1 w1
    refine ⟨(w1 vs hj).trans wipe_wipe, ?_⟩
    refine ht G' m' _ H' σ1 ρ1 _ _ Qx W' E1 q ((hX.mono e').frame hF) ?_
    intro b m2 G3 H3 q3 e3 W3
    have e13 := e'.trans e3
    cases b with
    | true =>
      refine he G3 m2 _ H3 σ1 ρ1 _ _ Qx W3 (E1.mono e3) q3 ((hX.mono e13).frame hF) ?_
      intro d m3 v G4 H4 q4 e4 W4 r4
      have rx := ra.mono (e3.trans e4)
      refine ⟨xs, W4.fr _ _ upd_same, ?_, G4, m3, acc ++ [d], xs ++ [v], (e'.trans e3).trans e4, W4.reframe _, rx.app (.cons r4 .nil), ?_, q4⟩
      · rw [ra.len]
        have := line_big
        omega
      · rw [List.length_append, List.length_singleton]; omega
    | false =>
      exact ⟨G3, m2, acc, xs, e'.trans e3, W3, ra.mono e3, by omega, q3⟩
  · rintro H ⟨G', m', acc, xs, e', W', ra, hl, l⟩
    rw [List.drop_length] at l
    obtain ⟨e3, W3⟩ := W'.adopt hF
    exact hQ _ m' _ _ _ l.2 (e'.trans e3) W3 (.lst upd_same (ra.mono e3))
theorem pd_lcB {elt tg : Expr} {ifs : List Expr} {scope : Scope} {own : List (Str × Nat)} {js : List Nat} {g : WG} {tt : WT} {te : WE} {N : List Str} {i : Nat} {x : Str} {p' : Pos} (hX : ∀ j, (X j).N = N) (hc : ∀ i, (X i).calm = true) (hN : N.Nodup) (hK : ∀ i, (X i).K = K)
    (ok : ∀ i, BlkOk N (X i).env.scope scope own) (hg : PDG K (Blk X scope) tg js g) (ht : PDTs K W (Blk X scope) ifs tt) (he : PD K W (Blk X scope) elt te) (hi : N[i]? = some x := by rfl) (hv : ∀ j, Vis (X j).env.scope x := by intro _; first | exact Or.inl rfl | exact Or.inr (Or.inl rfl) | exact Or.inr (Or.inr rfl)) (hd : (x == ("__debug__" : Str)) = false := by decide) (hcd : (x == ("__classdict__" : Str)) = false := by decide)
    (hj : ∀ j ∈ js, j ∈ own.map (·.2) := by decide) (hs : ∀ i y, foldedSetIterable (.Name x p') (X i).env y = pure y := by intro _ _; rfl) :
    PD K W X (.ListComp elt [⟨tg, .Name x p', ifs, 0⟩] scope pos) (wLcB i g tt te (own.map (·.2))) := by
  obtain ⟨tG, g1, g2⟩ := hg
  obtain ⟨tT, t1, t2⟩ := ht
  obtain ⟨tE, e1, e2⟩ := he
  refine ⟨_, fun j => ?_, lift_lcB g2 t2 e2 hj⟩
  have pv : PE (X j) (.Name x p') (tVar i) := pe_var (by rw [hX j]; exact hi) (hv j) hd hcd
  have q := pi_list (tg := tg) pv
  rw [hK j] at q
  exact pe_lc (hc j) (by rw [hX j]; exact hN) q (by rw [hX j]; exact ok j) (fun s H C cl fp => g1 (j, s, H, C, cl, fp)) (fun s H C cl fp => t1 (j, s, H, C, cl, fp)) (fun s H C cl fp => e1 (j, s, H, C, cl, fp)) (hs j)
end
end DL
namespace K18
open PySem L2 XO DL GB
/-! ### the law's own -/
def rowL (p : List Int × Bool) : D := .tup [.tup (intL p.1), .bl p.2]
def rowM (p : List Int × Bool) : D := .lst [.lst (intL p.1), .bl p.2]
def okRow (k w : Nat) (p : List Int × Bool) : Prop := p.1.length = k ∧ ∀ n ∈ p.1, n.natAbs ≤ w
/-- rows is a sequence of rows that are R -/
def Rep (k : Nat) (rows : D) (R : List (List Int × Bool)) : Prop := ∃ rl, seqA rows = some rl ∧ rl.map decRow = R ∧ dueL k rl = none ∧ okT rows
def okN (k : Nat) (ns : List Int) : Prop := ns.length = k ∧ ∀ n ∈ ns, 1 ≤ n ∧ n ≤ 1000000000000000000000
def F_law_price : DFn := fun ds m Q _ => ∃ x y ns ks, ds = [x, y] ∧ seqA x = some (intL ns) ∧ seqA y = some (intL ks) ∧ ns.length ≤ 1000 ∧ (∀ n ∈ ns, Sett.Bd 600 n) ∧ (∀ n ∈ ks, Sett.Bd 600 n) ∧ Q (.int (dotL ns ks)) m
def F_law_is_kept : DFn := fun ds m Q _ => ∃ (X a : D) (r : List Int × Bool) (N : D) (ns : List Int), ds = [X, N] ∧ seqA X = some [a, .bl r.2] ∧ seqA a = some (intL r.1) ∧ r.1.length ≤ 1000 ∧ (∀ n ∈ r.1, Sett.Bd 600 n) ∧ seqA N = some (intL ns) ∧ (∀ n ∈ ns, Sett.Bd 600 n) ∧ Q (.bl (decide (w01 r.2 ≤ dotL r.1 ns))) m
def F_law_row : DFn := fun ds m Q _ => ∃ (a g : Addr) (c : Int) (l : List D) (k w : Nat) (ns : List Int) (R : List (List Int × Bool)), ds = [.box a, .int (k : Nat), .lst (intL ns), .box g] ∧ m a = some l ∧ Box l c ∧ c ≤ 100000 ∧ 1 ≤ k ∧ k ≤ 4 ∧ okN k ns ∧ m g = some (R.map rowL) ∧ R.length ≤ 20 ∧ (∀ p ∈ R, okRow k w p) ∧ 1000000000000 ≤ w ∧ w ≤ 100000000000000000000 ∧ ∀ p m', okRow k (3 * w) p → Nx a (c + 12) m m' → Q (rowL p) m'
def F_law_sum_right : DFn := fun ds m Q _ => ∃ (k : Nat) (rows : D) (R : List (List Int × Bool)) (x : D), ds = [.int (k : Nat), rows, x] ∧ 1 ≤ k ∧ k ≤ 4 ∧ Rep k rows R ∧ R.length ≤ 900 ∧ okAm x ∧ Q (.bl (showsB k R x)) m
def F_law_settled : DFn := fun ds m Q _ => ∃ (k w : Nat) (R : List (List Int × Bool)) (ns : List Int), ds = [.int (k : Nat), .lst (R.map rowL), .lst (intL ns)] ∧ 1 ≤ k ∧ k ≤ 4 ∧ R.length ≤ 20 ∧ (∀ p ∈ R, okRow k w p) ∧ w ≤ 1000000000000000000 ∧ okN k ns ∧
  (∀ m' sz x, KeepR R sz x → Q (.bl true) m') ∧ (∀ m' am, Cert (Lr R) am → Q (.bl false) m')
def F_law : DFn := lawFn 63
def w__law_cell : WS := (sSeq (sIf (wTest (wOp dLt (wVar 1) (wBi dLen (wCons (wVar 0) wNil)))) (sRet (wOp dIx (wVar 0) (wVar 1))) sNext) (sRet (wOp dAdd (wOp dMul (wC (.int 15489841)) (wVar 1)) (wC (.int 1823)))))
def w__law_box : WS := (sRet (wOwn (wCons (wBi dMax (wCons (wC (.int 0)) (wCons (wOp dSub (wVar 0) (wOp dPow (wC (.int 10)) (wC (.int 18)))) wNil))) (wCons (wOp dMod (wVar 0) (wC (.int 2147483629))) (wCons (wC (.int 0)) wNil)))))
def w__law_take : WS := (sSeq (sIf (wTest (wOp dGt (wOp dIx (wVar 0) (wC (.int 0))) (wC (.int 0)))) (sSeq (sSet 3 (wOp dMod (wOp dIx (wVar 0) (wC (.int 0))) (wVar 1))) (sSeq (sPut (wVar 0) (wC (.int 0)) (wOp dDiv (wOp dIx (wVar 0) (wC (.int 0))) (wVar 1))) (sRet (wVar 3)))) sNext) (sSeq (sPut (wVar 0) (wC (.int 2)) (wOp dAdd (wOp dIx (wVar 0) (wC (.int 2))) (wC (.int 1)))) (sSeq (sSet 2 (wOp dMod (wOp dPow (wOp dAdd (wOp dAdd (wOp dIx (wVar 0) (wC (.int 1))) (wOp dMul (wC (.int 15489841)) (wOp dIx (wVar 0) (wC (.int 2))))) (wC (.int 1823))) (wC (.int 5))) (wC (.int 2147483647)))) (sSeq (sSet 2 (wOp dMod (wOp dPow (wOp dAdd (wVar 2) (wOp dMul (wC (.int 104711)) (wOp dIx (wVar 0) (wC (.int 2))))) (wC (.int 3))) (wC (.int 2147483587)))) (sRet (wOp dMod (wOp dDiv (wVar 2) (wC (.int 32))) (wVar 1)))))))
def w__law_price : WS := (sRet (wBi dSum (wCons (wLc (iZipX (wCons (wVar 0) (wCons (wVar 1) wNil))) (gvTup 2 (gvCons (gvName 2) (gvCons (gvName 3) gvNil))) tvYes (wOp dMul (wVar 2) (wVar 3)) [2, 3]) wNil)))
def w__law_sum_right : WS := (sSeq (sIf (tvOr (tvNot (wTest (wBi dIsi (wCons (wVar 2) (wCons (wC (.ty "tuple")) wNil))))) (wTest (wOp dNe (wBi dLen (wCons (wVar 2) wNil)) (wBi dLen (wCons (wVar 1) wNil))))) (sRet (wC (.bl false))) sNext) (sSeq (sIf (wTest (wOp (dNilB true) (wLc (iTp (wVar 2)) (gvName 9) (tvOr (tvNot (wTest (wBi dIsi (wCons (wVar 9) (wCons (wC (.ty "int")) wNil))))) (tvOr (wTest (wBi dIsi (wCons (wVar 9) (wCons (wC (.ty "bool")) wNil)))) (wTest (wOp dLt (wVar 9) (wC (.int 0)))))) (wC (.int 1)) [9]) (wLst wNil))) (sRet (wC (.bl false))) sNext) (sSeq (sSet 3 (wLc (iRg1 (wCons (wVar 0) wNil)) (gvName 6) tvYes (wBi dSum (wCons (wLc (iZipX (wCons (wVar 1) (wCons (wVar 2) wNil))) (gvTup 2 (gvCons (gvName 8) (gvCons (gvName 9) gvNil))) tvYes (wOp dMul (wOp dIx (wOp dIx (wVar 8) (wC (.int 0))) (wVar 6)) (wVar 9)) [8, 9]) wNil)) [6])) (sSeq (sIf (wTest (wOp (dNilB true) (wLc (iLst (wVar 3)) (gvName 7) (wTest (wOp dGt (wVar 7) (wC (.int 0)))) (wVar 7) [7]) (wLst wNil))) (sRet (wC (.bl false))) sNext) (sSeq (sSet 4 (wLc (iLst (wVar 3)) (gvName 7) (wTest (wOp dLt (wVar 7) (wC (.int 0)))) (wVar 7) [7])) (sSeq (sSet 5 (wLc (iZipX (wCons (wVar 1) (wCons (wVar 2) wNil))) (gvTup 2 (gvCons (gvName 8) (gvCons (gvName 9) gvNil))) (tvAnd (wTest (wOp dIx (wVar 8) (wC (.int 1)))) (wTest (wOp dGt (wVar 9) (wC (.int 0))))) (wC (.int 1)) [8, 9])) (sRet (wOr (wOp (dNilB true) (wVar 4) (wLst wNil)) (wOp (dNilB true) (wVar 5) (wLst wNil))))))))))
def w__law_row : WS := (sSeq (sUnp 2 (gvCons (gvName 4) (gvCons (gvName 5) gvNil)) (wTup (wCons (wOp dIx (wLst (wCons (wC (.int 3)) (wCons (wC (.int 9)) (wCons (wOp dPow (wC (.int 10)) (wC (.int 12))) wNil)))) (wCall F_law_take (wCons (wVar 0) (wCons (wC (.int 3)) wNil)))) (wCons (wCall F_law_take (wCons (wVar 0) (wCons (wC (.int 6)) wNil))) wNil)))) (sSeq (sSet 6 (wLc (iRg1 (wCons (wVar 1) wNil)) (gvName 8) tvYes (wOp dSub (wCall F_law_take (wCons (wVar 0) (wCons (wOp dAdd (wOp dMul (wC (.int 2)) (wVar 4)) (wC (.int 1))) wNil))) (wVar 4)) [8])) (sSeq (sSet 7 (wOp dEq (wCall F_law_take (wCons (wVar 0) (wCons (wC (.int 2)) wNil))) (wC (.int 0)))) (sSeq (sIf (tvAnd (wTest (wOp dEq (wVar 5) (wC (.int 0)))) (wTest (wOp (dNilB true) (wVar 3) (wLst wNil)))) (sSet 6 (wLc (iTp (wOp dIx (wOp dIx (wVar 3) (wCall F_law_take (wCons (wVar 0) (wCons (wBi dLen (wCons (wVar 3) wNil)) wNil)))) (wC (.int 0)))) (gvName 11) tvYes (wOp dSub (wC (.int 0)) (wVar 11)) [11])) (sIf (tvAnd (wTest (wOp dEq (wVar 5) (wC (.int 1)))) (wTest (wOp dGt (wBi dLen (wCons (wVar 3) wNil)) (wC (.int 1))))) (sSeq (sPar 9 10 (wCons (wOp dIx (wOp dIx (wVar 3) (wCall F_law_take (wCons (wVar 0) (wCons (wBi dLen (wCons (wVar 3) wNil)) wNil)))) (wC (.int 0))) (wCons (wOp dIx (wOp dIx (wVar 3) (wCall F_law_take (wCons (wVar 0) (wCons (wBi dLen (wCons (wVar 3) wNil)) wNil)))) (wC (.int 0))) wNil))) (sSet 6 (wLc (iZipX (wCons (wVar 9) (wCons (wVar 10) wNil))) (gvTup 2 (gvCons (gvName 12) (gvCons (gvName 13) gvNil))) tvYes (wOp dSub (wOp dSub (wC (.int 0)) (wVar 12)) (wOp dMul (wC (.int 2)) (wVar 13))) [12, 13]))) (sIf (wTest (wOp dEq (wVar 5) (wC (.int 2)))) (sSet 6 (wLc (iLst (wVar 6)) (gvName 11) tvYes (wC (.int 0)) [11])) (sIf (wTest (wOp dLt (wVar 5) (wC (.int 5)))) (sSeq (sSet 14 (wCall F_law_price (wCons (wVar 6) (wCons (wVar 2) wNil)))) (sSeq (sSet 6 (wIf (wTest (wOp dLt (wVar 14) (wC (.int 0)))) (wLc (iLst (wVar 6)) (gvName 11) tvYes (wOp dSub (wC (.int 0)) (wVar 11)) [11]) (wVar 6))) (sSet 7 (wAnd (wVar 7) (wOp dNe (wVar 14) (wC (.int 0))))))) sNext)))) (sRet (wTup (wCons (wBi dTupleM (wCons (wVar 6) wNil)) (wCons (wVar 7) wNil))))))))
def w__law_is_kept : WS := (sRet (wOp dGe (wCall F_law_price (wCons (wOp dIx (wVar 0) (wC (.int 0))) (wCons (wVar 1) wNil))) (wBi dInt (wCons (wOp dIx (wVar 0) (wC (.int 1))) wNil))))
def w__law_settled : WS := (sSeq (sSet 3 (wCallX F_settle (wCons (wVar 0) (wCons (wVar 1) wNil)))) (sSeq (sIf (tvOr (tvNot (wTest (wBi dIsi (wCons (wVar 3) (wCons (wC (.ty "tuple")) wNil))))) (tvOr (wTest (wOp dNe (wBi dLen (wCons (wVar 3) wNil)) (wC (.int 2)))) (wTest (wOp dNotIn (wOp dIx (wVar 3) (wC (.int 0))) (wLst (wCons (wC (.str (Str.ofString "costs"))) (wCons (wC (.str (Str.ofString "sum"))) wNil))))))) (sRet (wC .non)) sNext) (sSeq (sIf (wTest (wOp dEq (wOp dIx (wVar 3) (wC (.int 0))) (wC (.str (Str.ofString "sum"))))) (sSeq (sSet 5 (wLc (iLst (wVar 1)) (gvName 6) (tvNot (wTest (wCall F_law_is_kept (wCons (wVar 6) (wCons (wVar 2) wNil))))) (wVar 6) [6])) (sSeq (sIf (tvOr (wTest (wOp (dNilB false) (wVar 5) (wLst wNil))) (tvNot (wTest (wCall F_law_sum_right (wCons (wVar 0) (wCons (wVar 1) (wCons (wOp dIx (wVar 3) (wC (.int 1))) wNil))))))) (sRet (wC .non)) sNext) (sRet (wIf (wTest (wCallX F_shows_sum (wCons (wVar 0) (wCons (wVar 1) (wCons (wOp dIx (wVar 3) (wC (.int 1))) wNil))))) (wC (.bl false)) (wC .non))))) sNext) (sSeq (sSet 4 (wOp dIx (wVar 3) (wC (.int 1)))) (sSeq (sIf (tvOr (tvNot (wTest (wBi dIsi (wCons (wVar 4) (wCons (wC (.ty "tuple")) wNil))))) (wTest (wOp dNe (wBi dLen (wCons (wVar 4) wNil)) (wVar 0)))) (sRet (wC .non)) sNext) (sSeq (sIf (wTest (wOp (dNilB true) (wLc (iTp (wVar 4)) (gvName 7) (tvOr (tvNot (wTest (wBi dIsi (wCons (wVar 7) (wCons (wC (.ty "int")) wNil))))) (tvOr (wTest (wBi dIsi (wCons (wVar 7) (wCons (wC (.ty "bool")) wNil)))) (wTest (wOp dLt (wVar 7) (wC (.int 1)))))) (wC (.int 1)) [7]) (wLst wNil))) (sRet (wC .non)) sNext) (sSeq (sSet 5 (wLc (iLst (wVar 1)) (gvName 6) (tvOr (tvNot (wTest (wCall F_law_is_kept (wCons (wVar 6) (wCons (wVar 4) wNil))))) (tvNot (wTest (wCallX F_keeps (wCons (wVar 4) (wCons (wVar 6) wNil)))))) (wVar 6) [6])) (sRet (wIf (wTest (wOp (dNilB false) (wVar 5) (wLst wNil))) (wC (.bl true)) (wC .non))))))))))
def w_law : WS := (sSeq (sFor (iRg1 (wCons (wBi dMax (wCons (wC (.int 2)) (wCons (wBi dMin (wCons (wC (.int 8)) (wCons (wBi dLen (wCons (wVar 0) wNil)) wNil))) wNil))) wNil)) (gvName 1) (sSeq (sSet 2 (wCall F_law_box (wCons (wCall F_law_cell (wCons (wVar 0) (wCons (wVar 1) wNil))) wNil))) (sSeq (sSet 3 (wOp dAdd (wC (.int 1)) (wCall F_law_take (wCons (wVar 2) (wCons (wC (.int 4)) wNil))))) (sSeq (sPar 4 5 (wCons (wLc (iRg1 (wCons (wVar 3) wNil)) (gvName 11) tvYes (wOp dAdd (wC (.int 1)) (wCall F_law_take (wCons (wVar 2) (wCons (wOp dIx (wLst (wCons (wC (.int 3)) (wCons (wC (.int 50)) (wCons (wOp dPow (wC (.int 10)) (wC (.int 6))) wNil)))) (wCall F_law_take (wCons (wVar 2) (wCons (wC (.int 3)) wNil)))) wNil)))) [11]) (wCons (wOwn wNil) wNil))) (sSeq (sSet 6 (wC (.bl true))) (sSeq (sFor (iRg1 (wCons (wOp dAdd (wC (.int 1)) (wCall F_law_take (wCons (wVar 2) (wCons (wC (.int 9)) wNil)))) wNil)) (gvName 7) (sSeq (sAppend (wVar 5) (wCons (wCall F_law_row (wCons (wVar 2) (wCons (wVar 3) (wCons (wVar 4) (wCons (wVar 5) wNil))))) wNil)) (sSeq (sSet 8 (wBi dReprMB (wCons (wVar 5) wNil))) (sSeq (sSet 9 (wLst (wCons (wCall (lent F_law_settled) (wCons (wVar 3) (wCons (wVar 5) (wCons (wVar 4) wNil)))) (wCons (wCall (lent F_law_settled) (wCons (wVar 3) (wCons (wVar 5) (wCons (wVar 4) wNil)))) wNil)))) (sSeq (sSet 10 (wCallKX F_settle 2 swap2 (wCons (wBi dTupleM (wCons (wLcB 5 (gvTup 2 (gvCons (gvName 12) (gvCons (gvName 13) gvNil))) tvYes (wLst (wCons (wBi dListM (wCons (wVar 12) wNil)) (wCons (wVar 13) wNil))) [12, 13]) wNil)) (wCons (wVar 3) wNil)))) (sSeq (sIf (tvOr (wTest (wOp (dIsB false) (wOp dIx (wVar 9) (wC (.int 0))) (wC .non))) (tvOr (wTest (wOp dNe (wOp dIx (wVar 9) (wC (.int 1))) (wOp dIx (wVar 9) (wC (.int 0))))) (tvOr (wTest (wOp dNe (wOp dEq (wOp dIx (wVar 10) (wC (.int 0))) (wC (.str (Str.ofString "costs")))) (wOp dIx (wVar 9) (wC (.int 0))))) (wTest (wOp dNe (wBi dReprMB (wCons (wVar 5) wNil)) (wVar 8)))))) (sRet (wC (.bl false))) sNext) (sSeq (sIf (tvAnd (wTest (wOp dIx (wVar 9) (wC (.int 0)))) (tvNot (wTest (wVar 6)))) (sRet (wC (.bl false))) sNext) (sSet 6 (wOp dIx (wVar 9) (wC (.int 0))))))))))) (sIf (tvOr (wTest (wOp dNe (wOp dIx (wCallX F_settle (wCons (wVar 3) (wCons (wLst wNil) wNil))) (wC (.int 0))) (wC (.str (Str.ofString "costs"))))) (wTest (wCallX F_shows_sum (wCons (wVar 3) (wCons (wLst wNil) (wCons (wTup wNil) wNil)))))) (sRet (wC (.bl false))) sNext))))))) (sRet (wC (.bl true))))
end K18
namespace K18
open PySem L2 XO DL GB
local macro_rules | `(tactic| walk_at "wg") => `(tactic| ((try dsimp only); (try rw [a_hold]); (try simp only [List.map_cons, List.map_nil, List.length_cons, List.length_nil, List.cons_append, List.nil_append, List.replicate_succ, List.replicate_zero, Nat.reduceAdd, Nat.reduceSub]); (try simp only [↓a_test, ↓a_v0, ↓a_s0, ↓a_g0, ↓a_v1, ↓a_s1, ↓a_g1, ↓a_v2, ↓a_s2, ↓a_g2, ↓a_v3, ↓a_s3, ↓a_g3, ↓a_v4, ↓a_s4, ↓a_g4, ↓a_v5, ↓a_s5, ↓a_g5, ↓a_v6, ↓a_s6, ↓a_g6, ↓a_v7, ↓a_s7, ↓a_g7, ↓a_v8, ↓a_s8, ↓a_g8, ↓a_v9, ↓a_s9, ↓a_g9, ↓a_v10, ↓a_s10, ↓a_g10, ↓a_v11, ↓a_s11, ↓a_g11, ↓a_v12, ↓a_s12, ↓a_g12, ↓a_v13, ↓a_s13, ↓a_g13, ↓a_v14, ↓a_s14, ↓a_g14, ↓a_v15, ↓a_s15, ↓a_g15, ↓a_v16, ↓a_s16, ↓a_g16, ↓a_v17, ↓a_s17, ↓a_g17, ↓a_v18, ↓a_s18, ↓a_g18, ↓a_v19, ↓a_s19, ↓a_g19, ↓a_v20, ↓a_s20, ↓a_g20, ↓a_v21, ↓a_s21, ↓a_g21, ↓a_v22, ↓a_s22, ↓a_g22, ↓a_v23, ↓a_s23, ↓a_g23, ↓a_v24, ↓a_s24, ↓a_g24, ↓a_v25, ↓a_s25, ↓a_g25, ↓a_v26, ↓a_s26, ↓a_g26, ↓a_v27, ↓a_s27, ↓a_g27, ↓a_star, ↓a_asg2, ↓a_asg4, ↓a_neg, ↓a_zipX, ↓a_callKX, ↓a_get2, ↓a_lcO, ↓a_popAt, ↓a_m0, ↓a_op, ↓a_c, ↓a_call, ↓a_callX, ↓a_call0, ↓a_nil, ↓a_cons, ↓a_bi, ↓a_tnot, ↓a_tor, ↓a_tand, ↓a_tru, ↓a_yes, ↓a_if, ↓a_and, ↓a_or, ↓a_not, ↓a_chain, ↓a_sl, ↓a_noPart, ↓a_part, ↓a_lst, ↓a_tup, ↓a_dct0, ↓a_own, ↓a_isT, ↓a_next, ↓a_seqH, ↓a_ret, ↓a_drop, ↓a_sif, ↓a_raise, ↓a_for, ↓a_iVar, ↓a_fld, ↓a_lc, ↓a_iEnumB, ↓a_iEnumS, ↓a_iSg, ↓a_iLst, ↓a_iTp, ↓a_join, ↓a_lenSet, ↓a_append, ↓a_put, ↓a_par, ↓a_unp, ↓a_meth, ↓a_make, ↓a_rg1, ↓a_gTup, ↓a_gNil, ↓a_gCons, ↓a_loopN, wipeD, List.map_cons, List.map_nil, List.length_cons, List.length_nil, List.cons_append, List.nil_append, List.replicate_succ, List.replicate_zero, List.append_nil, List.getElem?_cons_zero, List.getElem?_cons_succ, List.set_cons_zero, List.set_cons_succ, Nat.reduceAdd, Nat.reduceSub, Bool.not_true, Bool.not_false, reduceIte, Bool.false_eq_true, true_and])))
theorem r__law_cell : ∀ ds m Qd Qx, F_law_cell ds m Qd Qx → w__law_cell { nx := fun _ m' => Qd .non m', rt := Qd } (ds.map some ++ List.replicate (2 - ds.length) none) m := by
  rintro ds m Qd Qx ⟨ns, k, rfl, h0, h1, h⟩
  show if decide (k < (ns.length : Int)) = true then _ else _
  refine ifb (fun e => ?_) (fun e => ?_)
  · obtain ⟨x, hx, _⟩ := atI_lt h0 (of_decide_eq_true e)
    exact ⟨x, hx, h x⟩
  · exact ⟨Or.inl (Or.inl ⟨by decide, by decide⟩), h _⟩
theorem r__law_box : ∀ ds m Qd Qx, F_law_box ds m Qd Qx → w__law_box { nx := fun _ m' => Qd .non m', rt := Qd } (ds.map some ++ List.replicate (1 - ds.length) none) m := by
  rintro ds m Qd Qx ⟨i, rfl, h⟩
  refine ⟨⟨by decide, by decide, by decide⟩, ?_⟩
  refine ⟨by decide, ?_⟩
  refine ⟨by show 3 ≤ sizeLine; rw [sizeLine_eq]; decide, fun p hp => ?_⟩
  refine h p _ hp ⟨_, _, _, rfl, ?_, Int.emod_nonneg _ (by decide), ?_, Int.le_refl _, Int.le_refl _⟩
  · show (0 : Int) ≤ if i - 10 ^ 18 > 0 then i - 10 ^ 18 else 0
    split <;> omega
  · have := Int.emod_lt_of_pos i (show (0 : Int) < 2147483629 by decide)
    omega
theorem r__law_take : ∀ ds m Qd Qx, F_law_take ds m Qd Qx → w__law_take { nx := fun _ m' => Qd .non m', rt := Qd } (ds.map some ++ List.replicate (4 - ds.length) none) m := by
  rintro ds m Qd Qx ⟨a, n, c, l, rfl, hm, ⟨x, y, z, rfl, hx, hy0, hy, hz0, hz⟩, hc, hn0, hn, h⟩
  refine ⟨_, _, hm, rfl, ?_⟩
  show if decide (0 < x) = true then _ else _
  refine ifb (fun e => ?_) (fun e => ?_)
  · refine ⟨_, _, hm, rfl, hn0, ?_⟩
    refine ⟨_, _, hm, rfl, div_ok hn0 hn x, ?_⟩
    refine ⟨_, 0, hm, rfl, ?_⟩
    refine h _ _ (Int.emod_nonneg _ (by omega)) (Int.emod_lt_of_pos _ hn0) (Nx.mk_ hm ⟨x / n, y, z, rfl, Int.ediv_nonneg hx (by omega), hy0, hy, hz0, by omega⟩)
  · refine ⟨_, _, hm, rfl, ?_⟩
    refine ⟨_, 2, hm, rfl, ?_⟩
    refine ⟨_, _, Mem.up_same, rfl, ?_⟩
    refine ⟨_, _, Mem.up_same, rfl, ?_⟩
    refine ⟨Or.inl (Or.inl ⟨by decide, by decide⟩), ?_⟩
    refine ⟨⟨by decide, by decide, by omega⟩, ?_⟩
    refine ⟨by decide, ?_⟩
    have q0 := Int.emod_nonneg ((y + 15489841 * (z + 1) + 1823) ^ Int.toNat 5) (show (2147483647 : Int) ≠ 0 by decide)
    have q1 := Int.emod_lt_of_pos ((y + 15489841 * (z + 1) + 1823) ^ Int.toNat 5) (show (0 : Int) < 2147483647 by decide)
    generalize (y + 15489841 * (z + 1) + 1823) ^ Int.toNat 5 % 2147483647 = v at q0 q1 ⊢
    refine ⟨_, _, Mem.up_same, rfl, ?_⟩
    refine ⟨Or.inl (Or.inl ⟨by decide, by decide⟩), ?_⟩
    refine ⟨⟨by decide, by decide, by omega⟩, ?_⟩
    refine ⟨by decide, ?_⟩
    refine ⟨wide_div (b := 10) (by decide) (by decide) (by decide) (by decide), ?_⟩
    refine ⟨hn0, ?_⟩
    exact h _ _ (Int.emod_nonneg _ (by omega)) (Int.emod_lt_of_pos _ hn0) (Nx.mk_ hm ⟨x, y, z + 1, rfl, hx, hy0, hy, by omega, by omega⟩)
theorem tupM_lst {ds : List D} {m : Mem} {Q : D → Mem → Prop} (q : Q (.tup ds) m) : dTupleM [.lst ds] m Q := q
theorem tupM_tup {ds : List D} {m : Mem} {Q : D → Mem → Prop} (q : Q (.tup ds) m) : dTupleM [.tup ds] m Q := q
theorem listM_seq {x : D} {ds : List D} {m : Mem} {Q : D → Mem → Prop} (hs : seqA x = some ds) (q : Q (.lst ds) m) : dListM [x] m Q := by
  cases x <;> first | (cases hs; exact q) | cases hs
theorem r__law_price : ∀ ds m Qd Qx, F_law_price ds m Qd Qx → w__law_price { nx := fun _ m' => Qd .non m', rt := Qd } (ds.map some ++ List.replicate (4 - ds.length) none) m := by
  exact r_weighed
theorem r__law_is_kept : ∀ ds m Qd Qx, F_law_is_kept ds m Qd Qx → w__law_is_kept { nx := fun _ m' => Qd .non m', rt := Qd } (ds.map some ++ List.replicate (2 - ds.length) none) m := by
  rintro ds m Qd Qx ⟨X, a, r, N, ns, rfl, h1, h2, hl, b1, h3, b2, h⟩
  unfold w__law_is_kept
  walk_at "wg"
  refine ix_seq (i := 0) h1 rfl ?_
  refine ⟨a, N, r.1, ns, rfl, h2, h3, hl, b1, b2, ?_⟩
  refine ix_seq (i := 1) h1 rfl ?_
  exact h

end K18
namespace K18
open PySem L2 XO DL GB
local macro_rules | `(tactic| walk_at "wg") => `(tactic| ((try dsimp only); (try rw [a_hold]); (try simp only [List.map_cons, List.map_nil, List.length_cons, List.length_nil, List.cons_append, List.nil_append, List.replicate_succ, List.replicate_zero, Nat.reduceAdd, Nat.reduceSub]); (try simp only [↓a_test, ↓a_v0, ↓a_s0, ↓a_g0, ↓a_v1, ↓a_s1, ↓a_g1, ↓a_v2, ↓a_s2, ↓a_g2, ↓a_v3, ↓a_s3, ↓a_g3, ↓a_v4, ↓a_s4, ↓a_g4, ↓a_v5, ↓a_s5, ↓a_g5, ↓a_v6, ↓a_s6, ↓a_g6, ↓a_v7, ↓a_s7, ↓a_g7, ↓a_v8, ↓a_s8, ↓a_g8, ↓a_v9, ↓a_s9, ↓a_g9, ↓a_v10, ↓a_s10, ↓a_g10, ↓a_v11, ↓a_s11, ↓a_g11, ↓a_v12, ↓a_s12, ↓a_g12, ↓a_v13, ↓a_s13, ↓a_g13, ↓a_v14, ↓a_s14, ↓a_g14, ↓a_v15, ↓a_s15, ↓a_g15, ↓a_v16, ↓a_s16, ↓a_g16, ↓a_v17, ↓a_s17, ↓a_g17, ↓a_v18, ↓a_s18, ↓a_g18, ↓a_v19, ↓a_s19, ↓a_g19, ↓a_v20, ↓a_s20, ↓a_g20, ↓a_v21, ↓a_s21, ↓a_g21, ↓a_v22, ↓a_s22, ↓a_g22, ↓a_v23, ↓a_s23, ↓a_g23, ↓a_v24, ↓a_s24, ↓a_g24, ↓a_v25, ↓a_s25, ↓a_g25, ↓a_v26, ↓a_s26, ↓a_g26, ↓a_v27, ↓a_s27, ↓a_g27, ↓a_star, ↓a_asg2, ↓a_asg4, ↓a_neg, ↓a_zipX, ↓a_callKX, ↓a_get2, ↓a_lcO, ↓a_popAt, ↓a_m0, ↓a_op, ↓a_c, ↓a_call, ↓a_callX, ↓a_call0, ↓a_nil, ↓a_cons, ↓a_bi, ↓a_tnot, ↓a_tor, ↓a_tand, ↓a_tru, ↓a_yes, ↓a_if, ↓a_and, ↓a_or, ↓a_not, ↓a_chain, ↓a_sl, ↓a_noPart, ↓a_part, ↓a_lst, ↓a_tup, ↓a_dct0, ↓a_own, ↓a_isT, ↓a_next, ↓a_seqH, ↓a_ret, ↓a_drop, ↓a_sif, ↓a_raise, ↓a_for, ↓a_iVar, ↓a_fld, ↓a_lc, ↓a_iEnumB, ↓a_iEnumS, ↓a_iSg, ↓a_iLst, ↓a_iTp, ↓a_join, ↓a_lenSet, ↓a_append, ↓a_put, ↓a_par, ↓a_unp, ↓a_meth, ↓a_make, ↓a_rg1, ↓a_gTup, ↓a_gNil, ↓a_gCons, ↓a_loopN, wipeD, List.map_cons, List.map_nil, List.length_cons, List.length_nil, List.cons_append, List.nil_append, List.replicate_succ, List.replicate_zero, List.append_nil, List.getElem?_cons_zero, List.getElem?_cons_succ, List.set_cons_zero, List.set_cons_succ, Nat.reduceAdd, Nat.reduceSub, Bool.not_true, Bool.not_false, reduceIte, Bool.false_eq_true, true_and])))
theorem isi_i {x : D} {m : Mem} {Q : D → Mem → Prop} (hx : isTyped x = true) (q : Q (.bl (match x with | .bl _ => true | .int _ => true | _ => false)) m) : dIsi [x, .ty "int"] m Q := by
  refine ⟨hx, _, isa_int, ?_⟩
  cases x <;> exact q
theorem Rep.rows {k : Nat} {x : D} {R : List (List Int × Bool)} (h : Rep k x R) : rowsOf x = R := by
  obtain ⟨rl, h1, h2, _⟩ := h
  unfold rowsOf
  rw [h1]; exact h2
theorem isEmpty_map {α β : Type} (f : α → β) (xs : List α) : (xs.map f).isEmpty = xs.isEmpty := by cases xs <;> rfl
theorem filter_empty {α : Type} (p : α → Bool) (xs : List α) : (xs.filter p).isEmpty = !xs.any p := by
  induction xs with
  | nil => rfl
  | cons x xs ih =>
    cases e : p x with
    | true => rw [List.filter_cons_of_pos e, List.any_cons, e]; rfl
    | false => rw [List.filter_cons_of_neg (by rw [e]; exact Bool.false_ne_true), List.any_cons, e, ih]; rfl
theorem zip_rows' (rl : List D) (ns : List Int) : zipD rl (intL ns) = (rl.zip ns).map fun p => D.tup [p.1, .int p.2] := by
  unfold zipD intL
  rw [List.zip_map_right, List.map_map]
  rfl
theorem col_sum' (rl : List D) (R : List (List Int × Bool)) (hR : rl.map decRow = R) (as : List Int) (q : Nat) : colSum R as q = ((rl.zip as).map fun p => (decRow p.1).1.getD q 0 * p.2).sum := by
  subst hR
  unfold colSum
  congr 1
  rw [List.zip_map_right, List.map_map]
  induction rl generalizing as with
  | nil => cases as <;> rfl
  | cons r rl ih =>
    cases as with
    | nil => rfl
    | cons a as =>
      show (a * _) :: _ = (_ * a) :: _
      rw [Int.mul_comm]
      congr 1
      exact ih as
theorem strict' (rl : List D) (R : List (List Int × Bool)) (hR : rl.map decRow = R) (as : List Int) : ((as.zip R).any fun p => p.2.2 && decide (0 < p.1)) = (rl.zip as).any fun p => (decRow p.1).2 && decide (0 < p.2) := by
  subst hR
  induction rl generalizing as with
  | nil => cases as <;> rfl
  | cons r rl ih =>
    cases as with
    | nil => rfl
    | cons a as =>
      rw [List.map_cons, List.zip_cons_cons, List.zip_cons_cons, List.any_cons, List.any_cons, ih as]
theorem any_pos (cs : List Int) : (!cs.any fun i => decide (0 < i)) = cs.all fun i => decide (i ≤ 0) := by
  induction cs with
  | nil => rfl
  | cons c cs ih =>
    rw [List.any_cons, List.all_cons, ← ih, Bool.not_or]
    congr 1
    by_cases h : 0 < c
    · rw [decide_eq_true h, decide_eq_false (by omega)]; rfl
    · rw [decide_eq_false h, decide_eq_true (by omega)]; rfl
theorem any_nat (ds : List D) : (!ds.any fun d => !natI d) = ds.all natI := by
  induction ds with
  | nil => rfl
  | cons c cs ih =>
    rw [List.any_cons, List.all_cons, ← ih, Bool.not_or, Bool.not_not]
theorem okT_or {d : D} (h : okT d ∨ ∃ i, d = .int i ∧ Sett.Bd 600 i) : isTyped d = true := by
  rcases h with h | ⟨i, rfl, _⟩
  · exact h.ty
  · rfl
theorem r__law_sum_right : ∀ ds m Qd Qx, F_law_sum_right ds m Qd Qx → w__law_sum_right { nx := fun _ m' => Qd .non m', rt := Qd } (ds.map some ++ List.replicate (10 - ds.length) none) m := by
  rintro ds m Qd Qx ⟨k, rows, R, x, rfl, k1, k4, ⟨rl, hs, hR, hd, ho⟩, hl, hx, h⟩
  have hRl : R.length = rl.length := by rw [← hR, List.length_map]
  unfold w__law_sum_right
  walk_at "wg"
  refine isi_tup hx.ty ?_
  cases x with
  | tup ds =>
    refine if_f rfl ?_
    rw [shows_tup] at h
    have hi := hx.items
    refine len_seq (ds := ds) rfl ?_
    refine len_seq hs ?_
    refine ne_int ?_
    have el : decide ((ds.length : Int) = (rl.length : Nat)) = decide (ds.length = rl.length) := dec_eq rfl rfl
    rw [el]
    rw [hRl] at h hl
    by_cases cl : ds.length = rl.length
    · refine if_f (by rw [decide_eq_true cl]; rfl) ?_
      rw [decide_eq_true cl, Bool.true_and] at h
      walk_at "wg"
      refine ⟨by omega, ?_⟩
      have hm : ds = ds.map id := (List.map_id _).symm
      have first : ∀ (ρ : En0) (Qx : XQ) (Q : D → Mem → Prop), ρ.length = 10 → Q (.lst ((ds.filter fun d => !natI d).map fun _ => .int 1)) m →
          wLcGo (gvName 9) (tvOr (tvNot (wTest (wBi dIsi (wCons (wVar 9) (wCons (wC (.ty "int")) wNil))))) (tvOr (wTest (wBi dIsi (wCons (wVar 9) (wCons (wC (.ty "bool")) wNil)))) (wTest (wOp dLt (wVar 9) (wC (.int 0)))))) (wC (.int 1)) ρ Qx ds [] m Q := by
        intro ρ Qx Q hρ q
        match ρ, hρ with
        | [a0, a1, a2, a3, a4, a5, a6, a7, a8, a9], _ =>
          have go := lc_fmA (g := gvName 9) (tt := tvOr (tvNot (wTest (wBi dIsi (wCons (wVar 9) (wCons (wC (.ty "int")) wNil))))) (tvOr (wTest (wBi dIsi (wCons (wVar 9) (wCons (wC (.ty "bool")) wNil)))) (wTest (wOp dLt (wVar 9) (wC (.int 0)))))) (te := wC (.int 1)) (ρ := [a0, a1, a2, a3, a4, a5, a6, a7, a8, a9]) (Qx := Qx) (m := m) id (fun d => !natI d) (fun _ => .int 1) ds [] Q (fun d hd K K' c1 c2 => by
            have ty := okT_or (hi d hd)
            show gvName 9 d _ _
            walk_at "wg"
            refine isi_i ty ?_
            cases d with
            | bl b =>
              refine if_f rfl ?_
              refine isi_bool ty ?_
              exact c1 rfl
            | int i =>
              refine if_f rfl ?_
              refine isi_bool ty ?_
              refine if_f rfl ?_
              show if decide (i < 0) = true then K (.int 1) m else K' m
              by_cases hn : i < 0
              · rw [if_pos (decide_eq_true hn)]
                refine c1 ?_
                show (!decide (0 ≤ i)) = true
                rw [decide_eq_false (by omega)]; rfl
              · rw [if_neg (by rw [decide_eq_false hn]; exact Bool.false_ne_true)]
                refine c2 ?_
                show (!decide (0 ≤ i)) = false
                rw [decide_eq_true (by omega)]; rfl
            | _ => exact c1 rfl) q
          rw [List.map_id] at go
          exact go
      refine first _ _ _ rfl ?_
      refine ⟨Nat.zero_le _, ?_⟩
      refine nil_lst ?_
      rw [isEmpty_map, filter_empty, any_nat, Bool.xor_true]
      cases ca : ds.all natI with
      | false =>
        rw [ca] at h
        exact h
      | true =>
        rw [ca, Bool.true_and] at h
        refine if_f rfl ?_
        have es : ds = intL (ds.map toI) := ints_all (nat_whole ca)
        have hq := h
        generalize hv : ds.map toI = vs at *
        subst es
        have hvl : vs.length = rl.length := by
          unfold intL at cl
          rw [List.length_map] at cl; exact cl
        have hvb : ∀ n ∈ vs, Sett.Bd 600 n := by
          intro n hn
          rcases hi (.int n) (List.mem_map_of_mem hn) with ho | ⟨i, e, hb⟩
          · exact (bd_ten ho.int).up (by decide)
          · cases e; exact hb
        walk_at "wg"
        rw [range_ints]
        refine ⟨⟨by omega, by omega⟩, by rw [List.length_map, List.length_range]; omega, ?_⟩
        refine lc_mpA (fun q : Nat => D.int (q : Int)) (fun q => .int (colSum R vs q)) (List.range k) _ (fun q hq K kk => ?_) ?_
        · have hq := List.mem_range.mp hq
          walk_at "wg"
          refine ⟨_, _, rl, intL vs, rfl, hs, rfl, ?_⟩
          rw [zip_rows']
          refine ⟨by rw [List.length_map, List.length_zip]; omega, ?_⟩
          refine lc_mpA (fun p : D × Int => D.tup [p.1, .int p.2]) (fun p => .int ((decRow p.1).1.getD q 0 * p.2)) (rl.zip vs) _ (fun p hp K2 kk2 => ?_) ?_
          · have hz := List.of_mem_zip hp
            obtain ⟨a, s, bs, h1, h2, h3, h4⟩ := num_dec (due_rows hd p.1 hz.1)
            refine ⟨rfl, _, _, rfl, _, _, rfl, rfl, ?_⟩
            have oa : okT a := (ho.items hs p.1 hz.1).items h1 a (by simp)
            have hlt : q < bs.length := by omega
            rw [h4] at kk2
            have kk2 : K2 (.int (bs.getD q 0 * p.2)) m := kk2
            have hget : bs.getD q 0 = bs[q] := by rw [List.getD_eq_getElem?_getD, List.getElem?_eq_getElem hlt]; rfl
            rw [hget] at kk2
            have hat : L2.atI (intL bs) (q : Int) = some (.int bs[q]) := by
              refine L2.atI_nat ?_
              unfold intL
              rw [List.getElem?_map, List.getElem?_eq_getElem hlt]; rfl
            have bb : Sett.Bd 600 bs[q] := (oa.bd h2 bs[q] (List.getElem_mem hlt)).up (by decide)
            walk_at "wg"
            refine ix_seq (i := 0) h1 rfl ?_
            refine ix_seq h2 hat ?_
            exact ⟨mul_ok bb (hvb _ hz.2), kk2⟩
          · refine ⟨(rl.zip vs).map fun p => (decRow p.1).1.getD q 0 * p.2, ?_, ?_⟩
            · have := ints_of ((rl.zip vs).map fun p => (decRow p.1).1.getD q 0 * p.2)
              unfold intL at this
              rw [List.map_map] at this
              exact this
            · rw [← col_sum' rl R hR]
              exact kk
        · have ec : (List.range k).map (fun q => D.int (colSum R vs q)) = ((List.range k).map (colSum R vs)).map D.int := by rw [List.map_map]; rfl
          rw [ec]
          have ea : ((List.range k).all fun q => decide (colSum R vs q ≤ 0)) = ((List.range k).map (colSum R vs)).all fun i => decide (i ≤ 0) := by rw [List.all_map]; rfl
          have eb : ((List.range k).any fun q => decide (colSum R vs q < 0)) = ((List.range k).map (colSum R vs)).any fun i => decide (i < 0) := by rw [List.any_map]; rfl
          rw [ea, eb, strict' rl R hR] at hq
          generalize hcs : (List.range k).map (colSum R vs) = cs at hq ⊢
          have hcl : cs.length ≤ 4 := by rw [← hcs, List.length_map, List.length_range]; exact k4
          walk_at "wg"
          walk_at "wg"
          refine ⟨by rw [List.length_map]; omega, ?_⟩
          refine lc_fmA D.int (fun i => decide (0 < i)) D.int cs [] _ (fun i hi K K' c1 c2 => ?_) ?_
          · show if decide (0 < i) = true then K (.int i) m else K' m
            exact ifb c1 c2
          · rw [List.nil_append]
            refine ⟨Nat.zero_le _, ?_⟩
            refine nil_lst ?_
            rw [isEmpty_map, filter_empty, any_pos, Bool.xor_true]
            cases e1 : cs.all fun i => decide (i ≤ 0) with
            | false =>
              rw [e1] at hq
              exact hq
            | true =>
              rw [e1, Bool.true_and] at hq
              refine if_f rfl ?_
              walk_at "wg"
              refine ⟨by rw [List.length_map]; omega, ?_⟩
              refine lc_fmA D.int (fun i => decide (i < 0)) D.int cs [] _ (fun i hi K K' c1 c2 => ?_) ?_
              · show if decide (i < 0) = true then K (.int i) m else K' m
                exact ifb c1 c2
              · rw [List.nil_append]
                walk_at "wg"
                walk_at "wg"
                refine ⟨_, _, rl, intL vs, rfl, hs, rfl, ?_⟩
                rw [zip_rows']
                refine ⟨by rw [List.length_map, List.length_zip]; omega, ?_⟩
                refine lc_fmA (fun p : D × Int => D.tup [p.1, .int p.2]) (fun p => (decRow p.1).2 && decide (0 < p.2)) (fun _ => .int 1) (rl.zip vs) [] _ (fun p hp K K' c1 c2 => ?_) ?_
                · have hz := List.of_mem_zip hp
                  obtain ⟨a, s, bs, h1, h2, h3, h4⟩ := num_dec (due_rows hd p.1 hz.1)
                  rw [h4] at c1 c2
                  refine ⟨rfl, _, _, rfl, _, _, rfl, rfl, ?_⟩
                  walk_at "wg"
                  refine ix_seq (i := 1) h1 rfl ?_
                  cases s with
                  | true =>
                    show if decide (0 < p.2) = true then K (.int 1) m else K' m
                    exact ifb c1 c2
                  | false => exact c2 rfl
                · rw [List.nil_append]
                  walk_at "wg"
                  walk_at "wg"
                  refine ⟨Nat.zero_le _, ?_⟩
                  refine nil_lst ?_
                  rw [isEmpty_map, filter_empty, Bool.xor_true, Bool.not_not]
                  cases e2 : cs.any fun i => decide (i < 0) with
                  | true =>
                    rw [e2, Bool.true_or] at hq
                    exact hq
                  | false =>
                    rw [e2, Bool.false_or] at hq
                    refine if_f rfl ?_
                    refine ⟨Nat.zero_le _, ?_⟩
                    refine nil_lst ?_
                    rw [isEmpty_map, filter_empty, Bool.xor_true, Bool.not_not]
                    exact hq
    · refine if_t (by rw [decide_eq_false cl]; rfl) ?_
      rw [decide_eq_false cl] at h
      exact h
  | _ => exact h

end K18
namespace K18
open PySem L2 XO DL GB
local macro_rules | `(tactic| walk_at "wg") => `(tactic| ((try dsimp only); (try rw [a_hold]); (try simp only [List.map_cons, List.map_nil, List.length_cons, List.length_nil, List.cons_append, List.nil_append, List.replicate_succ, List.replicate_zero, Nat.reduceAdd, Nat.reduceSub]); (try simp only [↓a_test, ↓a_v0, ↓a_s0, ↓a_g0, ↓a_v1, ↓a_s1, ↓a_g1, ↓a_v2, ↓a_s2, ↓a_g2, ↓a_v3, ↓a_s3, ↓a_g3, ↓a_v4, ↓a_s4, ↓a_g4, ↓a_v5, ↓a_s5, ↓a_g5, ↓a_v6, ↓a_s6, ↓a_g6, ↓a_v7, ↓a_s7, ↓a_g7, ↓a_v8, ↓a_s8, ↓a_g8, ↓a_v9, ↓a_s9, ↓a_g9, ↓a_v10, ↓a_s10, ↓a_g10, ↓a_v11, ↓a_s11, ↓a_g11, ↓a_v12, ↓a_s12, ↓a_g12, ↓a_v13, ↓a_s13, ↓a_g13, ↓a_v14, ↓a_s14, ↓a_g14, ↓a_v15, ↓a_s15, ↓a_g15, ↓a_v16, ↓a_s16, ↓a_g16, ↓a_v17, ↓a_s17, ↓a_g17, ↓a_v18, ↓a_s18, ↓a_g18, ↓a_v19, ↓a_s19, ↓a_g19, ↓a_v20, ↓a_s20, ↓a_g20, ↓a_v21, ↓a_s21, ↓a_g21, ↓a_v22, ↓a_s22, ↓a_g22, ↓a_v23, ↓a_s23, ↓a_g23, ↓a_v24, ↓a_s24, ↓a_g24, ↓a_v25, ↓a_s25, ↓a_g25, ↓a_v26, ↓a_s26, ↓a_g26, ↓a_v27, ↓a_s27, ↓a_g27, ↓a_star, ↓a_asg2, ↓a_asg4, ↓a_neg, ↓a_zipX, ↓a_callKX, ↓a_get2, ↓a_lcO, ↓a_popAt, ↓a_m0, ↓a_op, ↓a_c, ↓a_call, ↓a_callX, ↓a_call0, ↓a_nil, ↓a_cons, ↓a_bi, ↓a_tnot, ↓a_tor, ↓a_tand, ↓a_tru, ↓a_yes, ↓a_if, ↓a_and, ↓a_or, ↓a_not, ↓a_chain, ↓a_sl, ↓a_noPart, ↓a_part, ↓a_lst, ↓a_tup, ↓a_dct0, ↓a_own, ↓a_isT, ↓a_next, ↓a_seqH, ↓a_ret, ↓a_drop, ↓a_sif, ↓a_raise, ↓a_for, ↓a_iVar, ↓a_fld, ↓a_lc, ↓a_iEnumB, ↓a_iEnumS, ↓a_iSg, ↓a_iLst, ↓a_iTp, ↓a_join, ↓a_lenSet, ↓a_append, ↓a_put, ↓a_par, ↓a_unp, ↓a_meth, ↓a_make, ↓a_rg1, ↓a_gTup, ↓a_gNil, ↓a_gCons, ↓a_loopN, wipeD, List.map_cons, List.map_nil, List.length_cons, List.length_nil, List.cons_append, List.nil_append, List.replicate_succ, List.replicate_zero, List.append_nil, List.getElem?_cons_zero, List.getElem?_cons_succ, List.set_cons_zero, List.set_cons_succ, Nat.reduceAdd, Nat.reduceSub, Bool.not_true, Bool.not_false, reduceIte, Bool.false_eq_true, true_and])))
theorem bd_60 {n : Int} (h : n.natAbs ≤ 1000000000000000000) : Sett.Bd 60 n := by
  unfold Sett.Bd; omega
theorem nil_box {q : Addr} {ds : List D} {neg : Bool} {m : Mem} {Q : D → Mem → Prop} (hq : m q = some ds) (h : Q (.bl (ds.isEmpty ^^ neg)) m) : dNilB neg (.box q) (.lst []) m Q := ⟨rfl, Or.inr ⟨q, ds, rfl, hq, h⟩⟩
theorem ints_rows {as : List Int} {w : Nat} (hw : w ≤ 100000000000000000000000) (h : ∀ n ∈ as, n.natAbs ≤ w) : ∀ n ∈ as, Sett.Bd 600 n := by
  intro n hn
  have := h n hn
  have : Sett.Bd 100 n := by unfold Sett.Bd; omega
  exact this.up (by decide)
theorem sub_int {i j : Int} {m : Mem} {Q : D → Mem → Prop} (q : Q (.int (i - j)) m) : dSub (.int i) (.int j) m Q := q
def A1 : WS := (sUnp 2 (gvCons (gvName 4) (gvCons (gvName 5) gvNil)) (wTup (wCons (wOp dIx (wLst (wCons (wC (.int 3)) (wCons (wC (.int 9)) (wCons (wOp dPow (wC (.int 10)) (wC (.int 12))) wNil)))) (wCall F_law_take (wCons (wVar 0) (wCons (wC (.int 3)) wNil)))) (wCons (wCall F_law_take (wCons (wVar 0) (wCons (wC (.int 6)) wNil))) wNil))))
def A2 : WS := (sSet 6 (wLc (iRg1 (wCons (wVar 1) wNil)) (gvName 8) tvYes (wOp dSub (wCall F_law_take (wCons (wVar 0) (wCons (wOp dAdd (wOp dMul (wC (.int 2)) (wVar 4)) (wC (.int 1))) wNil))) (wVar 4)) [8]))
def A3 : WS := (sSet 7 (wOp dEq (wCall F_law_take (wCons (wVar 0) (wCons (wC (.int 2)) wNil))) (wC (.int 0))))
def J1 : WS := (sSet 6 (wLc (iTp (wOp dIx (wOp dIx (wVar 3) (wCall F_law_take (wCons (wVar 0) (wCons (wBi dLen (wCons (wVar 3) wNil)) wNil)))) (wC (.int 0)))) (gvName 11) tvYes (wOp dSub (wC (.int 0)) (wVar 11)) [11]))
def J2 : WS := (sSeq (sPar 9 10 (wCons (wOp dIx (wOp dIx (wVar 3) (wCall F_law_take (wCons (wVar 0) (wCons (wBi dLen (wCons (wVar 3) wNil)) wNil)))) (wC (.int 0))) (wCons (wOp dIx (wOp dIx (wVar 3) (wCall F_law_take (wCons (wVar 0) (wCons (wBi dLen (wCons (wVar 3) wNil)) wNil)))) (wC (.int 0))) wNil))) (sSet 6 (wLc (iZipX (wCons (wVar 9) (wCons (wVar 10) wNil))) (gvTup 2 (gvCons (gvName 12) (gvCons (gvName 13) gvNil))) tvYes (wOp dSub (wOp dSub (wC (.int 0)) (wVar 12)) (wOp dMul (wC (.int 2)) (wVar 13))) [12, 13])))
def J3 : WS := (sSet 6 (wLc (iLst (wVar 6)) (gvName 11) tvYes (wC (.int 0)) [11]))
def J4 : WS := (sSeq (sSet 14 (wCall F_law_price (wCons (wVar 6) (wCons (wVar 2) wNil)))) (sSeq (sSet 6 (wIf (wTest (wOp dLt (wVar 14) (wC (.int 0)))) (wLc (iLst (wVar 6)) (gvName 11) tvYes (wOp dSub (wC (.int 0)) (wVar 11)) [11]) (wVar 6))) (sSet 7 (wAnd (wVar 7) (wOp dNe (wVar 14) (wC (.int 0)))))))
def I4 : WS := sIf (wTest (wOp dLt (wVar 5) (wC (.int 5)))) J4 sNext
def I3 : WS := sIf (wTest (wOp dEq (wVar 5) (wC (.int 2)))) J3 I4
def I2 : WS := sIf (tvAnd (wTest (wOp dEq (wVar 5) (wC (.int 1)))) (wTest (wOp dGt (wBi dLen (wCons (wVar 3) wNil)) (wC (.int 1))))) J2 I3
def I1 : WS := sIf (tvAnd (wTest (wOp dEq (wVar 5) (wC (.int 0)))) (wTest (wOp (dNilB true) (wVar 3) (wLst wNil)))) J1 I2
def A5 : WS := (sRet (wTup (wCons (wBi dTupleM (wCons (wVar 6) wNil)) (wCons (wVar 7) wNil))))
theorem row_eq : w__law_row = sSeq A1 (sSeq A2 (sSeq A3 (sSeq I1 A5))) := rfl
theorem i4_ok {o4 o8 o9 o10 o11 o12 o13 o14 : Option D} {E : De} {m : Mem} {b g : Addr} {c : Int} {k w : Nat} {ns as : List Int} {R : List (List Int × Bool)} {s : Bool} {way : Int}  (hA : ∃ l, m b = some l ∧ Box l c) (hc : c ≤ 100100) (k4 : k ≤ 4) (hN : okN k ns) (hg : m g = some (R.map rowL)) (hRl : R.length ≤ 20) (hR : ∀ p ∈ R, okRow k w p) (w1 : 1000000000000 ≤ w) (w2 : w ≤ 100000000000000000000) (ha : as.length = k) (h9 : ∀ n ∈ as, n.natAbs ≤ 1000000000000) (q : ∀ (as2 : List Int) (s2 : Bool) o14 m2, okRow k (3 * w) (as2, s2) → Nx b (c + 0) m m2 → E.nx [some (.box b), some (.int (k : Nat)), some (.lst (intL ns)), some (.box g), o4, some (.int way), some (.lst (intL as2)), some (.bl s2), o8, o9, o10, o11, o12, o13, o14] m2) : I4 E [some (.box b), some (.int (k : Nat)), some (.lst (intL ns)), some (.box g), o4, some (.int way), some (.lst (intL as)), some (.bl s), o8, o9, o10, o11, o12, o13, o14] m := by
  obtain ⟨l, hb, hbx⟩ := hA
  have self : Nx b (c + 0) m m := by rw [Int.add_zero]; exact Nx.refl hb hbx
  have oka : ∀ s2, okRow k (3 * w) (as, s2) := fun s2 => ⟨ha, fun n hn => by have := h9 n hn; omega⟩
  unfold I4
  walk_at "wg"
  show if decide (way < 5) = true then _ else _
  refine ifb (fun _ => ?_) (fun _ => ?_)
  · unfold J4
    walk_at "wg"
    refine ⟨_, _, as, ns, rfl, rfl, rfl, by omega, ints_rows (w := 1000000000000) (by decide) h9, fun n hn => by have := hN.2 n hn; exact ints_rows (w := 1000000000000000000000) (by decide) (fun n hn => by have := hN.2 n hn; omega) n hn, ?_⟩
    walk_at "wg"
    walk_at "wg"
    show if decide (dotL as ns < 0) = true then _ else _
    refine ifb (fun _ => ?_) (fun _ => ?_)
    · refine ⟨by unfold intL; rw [List.length_map]; omega, ?_⟩
      refine lc_mpA D.int (fun n => .int (0 - n)) as _ (fun n hn K kk => ?_) ?_
      · walk_at "wg"
        exact sub_int kk
      · have e : as.map (fun n => D.int (0 - n)) = intL (as.map fun n => 0 - n) := by
          unfold intL; rw [List.map_map]; rfl
        rw [e]
        have ok2 : ∀ s2, okRow k (3 * w) (as.map fun n => 0 - n, s2) := by
          intro s2
          refine ⟨by rw [List.length_map]; exact ha, fun n hn => ?_⟩
          obtain ⟨i, hi, rfl⟩ := List.mem_map.mp hn
          have := h9 i hi
          omega
        walk_at "wg"
        walk_at "wg"
        cases s with
        | true =>
          refine if_t rfl ?_
          refine ne_int ?_
          exact q _ _ _ m (ok2 _) self
        | false => exact q _ _ _ m (ok2 _) self
    · walk_at "wg"
      walk_at "wg"
      cases s with
      | true =>
        refine if_t rfl ?_
        refine ne_int ?_
        exact q _ _ _ m (oka _) self
      | false => exact q _ _ _ m (oka _) self
  · exact q _ _ _ m (oka _) self
theorem i3_ok {o4 o8 o9 o10 o11 o12 o13 o14 : Option D} {E : De} {m : Mem} {b g : Addr} {c : Int} {k w : Nat} {ns as : List Int} {R : List (List Int × Bool)} {s : Bool} {way : Int}  (hA : ∃ l, m b = some l ∧ Box l c) (hc : c ≤ 100100) (k4 : k ≤ 4) (hN : okN k ns) (hg : m g = some (R.map rowL)) (hRl : R.length ≤ 20) (hR : ∀ p ∈ R, okRow k w p) (w1 : 1000000000000 ≤ w) (w2 : w ≤ 100000000000000000000) (ha : as.length = k) (h9 : ∀ n ∈ as, n.natAbs ≤ 1000000000000) (q : ∀ (as2 : List Int) (s2 : Bool) o14 m2, okRow k (3 * w) (as2, s2) → Nx b (c + 0) m m2 → E.nx [some (.box b), some (.int (k : Nat)), some (.lst (intL ns)), some (.box g), o4, some (.int way), some (.lst (intL as2)), some (.bl s2), o8, o9, o10, o11, o12, o13, o14] m2) : I3 E [some (.box b), some (.int (k : Nat)), some (.lst (intL ns)), some (.box g), o4, some (.int way), some (.lst (intL as)), some (.bl s), o8, o9, o10, o11, o12, o13, o14] m := by
  unfold I3
  walk_at "wg"
  refine eq_int ?_
  refine ifb (fun _ => ?_) (fun _ => ?_)
  · obtain ⟨l, hb, hbx⟩ := hA
    have self : Nx b (c + 0) m m := by rw [Int.add_zero]; exact Nx.refl hb hbx
    unfold J3
    walk_at "wg"
    refine ⟨by unfold intL; rw [List.length_map]; omega, ?_⟩
    refine lc_mpA D.int (fun _ => .int 0) as _ (fun n hn K kk => kk) ?_
    have e : as.map (fun _ => D.int 0) = intL (as.map fun _ => 0) := by
      unfold intL; rw [List.map_map]; rfl
    rw [e]
    refine q _ _ _ m ⟨by rw [List.length_map]; exact ha, fun n hn => ?_⟩ self
    obtain ⟨i, hi, rfl⟩ := List.mem_map.mp hn
    simp
  · exact i4_ok hA hc k4 hN hg hRl hR w1 w2 ha h9 q
theorem pick_row {k w : Nat} {R : List (List Int × Bool)} {g : Addr} {i : Int} {m : Mem} {Q : D → Mem → Prop} (hg : m g = some (R.map rowL)) (hR : ∀ p ∈ R, okRow k w p) (h0 : 0 ≤ i) (h1 : i < R.length) (q : ∀ r, okRow k w r → Q (.tup (intL r.1)) m) : dIx (.box g) (.int i) m fun x m1 => dIx x (.int 0) m1 Q := by
  obtain ⟨d, hat, hd⟩ := atI_lt (xs := R.map rowL) (i := i) h0 (by rw [List.length_map]; exact h1)
  obtain ⟨r, hr, rfl⟩ := List.mem_map.mp hd
  refine ⟨_, _, hg, hat, ?_⟩
  exact ⟨_, (show L2.atI [D.tup (intL r.1), D.bl r.2] 0 = some (D.tup (intL r.1)) from rfl), q r (hR r hr)⟩
theorem i2_ok {o4 o8 o9 o10 o11 o12 o13 o14 : Option D} {E : De} {m : Mem} {b g : Addr} {c : Int} {k w : Nat} {ns as : List Int} {R : List (List Int × Bool)} {s : Bool} {way : Int}  (hA : ∃ l, m b = some l ∧ Box l c) (hc : c ≤ 100100) (k4 : k ≤ 4) (hN : okN k ns) (hg : m g = some (R.map rowL)) (hRl : R.length ≤ 20) (hR : ∀ p ∈ R, okRow k w p) (w1 : 1000000000000 ≤ w) (w2 : w ≤ 100000000000000000000) (ha : as.length = k) (h9 : ∀ n ∈ as, n.natAbs ≤ 1000000000000) (q : ∀ (as2 : List Int) (s2 : Bool) o9 o10 o14 m2, okRow k (3 * w) (as2, s2) → Nx b (c + 2) m m2 → E.nx [some (.box b), some (.int (k : Nat)), some (.lst (intL ns)), some (.box g), o4, some (.int way), some (.lst (intL as2)), some (.bl s2), o8, o9, o10, o11, o12, o13, o14] m2) : I2 E [some (.box b), some (.int (k : Nat)), some (.lst (intL ns)), some (.box g), o4, some (.int way), some (.lst (intL as)), some (.bl s), o8, o9, o10, o11, o12, o13, o14] m := by
  have q4 : ∀ (as2 : List Int) (s2 : Bool) o14 m2, okRow k (3 * w) (as2, s2) → Nx b (c + 0) m m2 → E.nx [some (.box b), some (.int (k : Nat)), some (.lst (intL ns)), some (.box g), o4, some (.int way), some (.lst (intL as2)), some (.bl s2), o8, o9, o10, o11, o12, o13, o14] m2 := fun as2 s2 o14 m2 h1 h2 => q as2 s2 _ _ o14 m2 h1 (h2.le (by omega))
  obtain ⟨l, hb, hbx⟩ := id hA
  have self : Nx b c m m := Nx.refl hb hbx
  have hgb : g ≠ b := by
    rintro rfl
    rw [hb] at hg
    obtain ⟨x, y, z, rfl, _⟩ := hbx
    have := Option.some.inj hg
    cases R with
    | nil => cases this
    | cons r R => cases this
  unfold I2
  walk_at "wg"
  refine eq_int ?_
  refine ifb (fun _ => ?_) (fun _ => i3_ok hA hc k4 hN hg hRl hR w1 w2 ha h9 q4)
  refine ⟨_, hg, ?_⟩
  show if decide ((1 : Int) < ((R.map rowL).length : Nat)) = true then _ else _
  rw [List.length_map]
  refine ifb (fun c1 => ?_) (fun _ => i3_ok hA hc k4 hN hg hRl hR w1 w2 ha h9 q4)
  have c1 := of_decide_eq_true c1
  unfold J2
  walk_at "wg"
  refine ⟨_, hg, ?_⟩
  rw [List.length_map]
  refine take_ok self (by omega) (by omega) (by omega) fun d m1 d0 d1 n1 _ => ?_
  have g1 : m1 g = some (R.map rowL) := n1.1 g _ hgb hg
  refine pick_row g1 hR d0 d1 fun r hr => ?_
  refine ⟨_, g1, ?_⟩
  rw [List.length_map]
  refine take_ok n1 (by omega) (by omega) (by omega) fun d2 m2 e0 e1 n2 _ => ?_
  have g2 : m2 g = some (R.map rowL) := n2.1 g _ hgb hg
  refine pick_row g2 hR e0 e1 fun r2 hr2 => ?_
  refine ⟨_, _, rfl, ?_⟩
  walk_at "wg"
  walk_at "wg"
  refine ⟨_, _, intL r.1, intL r2.1, rfl, rfl, rfl, ?_⟩
  rw [zip_ints]
  refine ⟨by rw [List.length_map, List.length_zip, hr.1]; omega, ?_⟩
  refine lc_mpA (fun p : Int × Int => D.tup [.int p.1, .int p.2]) (fun p => .int (0 - p.1 - 2 * p.2)) (r.1.zip r2.1) _ (fun p hp K kk => ?_) ?_
  · have hz := List.of_mem_zip hp
    have := hr2.2 _ hz.2
    refine ⟨rfl, _, _, rfl, _, _, rfl, rfl, ?_⟩
    walk_at "wg"
    refine sub_int ?_
    refine ⟨mul_ok (a := 3) (b := 100) (by decide) (by omega), ?_⟩
    exact sub_int kk
  · have e : (r.1.zip r2.1).map (fun p => D.int (0 - p.1 - 2 * p.2)) = intL ((r.1.zip r2.1).map fun p => 0 - p.1 - 2 * p.2) := by
      unfold intL; rw [List.map_map]; rfl
    rw [e]
    refine q _ _ _ _ _ m2 ⟨by rw [List.length_map, List.length_zip, hr.1, hr2.1]; omega, fun n hn => ?_⟩ (n2.le (by omega))
    obtain ⟨p, hp, rfl⟩ := List.mem_map.mp hn
    have hz := List.of_mem_zip hp
    have h1 := hr.2 _ hz.1
    have h2 := hr2.2 _ hz.2
    omega
theorem i1_ok {o4 o8 o9 o10 o11 o12 o13 o14 : Option D} {E : De} {m : Mem} {b g : Addr} {c : Int} {k w : Nat} {ns as : List Int} {R : List (List Int × Bool)} {s : Bool} {way : Int}  (hA : ∃ l, m b = some l ∧ Box l c) (hc : c ≤ 100100) (k4 : k ≤ 4) (hN : okN k ns) (hg : m g = some (R.map rowL)) (hRl : R.length ≤ 20) (hR : ∀ p ∈ R, okRow k w p) (w1 : 1000000000000 ≤ w) (w2 : w ≤ 100000000000000000000) (ha : as.length = k) (h9 : ∀ n ∈ as, n.natAbs ≤ 1000000000000) (q : ∀ (as2 : List Int) (s2 : Bool) o9 o10 o14 m2, okRow k (3 * w) (as2, s2) → Nx b (c + 2) m m2 → E.nx [some (.box b), some (.int (k : Nat)), some (.lst (intL ns)), some (.box g), o4, some (.int way), some (.lst (intL as2)), some (.bl s2), o8, o9, o10, o11, o12, o13, o14] m2) : I1 E [some (.box b), some (.int (k : Nat)), some (.lst (intL ns)), some (.box g), o4, some (.int way), some (.lst (intL as)), some (.bl s), o8, o9, o10, o11, o12, o13, o14] m := by
  obtain ⟨l, hb, hbx⟩ := id hA
  have self : Nx b c m m := Nx.refl hb hbx
  unfold I1
  walk_at "wg"
  refine eq_int ?_
  refine ifb (fun _ => ?_) (fun _ => i2_ok hA hc k4 hN hg hRl hR w1 w2 ha h9 q)
  refine ⟨Nat.zero_le _, ?_⟩
  refine nil_box hg ?_
  rw [isEmpty_map, Bool.xor_true]
  refine ifb (fun c1 => ?_) (fun _ => i2_ok hA hc k4 hN hg hRl hR w1 w2 ha h9 q)
  have hne : 0 < R.length := by
    cases R with
    | nil => cases c1
    | cons r R => simp
  have hgb : g ≠ b := by
    rintro rfl
    rw [hb] at hg
    obtain ⟨x, y, z, rfl, _⟩ := hbx
    have := Option.some.inj hg
    cases R with
    | nil => cases this
    | cons r R => cases this
  unfold J1
  walk_at "wg"
  refine ⟨_, hg, ?_⟩
  rw [List.length_map]
  refine take_ok self (by omega) (by omega) (by omega) fun d m1 d0 d1 n1 _ => ?_
  have g1 : m1 g = some (R.map rowL) := n1.1 g _ hgb hg
  refine pick_row g1 hR d0 d1 fun r hr => ?_
  dsimp only
  refine ⟨by unfold intL; rw [List.length_map, hr.1]; omega, ?_⟩
  refine lc_mpA D.int (fun n => .int (0 - n)) r.1 _ (fun n hn K kk => ?_) ?_
  · walk_at "wg"
    exact sub_int kk
  · have e : r.1.map (fun n => D.int (0 - n)) = intL (r.1.map fun n => 0 - n) := by
      unfold intL; rw [List.map_map]; rfl
    rw [e]
    refine q _ _ _ _ _ m1 ⟨by rw [List.length_map]; exact hr.1, fun n hn => ?_⟩ (n1.le (by omega))
    obtain ⟨i, hi, rfl⟩ := List.mem_map.mp hn
    have := hr.2 i hi
    omega
theorem r__law_row : ∀ ds m Qd Qx, F_law_row ds m Qd Qx → w__law_row { nx := fun _ m' => Qd .non m', rt := Qd } (ds.map some ++ List.replicate (15 - ds.length) none) m := by
  rintro ds m Qd Qx ⟨b, g, c, l, k, w, ns, R, rfl, hm, hb, hc, k1, k4, hN, hg, hRl, hR, w1, w2, h⟩
  have n0 : Nx b c m m := Nx.refl hm hb
  have hgb : g ≠ b := by
    rintro rfl
    rw [hm] at hg
    obtain ⟨x, y, z, rfl, _⟩ := hb
    have := Option.some.inj hg
    cases R with
    | nil => cases this
    | cons r R => cases this
  rw [row_eq]
  rw [a_seqH]
  unfold A1
  walk_at "wg"
  refine ⟨⟨by decide, by decide, by decide⟩, small_line (n := 3) (by decide), ?_⟩
  refine take_ok n0 (by omega) (by decide) (by decide) fun d m1 d0 d3 n1 s1 => ?_
  have pick : ∃ wd : Int, L2.atI [D.int 3, D.int 9, D.int (10 ^ Int.toNat 12)] d = some (.int wd) ∧ 2 ≤ wd ∧ wd ≤ 1000000000000 := by
    have : d = 0 ∨ d = 1 ∨ d = 2 := by omega
    rcases this with rfl | rfl | rfl
    · exact ⟨3, rfl, by decide, by decide⟩
    · exact ⟨9, rfl, by decide, by decide⟩
    · exact ⟨10 ^ Int.toNat 12, rfl, by decide, by decide⟩
  obtain ⟨wd, hat, w2', w9⟩ := pick
  refine ⟨_, hat, ?_⟩
  refine take_ok n1 (by omega) (by decide) (by decide) fun way m2 e0 e6 n2 s2 => ?_
  refine ⟨small_line (n := 2) (by decide), _, Or.inr (Or.inl rfl), rfl, ?_⟩
  walk_at "wg"
  rw [a_hold, a_seqH]
  unfold A2
  walk_at "wg"
  rw [range_ints]
  refine ⟨⟨by omega, by omega⟩, by rw [List.length_map, List.length_range]; omega, ?_⟩
  refine lc_draw (b := b) (per := 1) (lim := c + 7) (m0 := m) (by decide) (fun d => ∃ n : Int, d = .int n ∧ n.natAbs ≤ 1000000000000) _ [] (c + 1 + 1) m2 _ n2 (by rw [List.length_map, List.length_range]; omega) (by simp) (fun x hx c' m' K hn hc' kk => ?_) (fun l2 m3 hl hgd n3 => ?_)
  · walk_at "wg"
    refine ⟨mul_ok (a := 3) (b := 42) (by decide) (by omega), ?_⟩
    dsimp only
    refine add_int ?_
    refine take_ok hn (by omega) (by omega) (by omega) fun d2 m3 e0 e1 _ n3 => ?_
    exact kk _ _ ⟨d2 - wd, rfl, by omega⟩ n3
  · rw [List.length_map, List.length_range] at hl n3
    rw [List.length_nil, Nat.zero_add] at hl
    have es : ∃ as : List Int, l2 = intL as ∧ as.length = k ∧ ∀ n ∈ as, n.natAbs ≤ 1000000000000 := by
      refine ⟨l2.map toI, ?_, by rw [List.length_map]; exact hl, fun n hn => ?_⟩
      · refine ints_all ?_
        rw [List.all_eq_true]
        intro d hd
        obtain ⟨n, rfl, _⟩ := hgd d hd
        rfl
      · obtain ⟨d, hd, rfl⟩ := List.mem_map.mp hn
        obtain ⟨n, rfl, h9⟩ := hgd d hd
        exact h9
    obtain ⟨as, rfl, hl4, h9⟩ := es
    clear hl hgd
    have g3 : m3 g = some (R.map rowL) := n3.1 g _ hgb hg
    rw [a_hold, a_seqH]
    unfold A3
    walk_at "wg"
    refine take_ok n3 (by omega) (by decide) (by decide) fun d4 m4 f0 f1 n4 _ => ?_
    have g4 : m4 g = some (R.map rowL) := n4.1 g _ hgb hg
    refine eq_int ?_
    (try dsimp only)
    rw [a_hold, a_seqH]
    refine i1_ok (k := k) (w := w) (R := R) (ns := ns) (as := as) n4.2 (by omega) k4 hN g4 hRl hR w1 w2 hl4 h9 fun as2 s2 o9 o10 o14 m5 ok2 n5 => ?_
    (try dsimp only)
    rw [a_hold]
    unfold A5
    walk_at "wg"
    refine tupM_lst ?_
    refine ⟨small_line (n := 2) (by decide), ?_⟩
    exact h (as2, s2) m5 ok2 ((n4.step n5).le (by omega))


end K18
namespace K18
open PySem L2 XO DL GB
local macro_rules | `(tactic| walk_at "wg") => `(tactic| ((try dsimp only); (try rw [a_hold]); (try simp only [List.map_cons, List.map_nil, List.length_cons, List.length_nil, List.cons_append, List.nil_append, List.replicate_succ, List.replicate_zero, Nat.reduceAdd, Nat.reduceSub]); (try simp only [↓a_test, ↓a_v0, ↓a_s0, ↓a_g0, ↓a_v1, ↓a_s1, ↓a_g1, ↓a_v2, ↓a_s2, ↓a_g2, ↓a_v3, ↓a_s3, ↓a_g3, ↓a_v4, ↓a_s4, ↓a_g4, ↓a_v5, ↓a_s5, ↓a_g5, ↓a_v6, ↓a_s6, ↓a_g6, ↓a_v7, ↓a_s7, ↓a_g7, ↓a_v8, ↓a_s8, ↓a_g8, ↓a_v9, ↓a_s9, ↓a_g9, ↓a_v10, ↓a_s10, ↓a_g10, ↓a_v11, ↓a_s11, ↓a_g11, ↓a_v12, ↓a_s12, ↓a_g12, ↓a_v13, ↓a_s13, ↓a_g13, ↓a_v14, ↓a_s14, ↓a_g14, ↓a_v15, ↓a_s15, ↓a_g15, ↓a_v16, ↓a_s16, ↓a_g16, ↓a_v17, ↓a_s17, ↓a_g17, ↓a_v18, ↓a_s18, ↓a_g18, ↓a_v19, ↓a_s19, ↓a_g19, ↓a_v20, ↓a_s20, ↓a_g20, ↓a_v21, ↓a_s21, ↓a_g21, ↓a_v22, ↓a_s22, ↓a_g22, ↓a_v23, ↓a_s23, ↓a_g23, ↓a_v24, ↓a_s24, ↓a_g24, ↓a_v25, ↓a_s25, ↓a_g25, ↓a_v26, ↓a_s26, ↓a_g26, ↓a_v27, ↓a_s27, ↓a_g27, ↓a_star, ↓a_asg2, ↓a_asg4, ↓a_neg, ↓a_zipX, ↓a_callKX, ↓a_get2, ↓a_lcO, ↓a_popAt, ↓a_m0, ↓a_op, ↓a_c, ↓a_call, ↓a_callX, ↓a_call0, ↓a_nil, ↓a_cons, ↓a_bi, ↓a_tnot, ↓a_tor, ↓a_tand, ↓a_tru, ↓a_yes, ↓a_if, ↓a_and, ↓a_or, ↓a_not, ↓a_chain, ↓a_sl, ↓a_noPart, ↓a_part, ↓a_lst, ↓a_tup, ↓a_dct0, ↓a_own, ↓a_isT, ↓a_next, ↓a_seqH, ↓a_ret, ↓a_drop, ↓a_sif, ↓a_raise, ↓a_for, ↓a_iVar, ↓a_fld, ↓a_lc, ↓a_iEnumB, ↓a_iEnumS, ↓a_iSg, ↓a_iLst, ↓a_iTp, ↓a_join, ↓a_lenSet, ↓a_append, ↓a_put, ↓a_par, ↓a_unp, ↓a_meth, ↓a_make, ↓a_rg1, ↓a_gTup, ↓a_gNil, ↓a_gCons, ↓a_loopN, wipeD, List.map_cons, List.map_nil, List.length_cons, List.length_nil, List.cons_append, List.nil_append, List.replicate_succ, List.replicate_zero, List.append_nil, List.getElem?_cons_zero, List.getElem?_cons_succ, List.set_cons_zero, List.set_cons_succ, Nat.reduceAdd, Nat.reduceSub, Bool.not_true, Bool.not_false, reduceIte, Bool.false_eq_true, true_and])))
theorem okA_lst {ds : List D} {n : Nat} (hl : ds.length ≤ 100000) (h : ∀ d ∈ ds, okD d n = true) : okD (.lst ds) (n + 1) = true := by
  simp only [okD, Bool.and_eq_true, decide_eq_true_eq]
  exact ⟨hl, okA.of h⟩
theorem okA_tup {ds : List D} {n : Nat} (hl : ds.length ≤ 100000) (h : ∀ d ∈ ds, okD d n = true) : okD (.tup ds) (n + 1) = true := by
  simp only [okD, Bool.and_eq_true, decide_eq_true_eq]
  exact ⟨hl, okA.of h⟩
theorem okI {i : Int} {n : Nat} (h : i.natAbs ≤ 10 ^ 99) : okD (.int i) n = true := by
  simp only [okD, decide_eq_true_eq]
  exact Nat.lt_of_le_of_lt h (by decide +kernel)
theorem row_ok {k w : Nat} {p : List Int × Bool} (h : okRow k w p) (hk : k ≤ 4) (hw : w ≤ 10 ^ 40) : okD (rowL p) 2 = true ∧ okD (rowM p) 2 = true := by
  have hi : ∀ d ∈ intL p.1, okD d 0 = true := by
    intro d hd
    obtain ⟨n, hn, rfl⟩ := List.mem_map.mp hd
    exact okI (Nat.le_trans (h.2 n hn) (Nat.le_trans hw (by decide +kernel)))
  have hl : (intL p.1).length ≤ 100000 := by
    unfold intL
    rw [List.length_map, h.1]; omega
  refine ⟨okA_tup (by simp) fun d hd => ?_, okA_lst (by simp) fun d hd => ?_⟩
  · simp only [List.mem_cons, List.not_mem_nil, or_false] at hd
    rcases hd with rfl | rfl
    · exact okA_tup hl hi
    · simp [okD]
  · simp only [List.mem_cons, List.not_mem_nil, or_false] at hd
    rcases hd with rfl | rfl
    · exact okA_lst hl hi
    · simp [okD]
theorem whole_intL (ns : List Int) : (intL ns).all isWhole = true := by
  unfold intL
  rw [List.all_map, List.all_eq_true]
  intro i _; rfl
theorem num_rowL {k w : Nat} {p : List Int × Bool} (h : okRow k w p) : numRow k (rowL p) = true ∧ numRow k (rowM p) = true ∧ decRow (rowL p) = p ∧ decRow (rowM p) = p := by
  have e : ((intL p.1).length : Int) = k := by
    unfold intL
    rw [List.length_map, h.1]
  have m : (intL p.1).map toI = p.1 := by
    unfold intL
    rw [List.map_map]
    exact List.map_id _
  have n : ((intL p.1).all isWhole && decide (((intL p.1).length : Int) = k)) = true := by
    rw [whole_intL, e, decide_eq_true rfl]; rfl
  refine ⟨n, n, ?_, ?_⟩
  · show ((intL p.1).map toI, p.2) = p
    rw [m]
  · show ((intL p.1).map toI, p.2) = p
    rw [m]
theorem due_ok {k w : Nat} {f : List Int × Bool → D} (hf : ∀ p, okRow k w p → numRow k (f p) = true) : ∀ {R : List (List Int × Bool)}, (∀ p ∈ R, okRow k w p) → ∀ xs, dueL k (R.map f ++ xs) = dueL k xs
  | [], _, xs => rfl
  | p :: R, h, xs => by
    rw [List.map_cons, List.cons_append]
    have e := hf p (h p List.mem_cons_self)
    show (if numRow k (f p) = true then dueL k (R.map f ++ xs) else some (.row (f p))) = _
    rw [if_pos e]
    exact due_ok hf (fun q hq => h q (List.mem_cons_of_mem _ hq)) xs
theorem rep_L {k w : Nat} {R : List (List Int × Bool)} (h : ∀ p ∈ R, okRow k w p) (hw : w ≤ 10 ^ 40) (hk : k ≤ 4) (hl : R.length ≤ 20) : Rep k (.lst (R.map rowL)) R ∧ Rep k (.tup (R.map rowM)) R := by
  refine ⟨⟨R.map rowL, rfl, ?_, ?_, 3, okA_lst (by rw [List.length_map]; omega) fun d hd => ?_⟩, ⟨R.map rowM, rfl, ?_, ?_, 3, okA_tup (by rw [List.length_map]; omega) fun d hd => ?_⟩⟩
  · rw [List.map_map]
    conv => rhs; rw [← List.map_id R]
    exact List.map_congr_left fun p hp => (num_rowL (h p hp)).2.2.1
  · have := due_ok (f := rowL) (fun p hp => (num_rowL hp).1) h []
    rw [List.append_nil] at this; exact this
  · obtain ⟨p, hp, rfl⟩ := List.mem_map.mp hd
    exact (row_ok (h p hp) hk hw).1
  · rw [List.map_map]
    conv => rhs; rw [← List.map_id R]
    exact List.map_congr_left fun p hp => (num_rowL (h p hp)).2.2.2
  · have := due_ok (f := rowM) (fun p hp => (num_rowL hp).2.1) h []
    rw [List.append_nil] at this; exact this
  · obtain ⟨p, hp, rfl⟩ := List.mem_map.mp hd
    exact (row_ok (h p hp) hk hw).2
theorem Rep.okT {k : Nat} {x : D} {R : List (List Int × Bool)} (h : Rep k x R) : okT x := h.choose_spec.2.2.2
theorem Rep.due {k : Nat} {x : D} {R : List (List Int × Bool)} (h : Rep k x R) (k1 : 1 ≤ k) (k4 : k ≤ 4) : dueRows (.int (k : Nat)) x = none := by
  obtain ⟨rl, hs, _, hd, _⟩ := h
  have hb : inB 1 4 (.int (k : Nat)) = true := by
    show (decide (1 ≤ ((k : Nat) : Int)) && decide (((k : Nat) : Int) ≤ 4)) = true
    rw [decide_eq_true (by omega), decide_eq_true (by omega)]; rfl
  obtain ⟨k0, ek, _, _, e⟩ := due_many (rows := x) hb
  cases ek
  rw [e, hs]
  exact hd
theorem repr_same {x : D} {l : List D} {m : Mem} {Q : D → Mem → Prop} {n : Nat} (hl : res m x = .lst l) (ok : okD (.lst l) n = true) (hn : n ≤ 50) (hw : wtD (.lst l) ≤ 1000000) (q : Q (.str (py (.lst l)).shown) m) : dReprMB [x] m Q := by
  have go : dReprM [x] m Q := repr_ok hl ok hn hw q
  cases x <;> first | exact go | (unfold DL.res at hl; cases hl)
theorem repr_l {l : List D} {m : Mem} {Q : D → Mem → Prop} {n : Nat} (ok : okD (.lst l) n = true ∧ wtD (.lst l) ≤ 1000000) (hn : n ≤ 50) (q : Q (.str (py (.lst l)).shown) m) : dReprMB [.lst l] m Q := repr_same (res_ok ok.1) ok.1 hn ok.2 q
theorem repr_box {p : Addr} {l : List D} {m : Mem} {Q : D → Mem → Prop} {n : Nat} (hp : m p = some l) (ok : okD (.lst l) n = true ∧ wtD (.lst l) ≤ 1000000) (hn : n ≤ 50) (q : Q (.str (py (.lst l)).shown) m) : dReprMB [.box p] m Q := by
  refine repr_same (x := .box p) ?_ ok.1 hn ok.2 q
  unfold DL.res
  rw [hp]
theorem str_ne {a : Str} {m : Mem} {Q : D → Mem → Prop} (q : Q (.bl false) m) : dNe (.str a) (.str a) m Q := by
  refine dNe_str ?_
  rw [decide_eq_true rfl]; exact q
theorem keeps_call {k : Nat} {N X : D} {r : List Int × Bool} {vs : List Int} {m : Mem} {Q : D → Mem → Prop} {Qx : XQ} (hN : seqA N = some (intL vs)) (hv : vs.length = k) (hb : ∀ n ∈ vs, 1 ≤ n) (oN : okT N) (oX : okT X) (hX : numRow k X = true) (hd : decRow X = r) (k1 : 1 ≤ k) (k4 : k ≤ 4)
    (q : Q (.bl (decide ((if r.2 then 1 else 0 : Int) ≤ dotL r.1 vs))) m) : F_keeps [N, X] m Q Qx := by
  have hl : (intL vs).length = k := by
    unfold intL
    rw [List.length_map]; exact hv
  have hc : (intL vs).all costN = true := by
    rw [List.all_eq_true]
    intro d hd
    obtain ⟨n, hn, rfl⟩ := List.mem_map.mp hd
    exact decide_eq_true (hb n hn)
  have e : dueKeeps N X = none := by
    have e : dueKeeps N X = if 1 ≤ (intL vs).length ∧ (intL vs).length ≤ 4 then (if (intL vs).all costN = true then (if numRow (intL vs).length X = true then none else some (.row X)) else some (.part N)) else some (.part N) := by
      unfold dueKeeps
      rw [hN]
    rw [e, hl, if_pos ⟨k1, k4⟩, if_pos hc, if_pos hX]
  have ei : intsOf N = vs := by
    unfold intsOf
    rw [hN]
    show (intL vs).map toI = vs
    unfold intL
    rw [List.map_map]
    exact List.map_id _
  refine ⟨N, X, rfl, oN, oX, ?_⟩
  rw [e, hd, ei]
  exact q
theorem dEq_str {a b : Str} {m : Mem} {Q : D → Mem → Prop} (q : Q (.bl (decide (a = b))) m) : dEq (.str a) (.str b) m Q := by
  show Q (.bl (decide (a = b) ^^ false)) m
  rw [Bool.xor_false]; exact q
theorem kept_call {k w : Nat} {r : List Int × Bool} {N : D} {ns : List Int} {m : Mem} {Q : D → Mem → Prop} {Qx : XQ} (hr : okRow k w r) (hk : k ≤ 4) (hw : w ≤ 100000000000000000000000) (hN : seqA N = some (intL ns)) (hb : ∀ n ∈ ns, Sett.Bd 600 n) (q : Q (.bl (decide (w01 r.2 ≤ dotL r.1 ns))) m) : F_law_is_kept [rowL r, N] m Q Qx :=
  ⟨rowL r, .tup (intL r.1), r, N, ns, rfl, rfl, rfl, by rw [hr.1]; omega, ints_rows hw hr.2, hN, hb, q⟩
theorem filt_nil {α : Type} {p : α → Bool} : ∀ {xs : List α}, (∀ x ∈ xs, p x = false) → xs.filter p = []
  | [], _ => rfl
  | x :: xs, h => by
    rw [List.filter_cons_of_neg (by rw [h x List.mem_cons_self]; exact Bool.false_ne_true)]
    exact filt_nil fun y hy => h y (List.mem_cons_of_mem _ hy)
theorem scaled_bd {ns : List Int} {k : Nat} (h : ∀ n ∈ ns, Sett.Bd k n) : ∀ n ∈ scaledI ns, Sett.Bd k n := by
  intro n hn
  unfold scaledI at hn
  split at hn
  · exact h n hn
  · obtain ⟨i, hi, rfl⟩ := List.mem_map.mp hn
    have := h i hi
    have h2 := Int.natAbs_ediv_le_natAbs i ((gcdF 0 ns : Nat) : Int)
    unfold Sett.Bd at *
    omega
theorem not_in2 {z a b : Str} {m : Mem} {Q : D → Mem → Prop} (h : inD (.str z) [.str a, .str b] = true) (q : Q (.bl false) m) : dNotIn (.str z) (.lst [.str a, .str b]) m Q := by
  refine ⟨rfl, rfl, ?_⟩
  rw [h]; exact q
theorem ten_300 {n : Int} (h : Sett.Bd 300 n) : okD (.int n) 0 = true := by
  simp only [okD, decide_eq_true_eq]
  have : n.natAbs < 2 ^ 300 := h
  have e : (2 : Nat) ^ 300 ≤ 10 ^ 100 := by
    have := Nat.pow_le_pow_left (show 2 ^ 3 ≤ 10 by decide) 100
    rw [← Nat.pow_mul] at this
    exact this
  omega
theorem r__law_settled : ∀ ds m Qd Qx, F_law_settled ds m Qd Qx → w__law_settled { nx := fun _ m' => Qd .non m', rt := Qd } (ds.map some ++ List.replicate (8 - ds.length) none) m := by
  rintro ds m Qd Qx ⟨k, w, R, ns, rfl, k1, k4, hl, hR, hw, hN, hT, hF⟩
  have rep := (rep_L hR (Nat.le_trans hw (by decide +kernel)) k4 hl).1
  have okk : okT (.int (k : Nat)) := ⟨0, okI (by omega)⟩
  have hlen : ∀ r ∈ R, r.1.length = k := fun r hr => (hR r hr).1
  have hNb : ∀ n ∈ ns, Sett.Bd 600 n := ints_rows (w := 1000000000000000000000) (by decide) fun n hn => by have := hN.2 n hn; omega
  unfold w__law_settled
  walk_at "wg"
  refine ⟨_, _, rfl, okk, rep.okT, ?_⟩
  rw [rep.due k1 k4, rep.rows]
  refine ⟨fun r hr n hn => ?_, by omega, fun k2 ek => ?_⟩
  · have := (hR r hr).2 n hn
    exact bd_60 (by omega)
  · cases ek
    refine ⟨fun m2 x hs hg hb => ?_, fun m2 am hs ce => ?_⟩
    · obtain ⟨sz, kr⟩ := hg.keep
      obtain ⟨f1, f2, f3⟩ := costs_keep kr k4 hlen
      have fb : ∀ n ∈ scaledI ((List.range k).map x), Sett.Bd 300 n := scaled_bd fun n hn => by
        obtain ⟨p, hp, rfl⟩ := List.mem_map.mp hn
        exact hb p (by have := List.mem_range.mp hp; omega)
      generalize scaledI ((List.range k).map x) = fs at *
      walk_at "wg"
      refine isi_tup rfl ?_
      refine if_f rfl ?_
      refine len_seq rfl ?_
      refine ne_int ?_
      refine if_f rfl ?_
      refine ix_seq (i := 0) rfl rfl ?_
      refine ⟨small_line (n := 2) (by decide), ?_⟩
      refine not_in2 (by decide +kernel) ?_
      refine if_f rfl ?_
      walk_at "wg"
      refine ix_seq (i := 0) rfl rfl ?_
      refine dEq_str ?_
      refine if_f (by decide +kernel) ?_
      walk_at "wg"
      refine ix_seq (i := 1) rfl rfl ?_
      walk_at "wg"
      refine isi_tup rfl ?_
      refine if_f rfl ?_
      refine len_seq rfl ?_
      refine ne_int ?_
      have el : (intL fs).length = k := by unfold intL; rw [List.length_map]; exact f1
      refine if_f (by rw [el, decide_eq_true rfl]; rfl) ?_
      walk_at "wg"
      refine ⟨by omega, ?_⟩
      refine lc_fmA D.int (fun n => decide (n < 1)) (fun _ => .int 1) fs [] _ (fun n hn K K' c1 c2 => ?_) ?_
      · show gvName 7 (.int n) _ _
        walk_at "wg"
        refine isi_i rfl ?_
        refine if_f rfl ?_
        refine isi_bool rfl ?_
        refine if_f rfl ?_
        show if decide (n < 1) = true then K (.int 1) m2 else K' m2
        exact ifb c1 c2
      · rw [List.nil_append, filt_nil fun n hn => decide_eq_false (by have := f2 n hn; omega)]
        refine ⟨Nat.zero_le _, ?_⟩
        refine nil_lst ?_
        refine if_f rfl ?_
        walk_at "wg"
        refine ⟨by rw [List.length_map]; omega, ?_⟩
        refine lc_fmA rowL (fun _ => false) rowL R [] _ (fun r hr K K' c1 c2 => ?_) ?_
        · walk_at "wg"
          have hk := f3 r hr
          refine kept_call (hR r hr) k4 (by omega) rfl (fun n hn => (fb n hn).up (by decide)) ?_
          rw [decide_eq_true hk]
          refine if_f rfl ?_
          have nr := num_rowL (hR r hr)
          have ro := row_ok (hR r hr) k4 (Nat.le_trans hw (by decide +kernel))
          have oF : okT (.tup (intL fs)) := ⟨1, okA_tup (by omega) fun d hd => by
            obtain ⟨n, hn, rfl⟩ := List.mem_map.mp hd
            exact ten_300 (fb n hn)⟩
          refine keeps_call (k := k) rfl f1 f2 oF ⟨2, ro.1⟩ nr.1 nr.2.2.1 k1 k4 ?_
          rw [show (decide ((if r.2 then 1 else 0 : Int) ≤ dotL r.1 fs)) = true from decide_eq_true hk]
          refine if_f rfl ?_
          exact c2 rfl
        · rw [List.nil_append, filt_nil fun _ _ => rfl]
          walk_at "wg"
          walk_at "wg"
          refine ⟨Nat.zero_le _, ?_⟩
          refine nil_lst ?_
          exact hT m2 sz x kr
    · have sh := sum_show ce hlen k4
      have fb : ∀ n ∈ scaledI ((List.range R.length).map (amOf am)), Sett.Bd 500 n := scaled_bd fun n hn => by
        obtain ⟨i, hi, rfl⟩ := List.mem_map.mp hn
        unfold amOf
        cases hlk : am.lookup i with
        | none => exact Sett.Bd.zero
        | some v => exact (ce.ok _ (look_mem hlk)).2.2
      generalize scaledI ((List.range R.length).map (amOf am)) = as at *
      have am1 : okAm (.tup (intL as)) := by
        refine .inr ⟨intL as, .inl rfl, by unfold intL; rw [List.length_map, sh.1]; omega, fun d hd => ?_⟩
        obtain ⟨n, hn, rfl⟩ := List.mem_map.mp hd
        exact .inr ⟨n, rfl, (fb n hn).up (by decide)⟩
      walk_at "wg"
      refine isi_tup rfl ?_
      refine if_f rfl ?_
      refine len_seq rfl ?_
      refine ne_int ?_
      refine if_f rfl ?_
      refine ix_seq (i := 0) rfl rfl ?_
      refine ⟨small_line (n := 2) (by decide), ?_⟩
      refine not_in2 (by decide +kernel) ?_
      refine if_f rfl ?_
      walk_at "wg"
      refine ix_seq (i := 0) rfl rfl ?_
      refine dEq_str ?_
      refine if_t (by decide +kernel) ?_
      walk_at "wg"
      refine ⟨by rw [List.length_map]; omega, ?_⟩
      refine lc_fmA rowL (fun r => !decide (w01 r.2 ≤ dotL r.1 ns)) rowL R [] _ (fun r hr K K' c1 c2 => ?_) ?_
      · walk_at "wg"
        refine kept_call (hR r hr) k4 (by omega) rfl hNb ?_
        exact ifb c1 c2
      · have ne : (R.filter fun r => !decide (w01 r.2 ≤ dotL r.1 ns)).isEmpty = false := by
          rw [filter_empty, Bool.not_eq_false']
          rw [List.any_eq_true]
          refine Classical.byContradiction fun hno => not_kept ce hlen k4 hN.1 (fun n hn => (hN.2 n hn).1) fun r hr => ?_
          refine Classical.byContradiction fun hlt => hno ⟨r, hr, ?_⟩
          rw [decide_eq_false hlt]; rfl
        rw [List.nil_append]
        walk_at "wg"
        walk_at "wg"
        refine ⟨Nat.zero_le _, ?_⟩
        refine nil_lst ?_
        rw [isEmpty_map, ne]
        refine if_f rfl ?_
        refine ix_seq (i := 1) rfl rfl ?_
        refine ⟨k, _, R, _, rfl, k1, k4, rep, by omega, am1, ?_⟩
        rw [sh.2]
        refine if_f rfl ?_
        walk_at "wg"
        refine ix_seq (i := 1) rfl rfl ?_
        refine ⟨_, _, _, rfl, okk, rep.okT, ?_⟩
        rw [rep.due k1 k4, rep.rows]
        refine ⟨am1, by omega, fun k2 ek => ?_⟩
        cases ek
        rw [sh.2]
        refine if_t rfl ?_
        exact hF m2 am ce

end K18
namespace K18
open PySem L2 XO DL GB
local macro_rules | `(tactic| walk_at "wg") => `(tactic| ((try dsimp only); (try rw [a_hold]); (try simp only [List.map_cons, List.map_nil, List.length_cons, List.length_nil, List.cons_append, List.nil_append, List.replicate_succ, List.replicate_zero, Nat.reduceAdd, Nat.reduceSub]); (try simp only [↓a_test, ↓a_v0, ↓a_s0, ↓a_g0, ↓a_v1, ↓a_s1, ↓a_g1, ↓a_v2, ↓a_s2, ↓a_g2, ↓a_v3, ↓a_s3, ↓a_g3, ↓a_v4, ↓a_s4, ↓a_g4, ↓a_v5, ↓a_s5, ↓a_g5, ↓a_v6, ↓a_s6, ↓a_g6, ↓a_v7, ↓a_s7, ↓a_g7, ↓a_v8, ↓a_s8, ↓a_g8, ↓a_v9, ↓a_s9, ↓a_g9, ↓a_v10, ↓a_s10, ↓a_g10, ↓a_v11, ↓a_s11, ↓a_g11, ↓a_v12, ↓a_s12, ↓a_g12, ↓a_v13, ↓a_s13, ↓a_g13, ↓a_v14, ↓a_s14, ↓a_g14, ↓a_v15, ↓a_s15, ↓a_g15, ↓a_v16, ↓a_s16, ↓a_g16, ↓a_v17, ↓a_s17, ↓a_g17, ↓a_v18, ↓a_s18, ↓a_g18, ↓a_v19, ↓a_s19, ↓a_g19, ↓a_v20, ↓a_s20, ↓a_g20, ↓a_v21, ↓a_s21, ↓a_g21, ↓a_v22, ↓a_s22, ↓a_g22, ↓a_v23, ↓a_s23, ↓a_g23, ↓a_v24, ↓a_s24, ↓a_g24, ↓a_v25, ↓a_s25, ↓a_g25, ↓a_v26, ↓a_s26, ↓a_g26, ↓a_v27, ↓a_s27, ↓a_g27, ↓a_star, ↓a_asg2, ↓a_asg4, ↓a_neg, ↓a_zipX, ↓a_callKX, ↓a_get2, ↓a_lcO, ↓a_popAt, ↓a_m0, ↓a_op, ↓a_c, ↓a_call, ↓a_callX, ↓a_call0, ↓a_nil, ↓a_cons, ↓a_bi, ↓a_tnot, ↓a_tor, ↓a_tand, ↓a_tru, ↓a_yes, ↓a_if, ↓a_and, ↓a_or, ↓a_not, ↓a_chain, ↓a_sl, ↓a_noPart, ↓a_part, ↓a_lst, ↓a_tup, ↓a_dct0, ↓a_own, ↓a_isT, ↓a_next, ↓a_seqH, ↓a_ret, ↓a_drop, ↓a_sif, ↓a_raise, ↓a_for, ↓a_iVar, ↓a_fld, ↓a_lc, ↓a_iEnumB, ↓a_iEnumS, ↓a_iSg, ↓a_iLst, ↓a_iTp, ↓a_join, ↓a_lenSet, ↓a_append, ↓a_put, ↓a_par, ↓a_unp, ↓a_meth, ↓a_make, ↓a_rg1, ↓a_gTup, ↓a_gNil, ↓a_gCons, ↓a_loopN, wipeD, List.map_cons, List.map_nil, List.length_cons, List.length_nil, List.cons_append, List.nil_append, List.replicate_succ, List.replicate_zero, List.append_nil, List.getElem?_cons_zero, List.getElem?_cons_succ, List.set_cons_zero, List.set_cons_succ, Nat.reduceAdd, Nat.reduceSub, Bool.not_true, Bool.not_false, reduceIte, Bool.false_eq_true, true_and])))
def L1 : WS := (sSet 2 (wCall F_law_box (wCons (wCall F_law_cell (wCons (wVar 0) (wCons (wVar 1) wNil))) wNil)))
def L2 : WS := (sSet 3 (wOp dAdd (wC (.int 1)) (wCall F_law_take (wCons (wVar 2) (wCons (wC (.int 4)) wNil)))))
def L3 : WS := (sPar 4 5 (wCons (wLc (iRg1 (wCons (wVar 3) wNil)) (gvName 11) tvYes (wOp dAdd (wC (.int 1)) (wCall F_law_take (wCons (wVar 2) (wCons (wOp dIx (wLst (wCons (wC (.int 3)) (wCons (wC (.int 50)) (wCons (wOp dPow (wC (.int 10)) (wC (.int 6))) wNil)))) (wCall F_law_take (wCons (wVar 2) (wCons (wC (.int 3)) wNil)))) wNil)))) [11]) (wCons (wOwn wNil) wNil)))
def L4 : WS := (sSet 6 (wC (.bl true)))
def L6 : WS := (sIf (tvOr (wTest (wOp dNe (wOp dIx (wCallX F_settle (wCons (wVar 3) (wCons (wLst wNil) wNil))) (wC (.int 0))) (wC (.str (Str.ofString "costs"))))) (wTest (wCallX F_shows_sum (wCons (wVar 3) (wCons (wLst wNil) (wCons (wTup wNil) wNil)))))) (sRet (wC (.bl false))) sNext)
def I5 : WA := (iRg1 (wCons (wOp dAdd (wC (.int 1)) (wCall F_law_take (wCons (wVar 2) (wCons (wC (.int 9)) wNil)))) wNil))
def M1 : WS := (sAppend (wVar 5) (wCons (wCall F_law_row (wCons (wVar 2) (wCons (wVar 3) (wCons (wVar 4) (wCons (wVar 5) wNil))))) wNil))
def M2 : WS := (sSet 8 (wBi dReprMB (wCons (wVar 5) wNil)))
def M3 : WS := (sSet 9 (wLst (wCons (wCall (lent F_law_settled) (wCons (wVar 3) (wCons (wVar 5) (wCons (wVar 4) wNil)))) (wCons (wCall (lent F_law_settled) (wCons (wVar 3) (wCons (wVar 5) (wCons (wVar 4) wNil)))) wNil))))
def M4 : WS := (sSet 10 (wCallKX F_settle 2 swap2 (wCons (wBi dTupleM (wCons (wLcB 5 (gvTup 2 (gvCons (gvName 12) (gvCons (gvName 13) gvNil))) tvYes (wLst (wCons (wBi dListM (wCons (wVar 12) wNil)) (wCons (wVar 13) wNil))) [12, 13]) wNil)) (wCons (wVar 3) wNil))))
def M5 : WS := (sIf (tvOr (wTest (wOp (dIsB false) (wOp dIx (wVar 9) (wC (.int 0))) (wC .non))) (tvOr (wTest (wOp dNe (wOp dIx (wVar 9) (wC (.int 1))) (wOp dIx (wVar 9) (wC (.int 0))))) (tvOr (wTest (wOp dNe (wOp dEq (wOp dIx (wVar 10) (wC (.int 0))) (wC (.str (Str.ofString "costs")))) (wOp dIx (wVar 9) (wC (.int 0))))) (wTest (wOp dNe (wBi dReprMB (wCons (wVar 5) wNil)) (wVar 8)))))) (sRet (wC (.bl false))) sNext)
def M6 : WS := (sIf (tvAnd (wTest (wOp dIx (wVar 9) (wC (.int 0)))) (tvNot (wTest (wVar 6)))) (sRet (wC (.bl false))) sNext)
def M7 : WS := (sSet 6 (wOp dIx (wVar 9) (wC (.int 0))))
def M : WS := sSeq M1 (sSeq M2 (sSeq M3 (sSeq M4 (sSeq M5 (sSeq M6 M7)))))
def I0 : WA := (iRg1 (wCons (wBi dMax (wCons (wC (.int 2)) (wCons (wBi dMin (wCons (wC (.int 8)) (wCons (wBi dLen (wCons (wVar 0) wNil)) wNil))) wNil))) wNil))
def B0 : WS := sSeq L1 (sSeq L2 (sSeq L3 (sSeq L4 (sSeq (sFor I5 (gvName 7) M) L6))))
theorem law_eq : w_law = sSeq (sFor I0 (gvName 1) B0) (sRet (wC (.bl true))) := rfl
def At (p : Addr) (c : Int) (m : Mem) : Prop := ∃ l, m p = some l ∧ Box l c
theorem At.nx {p : Addr} {c : Int} {m : Mem} (h : At p c m) : Nx p c m m := by
  obtain ⟨l, e, b⟩ := h
  exact Nx.refl e b
theorem At.sub {p : Addr} {c : Int} {m m' : Mem} (h : At p c m) (s : Sub m m') : At p c m' := by
  obtain ⟨l, e, b⟩ := h
  exact ⟨l, s _ _ e, b⟩
theorem At.le {p : Addr} {c c' : Int} {m : Mem} (h : At p c m) (hc : c ≤ c') : At p c' m := (h.nx.le hc).2
theorem take_at {b : Addr} {n k : Int} {m : Mem} {Q : D → Mem → Prop} {Qx : XQ} (h : At b k m) (hk : k ≤ 1000000) (h0 : 0 < n) (h1 : n < 2 ^ 200) (q : ∀ d m2, 0 ≤ d → d < n → At b (k + 1) m2 → Q (.int d) m2) : F_law_take [.box b, .int n] m Q Qx :=
  take_ok h.nx hk h0 h1 fun d m2 a b n2 _ => q d m2 a b n2.2
def Tells (R : List (List Int × Bool)) (f : Bool) : Prop := (f = true ∧ ∃ sz x, KeepR R sz x) ∨ (f = false ∧ ∃ am, Cert (Lr R) am)
theorem Tells.one {R : List (List Int × Bool)} {f f' : Bool} (h : Tells R f) (h' : Tells R f') : f = f' := by
  rcases h with ⟨rfl, sz, x, h⟩ | ⟨rfl, am, h⟩ <;> rcases h' with ⟨rfl, sz', x', h'⟩ | ⟨rfl, am', h'⟩
  · rfl
  · exact (no_cert h h').elim
  · exact (no_cert h' h).elim
  · rfl
def Op (R : List (List Int × Bool)) (f : Bool) : Prop := f = false → ∃ am, Cert (Lr R) am
theorem lcB_mp {α : Type} {a : Addr} {ds0 : List D} {gg : WG} {te : WE} {ρ : En0} {Qx : XQ} {m : Mem} (hm : m a = some ds0) (h f : α → D) : ∀ (xs : List α) (acc : List D) (Q : D → Mem → Prop), (∀ x ∈ xs, ∀ K : D → Mem → Prop, K (f x) m → gg (h x) ρ fun ρ1 => te ρ1 m K Qx) → Q (.lst (acc ++ xs.map f)) m → wLcBGo a ds0 gg tvYes te ρ Qx (xs.map h) acc m Q
  | [], acc, Q, _, q => by
    have q : Q (.lst (acc ++ [])) m := q
    rw [List.append_nil] at q
    exact ⟨hm, q⟩
  | x :: xs, acc, Q, hs, q => by
    refine ⟨hm, hs x List.mem_cons_self _ ?_⟩
    refine lcB_mp hm h f xs (acc ++ [f x]) Q (fun y hy => hs y (List.mem_cons_of_mem _ hy)) ?_
    rw [List.map_cons] at q
    rw [List.append_assoc]
    exact q
theorem ne_bl {a b : Bool} {m : Mem} {Q : D → Mem → Prop} (h : a = b) (q : Q (.bl false) m) : dNe (.bl a) (.bl b) m Q := by
  subst h
  show Q (.bl (decide (a = a) ^^ true)) m
  rw [decide_eq_true rfl]; exact q
theorem isb_bl {i : Bool} {m : Mem} {Q : D → Mem → Prop} (h : Q (.bl false) m) : dIsB false (.bl i) .non m Q := h
theorem rows_ok {k w : Nat} {R : List (List Int × Bool)} (hR : ∀ r ∈ R, okRow k w r) (hk : k ≤ 4) (hw : w ≤ 10 ^ 40) (hl : R.length ≤ 20) : okD (.lst (R.map rowL)) 3 = true ∧ wtD (.lst (R.map rowL)) ≤ 1000000 := by
  refine ⟨okA_lst (by rw [List.length_map]; omega) fun d hd => ?_, ?_⟩
  · obtain ⟨r, hr, rfl⟩ := List.mem_map.mp hd
    exact (row_ok (hR r hr) hk hw).1
  · have one : ∀ ns : List Int, wtA (intL ns) = ns.length * 302 := by
      intro ns
      induction ns with
      | nil => rfl
      | cons n ns ih =>
        show wtD (.int n) + 2 + wtA (intL ns) = _
        rw [ih]
        show 300 + 2 + _ = _
        rw [List.length_cons]; omega
    have go : ∀ R : List (List Int × Bool), (∀ r ∈ R, okRow k w r) → wtA (R.map rowL) ≤ R.length * 2000 := by
      intro R
      induction R with
      | nil => intro _; exact Nat.le_refl _
      | cons r R ih =>
        intro hR
        have h1 := ih fun r hr => hR r (List.mem_cons_of_mem _ hr)
        have h2 := (hR r List.mem_cons_self).1
        show (10 + (10 + wtA (intL r.1) + 2 + (300 + 2 + 0))) + 2 + wtA (R.map rowL) ≤ _
        rw [one, List.length_cons]
        omega
    have := go R hR
    show 10 + wtA (R.map rowL) ≤ 1000000
    omega
theorem l1_ok {o2 o3 o4 o5 o6 o7 o8 o9 o10 o11 o12 o13 : Option D} {E : De} {m : Mem} {ns : List Int}  {i : Int} (k0 : 0 ≤ i) (k1 : i < 1000) (q : ∀ b m2, At b 0 m2 → E.nx [some (.scr ns), some (.int i), some (.box b), o3, o4, o5, o6, o7, o8, o9, o10, o11, o12, o13] m2) : L1 E [some (.scr ns), some (.int i), o2, o3, o4, o5, o6, o7, o8, o9, o10, o11, o12, o13] m := by
  unfold L1
  walk_at "wg"
  refine ⟨ns, i, rfl, k0, k1, fun i => ?_⟩
  refine ⟨i, rfl, fun p l hp hb => ?_⟩
  exact q p _ ⟨l, Mem.up_same, hb⟩
theorem l2_ok {o0 o1 o3 o4 o5 o6 o7 o8 o9 o10 o11 o12 o13 : Option D} {E : De} {m : Mem} {p : Addr} {c : Int}   (hA : At p c m) (hc : c ≤ 100000) (q : ∀ (j : Nat) m2, 1 ≤ j → j ≤ 4 → At p (c + 1) m2 → E.nx [o0, o1, some (.box p), some (.int (j : Nat)), o4, o5, o6, o7, o8, o9, o10, o11, o12, o13] m2) : L2 E [o0, o1, some (.box p), o3, o4, o5, o6, o7, o8, o9, o10, o11, o12, o13] m := by
  unfold L2
  walk_at "wg"
  refine take_at hA (by omega) (by decide) (by decide) fun d m2 d0 d4 hA2 => ?_
  obtain ⟨k, rfl⟩ : ∃ k : Nat, d = (k : Int) := ⟨d.toNat, by omega⟩
  refine add_int ?_
  have := q (1 + k) m2 (by omega) (by omega) hA2
  rw [Int.natCast_add] at this
  exact this
theorem l3_ok {o0 o1 o4 o5 o6 o7 o8 o9 o10 o11 o12 o13 : Option D} {E : De} {m : Mem} {p : Addr} {c : Int} {k : Nat}   (hA : At p c m) (hc : c ≤ 1000) (k4 : k ≤ 4) (q : ∀ (ms : List Int) b m2, okN k ms → b ≠ p → m2 b = some [] → At p (c + 8) m2 → E.nx [o0, o1, some (.box p), some (.int (k : Nat)), some (.lst (intL ms)), some (.box b), o6, o7, o8, o9, o10, o11, o12, o13] m2) : L3 E [o0, o1, some (.box p), some (.int (k : Nat)), o4, o5, o6, o7, o8, o9, o10, o11, o12, o13] m := by
  unfold L3
  walk_at "wg"
  rw [range_ints]
  refine ⟨⟨by omega, by omega⟩, by rw [List.length_map, List.length_range]; omega, ?_⟩
  refine lc_draw (b := p) (per := 2) (lim := 5000) (m0 := m) (by decide) (fun d => ∃ n : Int, d = .int n ∧ 1 ≤ n ∧ n ≤ 1000000000000000000000) _ [] c m _ hA.nx (by rw [List.length_map, List.length_range]; omega) (by simp) (fun x hx c' m' K hN hc' kk => ?_) (fun l2 m2 hl hg hn2 => ?_)
  · walk_at "wg"
    refine ⟨⟨by decide, by decide, by decide⟩, small_line (n := 3) (by decide), ?_⟩
    refine take_ok (At.nx hN.2) (by omega) (by decide) (by decide) fun d m3 d0 d3 _ n3 => ?_
    have pick : ∃ wd : Int, L2.atI [D.int 3, D.int 50, D.int (10 ^ Int.toNat 6)] d = some (.int wd) ∧ 1 ≤ wd ∧ wd ≤ 1000000 := by
      have : d = 0 ∨ d = 1 ∨ d = 2 := by omega
      rcases this with rfl | rfl | rfl
      · exact ⟨3, rfl, by decide, by decide⟩
      · exact ⟨50, rfl, by decide, by decide⟩
      · exact ⟨10 ^ Int.toNat 6, rfl, by decide, by decide⟩
    obtain ⟨wd, hat, w1, w2⟩ := pick
    refine ⟨_, hat, ?_⟩
    refine take_ok n3 (by omega) (by omega) (by omega) fun d2 m4 e0 e1 n4 _ => ?_
    refine add_int ?_
    exact kk _ _ ⟨1 + d2, rfl, by omega, by omega⟩ (n4.le (by omega))
  · rw [List.length_map, List.length_range] at hl hn2
    rw [List.length_nil, Nat.zero_add] at hl
    have es : ∃ vs : List Int, l2 = intL vs ∧ ∀ n ∈ vs, 1 ≤ n ∧ n ≤ 1000000000000000000000 := by
      clear hl hn2
      induction l2 with
      | nil => exact ⟨[], rfl, by simp⟩
      | cons d l2 ih =>
        obtain ⟨n, rfl, hn⟩ := hg _ List.mem_cons_self
        obtain ⟨vs, rfl, hv⟩ := ih fun d hd => hg d (List.mem_cons_of_mem _ hd)
        refine ⟨n :: vs, rfl, fun a ha => ?_⟩
        rcases List.mem_cons.mp ha with rfl | ha
        · exact hn
        · exact hv a ha
    obtain ⟨vs, rfl, hv⟩ := es
    unfold intL at hl
    rw [List.length_map] at hl
    refine ⟨small_line (n := 0) (by decide), fun b hb => ?_⟩
    refine ⟨_, _, rfl, ?_⟩
    have nb := hn2.isSome hb
    exact q vs b _ ⟨hl, hv⟩ nb Mem.up_same ((hn2.new hb []).le (by omega)).2
theorem m1_ok {o0 o1 o6 o7 o8 o9 o10 o11 o12 o13 : Option D} {E : De} {m : Mem} {p : Addr} {g : Addr} {c : Int} {k : Nat} {w : Nat} {ns : List Int} {R : List (List Int × Bool)}   (hA : At p c m) (hc : c ≤ 1000) (k1 : 1 ≤ k) (k4 : k ≤ 4) (hN : okN k ns) (hgp : g ≠ p) (hg : m g = some (R.map rowL)) (hRl : R.length ≤ 10) (hR : ∀ r ∈ R, okRow k w r) (w1 : 1000000000000 ≤ w) (w2 : w ≤ 100000000000000000000) (q : ∀ r m2, okRow k (3 * w) r → At p (c + 12) m2 → m2 g = some ((R ++ [r]).map rowL) → E.nx [o0, o1, some (.box p), some (.int (k : Nat)), some (.lst (intL ns)), some (.box g), o6, o7, o8, o9, o10, o11, o12, o13] m2) : M1 E [o0, o1, some (.box p), some (.int (k : Nat)), some (.lst (intL ns)), some (.box g), o6, o7, o8, o9, o10, o11, o12, o13] m := by
  unfold M1
  obtain ⟨l, hb, hbx⟩ := hA
  walk_at "wg"
  refine ⟨by rw [hg]; rfl, ?_⟩
  refine ⟨p, g, c, l, k, w, ns, R, rfl, hb, hbx, by omega, k1, k4, hN, hg, by omega, hR, w1, w2, fun r m1 hr n1 => ?_⟩
  have g1 : m1 g = some (R.map rowL) := n1.1 g _ hgp hg
  refine ⟨_, _, rfl, g1, Nat.lt_of_lt_of_le (show (R.map rowL).length < 1000 by rw [List.length_map]; omega) (small_line (Nat.le_refl _)), ?_⟩
  refine q r _ hr ?_ ?_
  · obtain ⟨l2, e, hb2⟩ := n1.2
    exact ⟨l2, by rw [Mem.up_ne (Ne.symm hgp)]; exact e, hb2⟩
  · rw [List.map_append]
    exact Mem.up_same
theorem m2_ok {o0 o1 o2 o3 o4 o6 o7 o8 o9 o10 o11 o12 o13 : Option D} {E : De} {m : Mem} {g : Addr} {k : Nat} {w : Nat} {R : List (List Int × Bool)}   (k4 : k ≤ 4) (hg : m g = some (R.map rowL)) (hRl : R.length ≤ 10) (hR : ∀ r ∈ R, okRow k w r) (w2 : w ≤ 1000000000000000000) (q : E.nx [o0, o1, o2, o3, o4, some (.box g), o6, o7, some (.str (py (.lst (R.map rowL))).shown), o9, o10, o11, o12, o13] m) : M2 E [o0, o1, o2, o3, o4, some (.box g), o6, o7, o8, o9, o10, o11, o12, o13] m := by
  unfold M2
  walk_at "wg"
  refine repr_box hg (rows_ok hR k4 (Nat.le_trans w2 (by decide +kernel)) (by omega)) (by decide) ?_
  exact q
theorem m3_ok {o0 o1 o2 o6 o7 o8 o9 o10 o11 o12 o13 : Option D} {E : De} {m : Mem} {g : Addr} {k : Nat} {w : Nat} {ns : List Int} {R : List (List Int × Bool)}   (k1 : 1 ≤ k) (k4 : k ≤ 4) (hN : okN k ns) (hg : m g = some (R.map rowL)) (hRl : R.length ≤ 10) (hR : ∀ r ∈ R, okRow k w r) (w2 : w ≤ 1000000000000000000) (q : ∀ ff, Tells R ff → E.nx [o0, o1, o2, some (.int (k : Nat)), some (.lst (intL ns)), some (.box g), o6, o7, o8, some (.lst [.bl ff, .bl ff]), o10, o11, o12, o13] m) : M3 E [o0, o1, o2, some (.int (k : Nat)), some (.lst (intL ns)), some (.box g), o6, o7, o8, o9, o10, o11, o12, o13] m := by
  unfold M3
  have call : ∀ Q : D → Mem → Prop, (∀ f, Tells R f → Q (.bl f) m) → lent F_law_settled [.int (k : Nat), .box g, .lst (intL ns)] m Q (fun _ _ => False) := by
    intro Q q
    refine Or.inr ?_
    have e : resA m [.int (k : Nat), .box g, .lst (intL ns)] = [.int (k : Nat), .lst (R.map rowL), .lst (intL ns)] := by
      have e1 : res m (.box g) = .lst (R.map rowL) := by
        unfold DL.res
        rw [hg]
      have e2 : res m (.lst (intL ns)) = .lst (intL ns) := by
        refine res_ok (n := 1) (okA_lst (by unfold intL; rw [List.length_map, hN.1]; omega) fun d hd => ?_)
        obtain ⟨n, hn, rfl⟩ := List.mem_map.mp hd
        have := hN.2 n hn
        exact okI (Nat.le_trans (show n.natAbs ≤ 1000000000000000000000 by omega) (by decide +kernel))
      simp only [resA]
      rw [e1, e2]
      simp only [res]
    rw [e]
    exact ⟨k, w, R, ns, rfl, k1, k4, by omega, hR, w2, hN, fun m' sz x h => ⟨rfl, q true (.inl ⟨rfl, sz, x, h⟩)⟩, fun m' am h => ⟨rfl, q false (.inr ⟨rfl, am, h⟩)⟩⟩
  walk_at "wg"
  refine call _ fun f hf => ?_
  refine call _ fun f' hf' => ?_
  have := hf.one hf'
  subst this
  exact ⟨small_line (n := 2) (by decide), q f hf⟩
theorem m4_ok {o0 o1 o2 o4 o6 o7 o8 o9 o10 o11 o12 o13 : Option D} {E : De} {m : Mem} {g : Addr} {k : Nat} {w : Nat} {R : List (List Int × Bool)}   (k1 : 1 ≤ k) (k4 : k ≤ 4) (hg : m g = some (R.map rowL)) (hRl : R.length ≤ 10) (hR : ∀ r ∈ R, okRow k w r) (w2 : w ≤ 1000000000000000000) (q : ∀ z vs fx m2, Tells R fx → z = Str.ofString (if fx then "costs" else "sum") → Sub m m2 → E.nx [o0, o1, o2, some (.int (k : Nat)), o4, some (.box g), o6, o7, o8, o9, some (.tup [.str z, .tup (intL vs)]), o11, o12, o13] m2) : M4 E [o0, o1, o2, some (.int (k : Nat)), o4, some (.box g), o6, o7, o8, o9, o10, o11, o12, o13] m := by
  unfold M4
  walk_at "wg"
  refine ⟨R.map rowL, hg, by rw [List.length_map]; omega, ?_⟩
  refine lcB_mp hg rowL rowM R [] _ (fun r hr K kk => ?_) ?_
  · unfold rowL
    refine ⟨rfl, _, _, rfl, _, _, rfl, rfl, ?_⟩
    walk_at "wg"
    refine listM_seq (ds := intL r.1) rfl ?_
    exact ⟨small_line (n := 2) (by decide), kk⟩
  · rw [List.nil_append]
    refine tupM_lst ?_
    show F_settle [.int (k : Nat), .tup (R.map rowM)] m _ _
    have rep := (rep_L hR (Nat.le_trans w2 (by decide +kernel)) k4 (by omega)).2
    refine ⟨_, _, rfl, ⟨0, okI (by omega)⟩, rep.okT, ?_⟩
    rw [rep.due k1 k4, rep.rows]
    refine ⟨fun r hr n hn => ?_, by omega, fun k2 ek => ?_⟩
    · have := (hR r hr).2 n hn
      exact bd_60 (by omega)
    · cases ek
      refine ⟨fun m' x hs hgc hb => ?_, fun m' am hs ce => ?_⟩
      · obtain ⟨sz, kr⟩ := hgc.keep
        exact q _ _ true m' (.inl ⟨rfl, sz, x, kr⟩) rfl hs
      · exact q _ _ false m' (.inr ⟨rfl, am, ce⟩) rfl hs
theorem m5_ok {o0 o1 o2 o3 o4 o6 o7 o11 o12 o13 : Option D} {E : De} {m : Mem} {g : Addr} {k : Nat} {w : Nat} {R : List (List Int × Bool)} {f : Bool}  {vs : List Int} (k4 : k ≤ 4) (hg : m g = some (R.map rowL)) (hRl : R.length ≤ 10) (hR : ∀ r ∈ R, okRow k w r) (w2 : w ≤ 1000000000000000000) (q : E.nx [o0, o1, o2, o3, o4, some (.box g), o6, o7, some (.str (py (.lst (R.map rowL))).shown), some (.lst [.bl f, .bl f]), some (.tup [.str (Str.ofString (if f then "costs" else "sum")), .tup (intL vs)]), o11, o12, o13] m) : M5 E [o0, o1, o2, o3, o4, some (.box g), o6, o7, some (.str (py (.lst (R.map rowL))).shown), some (.lst [.bl f, .bl f]), some (.tup [.str (Str.ofString (if f then "costs" else "sum")), .tup (intL vs)]), o11, o12, o13] m := by
  unfold M5
  walk_at "wg"
  refine ix_seq (i := 0) rfl rfl ?_
  refine isb_bl ?_
  refine if_f rfl ?_
  refine ix_seq (i := 1) rfl rfl ?_
  refine ix_seq (i := 0) rfl rfl ?_
  refine ne_bl rfl ?_
  refine if_f rfl ?_
  refine ix_seq (i := 0) rfl rfl ?_
  refine dEq_str ?_
  refine ix_seq (i := 0) rfl rfl ?_
  refine ne_bl ?_ ?_
  · cases f <;> decide +kernel
  refine if_f rfl ?_
  refine repr_box hg (rows_ok hR k4 (Nat.le_trans w2 (by decide +kernel)) (by omega)) (by decide) ?_
  refine str_ne ?_
  exact q
theorem m6_ok {o0 o1 o2 o3 o4 o5 o7 o8 o10 o11 o12 o13 : Option D} {E : De} {m : Mem} {f : Bool} {op : Bool}   (h : f = true → op = true) (q : E.nx [o0, o1, o2, o3, o4, o5, some (.bl op), o7, o8, some (.lst [.bl f, .bl f]), o10, o11, o12, o13] m) : M6 E [o0, o1, o2, o3, o4, o5, some (.bl op), o7, o8, some (.lst [.bl f, .bl f]), o10, o11, o12, o13] m := by
  unfold M6
  walk_at "wg"
  refine ix_seq (i := 0) rfl rfl ?_
  cases f with
  | false => exact q
  | true =>
    have := h rfl
    subst this
    exact q
theorem m7_ok {o0 o1 o2 o3 o4 o5 o6 o7 o8 o10 o11 o12 o13 : Option D} {E : De} {m : Mem} {f : Bool}    (q : E.nx [o0, o1, o2, o3, o4, o5, some (.bl f), o7, o8, some (.lst [.bl f, .bl f]), o10, o11, o12, o13] m) : M7 E [o0, o1, o2, o3, o4, o5, o6, o7, o8, some (.lst [.bl f, .bl f]), o10, o11, o12, o13] m := by
  unfold M7
  walk_at "wg"
  refine ix_seq (i := 0) rfl rfl ?_
  exact q
theorem l4_ok {o0 o1 o2 o3 o4 o5 o6 o7 o8 o9 o10 o11 o12 o13 : Option D} {E : De} {m : Mem}    (q : E.nx [o0, o1, o2, o3, o4, o5, some (.bl true), o7, o8, o9, o10, o11, o12, o13] m) : L4 E [o0, o1, o2, o3, o4, o5, o6, o7, o8, o9, o10, o11, o12, o13] m := by
  unfold L4
  walk_at "wg"
  exact q
theorem op_ok {R : List (List Int × Bool)} {r : List Int × Bool} {f op : Bool} (h : Op R op) (t : Tells (R ++ [r]) f) : (f = true → op = true) ∧ Op (R ++ [r]) f := by
  refine ⟨fun hf => ?_, fun hf => ?_⟩
  · subst hf
    rcases t with ⟨_, sz, x, kr⟩ | ⟨h0, _⟩
    · cases op with
      | true => rfl
      | false =>
        obtain ⟨am, ce⟩ := h rfl
        exact (no_cert kr.less ce).elim
    · cases h0
  · rcases t with ⟨h0, _⟩ | ⟨_, am, ce⟩
    · subst hf; cases h0
    · exact ⟨am, ce⟩
theorem pow_le {j : Nat} (h : j ≤ 10) : 1000000000000 ≤ 1000000000000 * 3 ^ j ∧ 1000000000000 * 3 ^ j ≤ 100000000000000000 := by
  have h1 : 0 < 3 ^ j := Nat.pow_pos (by decide)
  have h2 : 3 ^ j ≤ 3 ^ 10 := Nat.pow_le_pow_right (by decide) h
  have e : (3 : Nat) ^ 10 = 59049 := by decide
  omega
theorem okRow.up {k w w' : Nat} {r : List Int × Bool} (h : okRow k w r) (hw : w ≤ w') : okRow k w' r := ⟨h.1, fun n hn => Nat.le_trans (h.2 n hn) hw⟩
theorem loopM {o0 o1 o7 o8 o9 o10 o11 o12 o13 : Option D} {E : De} {m : Mem} {p g : Addr} {k : Nat} {ns : List Int} (k1 : 1 ≤ k) (k4 : k ≤ 4) (hN : okN k ns) (hgp : g ≠ p) (ds : List D) (hd : ds.length ≤ 9) (hA : At p 100 m) (hg : m g = some []) (q : ∀ op o7 o8 o9 o10 m2, E.nx [o0, o1, some (.box p), some (.int (k : Nat)), some (.lst (intL ns)), some (.box g), some (.bl op), o7, o8, o9, o10, o11, o12, o13] m2) : wLoop (gvName 7) M E ds [o0, o1, some (.box p), some (.int (k : Nat)), some (.lst (intL ns)), some (.box g), some (.bl true), o7, o8, o9, o10, o11, o12, o13] m := by
  refine loop_ind (P := fun xs ρ m' => ∃ (R : List (List Int × Bool)) (op : Bool) (o7 o8 o9 o10 : Option D), R.length + xs.length = ds.length ∧ At p (100 + 12 * R.length) m' ∧ m' g = some (R.map rowL) ∧ (∀ r ∈ R, okRow k (1000000000000 * 3 ^ R.length) r) ∧ Op R op ∧ ρ = [o0, o1, some (.box p), some (.int (k : Nat)), some (.lst (intL ns)), some (.box g), some (.bl op), o7, o8, o9, o10, o11, o12, o13]) ?_ ?_ ds _ _ ⟨[], true, o7, o8, o9, o10, Nat.zero_add _, hA, hg, fun r hr => (nomatch hr), fun h => (nomatch h), rfl⟩
  · rintro ρ m' ⟨R, op, o7, o8, o9, o10, _, _, _, _, _, rfl⟩
    exact q _ _ _ _ _ _
  · rintro x xs ρ m' ⟨R, op, o7, o8, o9, o10, hl, hA, hg, hR, hop, rfl⟩ ih
    rw [List.length_cons] at hl
    have pw := pow_le (j := R.length) (by omega)
    have nxt : ∀ R' op o7 o8 o9 o10 m2, R'.length + xs.length = ds.length → At p (100 + 12 * R'.length) m2 → m2 g = some (R'.map rowL) → (∀ r ∈ R', okRow k (1000000000000 * 3 ^ R'.length) r) → Op R' op → wLoop _ _ _ xs [o0, o1, some (.box p), some (.int (k : Nat)), some (.lst (intL ns)), some (.box g), some (.bl op), o7, o8, o9, o10, o11, o12, o13] m2 := fun R' op o7 o8 o9 o10 m2 a b c d e => ih _ _ ⟨R', op, o7, o8, o9, o10, a, b, c, d, e, rfl⟩
    clear ih
    generalize wLoop _ _ _ xs = NX at nxt ⊢
    show M _ [o0, o1, some (.box p), some (.int (k : Nat)), some (.lst (intL ns)), some (.box g), some (.bl op), some (x), o8, o9, o10, o11, o12, o13] m'
    unfold M
    rw [a_seqH]
    refine m1_ok hA (by omega) k1 k4 hN hgp hg (by omega) hR pw.1 (by omega) fun r m2 hr hA2 hg2 => ?_
    have hR2 : ∀ r' ∈ R ++ [r], okRow k (1000000000000 * 3 ^ (R ++ [r]).length) r' := by
      have el : (R ++ [r]).length = R.length + 1 := by simp
      rw [el, Nat.pow_succ]
      intro r' hr'
      rcases List.mem_append.mp hr' with h | h
      · exact (hR r' h).up (by omega)
      · rw [List.mem_singleton] at h
        subst h
        exact hr.up (by omega)
    have el : (R ++ [r]).length = R.length + 1 := by simp
    have pw2 := pow_le (j := (R ++ [r]).length) (by omega)
    have w2 : 1000000000000 * 3 ^ (R ++ [r]).length ≤ 1000000000000000000 := by omega
    dsimp only
    rw [a_hold, a_seqH]
    refine m2_ok k4 hg2 (by omega) hR2 w2 ?_
    dsimp only
    rw [a_hold, a_seqH]
    refine m3_ok k1 k4 hN hg2 (by omega) hR2 w2 fun f hf => ?_
    dsimp only
    rw [a_hold, a_seqH]
    refine m4_ok k1 k4 hg2 (by omega) hR2 w2 fun z vs fx m3 hfx hz hs => ?_
    have := hfx.one hf
    subst this
    subst hz
    have hg3 := hs _ _ hg2
    have hA3 := hA2.sub hs
    have oo := op_ok hop hf
    dsimp only
    rw [a_hold, a_seqH]
    refine m5_ok k4 hg3 (by omega) hR2 w2 ?_
    dsimp only
    rw [a_hold, a_seqH]
    refine m6_ok oo.1 ?_
    dsimp only
    rw [a_hold]
    refine m7_ok ?_
    exact nxt (R ++ [r]) fx _ _ _ _ m3 (by omega) (hA3.le (by omega)) hg3 hR2 oo.2
theorem l6_ok {o0 o1 o2 o4 o5 o6 o7 o8 o9 o10 o11 o12 o13 : Option D} {E : De} {m : Mem} {k : Nat}   (k1 : 1 ≤ k) (k4 : k ≤ 4) (q : ∀ m2, E.nx [o0, o1, o2, some (.int (k : Nat)), o4, o5, o6, o7, o8, o9, o10, o11, o12, o13] m2) : L6 E [o0, o1, o2, some (.int (k : Nat)), o4, o5, o6, o7, o8, o9, o10, o11, o12, o13] m := by
  unfold L6
  have okk : okT (.int (k : Nat)) := ⟨0, okI (by omega)⟩
  have oke : okT (.lst []) := ⟨1, by decide +kernel⟩
  have rep : Rep k (.lst []) [] := ⟨[], rfl, rfl, rfl, oke⟩
  walk_at "wg"
  refine ⟨Nat.zero_le _, ?_⟩
  refine ⟨_, _, rfl, okk, oke, ?_⟩
  rw [rep.due k1 k4, rep.rows]
  refine ⟨fun r hr => (nomatch hr), by decide, fun k2 ek => ?_⟩
  cases ek
  refine ⟨fun m' x hs hgc hb => ?_, fun m' am hs ce => (no_cert empty_keep ce).elim⟩
  refine ix_seq (i := 0) rfl rfl ?_
  refine str_ne ?_
  refine if_f rfl ?_
  refine ⟨Nat.zero_le _, Nat.zero_le _, ?_⟩
  refine ⟨_, _, _, rfl, okk, oke, ?_⟩
  rw [rep.due k1 k4, rep.rows]
  refine ⟨.inl ⟨1, by decide +kernel⟩, by decide, fun k2 ek => ?_⟩
  cases ek
  have e : showsB k [] (.tup []) = false := by
    rw [shows_tup]
    have : ((List.range k).any fun q => decide (colSum [] (([] : List D).map toI) q < 0)) = false := by
      rw [Bool.eq_false_iff]
      intro h
      obtain ⟨x, _, h⟩ := List.any_eq_true.mp h
      exact absurd (of_decide_eq_true h) (by show ¬ ((0 : Int) < 0); decide)
    rw [this]
    simp
  rw [e]
  exact q m' 
theorem b0_ok {ns : List Int} {i : Int} {E : De} {m : Mem} {o2 o3 o4 o5 o6 o7 o8 o9 o10 o11 o12 o13 : Option D} (k0 : 0 ≤ i) (k1 : i < 1000) (q : ∀ o1 o2 o3 o4 o5 o6 o7 o8 o9 o10 o11 o12 o13 m2, E.nx [some (.scr ns), o1, o2, o3, o4, o5, o6, o7, o8, o9, o10, o11, o12, o13] m2) : B0 E [some (.scr ns), some (.int i), o2, o3, o4, o5, o6, o7, o8, o9, o10, o11, o12, o13] m := by
  unfold B0
  rw [a_seqH]
  refine l1_ok k0 k1 fun p m1 hA1 => ?_
  dsimp only
  rw [a_hold, a_seqH]
  refine l2_ok hA1 (by decide) fun k m2 k1 k4 hA2 => ?_
  dsimp only
  rw [a_hold, a_seqH]
  refine l3_ok hA2 (by decide) k4 fun ms g m3 hN hgp hg hA3 => ?_
  dsimp only
  rw [a_hold, a_seqH]
  refine l4_ok ?_
  dsimp only
  rw [a_hold, a_seqH]
  unfold I5
  walk_at "wg"
  refine take_ok hA3.nx (by decide) (by decide) (by decide) fun d m4 d0 d9 n4 _ => ?_
  refine add_int ?_
  have hg4 : m4 g = some [] := n4.1 g _ hgp hg
  refine ⟨⟨by omega, by omega⟩, ?_⟩
  refine loopM k1 k4 hN hgp _ (by rw [List.length_map, List.length_range]; omega) (At.le n4.2 (by decide)) hg4 fun op o7 o8 o9 o10 m5 => ?_
  dsimp only
  rw [a_hold]
  refine l6_ok k1 k4 fun m6 => ?_
  exact q _ _ _ _ _ _ _ _ _ _ _ _ _ m6
theorem r_law : ∀ ds m Qd Qx, F_law ds m Qd Qx → w_law { nx := fun _ m' => Qd .non m', rt := Qd } (ds.map some ++ List.replicate (14 - ds.length) none) m := by
  rintro ds m Qd Qx ⟨ns, rfl, hl, h⟩
  rw [law_eq]
  have hb : ∃ n : Int, (if (if (ns.length : Int) < 8 then (ns.length : Int) else 8) > 2 then (if (ns.length : Int) < 8 then (ns.length : Int) else 8) else 2) = n ∧ 0 ≤ n ∧ n ≤ 8 := by
    refine ⟨_, rfl, ?_, ?_⟩
    · split <;> split <;> omega
    · split <;> split <;> omega
  obtain ⟨n, en, hn0, hn6⟩ := hb
  rw [a_seqH]
  unfold I0
  walk_at "wg"
  refine ⟨?_, ?_⟩
  · show -(2 ^ 62) ≤ (if (if (ns.length : Int) < 8 then (ns.length : Int) else 8) > 2 then (if (ns.length : Int) < 8 then (ns.length : Int) else 8) else 2) ∧ (if (if (ns.length : Int) < 8 then (ns.length : Int) else 8) > 2 then (if (ns.length : Int) < 8 then (ns.length : Int) else 8) else 2) < 2 ^ 62
    rw [en]
    omega
  refine loop_ind (P := fun ds ρ m' => (∀ d ∈ ds, ∃ k : Int, d = .int k ∧ 0 ≤ k ∧ k < 1000) ∧ ∃ o1 o2 o3 o4 o5 o6 o7 o8 o9 o10 o11 o12 o13, ρ = [some (.scr ns), o1, o2, o3, o4, o5, o6, o7, o8, o9, o10, o11, o12, o13]) ?_ ?_ _ _ _ ⟨?_, none, none, none, none, none, none, none, none, none, none, none, none, none, rfl⟩
  · rintro ρ m' ⟨_, o1, o2, o3, o4, o5, o6, o7, o8, o9, o10, o11, o12, o13, rfl⟩
    walk_at "wg"
    exact h m'
  · rintro d ds ρ m1 ⟨hd, o1, o2, o3, o4, o5, o6, o7, o8, o9, o10, o11, o12, o13, rfl⟩ ih
    obtain ⟨k, rfl, k0, k1⟩ := hd d List.mem_cons_self
    have nxt : ∀ o1 o2 o3 o4 o5 o6 o7 o8 o9 o10 o11 o12 o13 m2, wLoop _ _ _ ds [some (.scr ns), o1, o2, o3, o4, o5, o6, o7, o8, o9, o10, o11, o12, o13] m2 := fun o1 o2 o3 o4 o5 o6 o7 o8 o9 o10 o11 o12 o13 m2 => ih _ _ ⟨fun d hd' => hd d (List.mem_cons_of_mem _ hd'), o1, o2, o3, o4, o5, o6, o7, o8, o9, o10, o11, o12, o13, rfl⟩
    clear ih
    generalize wLoop _ _ _ ds = NX at nxt ⊢
    show B0 _ [some (.scr ns), some (.int k), o2, o3, o4, o5, o6, o7, o8, o9, o10, o11, o12, o13] m1
    exact b0_ok k0 k1 nxt
  · intro d hd
    obtain ⟨i, hi, rfl⟩ := List.mem_map.mp hd
    have hi : i < (if (if (ns.length : Int) < 8 then (ns.length : Int) else 8) > 2 then (if (ns.length : Int) < 8 then (ns.length : Int) else 8) else 2).toNat := List.mem_range.mp hi
    rw [en] at hi
    exact ⟨_, rfl, by omega, by omega⟩

end K18
namespace K18
open PySem L2 XO DL GB
local macro_rules | `(tactic| walk_at "wg") => `(tactic| ((try dsimp only); (try rw [a_hold]); (try simp only [List.map_cons, List.map_nil, List.length_cons, List.length_nil, List.cons_append, List.nil_append, List.replicate_succ, List.replicate_zero, Nat.reduceAdd, Nat.reduceSub]); (try simp only [↓a_test, ↓a_v0, ↓a_s0, ↓a_g0, ↓a_v1, ↓a_s1, ↓a_g1, ↓a_v2, ↓a_s2, ↓a_g2, ↓a_v3, ↓a_s3, ↓a_g3, ↓a_v4, ↓a_s4, ↓a_g4, ↓a_v5, ↓a_s5, ↓a_g5, ↓a_v6, ↓a_s6, ↓a_g6, ↓a_v7, ↓a_s7, ↓a_g7, ↓a_v8, ↓a_s8, ↓a_g8, ↓a_v9, ↓a_s9, ↓a_g9, ↓a_v10, ↓a_s10, ↓a_g10, ↓a_v11, ↓a_s11, ↓a_g11, ↓a_v12, ↓a_s12, ↓a_g12, ↓a_v13, ↓a_s13, ↓a_g13, ↓a_v14, ↓a_s14, ↓a_g14, ↓a_v15, ↓a_s15, ↓a_g15, ↓a_v16, ↓a_s16, ↓a_g16, ↓a_v17, ↓a_s17, ↓a_g17, ↓a_v18, ↓a_s18, ↓a_g18, ↓a_v19, ↓a_s19, ↓a_g19, ↓a_v20, ↓a_s20, ↓a_g20, ↓a_v21, ↓a_s21, ↓a_g21, ↓a_v22, ↓a_s22, ↓a_g22, ↓a_v23, ↓a_s23, ↓a_g23, ↓a_v24, ↓a_s24, ↓a_g24, ↓a_v25, ↓a_s25, ↓a_g25, ↓a_v26, ↓a_s26, ↓a_g26, ↓a_v27, ↓a_s27, ↓a_g27, ↓a_star, ↓a_asg2, ↓a_asg4, ↓a_neg, ↓a_zipX, ↓a_callKX, ↓a_get2, ↓a_lcO, ↓a_popAt, ↓a_m0, ↓a_op, ↓a_c, ↓a_call, ↓a_callX, ↓a_call0, ↓a_nil, ↓a_cons, ↓a_bi, ↓a_tnot, ↓a_tor, ↓a_tand, ↓a_tru, ↓a_yes, ↓a_if, ↓a_and, ↓a_or, ↓a_not, ↓a_chain, ↓a_sl, ↓a_noPart, ↓a_part, ↓a_lst, ↓a_tup, ↓a_dct0, ↓a_own, ↓a_isT, ↓a_next, ↓a_seqH, ↓a_ret, ↓a_drop, ↓a_sif, ↓a_raise, ↓a_for, ↓a_iVar, ↓a_fld, ↓a_lc, ↓a_iEnumB, ↓a_iEnumS, ↓a_iSg, ↓a_iLst, ↓a_iTp, ↓a_join, ↓a_lenSet, ↓a_append, ↓a_put, ↓a_par, ↓a_unp, ↓a_meth, ↓a_make, ↓a_rg1, ↓a_gTup, ↓a_gNil, ↓a_gCons, ↓a_loopN, wipeD, List.map_cons, List.map_nil, List.length_cons, List.length_nil, List.cons_append, List.nil_append, List.replicate_succ, List.replicate_zero, List.append_nil, List.getElem?_cons_zero, List.getElem?_cons_succ, List.set_cons_zero, List.set_cons_succ, Nat.reduceAdd, Nat.reduceSub, Bool.not_true, Bool.not_false, reduceIte, Bool.false_eq_true, true_and])))
theorem l_in_four : ∀ ds m Q Qx, F_in_four ds m Q Qx → ds.length = 1 := by
  intro ds m Q Qx h
  unfold F_in_four at h
  repeat (rcases h with ⟨_, h⟩)
  all_goals (subst_vars; rfl)
theorem l_unit_corner : ∀ ds m Q Qx, F_unit_corner ds m Q Qx → ds.length = 1 := by
  intro ds m Q Qx h
  unfold F_unit_corner at h
  repeat (rcases h with ⟨_, h⟩)
  all_goals (subst_vars; rfl)
theorem l_point_of : ∀ ds m Q Qx, F_point_of ds m Q Qx → ds.length = 2 := by
  intro ds m Q Qx h
  unfold F_point_of at h
  repeat (rcases h with ⟨_, h⟩)
  all_goals (subst_vars; rfl)
theorem l_first_missed : ∀ ds m Q Qx, F_first_missed ds m Q Qx → ds.length = 3 := by
  intro ds m Q Qx h
  unfold F_first_missed at h
  repeat (rcases h with ⟨_, h⟩)
  all_goals (subst_vars; rfl)
theorem l_weights_of : ∀ ds m Q Qx, F_weights_of ds m Q Qx → ds.length = 2 := by
  intro ds m Q Qx h
  unfold F_weights_of at h
  repeat (rcases h with ⟨_, h⟩)
  all_goals (subst_vars; rfl)
theorem l_leaving_place : ∀ ds m Q Qx, F_leaving_place ds m Q Qx → ds.length = 2 := by
  intro ds m Q Qx h
  unfold F_leaving_place at h
  repeat (rcases h with ⟨_, h⟩)
  all_goals (subst_vars; rfl)
theorem l_exchanged : ∀ ds m Q Qx, F_exchanged ds m Q Qx → ds.length = 4 := by
  intro ds m Q Qx h
  unfold F_exchanged at h
  repeat (rcases h with ⟨_, h⟩)
  all_goals (subst_vars; rfl)
theorem l_is_list : ∀ ds m Q Qx, F_is_list ds m Q Qx → ds.length = 1 := by
  intro ds m Q Qx h
  unfold F_is_list at h
  repeat (rcases h with ⟨_, h⟩)
  all_goals (subst_vars; rfl)
theorem l_is_whole : ∀ ds m Q Qx, F_is_whole ds m Q Qx → ds.length = 1 := by
  intro ds m Q Qx h
  unfold F_is_whole at h
  repeat (rcases h with ⟨_, h⟩)
  all_goals (subst_vars; rfl)
theorem l_weighed : ∀ ds m Q Qx, F_weighed ds m Q Qx → ds.length = 2 := by
  intro ds m Q Qx h
  unfold F_weighed at h
  repeat (rcases h with ⟨_, h⟩)
  all_goals (subst_vars; rfl)
theorem l_summed : ∀ ds m Q Qx, F_summed ds m Q Qx → ds.length = 3 := by
  intro ds m Q Qx h
  unfold F_summed at h
  repeat (rcases h with ⟨_, h⟩)
  all_goals (subst_vars; rfl)
theorem l__law_cell : ∀ ds m Q Qx, F_law_cell ds m Q Qx → ds.length = 2 := by
  intro ds m Q Qx h
  unfold F_law_cell at h
  repeat (rcases h with ⟨_, h⟩)
  all_goals (subst_vars; rfl)
theorem l__law_box : ∀ ds m Q Qx, F_law_box ds m Q Qx → ds.length = 1 := by
  intro ds m Q Qx h
  unfold F_law_box at h
  repeat (rcases h with ⟨_, h⟩)
  all_goals (subst_vars; rfl)
theorem l__law_take : ∀ ds m Q Qx, F_law_take ds m Q Qx → ds.length = 2 := by
  intro ds m Q Qx h
  unfold F_law_take at h
  repeat (rcases h with ⟨_, h⟩)
  all_goals (subst_vars; rfl)
theorem l__law_price : ∀ ds m Q Qx, F_law_price ds m Q Qx → ds.length = 2 := by
  intro ds m Q Qx h
  unfold F_law_price at h
  repeat (rcases h with ⟨_, h⟩)
  all_goals (subst_vars; rfl)
theorem l__law_sum_right : ∀ ds m Q Qx, F_law_sum_right ds m Q Qx → ds.length = 3 := by
  intro ds m Q Qx h
  unfold F_law_sum_right at h
  repeat (rcases h with ⟨_, h⟩)
  all_goals (subst_vars; rfl)
theorem l_row_in_four : ∀ ds m Q Qx, F_row_in_four ds m Q Qx → ds.length = 2 := by
  intro ds m Q Qx h
  unfold F_row_in_four at h
  repeat (rcases h with ⟨_, h⟩)
  all_goals (subst_vars; rfl)
theorem l_settled : ∀ ds m Q Qx, F_settled ds m Q Qx → ds.length = 2 := by
  intro ds m Q Qx h
  unfold F_settled at h
  repeat (rcases h with ⟨_, h⟩)
  all_goals (subst_vars; rfl)
theorem l_is_whole_list : ∀ ds m Q Qx, F_is_whole_list ds m Q Qx → ds.length = 1 := by
  intro ds m Q Qx h
  unfold F_is_whole_list at h
  repeat (rcases h with ⟨_, h⟩)
  all_goals (subst_vars; rfl)
theorem l_is_integer : ∀ ds m Q Qx, F_is_integer ds m Q Qx → ds.length = 3 := by
  intro ds m Q Qx h
  unfold F_is_integer at h
  repeat (rcases h with ⟨_, h⟩)
  all_goals (subst_vars; rfl)
theorem l_is_cost_number : ∀ ds m Q Qx, F_is_cost_number ds m Q Qx → ds.length = 1 := by
  intro ds m Q Qx h
  unfold F_is_cost_number at h
  repeat (rcases h with ⟨_, h⟩)
  all_goals (subst_vars; rfl)
theorem l__law_row : ∀ ds m Q Qx, F_law_row ds m Q Qx → ds.length = 4 := by
  intro ds m Q Qx h
  unfold F_law_row at h
  repeat (rcases h with ⟨_, h⟩)
  all_goals (subst_vars; rfl)
theorem l__law_is_kept : ∀ ds m Q Qx, F_law_is_kept ds m Q Qx → ds.length = 2 := by
  intro ds m Q Qx h
  unfold F_law_is_kept at h
  repeat (rcases h with ⟨_, h⟩)
  all_goals (subst_vars; rfl)
theorem l_scaled : ∀ ds m Q Qx, F_scaled ds m Q Qx → ds.length = 1 := by
  intro ds m Q Qx h
  unfold F_scaled at h
  repeat (rcases h with ⟨_, h⟩)
  all_goals (subst_vars; rfl)
theorem l_is_number_row : ∀ ds m Q Qx, F_is_number_row ds m Q Qx → ds.length = 2 := by
  intro ds m Q Qx h
  unfold F_is_number_row at h
  repeat (rcases h with ⟨_, h⟩)
  all_goals (subst_vars; rfl)
theorem l_check_number_rows : ∀ ds m Q Qx, F_check_number_rows ds m Q Qx → ds.length = 2 := by
  intro ds m Q Qx h
  unfold F_check_number_rows at h
  repeat (rcases h with ⟨_, h⟩)
  all_goals (subst_vars; rfl)
theorem l_keeps : ∀ ds m Q Qx, F_keeps ds m Q Qx → ds.length = 2 := by
  intro ds m Q Qx h
  unfold F_keeps at h
  repeat (rcases h with ⟨_, h⟩)
  all_goals (subst_vars; rfl)
theorem l_settle : ∀ ds m Q Qx, F_settle ds m Q Qx → ds.length = 2 := by
  intro ds m Q Qx h
  unfold F_settle at h
  repeat (rcases h with ⟨_, h⟩)
  all_goals (subst_vars; rfl)
theorem l_shows_sum : ∀ ds m Q Qx, F_shows_sum ds m Q Qx → ds.length = 3 := by
  intro ds m Q Qx h
  unfold F_shows_sum at h
  repeat (rcases h with ⟨_, h⟩)
  all_goals (subst_vars; rfl)
theorem l__law_settled : ∀ ds m Q Qx, F_law_settled ds m Q Qx → ds.length = 3 := by
  intro ds m Q Qx h
  unfold F_law_settled at h
  repeat (rcases h with ⟨_, h⟩)
  all_goals (subst_vars; rfl)
theorem l_law : ∀ ds m Q Qx, F_law ds m Q Qx → ds.length = 1 := lawFn_len

end K18
namespace K18
open PySem L2 XO DL GB
def top (i : Nat) : Stmt := PySem.Challenge.pw_seenchoices_k17_integers_or_a_sum.main.body.getD i (.Pass ⟨0, 0, 0, 0⟩)
theorem bt_all : bootBuiltins "all" = some (.builtin "all") := by decide +kernel
theorem bt_any : bootBuiltins "any" = some (.builtin "any") := by decide +kernel
theorem bt_bool : bootBuiltins "bool" = some (.type "bool") := by decide +kernel
theorem bt_dict : bootBuiltins "dict" = some (.type "dict") := by decide +kernel
theorem bt_enumerate : bootBuiltins "enumerate" = some (.type "enumerate") := by decide +kernel
theorem bt_int : bootBuiltins "int" = some (.type "int") := by decide +kernel
theorem bt_isinstance : bootBuiltins "isinstance" = some (.builtin "isinstance") := by decide +kernel
theorem bt_len : bootBuiltins "len" = some (.builtin "len") := by decide +kernel
theorem bt_list : bootBuiltins "list" = some (.type "list") := by decide +kernel
theorem bt_max : bootBuiltins "max" = some (.builtin "max") := by decide +kernel
theorem bt_min : bootBuiltins "min" = some (.builtin "min") := by decide +kernel
theorem bt_range : bootBuiltins "range" = some (.type "range") := by decide +kernel
theorem bt_repr : bootBuiltins "repr" = some (.builtin "repr") := by decide +kernel
theorem bt_sum : bootBuiltins "sum" = some (.builtin "sum") := by decide +kernel
theorem bt_tuple : bootBuiltins "tuple" = some (.type "tuple") := by decide +kernel
theorem bt_zip : bootBuiltins "zip" = some (.type "zip") := by decide +kernel
abbrev s_in_four : Stmt := top 4
theorem sc_in_four : FnScope ["numbers", "padded"] ["numbers"] (defScope s_in_four) := ⟨rfl, rfl, rfl, by decide +kernel, rfl, by decide +kernel, by decide +kernel⟩
abbrev s_unit_corner : Stmt := top 6
theorem sc_unit_corner : FnScope ["index"] ["index"] (defScope s_unit_corner) := ⟨rfl, rfl, rfl, by decide +kernel, rfl, by decide +kernel, by decide +kernel⟩
abbrev s_point_of : Stmt := top 7
theorem sc_point_of : FnScope ["rows", "corner", "columns", "tight", "_", "a", "b", "c", "d", "index", "column"] ["rows", "corner"] (defScope s_point_of) := ⟨rfl, rfl, rfl, by decide +kernel, rfl, by decide +kernel, by decide +kernel⟩
abbrev s_first_missed : Stmt := top 8
theorem sc_first_missed : FnScope ["rows", "point", "size", "w", "x", "y", "z", "index", "a", "b", "c", "d", "strict"] ["rows", "point", "size"] (defScope s_first_missed) := ⟨rfl, rfl, rfl, by decide +kernel, rfl, by decide +kernel, by decide +kernel⟩
abbrev s_weights_of : Stmt := top 9
theorem sc_weights_of : FnScope ["row", "columns", "w", "x", "y", "z", "_", "a", "b", "c", "d"] ["row", "columns"] (defScope s_weights_of) := ⟨rfl, rfl, rfl, by decide +kernel, rfl, by decide +kernel, by decide +kernel⟩
abbrev s_leaving_place : Stmt := top 10
theorem sc_leaving_place : FnScope ["tight", "weights", "found", "place", "index"] ["tight", "weights"] (defScope s_leaving_place) := ⟨rfl, rfl, rfl, by decide +kernel, rfl, by decide +kernel, by decide +kernel⟩
abbrev s_exchanged : Stmt := top 11
theorem sc_exchanged : FnScope ["corner", "missed", "weights", "leaving", "columns", "tight", "size", "weight", "w", "x", "y", "z", "found", "a", "b", "c", "d", "other"] ["corner", "missed", "weights", "leaving"] (defScope s_exchanged) := ⟨rfl, rfl, rfl, by decide +kernel, rfl, by decide +kernel, by decide +kernel⟩
abbrev s_is_list : Stmt := top 19
theorem sc_is_list : FnScope ["value"] ["value"] (defScope s_is_list) := ⟨rfl, rfl, rfl, by decide +kernel, rfl, by decide +kernel, by decide +kernel⟩
abbrev s_is_whole : Stmt := top 20
theorem sc_is_whole : FnScope ["value"] ["value"] (defScope s_is_whole) := ⟨rfl, rfl, rfl, by decide +kernel, rfl, by decide +kernel, by decide +kernel⟩
abbrev s_weighed : Stmt := top 24
theorem sc_weighed : FnScope ["counts", "numbers", "count", "number"] ["counts", "numbers"] (defScope s_weighed) := ⟨rfl, rfl, rfl, by decide +kernel, rfl, by decide +kernel, by decide +kernel⟩
abbrev s_summed : Stmt := top 33
theorem sc_summed : FnScope ["many", "rows", "amounts", "place", "amount", "row"] ["many", "rows", "amounts"] (defScope s_summed) := ⟨rfl, rfl, rfl, by decide +kernel, rfl, by decide +kernel, by decide +kernel⟩
abbrev s__law_cell : Stmt := top 36
theorem sc__law_cell : FnScope ["_law_script", "_law_k"] ["_law_script", "_law_k"] (defScope s__law_cell) := ⟨rfl, rfl, rfl, by decide +kernel, rfl, by decide +kernel, by decide +kernel⟩
abbrev s__law_box : Stmt := top 37
theorem sc__law_box : FnScope ["_law_cell_here"] ["_law_cell_here"] (defScope s__law_box) := ⟨rfl, rfl, rfl, by decide +kernel, rfl, by decide +kernel, by decide +kernel⟩
abbrev s__law_take : Stmt := top 38
theorem sc__law_take : FnScope ["_law_box_here", "_law_size", "_law_mixed", "_law_digit"] ["_law_box_here", "_law_size"] (defScope s__law_take) := ⟨rfl, rfl, rfl, by decide +kernel, rfl, by decide +kernel, by decide +kernel⟩
abbrev s__law_price : Stmt := top 39
theorem sc__law_price : FnScope ["_law_row_here", "_law_numbers", "_law_left", "_law_right"] ["_law_row_here", "_law_numbers"] (defScope s__law_price) := ⟨rfl, rfl, rfl, by decide +kernel, rfl, by decide +kernel, by decide +kernel⟩
abbrev s__law_sum_right : Stmt := top 42
theorem sc__law_sum_right : FnScope ["_law_size", "_law_given", "_law_amounts", "_law_added", "_law_below", "_law_strict", "_law_at", "_law_number", "_law_row_here", "_law_amount"] ["_law_size", "_law_given", "_law_amounts"] (defScope s__law_sum_right) := ⟨rfl, rfl, rfl, by decide +kernel, rfl, by decide +kernel, by decide +kernel⟩
abbrev s_row_in_four : Stmt := top 5
theorem sc_row_in_four : FnScope ["numbers", "strict"] ["numbers", "strict"] (defScope s_row_in_four) := ⟨rfl, rfl, rfl, by decide +kernel, rfl, by decide +kernel, by decide +kernel⟩
abbrev s_settled : Stmt := top 12
theorem sc_settled : FnScope ["rows", "corner", "point", "missed", "weights", "place", "against", "index", "weight"] ["rows", "corner"] (defScope s_settled) := ⟨rfl, rfl, rfl, by decide +kernel, rfl, by decide +kernel, by decide +kernel⟩
abbrev s_is_whole_list : Stmt := top 21
theorem sc_is_whole_list : FnScope ["value", "item"] ["value"] (defScope s_is_whole_list) := ⟨rfl, rfl, rfl, by decide +kernel, rfl, by decide +kernel, by decide +kernel⟩
abbrev s_is_integer : Stmt := top 22
theorem sc_is_integer : FnScope ["value", "low", "high"] ["value", "low", "high"] (defScope s_is_integer) := ⟨rfl, rfl, rfl, by decide +kernel, rfl, by decide +kernel, by decide +kernel⟩
abbrev s_is_cost_number : Stmt := top 27
theorem sc_is_cost_number : FnScope ["value"] ["value"] (defScope s_is_cost_number) := ⟨rfl, rfl, rfl, by decide +kernel, rfl, by decide +kernel, by decide +kernel⟩
abbrev s__law_row : Stmt := top 40
theorem sc__law_row : FnScope ["_law_box_here", "_law_size", "_law_numbers", "_law_given", "_law_wide", "_law_way", "_law_row_here", "_law_strict", "_law_k", "_law_one", "_law_other", "_law_number", "_law_left", "_law_right", "_law_sign"] ["_law_box_here", "_law_size", "_law_numbers", "_law_given"] (defScope s__law_row) := ⟨rfl, rfl, rfl, by decide +kernel, rfl, by decide +kernel, by decide +kernel⟩
abbrev s__law_is_kept : Stmt := top 41
theorem sc__law_is_kept : FnScope ["_law_row_here", "_law_numbers"] ["_law_row_here", "_law_numbers"] (defScope s__law_is_kept) := ⟨rfl, rfl, rfl, by decide +kernel, rfl, by decide +kernel, by decide +kernel⟩
abbrev s_scaled : Stmt := top 23
theorem sc_scaled : FnScope ["numbers", "divisor", "number"] ["numbers"] (defScope s_scaled) := ⟨rfl, rfl, rfl, by decide +kernel, rfl, by decide +kernel, by decide +kernel⟩
abbrev s_is_number_row : Stmt := top 29
theorem sc_is_number_row : FnScope ["many", "value"] ["many", "value"] (defScope s_is_number_row) := ⟨rfl, rfl, rfl, by decide +kernel, rfl, by decide +kernel, by decide +kernel⟩
abbrev s_check_number_rows : Stmt := top 30
theorem sc_check_number_rows : FnScope ["many", "rows", "row"] ["many", "rows"] (defScope s_check_number_rows) := ⟨rfl, rfl, rfl, by decide +kernel, rfl, by decide +kernel, by decide +kernel⟩
abbrev s_keeps : Stmt := top 31
theorem sc_keeps : FnScope ["numbers", "row", "number"] ["numbers", "row"] (defScope s_keeps) := ⟨rfl, rfl, rfl, by decide +kernel, rfl, by decide +kernel, by decide +kernel⟩
abbrev s_settle : Stmt := top 32
theorem sc_settle : FnScope ["many", "rows", "known", "_", "point", "found", "amounts", "numbers", "strict", "index"] ["many", "rows"] (defScope s_settle) := ⟨rfl, rfl, rfl, by decide +kernel, rfl, by decide +kernel, by decide +kernel⟩
abbrev s_shows_sum : Stmt := top 34
theorem sc_shows_sum : FnScope ["many", "rows", "amounts", "total", "strict", "amount", "row"] ["many", "rows", "amounts"] (defScope s_shows_sum) := ⟨rfl, rfl, rfl, by decide +kernel, rfl, by decide +kernel, by decide +kernel⟩
abbrev s__law_settled : Stmt := top 43
theorem sc__law_settled : FnScope ["_law_size", "_law_given", "_law_numbers", "_law_told", "_law_found", "_law_wrong", "_law_row_here", "_law_number"] ["_law_size", "_law_given", "_law_numbers"] (defScope s__law_settled) := ⟨rfl, rfl, rfl, by decide +kernel, rfl, by decide +kernel, by decide +kernel⟩
abbrev s_law : Stmt := top 44
theorem sc_law : FnScope ["_law_script", "_law_k", "_law_box_here", "_law_size", "_law_numbers", "_law_given", "_law_open_still", "_law_lap", "_law_held", "_law_found", "_law_more", "_law_place", "_law_row_here", "_law_strict"] ["_law_script"] (defScope s_law) := ⟨rfl, rfl, rfl, by decide +kernel, rfl, by decide +kernel, by decide +kernel⟩
structure Txt (K : Fg) (mg : Str → Option Value) : Prop where
  z_all : mg "all" = none
  z_any : mg "any" = none
  z_bool : mg "bool" = none
  z_dict : mg "dict" = none
  z_enumerate : mg "enumerate" = none
  z_int : mg "int" = none
  z_isinstance : mg "isinstance" = none
  z_len : mg "len" = none
  z_list : mg "list" = none
  z_max : mg "max" = none
  z_min : mg "min" = none
  z_range : mg "range" = none
  z_repr : mg "repr" = none
  z_sum : mg "sum" = none
  z_tuple : mg "tuple" = none
  z_zip : mg "zip" = none
  g_gcd : mg "gcd" = some (.builtin "math.gcd")
  c_MOST_COSTS : ∃ t, mg "MOST_COSTS" = some (.int 4 t)
  c_UNIT_COLUMNS : ∃ a, mg "UNIT_COLUMNS" = some (.ref a) ∧ ∀ G, Rp K G (.ref a) d_UNIT_COLUMNS
  c_UNIT_ROWS : ∃ a, mg "UNIT_ROWS" = some (.ref a) ∧ ∀ G, Rp K G (.ref a) d_UNIT_ROWS
def apart (K : Fg) (mg : Str → Option Value) : Prop := ApartAll K mg ["InvalidInteger", "InvalidPart", "InvalidRow"]
section
variable {P : Program} {w : World} {K : Fg} {mg : Str → Option Value} {base : Heap}
theorem ok_in_four (T : Txt K mg) (FA : FunAt K mg "in_four" "in_four" s_in_four ["numbers"]) : Has P w K mg base 1 "in_four"  ["numbers"] F_in_four :=
  has_of (W := fun _ _ _ _ => False) FA sc_in_four l_in_four (wb := w_in_four) (fun f cdv A oe s H E hX => (pb_cons (ps_set 1 hX.hN hX.nd (pd_tup (pa_starD hX.K (pd_var 0 hX.hN) (pa_cons pd_int (pa_cons pd_int (pa_cons pd_int (pa_cons pd_int pa_nil))))))) (pb_one (ps_ret (pd_sl hX.K (pd_var 1 hX.hN) po_none (po_some pd_int)))))) r_in_four
theorem ok_unit_corner (T : Txt K mg) (FA : FunAt K mg "unit_corner" "unit_corner" s_unit_corner ["index"]) : Has P w K mg base 1 "unit_corner"  ["index"] F_unit_corner :=
  has_of (W := fun _ _ _ _ => False) FA sc_unit_corner l_unit_corner (wb := w_unit_corner) (fun f cdv A oe s H E hX => (pb_one (ps_ret (pd_tup (pa_cons (pd_globR hX.mg T.c_UNIT_COLUMNS) (pa_cons (pd_tup (pa_cons (pd_var 0 hX.hN) (pa_cons (pd_add hX.K (pd_var 0 hX.hN) pd_int) (pa_cons (pd_add hX.K (pd_var 0 hX.hN) pd_int) (pa_cons (pd_add hX.K (pd_var 0 hX.hN) pd_int) pa_nil))))) (pa_cons pd_int pa_nil))))))) r_unit_corner
theorem ok_point_of (T : Txt K mg) (FA : FunAt K mg "point_of" "point_of" s_point_of ["rows", "corner"]) : Has P w K mg base 1 "point_of"  ["rows", "corner"] F_point_of :=
  has_of (W := fun _ _ _ _ => False) FA sc_point_of l_point_of (wb := w_point_of) (fun f cdv A oe s H E hX => (pb_cons (ps_unp hX.K hX.calm (pd_var 1 hX.hN) (pgs_cons (pg_name 2 hX.hN hX.nd) (pgs_cons (pg_name 3 hX.hN hX.nd) (pgs_cons (pg_name 4 hX.hN hX.nd) pgs_nil)))) (pb_cons (ps_asg4D pd_int (pg_name 5 hX.hN hX.nd) (pg_name 6 hX.hN hX.nd) (pg_name 7 hX.hN hX.nd) (pg_name 8 hX.hN hX.nd)) (pb_cons (ps_for (fun _ => PassesOwn.never) hX.calm (pi_zipX hX.K hX.mg T.z_zip (pa_cons (pd_var 3 hX.hN) (pa_cons (pd_var 2 hX.hN) pa_nil))) (pg_tup hX.K hX.calm (pgs_cons (pg_name 9 hX.hN hX.nd) (pgs_cons (pg_name 10 hX.hN hX.nd) pgs_nil))) (pb_one (ps_if (pt_tru hX.K (pd_ix hX.K (pd_ix hX.K (pd_var 0 hX.hN) (pd_var 9 hX.hN)) pd_int)) (pb_cons (ps_augD 5 in_addD hX.hN hX.nd (pd_ix hX.K (pd_var 10 hX.hN) pd_int)) (pb_cons (ps_augD 6 in_addD hX.hN hX.nd (pd_ix hX.K (pd_var 10 hX.hN) pd_int)) (pb_cons (ps_augD 7 in_addD hX.hN hX.nd (pd_ix hX.K (pd_var 10 hX.hN) pd_int)) (pb_one (ps_augD 8 in_addD hX.hN hX.nd (pd_ix hX.K (pd_var 10 hX.hN) pd_int)))))) pb_nil))) (pb_one (ps_ret (pd_tup (pa_cons (pd_var 5 hX.hN) (pa_cons (pd_var 6 hX.hN) (pa_cons (pd_var 7 hX.hN) (pa_cons (pd_var 8 hX.hN) pa_nil))))))))))) r_point_of
theorem ok_first_missed (T : Txt K mg) (FA : FunAt K mg "first_missed" "first_missed" s_first_missed ["rows", "point", "size"]) : Has P w K mg base 1 "first_missed"  ["rows", "point", "size"] F_first_missed :=
  has_of (W := fun _ _ _ _ => False) FA sc_first_missed l_first_missed (wb := w_first_missed) (fun f cdv A oe s H E hX => (pb_cons (ps_unp hX.K hX.calm (pd_var 1 hX.hN) (pgs_cons (pg_name 3 hX.hN hX.nd) (pgs_cons (pg_name 4 hX.hN hX.nd) (pgs_cons (pg_name 5 hX.hN hX.nd) (pgs_cons (pg_name 6 hX.hN hX.nd) pgs_nil))))) (pb_cons (ps_for (fun _ => PassesOwn.never) hX.calm (pi_enumB hX.K hX.mg T.z_enumerate (pa_cons (pd_var 0 hX.hN) pa_nil)) (pg_tup hX.K hX.calm (pgs_cons (pg_name 7 hX.hN hX.nd) (pgs_cons (pg_tup hX.K hX.calm (pgs_cons (pg_name 8 hX.hN hX.nd) (pgs_cons (pg_name 9 hX.hN hX.nd) (pgs_cons (pg_name 10 hX.hN hX.nd) (pgs_cons (pg_name 11 hX.hN hX.nd) (pgs_cons (pg_name 12 hX.hN hX.nd) pgs_nil)))))) pgs_nil))) (pb_one (ps_if (pt_cmp (c_lt) (pd_add hX.K (pd_add hX.K (pd_add hX.K (pd_mul (pd_var 8 hX.hN) (pd_var 3 hX.hN)) (pd_mul (pd_var 9 hX.hN) (pd_var 4 hX.hN))) (pd_mul (pd_var 10 hX.hN) (pd_var 5 hX.hN))) (pd_mul (pd_var 11 hX.hN) (pd_var 6 hX.hN))) (pd_mul (pd_var 12 hX.hN) (pd_var 2 hX.hN))) (pb_one (ps_ret (pd_var 7 hX.hN))) pb_nil))) (pb_one (ps_ret pd_non))))) r_first_missed
theorem ok_weights_of (T : Txt K mg) (FA : FunAt K mg "weights_of" "weights_of" s_weights_of ["row", "columns"]) : Has P w K mg base 1 "weights_of"  ["row", "columns"] F_weights_of :=
  has_of (W := fun _ _ _ _ => False) FA sc_weights_of l_weights_of (wb := w_weights_of) (fun f cdv A oe s H E hX => (pb_cons (ps_unp hX.K hX.calm (pd_var 0 hX.hN) (pgs_cons (pg_name 2 hX.hN hX.nd) (pgs_cons (pg_name 3 hX.hN hX.nd) (pgs_cons (pg_name 4 hX.hN hX.nd) (pgs_cons (pg_name 5 hX.hN hX.nd) (pgs_cons (pg_name 6 hX.hN hX.nd) pgs_nil)))))) (pb_one (ps_ret (pd_lc (own := [(("a" : Str), 7), (("b" : Str), 8), (("c" : Str), 9), (("d" : Str), 10)]) hX.hN hX.calm hX.nd (pi_tp hX.K (pd_var 1 hX.hN)) (fun _ => blkOk_by (sc := defScope s_weights_of) (by decide +kernel)) (pg_tup (hX.blk _).K (hX.blk _).calm (pgs_cons (pg_name 7 (hX.blk _).hN hX.nd) (pgs_cons (pg_name 8 (hX.blk _).hN hX.nd) (pgs_cons (pg_name 9 (hX.blk _).hN hX.nd) (pgs_cons (pg_name 10 (hX.blk _).hN hX.nd) pgs_nil))))) pts_nil (pd_add (hX.blk _).K (pd_add (hX.blk _).K (pd_add (hX.blk _).K (pd_mul (pd_var 7 (hX.blk _).hN) (pd_var 2 (hX.blk _).hN)) (pd_mul (pd_var 8 (hX.blk _).hN) (pd_var 3 (hX.blk _).hN))) (pd_mul (pd_var 9 (hX.blk _).hN) (pd_var 4 (hX.blk _).hN))) (pd_mul (pd_var 10 (hX.blk _).hN) (pd_var 5 (hX.blk _).hN)))))))) r_weights_of
theorem ok_leaving_place (T : Txt K mg) (FA : FunAt K mg "leaving_place" "leaving_place" s_leaving_place ["tight", "weights"]) : Has P w K mg base 1 "leaving_place"  ["tight", "weights"] F_leaving_place :=
  has_of (W := fun _ _ _ _ => False) FA sc_leaving_place l_leaving_place (wb := w_leaving_place) (fun f cdv A oe s H E hX => (pb_cons (ps_setLc (i := 2) (own := [(("place" : Str), 3), (("index" : Str), 4)]) hX.hN hX.calm hX.nd rfl (fun _ => rfl) (fun _ => sw_true rfl rfl rfl (by decide +kernel)) (pi_enumB hX.K hX.mg T.z_enumerate (pa_cons (pd_var 0 hX.hN) pa_nil)) (fun _ => blkOk_by (sc := defScope s_leaving_place) (by decide +kernel)) (pg_tup (hX.blk _).K (hX.blk _).calm (pgs_cons (pg_name 3 (hX.blk _).hN hX.nd) (pgs_cons (pg_name 4 (hX.blk _).hN hX.nd) pgs_nil))) (pts_one (pt_cmp (c_gt) (pd_ix (hX.blk _).K (pd_var 1 (hX.blk _).hN) (pd_var 3 (hX.blk _).hN)) pd_int)) (pd_tup (pa_cons (pd_var 4 (hX.blk _).hN) (pa_cons (pd_var 3 (hX.blk _).hN) pa_nil)))) (pb_one (ps_ret (pd_if (pt_tru hX.K (pd_var 2 hX.hN)) (pd_ix hX.K (pd_bi (b_minP hX.toFam) hX.mg T.z_min bt_min (pa_cons (pd_var 2 hX.hN) pa_nil)) pd_int) pd_non))))) r_leaving_place
theorem ok_exchanged (T : Txt K mg) (FA : FunAt K mg "exchanged" "exchanged" s_exchanged ["corner", "missed", "weights", "leaving"]) : Has P w K mg base 1 "exchanged"  ["corner", "missed", "weights", "leaving"] F_exchanged :=
  has_of (W := fun _ _ _ _ => False) FA sc_exchanged l_exchanged (wb := w_exchanged) (fun f cdv A oe s H E hX => (pb_cons (ps_unp hX.K hX.calm (pd_var 0 hX.hN) (pgs_cons (pg_name 4 hX.hN hX.nd) (pgs_cons (pg_name 5 hX.hN hX.nd) (pgs_cons (pg_name 6 hX.hN hX.nd) pgs_nil)))) (pb_cons (ps_set 7 hX.hN hX.nd (pd_ix hX.K (pd_var 2 hX.hN) (pd_var 3 hX.hN))) (pb_cons (ps_unp hX.K hX.calm (pd_ix hX.K (pd_var 4 hX.hN) (pd_var 3 hX.hN)) (pgs_cons (pg_name 8 hX.hN hX.nd) (pgs_cons (pg_name 9 hX.hN hX.nd) (pgs_cons (pg_name 10 hX.hN hX.nd) (pgs_cons (pg_name 11 hX.hN hX.nd) pgs_nil))))) (pb_cons (ps_set 12 hX.hN hX.nd (pd_own pa_nil)) (pb_cons (ps_for (fun _ => PassesOwn.never) hX.calm (pi_zipX hX.K hX.mg T.z_zip (pa_cons (pd_var 4 hX.hN) (pa_cons (pd_var 2 hX.hN) pa_nil))) (pg_tup hX.K hX.calm (pgs_cons (pg_tup hX.K hX.calm (pgs_cons (pg_name 13 hX.hN hX.nd) (pgs_cons (pg_name 14 hX.hN hX.nd) (pgs_cons (pg_name 15 hX.hN hX.nd) (pgs_cons (pg_name 16 hX.hN hX.nd) pgs_nil))))) (pgs_cons (pg_name 17 hX.hN hX.nd) pgs_nil))) (pb_one (ps_appendD hX.K (pd_var 12 hX.hN) (pa_cons (pd_tup (pa_cons (pd_div (pd_sub (pd_mul (pd_var 7 hX.hN) (pd_var 13 hX.hN)) (pd_mul (pd_var 17 hX.hN) (pd_var 8 hX.hN))) (pd_var 6 hX.hN)) (pa_cons (pd_div (pd_sub (pd_mul (pd_var 7 hX.hN) (pd_var 14 hX.hN)) (pd_mul (pd_var 17 hX.hN) (pd_var 9 hX.hN))) (pd_var 6 hX.hN)) (pa_cons (pd_div (pd_sub (pd_mul (pd_var 7 hX.hN) (pd_var 15 hX.hN)) (pd_mul (pd_var 17 hX.hN) (pd_var 10 hX.hN))) (pd_var 6 hX.hN)) (pa_cons (pd_div (pd_sub (pd_mul (pd_var 7 hX.hN) (pd_var 16 hX.hN)) (pd_mul (pd_var 17 hX.hN) (pd_var 11 hX.hN))) (pd_var 6 hX.hN)) pa_nil))))) pa_nil)))) (pb_cons (ps_put (pd_ix hX.K (pd_var 4 hX.hN) (pd_var 3 hX.hN)) (pd_var 12 hX.hN) (pd_var 3 hX.hN)) (pb_one (ps_ret (pd_tup (pa_cons (pd_bt (b_tupleM hX.K) hX.mg T.z_tuple bt_tuple (pa_cons (pd_var 12 hX.hN) pa_nil)) (pa_cons (pd_tup (pa_starD hX.K (pd_sl hX.K (pd_var 5 hX.hN) po_none (po_some (pd_var 3 hX.hN))) (pa_cons (pd_var 1 hX.hN) (pa_starD hX.K (pd_sl hX.K (pd_var 5 hX.hN) (po_some (pd_add hX.K (pd_var 3 hX.hN) pd_int)) po_none) pa_nil)))) (pa_cons (pd_var 7 hX.hN) pa_nil))))))))))))) r_exchanged
theorem ok_is_list (T : Txt K mg) (FA : FunAt K mg "is_list" "is_list" s_is_list ["value"]) : Has P w K mg base 1 "is_list"  ["value"] F_is_list :=
  has_of (W := fun _ _ _ _ => False) FA sc_is_list l_is_list (wb := w_is_list) (fun f cdv A oe s H E hX => (pb_one (ps_ret (pd_isiT2 hX.K hX.mg T.z_isinstance bt_isinstance T.z_list bt_list T.z_tuple bt_tuple (pd_var 0 hX.hN))))) r_is_list
theorem ok_is_whole (T : Txt K mg) (FA : FunAt K mg "is_whole" "is_whole" s_is_whole ["value"]) : Has P w K mg base 1 "is_whole"  ["value"] F_is_whole :=
  has_of (W := fun _ _ _ _ => False) FA sc_is_whole l_is_whole (wb := w_is_whole) (fun f cdv A oe s H E hX => (pb_one (ps_ret (pd_and (pd_bi (b_isi hX.K) hX.mg T.z_isinstance bt_isinstance (pa_cons (pd_var 0 hX.hN) (pa_cons (pd_ty hX.mg T.z_int bt_int) pa_nil))) (pd_one (pd_not (pd_bi (b_isi hX.K) hX.mg T.z_isinstance bt_isinstance (pa_cons (pd_var 0 hX.hN) (pa_cons (pd_ty hX.mg T.z_bool bt_bool) pa_nil))))))))) r_is_whole
theorem ok_weighed (T : Txt K mg) (FA : FunAt K mg "weighed" "weighed" s_weighed ["counts", "numbers"]) : Has P w K mg base 1 "weighed"  ["counts", "numbers"] F_weighed :=
  has_of (W := fun _ _ _ _ => False) FA sc_weighed l_weighed (wb := w_weighed) (fun f cdv A oe s H E hX => (pb_one (ps_ret (pd_bi (b_sum hX.K hX.calm) hX.mg T.z_sum bt_sum (pa_cons (pd_lc (own := [(("count" : Str), 2), (("number" : Str), 3)]) hX.hN hX.calm hX.nd (pi_zipX hX.K hX.mg T.z_zip (pa_cons (pd_var 0 hX.hN) (pa_cons (pd_var 1 hX.hN) pa_nil))) (fun _ => blkOk_by (sc := defScope s_weighed) (by decide +kernel)) (pg_tup (hX.blk _).K (hX.blk _).calm (pgs_cons (pg_name 2 (hX.blk _).hN hX.nd) (pgs_cons (pg_name 3 (hX.blk _).hN hX.nd) pgs_nil))) pts_nil (pd_mul (pd_var 2 (hX.blk _).hN) (pd_var 3 (hX.blk _).hN))) pa_nil))))) r_weighed
theorem ok_summed (T : Txt K mg) (FA : FunAt K mg "summed" "summed" s_summed ["many", "rows", "amounts"]) : Has P w K mg base 1 "summed"  ["many", "rows", "amounts"] F_summed :=
  has_of (W := fun _ _ _ _ => False) FA sc_summed l_summed (wb := w_summed) (fun f cdv A oe s H E hX => (pb_one (ps_ret (pd_lc (own := [(("place" : Str), 3)]) hX.hN hX.calm hX.nd (pi_rg1 hX.mg T.z_range (pa_cons (pd_var 0 hX.hN) pa_nil)) (fun _ => blkOk_by (sc := defScope s_summed) (by decide +kernel)) (pg_name 3 (hX.blk _).hN hX.nd) pts_nil (pd_bi (b_sum (hX.blk _).K (hX.blk _).calm) (hX.blk _).mg T.z_sum bt_sum (pa_cons (pd_lc (own := [(("amount" : Str), 4), (("row" : Str), 5)]) (hX.blk _).hN (hX.blk _).calm hX.nd (pi_zipX (hX.blk _).K (hX.blk _).mg T.z_zip (pa_cons (pd_var 2 (hX.blk _).hN) (pa_cons (pd_var 1 (hX.blk _).hN) pa_nil))) (fun _ => blkOk_in (sc0 := defScope s_summed) rfl (by decide +kernel)) (pg_tup ((hX.blk _).blk _).K ((hX.blk _).blk _).calm (pgs_cons (pg_name 4 ((hX.blk _).blk _).hN hX.nd) (pgs_cons (pg_name 5 ((hX.blk _).blk _).hN hX.nd) pgs_nil))) pts_nil (pd_mul (pd_var 4 ((hX.blk _).blk _).hN) (pd_ix ((hX.blk _).blk _).K (pd_ix ((hX.blk _).blk _).K (pd_var 5 ((hX.blk _).blk _).hN) pd_int) (pd_var 3 ((hX.blk _).blk _).hN)))) pa_nil)))))) r_summed
theorem ok__law_cell (T : Txt K mg) (FA : FunAt K mg "_law_cell" "_law_cell" s__law_cell ["_law_script", "_law_k"]) : Has P w K mg base 1 "_law_cell"  ["_law_script", "_law_k"] F_law_cell :=
  has_of (W := fun _ _ _ _ => False) FA sc__law_cell l__law_cell (wb := w__law_cell) (fun f cdv A oe s H E hX => (pb_cons (ps_if (pt_cmp (c_lt) (pd_var 1 hX.hN) (pd_bi (b_len hX.K) hX.mg T.z_len bt_len (pa_cons (pd_var 0 hX.hN) pa_nil))) (pb_one (ps_ret (pd_ix hX.K (pd_var 0 hX.hN) (pd_var 1 hX.hN)))) pb_nil) (pb_one (ps_ret (pd_add hX.K (pd_mul pd_int (pd_var 1 hX.hN)) pd_int))))) r__law_cell
theorem ok__law_box (T : Txt K mg) (FA : FunAt K mg "_law_box" "_law_box" s__law_box ["_law_cell_here"]) : Has P w K mg base 1 "_law_box"  ["_law_cell_here"] F_law_box :=
  has_of (W := fun _ _ _ _ => False) FA sc__law_box l__law_box (wb := w__law_box) (fun f cdv A oe s H E hX => (pb_one (ps_ret (pd_own (pa_cons (pd_bi (b_max hX.calm) hX.mg T.z_max bt_max (pa_cons pd_int (pa_cons (pd_sub (pd_var 0 hX.hN) (pd_pow pd_int pd_int)) pa_nil))) (pa_cons (pd_mod (pd_var 0 hX.hN) pd_int) (pa_cons pd_int pa_nil))))))) r__law_box
theorem ok__law_take (T : Txt K mg) (FA : FunAt K mg "_law_take" "_law_take" s__law_take ["_law_box_here", "_law_size"]) : Has P w K mg base 1 "_law_take"  ["_law_box_here", "_law_size"] F_law_take :=
  has_of (W := fun _ _ _ _ => False) FA sc__law_take l__law_take (wb := w__law_take) (fun f cdv A oe s H E hX => (pb_cons (ps_if (pt_cmp (c_gt) (pd_ix hX.K (pd_var 0 hX.hN) pd_int) pd_int) (pb_cons (ps_set 3 hX.hN hX.nd (pd_mod (pd_ix hX.K (pd_var 0 hX.hN) pd_int) (pd_var 1 hX.hN))) (pb_cons (ps_put (pd_div (pd_ix hX.K (pd_var 0 hX.hN) pd_int) (pd_var 1 hX.hN)) (pd_var 0 hX.hN) pd_int) (pb_one (ps_ret (pd_var 3 hX.hN))))) pb_nil) (pb_cons (ps_put (pd_add hX.K (pd_ix hX.K (pd_var 0 hX.hN) pd_int) pd_int) (pd_var 0 hX.hN) pd_int) (pb_cons (ps_set 2 hX.hN hX.nd (pd_mod (pd_pow (pd_add hX.K (pd_add hX.K (pd_ix hX.K (pd_var 0 hX.hN) pd_int) (pd_mul pd_int (pd_ix hX.K (pd_var 0 hX.hN) pd_int))) pd_int) pd_int) pd_int)) (pb_cons (ps_set 2 hX.hN hX.nd (pd_mod (pd_pow (pd_add hX.K (pd_var 2 hX.hN) (pd_mul pd_int (pd_ix hX.K (pd_var 0 hX.hN) pd_int))) pd_int) pd_int)) (pb_one (ps_ret (pd_mod (pd_div (pd_var 2 hX.hN) pd_int) (pd_var 1 hX.hN))))))))) r__law_take
theorem ok__law_price (T : Txt K mg) (FA : FunAt K mg "_law_price" "_law_price" s__law_price ["_law_row_here", "_law_numbers"]) : Has P w K mg base 1 "_law_price"  ["_law_row_here", "_law_numbers"] F_law_price :=
  has_of (W := fun _ _ _ _ => False) FA sc__law_price l__law_price (wb := w__law_price) (fun f cdv A oe s H E hX => (pb_one (ps_ret (pd_bi (b_sum hX.K hX.calm) hX.mg T.z_sum bt_sum (pa_cons (pd_lc (own := [(("_law_left" : Str), 2), (("_law_right" : Str), 3)]) hX.hN hX.calm hX.nd (pi_zipX hX.K hX.mg T.z_zip (pa_cons (pd_var 0 hX.hN) (pa_cons (pd_var 1 hX.hN) pa_nil))) (fun _ => blkOk_by (sc := defScope s__law_price) (by decide +kernel)) (pg_tup (hX.blk _).K (hX.blk _).calm (pgs_cons (pg_name 2 (hX.blk _).hN hX.nd) (pgs_cons (pg_name 3 (hX.blk _).hN hX.nd) pgs_nil))) pts_nil (pd_mul (pd_var 2 (hX.blk _).hN) (pd_var 3 (hX.blk _).hN))) pa_nil))))) r__law_price
theorem ok__law_sum_right (T : Txt K mg) (FA : FunAt K mg "_law_sum_right" "_law_sum_right" s__law_sum_right ["_law_size", "_law_given", "_law_amounts"]) : Has P w K mg base 1 "_law_sum_right"  ["_law_size", "_law_given", "_law_amounts"] F_law_sum_right :=
  has_of (W := fun _ _ _ _ => False) FA sc__law_sum_right l__law_sum_right (wb := w__law_sum_right) (fun f cdv A oe s H E hX => (pb_cons (ps_if (pw_pt (pw_or (pt_not (pt_val (pd_bi (b_isi hX.K) hX.mg T.z_isinstance bt_isinstance (pa_cons (pd_var 2 hX.hN) (pa_cons (pd_ty hX.mg T.z_tuple bt_tuple) pa_nil))))) (pw_or1 (pt_cmp (c_ne hX.toFam) (pd_bi (b_len hX.K) hX.mg T.z_len bt_len (pa_cons (pd_var 2 hX.hN) pa_nil)) (pd_bi (b_len hX.K) hX.mg T.z_len bt_len (pa_cons (pd_var 1 hX.hN) pa_nil)))))) (pb_one (ps_ret pd_bl)) pb_nil) (pb_cons (ps_if (pt_cmp (c_neNil hX.toFam) (pd_lc (own := [(("_law_amount" : Str), 9)]) hX.hN hX.calm hX.nd (pi_tp hX.K (pd_var 2 hX.hN)) (fun _ => blkOk_by (sc := defScope s__law_sum_right) (by decide +kernel)) (pg_name 9 (hX.blk _).hN hX.nd) (pts_one (pw_pt (pw_or (pt_not (pt_val (pd_bi (b_isi (hX.blk _).K) (hX.blk _).mg T.z_isinstance bt_isinstance (pa_cons (pd_var 9 (hX.blk _).hN) (pa_cons (pd_ty (hX.blk _).mg T.z_int bt_int) pa_nil))))) (pw_or (pt_val (pd_bi (b_isi (hX.blk _).K) (hX.blk _).mg T.z_isinstance bt_isinstance (pa_cons (pd_var 9 (hX.blk _).hN) (pa_cons (pd_ty (hX.blk _).mg T.z_bool bt_bool) pa_nil)))) (pw_or1 (pt_cmp (c_lt) (pd_var 9 (hX.blk _).hN) pd_int)))))) pd_int) (pd_lst pa_nil)) (pb_one (ps_ret pd_bl)) pb_nil) (pb_cons (ps_setLc (i := 3) (own := [(("_law_at" : Str), 6)]) hX.hN hX.calm hX.nd rfl (fun _ => rfl) (fun _ => sw_true rfl rfl rfl (by decide +kernel)) (pi_rg1 hX.mg T.z_range (pa_cons (pd_var 0 hX.hN) pa_nil)) (fun _ => blkOk_by (sc := defScope s__law_sum_right) (by decide +kernel)) (pg_name 6 (hX.blk _).hN hX.nd) pts_nil (pd_bi (b_sum (hX.blk _).K (hX.blk _).calm) (hX.blk _).mg T.z_sum bt_sum (pa_cons (pd_lc (own := [(("_law_row_here" : Str), 8), (("_law_amount" : Str), 9)]) (hX.blk _).hN (hX.blk _).calm hX.nd (pi_zipX (hX.blk _).K (hX.blk _).mg T.z_zip (pa_cons (pd_var 1 (hX.blk _).hN) (pa_cons (pd_var 2 (hX.blk _).hN) pa_nil))) (fun _ => blkOk_in (sc0 := defScope s__law_sum_right) rfl (by decide +kernel)) (pg_tup ((hX.blk _).blk _).K ((hX.blk _).blk _).calm (pgs_cons (pg_name 8 ((hX.blk _).blk _).hN hX.nd) (pgs_cons (pg_name 9 ((hX.blk _).blk _).hN hX.nd) pgs_nil))) pts_nil (pd_mul (pd_ix ((hX.blk _).blk _).K (pd_ix ((hX.blk _).blk _).K (pd_var 8 ((hX.blk _).blk _).hN) pd_int) (pd_var 6 ((hX.blk _).blk _).hN)) (pd_var 9 ((hX.blk _).blk _).hN))) pa_nil))) (pb_cons (ps_if (pt_cmp (c_neNil hX.toFam) (pd_lc (own := [(("_law_number" : Str), 7)]) hX.hN hX.calm hX.nd (pi_lst hX.K (pd_var 3 hX.hN)) (fun _ => blkOk_by (sc := defScope s__law_sum_right) (by decide +kernel)) (pg_name 7 (hX.blk _).hN hX.nd) (pts_one (pt_cmp (c_gt) (pd_var 7 (hX.blk _).hN) pd_int)) (pd_var 7 (hX.blk _).hN)) (pd_lst pa_nil)) (pb_one (ps_ret pd_bl)) pb_nil) (pb_cons (ps_setLc (i := 4) (own := [(("_law_number" : Str), 7)]) hX.hN hX.calm hX.nd rfl (fun _ => rfl) (fun _ => sw_true rfl rfl rfl (by decide +kernel)) (pi_lst hX.K (pd_var 3 hX.hN)) (fun _ => blkOk_by (sc := defScope s__law_sum_right) (by decide +kernel)) (pg_name 7 (hX.blk _).hN hX.nd) (pts_one (pt_cmp (c_lt) (pd_var 7 (hX.blk _).hN) pd_int)) (pd_var 7 (hX.blk _).hN)) (pb_cons (ps_setLc (i := 5) (own := [(("_law_row_here" : Str), 8), (("_law_amount" : Str), 9)]) hX.hN hX.calm hX.nd rfl (fun _ => rfl) (fun _ => sw_true rfl rfl rfl (by decide +kernel)) (pi_zipX hX.K hX.mg T.z_zip (pa_cons (pd_var 1 hX.hN) (pa_cons (pd_var 2 hX.hN) pa_nil))) (fun _ => blkOk_by (sc := defScope s__law_sum_right) (by decide +kernel)) (pg_tup (hX.blk _).K (hX.blk _).calm (pgs_cons (pg_name 8 (hX.blk _).hN hX.nd) (pgs_cons (pg_name 9 (hX.blk _).hN hX.nd) pgs_nil))) (pts_one (pw_pt (pw_and (pt_val (pd_ix (hX.blk _).K (pd_var 8 (hX.blk _).hN) pd_int)) (pw_and1 (pt_cmp (c_gt) (pd_var 9 (hX.blk _).hN) pd_int))))) pd_int) (pb_one (ps_ret (pd_or (pd_cmp (c_neNil hX.toFam) (pd_var 4 hX.hN) (pd_lst pa_nil)) (pd_one (pd_cmp (c_neNil hX.toFam) (pd_var 5 hX.hN) (pd_lst pa_nil))))))))))))) r__law_sum_right
theorem ok_row_in_four (T : Txt K mg) (FA : FunAt K mg "row_in_four" "row_in_four" s_row_in_four ["numbers", "strict"]) (h_in_four : Has P w K mg base 1 "in_four" ["numbers"] F_in_four) : Has P w K mg base 2 "row_in_four"  ["numbers", "strict"] F_row_in_four :=
  has_of (W := fun _ _ _ _ => False) FA sc_row_in_four l_row_in_four (wb := w_row_in_four) (fun f cdv A oe s H E hX => (pb_one (ps_ret (pd_tup (pa_starD hX.K (pd_own_call hX h_in_four (pa_cons (pd_var 0 hX.hN) pa_nil)) (pa_cons (pd_if (pt_val (pd_var 1 hX.hN)) pd_int pd_int) pa_nil)))))) r_row_in_four
theorem ok_settled (T : Txt K mg) (FA : FunAt K mg "settled" "settled" s_settled ["rows", "corner"]) (h_point_of : Has P w K mg base 1 "point_of" ["rows", "corner"] F_point_of) (h_first_missed : Has P w K mg base 1 "first_missed" ["rows", "point", "size"] F_first_missed) (h_weights_of : Has P w K mg base 1 "weights_of" ["row", "columns"] F_weights_of) (h_leaving_place : Has P w K mg base 1 "leaving_place" ["tight", "weights"] F_leaving_place) (h_exchanged : Has P w K mg base 1 "exchanged" ["corner", "missed", "weights", "leaving"] F_exchanged) : Has P w K mg base 2 "settled"  ["rows", "corner"] F_settled :=
  has_of (W := fun _ _ _ _ => False) FA sc_settled l_settled (wb := w_settled) (fun f cdv A oe s H E hX => (pb_one (ps_whileD (fun _ => PassesOwn.never) (pt_val pd_bl) (pb_cons (ps_set 2 hX.hN hX.nd (pd_own_call hX h_point_of (pa_cons (pd_var 0 hX.hN) (pa_cons (pd_var 1 hX.hN) pa_nil)))) (pb_cons (ps_set 3 hX.hN hX.nd (pd_own_call hX h_first_missed (pa_cons (pd_var 0 hX.hN) (pa_cons (pd_var 2 hX.hN) (pa_cons (pd_ix hX.K (pd_var 1 hX.hN) pd_int) pa_nil))))) (pb_cons (ps_if (pt_cmp (c_is) (pd_var 3 hX.hN) pd_non) (pb_one (ps_ret (pd_tup (pa_cons (pd_var 1 hX.hN) (pa_cons (pd_var 2 hX.hN) (pa_cons pd_non pa_nil)))))) pb_nil) (pb_cons (ps_set 4 hX.hN hX.nd (pd_own_call hX h_weights_of (pa_cons (pd_ix hX.K (pd_var 0 hX.hN) (pd_var 3 hX.hN)) (pa_cons (pd_ix hX.K (pd_var 1 hX.hN) pd_int) pa_nil)))) (pb_cons (ps_set 5 hX.hN hX.nd (pd_own_call hX h_leaving_place (pa_cons (pd_ix hX.K (pd_var 1 hX.hN) pd_int) (pa_cons (pd_var 4 hX.hN) pa_nil)))) (pb_cons (ps_if (pt_cmp (c_is) (pd_var 5 hX.hN) pd_non) (pb_cons (ps_setLc (i := 6) (own := [(("index" : Str), 7), (("weight" : Str), 8)]) hX.hN hX.calm hX.nd rfl (fun _ => rfl) (fun _ => sw_true rfl rfl rfl (by decide +kernel)) (pi_zipX hX.K hX.mg T.z_zip (pa_cons (pd_ix hX.K (pd_var 1 hX.hN) pd_int) (pa_cons (pd_var 4 hX.hN) pa_nil))) (fun _ => blkOk_by (sc := defScope s_settled) (by decide +kernel)) (pg_tup (hX.blk _).K (hX.blk _).calm (pgs_cons (pg_name 7 (hX.blk _).hN hX.nd) (pgs_cons (pg_name 8 (hX.blk _).hN hX.nd) pgs_nil))) (pts_one (pt_cmp (c_lt) (pd_var 8 (hX.blk _).hN) pd_int)) (pd_tup (pa_cons (pd_var 7 (hX.blk _).hN) (pa_cons (pd_neg (pd_var 8 (hX.blk _).hN)) pa_nil)))) (pb_one (ps_ret (pd_tup (pa_cons (pd_var 1 hX.hN) (pa_cons pd_non (pa_cons (pd_lst (pa_cons (pd_tup (pa_cons (pd_var 3 hX.hN) (pa_cons (pd_ix hX.K (pd_var 1 hX.hN) pd_int) pa_nil))) (pa_starD hX.K (pd_var 6 hX.hN) pa_nil))) pa_nil))))))) pb_nil) (pb_one (ps_set 1 hX.hN hX.nd (pd_own_call hX h_exchanged (pa_cons (pd_var 1 hX.hN) (pa_cons (pd_var 3 hX.hN) (pa_cons (pd_var 4 hX.hN) (pa_cons (pd_var 5 hX.hN) pa_nil)))))))))))))))) r_settled
theorem ok_is_whole_list (T : Txt K mg) (FA : FunAt K mg "is_whole_list" "is_whole_list" s_is_whole_list ["value"]) (h_is_list : Has P w K mg base 1 "is_list" ["value"] F_is_list) (h_is_whole : Has P w K mg base 1 "is_whole" ["value"] F_is_whole) : Has P w K mg base 2 "is_whole_list"  ["value"] F_is_whole_list :=
  has_of (W := fun _ _ _ _ => False) FA sc_is_whole_list l_is_whole_list (wb := w_is_whole_list) (fun f cdv A oe s H E hX => (pb_one (ps_ret (pd_and (pd_own_call hX h_is_list (pa_cons (pd_var 0 hX.hN) pa_nil)) (pd_one (pd_bi (b_all hX.K hX.calm) hX.mg T.z_all bt_all (pa_cons (pd_lc (own := [(("item" : Str), 1)]) hX.hN hX.calm hX.nd (pi_var hX.K 0 hX.hN) (fun _ => blkOk_by (sc := defScope s_is_whole_list) (by decide +kernel)) (pg_name 1 (hX.blk _).hN hX.nd) pts_nil (pd_own_call (hX.blk _) h_is_whole (pa_cons (pd_var 1 (hX.blk _).hN) pa_nil))) pa_nil))))))) r_is_whole_list
theorem ok_is_integer (T : Txt K mg) (FA : FunAt K mg "is_integer" "is_integer" s_is_integer ["value", "low", "high"]) (h_is_whole : Has P w K mg base 1 "is_whole" ["value"] F_is_whole) : Has P w K mg base 2 "is_integer"  ["value", "low", "high"] F_is_integer :=
  has_of (W := fun _ _ _ _ => False) FA sc_is_integer l_is_integer (wb := w_is_integer) (fun f cdv A oe s H E hX => (pb_one (ps_ret (pd_and (pd_own_call hX h_is_whole (pa_cons (pd_var 0 hX.hN) pa_nil)) (pd_one (pd_chain (c_le) (c_le) (pd_var 1 hX.hN) (pd_var 0 hX.hN) (pd_var 2 hX.hN))))))) r_is_integer
theorem ok_is_cost_number (T : Txt K mg) (FA : FunAt K mg "is_cost_number" "is_cost_number" s_is_cost_number ["value"]) (h_is_whole : Has P w K mg base 1 "is_whole" ["value"] F_is_whole) : Has P w K mg base 2 "is_cost_number"  ["value"] F_is_cost_number :=
  has_of (W := fun _ _ _ _ => False) FA sc_is_cost_number l_is_cost_number (wb := w_is_cost_number) (fun f cdv A oe s H E hX => (pb_one (ps_ret (pd_and (pd_own_call hX h_is_whole (pa_cons (pd_var 0 hX.hN) pa_nil)) (pd_one (pd_cmp (c_ge) (pd_var 0 hX.hN) pd_int)))))) r_is_cost_number
theorem ok__law_row (T : Txt K mg) (FA : FunAt K mg "_law_row" "_law_row" s__law_row ["_law_box_here", "_law_size", "_law_numbers", "_law_given"]) (h__law_take : Has P w K mg base 1 "_law_take" ["_law_box_here", "_law_size"] F_law_take) (h__law_price : Has P w K mg base 1 "_law_price" ["_law_row_here", "_law_numbers"] F_law_price) : Has P w K mg base 2 "_law_row"  ["_law_box_here", "_law_size", "_law_numbers", "_law_given"] F_law_row :=
  has_of (W := fun _ _ _ _ => False) FA sc__law_row l__law_row (wb := w__law_row) (fun f cdv A oe s H E hX => (pb_cons (ps_unp hX.K hX.calm (pd_tup (pa_cons (pd_ix hX.K (pd_lst (pa_cons pd_int (pa_cons pd_int (pa_cons (pd_pow pd_int pd_int) pa_nil)))) (pd_own_call hX h__law_take (pa_cons (pd_var 0 hX.hN) (pa_cons pd_int pa_nil)))) (pa_cons (pd_own_call hX h__law_take (pa_cons (pd_var 0 hX.hN) (pa_cons pd_int pa_nil))) pa_nil))) (pgs_cons (pg_name 4 hX.hN hX.nd) (pgs_cons (pg_name 5 hX.hN hX.nd) pgs_nil))) (pb_cons (ps_setLc (i := 6) (own := [(("_law_k" : Str), 8)]) hX.hN hX.calm hX.nd rfl (fun _ => rfl) (fun _ => sw_true rfl rfl rfl (by decide +kernel)) (pi_rg1 hX.mg T.z_range (pa_cons (pd_var 1 hX.hN) pa_nil)) (fun _ => blkOk_by (sc := defScope s__law_row) (by decide +kernel)) (pg_name 8 (hX.blk _).hN hX.nd) pts_nil (pd_sub (pd_own_call (hX.blk _) h__law_take (pa_cons (pd_var 0 (hX.blk _).hN) (pa_cons (pd_add (hX.blk _).K (pd_mul pd_int (pd_var 4 (hX.blk _).hN)) pd_int) pa_nil))) (pd_var 4 (hX.blk _).hN))) (pb_cons (ps_set 7 hX.hN hX.nd (pd_cmp (c_eq hX.toFam) (pd_own_call hX h__law_take (pa_cons (pd_var 0 hX.hN) (pa_cons pd_int pa_nil))) pd_int)) (pb_cons (ps_if (pw_pt (pw_and (pt_cmp (c_eq hX.toFam) (pd_var 5 hX.hN) pd_int) (pw_and1 (pt_cmp (c_neNil hX.toFam) (pd_var 3 hX.hN) (pd_lst pa_nil))))) (pb_one (ps_setLc (i := 6) (own := [(("_law_number" : Str), 11)]) hX.hN hX.calm hX.nd rfl (fun _ => rfl) (fun _ => sw_true rfl rfl rfl (by decide +kernel)) (pi_tp hX.K (pd_ix hX.K (pd_ix hX.K (pd_var 3 hX.hN) (pd_own_call hX h__law_take (pa_cons (pd_var 0 hX.hN) (pa_cons (pd_bi (b_len hX.K) hX.mg T.z_len bt_len (pa_cons (pd_var 3 hX.hN) pa_nil)) pa_nil)))) pd_int)) (fun _ => blkOk_by (sc := defScope s__law_row) (by decide +kernel)) (pg_name 11 (hX.blk _).hN hX.nd) pts_nil (pd_sub pd_int (pd_var 11 (hX.blk _).hN)))) (pb_one (ps_if (pw_pt (pw_and (pt_cmp (c_eq hX.toFam) (pd_var 5 hX.hN) pd_int) (pw_and1 (pt_cmp (c_gt) (pd_bi (b_len hX.K) hX.mg T.z_len bt_len (pa_cons (pd_var 3 hX.hN) pa_nil)) pd_int)))) (pb_cons (ps_parD 9 10 hX.hN hX.calm hX.nd (pa_cons (pd_ix hX.K (pd_ix hX.K (pd_var 3 hX.hN) (pd_own_call hX h__law_take (pa_cons (pd_var 0 hX.hN) (pa_cons (pd_bi (b_len hX.K) hX.mg T.z_len bt_len (pa_cons (pd_var 3 hX.hN) pa_nil)) pa_nil)))) pd_int) (pa_cons (pd_ix hX.K (pd_ix hX.K (pd_var 3 hX.hN) (pd_own_call hX h__law_take (pa_cons (pd_var 0 hX.hN) (pa_cons (pd_bi (b_len hX.K) hX.mg T.z_len bt_len (pa_cons (pd_var 3 hX.hN) pa_nil)) pa_nil)))) pd_int) pa_nil))) (pb_one (ps_setLc (i := 6) (own := [(("_law_left" : Str), 12), (("_law_right" : Str), 13)]) hX.hN hX.calm hX.nd rfl (fun _ => rfl) (fun _ => sw_true rfl rfl rfl (by decide +kernel)) (pi_zipX hX.K hX.mg T.z_zip (pa_cons (pd_var 9 hX.hN) (pa_cons (pd_var 10 hX.hN) pa_nil))) (fun _ => blkOk_by (sc := defScope s__law_row) (by decide +kernel)) (pg_tup (hX.blk _).K (hX.blk _).calm (pgs_cons (pg_name 12 (hX.blk _).hN hX.nd) (pgs_cons (pg_name 13 (hX.blk _).hN hX.nd) pgs_nil))) pts_nil (pd_sub (pd_sub pd_int (pd_var 12 (hX.blk _).hN)) (pd_mul pd_int (pd_var 13 (hX.blk _).hN)))))) (pb_one (ps_if (pt_cmp (c_eq hX.toFam) (pd_var 5 hX.hN) pd_int) (pb_one (ps_setLc (i := 6) (own := [(("_law_number" : Str), 11)]) hX.hN hX.calm hX.nd rfl (fun _ => rfl) (fun _ => sw_true rfl rfl rfl (by decide +kernel)) (pi_lst hX.K (pd_var 6 hX.hN)) (fun _ => blkOk_by (sc := defScope s__law_row) (by decide +kernel)) (pg_name 11 (hX.blk _).hN hX.nd) pts_nil pd_int)) (pb_one (ps_if (pt_cmp (c_lt) (pd_var 5 hX.hN) pd_int) (pb_cons (ps_set 14 hX.hN hX.nd (pd_own_call hX h__law_price (pa_cons (pd_var 6 hX.hN) (pa_cons (pd_var 2 hX.hN) pa_nil)))) (pb_cons (ps_set 6 hX.hN hX.nd (pd_if (pt_cmp (c_lt) (pd_var 14 hX.hN) pd_int) (pd_lc (own := [(("_law_number" : Str), 11)]) hX.hN hX.calm hX.nd (pi_lst hX.K (pd_var 6 hX.hN)) (fun _ => blkOk_by (sc := defScope s__law_row) (by decide +kernel)) (pg_name 11 (hX.blk _).hN hX.nd) pts_nil (pd_sub pd_int (pd_var 11 (hX.blk _).hN))) (pd_var 6 hX.hN))) (pb_one (ps_set 7 hX.hN hX.nd (pd_and (pd_var 7 hX.hN) (pd_one (pd_cmp (c_ne hX.toFam) (pd_var 14 hX.hN) pd_int))))))) pb_nil))))))) (pb_one (ps_ret (pd_tup (pa_cons (pd_bt (b_tupleM hX.K) hX.mg T.z_tuple bt_tuple (pa_cons (pd_var 6 hX.hN) pa_nil)) (pa_cons (pd_var 7 hX.hN) pa_nil)))))))))) r__law_row
theorem ok__law_is_kept (T : Txt K mg) (FA : FunAt K mg "_law_is_kept" "_law_is_kept" s__law_is_kept ["_law_row_here", "_law_numbers"]) (h__law_price : Has P w K mg base 1 "_law_price" ["_law_row_here", "_law_numbers"] F_law_price) : Has P w K mg base 2 "_law_is_kept"  ["_law_row_here", "_law_numbers"] F_law_is_kept :=
  has_of (W := fun _ _ _ _ => False) FA sc__law_is_kept l__law_is_kept (wb := w__law_is_kept) (fun f cdv A oe s H E hX => (pb_one (ps_ret (pd_cmp (c_ge) (pd_own_call hX h__law_price (pa_cons (pd_ix hX.K (pd_var 0 hX.hN) pd_int) (pa_cons (pd_var 1 hX.hN) pa_nil))) (pd_bt b_int hX.mg T.z_int bt_int (pa_cons (pd_ix hX.K (pd_var 0 hX.hN) pd_int) pa_nil)))))) r__law_is_kept
theorem ok_scaled (T : Txt K mg) (FA : FunAt K mg "scaled" "scaled" s_scaled ["numbers"]) (SU : Sup P mg) (XC_InvalidPart : XC P K mg "InvalidPart" "value") (h_is_whole_list : Has P w K mg base 2 "is_whole_list" ["value"] F_is_whole_list) : HasX P w K mg base 3 "scaled"  ["numbers"] F_scaled :=
  has_ofX FA sc_scaled l_scaled (wb := w_scaled) (fun f cdv A oe s H E hX tk => (pb_cons (ps_if (pt_not (pt_val (pd_own_call hX h_is_whole_list (pa_cons (pd_var 0 hX.hN) pa_nil)))) (pb_one (ps_raiseX hX tk SU XC_InvalidPart (pd_var 0 hX.hN))) pb_nil) (pb_cons (ps_set 1 hX.hN hX.nd pd_int) (pb_cons (ps_for (fun _ => passes_of rfl) hX.calm (pi_var hX.K 0 hX.hN) (pg_name 2 hX.hN hX.nd) (pb_one (ps_set 1 hX.hN hX.nd (pd_bg b_gcd hX.mg T.g_gcd (pa_cons (pd_var 1 hX.hN) (pa_cons (pd_var 2 hX.hN) pa_nil)))))) (pb_cons (ps_if (pt_cmp (c_eq hX.toFam) (pd_var 1 hX.hN) pd_int) (pb_one (ps_ret (pd_bt (b_tupleM hX.K) hX.mg T.z_tuple bt_tuple (pa_cons (pd_var 0 hX.hN) pa_nil)))) pb_nil) (pb_one (ps_ret (pd_bt (b_tupleM hX.K) hX.mg T.z_tuple bt_tuple (pa_cons (pd_lc (own := [(("number" : Str), 2)]) hX.hN hX.calm hX.nd (pi_var hX.K 0 hX.hN) (fun _ => blkOk_by (sc := defScope s_scaled) (by decide +kernel)) (pg_name 2 (hX.blk _).hN hX.nd) pts_nil (pd_div (pd_var 2 (hX.blk _).hN) (pd_var 1 (hX.blk _).hN))) pa_nil))))))))) r_scaled
theorem ok_is_number_row (T : Txt K mg) (FA : FunAt K mg "is_number_row" "is_number_row" s_is_number_row ["many", "value"]) (h_is_list : Has P w K mg base 1 "is_list" ["value"] F_is_list) (h_is_whole_list : Has P w K mg base 2 "is_whole_list" ["value"] F_is_whole_list) : Has P w K mg base 3 "is_number_row"  ["many", "value"] F_is_number_row :=
  has_of (W := fun _ _ _ _ => False) FA sc_is_number_row l_is_number_row (wb := w_is_number_row) (fun f cdv A oe s H E hX => (pb_cons (ps_if (pw_pt (pw_or (pt_not (pt_val (pd_own_call hX h_is_list (pa_cons (pd_var 1 hX.hN) pa_nil)))) (pw_or (pt_cmp (c_ne hX.toFam) (pd_bi (b_len hX.K) hX.mg T.z_len bt_len (pa_cons (pd_var 1 hX.hN) pa_nil)) pd_int) (pw_or1 (pt_not (pt_val (pd_bi (b_isi hX.K) hX.mg T.z_isinstance bt_isinstance (pa_cons (pd_ix hX.K (pd_var 1 hX.hN) pd_int) (pa_cons (pd_ty hX.mg T.z_bool bt_bool) pa_nil))))))))) (pb_one (ps_ret pd_bl)) pb_nil) (pb_one (ps_ret (pd_and (pd_own_call hX h_is_whole_list (pa_cons (pd_ix hX.K (pd_var 1 hX.hN) pd_int) pa_nil)) (pd_one (pd_cmp (c_eq hX.toFam) (pd_bi (b_len hX.K) hX.mg T.z_len bt_len (pa_cons (pd_ix hX.K (pd_var 1 hX.hN) pd_int) pa_nil)) (pd_var 0 hX.hN)))))))) r_is_number_row
theorem ok_check_number_rows (T : Txt K mg) (FA : FunAt K mg "check_number_rows" "check_number_rows" s_check_number_rows ["many", "rows"]) (SU : Sup P mg) (XC_InvalidInteger : XC P K mg "InvalidInteger" "value") (XC_InvalidPart : XC P K mg "InvalidPart" "value") (XC_InvalidRow : XC P K mg "InvalidRow" "value") (h_is_integer : Has P w K mg base 2 "is_integer" ["value", "low", "high"] F_is_integer) (h_is_list : Has P w K mg base 1 "is_list" ["value"] F_is_list) (h_is_number_row : Has P w K mg base 3 "is_number_row" ["many", "value"] F_is_number_row) : HasX P w K mg base 4 "check_number_rows"  ["many", "rows"] F_check_number_rows :=
  has_ofX FA sc_check_number_rows l_check_number_rows (wb := w_check_number_rows) (fun f cdv A oe s H E hX tk => (pb_cons (ps_if (pt_not (pt_val (pd_own_call hX h_is_integer (pa_cons (pd_var 0 hX.hN) (pa_cons pd_int (pa_cons (pd_globI hX.mg T.c_MOST_COSTS) pa_nil)))))) (pb_one (ps_raiseX hX tk SU XC_InvalidInteger (pd_var 0 hX.hN))) pb_nil) (pb_cons (ps_if (pt_not (pt_val (pd_own_call hX h_is_list (pa_cons (pd_var 1 hX.hN) pa_nil)))) (pb_one (ps_raiseX hX tk SU XC_InvalidPart (pd_var 1 hX.hN))) pb_nil) (pb_one (ps_for (fun _ => passes_of rfl) hX.calm (pi_var hX.K 1 hX.hN) (pg_name 2 hX.hN hX.nd) (pb_one (ps_if (pt_not (pt_val (pd_own_call hX h_is_number_row (pa_cons (pd_var 0 hX.hN) (pa_cons (pd_var 2 hX.hN) pa_nil))))) (pb_one (ps_raiseX hX tk SU XC_InvalidRow (pd_var 2 hX.hN))) pb_nil))))))) r_check_number_rows
theorem ok_keeps (T : Txt K mg) (FA : FunAt K mg "keeps" "keeps" s_keeps ["numbers", "row"]) (SU : Sup P mg) (XC_InvalidPart : XC P K mg "InvalidPart" "value") (XC_InvalidRow : XC P K mg "InvalidRow" "value") (h_is_list : Has P w K mg base 1 "is_list" ["value"] F_is_list) (h_is_cost_number : Has P w K mg base 2 "is_cost_number" ["value"] F_is_cost_number) (h_is_number_row : Has P w K mg base 3 "is_number_row" ["many", "value"] F_is_number_row) (h_weighed : Has P w K mg base 1 "weighed" ["counts", "numbers"] F_weighed) : HasX P w K mg base 4 "keeps"  ["numbers", "row"] F_keeps :=
  has_ofX FA sc_keeps l_keeps (wb := w_keeps) (fun f cdv A oe s H E hX tk => (pb_cons (ps_if (pw_pt (pw_or (pt_not (pt_val (pd_own_call hX h_is_list (pa_cons (pd_var 0 hX.hN) pa_nil)))) (pw_or1 (pt_not (pt_chainD (c_le) (c_le) pd_int (pd_bi (b_len hX.K) hX.mg T.z_len bt_len (pa_cons (pd_var 0 hX.hN) pa_nil)) (pd_globI hX.mg T.c_MOST_COSTS)))))) (pb_one (ps_raiseX hX tk SU XC_InvalidPart (pd_var 0 hX.hN))) pb_nil) (pb_cons (ps_if (pt_not (pt_val (pd_bi (b_all hX.K hX.calm) hX.mg T.z_all bt_all (pa_cons (pd_lc (own := [(("number" : Str), 2)]) hX.hN hX.calm hX.nd (pi_var hX.K 0 hX.hN) (fun _ => blkOk_by (sc := defScope s_keeps) (by decide +kernel)) (pg_name 2 (hX.blk _).hN hX.nd) pts_nil (pd_own_call (hX.blk _) h_is_cost_number (pa_cons (pd_var 2 (hX.blk _).hN) pa_nil))) pa_nil)))) (pb_one (ps_raiseX hX tk SU XC_InvalidPart (pd_var 0 hX.hN))) pb_nil) (pb_cons (ps_if (pt_not (pt_val (pd_own_call hX h_is_number_row (pa_cons (pd_bi (b_len hX.K) hX.mg T.z_len bt_len (pa_cons (pd_var 0 hX.hN) pa_nil)) (pa_cons (pd_var 1 hX.hN) pa_nil))))) (pb_one (ps_raiseX hX tk SU XC_InvalidRow (pd_var 1 hX.hN))) pb_nil) (pb_one (ps_ret (pd_cmp (c_ge) (pd_own_call hX h_weighed (pa_cons (pd_ix hX.K (pd_var 1 hX.hN) pd_int) (pa_cons (pd_var 0 hX.hN) pa_nil))) (pd_if (pt_val (pd_ix hX.K (pd_var 1 hX.hN) pd_int)) pd_int pd_int)))))))) r_keeps
theorem ok_settle (T : Txt K mg) (FA : FunAt K mg "settle" "settle" s_settle ["many", "rows"]) (h_check_number_rows : HasX P w K mg base 4 "check_number_rows" ["many", "rows"] F_check_number_rows) (h_row_in_four : Has P w K mg base 2 "row_in_four" ["numbers", "strict"] F_row_in_four) (h_unit_corner : Has P w K mg base 1 "unit_corner" ["index"] F_unit_corner) (h_settled : Has P w K mg base 2 "settled" ["rows", "corner"] F_settled) (h_scaled : HasX P w K mg base 3 "scaled" ["numbers"] F_scaled) : HasXF P w K mg base 5 "settle" "settle" s_settle ["many", "rows"] F_settle :=
  has_ofXF FA sc_settle l_settle (wb := w_settle) (fun f cdv A oe s H E hX tk => (pb_cons (ps_expr (pd_own_callX hX tk h_check_number_rows (pa_cons (pd_var 0 hX.hN) (pa_cons (pd_var 1 hX.hN) pa_nil)))) (pb_cons (ps_set 2 hX.hN hX.nd (pd_add hX.K (pd_lc (own := [(("numbers" : Str), 7), (("strict" : Str), 8)]) hX.hN hX.calm hX.nd (pi_var hX.K 1 hX.hN) (fun _ => blkOk_by (sc := defScope s_settle) (by decide +kernel)) (pg_seq (hX.blk _).K (hX.blk _).calm (pgs_cons (pg_name 7 (hX.blk _).hN hX.nd) (pgs_cons (pg_name 8 (hX.blk _).hN hX.nd) pgs_nil))) pts_nil (pd_own_call (hX.blk _) h_row_in_four (pa_cons (pd_var 7 (hX.blk _).hN) (pa_cons (pd_var 8 (hX.blk _).hN) pa_nil)))) (pd_bt (b_listM hX.K) hX.mg T.z_list bt_list (pa_cons (pd_globR hX.mg T.c_UNIT_ROWS) pa_nil)))) (pb_cons (ps_unp hX.K hX.calm (pd_own_call hX h_settled (pa_cons (pd_var 2 hX.hN) (pa_cons (pd_own_call hX h_unit_corner (pa_cons (pd_bi (b_len hX.K) hX.mg T.z_len bt_len (pa_cons (pd_var 1 hX.hN) pa_nil)) pa_nil)) pa_nil))) (pgs_cons (pg_name 3 hX.hN hX.nd) (pgs_cons (pg_name 4 hX.hN hX.nd) (pgs_cons (pg_name 5 hX.hN hX.nd) pgs_nil)))) (pb_cons (ps_if (pt_cmp (c_is) (pd_var 5 hX.hN) pd_non) (pb_one (ps_ret (pd_tup (pa_cons pd_str (pa_cons (pd_own_callX hX tk h_scaled (pa_cons (pd_sl hX.K (pd_var 4 hX.hN) po_none (po_some (pd_var 0 hX.hN))) pa_nil)) pa_nil))))) pb_nil) (pb_cons (ps_set 6 hX.hN hX.nd (pd_bt (b_dictP hX.K hX.calm) hX.mg T.z_dict bt_dict (pa_cons (pd_var 5 hX.hN) pa_nil))) (pb_one (ps_ret (pd_tup (pa_cons pd_str (pa_cons (pd_own_callX hX tk h_scaled (pa_cons (pd_bt (b_tupleM hX.K) hX.mg T.z_tuple bt_tuple (pa_cons (pd_lc (own := [(("index" : Str), 9)]) hX.hN hX.calm hX.nd (pi_rg1 hX.mg T.z_range (pa_cons (pd_bi (b_len hX.K) hX.mg T.z_len bt_len (pa_cons (pd_var 1 hX.hN) pa_nil)) pa_nil)) (fun _ => blkOk_by (sc := defScope s_settle) (by decide +kernel)) (pg_name 9 (hX.blk _).hN hX.nd) pts_nil (pd_get2 (hX.blk _).toFam (pd_var 6 (hX.blk _).hN) (pd_var 9 (hX.blk _).hN) pd_int)) pa_nil)) pa_nil)) pa_nil))))))))))) r_settle
theorem ok_shows_sum (T : Txt K mg) (FA : FunAt K mg "shows_sum" "shows_sum" s_shows_sum ["many", "rows", "amounts"]) (h_check_number_rows : HasX P w K mg base 4 "check_number_rows" ["many", "rows"] F_check_number_rows) (h_is_whole : Has P w K mg base 1 "is_whole" ["value"] F_is_whole) (h_summed : Has P w K mg base 1 "summed" ["many", "rows", "amounts"] F_summed) : HasX P w K mg base 5 "shows_sum"  ["many", "rows", "amounts"] F_shows_sum :=
  has_ofX FA sc_shows_sum l_shows_sum (wb := w_shows_sum) (fun f cdv A oe s H E hX tk => (pb_cons (ps_expr (pd_own_callX hX tk h_check_number_rows (pa_cons (pd_var 0 hX.hN) (pa_cons (pd_var 1 hX.hN) pa_nil)))) (pb_cons (ps_if (pw_pt (pw_or (pt_not (pt_val (pd_bi (b_isi hX.K) hX.mg T.z_isinstance bt_isinstance (pa_cons (pd_var 2 hX.hN) (pa_cons (pd_ty hX.mg T.z_tuple bt_tuple) pa_nil))))) (pw_or1 (pt_cmp (c_ne hX.toFam) (pd_bi (b_len hX.K) hX.mg T.z_len bt_len (pa_cons (pd_var 2 hX.hN) pa_nil)) (pd_bi (b_len hX.K) hX.mg T.z_len bt_len (pa_cons (pd_var 1 hX.hN) pa_nil)))))) (pb_one (ps_ret pd_bl)) pb_nil) (pb_cons (ps_if (pt_not (pt_val (pd_bi (b_all hX.K hX.calm) hX.mg T.z_all bt_all (pa_cons (pd_lc (own := [(("amount" : Str), 5)]) hX.hN hX.calm hX.nd (pi_tp hX.K (pd_var 2 hX.hN)) (fun _ => blkOk_by (sc := defScope s_shows_sum) (by decide +kernel)) (pg_name 5 (hX.blk _).hN hX.nd) pts_nil (pd_and (pd_own_call (hX.blk _) h_is_whole (pa_cons (pd_var 5 (hX.blk _).hN) pa_nil)) (pd_one (pd_cmp (c_ge) (pd_var 5 (hX.blk _).hN) pd_int)))) pa_nil)))) (pb_one (ps_ret pd_bl)) pb_nil) (pb_cons (ps_set 3 hX.hN hX.nd (pd_own_call hX h_summed (pa_cons (pd_var 0 hX.hN) (pa_cons (pd_var 1 hX.hN) (pa_cons (pd_var 2 hX.hN) pa_nil))))) (pb_cons (ps_set 4 hX.hN hX.nd (pd_bi (b_any hX.K hX.calm) hX.mg T.z_any bt_any (pa_cons (pd_lc (own := [(("amount" : Str), 5), (("row" : Str), 6)]) hX.hN hX.calm hX.nd (pi_zipX hX.K hX.mg T.z_zip (pa_cons (pd_var 2 hX.hN) (pa_cons (pd_var 1 hX.hN) pa_nil))) (fun _ => blkOk_by (sc := defScope s_shows_sum) (by decide +kernel)) (pg_tup (hX.blk _).K (hX.blk _).calm (pgs_cons (pg_name 5 (hX.blk _).hN hX.nd) (pgs_cons (pg_name 6 (hX.blk _).hN hX.nd) pgs_nil))) pts_nil (pd_and (pd_ix (hX.blk _).K (pd_var 6 (hX.blk _).hN) pd_int) (pd_one (pd_cmp (c_gt) (pd_var 5 (hX.blk _).hN) pd_int)))) pa_nil))) (pb_one (ps_ret (pd_and (pd_cmp (c_le) (pd_bi (b_maxL hX.K hX.calm) hX.mg T.z_max bt_max (pa_cons (pd_var 3 hX.hN) pa_nil)) pd_int) (pd_one (pd_or (pd_cmp (c_lt) (pd_bi (b_minL hX.K hX.calm) hX.mg T.z_min bt_min (pa_cons (pd_var 3 hX.hN) pa_nil)) pd_int) (pd_one (pd_var 4 hX.hN))))))))))))) r_shows_sum
theorem ok__law_settled (T : Txt K mg) (FA : FunAt K mg "_law_settled" "_law_settled" s__law_settled ["_law_size", "_law_given", "_law_numbers"]) (h_settle : HasX P w K mg base 5 "settle" ["many", "rows"] F_settle) (h__law_is_kept : Has P w K mg base 2 "_law_is_kept" ["_law_row_here", "_law_numbers"] F_law_is_kept) (h__law_sum_right : Has P w K mg base 1 "_law_sum_right" ["_law_size", "_law_given", "_law_amounts"] F_law_sum_right) (h_shows_sum : HasX P w K mg base 5 "shows_sum" ["many", "rows", "amounts"] F_shows_sum) (h_keeps : HasX P w K mg base 4 "keeps" ["numbers", "row"] F_keeps) : Has P w K mg base 6 "_law_settled"  ["_law_size", "_law_given", "_law_numbers"] F_law_settled :=
  has_of (W := fun _ _ _ _ => False) FA sc__law_settled l__law_settled (wb := w__law_settled) (fun f cdv A oe s H E hX => (pb_cons (ps_set 3 hX.hN hX.nd (pd_own_callX hX nox_takes h_settle (pa_cons (pd_var 0 hX.hN) (pa_cons (pd_var 1 hX.hN) pa_nil)))) (pb_cons (ps_if (pw_pt (pw_or (pt_not (pt_val (pd_bi (b_isi hX.K) hX.mg T.z_isinstance bt_isinstance (pa_cons (pd_var 3 hX.hN) (pa_cons (pd_ty hX.mg T.z_tuple bt_tuple) pa_nil))))) (pw_or (pt_cmp (c_ne hX.toFam) (pd_bi (b_len hX.K) hX.mg T.z_len bt_len (pa_cons (pd_var 3 hX.hN) pa_nil)) pd_int) (pw_or1 (pt_cmp (c_notIn hX.K) (pd_ix hX.K (pd_var 3 hX.hN) pd_int) (pd_lst (pa_cons pd_str (pa_cons pd_str pa_nil)))))))) (pb_one (ps_ret pd_non)) pb_nil) (pb_cons (ps_if (pt_cmp (c_eq hX.toFam) (pd_ix hX.K (pd_var 3 hX.hN) pd_int) pd_str) (pb_cons (ps_setLc (i := 5) (own := [(("_law_row_here" : Str), 6)]) hX.hN hX.calm hX.nd rfl (fun _ => rfl) (fun _ => sw_true rfl rfl rfl (by decide +kernel)) (pi_lst hX.K (pd_var 1 hX.hN)) (fun _ => blkOk_by (sc := defScope s__law_settled) (by decide +kernel)) (pg_name 6 (hX.blk _).hN hX.nd) (pts_one (pt_not (pt_val (pd_own_call (hX.blk _) h__law_is_kept (pa_cons (pd_var 6 (hX.blk _).hN) (pa_cons (pd_var 2 (hX.blk _).hN) pa_nil)))))) (pd_var 6 (hX.blk _).hN)) (pb_cons (ps_if (pw_pt (pw_or (pt_cmp (c_eqNil hX.toFam) (pd_var 5 hX.hN) (pd_lst pa_nil)) (pw_or1 (pt_not (pt_val (pd_own_call hX h__law_sum_right (pa_cons (pd_var 0 hX.hN) (pa_cons (pd_var 1 hX.hN) (pa_cons (pd_ix hX.K (pd_var 3 hX.hN) pd_int) pa_nil))))))))) (pb_one (ps_ret pd_non)) pb_nil) (pb_one (ps_ret (pd_if (pt_val (pd_own_callX hX nox_takes h_shows_sum (pa_cons (pd_var 0 hX.hN) (pa_cons (pd_var 1 hX.hN) (pa_cons (pd_ix hX.K (pd_var 3 hX.hN) pd_int) pa_nil))))) pd_bl pd_non))))) pb_nil) (pb_cons (ps_set 4 hX.hN hX.nd (pd_ix hX.K (pd_var 3 hX.hN) pd_int)) (pb_cons (ps_if (pw_pt (pw_or (pt_not (pt_val (pd_bi (b_isi hX.K) hX.mg T.z_isinstance bt_isinstance (pa_cons (pd_var 4 hX.hN) (pa_cons (pd_ty hX.mg T.z_tuple bt_tuple) pa_nil))))) (pw_or1 (pt_cmp (c_ne hX.toFam) (pd_bi (b_len hX.K) hX.mg T.z_len bt_len (pa_cons (pd_var 4 hX.hN) pa_nil)) (pd_var 0 hX.hN))))) (pb_one (ps_ret pd_non)) pb_nil) (pb_cons (ps_if (pt_cmp (c_neNil hX.toFam) (pd_lc (own := [(("_law_number" : Str), 7)]) hX.hN hX.calm hX.nd (pi_tp hX.K (pd_var 4 hX.hN)) (fun _ => blkOk_by (sc := defScope s__law_settled) (by decide +kernel)) (pg_name 7 (hX.blk _).hN hX.nd) (pts_one (pw_pt (pw_or (pt_not (pt_val (pd_bi (b_isi (hX.blk _).K) (hX.blk _).mg T.z_isinstance bt_isinstance (pa_cons (pd_var 7 (hX.blk _).hN) (pa_cons (pd_ty (hX.blk _).mg T.z_int bt_int) pa_nil))))) (pw_or (pt_val (pd_bi (b_isi (hX.blk _).K) (hX.blk _).mg T.z_isinstance bt_isinstance (pa_cons (pd_var 7 (hX.blk _).hN) (pa_cons (pd_ty (hX.blk _).mg T.z_bool bt_bool) pa_nil)))) (pw_or1 (pt_cmp (c_lt) (pd_var 7 (hX.blk _).hN) pd_int)))))) pd_int) (pd_lst pa_nil)) (pb_one (ps_ret pd_non)) pb_nil) (pb_cons (ps_setLc (i := 5) (own := [(("_law_row_here" : Str), 6)]) hX.hN hX.calm hX.nd rfl (fun _ => rfl) (fun _ => sw_true rfl rfl rfl (by decide +kernel)) (pi_lst hX.K (pd_var 1 hX.hN)) (fun _ => blkOk_by (sc := defScope s__law_settled) (by decide +kernel)) (pg_name 6 (hX.blk _).hN hX.nd) (pts_one (pw_pt (pw_or (pt_not (pt_val (pd_own_call (hX.blk _) h__law_is_kept (pa_cons (pd_var 6 (hX.blk _).hN) (pa_cons (pd_var 4 (hX.blk _).hN) pa_nil))))) (pw_or1 (pt_not (pt_val (pd_own_callX (hX.blk _) nox_takes h_keeps (pa_cons (pd_var 4 (hX.blk _).hN) (pa_cons (pd_var 6 (hX.blk _).hN) pa_nil))))))))) (pd_var 6 (hX.blk _).hN)) (pb_one (ps_ret (pd_if (pt_cmp (c_eqNil hX.toFam) (pd_var 5 hX.hN) (pd_lst pa_nil)) pd_bl pd_non))))))))))) r__law_settled
theorem law_fn {fa : Addr} {fd : FuncData} (T : Txt K mg) (FA : Fun K "law" "law" s_law fa fd) (h__law_cell : Has P w K mg base 1 "_law_cell" ["_law_script", "_law_k"] F_law_cell) (h__law_box : Has P w K mg base 1 "_law_box" ["_law_cell_here"] F_law_box) (h__law_take : Has P w K mg base 1 "_law_take" ["_law_box_here", "_law_size"] F_law_take) (h__law_row : Has P w K mg base 2 "_law_row" ["_law_box_here", "_law_size", "_law_numbers", "_law_given"] F_law_row) (h__law_settled : Has P w K mg base 6 "_law_settled" ["_law_size", "_law_given", "_law_numbers"] F_law_settled) (hk_settle : HasKX P w K mg base 5 "settle" ["many", "rows"] ["rows", "many"] swap2 F_settle) (h_settle : HasX P w K mg base 5 "settle" ["many", "rows"] F_settle) (h_shows_sum : HasX P w K mg base 5 "shows_sum" ["many", "rows", "amounts"] F_shows_sum) : FnG P w K mg base CX0 7 fa fd ["_law_script"] (spD K mg (lawFn 63)) :=
  fn_ok (W := fun _ _ _ _ => False) FA sc_law l_law (wb := w_law) (fun cdv A oe s H E hX => (pb_cons (ps_for (fun _ => PassesOwn.never) hX.calm (pi_rg1 hX.mg T.z_range (pa_cons (pd_bi (b_max hX.calm) hX.mg T.z_max bt_max (pa_cons pd_int (pa_cons (pd_bi (b_min hX.calm) hX.mg T.z_min bt_min (pa_cons pd_int (pa_cons (pd_bi (b_len hX.K) hX.mg T.z_len bt_len (pa_cons (pd_var 0 hX.hN) pa_nil)) pa_nil))) pa_nil))) pa_nil)) (pg_name 1 hX.hN hX.nd) (pb_cons (ps_set 2 hX.hN hX.nd (pd_own_call hX h__law_box (pa_cons (pd_own_call hX h__law_cell (pa_cons (pd_var 0 hX.hN) (pa_cons (pd_var 1 hX.hN) pa_nil))) pa_nil))) (pb_cons (ps_set 3 hX.hN hX.nd (pd_add hX.K pd_int (pd_own_call hX h__law_take (pa_cons (pd_var 2 hX.hN) (pa_cons pd_int pa_nil))))) (pb_cons (ps_parD 4 5 hX.hN hX.calm hX.nd (pa_cons (pd_lc (own := [(("_law_place" : Str), 11)]) hX.hN hX.calm hX.nd (pi_rg1 hX.mg T.z_range (pa_cons (pd_var 3 hX.hN) pa_nil)) (fun _ => blkOk_by (sc := defScope s_law) (by decide +kernel)) (pg_name 11 (hX.blk _).hN hX.nd) pts_nil (pd_add (hX.blk _).K pd_int (pd_own_call (hX.blk _) h__law_take (pa_cons (pd_var 2 (hX.blk _).hN) (pa_cons (pd_ix (hX.blk _).K (pd_lst (pa_cons pd_int (pa_cons pd_int (pa_cons (pd_pow pd_int pd_int) pa_nil)))) (pd_own_call (hX.blk _) h__law_take (pa_cons (pd_var 2 (hX.blk _).hN) (pa_cons pd_int pa_nil)))) pa_nil))))) (pa_cons (pd_own pa_nil) pa_nil))) (pb_cons (ps_set 6 hX.hN hX.nd pd_bl) (pb_cons (ps_for (fun _ => PassesOwn.never) hX.calm (pi_rg1 hX.mg T.z_range (pa_cons (pd_add hX.K pd_int (pd_own_call hX h__law_take (pa_cons (pd_var 2 hX.hN) (pa_cons pd_int pa_nil)))) pa_nil)) (pg_name 7 hX.hN hX.nd) (pb_cons (ps_appendD hX.K (pd_var 5 hX.hN) (pa_cons (pd_own_call hX h__law_row (pa_cons (pd_var 2 hX.hN) (pa_cons (pd_var 3 hX.hN) (pa_cons (pd_var 4 hX.hN) (pa_cons (pd_var 5 hX.hN) pa_nil))))) pa_nil)) (pb_cons (ps_set 8 hX.hN hX.nd (pd_bi (b_reprMB hX) hX.mg T.z_repr bt_repr (pa_cons (pd_var 5 hX.hN) pa_nil))) (pb_cons (ps_set 9 hX.hN hX.nd (pd_lst (pa_cons (pd_own_call hX h__law_settled.lent (pa_cons (pd_var 3 hX.hN) (pa_cons (pd_var 5 hX.hN) (pa_cons (pd_var 4 hX.hN) pa_nil)))) (pa_cons (pd_own_call hX h__law_settled.lent (pa_cons (pd_var 3 hX.hN) (pa_cons (pd_var 5 hX.hN) (pa_cons (pd_var 4 hX.hN) pa_nil)))) pa_nil)))) (pb_cons (ps_set 10 hX.hN hX.nd (pd_own_callKX hX nox_takes hk_settle (pdk_cons (pd_bt (b_tupleM hX.K) hX.mg T.z_tuple bt_tuple (pa_cons (pd_lcB (own := [(("_law_row_here" : Str), 12), (("_law_strict" : Str), 13)]) (i := 5) hX.hN hX.calm hX.nd hX.K (fun _ => blkOk_by (sc := defScope s_law) (by decide +kernel)) (pg_tup (hX.blk _).K (hX.blk _).calm (pgs_cons (pg_name 12 (hX.blk _).hN hX.nd) (pgs_cons (pg_name 13 (hX.blk _).hN hX.nd) pgs_nil))) pts_nil (pd_lst (pa_cons (pd_bt (b_listM (hX.blk _).K) (hX.blk _).mg T.z_list bt_list (pa_cons (pd_var 12 (hX.blk _).hN) pa_nil)) (pa_cons (pd_var 13 (hX.blk _).hN) pa_nil)))) pa_nil)) (pdk_cons (pd_var 3 hX.hN) pdk_nil)))) (pb_cons (ps_if (pw_pt (pw_or (pt_cmp (c_is) (pd_ix hX.K (pd_var 9 hX.hN) pd_int) pd_non) (pw_or (pt_cmp (c_ne hX.toFam) (pd_ix hX.K (pd_var 9 hX.hN) pd_int) (pd_ix hX.K (pd_var 9 hX.hN) pd_int)) (pw_or (pt_cmp (c_ne hX.toFam) (pd_cmp (c_eq hX.toFam) (pd_ix hX.K (pd_var 10 hX.hN) pd_int) pd_str) (pd_ix hX.K (pd_var 9 hX.hN) pd_int)) (pw_or1 (pt_cmp (c_ne hX.toFam) (pd_bi (b_reprMB hX) hX.mg T.z_repr bt_repr (pa_cons (pd_var 5 hX.hN) pa_nil)) (pd_var 8 hX.hN))))))) (pb_one (ps_ret pd_bl)) pb_nil) (pb_cons (ps_if (pw_pt (pw_and (pt_val (pd_ix hX.K (pd_var 9 hX.hN) pd_int)) (pw_and1 (pt_not (pt_val (pd_var 6 hX.hN)))))) (pb_one (ps_ret pd_bl)) pb_nil) (pb_one (ps_set 6 hX.hN hX.nd (pd_ix hX.K (pd_var 9 hX.hN) pd_int)))))))))) (pb_one (ps_if (pw_pt (pw_or (pt_cmp (c_ne hX.toFam) (pd_ix hX.K (pd_own_callX hX nox_takes h_settle (pa_cons (pd_var 3 hX.hN) (pa_cons (pd_lst pa_nil) pa_nil))) pd_int) pd_str) (pw_or1 (pt_val (pd_own_callX hX nox_takes h_shows_sum (pa_cons (pd_var 3 hX.hN) (pa_cons (pd_lst pa_nil) (pa_cons (pd_tup pa_nil) pa_nil)))))))) (pb_one (ps_ret pd_bl)) pb_nil)))))))) (pb_one (ps_ret pd_bl)))) r_law
end
theorem all_mk {P : Program} {w : World} {K : Fg} {mg : Str → Option Value} {h : Heap} {fa : Addr} (X : K.In h) (G : h.Ns mainGlobals mg) (hfa : mg "law" = some (.ref fa))
    {a_in_four : Addr} {oc_in_four kV_in_four dc_in_four pm_in_four cd_in_four ct_in_four : Value} {od_in_four an_in_four : Option Addr} {sl_in_four : Array (Option Value)}
    {a_unit_corner : Addr} {oc_unit_corner kV_unit_corner dc_unit_corner pm_unit_corner cd_unit_corner ct_unit_corner : Value} {od_unit_corner an_unit_corner : Option Addr} {sl_unit_corner : Array (Option Value)}
    {a_point_of : Addr} {oc_point_of kV_point_of dc_point_of pm_point_of cd_point_of ct_point_of : Value} {od_point_of an_point_of : Option Addr} {sl_point_of : Array (Option Value)}
    {a_first_missed : Addr} {oc_first_missed kV_first_missed dc_first_missed pm_first_missed cd_first_missed ct_first_missed : Value} {od_first_missed an_first_missed : Option Addr} {sl_first_missed : Array (Option Value)}
    {a_weights_of : Addr} {oc_weights_of kV_weights_of dc_weights_of pm_weights_of cd_weights_of ct_weights_of : Value} {od_weights_of an_weights_of : Option Addr} {sl_weights_of : Array (Option Value)}
    {a_leaving_place : Addr} {oc_leaving_place kV_leaving_place dc_leaving_place pm_leaving_place cd_leaving_place ct_leaving_place : Value} {od_leaving_place an_leaving_place : Option Addr} {sl_leaving_place : Array (Option Value)}
    {a_exchanged : Addr} {oc_exchanged kV_exchanged dc_exchanged pm_exchanged cd_exchanged ct_exchanged : Value} {od_exchanged an_exchanged : Option Addr} {sl_exchanged : Array (Option Value)}
    {a_is_list : Addr} {oc_is_list kV_is_list dc_is_list pm_is_list cd_is_list ct_is_list : Value} {od_is_list an_is_list : Option Addr} {sl_is_list : Array (Option Value)}
    {a_is_whole : Addr} {oc_is_whole kV_is_whole dc_is_whole pm_is_whole cd_is_whole ct_is_whole : Value} {od_is_whole an_is_whole : Option Addr} {sl_is_whole : Array (Option Value)}
    {a_weighed : Addr} {oc_weighed kV_weighed dc_weighed pm_weighed cd_weighed ct_weighed : Value} {od_weighed an_weighed : Option Addr} {sl_weighed : Array (Option Value)}
    {a_summed : Addr} {oc_summed kV_summed dc_summed pm_summed cd_summed ct_summed : Value} {od_summed an_summed : Option Addr} {sl_summed : Array (Option Value)}
    {a__law_cell : Addr} {oc__law_cell kV__law_cell dc__law_cell pm__law_cell cd__law_cell ct__law_cell : Value} {od__law_cell an__law_cell : Option Addr} {sl__law_cell : Array (Option Value)}
    {a__law_box : Addr} {oc__law_box kV__law_box dc__law_box pm__law_box cd__law_box ct__law_box : Value} {od__law_box an__law_box : Option Addr} {sl__law_box : Array (Option Value)}
    {a__law_take : Addr} {oc__law_take kV__law_take dc__law_take pm__law_take cd__law_take ct__law_take : Value} {od__law_take an__law_take : Option Addr} {sl__law_take : Array (Option Value)}
    {a__law_price : Addr} {oc__law_price kV__law_price dc__law_price pm__law_price cd__law_price ct__law_price : Value} {od__law_price an__law_price : Option Addr} {sl__law_price : Array (Option Value)}
    {a__law_sum_right : Addr} {oc__law_sum_right kV__law_sum_right dc__law_sum_right pm__law_sum_right cd__law_sum_right ct__law_sum_right : Value} {od__law_sum_right an__law_sum_right : Option Addr} {sl__law_sum_right : Array (Option Value)}
    {a_row_in_four : Addr} {oc_row_in_four kV_row_in_four dc_row_in_four pm_row_in_four cd_row_in_four ct_row_in_four : Value} {od_row_in_four an_row_in_four : Option Addr} {sl_row_in_four : Array (Option Value)}
    {a_settled : Addr} {oc_settled kV_settled dc_settled pm_settled cd_settled ct_settled : Value} {od_settled an_settled : Option Addr} {sl_settled : Array (Option Value)}
    {a_is_whole_list : Addr} {oc_is_whole_list kV_is_whole_list dc_is_whole_list pm_is_whole_list cd_is_whole_list ct_is_whole_list : Value} {od_is_whole_list an_is_whole_list : Option Addr} {sl_is_whole_list : Array (Option Value)}
    {a_is_integer : Addr} {oc_is_integer kV_is_integer dc_is_integer pm_is_integer cd_is_integer ct_is_integer : Value} {od_is_integer an_is_integer : Option Addr} {sl_is_integer : Array (Option Value)}
    {a_is_cost_number : Addr} {oc_is_cost_number kV_is_cost_number dc_is_cost_number pm_is_cost_number cd_is_cost_number ct_is_cost_number : Value} {od_is_cost_number an_is_cost_number : Option Addr} {sl_is_cost_number : Array (Option Value)}
    {a__law_row : Addr} {oc__law_row kV__law_row dc__law_row pm__law_row cd__law_row ct__law_row : Value} {od__law_row an__law_row : Option Addr} {sl__law_row : Array (Option Value)}
    {a__law_is_kept : Addr} {oc__law_is_kept kV__law_is_kept dc__law_is_kept pm__law_is_kept cd__law_is_kept ct__law_is_kept : Value} {od__law_is_kept an__law_is_kept : Option Addr} {sl__law_is_kept : Array (Option Value)}
    {a_scaled : Addr} {oc_scaled kV_scaled dc_scaled pm_scaled cd_scaled ct_scaled : Value} {od_scaled an_scaled : Option Addr} {sl_scaled : Array (Option Value)}
    {a_is_number_row : Addr} {oc_is_number_row kV_is_number_row dc_is_number_row pm_is_number_row cd_is_number_row ct_is_number_row : Value} {od_is_number_row an_is_number_row : Option Addr} {sl_is_number_row : Array (Option Value)}
    {a_check_number_rows : Addr} {oc_check_number_rows kV_check_number_rows dc_check_number_rows pm_check_number_rows cd_check_number_rows ct_check_number_rows : Value} {od_check_number_rows an_check_number_rows : Option Addr} {sl_check_number_rows : Array (Option Value)}
    {a_keeps : Addr} {oc_keeps kV_keeps dc_keeps pm_keeps cd_keeps ct_keeps : Value} {od_keeps an_keeps : Option Addr} {sl_keeps : Array (Option Value)}
    {a_settle : Addr} {oc_settle kV_settle dc_settle pm_settle cd_settle ct_settle : Value} {od_settle an_settle : Option Addr} {sl_settle : Array (Option Value)}
    {a_shows_sum : Addr} {oc_shows_sum kV_shows_sum dc_shows_sum pm_shows_sum cd_shows_sum ct_shows_sum : Value} {od_shows_sum an_shows_sum : Option Addr} {sl_shows_sum : Array (Option Value)}
    {a__law_settled : Addr} {oc__law_settled kV__law_settled dc__law_settled pm__law_settled cd__law_settled ct__law_settled : Value} {od__law_settled an__law_settled : Option Addr} {sl__law_settled : Array (Option Value)}
    {a_law : Addr} {oc_law kV_law dc_law pm_law cd_law ct_law : Value} {od_law an_law : Option Addr} {sl_law : Array (Option Value)}
    {C_InvalidInteger f_InvalidInteger N_InvalidInteger cda_InvalidInteger cc_InvalidInteger : Addr} {nm_InvalidInteger q_InvalidInteger qual_InvalidInteger msg_InvalidInteger file_InvalidInteger : Str} {bs_InvalidInteger bm_InvalidInteger sub_InvalidInteger : List Value} {sn_InvalidInteger : List Str} {ab_InvalidInteger : Bool} {col_InvalidInteger : Option Bool} {dd_InvalidInteger od_InvalidInteger an_InvalidInteger cld_InvalidInteger cdd_InvalidInteger : Option Addr} {k0_InvalidInteger k1_InvalidInteger k2_InvalidInteger k3_InvalidInteger k5_InvalidInteger : Option Value} {oc_InvalidInteger doc_InvalidInteger pm_InvalidInteger ct_InvalidInteger cl_InvalidInteger ccl_InvalidInteger : Value} {osl_InvalidInteger csl_InvalidInteger ccs_InvalidInteger : Array (Option Value)} {vs_InvalidInteger : Array Value} {tf_InvalidInteger : Tok} {j_InvalidInteger : Nat} {p1_InvalidInteger p2_InvalidInteger d1_InvalidInteger d2_InvalidInteger d3_InvalidInteger d4_InvalidInteger d5_InvalidInteger d6_InvalidInteger q1_InvalidInteger q2_InvalidInteger q3_InvalidInteger q4_InvalidInteger : Pos}
    {C_InvalidPart f_InvalidPart N_InvalidPart cda_InvalidPart cc_InvalidPart : Addr} {nm_InvalidPart q_InvalidPart qual_InvalidPart msg_InvalidPart file_InvalidPart : Str} {bs_InvalidPart bm_InvalidPart sub_InvalidPart : List Value} {sn_InvalidPart : List Str} {ab_InvalidPart : Bool} {col_InvalidPart : Option Bool} {dd_InvalidPart od_InvalidPart an_InvalidPart cld_InvalidPart cdd_InvalidPart : Option Addr} {k0_InvalidPart k1_InvalidPart k2_InvalidPart k3_InvalidPart k5_InvalidPart : Option Value} {oc_InvalidPart doc_InvalidPart pm_InvalidPart ct_InvalidPart cl_InvalidPart ccl_InvalidPart : Value} {osl_InvalidPart csl_InvalidPart ccs_InvalidPart : Array (Option Value)} {vs_InvalidPart : Array Value} {tf_InvalidPart : Tok} {j_InvalidPart : Nat} {p1_InvalidPart p2_InvalidPart d1_InvalidPart d2_InvalidPart d3_InvalidPart d4_InvalidPart d5_InvalidPart d6_InvalidPart q1_InvalidPart q2_InvalidPart q3_InvalidPart q4_InvalidPart : Pos}
    {C_InvalidRow f_InvalidRow N_InvalidRow cda_InvalidRow cc_InvalidRow : Addr} {nm_InvalidRow q_InvalidRow qual_InvalidRow msg_InvalidRow file_InvalidRow : Str} {bs_InvalidRow bm_InvalidRow sub_InvalidRow : List Value} {sn_InvalidRow : List Str} {ab_InvalidRow : Bool} {col_InvalidRow : Option Bool} {dd_InvalidRow od_InvalidRow an_InvalidRow cld_InvalidRow cdd_InvalidRow : Option Addr} {k0_InvalidRow k1_InvalidRow k2_InvalidRow k3_InvalidRow k5_InvalidRow : Option Value} {oc_InvalidRow doc_InvalidRow pm_InvalidRow ct_InvalidRow cl_InvalidRow ccl_InvalidRow : Value} {osl_InvalidRow csl_InvalidRow ccs_InvalidRow : Array (Option Value)} {vs_InvalidRow : Array Value} {tf_InvalidRow : Tok} {j_InvalidRow : Nat} {p1_InvalidRow p2_InvalidRow d1_InvalidRow d2_InvalidRow d3_InvalidRow d4_InvalidRow d5_InvalidRow d6_InvalidRow q1_InvalidRow q2_InvalidRow q3_InvalidRow q4_InvalidRow : Pos}
    {a_UNIT_COLUMNS : Addr} {od_UNIT_COLUMNS : Option Addr} {sl_UNIT_COLUMNS : Array (Option Value)} {n_UNIT_COLUMNS : Nat}
    {a0_UNIT_COLUMNS : Addr} {od0_UNIT_COLUMNS : Option Addr} {sl0_UNIT_COLUMNS : Array (Option Value)} {n0_UNIT_COLUMNS : Nat} {t0_0_UNIT_COLUMNS t0_1_UNIT_COLUMNS t0_2_UNIT_COLUMNS t0_3_UNIT_COLUMNS : Tok}
    {a1_UNIT_COLUMNS : Addr} {od1_UNIT_COLUMNS : Option Addr} {sl1_UNIT_COLUMNS : Array (Option Value)} {n1_UNIT_COLUMNS : Nat} {t1_0_UNIT_COLUMNS t1_1_UNIT_COLUMNS t1_2_UNIT_COLUMNS t1_3_UNIT_COLUMNS : Tok}
    {a2_UNIT_COLUMNS : Addr} {od2_UNIT_COLUMNS : Option Addr} {sl2_UNIT_COLUMNS : Array (Option Value)} {n2_UNIT_COLUMNS : Nat} {t2_0_UNIT_COLUMNS t2_1_UNIT_COLUMNS t2_2_UNIT_COLUMNS t2_3_UNIT_COLUMNS : Tok}
    {a3_UNIT_COLUMNS : Addr} {od3_UNIT_COLUMNS : Option Addr} {sl3_UNIT_COLUMNS : Array (Option Value)} {n3_UNIT_COLUMNS : Nat} {t3_0_UNIT_COLUMNS t3_1_UNIT_COLUMNS t3_2_UNIT_COLUMNS t3_3_UNIT_COLUMNS : Tok}
    {a_UNIT_ROWS : Addr} {od_UNIT_ROWS : Option Addr} {sl_UNIT_ROWS : Array (Option Value)} {n_UNIT_ROWS : Nat}
    {a0_UNIT_ROWS : Addr} {od0_UNIT_ROWS : Option Addr} {sl0_UNIT_ROWS : Array (Option Value)} {n0_UNIT_ROWS : Nat} {t0_0_UNIT_ROWS t0_1_UNIT_ROWS t0_2_UNIT_ROWS t0_3_UNIT_ROWS t0_4_UNIT_ROWS : Tok}
    {a1_UNIT_ROWS : Addr} {od1_UNIT_ROWS : Option Addr} {sl1_UNIT_ROWS : Array (Option Value)} {n1_UNIT_ROWS : Nat} {t1_0_UNIT_ROWS t1_1_UNIT_ROWS t1_2_UNIT_ROWS t1_3_UNIT_ROWS t1_4_UNIT_ROWS : Tok}
    {a2_UNIT_ROWS : Addr} {od2_UNIT_ROWS : Option Addr} {sl2_UNIT_ROWS : Array (Option Value)} {n2_UNIT_ROWS : Nat} {t2_0_UNIT_ROWS t2_1_UNIT_ROWS t2_2_UNIT_ROWS t2_3_UNIT_ROWS t2_4_UNIT_ROWS : Tok}
    {a3_UNIT_ROWS : Addr} {od3_UNIT_ROWS : Option Addr} {sl3_UNIT_ROWS : Array (Option Value)} {n3_UNIT_ROWS : Nat} {t3_0_UNIT_ROWS t3_1_UNIT_ROWS t3_2_UNIT_ROWS t3_3_UNIT_ROWS t3_4_UNIT_ROWS : Tok}
    (x_in_four : PySem.W.nsIn K mainGlobals "in_four" = some (some (.ref a_in_four))) (l_in_four : K.lookup a_in_four = some ⟨oc_in_four, od_in_four, .func (PySem.W.fnOf "in_four" "in_four" (defArgs s_in_four) (defBody s_in_four) (defScope s_in_four) .none kV_in_four dc_in_four pm_in_four an_in_four cd_in_four ct_in_four), sl_in_four⟩) (c_in_four : PySem.W.codeIn K cd_in_four "in_four" = true) (k_in_four : PySem.W.keepIn K (.ref a_in_four) = true)
    (x_unit_corner : PySem.W.nsIn K mainGlobals "unit_corner" = some (some (.ref a_unit_corner))) (l_unit_corner : K.lookup a_unit_corner = some ⟨oc_unit_corner, od_unit_corner, .func (PySem.W.fnOf "unit_corner" "unit_corner" (defArgs s_unit_corner) (defBody s_unit_corner) (defScope s_unit_corner) .none kV_unit_corner dc_unit_corner pm_unit_corner an_unit_corner cd_unit_corner ct_unit_corner), sl_unit_corner⟩) (c_unit_corner : PySem.W.codeIn K cd_unit_corner "unit_corner" = true) (k_unit_corner : PySem.W.keepIn K (.ref a_unit_corner) = true)
    (x_point_of : PySem.W.nsIn K mainGlobals "point_of" = some (some (.ref a_point_of))) (l_point_of : K.lookup a_point_of = some ⟨oc_point_of, od_point_of, .func (PySem.W.fnOf "point_of" "point_of" (defArgs s_point_of) (defBody s_point_of) (defScope s_point_of) .none kV_point_of dc_point_of pm_point_of an_point_of cd_point_of ct_point_of), sl_point_of⟩) (c_point_of : PySem.W.codeIn K cd_point_of "point_of" = true) (k_point_of : PySem.W.keepIn K (.ref a_point_of) = true)
    (x_first_missed : PySem.W.nsIn K mainGlobals "first_missed" = some (some (.ref a_first_missed))) (l_first_missed : K.lookup a_first_missed = some ⟨oc_first_missed, od_first_missed, .func (PySem.W.fnOf "first_missed" "first_missed" (defArgs s_first_missed) (defBody s_first_missed) (defScope s_first_missed) .none kV_first_missed dc_first_missed pm_first_missed an_first_missed cd_first_missed ct_first_missed), sl_first_missed⟩) (c_first_missed : PySem.W.codeIn K cd_first_missed "first_missed" = true) (k_first_missed : PySem.W.keepIn K (.ref a_first_missed) = true)
    (x_weights_of : PySem.W.nsIn K mainGlobals "weights_of" = some (some (.ref a_weights_of))) (l_weights_of : K.lookup a_weights_of = some ⟨oc_weights_of, od_weights_of, .func (PySem.W.fnOf "weights_of" "weights_of" (defArgs s_weights_of) (defBody s_weights_of) (defScope s_weights_of) .none kV_weights_of dc_weights_of pm_weights_of an_weights_of cd_weights_of ct_weights_of), sl_weights_of⟩) (c_weights_of : PySem.W.codeIn K cd_weights_of "weights_of" = true) (k_weights_of : PySem.W.keepIn K (.ref a_weights_of) = true)
    (x_leaving_place : PySem.W.nsIn K mainGlobals "leaving_place" = some (some (.ref a_leaving_place))) (l_leaving_place : K.lookup a_leaving_place = some ⟨oc_leaving_place, od_leaving_place, .func (PySem.W.fnOf "leaving_place" "leaving_place" (defArgs s_leaving_place) (defBody s_leaving_place) (defScope s_leaving_place) .none kV_leaving_place dc_leaving_place pm_leaving_place an_leaving_place cd_leaving_place ct_leaving_place), sl_leaving_place⟩) (c_leaving_place : PySem.W.codeIn K cd_leaving_place "leaving_place" = true) (k_leaving_place : PySem.W.keepIn K (.ref a_leaving_place) = true)
    (x_exchanged : PySem.W.nsIn K mainGlobals "exchanged" = some (some (.ref a_exchanged))) (l_exchanged : K.lookup a_exchanged = some ⟨oc_exchanged, od_exchanged, .func (PySem.W.fnOf "exchanged" "exchanged" (defArgs s_exchanged) (defBody s_exchanged) (defScope s_exchanged) .none kV_exchanged dc_exchanged pm_exchanged an_exchanged cd_exchanged ct_exchanged), sl_exchanged⟩) (c_exchanged : PySem.W.codeIn K cd_exchanged "exchanged" = true) (k_exchanged : PySem.W.keepIn K (.ref a_exchanged) = true)
    (x_is_list : PySem.W.nsIn K mainGlobals "is_list" = some (some (.ref a_is_list))) (l_is_list : K.lookup a_is_list = some ⟨oc_is_list, od_is_list, .func (PySem.W.fnOf "is_list" "is_list" (defArgs s_is_list) (defBody s_is_list) (defScope s_is_list) .none kV_is_list dc_is_list pm_is_list an_is_list cd_is_list ct_is_list), sl_is_list⟩) (c_is_list : PySem.W.codeIn K cd_is_list "is_list" = true) (k_is_list : PySem.W.keepIn K (.ref a_is_list) = true)
    (x_is_whole : PySem.W.nsIn K mainGlobals "is_whole" = some (some (.ref a_is_whole))) (l_is_whole : K.lookup a_is_whole = some ⟨oc_is_whole, od_is_whole, .func (PySem.W.fnOf "is_whole" "is_whole" (defArgs s_is_whole) (defBody s_is_whole) (defScope s_is_whole) .none kV_is_whole dc_is_whole pm_is_whole an_is_whole cd_is_whole ct_is_whole), sl_is_whole⟩) (c_is_whole : PySem.W.codeIn K cd_is_whole "is_whole" = true) (k_is_whole : PySem.W.keepIn K (.ref a_is_whole) = true)
    (x_weighed : PySem.W.nsIn K mainGlobals "weighed" = some (some (.ref a_weighed))) (l_weighed : K.lookup a_weighed = some ⟨oc_weighed, od_weighed, .func (PySem.W.fnOf "weighed" "weighed" (defArgs s_weighed) (defBody s_weighed) (defScope s_weighed) .none kV_weighed dc_weighed pm_weighed an_weighed cd_weighed ct_weighed), sl_weighed⟩) (c_weighed : PySem.W.codeIn K cd_weighed "weighed" = true) (k_weighed : PySem.W.keepIn K (.ref a_weighed) = true)
    (x_summed : PySem.W.nsIn K mainGlobals "summed" = some (some (.ref a_summed))) (l_summed : K.lookup a_summed = some ⟨oc_summed, od_summed, .func (PySem.W.fnOf "summed" "summed" (defArgs s_summed) (defBody s_summed) (defScope s_summed) .none kV_summed dc_summed pm_summed an_summed cd_summed ct_summed), sl_summed⟩) (c_summed : PySem.W.codeIn K cd_summed "summed" = true) (k_summed : PySem.W.keepIn K (.ref a_summed) = true)
    (x__law_cell : PySem.W.nsIn K mainGlobals "_law_cell" = some (some (.ref a__law_cell))) (l__law_cell : K.lookup a__law_cell = some ⟨oc__law_cell, od__law_cell, .func (PySem.W.fnOf "_law_cell" "_law_cell" (defArgs s__law_cell) (defBody s__law_cell) (defScope s__law_cell) .none kV__law_cell dc__law_cell pm__law_cell an__law_cell cd__law_cell ct__law_cell), sl__law_cell⟩) (c__law_cell : PySem.W.codeIn K cd__law_cell "_law_cell" = true) (k__law_cell : PySem.W.keepIn K (.ref a__law_cell) = true)
    (x__law_box : PySem.W.nsIn K mainGlobals "_law_box" = some (some (.ref a__law_box))) (l__law_box : K.lookup a__law_box = some ⟨oc__law_box, od__law_box, .func (PySem.W.fnOf "_law_box" "_law_box" (defArgs s__law_box) (defBody s__law_box) (defScope s__law_box) .none kV__law_box dc__law_box pm__law_box an__law_box cd__law_box ct__law_box), sl__law_box⟩) (c__law_box : PySem.W.codeIn K cd__law_box "_law_box" = true) (k__law_box : PySem.W.keepIn K (.ref a__law_box) = true)
    (x__law_take : PySem.W.nsIn K mainGlobals "_law_take" = some (some (.ref a__law_take))) (l__law_take : K.lookup a__law_take = some ⟨oc__law_take, od__law_take, .func (PySem.W.fnOf "_law_take" "_law_take" (defArgs s__law_take) (defBody s__law_take) (defScope s__law_take) .none kV__law_take dc__law_take pm__law_take an__law_take cd__law_take ct__law_take), sl__law_take⟩) (c__law_take : PySem.W.codeIn K cd__law_take "_law_take" = true) (k__law_take : PySem.W.keepIn K (.ref a__law_take) = true)
    (x__law_price : PySem.W.nsIn K mainGlobals "_law_price" = some (some (.ref a__law_price))) (l__law_price : K.lookup a__law_price = some ⟨oc__law_price, od__law_price, .func (PySem.W.fnOf "_law_price" "_law_price" (defArgs s__law_price) (defBody s__law_price) (defScope s__law_price) .none kV__law_price dc__law_price pm__law_price an__law_price cd__law_price ct__law_price), sl__law_price⟩) (c__law_price : PySem.W.codeIn K cd__law_price "_law_price" = true) (k__law_price : PySem.W.keepIn K (.ref a__law_price) = true)
    (x__law_sum_right : PySem.W.nsIn K mainGlobals "_law_sum_right" = some (some (.ref a__law_sum_right))) (l__law_sum_right : K.lookup a__law_sum_right = some ⟨oc__law_sum_right, od__law_sum_right, .func (PySem.W.fnOf "_law_sum_right" "_law_sum_right" (defArgs s__law_sum_right) (defBody s__law_sum_right) (defScope s__law_sum_right) .none kV__law_sum_right dc__law_sum_right pm__law_sum_right an__law_sum_right cd__law_sum_right ct__law_sum_right), sl__law_sum_right⟩) (c__law_sum_right : PySem.W.codeIn K cd__law_sum_right "_law_sum_right" = true) (k__law_sum_right : PySem.W.keepIn K (.ref a__law_sum_right) = true)
    (x_row_in_four : PySem.W.nsIn K mainGlobals "row_in_four" = some (some (.ref a_row_in_four))) (l_row_in_four : K.lookup a_row_in_four = some ⟨oc_row_in_four, od_row_in_four, .func (PySem.W.fnOf "row_in_four" "row_in_four" (defArgs s_row_in_four) (defBody s_row_in_four) (defScope s_row_in_four) .none kV_row_in_four dc_row_in_four pm_row_in_four an_row_in_four cd_row_in_four ct_row_in_four), sl_row_in_four⟩) (c_row_in_four : PySem.W.codeIn K cd_row_in_four "row_in_four" = true) (k_row_in_four : PySem.W.keepIn K (.ref a_row_in_four) = true)
    (x_settled : PySem.W.nsIn K mainGlobals "settled" = some (some (.ref a_settled))) (l_settled : K.lookup a_settled = some ⟨oc_settled, od_settled, .func (PySem.W.fnOf "settled" "settled" (defArgs s_settled) (defBody s_settled) (defScope s_settled) .none kV_settled dc_settled pm_settled an_settled cd_settled ct_settled), sl_settled⟩) (c_settled : PySem.W.codeIn K cd_settled "settled" = true) (k_settled : PySem.W.keepIn K (.ref a_settled) = true)
    (x_is_whole_list : PySem.W.nsIn K mainGlobals "is_whole_list" = some (some (.ref a_is_whole_list))) (l_is_whole_list : K.lookup a_is_whole_list = some ⟨oc_is_whole_list, od_is_whole_list, .func (PySem.W.fnOf "is_whole_list" "is_whole_list" (defArgs s_is_whole_list) (defBody s_is_whole_list) (defScope s_is_whole_list) .none kV_is_whole_list dc_is_whole_list pm_is_whole_list an_is_whole_list cd_is_whole_list ct_is_whole_list), sl_is_whole_list⟩) (c_is_whole_list : PySem.W.codeIn K cd_is_whole_list "is_whole_list" = true) (k_is_whole_list : PySem.W.keepIn K (.ref a_is_whole_list) = true)
    (x_is_integer : PySem.W.nsIn K mainGlobals "is_integer" = some (some (.ref a_is_integer))) (l_is_integer : K.lookup a_is_integer = some ⟨oc_is_integer, od_is_integer, .func (PySem.W.fnOf "is_integer" "is_integer" (defArgs s_is_integer) (defBody s_is_integer) (defScope s_is_integer) .none kV_is_integer dc_is_integer pm_is_integer an_is_integer cd_is_integer ct_is_integer), sl_is_integer⟩) (c_is_integer : PySem.W.codeIn K cd_is_integer "is_integer" = true) (k_is_integer : PySem.W.keepIn K (.ref a_is_integer) = true)
    (x_is_cost_number : PySem.W.nsIn K mainGlobals "is_cost_number" = some (some (.ref a_is_cost_number))) (l_is_cost_number : K.lookup a_is_cost_number = some ⟨oc_is_cost_number, od_is_cost_number, .func (PySem.W.fnOf "is_cost_number" "is_cost_number" (defArgs s_is_cost_number) (defBody s_is_cost_number) (defScope s_is_cost_number) .none kV_is_cost_number dc_is_cost_number pm_is_cost_number an_is_cost_number cd_is_cost_number ct_is_cost_number), sl_is_cost_number⟩) (c_is_cost_number : PySem.W.codeIn K cd_is_cost_number "is_cost_number" = true) (k_is_cost_number : PySem.W.keepIn K (.ref a_is_cost_number) = true)
    (x__law_row : PySem.W.nsIn K mainGlobals "_law_row" = some (some (.ref a__law_row))) (l__law_row : K.lookup a__law_row = some ⟨oc__law_row, od__law_row, .func (PySem.W.fnOf "_law_row" "_law_row" (defArgs s__law_row) (defBody s__law_row) (defScope s__law_row) .none kV__law_row dc__law_row pm__law_row an__law_row cd__law_row ct__law_row), sl__law_row⟩) (c__law_row : PySem.W.codeIn K cd__law_row "_law_row" = true) (k__law_row : PySem.W.keepIn K (.ref a__law_row) = true)
    (x__law_is_kept : PySem.W.nsIn K mainGlobals "_law_is_kept" = some (some (.ref a__law_is_kept))) (l__law_is_kept : K.lookup a__law_is_kept = some ⟨oc__law_is_kept, od__law_is_kept, .func (PySem.W.fnOf "_law_is_kept" "_law_is_kept" (defArgs s__law_is_kept) (defBody s__law_is_kept) (defScope s__law_is_kept) .none kV__law_is_kept dc__law_is_kept pm__law_is_kept an__law_is_kept cd__law_is_kept ct__law_is_kept), sl__law_is_kept⟩) (c__law_is_kept : PySem.W.codeIn K cd__law_is_kept "_law_is_kept" = true) (k__law_is_kept : PySem.W.keepIn K (.ref a__law_is_kept) = true)
    (x_scaled : PySem.W.nsIn K mainGlobals "scaled" = some (some (.ref a_scaled))) (l_scaled : K.lookup a_scaled = some ⟨oc_scaled, od_scaled, .func (PySem.W.fnOf "scaled" "scaled" (defArgs s_scaled) (defBody s_scaled) (defScope s_scaled) .none kV_scaled dc_scaled pm_scaled an_scaled cd_scaled ct_scaled), sl_scaled⟩) (c_scaled : PySem.W.codeIn K cd_scaled "scaled" = true) (k_scaled : PySem.W.keepIn K (.ref a_scaled) = true)
    (x_is_number_row : PySem.W.nsIn K mainGlobals "is_number_row" = some (some (.ref a_is_number_row))) (l_is_number_row : K.lookup a_is_number_row = some ⟨oc_is_number_row, od_is_number_row, .func (PySem.W.fnOf "is_number_row" "is_number_row" (defArgs s_is_number_row) (defBody s_is_number_row) (defScope s_is_number_row) .none kV_is_number_row dc_is_number_row pm_is_number_row an_is_number_row cd_is_number_row ct_is_number_row), sl_is_number_row⟩) (c_is_number_row : PySem.W.codeIn K cd_is_number_row "is_number_row" = true) (k_is_number_row : PySem.W.keepIn K (.ref a_is_number_row) = true)
    (x_check_number_rows : PySem.W.nsIn K mainGlobals "check_number_rows" = some (some (.ref a_check_number_rows))) (l_check_number_rows : K.lookup a_check_number_rows = some ⟨oc_check_number_rows, od_check_number_rows, .func (PySem.W.fnOf "check_number_rows" "check_number_rows" (defArgs s_check_number_rows) (defBody s_check_number_rows) (defScope s_check_number_rows) .none kV_check_number_rows dc_check_number_rows pm_check_number_rows an_check_number_rows cd_check_number_rows ct_check_number_rows), sl_check_number_rows⟩) (c_check_number_rows : PySem.W.codeIn K cd_check_number_rows "check_number_rows" = true) (k_check_number_rows : PySem.W.keepIn K (.ref a_check_number_rows) = true)
    (x_keeps : PySem.W.nsIn K mainGlobals "keeps" = some (some (.ref a_keeps))) (l_keeps : K.lookup a_keeps = some ⟨oc_keeps, od_keeps, .func (PySem.W.fnOf "keeps" "keeps" (defArgs s_keeps) (defBody s_keeps) (defScope s_keeps) .none kV_keeps dc_keeps pm_keeps an_keeps cd_keeps ct_keeps), sl_keeps⟩) (c_keeps : PySem.W.codeIn K cd_keeps "keeps" = true) (k_keeps : PySem.W.keepIn K (.ref a_keeps) = true)
    (x_settle : PySem.W.nsIn K mainGlobals "settle" = some (some (.ref a_settle))) (l_settle : K.lookup a_settle = some ⟨oc_settle, od_settle, .func (PySem.W.fnOf "settle" "settle" (defArgs s_settle) (defBody s_settle) (defScope s_settle) .none kV_settle dc_settle pm_settle an_settle cd_settle ct_settle), sl_settle⟩) (c_settle : PySem.W.codeIn K cd_settle "settle" = true) (k_settle : PySem.W.keepIn K (.ref a_settle) = true)
    (x_shows_sum : PySem.W.nsIn K mainGlobals "shows_sum" = some (some (.ref a_shows_sum))) (l_shows_sum : K.lookup a_shows_sum = some ⟨oc_shows_sum, od_shows_sum, .func (PySem.W.fnOf "shows_sum" "shows_sum" (defArgs s_shows_sum) (defBody s_shows_sum) (defScope s_shows_sum) .none kV_shows_sum dc_shows_sum pm_shows_sum an_shows_sum cd_shows_sum ct_shows_sum), sl_shows_sum⟩) (c_shows_sum : PySem.W.codeIn K cd_shows_sum "shows_sum" = true) (k_shows_sum : PySem.W.keepIn K (.ref a_shows_sum) = true)
    (x__law_settled : PySem.W.nsIn K mainGlobals "_law_settled" = some (some (.ref a__law_settled))) (l__law_settled : K.lookup a__law_settled = some ⟨oc__law_settled, od__law_settled, .func (PySem.W.fnOf "_law_settled" "_law_settled" (defArgs s__law_settled) (defBody s__law_settled) (defScope s__law_settled) .none kV__law_settled dc__law_settled pm__law_settled an__law_settled cd__law_settled ct__law_settled), sl__law_settled⟩) (c__law_settled : PySem.W.codeIn K cd__law_settled "_law_settled" = true) (k__law_settled : PySem.W.keepIn K (.ref a__law_settled) = true)
    (x_law : PySem.W.nsIn K mainGlobals "law" = some (some (.ref a_law))) (l_law : K.lookup a_law = some ⟨oc_law, od_law, .func (PySem.W.fnOf "law" "law" (defArgs s_law) (defBody s_law) (defScope s_law) .none kV_law dc_law pm_law an_law cd_law ct_law), sl_law⟩) (c_law : PySem.W.codeIn K cd_law "law" = true) (k_law : PySem.W.keepIn K (.ref a_law) = true)
    (a1_InvalidInteger : PySem.W.nsIn K mainGlobals "InvalidInteger" = some (some (.ref C_InvalidInteger)))
    (a2_InvalidInteger : PySem.W.findIn K (.ref C_InvalidInteger) "__init__" = some (some (.ref f_InvalidInteger)))
    (b1_InvalidInteger : K.lookup C_InvalidInteger = some (PySem.excClassObj nm_InvalidInteger q_InvalidInteger C_InvalidInteger N_InvalidInteger bs_InvalidInteger bm_InvalidInteger true sn_InvalidInteger sub_InvalidInteger ab_InvalidInteger col_InvalidInteger dd_InvalidInteger k0_InvalidInteger k1_InvalidInteger k2_InvalidInteger k3_InvalidInteger k5_InvalidInteger "ValueError.__new__"))
    (b2_InvalidInteger : PySem.W.excTail [.type "ValueError", .type "Exception", .type "BaseException", .type "object"] bm_InvalidInteger = true)
    (b3_InvalidInteger : PySem.W.findIn K (.ref C_InvalidInteger) "__setattr__" = some (some (.builtin "object.__setattr__")))
    (b4_InvalidInteger : PySem.W.findIn K (.ref C_InvalidInteger) "__getattribute__" = some (some (.builtin "BaseException.__getattribute__")))
    (b5_InvalidInteger : PySem.W.findIn K (.ref C_InvalidInteger) "__getattr__" = some none)
    (b6_InvalidInteger : PySem.W.findIn K (.ref C_InvalidInteger) "value" = some none)
    (b7_InvalidInteger : PySem.W.typeIn K (.ref f_InvalidInteger) = some (.type "function"))
    (b8_InvalidInteger : PySem.W.keepIn K (.ref C_InvalidInteger) = true)
    (b9_InvalidInteger : PySem.W.subIn K (.ref C_InvalidInteger) (.type "BaseException") = some true)
    (c1_InvalidInteger : PySem.W.typeIn K (.ref C_InvalidInteger) = some (.type "type"))
    (c2_InvalidInteger : PySem.W.hasDictIn K C_InvalidInteger = true)
    (c3_InvalidInteger : PySem.W.subIn K (.ref C_InvalidInteger) (.type "ValueError") = some true)
    (c4_InvalidInteger : PySem.W.mroIn K C_InvalidInteger (.ref C_InvalidInteger) = some true)
    (c5_InvalidInteger : PySem.W.nsIn K cStatics "thirdparty.any" = some none)
    (c6_InvalidInteger : PySem.W.ks_superIn K C_InvalidInteger C_InvalidInteger "__init__" = some (some (.builtin "ValueError.__init__")))
    (c7_InvalidInteger : PySem.W.isClsIn K C_InvalidInteger = true)
    (c8_InvalidInteger : PySem.W.subIn K (.ref C_InvalidInteger) (.ref C_InvalidInteger) = some true)
    (e1_InvalidInteger : K.lookup f_InvalidInteger = some ⟨oc_InvalidInteger, od_InvalidInteger, .func (PySem.W.ksFn "__init__" qual_InvalidInteger (XO.iA "value" p1_InvalidInteger p2_InvalidInteger) (XO.iB "value" msg_InvalidInteger j_InvalidInteger d1_InvalidInteger d2_InvalidInteger d3_InvalidInteger d4_InvalidInteger d5_InvalidInteger d6_InvalidInteger q1_InvalidInteger q2_InvalidInteger q3_InvalidInteger q4_InvalidInteger) (XO.iS "value") .none .none doc_InvalidInteger pm_InvalidInteger an_InvalidInteger (.ref cda_InvalidInteger) ct_InvalidInteger cc_InvalidInteger), osl_InvalidInteger⟩)
    (e2_InvalidInteger : PySem.W.codeIn K (.ref cda_InvalidInteger) qual_InvalidInteger = true)
    (e3_InvalidInteger : K.lookup cc_InvalidInteger = some ⟨cl_InvalidInteger, cld_InvalidInteger, .cell (some (.ref C_InvalidInteger)), csl_InvalidInteger⟩)
    (e4_InvalidInteger : K.lookup cda_InvalidInteger = some ⟨ccl_InvalidInteger, cdd_InvalidInteger, .fields vs_InvalidInteger, ccs_InvalidInteger⟩)
    (e5_InvalidInteger : vs_InvalidInteger[2]? = some (.str file_InvalidInteger tf_InvalidInteger))
    (e6_InvalidInteger : (P.main.file == file_InvalidInteger) = true)
    (e7_InvalidInteger : (d3_InvalidInteger.endLine == d5_InvalidInteger.line) = true)
    (a1_InvalidPart : PySem.W.nsIn K mainGlobals "InvalidPart" = some (some (.ref C_InvalidPart)))
    (a2_InvalidPart : PySem.W.findIn K (.ref C_InvalidPart) "__init__" = some (some (.ref f_InvalidPart)))
    (b1_InvalidPart : K.lookup C_InvalidPart = some (PySem.excClassObj nm_InvalidPart q_InvalidPart C_InvalidPart N_InvalidPart bs_InvalidPart bm_InvalidPart true sn_InvalidPart sub_InvalidPart ab_InvalidPart col_InvalidPart dd_InvalidPart k0_InvalidPart k1_InvalidPart k2_InvalidPart k3_InvalidPart k5_InvalidPart "ValueError.__new__"))
    (b2_InvalidPart : PySem.W.excTail [.type "ValueError", .type "Exception", .type "BaseException", .type "object"] bm_InvalidPart = true)
    (b3_InvalidPart : PySem.W.findIn K (.ref C_InvalidPart) "__setattr__" = some (some (.builtin "object.__setattr__")))
    (b4_InvalidPart : PySem.W.findIn K (.ref C_InvalidPart) "__getattribute__" = some (some (.builtin "BaseException.__getattribute__")))
    (b5_InvalidPart : PySem.W.findIn K (.ref C_InvalidPart) "__getattr__" = some none)
    (b6_InvalidPart : PySem.W.findIn K (.ref C_InvalidPart) "value" = some none)
    (b7_InvalidPart : PySem.W.typeIn K (.ref f_InvalidPart) = some (.type "function"))
    (b8_InvalidPart : PySem.W.keepIn K (.ref C_InvalidPart) = true)
    (b9_InvalidPart : PySem.W.subIn K (.ref C_InvalidPart) (.type "BaseException") = some true)
    (c1_InvalidPart : PySem.W.typeIn K (.ref C_InvalidPart) = some (.type "type"))
    (c2_InvalidPart : PySem.W.hasDictIn K C_InvalidPart = true)
    (c3_InvalidPart : PySem.W.subIn K (.ref C_InvalidPart) (.type "ValueError") = some true)
    (c4_InvalidPart : PySem.W.mroIn K C_InvalidPart (.ref C_InvalidPart) = some true)
    (c5_InvalidPart : PySem.W.nsIn K cStatics "thirdparty.any" = some none)
    (c6_InvalidPart : PySem.W.ks_superIn K C_InvalidPart C_InvalidPart "__init__" = some (some (.builtin "ValueError.__init__")))
    (c7_InvalidPart : PySem.W.isClsIn K C_InvalidPart = true)
    (c8_InvalidPart : PySem.W.subIn K (.ref C_InvalidPart) (.ref C_InvalidPart) = some true)
    (e1_InvalidPart : K.lookup f_InvalidPart = some ⟨oc_InvalidPart, od_InvalidPart, .func (PySem.W.ksFn "__init__" qual_InvalidPart (XO.iA "value" p1_InvalidPart p2_InvalidPart) (XO.iB "value" msg_InvalidPart j_InvalidPart d1_InvalidPart d2_InvalidPart d3_InvalidPart d4_InvalidPart d5_InvalidPart d6_InvalidPart q1_InvalidPart q2_InvalidPart q3_InvalidPart q4_InvalidPart) (XO.iS "value") .none .none doc_InvalidPart pm_InvalidPart an_InvalidPart (.ref cda_InvalidPart) ct_InvalidPart cc_InvalidPart), osl_InvalidPart⟩)
    (e2_InvalidPart : PySem.W.codeIn K (.ref cda_InvalidPart) qual_InvalidPart = true)
    (e3_InvalidPart : K.lookup cc_InvalidPart = some ⟨cl_InvalidPart, cld_InvalidPart, .cell (some (.ref C_InvalidPart)), csl_InvalidPart⟩)
    (e4_InvalidPart : K.lookup cda_InvalidPart = some ⟨ccl_InvalidPart, cdd_InvalidPart, .fields vs_InvalidPart, ccs_InvalidPart⟩)
    (e5_InvalidPart : vs_InvalidPart[2]? = some (.str file_InvalidPart tf_InvalidPart))
    (e6_InvalidPart : (P.main.file == file_InvalidPart) = true)
    (e7_InvalidPart : (d3_InvalidPart.endLine == d5_InvalidPart.line) = true)
    (a1_InvalidRow : PySem.W.nsIn K mainGlobals "InvalidRow" = some (some (.ref C_InvalidRow)))
    (a2_InvalidRow : PySem.W.findIn K (.ref C_InvalidRow) "__init__" = some (some (.ref f_InvalidRow)))
    (b1_InvalidRow : K.lookup C_InvalidRow = some (PySem.excClassObj nm_InvalidRow q_InvalidRow C_InvalidRow N_InvalidRow bs_InvalidRow bm_InvalidRow true sn_InvalidRow sub_InvalidRow ab_InvalidRow col_InvalidRow dd_InvalidRow k0_InvalidRow k1_InvalidRow k2_InvalidRow k3_InvalidRow k5_InvalidRow "ValueError.__new__"))
    (b2_InvalidRow : PySem.W.excTail [.type "ValueError", .type "Exception", .type "BaseException", .type "object"] bm_InvalidRow = true)
    (b3_InvalidRow : PySem.W.findIn K (.ref C_InvalidRow) "__setattr__" = some (some (.builtin "object.__setattr__")))
    (b4_InvalidRow : PySem.W.findIn K (.ref C_InvalidRow) "__getattribute__" = some (some (.builtin "BaseException.__getattribute__")))
    (b5_InvalidRow : PySem.W.findIn K (.ref C_InvalidRow) "__getattr__" = some none)
    (b6_InvalidRow : PySem.W.findIn K (.ref C_InvalidRow) "value" = some none)
    (b7_InvalidRow : PySem.W.typeIn K (.ref f_InvalidRow) = some (.type "function"))
    (b8_InvalidRow : PySem.W.keepIn K (.ref C_InvalidRow) = true)
    (b9_InvalidRow : PySem.W.subIn K (.ref C_InvalidRow) (.type "BaseException") = some true)
    (c1_InvalidRow : PySem.W.typeIn K (.ref C_InvalidRow) = some (.type "type"))
    (c2_InvalidRow : PySem.W.hasDictIn K C_InvalidRow = true)
    (c3_InvalidRow : PySem.W.subIn K (.ref C_InvalidRow) (.type "ValueError") = some true)
    (c4_InvalidRow : PySem.W.mroIn K C_InvalidRow (.ref C_InvalidRow) = some true)
    (c5_InvalidRow : PySem.W.nsIn K cStatics "thirdparty.any" = some none)
    (c6_InvalidRow : PySem.W.ks_superIn K C_InvalidRow C_InvalidRow "__init__" = some (some (.builtin "ValueError.__init__")))
    (c7_InvalidRow : PySem.W.isClsIn K C_InvalidRow = true)
    (c8_InvalidRow : PySem.W.subIn K (.ref C_InvalidRow) (.ref C_InvalidRow) = some true)
    (e1_InvalidRow : K.lookup f_InvalidRow = some ⟨oc_InvalidRow, od_InvalidRow, .func (PySem.W.ksFn "__init__" qual_InvalidRow (XO.iA "value" p1_InvalidRow p2_InvalidRow) (XO.iB "value" msg_InvalidRow j_InvalidRow d1_InvalidRow d2_InvalidRow d3_InvalidRow d4_InvalidRow d5_InvalidRow d6_InvalidRow q1_InvalidRow q2_InvalidRow q3_InvalidRow q4_InvalidRow) (XO.iS "value") .none .none doc_InvalidRow pm_InvalidRow an_InvalidRow (.ref cda_InvalidRow) ct_InvalidRow cc_InvalidRow), osl_InvalidRow⟩)
    (e2_InvalidRow : PySem.W.codeIn K (.ref cda_InvalidRow) qual_InvalidRow = true)
    (e3_InvalidRow : K.lookup cc_InvalidRow = some ⟨cl_InvalidRow, cld_InvalidRow, .cell (some (.ref C_InvalidRow)), csl_InvalidRow⟩)
    (e4_InvalidRow : K.lookup cda_InvalidRow = some ⟨ccl_InvalidRow, cdd_InvalidRow, .fields vs_InvalidRow, ccs_InvalidRow⟩)
    (e5_InvalidRow : vs_InvalidRow[2]? = some (.str file_InvalidRow tf_InvalidRow))
    (e6_InvalidRow : (P.main.file == file_InvalidRow) = true)
    (e7_InvalidRow : (d3_InvalidRow.endLine == d5_InvalidRow.line) = true)
    (sup_top : (P.main.scope.names.lookup ("super" : Str)).isSome = false)
    (z_super : PySem.W.nsIn K mainGlobals "super" = some none)
    (g_gcd : PySem.W.nsIn K mainGlobals "gcd" = some (some (.builtin "math.gcd")))
    (x_UNIT_COLUMNS : PySem.W.nsIn K mainGlobals "UNIT_COLUMNS" = some (some (.ref a_UNIT_COLUMNS)))
    (l_UNIT_COLUMNS : K.lookup a_UNIT_COLUMNS = some ⟨.type "tuple", od_UNIT_COLUMNS, .seq #[.ref a0_UNIT_COLUMNS, .ref a1_UNIT_COLUMNS, .ref a2_UNIT_COLUMNS, .ref a3_UNIT_COLUMNS] n_UNIT_COLUMNS, sl_UNIT_COLUMNS⟩)
    (l0_UNIT_COLUMNS : K.lookup a0_UNIT_COLUMNS = some ⟨.type "tuple", od0_UNIT_COLUMNS, .seq #[.int 1 t0_0_UNIT_COLUMNS, .int 0 t0_1_UNIT_COLUMNS, .int 0 t0_2_UNIT_COLUMNS, .int 0 t0_3_UNIT_COLUMNS] n0_UNIT_COLUMNS, sl0_UNIT_COLUMNS⟩)
    (l1_UNIT_COLUMNS : K.lookup a1_UNIT_COLUMNS = some ⟨.type "tuple", od1_UNIT_COLUMNS, .seq #[.int 0 t1_0_UNIT_COLUMNS, .int 1 t1_1_UNIT_COLUMNS, .int 0 t1_2_UNIT_COLUMNS, .int 0 t1_3_UNIT_COLUMNS] n1_UNIT_COLUMNS, sl1_UNIT_COLUMNS⟩)
    (l2_UNIT_COLUMNS : K.lookup a2_UNIT_COLUMNS = some ⟨.type "tuple", od2_UNIT_COLUMNS, .seq #[.int 0 t2_0_UNIT_COLUMNS, .int 0 t2_1_UNIT_COLUMNS, .int 1 t2_2_UNIT_COLUMNS, .int 0 t2_3_UNIT_COLUMNS] n2_UNIT_COLUMNS, sl2_UNIT_COLUMNS⟩)
    (l3_UNIT_COLUMNS : K.lookup a3_UNIT_COLUMNS = some ⟨.type "tuple", od3_UNIT_COLUMNS, .seq #[.int 0 t3_0_UNIT_COLUMNS, .int 0 t3_1_UNIT_COLUMNS, .int 0 t3_2_UNIT_COLUMNS, .int 1 t3_3_UNIT_COLUMNS] n3_UNIT_COLUMNS, sl3_UNIT_COLUMNS⟩)
    (x_UNIT_ROWS : PySem.W.nsIn K mainGlobals "UNIT_ROWS" = some (some (.ref a_UNIT_ROWS)))
    (l_UNIT_ROWS : K.lookup a_UNIT_ROWS = some ⟨.type "tuple", od_UNIT_ROWS, .seq #[.ref a0_UNIT_ROWS, .ref a1_UNIT_ROWS, .ref a2_UNIT_ROWS, .ref a3_UNIT_ROWS] n_UNIT_ROWS, sl_UNIT_ROWS⟩)
    (l0_UNIT_ROWS : K.lookup a0_UNIT_ROWS = some ⟨.type "tuple", od0_UNIT_ROWS, .seq #[.int 1 t0_0_UNIT_ROWS, .int 0 t0_1_UNIT_ROWS, .int 0 t0_2_UNIT_ROWS, .int 0 t0_3_UNIT_ROWS, .int 1 t0_4_UNIT_ROWS] n0_UNIT_ROWS, sl0_UNIT_ROWS⟩)
    (l1_UNIT_ROWS : K.lookup a1_UNIT_ROWS = some ⟨.type "tuple", od1_UNIT_ROWS, .seq #[.int 0 t1_0_UNIT_ROWS, .int 1 t1_1_UNIT_ROWS, .int 0 t1_2_UNIT_ROWS, .int 0 t1_3_UNIT_ROWS, .int 1 t1_4_UNIT_ROWS] n1_UNIT_ROWS, sl1_UNIT_ROWS⟩)
    (l2_UNIT_ROWS : K.lookup a2_UNIT_ROWS = some ⟨.type "tuple", od2_UNIT_ROWS, .seq #[.int 0 t2_0_UNIT_ROWS, .int 0 t2_1_UNIT_ROWS, .int 1 t2_2_UNIT_ROWS, .int 0 t2_3_UNIT_ROWS, .int 1 t2_4_UNIT_ROWS] n2_UNIT_ROWS, sl2_UNIT_ROWS⟩)
    (l3_UNIT_ROWS : K.lookup a3_UNIT_ROWS = some ⟨.type "tuple", od3_UNIT_ROWS, .seq #[.int 0 t3_0_UNIT_ROWS, .int 0 t3_1_UNIT_ROWS, .int 0 t3_2_UNIT_ROWS, .int 1 t3_3_UNIT_ROWS, .int 1 t3_4_UNIT_ROWS] n3_UNIT_ROWS, sl3_UNIT_ROWS⟩)
    (z_all : PySem.W.nsIn K mainGlobals "all" = some none) (z_any : PySem.W.nsIn K mainGlobals "any" = some none) (z_bool : PySem.W.nsIn K mainGlobals "bool" = some none) (z_dict : PySem.W.nsIn K mainGlobals "dict" = some none) (z_enumerate : PySem.W.nsIn K mainGlobals "enumerate" = some none) (z_int : PySem.W.nsIn K mainGlobals "int" = some none) (z_isinstance : PySem.W.nsIn K mainGlobals "isinstance" = some none) (z_len : PySem.W.nsIn K mainGlobals "len" = some none) (z_list : PySem.W.nsIn K mainGlobals "list" = some none) (z_max : PySem.W.nsIn K mainGlobals "max" = some none) (z_min : PySem.W.nsIn K mainGlobals "min" = some none) (z_range : PySem.W.nsIn K mainGlobals "range" = some none) (z_repr : PySem.W.nsIn K mainGlobals "repr" = some none) (z_sum : PySem.W.nsIn K mainGlobals "sum" = some none) (z_tuple : PySem.W.nsIn K mainGlobals "tuple" = some none) (z_zip : PySem.W.nsIn K mainGlobals "zip" = some none) {t_MOST_COSTS : Tok} (c_MOST_COSTS : PySem.W.nsIn K mainGlobals "MOST_COSTS" = some (some (.int 4 t_MOST_COSTS))) :
    ∃ fd : FuncData, (∀ (s : Shared) (u : Value), BindsTo s fd ⟨[u], []⟩ [("_law_script", u)]) ∧ ∀ base : Heap, K.In base → base.Ns mainGlobals mg → FnG P w K mg base CX0 7 fa fd ["_law_script"] (spD K mg (lawFn 63)) := by
  have e := hfa.symm.trans (PySem.W.mg_of X G x_law)
  cases e
  have T : Txt K mg := { z_all := PySem.W.mg_none_of X G z_all, z_any := PySem.W.mg_none_of X G z_any, z_bool := PySem.W.mg_none_of X G z_bool, z_dict := PySem.W.mg_none_of X G z_dict, z_enumerate := PySem.W.mg_none_of X G z_enumerate, z_int := PySem.W.mg_none_of X G z_int, z_isinstance := PySem.W.mg_none_of X G z_isinstance, z_len := PySem.W.mg_none_of X G z_len, z_list := PySem.W.mg_none_of X G z_list, z_max := PySem.W.mg_none_of X G z_max, z_min := PySem.W.mg_none_of X G z_min, z_range := PySem.W.mg_none_of X G z_range, z_repr := PySem.W.mg_none_of X G z_repr, z_sum := PySem.W.mg_none_of X G z_sum, z_tuple := PySem.W.mg_none_of X G z_tuple, z_zip := PySem.W.mg_none_of X G z_zip, g_gcd := PySem.W.mg_of X G g_gcd, c_MOST_COSTS := ⟨_, PySem.W.mg_of X G c_MOST_COSTS⟩, c_UNIT_COLUMNS := ⟨_, PySem.W.mg_of X G x_UNIT_COLUMNS, rp_globN (vs := [V.ref a0_UNIT_COLUMNS, V.ref a1_UNIT_COLUMNS, V.ref a2_UNIT_COLUMNS, V.ref a3_UNIT_COLUMNS]) l_UNIT_COLUMNS rfl rfl (Nat.le_trans (show 4 ≤ 100 by decide) (by rw [sizeLine_eq]; decide)) (.cons rfl (.cons rfl (.cons rfl (.cons rfl .nil)))) (fun G => (.cons (rp_globN (vs := [V.int 1, V.int 0, V.int 0, V.int 0]) l0_UNIT_COLUMNS rfl rfl (Nat.le_trans (show 4 ≤ 100 by decide) (by rw [sizeLine_eq]; decide)) (.cons ⟨_, rfl⟩ (.cons ⟨_, rfl⟩ (.cons ⟨_, rfl⟩ (.cons ⟨_, rfl⟩ .nil)))) (fun _ => (.cons (.int _) (.cons (.int _) (.cons (.int _) (.cons (.int _) .nil))))) G) (.cons (rp_globN (vs := [V.int 0, V.int 1, V.int 0, V.int 0]) l1_UNIT_COLUMNS rfl rfl (Nat.le_trans (show 4 ≤ 100 by decide) (by rw [sizeLine_eq]; decide)) (.cons ⟨_, rfl⟩ (.cons ⟨_, rfl⟩ (.cons ⟨_, rfl⟩ (.cons ⟨_, rfl⟩ .nil)))) (fun _ => (.cons (.int _) (.cons (.int _) (.cons (.int _) (.cons (.int _) .nil))))) G) (.cons (rp_globN (vs := [V.int 0, V.int 0, V.int 1, V.int 0]) l2_UNIT_COLUMNS rfl rfl (Nat.le_trans (show 4 ≤ 100 by decide) (by rw [sizeLine_eq]; decide)) (.cons ⟨_, rfl⟩ (.cons ⟨_, rfl⟩ (.cons ⟨_, rfl⟩ (.cons ⟨_, rfl⟩ .nil)))) (fun _ => (.cons (.int _) (.cons (.int _) (.cons (.int _) (.cons (.int _) .nil))))) G) (.cons (rp_globN (vs := [V.int 0, V.int 0, V.int 0, V.int 1]) l3_UNIT_COLUMNS rfl rfl (Nat.le_trans (show 4 ≤ 100 by decide) (by rw [sizeLine_eq]; decide)) (.cons ⟨_, rfl⟩ (.cons ⟨_, rfl⟩ (.cons ⟨_, rfl⟩ (.cons ⟨_, rfl⟩ .nil)))) (fun _ => (.cons (.int _) (.cons (.int _) (.cons (.int _) (.cons (.int _) .nil))))) G) .nil)))))⟩, c_UNIT_ROWS := ⟨_, PySem.W.mg_of X G x_UNIT_ROWS, rp_globN (vs := [V.ref a0_UNIT_ROWS, V.ref a1_UNIT_ROWS, V.ref a2_UNIT_ROWS, V.ref a3_UNIT_ROWS]) l_UNIT_ROWS rfl rfl (Nat.le_trans (show 4 ≤ 100 by decide) (by rw [sizeLine_eq]; decide)) (.cons rfl (.cons rfl (.cons rfl (.cons rfl .nil)))) (fun G => (.cons (rp_globN (vs := [V.int 1, V.int 0, V.int 0, V.int 0, V.int 1]) l0_UNIT_ROWS rfl rfl (Nat.le_trans (show 5 ≤ 100 by decide) (by rw [sizeLine_eq]; decide)) (.cons ⟨_, rfl⟩ (.cons ⟨_, rfl⟩ (.cons ⟨_, rfl⟩ (.cons ⟨_, rfl⟩ (.cons ⟨_, rfl⟩ .nil))))) (fun _ => (.cons (.int _) (.cons (.int _) (.cons (.int _) (.cons (.int _) (.cons (.int _) .nil)))))) G) (.cons (rp_globN (vs := [V.int 0, V.int 1, V.int 0, V.int 0, V.int 1]) l1_UNIT_ROWS rfl rfl (Nat.le_trans (show 5 ≤ 100 by decide) (by rw [sizeLine_eq]; decide)) (.cons ⟨_, rfl⟩ (.cons ⟨_, rfl⟩ (.cons ⟨_, rfl⟩ (.cons ⟨_, rfl⟩ (.cons ⟨_, rfl⟩ .nil))))) (fun _ => (.cons (.int _) (.cons (.int _) (.cons (.int _) (.cons (.int _) (.cons (.int _) .nil)))))) G) (.cons (rp_globN (vs := [V.int 0, V.int 0, V.int 1, V.int 0, V.int 1]) l2_UNIT_ROWS rfl rfl (Nat.le_trans (show 5 ≤ 100 by decide) (by rw [sizeLine_eq]; decide)) (.cons ⟨_, rfl⟩ (.cons ⟨_, rfl⟩ (.cons ⟨_, rfl⟩ (.cons ⟨_, rfl⟩ (.cons ⟨_, rfl⟩ .nil))))) (fun _ => (.cons (.int _) (.cons (.int _) (.cons (.int _) (.cons (.int _) (.cons (.int _) .nil)))))) G) (.cons (rp_globN (vs := [V.int 0, V.int 0, V.int 0, V.int 1, V.int 1]) l3_UNIT_ROWS rfl rfl (Nat.le_trans (show 5 ≤ 100 by decide) (by rw [sizeLine_eq]; decide)) (.cons ⟨_, rfl⟩ (.cons ⟨_, rfl⟩ (.cons ⟨_, rfl⟩ (.cons ⟨_, rfl⟩ (.cons ⟨_, rfl⟩ .nil))))) (fun _ => (.cons (.int _) (.cons (.int _) (.cons (.int _) (.cons (.int _) (.cons (.int _) .nil)))))) G) .nil)))))⟩ }
  have XC_InvalidInteger : XC P K mg "InvalidInteger" "value" := xc_mk X G XO.base_ValueError XO.bind_value ⟨by decide, by decide, by decide, by decide, by decide⟩ a1_InvalidInteger a2_InvalidInteger b1_InvalidInteger b2_InvalidInteger b3_InvalidInteger b4_InvalidInteger b5_InvalidInteger b6_InvalidInteger b7_InvalidInteger b8_InvalidInteger b9_InvalidInteger c1_InvalidInteger c2_InvalidInteger c3_InvalidInteger c4_InvalidInteger c5_InvalidInteger c6_InvalidInteger c7_InvalidInteger c8_InvalidInteger e1_InvalidInteger e2_InvalidInteger e3_InvalidInteger e4_InvalidInteger e5_InvalidInteger e6_InvalidInteger e7_InvalidInteger
  have XC_InvalidPart : XC P K mg "InvalidPart" "value" := xc_mk X G XO.base_ValueError XO.bind_value ⟨by decide, by decide, by decide, by decide, by decide⟩ a1_InvalidPart a2_InvalidPart b1_InvalidPart b2_InvalidPart b3_InvalidPart b4_InvalidPart b5_InvalidPart b6_InvalidPart b7_InvalidPart b8_InvalidPart b9_InvalidPart c1_InvalidPart c2_InvalidPart c3_InvalidPart c4_InvalidPart c5_InvalidPart c6_InvalidPart c7_InvalidPart c8_InvalidPart e1_InvalidPart e2_InvalidPart e3_InvalidPart e4_InvalidPart e5_InvalidPart e6_InvalidPart e7_InvalidPart
  have XC_InvalidRow : XC P K mg "InvalidRow" "value" := xc_mk X G XO.base_ValueError XO.bind_value ⟨by decide, by decide, by decide, by decide, by decide⟩ a1_InvalidRow a2_InvalidRow b1_InvalidRow b2_InvalidRow b3_InvalidRow b4_InvalidRow b5_InvalidRow b6_InvalidRow b7_InvalidRow b8_InvalidRow b9_InvalidRow c1_InvalidRow c2_InvalidRow c3_InvalidRow c4_InvalidRow c5_InvalidRow c6_InvalidRow c7_InvalidRow c8_InvalidRow e1_InvalidRow e2_InvalidRow e3_InvalidRow e4_InvalidRow e5_InvalidRow e6_InvalidRow e7_InvalidRow
  have SU : Sup P mg := ⟨PySem.W.mg_none_of X G z_super, sup_top⟩
  have FA_in_four : FunAt K mg "in_four" "in_four" s_in_four ["numbers"] := at_mk X G x_in_four l_in_four c_in_four k_in_four fun _ _ _ _ _ _ us hl => match us, hl with | [_], _ => rfl
  have FA_unit_corner : FunAt K mg "unit_corner" "unit_corner" s_unit_corner ["index"] := at_mk X G x_unit_corner l_unit_corner c_unit_corner k_unit_corner fun _ _ _ _ _ _ us hl => match us, hl with | [_], _ => rfl
  have FA_point_of : FunAt K mg "point_of" "point_of" s_point_of ["rows", "corner"] := at_mk X G x_point_of l_point_of c_point_of k_point_of fun _ _ _ _ _ _ us hl => match us, hl with | [_, _], _ => rfl
  have FA_first_missed : FunAt K mg "first_missed" "first_missed" s_first_missed ["rows", "point", "size"] := at_mk X G x_first_missed l_first_missed c_first_missed k_first_missed fun _ _ _ _ _ _ us hl => match us, hl with | [_, _, _], _ => rfl
  have FA_weights_of : FunAt K mg "weights_of" "weights_of" s_weights_of ["row", "columns"] := at_mk X G x_weights_of l_weights_of c_weights_of k_weights_of fun _ _ _ _ _ _ us hl => match us, hl with | [_, _], _ => rfl
  have FA_leaving_place : FunAt K mg "leaving_place" "leaving_place" s_leaving_place ["tight", "weights"] := at_mk X G x_leaving_place l_leaving_place c_leaving_place k_leaving_place fun _ _ _ _ _ _ us hl => match us, hl with | [_, _], _ => rfl
  have FA_exchanged : FunAt K mg "exchanged" "exchanged" s_exchanged ["corner", "missed", "weights", "leaving"] := at_mk X G x_exchanged l_exchanged c_exchanged k_exchanged fun _ _ _ _ _ _ us hl => match us, hl with | [_, _, _, _], _ => rfl
  have FA_is_list : FunAt K mg "is_list" "is_list" s_is_list ["value"] := at_mk X G x_is_list l_is_list c_is_list k_is_list fun _ _ _ _ _ _ us hl => match us, hl with | [_], _ => rfl
  have FA_is_whole : FunAt K mg "is_whole" "is_whole" s_is_whole ["value"] := at_mk X G x_is_whole l_is_whole c_is_whole k_is_whole fun _ _ _ _ _ _ us hl => match us, hl with | [_], _ => rfl
  have FA_weighed : FunAt K mg "weighed" "weighed" s_weighed ["counts", "numbers"] := at_mk X G x_weighed l_weighed c_weighed k_weighed fun _ _ _ _ _ _ us hl => match us, hl with | [_, _], _ => rfl
  have FA_summed : FunAt K mg "summed" "summed" s_summed ["many", "rows", "amounts"] := at_mk X G x_summed l_summed c_summed k_summed fun _ _ _ _ _ _ us hl => match us, hl with | [_, _, _], _ => rfl
  have FA__law_cell : FunAt K mg "_law_cell" "_law_cell" s__law_cell ["_law_script", "_law_k"] := at_mk X G x__law_cell l__law_cell c__law_cell k__law_cell fun _ _ _ _ _ _ us hl => match us, hl with | [_, _], _ => rfl
  have FA__law_box : FunAt K mg "_law_box" "_law_box" s__law_box ["_law_cell_here"] := at_mk X G x__law_box l__law_box c__law_box k__law_box fun _ _ _ _ _ _ us hl => match us, hl with | [_], _ => rfl
  have FA__law_take : FunAt K mg "_law_take" "_law_take" s__law_take ["_law_box_here", "_law_size"] := at_mk X G x__law_take l__law_take c__law_take k__law_take fun _ _ _ _ _ _ us hl => match us, hl with | [_, _], _ => rfl
  have FA__law_price : FunAt K mg "_law_price" "_law_price" s__law_price ["_law_row_here", "_law_numbers"] := at_mk X G x__law_price l__law_price c__law_price k__law_price fun _ _ _ _ _ _ us hl => match us, hl with | [_, _], _ => rfl
  have FA__law_sum_right : FunAt K mg "_law_sum_right" "_law_sum_right" s__law_sum_right ["_law_size", "_law_given", "_law_amounts"] := at_mk X G x__law_sum_right l__law_sum_right c__law_sum_right k__law_sum_right fun _ _ _ _ _ _ us hl => match us, hl with | [_, _, _], _ => rfl
  have FA_row_in_four : FunAt K mg "row_in_four" "row_in_four" s_row_in_four ["numbers", "strict"] := at_mk X G x_row_in_four l_row_in_four c_row_in_four k_row_in_four fun _ _ _ _ _ _ us hl => match us, hl with | [_, _], _ => rfl
  have FA_settled : FunAt K mg "settled" "settled" s_settled ["rows", "corner"] := at_mk X G x_settled l_settled c_settled k_settled fun _ _ _ _ _ _ us hl => match us, hl with | [_, _], _ => rfl
  have FA_is_whole_list : FunAt K mg "is_whole_list" "is_whole_list" s_is_whole_list ["value"] := at_mk X G x_is_whole_list l_is_whole_list c_is_whole_list k_is_whole_list fun _ _ _ _ _ _ us hl => match us, hl with | [_], _ => rfl
  have FA_is_integer : FunAt K mg "is_integer" "is_integer" s_is_integer ["value", "low", "high"] := at_mk X G x_is_integer l_is_integer c_is_integer k_is_integer fun _ _ _ _ _ _ us hl => match us, hl with | [_, _, _], _ => rfl
  have FA_is_cost_number : FunAt K mg "is_cost_number" "is_cost_number" s_is_cost_number ["value"] := at_mk X G x_is_cost_number l_is_cost_number c_is_cost_number k_is_cost_number fun _ _ _ _ _ _ us hl => match us, hl with | [_], _ => rfl
  have FA__law_row : FunAt K mg "_law_row" "_law_row" s__law_row ["_law_box_here", "_law_size", "_law_numbers", "_law_given"] := at_mk X G x__law_row l__law_row c__law_row k__law_row fun _ _ _ _ _ _ us hl => match us, hl with | [_, _, _, _], _ => rfl
  have FA__law_is_kept : FunAt K mg "_law_is_kept" "_law_is_kept" s__law_is_kept ["_law_row_here", "_law_numbers"] := at_mk X G x__law_is_kept l__law_is_kept c__law_is_kept k__law_is_kept fun _ _ _ _ _ _ us hl => match us, hl with | [_, _], _ => rfl
  have FA_scaled : FunAt K mg "scaled" "scaled" s_scaled ["numbers"] := at_mk X G x_scaled l_scaled c_scaled k_scaled fun _ _ _ _ _ _ us hl => match us, hl with | [_], _ => rfl
  have FA_is_number_row : FunAt K mg "is_number_row" "is_number_row" s_is_number_row ["many", "value"] := at_mk X G x_is_number_row l_is_number_row c_is_number_row k_is_number_row fun _ _ _ _ _ _ us hl => match us, hl with | [_, _], _ => rfl
  have FA_check_number_rows : FunAt K mg "check_number_rows" "check_number_rows" s_check_number_rows ["many", "rows"] := at_mk X G x_check_number_rows l_check_number_rows c_check_number_rows k_check_number_rows fun _ _ _ _ _ _ us hl => match us, hl with | [_, _], _ => rfl
  have FA_keeps : FunAt K mg "keeps" "keeps" s_keeps ["numbers", "row"] := at_mk X G x_keeps l_keeps c_keeps k_keeps fun _ _ _ _ _ _ us hl => match us, hl with | [_, _], _ => rfl
  have FA_settle : FunAt K mg "settle" "settle" s_settle ["many", "rows"] := at_mk X G x_settle l_settle c_settle k_settle fun _ _ _ _ _ _ us hl => match us, hl with | [_, _], _ => rfl
  have FA_shows_sum : FunAt K mg "shows_sum" "shows_sum" s_shows_sum ["many", "rows", "amounts"] := at_mk X G x_shows_sum l_shows_sum c_shows_sum k_shows_sum fun _ _ _ _ _ _ us hl => match us, hl with | [_, _, _], _ => rfl
  have FA__law_settled : FunAt K mg "_law_settled" "_law_settled" s__law_settled ["_law_size", "_law_given", "_law_numbers"] := at_mk X G x__law_settled l__law_settled c__law_settled k__law_settled fun _ _ _ _ _ _ us hl => match us, hl with | [_, _, _], _ => rfl
  refine ⟨PySem.W.fnOf "law" "law" (defArgs s_law) (defBody s_law) (defScope s_law) .none kV_law dc_law pm_law an_law cd_law ct_law, fun s u => .of_eq rfl, fun base _ _ => ?_⟩
  have h_in_four := ok_in_four (P := P) (w := w) (base := base) T FA_in_four 
  have h_unit_corner := ok_unit_corner (P := P) (w := w) (base := base) T FA_unit_corner 
  have h_point_of := ok_point_of (P := P) (w := w) (base := base) T FA_point_of 
  have h_first_missed := ok_first_missed (P := P) (w := w) (base := base) T FA_first_missed 
  have h_weights_of := ok_weights_of (P := P) (w := w) (base := base) T FA_weights_of 
  have h_leaving_place := ok_leaving_place (P := P) (w := w) (base := base) T FA_leaving_place 
  have h_exchanged := ok_exchanged (P := P) (w := w) (base := base) T FA_exchanged 
  have h_is_list := ok_is_list (P := P) (w := w) (base := base) T FA_is_list 
  have h_is_whole := ok_is_whole (P := P) (w := w) (base := base) T FA_is_whole 
  have h_weighed := ok_weighed (P := P) (w := w) (base := base) T FA_weighed 
  have h_summed := ok_summed (P := P) (w := w) (base := base) T FA_summed 
  have h__law_cell := ok__law_cell (P := P) (w := w) (base := base) T FA__law_cell 
  have h__law_box := ok__law_box (P := P) (w := w) (base := base) T FA__law_box 
  have h__law_take := ok__law_take (P := P) (w := w) (base := base) T FA__law_take 
  have h__law_price := ok__law_price (P := P) (w := w) (base := base) T FA__law_price 
  have h__law_sum_right := ok__law_sum_right (P := P) (w := w) (base := base) T FA__law_sum_right 
  have h_row_in_four := ok_row_in_four (P := P) (w := w) (base := base) T FA_row_in_four h_in_four
  have h_settled := ok_settled (P := P) (w := w) (base := base) T FA_settled h_point_of h_first_missed h_weights_of h_leaving_place h_exchanged
  have h_is_whole_list := ok_is_whole_list (P := P) (w := w) (base := base) T FA_is_whole_list h_is_list h_is_whole
  have h_is_integer := ok_is_integer (P := P) (w := w) (base := base) T FA_is_integer h_is_whole
  have h_is_cost_number := ok_is_cost_number (P := P) (w := w) (base := base) T FA_is_cost_number h_is_whole
  have h__law_row := ok__law_row (P := P) (w := w) (base := base) T FA__law_row h__law_take h__law_price
  have h__law_is_kept := ok__law_is_kept (P := P) (w := w) (base := base) T FA__law_is_kept h__law_price
  have h_scaled := ok_scaled (P := P) (w := w) (base := base) T FA_scaled SU XC_InvalidPart h_is_whole_list
  have h_is_number_row := ok_is_number_row (P := P) (w := w) (base := base) T FA_is_number_row h_is_list h_is_whole_list
  have h_check_number_rows := ok_check_number_rows (P := P) (w := w) (base := base) T FA_check_number_rows SU XC_InvalidInteger XC_InvalidPart XC_InvalidRow h_is_integer h_is_list h_is_number_row
  have h_keeps := ok_keeps (P := P) (w := w) (base := base) T FA_keeps SU XC_InvalidPart XC_InvalidRow h_is_list h_is_cost_number h_is_number_row h_weighed
  have hf_settle := ok_settle (P := P) (w := w) (base := base) T FA_settle h_check_number_rows h_row_in_four h_unit_corner h_settled h_scaled
  have h_settle := hf_settle.x
  have hk_settle := hf_settle.swap fun _ _ _ _ _ _ _ _ => rfl
  have h_shows_sum := ok_shows_sum (P := P) (w := w) (base := base) T FA_shows_sum h_check_number_rows h_is_whole h_summed
  have h__law_settled := ok__law_settled (P := P) (w := w) (base := base) T FA__law_settled h_settle h__law_is_kept h__law_sum_right h_shows_sum h_keeps
  exact law_fn T (fun_mk (st := s_law) l_law c_law k_law) h__law_cell h__law_box h__law_take h__law_row h__law_settled hk_settle h_settle h_shows_sum
end K18
open PySem PySem.W PyProof.Rows in
set_option maxRecDepth 100000 in
set_option maxHeartbeats 0 in
theorem PySem.Challenge.cw_seenchoices_k17_integers_or_a_sum_holds : PySem.Challenge.rw_seenchoices_k17_integers_or_a_sum.Holds := by
  w_on; o_law; k_head; (case hw => w_witness2)
  k_fill
  refine DL.the_end (l := PySem.Challenge.rw_seenchoices_k17_integers_or_a_sum) (n := 63) (k := 7) (x := "_law_script") rfl (by decide) rfl ⟨rfl, by decide, by decide⟩ (fun w h Y => PySem.W.kIn_of Y) ?F
  case F =>
    intro w mg fa h KX G hmg
    refine' K18.all_mk KX G hmg ?x_in_four ?l_in_four ?c_in_four ?k_in_four ?x_unit_corner ?l_unit_corner ?c_unit_corner ?k_unit_corner ?x_point_of ?l_point_of ?c_point_of ?k_point_of ?x_first_missed ?l_first_missed ?c_first_missed ?k_first_missed ?x_weights_of ?l_weights_of ?c_weights_of ?k_weights_of ?x_leaving_place ?l_leaving_place ?c_leaving_place ?k_leaving_place ?x_exchanged ?l_exchanged ?c_exchanged ?k_exchanged ?x_is_list ?l_is_list ?c_is_list ?k_is_list ?x_is_whole ?l_is_whole ?c_is_whole ?k_is_whole ?x_weighed ?l_weighed ?c_weighed ?k_weighed ?x_summed ?l_summed ?c_summed ?k_summed ?x__law_cell ?l__law_cell ?c__law_cell ?k__law_cell ?x__law_box ?l__law_box ?c__law_box ?k__law_box ?x__law_take ?l__law_take ?c__law_take ?k__law_take ?x__law_price ?l__law_price ?c__law_price ?k__law_price ?x__law_sum_right ?l__law_sum_right ?c__law_sum_right ?k__law_sum_right ?x_row_in_four ?l_row_in_four ?c_row_in_four ?k_row_in_four ?x_settled ?l_settled ?c_settled ?k_settled ?x_is_whole_list ?l_is_whole_list ?c_is_whole_list ?k_is_whole_list ?x_is_integer ?l_is_integer ?c_is_integer ?k_is_integer ?x_is_cost_number ?l_is_cost_number ?c_is_cost_number ?k_is_cost_number ?x__law_row ?l__law_row ?c__law_row ?k__law_row ?x__law_is_kept ?l__law_is_kept ?c__law_is_kept ?k__law_is_kept ?x_scaled ?l_scaled ?c_scaled ?k_scaled ?x_is_number_row ?l_is_number_row ?c_is_number_row ?k_is_number_row ?x_check_number_rows ?l_check_number_rows ?c_check_number_rows ?k_check_number_rows ?x_keeps ?l_keeps ?c_keeps ?k_keeps ?x_settle ?l_settle ?c_settle ?k_settle ?x_shows_sum ?l_shows_sum ?c_shows_sum ?k_shows_sum ?x__law_settled ?l__law_settled ?c__law_settled ?k__law_settled ?x_law ?l_law ?c_law ?k_law ?a1_InvalidInteger ?a2_InvalidInteger ?b1_InvalidInteger ?b2_InvalidInteger ?b3_InvalidInteger ?b4_InvalidInteger ?b5_InvalidInteger ?b6_InvalidInteger ?b7_InvalidInteger ?b8_InvalidInteger ?b9_InvalidInteger ?c1_InvalidInteger ?c2_InvalidInteger ?c3_InvalidInteger ?c4_InvalidInteger ?c5_InvalidInteger ?c6_InvalidInteger ?c7_InvalidInteger ?c8_InvalidInteger ?e1_InvalidInteger ?e2_InvalidInteger ?e3_InvalidInteger ?e4_InvalidInteger ?e5_InvalidInteger ?e6_InvalidInteger ?e7_InvalidInteger ?a1_InvalidPart ?a2_InvalidPart ?b1_InvalidPart ?b2_InvalidPart ?b3_InvalidPart ?b4_InvalidPart ?b5_InvalidPart ?b6_InvalidPart ?b7_InvalidPart ?b8_InvalidPart ?b9_InvalidPart ?c1_InvalidPart ?c2_InvalidPart ?c3_InvalidPart ?c4_InvalidPart ?c5_InvalidPart ?c6_InvalidPart ?c7_InvalidPart ?c8_InvalidPart ?e1_InvalidPart ?e2_InvalidPart ?e3_InvalidPart ?e4_InvalidPart ?e5_InvalidPart ?e6_InvalidPart ?e7_InvalidPart ?a1_InvalidRow ?a2_InvalidRow ?b1_InvalidRow ?b2_InvalidRow ?b3_InvalidRow ?b4_InvalidRow ?b5_InvalidRow ?b6_InvalidRow ?b7_InvalidRow ?b8_InvalidRow ?b9_InvalidRow ?c1_InvalidRow ?c2_InvalidRow ?c3_InvalidRow ?c4_InvalidRow ?c5_InvalidRow ?c6_InvalidRow ?c7_InvalidRow ?c8_InvalidRow ?e1_InvalidRow ?e2_InvalidRow ?e3_InvalidRow ?e4_InvalidRow ?e5_InvalidRow ?e6_InvalidRow ?e7_InvalidRow ?sup_top ?z_super ?g_gcd ?x_UNIT_COLUMNS ?l_UNIT_COLUMNS ?l0_UNIT_COLUMNS ?l1_UNIT_COLUMNS ?l2_UNIT_COLUMNS ?l3_UNIT_COLUMNS ?x_UNIT_ROWS ?l_UNIT_ROWS ?l0_UNIT_ROWS ?l1_UNIT_ROWS ?l2_UNIT_ROWS ?l3_UNIT_ROWS ?z_all ?z_any ?z_bool ?z_dict ?z_enumerate ?z_int ?z_isinstance ?z_len ?z_list ?z_max ?z_min ?z_range ?z_repr ?z_sum ?z_tuple ?z_zip ?c_MOST_COSTS
    (case x_in_four => k_is); (case l_in_four => k_is); (case c_in_four => k_is); (case k_in_four => k_is)
    (case x_unit_corner => k_is); (case l_unit_corner => k_is); (case c_unit_corner => k_is); (case k_unit_corner => k_is)
    (case x_point_of => k_is); (case l_point_of => k_is); (case c_point_of => k_is); (case k_point_of => k_is)
    (case x_first_missed => k_is); (case l_first_missed => k_is); (case c_first_missed => k_is); (case k_first_missed => k_is)
    (case x_weights_of => k_is); (case l_weights_of => k_is); (case c_weights_of => k_is); (case k_weights_of => k_is)
    (case x_leaving_place => k_is); (case l_leaving_place => k_is); (case c_leaving_place => k_is); (case k_leaving_place => k_is)
    (case x_exchanged => k_is); (case l_exchanged => k_is); (case c_exchanged => k_is); (case k_exchanged => k_is)
    (case x_is_list => k_is); (case l_is_list => k_is); (case c_is_list => k_is); (case k_is_list => k_is)
    (case x_is_whole => k_is); (case l_is_whole => k_is); (case c_is_whole => k_is); (case k_is_whole => k_is)
    (case x_weighed => k_is); (case l_weighed => k_is); (case c_weighed => k_is); (case k_weighed => k_is)
    (case x_summed => k_is); (case l_summed => k_is); (case c_summed => k_is); (case k_summed => k_is)
    (case x__law_cell => k_is); (case l__law_cell => k_is); (case c__law_cell => k_is); (case k__law_cell => k_is)
    (case x__law_box => k_is); (case l__law_box => k_is); (case c__law_box => k_is); (case k__law_box => k_is)
    (case x__law_take => k_is); (case l__law_take => k_is); (case c__law_take => k_is); (case k__law_take => k_is)
    (case x__law_price => k_is); (case l__law_price => k_is); (case c__law_price => k_is); (case k__law_price => k_is)
    (case x__law_sum_right => k_is); (case l__law_sum_right => k_is); (case c__law_sum_right => k_is); (case k__law_sum_right => k_is)
    (case x_row_in_four => k_is); (case l_row_in_four => k_is); (case c_row_in_four => k_is); (case k_row_in_four => k_is)
    (case x_settled => k_is); (case l_settled => k_is); (case c_settled => k_is); (case k_settled => k_is)
    (case x_is_whole_list => k_is); (case l_is_whole_list => k_is); (case c_is_whole_list => k_is); (case k_is_whole_list => k_is)
    (case x_is_integer => k_is); (case l_is_integer => k_is); (case c_is_integer => k_is); (case k_is_integer => k_is)
    (case x_is_cost_number => k_is); (case l_is_cost_number => k_is); (case c_is_cost_number => k_is); (case k_is_cost_number => k_is)
    (case x__law_row => k_is); (case l__law_row => k_is); (case c__law_row => k_is); (case k__law_row => k_is)
    (case x__law_is_kept => k_is); (case l__law_is_kept => k_is); (case c__law_is_kept => k_is); (case k__law_is_kept => k_is)
    (case x_scaled => k_is); (case l_scaled => k_is); (case c_scaled => k_is); (case k_scaled => k_is)
    (case x_is_number_row => k_is); (case l_is_number_row => k_is); (case c_is_number_row => k_is); (case k_is_number_row => k_is)
    (case x_check_number_rows => k_is); (case l_check_number_rows => k_is); (case c_check_number_rows => k_is); (case k_check_number_rows => k_is)
    (case x_keeps => k_is); (case l_keeps => k_is); (case c_keeps => k_is); (case k_keeps => k_is)
    (case x_settle => k_is); (case l_settle => k_is); (case c_settle => k_is); (case k_settle => k_is)
    (case x_shows_sum => k_is); (case l_shows_sum => k_is); (case c_shows_sum => k_is); (case k_shows_sum => k_is)
    (case x__law_settled => k_is); (case l__law_settled => k_is); (case c__law_settled => k_is); (case k__law_settled => k_is)
    (case x_law => k_is); (case l_law => k_is); (case c_law => k_is); (case k_law => k_is)
    (case a1_InvalidInteger => k_is)
    (case a2_InvalidInteger => k_is)
    (case b1_InvalidInteger => k_is)
    (case b2_InvalidInteger => decide +kernel)
    (case b3_InvalidInteger => k_is)
    (case b4_InvalidInteger => k_is)
    (case b5_InvalidInteger => k_is)
    (case b6_InvalidInteger => k_is)
    (case b7_InvalidInteger => k_is)
    (case b8_InvalidInteger => k_is)
    (case b9_InvalidInteger => k_is)
    (case c1_InvalidInteger => k_is)
    (case c2_InvalidInteger => k_is)
    (case c3_InvalidInteger => k_is)
    (case c4_InvalidInteger => k_is)
    (case c5_InvalidInteger => k_is)
    (case c6_InvalidInteger => ks_is)
    (case c7_InvalidInteger => k_is)
    (case c8_InvalidInteger => k_is)
    (case e1_InvalidInteger => k_is)
    (case e2_InvalidInteger => k_is)
    (case e3_InvalidInteger => k_is)
    (case e4_InvalidInteger => k_is)
    (case e5_InvalidInteger => rfl)
    (case e6_InvalidInteger => first | rfl | decide +kernel)
    (case e7_InvalidInteger => rfl)
    (case a1_InvalidPart => k_is)
    (case a2_InvalidPart => k_is)
    (case b1_InvalidPart => k_is)
    (case b2_InvalidPart => decide +kernel)
    (case b3_InvalidPart => k_is)
    (case b4_InvalidPart => k_is)
    (case b5_InvalidPart => k_is)
    (case b6_InvalidPart => k_is)
    (case b7_InvalidPart => k_is)
    (case b8_InvalidPart => k_is)
    (case b9_InvalidPart => k_is)
    (case c1_InvalidPart => k_is)
    (case c2_InvalidPart => k_is)
    (case c3_InvalidPart => k_is)
    (case c4_InvalidPart => k_is)
    (case c5_InvalidPart => k_is)
    (case c6_InvalidPart => ks_is)
    (case c7_InvalidPart => k_is)
    (case c8_InvalidPart => k_is)
    (case e1_InvalidPart => k_is)
    (case e2_InvalidPart => k_is)
    (case e3_InvalidPart => k_is)
    (case e4_InvalidPart => k_is)
    (case e5_InvalidPart => rfl)
    (case e6_InvalidPart => first | rfl | decide +kernel)
    (case e7_InvalidPart => rfl)
    (case a1_InvalidRow => k_is)
    (case a2_InvalidRow => k_is)
    (case b1_InvalidRow => k_is)
    (case b2_InvalidRow => decide +kernel)
    (case b3_InvalidRow => k_is)
    (case b4_InvalidRow => k_is)
    (case b5_InvalidRow => k_is)
    (case b6_InvalidRow => k_is)
    (case b7_InvalidRow => k_is)
    (case b8_InvalidRow => k_is)
    (case b9_InvalidRow => k_is)
    (case c1_InvalidRow => k_is)
    (case c2_InvalidRow => k_is)
    (case c3_InvalidRow => k_is)
    (case c4_InvalidRow => k_is)
    (case c5_InvalidRow => k_is)
    (case c6_InvalidRow => ks_is)
    (case c7_InvalidRow => k_is)
    (case c8_InvalidRow => k_is)
    (case e1_InvalidRow => k_is)
    (case e2_InvalidRow => k_is)
    (case e3_InvalidRow => k_is)
    (case e4_InvalidRow => k_is)
    (case e5_InvalidRow => rfl)
    (case e6_InvalidRow => first | rfl | decide +kernel)
    (case e7_InvalidRow => rfl)
    (case sup_top => first | rfl | decide +kernel)
    (case z_super => k_is)
    (case g_gcd => k_is)
    (case x_UNIT_COLUMNS => k_is)
    (case l_UNIT_COLUMNS => k_is)
    (case l0_UNIT_COLUMNS => k_is)
    (case l1_UNIT_COLUMNS => k_is)
    (case l2_UNIT_COLUMNS => k_is)
    (case l3_UNIT_COLUMNS => k_is)
    (case x_UNIT_ROWS => k_is)
    (case l_UNIT_ROWS => k_is)
    (case l0_UNIT_ROWS => k_is)
    (case l1_UNIT_ROWS => k_is)
    (case l2_UNIT_ROWS => k_is)
    (case l3_UNIT_ROWS => k_is)
    (case z_all => k_is)
    (case z_any => k_is)
    (case z_bool => k_is)
    (case z_dict => k_is)
    (case z_enumerate => k_is)
    (case z_int => k_is)
    (case z_isinstance => k_is)
    (case z_len => k_is)
    (case z_list => k_is)
    (case z_max => k_is)
    (case z_min => k_is)
    (case z_range => k_is)
    (case z_repr => k_is)
    (case z_sum => k_is)
    (case z_tuple => k_is)
    (case z_zip => k_is)
    (case c_MOST_COSTS => k_is)
#print axioms PySem.Challenge.cw_seenchoices_k17_integers_or_a_sum_holds
