import PyProof.Rows.All
import Wide.All
import OpenK.AllK
import Wide.FinOn
import PyProof.ReprRoads
import HandS.ForMost
import HandS.Walk
import HandS.IsInst
import HandS.Wide
import HandS.WideBits
import HandS.TupAny
import HandS.Evl
import HandS.StrMore
import KE.KExcSuper
import HandS.Exc
import HandS.TryOnly
import HandS.ExcOwn
import HandS.WordsExc
import HandS.ExcField
import PyProof.ReprReads
import PyProof.StrHeap
import PyProof.FactsAll.list
import PyProof.FactsAll.tuple
import HandS.Gcd
import HandS.Zip
import HandS.Property
import HandS.MakeKwOnly
import HandS.ExcValue
import PyProof.CollectStr
import PyProof.Rows.SortShellAny
import HandS.Strs
import PyProof.SetRoads
import PyProof.FactsAll.subtypes_3
import KE.GoesMore
import PyProof.EnumMake
import PyProof.Draws
import PyProof.NeKinds
import PyProof.StrLawsRepr
import PySem.Challenge.RW_seenchoices_k05_schemes_refused
set_option Elab.async false
set_option linter.all false
set_option maxRecDepth 100000
set_option maxHeartbeats 4000000
/-! DL: readings at the level of data. A value of the heap bears a datum (Rp); an expression's rule tells, of data alone, what must hold so that what follows holds. -/
namespace DL
open PySem L2
open Evl (Ex)

/-- data -/
inductive D where
  | non | bl (b : Bool) | int (i : Int) | str (x : Str) | ty (n : String)
  | lst (ds : List D) | tup (ds : List D) | dct (ks : List Key) (ds : List D)
  | scr (ns : List Int) | box (a : Addr) | obj (n : Str) (ks : List Str) (ds : List D)

abbrev Fg := PySem.W.Frag
mutual
/-- at the heap G the value bears the datum -/
inductive Rp (K : Fg) (G : Hp) : V → D → Prop
  | non : Rp K G .non .non
  | bl (b : Bool) : Rp K G (.bl b) (.bl b)
  | int (i : Int) : Rp K G (.int i) (.int i)
  | str (x : Str) : Rp K G (.str x) (.str x)
  | ty (n : String) : Rp K G (.ty n) (.ty n)
  | lst {a : Addr} {xs : List V} {ds : List D} : G a = some (.lst xs) → RpA K G xs ds → Rp K G (.ref a) (.lst ds)
  | tup {a : Addr} {xs : List V} {ds : List D} : SqT K G a xs → RpA K G xs ds → Rp K G (.ref a) (.tup ds)
  | dct {a : Addr} {kvs : List (Key × V)} {ks : List Key} {vs : List V} {ds : List D} : G a = some (.dK kvs) → kvs.map (·.1) = ks → kvs.map (·.2) = vs → RpA K G vs ds → Rp K G (.ref a) (.dct ks ds)
  | scr {a : Addr} {ns : List Int} : SqL K G a (ns.map V.int) → Rp K G (.ref a) (.scr ns)
  | box (a : Addr) : Rp K G (.ref a) (.box a)
  | obj {a C dx : Addr} {fs : List (Str × V)} {n : Str} {ks : List Str} {vs : List V} {ds : List D} : PySem.W.nsIn K mainGlobals n = some (some (.ref C)) → G a = some (.ins C dx fs) → fs.map (·.1) = ks → fs.map (·.2) = vs → RpA K G vs ds → Rp K G (.ref a) (.obj n ks ds)
inductive RpA (K : Fg) (G : Hp) : List V → List D → Prop
  | nil : RpA K G [] []
  | cons {v : V} {d : D} {vs : List V} {ds : List D} : Rp K G v d → RpA K G vs ds → RpA K G (v :: vs) (d :: ds)
end
section
variable {K : Fg} {G G' : Hp}
mutual
theorem Rp.mono (e : Ex G G') : ∀ {v : V} {d : D}, Rp K G v d → Rp K G' v d
  | _, _, .non => .non
  | _, _, .bl b => .bl b
  | _, _, .int i => .int i
  | _, _, .str x => .str x
  | _, _, .ty n => .ty n
  | _, _, .lst h r => .lst (e _ _ h) (RpA.mono e r)
  | _, _, .tup h r => .tup (Evl.ex_t e h) (RpA.mono e r)
  | _, _, .dct h a b r => .dct (e _ _ h) a b (RpA.mono e r)
  | _, _, .scr h => .scr (Evl.ex_l e h)
  | _, _, .box a => .box a
  | _, _, .obj k h a b r => .obj k (e _ _ h) a b (RpA.mono e r)
theorem RpA.mono (e : Ex G G') : ∀ {vs : List V} {ds : List D}, RpA K G vs ds → RpA K G' vs ds
  | _, _, .nil => .nil
  | _, _, .cons r t => .cons (Rp.mono e r) (RpA.mono e t)
end
theorem RpA.len : ∀ {vs : List V} {ds : List D}, RpA K G vs ds → vs.length = ds.length
  | _, _, .nil => rfl
  | _, _, .cons _ t => by rw [List.length_cons, List.length_cons, RpA.len t]
theorem RpA.at : ∀ {vs : List V} {ds : List D} {i : Nat} {d : D}, RpA K G vs ds → ds[i]? = some d → ∃ v, vs[i]? = some v ∧ Rp K G v d
  | _, _, _, _, .nil, e => by simp at e
  | _, _, 0, _, .cons r _, e => by simp at e; subst e; exact ⟨_, rfl, r⟩
  | _, _, i + 1, d, .cons _ t, e => by
    obtain ⟨v, h1, h2⟩ := RpA.at (i := i) (d := d) t (by simpa using e)
    exact ⟨v, by simpa using h1, h2⟩
theorem RpA.app : ∀ {vs ws : List V} {ds es : List D}, RpA K G vs ds → RpA K G ws es → RpA K G (vs ++ ws) (ds ++ es)
  | _, _, _, _, .nil, s => s
  | _, _, _, _, .cons r t, s => .cons r (RpA.app t s)
theorem RpA.set {v : V} {d : D} (r : Rp K G v d) : ∀ {vs : List V} {ds : List D} (i : Nat), RpA K G vs ds → RpA K G (vs.set i v) (ds.set i d)
  | _, _, _, .nil => .nil
  | _, _, 0, .cons _ t => .cons r t
  | _, _, i + 1, .cons q t => .cons q (RpA.set r i t)
theorem RpA.drop : ∀ {vs : List V} {ds : List D} (n : Nat), RpA K G vs ds → RpA K G (vs.drop n) (ds.drop n)
  | _, _, 0, r => r
  | _, _, _ + 1, .nil => .nil
  | _, _, n + 1, .cons _ t => RpA.drop n t
theorem RpA.take : ∀ {vs : List V} {ds : List D} (n : Nat), RpA K G vs ds → RpA K G (vs.take n) (ds.take n)
  | _, _, 0, _ => .nil
  | _, _, _ + 1, .nil => .nil
  | _, _, n + 1, .cons r t => .cons r (RpA.take n t)
theorem RpA.rep : ∀ {vs : List V} {ds : List D} (n : Nat), RpA K G vs ds → RpA K G (List.replicate n vs).flatten (List.replicate n ds).flatten
  | _, _, 0, _ => .nil
  | vs, ds, n + 1, r => by
    rw [List.replicate_succ, List.replicate_succ, List.flatten_cons, List.flatten_cons]
    exact r.app (RpA.rep n r)
end

/-! ### the world: G stands for good, mu is owned (lists that may change), F is the frame -/
abbrev Mem := Addr → Option (List D)
def Mem.up (m : Mem) (a : Addr) (ds : List D) : Mem := fun b => if b = a then some ds else m b
theorem Mem.up_same {m : Mem} {a : Addr} {ds : List D} : m.up a ds a = some ds := if_pos rfl
theorem Mem.up_ne {m : Mem} {a b : Addr} {ds : List D} (h : b ≠ a) : m.up a ds b = m b := if_neg h
theorem Mem.up_up {m : Mem} {a : Addr} {ds es : List D} : (m.up a ds).up a es = m.up a es := by
  funext b; unfold Mem.up; split <;> rfl
structure Wd (K : Fg) (G : Hp) (m : Mem) (F : Hp) (H : Hp) : Prop where
  ex : Ex G H
  own : ∀ a ds, m a = some ds → G a = none ∧ F a = none ∧ ∃ xs, H a = some (.lst xs) ∧ RpA K G xs ds
  fr : ∀ a o, F a = some o → H a = some o
  frG : ∀ a o, F a = some o → G a = none
section
variable {K : Fg} {G G' : Hp} {m : Mem} {F H : Hp}
theorem Wd.fresh (W : Wd K G m F H) {p : Addr} (hp : H p = none) : G p = none ∧ m p = none ∧ F p = none := by
  refine ⟨?_, ?_, ?_⟩
  · cases e : G p with
    | none => rfl
    | some o => rw [W.ex p o e] at hp; cases hp
  · cases e : m p with
    | none => rfl
    | some ds =>
      obtain ⟨_, _, xs, h, _⟩ := W.own p ds e
      rw [h] at hp; cases hp
  · cases e : F p with
    | none => rfl
    | some o => rw [W.fr p o e] at hp; cases hp
/-- a new object that stands for good -/
theorem Wd.new (W : Wd K G m F H) {p : Addr} (hp : H p = none) (o : HO) : Ex G (upd G p o) ∧ Wd K (upd G p o) m F (upd H p o) := by
  obtain ⟨hG, hm, hF⟩ := W.fresh hp
  have e : Ex G (upd G p o) := Ex.new hG
  refine ⟨e, fun a u h => ?_, fun a ds h => ?_, fun a u h => ?_, fun a u h => ?_⟩
  · by_cases q : a = p
    · subst q; rw [upd_same] at h ⊢; exact h
    · rw [upd_ne q] at h ⊢; exact W.ex a u h
  · have q : a ≠ p := fun z => by subst z; rw [hm] at h; cases h
    obtain ⟨h1, h2, xs, h3, h4⟩ := W.own a ds h
    exact ⟨by rw [upd_ne q]; exact h1, h2, xs, by rw [upd_ne q]; exact h3, h4.mono e⟩
  · have q : a ≠ p := fun z => by subst z; rw [hF] at h; cases h
    rw [upd_ne q]; exact W.fr a u h
  · have q : a ≠ p := fun z => by subst z; rw [hF] at h; cases h
    rw [upd_ne q]; exact W.frG a u h
/-- a new owned list -/
theorem Wd.newOwn (W : Wd K G m F H) {p : Addr} (hp : H p = none) {xs : List V} {ds : List D} (r : RpA K G xs ds) : m p = none ∧ Wd K G (m.up p ds) F (upd H p (.lst xs)) := by
  obtain ⟨hG, hm, hF⟩ := W.fresh hp
  refine ⟨hm, fun a u h => ?_, fun a es h => ?_, fun a u h => ?_, W.frG⟩
  · have q : a ≠ p := fun z => by subst z; rw [hG] at h; cases h
    rw [upd_ne q]; exact W.ex a u h
  · by_cases q : a = p
    · subst q
      rw [Mem.up_same] at h
      cases h
      exact ⟨hG, hF, xs, upd_same, r⟩
    · rw [Mem.up_ne q] at h
      obtain ⟨h1, h2, ys, h3, h4⟩ := W.own a es h
      exact ⟨h1, h2, ys, by rw [upd_ne q]; exact h3, h4⟩
  · have q : a ≠ p := fun z => by subst z; rw [hF] at h; cases h
    rw [upd_ne q]; exact W.fr a u h
/-- an owned list is changed -/
theorem Wd.put (W : Wd K G m F H) {p : Addr} {ds0 : List D} (hp : m p = some ds0) {xs : List V} {ds : List D} (r : RpA K G xs ds) : Wd K G (m.up p ds) F (upd H p (.lst xs)) := by
  obtain ⟨hG, hF, _⟩ := W.own p ds0 hp
  refine ⟨fun a u h => ?_, fun a es h => ?_, fun a u h => ?_, W.frG⟩
  · have q : a ≠ p := fun z => by subst z; rw [hG] at h; cases h
    rw [upd_ne q]; exact W.ex a u h
  · by_cases q : a = p
    · subst q
      rw [Mem.up_same] at h
      cases h
      exact ⟨hG, hF, xs, upd_same, r⟩
    · rw [Mem.up_ne q] at h
      obtain ⟨h1, h2, ys, h3, h4⟩ := W.own a es h
      exact ⟨h1, h2, ys, by rw [upd_ne q]; exact h3, h4⟩
  · have q : a ≠ p := fun z => by subst z; rw [hF] at h; cases h
    rw [upd_ne q]; exact W.fr a u h
/-- a frame more: one new object -/
theorem Wd.frame (W : Wd K G m F H) {p : Addr} (hp : H p = none) (o : HO) : Wd K G m (upd F p o) (upd H p o) := by
  obtain ⟨hG, hm, hF⟩ := W.fresh hp
  refine ⟨fun a u h => ?_, fun a ds e => ?_, fun a u e => ?_, fun a u e => ?_⟩
  · have q : a ≠ p := fun z => by subst z; rw [hG] at h; cases h
    rw [upd_ne q]; exact W.ex a u h
  · have q : a ≠ p := fun z => by subst z; rw [hm] at e; cases e
    obtain ⟨h1, h2, xs, h3, h4⟩ := W.own a ds e
    exact ⟨h1, by rw [upd_ne q]; exact h2, xs, by rw [upd_ne q]; exact h3, h4⟩
  · by_cases q : a = p
    · subst q; rw [upd_same] at e ⊢; exact e
    · rw [upd_ne q] at e ⊢; exact W.fr a u e
  · by_cases q : a = p
    · subst q; exact hG
    · rw [upd_ne q] at e; exact W.frG a u e
/-- the frame's object is changed -/
theorem Wd.reframe {p : Addr} {o : HO} (W : Wd K G m (upd F p o) H) (o' : HO) : Wd K G m (upd F p o') (upd H p o') := by
  have hG : G p = none := W.frG p o upd_same
  have hm : m p = none := by
    cases e : m p with
    | none => rfl
    | some ds =>
      obtain ⟨_, h, _⟩ := W.own p ds e
      rw [upd_same] at h; cases h
  refine ⟨fun a u h => ?_, fun a ds e => ?_, fun a u e => ?_, fun a u e => ?_⟩
  · have q : a ≠ p := fun z => by subst z; rw [hG] at h; cases h
    rw [upd_ne q]; exact W.ex a u h
  · have q : a ≠ p := fun z => by subst z; rw [hm] at e; cases e
    obtain ⟨h1, h2, xs, h3, h4⟩ := W.own a ds e
    rw [upd_ne q] at h2
    exact ⟨h1, by rw [upd_ne q]; exact h2, xs, by rw [upd_ne q]; exact h3, h4⟩
  · by_cases q : a = p
    · subst q; rw [upd_same] at e ⊢; exact e
    · rw [upd_ne q] at e ⊢
      exact W.fr a u (by rw [upd_ne q]; exact e)
  · by_cases q : a = p
    · subst q; exact hG
    · rw [upd_ne q] at e
      exact W.frG a u (by rw [upd_ne q]; exact e)
/-- the frame's object stands for good from here on -/
theorem Wd.adopt {p : Addr} {o : HO} (W : Wd K G m (upd F p o) H) (hF : F p = none) : Ex G (upd G p o) ∧ Wd K (upd G p o) m F H := by
  have hG : G p = none := W.frG p o upd_same
  have e : Ex G (upd G p o) := Ex.new hG
  refine ⟨e, fun a u h => ?_, fun a ds h => ?_, fun a u h => ?_, fun a u h => ?_⟩
  · by_cases q : a = p
    · subst q; rw [upd_same] at h; cases h; exact W.fr _ _ upd_same
    · rw [upd_ne q] at h; exact W.ex a u h
  · obtain ⟨h1, h2, xs, h3, h4⟩ := W.own a ds h
    have q : a ≠ p := fun z => by subst z; rw [upd_same] at h2; cases h2
    rw [upd_ne q] at h2
    exact ⟨by rw [upd_ne q]; exact h1, h2, xs, h3, h4.mono e⟩
  · have q : a ≠ p := fun z => by subst z; rw [hF] at h; cases h
    exact W.fr a u (by rw [upd_ne q]; exact h)
  · have q : a ≠ p := fun z => by subst z; rw [hF] at h; cases h
    rw [upd_ne q]
    exact W.frG a u (by rw [upd_ne q]; exact h)
end

/-! ### slots -/
abbrev En0 := List (Option D)
inductive En (K : Fg) (G : Hp) : L2.St → En0 → Prop
  | nil : En K G [] []
  | skip {o : Option V} {σ : L2.St} {ρ : En0} : En K G σ ρ → En K G (o :: σ) (none :: ρ)
  | has {v : V} {d : D} {σ : L2.St} {ρ : En0} : Rp K G v d → En K G σ ρ → En K G (some v :: σ) (some d :: ρ)
section
variable {K : Fg} {G G' : Hp}
theorem En.mono (e : Ex G G') : ∀ {σ : L2.St} {ρ : En0}, En K G σ ρ → En K G' σ ρ
  | _, _, .nil => .nil
  | _, _, .skip t => .skip (En.mono e t)
  | _, _, .has r t => .has (r.mono e) (En.mono e t)
theorem En.get : ∀ {σ : L2.St} {ρ : En0} {i : Nat} {d : D}, En K G σ ρ → ρ[i]? = some (some d) → ∃ v, σ[i]? = some (some v) ∧ Rp K G v d
  | _, _, _, _, .nil, e => by simp at e
  | _, _, 0, _, .skip _, e => by simp at e
  | _, _, 0, _, .has r _, e => by simp at e; subst e; exact ⟨_, rfl, r⟩
  | _, _, i + 1, d, .skip t, e => by
    obtain ⟨v, h1, h2⟩ := En.get (i := i) (d := d) t (by simpa using e)
    exact ⟨v, by simpa using h1, h2⟩
  | _, _, i + 1, d, .has _ t, e => by
    obtain ⟨v, h1, h2⟩ := En.get (i := i) (d := d) t (by simpa using e)
    exact ⟨v, by simpa using h1, h2⟩
theorem En.put {v : V} {d : D} (r : Rp K G v d) : ∀ {σ : L2.St} {ρ : En0} (i : Nat), En K G σ ρ → En K G (σ.set i (some v)) (ρ.set i (some d))
  | _, _, _, .nil => .nil
  | _, _, 0, .skip t => .has r t
  | _, _, 0, .has _ t => .has r t
  | _, _, i + 1, .skip t => .skip (En.put r i t)
  | _, _, i + 1, .has q t => .has q (En.put r i t)
theorem En.del : ∀ {σ : L2.St} {ρ : En0} (i : Nat), En K G σ ρ → En K G (σ.set i none) (ρ.set i none)
  | _, _, _, .nil => .nil
  | _, _, 0, .skip t => .skip t
  | _, _, 0, .has _ t => .skip t
  | _, _, i + 1, .skip t => .skip (En.del i t)
  | _, _, i + 1, .has q t => .has q (En.del i t)
def wipeD (ρ : En0) : List Nat → En0
  | [] => ρ
  | v :: vs => (wipeD ρ vs).set v none
theorem En.wipe {σ : L2.St} {ρ : En0} (e : En K G σ ρ) : ∀ vs : List Nat, En K G (L2.wipe σ vs) (wipeD ρ vs)
  | [] => e
  | v :: vs => (En.wipe e vs).del v
theorem En.blank : ∀ (σ : L2.St), En K G σ (List.replicate σ.length Option.none)
  | [] => .nil
  | o :: σ => .skip (En.blank σ)
theorem En.start : ∀ {vs : List V} {ds : List D} (n : Nat), RpA K G vs ds → En K G (vs.map some ++ List.replicate n none) (ds.map some ++ List.replicate n none)
  | _, _, n, .nil => by
    have q := En.blank (K := K) (G := G) (List.replicate n Option.none)
    rw [List.length_replicate] at q
    exact q
  | _, _, n, .cons r t => .has r (En.start n t)
end

/-! ### readings by data -/
/-- an exception: its class's name, its field -/
structure Xn where
  cls : Str
  fld : Str
  val : D
abbrev XQ := Xn → Mem → Prop
abbrev WE := En0 → Mem → (D → Mem → Prop) → XQ → Prop
abbrev WT := En0 → Mem → (Bool → Mem → Prop) → XQ → Prop
abbrev WA := En0 → Mem → (List D → Mem → Prop) → XQ → Prop
abbrev WO := En0 → Mem → (Option Int → Mem → Prop) → XQ → Prop
structure De where
  nx : En0 → Mem → Prop
  rt : D → Mem → Prop
  bk : En0 → Mem → Prop := fun _ _ => False
  ct : En0 → Mem → Prop := fun _ _ => False
  ex : XQ := fun _ _ => False
abbrev WS := De → En0 → Mem → Prop
/-- the exception's own dict bears its field -/
def Xr (K : Fg) (G : Hp) (x : Xn) (d : Option Addr) : Prop := ∃ dd v, d = some dd ∧ G dd = some (.xd [(x.fld, v)]) ∧ Rp K G v x.val
theorem Xr.mono {K : Fg} {G G' : Hp} {x : Xn} {d : Option Addr} (e : Ex G G') (h : Xr K G x d) : Xr K G' x d := by
  obtain ⟨dd, v, h1, h2, h3⟩ := h
  exact ⟨dd, v, h1, e _ _ h2, h3.mono e⟩
/-- a wish about exceptions, by the class's name -/
abbrev Wx := Str → Option Addr → L2.St → Hp → Prop
/-- what is raised is what W wishes -/
def FitX (K : Fg) (W : Wx) (G : Hp) (F : Hp) (Qx : XQ) : Prop := ∀ x m' d σ' G' H', Qx x m' → Ex G G' → Wd K G' m' F H' → Xr K G' x d → W x.cls d σ' H'
theorem FitX.mono {K : Fg} {W : Wx} {G G' : Hp} {F : Hp} {Qx : XQ} (f : FitX K W G F Qx) (e : Ex G G') : FitX K W G' F Qx := fun x m' d σ' G2 H' q e2 => f x m' d σ' G2 H' q (e.trans e2)
def FitE (K : Fg) (G : Hp) (F : Hp) (Q : VK) (Qd : D → Mem → Prop) : Prop := ∀ d m' v G' H', Qd d m' → Ex G G' → Wd K G' m' F H' → Rp K G' v d → Q v H'
def LiftE (K : Fg) (W : Wx) (t : TE) (w : WE) : Prop := ∀ G m F H σ ρ (Q : VK) (Qd : D → Mem → Prop) (Qx : XQ), Wd K G m F H → En K G σ ρ → w ρ m Qd Qx → FitX K W G F Qx → FitE K G F Q Qd → t σ H Q
def LiftT (K : Fg) (W : Wx) (t : TT) (w : WT) : Prop := ∀ G m F H σ ρ (Q : Bool → Hp → Prop) (Qd : Bool → Mem → Prop) (Qx : XQ), Wd K G m F H → En K G σ ρ → w ρ m Qd Qx → FitX K W G F Qx →
  (∀ b m' G' H', Qd b m' → Ex G G' → Wd K G' m' F H' → Q b H') → t σ H Q
def LiftO (K : Fg) (W : Wx) (t : TO) (w : WO) : Prop := ∀ G m F H σ ρ (Q : Option Int → Hp → Prop) (Qd : Option Int → Mem → Prop) (Qx : XQ), Wd K G m F H → En K G σ ρ → w ρ m Qd Qx → FitX K W G F Qx →
  (∀ b m' G' H', Qd b m' → Ex G G' → Wd K G' m' F H' → Q b H') → t σ H Q
def LiftA (K : Fg) (W : Wx) (t : TA) (w : WA) : Prop := ∀ G m F H σ ρ (Q : List V → Hp → Prop) (Qd : List D → Mem → Prop) (Qx : XQ), Wd K G m F H → En K G σ ρ → w ρ m Qd Qx → FitX K W G F Qx →
  (∀ ds m' vs G' H', Qd ds m' → Ex G G' → Wd K G' m' F H' → RpA K G' vs ds → Q vs H') → t σ H Q
structure FitS (K : Fg) (W : Wx) (G : Hp) (F : Hp) (E : De) (S : Ends) : Prop where
  nx : ∀ ρ' m' σ' G' H', E.nx ρ' m' → Ex G G' → Wd K G' m' F H' → En K G' σ' ρ' → S.nx σ' H'
  rt : ∀ d m' v G' H', E.rt d m' → Ex G G' → Wd K G' m' F H' → Rp K G' v d → S.rt v H'
  bk : ∀ ρ' m' σ' G' H', E.bk ρ' m' → Ex G G' → Wd K G' m' F H' → En K G' σ' ρ' → S.bk σ' H'
  ct : ∀ ρ' m' σ' G' H', E.ct ρ' m' → Ex G G' → Wd K G' m' F H' → En K G' σ' ρ' → S.ct σ' H'
  ex : FitX K W G F E.ex
theorem FitS.mono {K : Fg} {W : Wx} {G G' : Hp} {F : Hp} {E : De} {S : Ends} (f : FitS K W G F E S) (e : Ex G G') : FitS K W G' F E S :=
  ⟨fun a b c G2 H' q e2 => f.nx a b c G2 H' q (e.trans e2), fun a b c G2 H' q e2 => f.rt a b c G2 H' q (e.trans e2), fun a b c G2 H' q e2 => f.bk a b c G2 H' q (e.trans e2), fun a b c G2 H' q e2 => f.ct a b c G2 H' q (e.trans e2), f.ex.mono e⟩
def LiftS (K : Fg) (W : Wx) (t : TS) (w : WS) : Prop := ∀ G m F H σ ρ (S : Ends) (E : De), Wd K G m F H → En K G σ ρ → w E ρ m → FitS K W G F E S → t S σ H

/-- a family of contexts of one def -/
structure Fam (P : Program) (w : World) (K : Fg) (mg : Str → Option Value) (base : Heap) (k : Nat) (N : List Str) {ι : Type} (X : ι → Cx) : Prop where
  prog : ∀ i, (X i).prog = P
  w : ∀ i, (X i).w = w
  K : ∀ i, (X i).K = K
  mg : ∀ i, (X i).mg = mg
  base : ∀ i, (X i).base = base
  hN : ∀ i, (X i).N = N
  calm : ∀ i, (X i).calm = true
  room : ∀ i, Room k (X i).A
  nd : N.Nodup

def PD (K : Fg) (W : Wx) {ι : Type} (X : ι → Cx) (e : Expr) (w : WE) : Prop := ∃ t, (∀ i, PE (X i) e t) ∧ LiftE K W t w
def PDT (K : Fg) (W : Wx) {ι : Type} (X : ι → Cx) (e : Expr) (w : WT) : Prop := ∃ t, (∀ i, PT (X i) e t) ∧ LiftT K W t w
def PDW (K : Fg) (W : Wx) {ι : Type} (X : ι → Cx) (e : Expr) (w : WT) : Prop := ∃ t, (∀ i, PW (X i) e t) ∧ LiftT K W t w
def PDO (K : Fg) (W : Wx) {ι : Type} (X : ι → Cx) (e : Option Expr) (w : WO) : Prop := ∃ t, (∀ i, PO (X i) e t) ∧ LiftO K W t w
def PDA (K : Fg) (W : Wx) {ι : Type} (X : ι → Cx) (es : List Expr) (w : WA) : Prop := ∃ t, (∀ i, PA (X i) es t) ∧ LiftA K W t w
def PDS (K : Fg) (W : Wx) {ι : Type} (X : ι → Cx) (s : Stmt) (w : WS) : Prop := ∃ t, (∀ i, PS (X i) s t) ∧ LiftS K W t w
def PDB (K : Fg) (W : Wx) {ι : Type} (X : ι → Cx) (s : List Stmt) (w : WS) : Prop := ∃ t, (∀ i, PSs (X i) s t) ∧ LiftS K W t w

/-! ### names, constants -/
def wVar (i : Nat) : WE := fun ρ m Q _ => match ρ[i]? with
  | some (some d) => Q d m
  | _ => False
def wC (d : D) : WE := fun _ m Q _ => Q d m
section
variable {K : Fg} {W : Wx} {ι : Type} {X : ι → Cx} {pos : Pos}
theorem lift_var {i : Nat} : LiftE K W (tVar i) (wVar i) := by
  intro G m F H σ ρ Q Qd Qx hW hE h hX hQ
  unfold wVar at h
  split at h
  · rename_i d e
    obtain ⟨v, h1, h2⟩ := hE.get e
    exact ⟨v, h1, hQ d m v G H h (Ex.refl G) hW h2⟩
  · cases h
theorem pd_var (i : Nat) {N : List Str} {x : Str} (hX : ∀ j, (X j).N = N) (hN : N[i]? = some x := by rfl) (hv : ∀ j, Vis (X j).env.scope x := by intro _; first | exact Or.inl rfl | exact Or.inr (Or.inl rfl) | exact Or.inr (Or.inr rfl)) (hd : (x == ("__debug__" : Str)) = false := by decide) (hc : (x == ("__classdict__" : Str)) = false := by decide) : PD K W X (.Name x pos) (wVar i) :=
  ⟨tVar i, fun j => pe_var (by rw [hX j]; exact hN) (hv j) hd hc, lift_var⟩
theorem lift_c {v : V} {d : D} (r : ∀ G, Rp K G v d) : LiftE K W (tC v) (wC d) := fun G m F H σ ρ Q Qd Qx hW hE h hX hQ => hQ d m v G H h (Ex.refl G) hW (r G)
theorem pd_int {i : Int} {j : Nat} : PD K W X (.Constant (.int i) j pos) (wC (.int i)) := ⟨_, fun _ => pe_int, lift_c fun _ => .int i⟩
theorem pd_bl {b : Bool} {j : Nat} : PD K W X (.Constant (.bool b) j pos) (wC (.bl b)) := ⟨_, fun _ => pe_bl, lift_c fun _ => .bl b⟩
theorem pd_non {j : Nat} : PD K W X (.Constant .none j pos) (wC .non) := ⟨_, fun _ => pe_non, lift_c fun _ => .non⟩
theorem pd_str {x : Str} {j : Nat} : PD K W X (.Constant (.str x) j pos) (wC (.str x)) := ⟨_, fun _ => pe_str, lift_c fun _ => .str x⟩
/-- a built-in type's name as a value -/
theorem pd_ty {mg : Str → Option Value} {x : Str} {n : String} (hX : ∀ j, (X j).mg = mg) (hm : mg x = none) (hv : bootBuiltins x = some (.type n)) (hg : ∀ j, Gl (X j) x := by intro _; rfl) (hn : x ≠ "__name__" := by decide) (hd : (x == ("__debug__" : Str)) = false := by decide) :
    PD K W X (.Name x pos) (wC (.ty n)) := ⟨tC (.ty n), fun j => pe_bltn (hg j) (by rw [hX j]; exact hm) hv rfl hn hd, lift_c fun _ => .ty n⟩
/-- a constant of the module -/
theorem pd_glob {mg : Str → Option Value} {x : Str} {v : V} {u : Value} {d : D} (hX : ∀ j, (X j).mg = mg) (hm : mg x = some u) (r : RelV v u) (rp : ∀ G, Rp K G v d) (hg : ∀ j, Gl (X j) x := by intro _; rfl) (hd : (x == ("__debug__" : Str)) = false := by decide) :
    PD K W X (.Name x pos) (wC d) := ⟨_, fun j => pe_glob (hg j) (by rw [hX j]; exact hm) r hd, lift_c rp⟩
theorem pd_globI {mg : Str → Option Value} {x : Str} {i : Int} (hX : ∀ j, (X j).mg = mg) (hm : ∃ t, mg x = some (.int i t)) (hg : ∀ j, Gl (X j) x := by intro _; rfl) (hd : (x == ("__debug__" : Str)) = false := by decide) : PD K W X (.Name x pos) (wC (.int i)) := by
  obtain ⟨t, hm⟩ := hm
  exact pd_glob (v := V.int i) hX hm ⟨t, rfl⟩ (fun _ => .int i) hg hd
end

/-! ### operators -/
abbrev WR := D → D → Mem → (D → Mem → Prop) → Prop
def LiftR (K : Fg) (r : R2) (w : WR) : Prop := ∀ G m F H x y dx dy (Q : VK) (Qd : D → Mem → Prop), Wd K G m F H → Rp K G x dx → Rp K G y dy → w dx dy m Qd → FitE K G F Q Qd → r x y H Q
def wOp (r : WR) (a b : WE) : WE := fun ρ m Q Qx => a ρ m (fun x m1 => b ρ m1 (fun y m2 => r x y m2 Q) Qx) Qx
theorem lift_op {K : Fg} {W : Wx} {r : R2} {w : WR} {ta tb : TE} {a b : WE} (hr : LiftR K r w) (ha : LiftE K W ta a) (hb : LiftE K W tb b) : LiftE K W (tOp r ta tb) (wOp w a b) := by
  intro G m F H σ ρ Q Qd Qx hW hE h hX hQ
  refine ha G m F H σ ρ _ _ Qx hW hE h hX ?_
  intro dx m1 x G1 H1 h1 e1 W1 r1
  refine hb G1 m1 F H1 σ ρ _ _ Qx W1 (hE.mono e1) h1 (hX.mono e1) ?_
  intro dy m2 y G2 H2 h2 e2 W2 r2
  exact hr G2 m2 F H2 x y dx dy Q Qd W2 (r1.mono e2) r2 h2 fun d m' v G' H' q e => hQ d m' v G' H' q ((e1.trans e2).trans e)
theorem LiftR.or {K : Fg} {r r' : R2} {w w' : WR} (h : LiftR K r w) (h' : LiftR K r' w') : LiftR K (fun x y H Q => r x y H Q ∨ r' x y H Q) (fun x y m Q => w x y m Q ∨ w' x y m Q) := by
  intro G m F H x y dx dy Q Qd hW rx ry h0 hQ
  rcases h0 with h0 | h0
  · exact Or.inl (h G m F H x y dx dy Q Qd hW rx ry h0 hQ)
  · exact Or.inr (h' G m F H x y dx dy Q Qd hW rx ry h0 hQ)
theorem LiftR.imp {K : Fg} {r : R2} {w w' : WR} (h : LiftR K r w) (hi : ∀ x y m Q, w' x y m Q → w x y m Q) : LiftR K r w' := fun G m F H x y dx dy Q Qd hW rx ry h0 hQ => h G m F H x y dx dy Q Qd hW rx ry (hi dx dy m Qd h0) hQ

theorem FitE.here {K : Fg} {G F H : Hp} {m : Mem} {Q : VK} {Qd : D → Mem → Prop} (hQ : FitE K G F Q Qd) (hW : Wd K G m F H) {d : D} {v : V} (q : Qd d m) (r : Rp K G v d) : Q v H := hQ d m v G H q (Ex.refl G) hW r
/-- a new list, a new tuple -/
theorem FitE.lst {K : Fg} {G F H : Hp} {m : Mem} {Q : VK} {Qd : D → Mem → Prop} (hQ : FitE K G F Q Qd) (hW : Wd K G m F H) {ds : List D} {xs : List V} (q : Qd (.lst ds) m) (r : RpA K G xs ds) : ∀ p, H p = none → Q (.ref p) (upd H p (.lst xs)) := fun p hp => by
  obtain ⟨e, W'⟩ := hW.new hp (.lst xs)
  exact hQ _ m _ _ _ q e W' (.lst upd_same (r.mono e))
theorem FitE.tup {K : Fg} {G F H : Hp} {m : Mem} {Q : VK} {Qd : D → Mem → Prop} (hQ : FitE K G F Q Qd) (hW : Wd K G m F H) {ds : List D} {xs : List V} (q : Qd (.tup ds) m) (r : RpA K G xs ds) : ∀ p, H p = none → Q (.ref p) (upd H p (.tup xs)) := fun p hp => by
  obtain ⟨e, W'⟩ := hW.new hp (.tup xs)
  exact hQ _ m _ _ _ q e W' (.tup (SqT.of upd_same) (r.mono e))
theorem Rp.seqT {K : Fg} {G H : Hp} {a : Addr} {ds : List D} (e : Ex G H) (r : Rp K G (.ref a) (.tup ds)) : ∃ xs, SqT K H a xs ∧ RpA K G xs ds := by
  cases r with
  | tup h q => exact ⟨_, Evl.ex_t e h, q⟩

/-! ### + - * // % ** -/
def dAdd : WR := fun x y m Q => match x, y with
  | .int i, .int j => Q (.int (i + j)) m
  | .str a, .str b => a.length + b.length ≤ sizeLine ∧ Q (.str (a ++ b)) m
  | .lst a, .lst b => a.length + b.length ≤ sizeLine ∧ Q (.lst (a ++ b)) m
  | .tup a, .tup b => a.length + b.length ≤ sizeLine ∧ Q (.tup (a ++ b)) m
  | _, _ => False
def rAdd (K : Fg) : R2 := fun x y H Q => (rI0 (fun i j => .int (i + j)) x y H Q ∨ (∃ i j, x = .str i ∧ y = .str j ∧ i.length + j.length ≤ sizeLine ∧ Q (.str (i ++ j)) H)) ∨ (rCat x y H Q ∨ rCatA K x y H Q)
theorem op_addU {X : Cx} : OpR X (binaryOp .Add) (rAdd X.K) := (op_add.or op_add_str).or (op_cat.or op_catA)
theorem lift_add {K : Fg} : LiftR K (rAdd K) dAdd := by
  intro G m F H x y dx dy Q Qd hW rx ry h hQ
  cases rx <;> cases ry <;> first | exact (show False from h).elim | skip
  case int.int i j => exact Or.inl (Or.inl ⟨i, j, rfl, rfl, hQ.here hW h (.int _)⟩)
  case str.str a b => exact Or.inl (Or.inr ⟨a, b, rfl, rfl, h.1, hQ.here hW h.2 (.str _)⟩)
  case lst.lst a xs ds h1 r1 b ys es h2 r2 =>
    refine Or.inr (Or.inl ⟨a, b, xs, ys, rfl, rfl, hW.ex _ _ h1, hW.ex _ _ h2, by rw [r1.len, r2.len]; exact h.1, ?_⟩)
    exact hQ.lst hW h.2 (r1.app r2)
  case tup.tup a xs ds h1 r1 b ys es h2 r2 =>
    refine Or.inr (Or.inr ⟨a, b, xs, ys, rfl, rfl, Evl.ex_t hW.ex h1, Evl.ex_t hW.ex h2, by rw [r1.len, r2.len]; exact h.1, fun e => ?_, fun _ e => ?_, fun _ _ => hQ.tup hW h.2 (r1.app r2)⟩)
    · subst e
      cases r1
      exact hQ.here hW h.2 (.tup h2 r2)
    · subst e
      cases r2
      have q := h.2
      rw [List.append_nil] at q
      exact hQ.here hW q (.tup h1 r1)
def dSub : WR := fun x y m Q => match x, y with
  | .int i, .int j => Q (.int (i - j)) m
  | _, _ => False
theorem lift_sub {K : Fg} : LiftR K (rI0 fun i j => .int (i - j)) dSub := by
  intro G m F H x y dx dy Q Qd hW rx ry h hQ
  cases rx <;> cases ry <;> first | exact (show False from h).elim | skip
  case int.int i j => exact ⟨i, j, rfl, rfl, hQ.here hW h (.int _)⟩
def dMul : WR := fun x y m Q => match x, y with
  | .int i, .int j => (CMul i j ∨ CMulW i j) ∧ Q (.int (i * j)) m
  | .lst a, .int k => (-(2 ^ 63) ≤ k ∧ k < 2 ^ 63 ∧ a.length * k.toNat ≤ sizeLine) ∧ Q (.lst (List.replicate k.toNat a).flatten) m
  | _, _ => False
def rMul : R2 := fun x y H Q => (rI CMul (fun i j => .int (i * j)) x y H Q ∨ rI CMulW (fun i j => .int (i * j)) x y H Q) ∨ rRep x y H Q
theorem op_mulU {X : Cx} : OpR X (binaryOp .Mult) rMul := (op_mul.or op_mulW).or op_rep
theorem lift_mul {K : Fg} : LiftR K rMul dMul := by
  intro G m F H x y dx dy Q Qd hW rx ry h hQ
  cases rx <;> cases ry <;> first | exact (show False from h).elim | skip
  case int.int i j =>
    rcases h.1 with c | c
    · exact Or.inl (Or.inl ⟨i, j, rfl, rfl, c, hQ.here hW h.2 (.int _)⟩)
    · exact Or.inl (Or.inr ⟨i, j, rfl, rfl, c, hQ.here hW h.2 (.int _)⟩)
  case lst.int a xs ds h1 r1 k =>
    exact Or.inr ⟨a, k, xs, rfl, rfl, hW.ex _ _ h1, h.1.1, h.1.2.1, by rw [r1.len]; exact h.1.2.2, hQ.lst hW h.2 (r1.rep _)⟩
def dDiv : WR := fun x y m Q => match x, y with
  | .int i, .int j => CDivW i j ∧ Q (.int (i / j)) m
  | _, _ => False
theorem lift_div {K : Fg} : LiftR K (rI CDivW fun i j => .int (i / j)) dDiv := by
  intro G m F H x y dx dy Q Qd hW rx ry h hQ
  cases rx <;> cases ry <;> first | exact (show False from h).elim | skip
  case int.int i j => exact ⟨i, j, rfl, rfl, h.1, hQ.here hW h.2 (.int _)⟩
def dMod : WR := fun x y m Q => match x, y with
  | .int i, .int j => 0 < j ∧ Q (.int (i % j)) m
  | _, _ => False
theorem lift_mod {K : Fg} : LiftR K (rI (fun _ j => 0 < j) fun i j => .int (i % j)) dMod := by
  intro G m F H x y dx dy Q Qd hW rx ry h hQ
  cases rx <;> cases ry <;> first | exact (show False from h).elim | skip
  case int.int i j => exact ⟨i, j, rfl, rfl, h.1, hQ.here hW h.2 (.int _)⟩
def dPow : WR := fun x y m Q => match x, y with
  | .int i, .int j => CPow i j ∧ Q (.int (i ^ j.toNat)) m
  | _, _ => False
theorem lift_pow {K : Fg} : LiftR K (rI CPow fun i j => .int (i ^ j.toNat)) dPow := by
  intro G m F H x y dx dy Q Qd hW rx ry h hQ
  cases rx <;> cases ry <;> first | exact (show False from h).elim | skip
  case int.int i j => exact ⟨i, j, rfl, rfl, h.1, hQ.here hW h.2 (.int _)⟩

/-! ### comparisons -/
mutual
/-- data as the library's plain data; what is no list, tuple or flat thing becomes a dict (which no rule takes) -/
def py : D → PyData
  | .non => .none
  | .bl b => .bool b
  | .int i => .int i
  | .str x => .str x
  | .lst ds => .list (pyA ds)
  | .tup ds => .tuple (pyA ds)
  | .scr ns => .list (ns.map .int)
  | .ty _ => .dict [] | .dct _ _ => .dict [] | .box _ => .dict [] | .obj _ _ _ => .dict []
def pyA : List D → List PyData
  | [] => []
  | d :: ds => py d :: pyA ds
end
theorem dp_ints {K : Fg} {H : Hp} : ∀ ns : List Int, DpAll K H (ns.map V.int) (ns.map PyData.int)
  | [] => .nil
  | n :: ns => .cons (.int n) (dp_ints ns)
mutual
theorem dp_of {K : Fg} {G H : Hp} (e : Ex G H) : ∀ (d : D) {v : V}, Rp K G v d → (py d).canLay0 = true → Dp K H v (py d)
  | .non, _, r, _ => by cases r; exact .non
  | .bl b, _, r, _ => by cases r; exact .bl b
  | .int i, _, r, _ => by cases r; exact .int i
  | .str x, _, r, _ => by cases r; exact .str x
  | .lst ds, _, r, c => by
    cases r with
    | lst h q => exact .lst (SqL.of (e _ _ h)) (dpa_of e ds q (by simpa [py, PyData.canLay0] using c))
  | .tup ds, _, r, c => by
    cases r with
    | tup h q => exact .tup (Evl.ex_t e h) (dpa_of e ds q (by simpa [py, PyData.canLay0] using c))
  | .scr ns, _, r, c => by
    cases r with
    | scr h => exact .lst (Evl.ex_l e h) (dp_ints ns)
  | .ty _, _, _, c => by simp [py, PyData.canLay0] at c
  | .dct _ _, _, _, c => by simp [py, PyData.canLay0] at c
  | .box _, _, _, c => by simp [py, PyData.canLay0] at c
  | .obj _ _ _, _, _, c => by simp [py, PyData.canLay0] at c
theorem dpa_of {K : Fg} {G H : Hp} (e : Ex G H) : ∀ (ds : List D) {vs : List V}, RpA K G vs ds → PyData.canLayAll0 (pyA ds) = true → DpAll K H vs (pyA ds)
  | [], _, r, _ => by cases r; exact .nil
  | d :: ds, _, r, c => by
    cases r with
    | cons r t =>
      have c' : (py d).canLay0 = true ∧ PyData.canLayAll0 (pyA ds) = true := by simpa [pyA, PyData.canLayAll0] using c
      exact .cons (dp_of e d r c'.1) (dpa_of e ds t c'.2)
end
def dEqB (b : Bool) : WR := fun x y m Q => match x, y with
  | .int i, .int j => Q (.bl (decide (i = j) ^^ b)) m
  | .str i, .str j => Q (.bl (decide (i = j) ^^ b)) m
  | .bl i, .bl j => Q (.bl (decide (i = j) ^^ b)) m
  | x, y => SeqAt.shaped (py x) = true ∧ SeqAt.shaped (py y) = true ∧ Q (.bl (PyData.eqv (py x) (py y) ^^ b)) m
abbrev dEq : WR := dEqB false
abbrev dNe : WR := dEqB true
def rEqU (K : Fg) : R2 := fun x y H Q => rEq x y H Q ∨ rEqD K x y H Q
def rNeU (K : Fg) : R2 := fun x y H Q => rNe x y H Q ∨ rNeD K x y H Q
theorem op_eqU {X : Cx} (hu : X.A.units + 64 < cLine) : OpR X (compareOp .Eq) (rEqU X.K) := op_eq.or (op_eqD hu)
theorem op_neU {X : Cx} (hu : X.A.units + 64 < cLine) : OpR X (compareOp .NotEq) (rNeU X.K) := op_ne.or (op_neD hu)
theorem shaped_lay {d : PyData} (h : SeqAt.shaped d = true) : d.canLay0 = true := SeqAt.canLay_of_shaped h
theorem eq_gen {K : Fg} {G H : Hp} {x y : V} {dx dy : D} (e : Ex G H) (rx : Rp K G x dx) (ry : Rp K G y dy) (h1 : SeqAt.shaped (py dx) = true) (h2 : SeqAt.shaped (py dy) = true) :
    Dp K H x (py dx) ∧ Dp K H y (py dy) := ⟨dp_of e dx rx (shaped_lay h1), dp_of e dy ry (shaped_lay h2)⟩
theorem lift_eq {K : Fg} : LiftR K (rEqU K) dEq := by
  intro G m F H x y dx dy Q Qd hW rx ry h hQ
  unfold dEq dEqB at h
  split at h
  · cases rx; cases ry
    refine Or.inl ⟨rfl, ?_⟩
    rename_i i j
    have e : decide (V.int i = V.int j) = (decide (i = j) ^^ false) := by simp
    rw [e]; exact hQ.here hW h (.bl _)
  · cases rx; cases ry
    refine Or.inl ⟨rfl, ?_⟩
    rename_i i j
    have e : decide (V.str i = V.str j) = (decide (i = j) ^^ false) := by simp
    rw [e]; exact hQ.here hW h (.bl _)
  · cases rx; cases ry
    refine Or.inl ⟨rfl, ?_⟩
    rename_i i j
    have e : decide (V.bl i = V.bl j) = (decide (i = j) ^^ false) := by simp
    rw [e]; exact hQ.here hW h (.bl _)
  · obtain ⟨h1, h2, h3⟩ := h
    obtain ⟨p1, p2⟩ := eq_gen hW.ex rx ry h1 h2
    rw [Bool.xor_false] at h3
    exact Or.inr ⟨_, _, p1, p2, h1, h2, hQ.here hW h3 (.bl _)⟩
theorem lift_ne {K : Fg} : LiftR K (rNeU K) dNe := by
  intro G m F H x y dx dy Q Qd hW rx ry h hQ
  unfold dNe dEqB at h
  split at h
  · cases rx; cases ry
    refine Or.inl ⟨rfl, ?_⟩
    rename_i i j
    have e : (!decide (V.int i = V.int j)) = (decide (i = j) ^^ true) := by simp
    rw [e]; exact hQ.here hW h (.bl _)
  · cases rx; cases ry
    refine Or.inl ⟨rfl, ?_⟩
    rename_i i j
    have e : (!decide (V.str i = V.str j)) = (decide (i = j) ^^ true) := by simp
    rw [e]; exact hQ.here hW h (.bl _)
  · cases rx; cases ry
    refine Or.inl ⟨rfl, ?_⟩
    rename_i i j
    have e : (!decide (V.bl i = V.bl j)) = (decide (i = j) ^^ true) := by simp
    rw [e]; exact hQ.here hW h (.bl _)
  · obtain ⟨h1, h2, h3⟩ := h
    obtain ⟨p1, p2⟩ := eq_gen hW.ex rx ry h1 h2
    rw [Bool.xor_true] at h3
    exact Or.inr ⟨_, _, p1, p2, h1, h2, hQ.here hW h3 (.bl _)⟩
def dCmp (fi : Int → Int → Bool) (fs : List Nat → List Nat → Bool) : WR := fun x y m Q => match x, y with
  | .int i, .int j => Q (.bl (fi i j)) m
  | .str a, .str b => Q (.bl (fs a.cps.toList b.cps.toList)) m
  | _, _ => False
def rCmp (fi : Int → Int → Bool) (fs : List Nat → List Nat → Bool) : R2 := fun x y H Q => rI0 (fun i j => .bl (fi i j)) x y H Q ∨ (∃ i j, x = .str i ∧ y = .str j ∧ Q (.bl (fs i.cps.toList j.cps.toList)) H)
theorem lift_cmp {K : Fg} {fi : Int → Int → Bool} {fs : List Nat → List Nat → Bool} : LiftR K (rCmp fi fs) (dCmp fi fs) := by
  intro G m F H x y dx dy Q Qd hW rx ry h hQ
  cases rx <;> cases ry <;> first | exact (show False from h).elim | skip
  case int.int i j => exact Or.inl ⟨i, j, rfl, rfl, hQ.here hW h (.bl _)⟩
  case str.str i j => exact Or.inr ⟨i, j, rfl, rfl, hQ.here hW h (.bl _)⟩
abbrev dLt : WR := dCmp (fun i j => decide (i < j)) (fun a b => decide (a < b))
abbrev dLe : WR := dCmp (fun i j => decide (i ≤ j)) (fun a b => !decide (b < a))
abbrev dGt : WR := dCmp (fun i j => decide (j < i)) (fun a b => decide (b < a))
abbrev dGe : WR := dCmp (fun i j => decide (j ≤ i)) (fun a b => !decide (a < b))
theorem op_ltU {X : Cx} : OpR X (compareOp .Lt) (rCmp (fun i j => decide (i < j)) (fun a b => decide (a < b))) := op_lt.or op_lt_str
theorem op_leU {X : Cx} : OpR X (compareOp .LtE) (rCmp (fun i j => decide (i ≤ j)) (fun a b => !decide (b < a))) := op_le.or op_le_str
theorem op_gtU {X : Cx} : OpR X (compareOp .Gt) (rCmp (fun i j => decide (j < i)) (fun a b => decide (b < a))) := op_gt.or op_gt_str
theorem op_geU {X : Cx} : OpR X (compareOp .GtE) (rCmp (fun i j => decide (j ≤ i)) (fun a b => !decide (a < b))) := op_ge.or op_ge_str
/-- flat data, their equality -/
def flatD : D → Bool
  | .non => true | .bl _ => true | .int _ => true | .str _ => true | _ => false
def eqD : D → D → Bool
  | .non, .non => true
  | .bl a, .bl b => a == b
  | .bl a, .int b => (if a then 1 else 0) == b
  | .int a, .bl b => a == (if b then 1 else 0)
  | .int a, .int b => a == b
  | .str a, .str b => a == b
  | _, _ => false
def inD (x : D) (ds : List D) : Bool := ds.any fun y => eqD y x
theorem flat_of {K : Fg} {G : Hp} {v : V} {d : D} (r : Rp K G v d) (h : flatD d = true) : flatV v = true := by
  cases r <;> first | rfl | cases h
theorem flats_of {K : Fg} {G : Hp} : ∀ {vs : List V} {ds : List D}, RpA K G vs ds → ds.all flatD = true → vs.all flatV = true
  | _, _, .nil, _ => rfl
  | _, _, .cons r t, h => by
    rw [List.all_cons, Bool.and_eq_true] at h
    rw [List.all_cons, flat_of r h.1, flats_of t h.2]
    rfl
theorem eqv_of {K : Fg} {G : Hp} {v w : V} {d e : D} (r : Rp K G v d) (q : Rp K G w e) (h : flatD d = true) (h' : flatD e = true) : eqV v w = eqD d e := by
  cases r <;> first | (cases h; done) | (cases q <;> first | (cases h'; done) | rfl)
theorem inv_of {K : Fg} {G : Hp} {x : V} {dx : D} (rx : Rp K G x dx) (hx : flatD dx = true) : ∀ {vs : List V} {ds : List D}, RpA K G vs ds → ds.all flatD = true → inV x vs = inD dx ds
  | _, _, .nil, _ => rfl
  | _, _, .cons r t, h => by
    rw [List.all_cons, Bool.and_eq_true] at h
    have ih := inv_of rx hx t h.2
    unfold inV inD at ih ⊢
    rw [List.any_cons, List.any_cons, eqv_of r rx h.1 hx, ih]
def dInB (neg : Bool) : WR := fun x y m Q => match x, y with
  | .str a, .str z => (∃ c, a = ⟨#[c]⟩ ∧ Q (.bl (decide (c ∈ z.cps.toList) ^^ neg)) m)
  | x, .lst ds => flatD x = true ∧ ds.all flatD = true ∧ Q (.bl (inD x ds ^^ neg)) m
  | x, .tup ds => flatD x = true ∧ ds.all flatD = true ∧ Q (.bl (inD x ds ^^ neg)) m
  | _, _ => False
abbrev dIn : WR := dInB false
abbrev dNotIn : WR := dInB true
def rInU (K : Fg) (neg : Bool) : R2 := fun x y H Q => (∃ (c : Nat) (z : Str), x = .str ⟨#[c]⟩ ∧ y = .str z ∧ Q (.bl (decide (c ∈ z.cps.toList) ^^ neg)) H) ∨ rIn K neg x y H Q
theorem op_inU {X : Cx} : OpR X (compareOp .In) (rInU X.K false) := by
  have h := (op_in_sign (X := X)).or op_in_seq
  intro pins s σ H x y v u Q I rx ry q
  refine h pins s σ H x y v u Q I rx ry ?_
  rcases q with ⟨c, z, e1, e2, q⟩ | q
  · rw [Bool.xor_false] at q; exact Or.inl ⟨c, z, e1, e2, q⟩
  · exact Or.inr q
theorem op_notInU {X : Cx} : OpR X (compareOp .NotIn) (rInU X.K true) := by
  have h := (op_notIn_sign (X := X)).or op_notIn_seq
  intro pins s σ H x y v u Q I rx ry q
  refine h pins s σ H x y v u Q I rx ry ?_
  rcases q with ⟨c, z, e1, e2, q⟩ | q
  · rw [Bool.xor_true] at q; exact Or.inl ⟨c, z, e1, e2, q⟩
  · exact Or.inr q
theorem lift_in {K : Fg} {neg : Bool} : LiftR K (rInU K neg) (dInB neg) := by
  intro G m F H x y dx dy Q Qd hW rx ry h hQ
  have neg_if : ∀ b : Bool, (if neg = true then !b else b) = (b ^^ neg) := by intro b; cases neg <;> cases b <;> rfl
  unfold dInB at h
  split at h
  · cases rx; cases ry
    obtain ⟨c, rfl, q⟩ := h
    exact Or.inl ⟨c, _, rfl, rfl, hQ.here hW q (.bl _)⟩
  · obtain ⟨h1, h2, q⟩ := h
    cases ry with
    | lst hy r =>
      refine Or.inr ⟨_, _, rfl, Or.inl (SqL.of (hW.ex _ _ hy)), flat_of rx h1, flats_of r h2, ?_⟩
      rw [neg_if, inv_of rx h1 r h2]
      exact hQ.here hW q (.bl _)
  · obtain ⟨h1, h2, q⟩ := h
    cases ry with
    | tup hy r =>
      refine Or.inr ⟨_, _, rfl, Or.inr (Evl.ex_t hW.ex hy), flat_of rx h1, flats_of r h2, ?_⟩
      rw [neg_if, inv_of rx h1 r h2]
      exact hQ.here hW q (.bl _)
  · cases h
def isNonD : D → Bool
  | .non => true
  | _ => false
/-- x is None, x is not None -/
def dIsB (neg : Bool) : WR := fun x y m Q => match y with
  | .non => Q (.bl (isNonD x ^^ neg)) m
  | _ => False
theorem non_of {K : Fg} {G : Hp} {v : V} {d : D} (r : Rp K G v d) : decide (v = V.non) = isNonD d := by
  cases r <;> simp [isNonD]
theorem lift_is {K : Fg} : LiftR K (fun x y H Q => y = .non ∧ Q (.bl (decide (x = .non))) H) (dIsB false) := by
  intro G m F H x y dx dy Q Qd hW rx ry h hQ
  cases ry <;> first | exact (show False from h).elim | skip
  refine ⟨rfl, ?_⟩
  rw [non_of rx]
  have h : Qd (.bl (isNonD dx ^^ false)) m := h
  rw [Bool.xor_false] at h
  exact hQ.here hW h (.bl _)
theorem lift_isnot {K : Fg} : LiftR K (fun x y H Q => y = .non ∧ Q (.bl (!decide (x = .non))) H) (dIsB true) := by
  intro G m F H x y dx dy Q Qd hW rx ry h hQ
  cases ry <;> first | exact (show False from h).elim | skip
  refine ⟨rfl, ?_⟩
  rw [non_of rx]
  have h : Qd (.bl (isNonD dx ^^ true)) m := h
  rw [Bool.xor_true] at h
  exact hQ.here hW h (.bl _)

section
variable {K : Fg} {W : Wx} {ι : Type} {X : ι → Cx} {pos : Pos} {a b c : Expr} {wa wb wc : WE}
theorem bin_of {op : Operator} {r : R2} {w : WR} (ho : ∀ i, OpR (X i) (binaryOp op) r) (hr : LiftR K r w) (ha : PD K W X a wa) (hb : PD K W X b wb) : PD K W X (.BinOp a op b pos) (wOp w wa wb) := by
  obtain ⟨ta, h1, h2⟩ := ha
  obtain ⟨tb, h3, h4⟩ := hb
  exact ⟨_, fun i => pe_op (ho i) (h1 i) (h3 i), lift_op hr h2 h4⟩
theorem pd_add (hK : ∀ i, (X i).K = K) (ha : PD K W X a wa) (hb : PD K W X b wb) : PD K W X (.BinOp a .Add b pos) (wOp dAdd wa wb) := bin_of (fun i => hK i ▸ op_addU) lift_add ha hb
theorem pd_sub (ha : PD K W X a wa) (hb : PD K W X b wb) : PD K W X (.BinOp a .Sub b pos) (wOp dSub wa wb) := bin_of (fun _ => op_sub) lift_sub ha hb
theorem pd_mul (ha : PD K W X a wa) (hb : PD K W X b wb) : PD K W X (.BinOp a .Mult b pos) (wOp dMul wa wb) := bin_of (fun _ => op_mulU) lift_mul ha hb
theorem pd_div (ha : PD K W X a wa) (hb : PD K W X b wb) : PD K W X (.BinOp a .FloorDiv b pos) (wOp dDiv wa wb) := bin_of (fun _ => op_fdivW) lift_div ha hb
theorem pd_mod (ha : PD K W X a wa) (hb : PD K W X b wb) : PD K W X (.BinOp a .Mod b pos) (wOp dMod wa wb) := bin_of (fun _ => op_mod) lift_mod ha hb
theorem pd_pow (ha : PD K W X a wa) (hb : PD K W X b wb) : PD K W X (.BinOp a .Pow b pos) (wOp dPow wa wb) := bin_of (fun _ => op_pow) lift_pow ha hb
/-- a comparison's operator -/
def CmpU (K : Fg) {ι : Type} (X : ι → Cx) (op : CmpOp) (w : WR) : Prop := ∃ r, (∀ i, OpR (X i) (compareOp op) r) ∧ LiftR K r w
theorem c_eq {P : Program} {wo : World} {mg : Str → Option Value} {base : Heap} {k : Nat} {N : List Str} (hX : Fam P wo K mg base k N X) : CmpU K X .Eq dEq :=
  ⟨_, fun i => hX.K i ▸ op_eqU (by have := (hX.room i).un; omega), lift_eq⟩
theorem c_ne {P : Program} {wo : World} {mg : Str → Option Value} {base : Heap} {k : Nat} {N : List Str} (hX : Fam P wo K mg base k N X) : CmpU K X .NotEq dNe :=
  ⟨_, fun i => hX.K i ▸ op_neU (by have := (hX.room i).un; omega), lift_ne⟩
theorem c_lt : CmpU K X .Lt dLt := ⟨_, fun _ => op_ltU, lift_cmp⟩
theorem c_le : CmpU K X .LtE dLe := ⟨_, fun _ => op_leU, lift_cmp⟩
theorem c_gt : CmpU K X .Gt dGt := ⟨_, fun _ => op_gtU, lift_cmp⟩
theorem c_ge : CmpU K X .GtE dGe := ⟨_, fun _ => op_geU, lift_cmp⟩
theorem c_in (hK : ∀ i, (X i).K = K) : CmpU K X .In dIn := ⟨_, fun i => hK i ▸ op_inU, lift_in⟩
theorem c_notIn (hK : ∀ i, (X i).K = K) : CmpU K X .NotIn dNotIn := ⟨_, fun i => hK i ▸ op_notInU, lift_in⟩
theorem c_is : CmpU K X .Is (dIsB false) := ⟨_, fun _ => op_isN, lift_is⟩
theorem c_isNot : CmpU K X .IsNot (dIsB true) := ⟨_, fun _ => op_notN, lift_isnot⟩
theorem pd_cmp {op : CmpOp} {w : WR} (ho : CmpU K X op w) (ha : PD K W X a wa) (hb : PD K W X b wb) (hm : behindInMarks op b = false := by first | exact nomark _ | rfl) : PD K W X (.Compare a [op] [b] pos) (wOp w wa wb) := by
  obtain ⟨r, o1, o2⟩ := ho
  obtain ⟨ta, h1, h2⟩ := ha
  obtain ⟨tb, h3, h4⟩ := hb
  exact ⟨_, fun i => pe_cmpR (o1 i) (h1 i) (h3 i) hm, lift_op o2 h2 h4⟩
def wTest (w : WE) : WT := fun ρ m Q Qx => w ρ m (fun d m' => match d with
  | .bl b => Q b m'
  | _ => False) Qx
theorem lift_test {t : TE} {w : WE} (h : LiftE K W t w) : LiftT K W (tTest t) (wTest w) := by
  intro G m F H σ ρ Q Qd Qx hW hE h0 hX hQ
  refine h G m F H σ ρ _ _ Qx hW hE h0 hX ?_
  intro d m' v G' H' q e W' r
  cases r <;> first | exact (show False from q).elim | skip
  exact ⟨_, rfl, hQ _ m' G' H' q e W'⟩
theorem lift_tB {t : TE} {w : WE} (h : LiftE K W t w) : LiftT K W (tB t) (wTest w) := by
  intro G m F H σ ρ Q Qd Qx hW hE h0 hX hQ
  refine h G m F H σ ρ _ _ Qx hW hE h0 hX ?_
  intro d m' v G' H' q e W' r
  cases r <;> first | exact (show False from q).elim | skip
  exact ⟨_, rfl, hQ _ m' G' H' q e W'⟩
theorem pt_cmp {op : CmpOp} {w : WR} (ho : CmpU K X op w) (ha : PD K W X a wa) (hb : PD K W X b wb) (hm : behindInMarks op b = false := by first | exact nomark _ | rfl) : PDT K W X (.Compare a [op] [b] pos) (wTest (wOp w wa wb)) := by
  obtain ⟨r, o1, o2⟩ := ho
  obtain ⟨ta, h1, h2⟩ := ha
  obtain ⟨tb, h3, h4⟩ := hb
  exact ⟨_, fun i => pt_cmpR (o1 i) (h1 i) (h3 i) hm, lift_test (lift_op o2 h2 h4)⟩
/-- a < b < c -/
def wChain (r r' : WR) (a b c : WE) : WE := fun ρ m Q Qx => a ρ m (fun x m1 => b ρ m1 (fun y m2 => r x y m2 fun z m3 => match z with
  | .bl k => if k = true then c ρ m3 (fun u m4 => r' y u m4 Q) Qx else Q (.bl false) m3
  | _ => False) Qx) Qx
theorem lift_chain {r r' : R2} {w w' : WR} {ta tb tc : TE} (hr : LiftR K r w) (hr' : LiftR K r' w') (ha : LiftE K W ta wa) (hb : LiftE K W tb wb) (hc : LiftE K W tc wc) : LiftE K W (tChain r r' ta tb tc) (wChain w w' wa wb wc) := by
  intro G m F H σ ρ Q Qd Qx hW hE h hX hQ
  refine ha G m F H σ ρ _ _ Qx hW hE h hX ?_
  intro dx m1 x G1 H1 h1 e1 W1 r1
  refine hb G1 m1 F H1 σ ρ _ _ Qx W1 (hE.mono e1) h1 (hX.mono e1) ?_
  intro dy m2 y G2 H2 h2 e2 W2 r2
  refine hr G2 m2 F H2 x y dx dy _ _ W2 (r1.mono e2) r2 h2 ?_
  intro dz m3 z G3 H3 h3 e3 W3 r3
  cases r3 <;> first | exact (show False from h3).elim | skip
  rename_i k
  refine ⟨k, rfl, ?_⟩
  have e12 := e1.trans e2
  cases k with
  | true =>
    refine hc G3 m3 F H3 σ ρ _ _ Qx W3 (hE.mono (e12.trans e3)) h3 (hX.mono (e12.trans e3)) ?_
    intro du m4 u G4 H4 h4 e4 W4 r4
    exact hr' G4 m4 F H4 y u dy du Q Qd W4 (r2.mono (e3.trans e4)) r4 h4 fun d m' v G' H' q e => hQ d m' v G' H' q (((e12.trans e3).trans e4).trans e)
  | false =>
    have h3 : Qd (.bl false) m3 := h3
    exact hQ _ m3 _ G3 H3 h3 (e12.trans e3) W3 (.bl false)
theorem pd_chain {op op' : CmpOp} {w w' : WR} (ho : CmpU K X op w) (ho' : CmpU K X op' w') (ha : PD K W X a wa) (hb : PD K W X b wb) (hc : PD K W X c wc) (hm : lastMarks [op, op'] [b, c] = false := by with_unfolding_all rfl) : PD K W X (.Compare a [op, op'] [b, c] pos) (wChain w w' wa wb wc) := by
  obtain ⟨r, o1, o2⟩ := ho
  obtain ⟨r', o3, o4⟩ := ho'
  obtain ⟨ta, h1, h2⟩ := ha
  obtain ⟨tb, h3, h4⟩ := hb
  obtain ⟨tc, h5, h6⟩ := hc
  exact ⟨_, fun i => pe_chain (o1 i) (o3 i) (h1 i) (h3 i) (h5 i) hm, lift_chain o2 o4 h2 h4 h6⟩
theorem pt_chainD {op op' : CmpOp} {w w' : WR} (ho : CmpU K X op w) (ho' : CmpU K X op' w') (ha : PD K W X a wa) (hb : PD K W X b wb) (hc : PD K W X c wc) (hm : lastMarks [op, op'] [b, c] = false := by with_unfolding_all rfl) : PDT K W X (.Compare a [op, op'] [b, c] pos) (wTest (wChain w w' wa wb wc)) := by
  obtain ⟨r, o1, o2⟩ := ho
  obtain ⟨r', o3, o4⟩ := ho'
  obtain ⟨ta, h1, h2⟩ := ha
  obtain ⟨tb, h3, h4⟩ := hb
  obtain ⟨tc, h5, h6⟩ := hc
  exact ⟨_, fun i => pt_chain (o1 i) (o3 i) (h1 i) (h3 i) (h5 i) hm, lift_test (lift_chain o2 o4 h2 h4 h6)⟩
end
end DL
namespace DL
open PySem L2
open Evl (Ex)
theorem Wd.unframe {K : Fg} {G : Hp} {m : Mem} {F H : Hp} {p : Addr} {o : HO} (W : Wd K G m (upd F p o) H) (hF : F p = none) : Wd K G m F H := by
  refine ⟨W.ex, fun a ds e => ?_, fun a u e => ?_, fun a u e => ?_⟩
  · obtain ⟨h1, h2, h3⟩ := W.own a ds e
    refine ⟨h1, ?_, h3⟩
    by_cases q : a = p
    · subst q; exact hF
    · rw [upd_ne q] at h2; exact h2
  · have q : a ≠ p := fun z => by subst z; rw [hF] at e; cases e
    exact W.fr a u (by rw [upd_ne q]; exact e)
  · have q : a ≠ p := fun z => by subst z; rw [hF] at e; cases e
    exact W.frG a u (by rw [upd_ne q]; exact e)
theorem FitX.frame {K : Fg} {W : Wx} {G F : Hp} {Qx : XQ} {p : Addr} {o : HO} (f : FitX K W G F Qx) (hF : F p = none) : FitX K W G (upd F p o) Qx :=
  fun x m' d σ' G' H' q e W' r => f x m' d σ' G' H' q e (W'.unframe hF) r
section
variable {K : Fg} {W : Wx} {ι : Type} {X : ι → Cx} {pos : Pos} {a b c e : Expr} {es : List Expr} {wa wb wc w : WE}
/-! ### and, or, not, if-else -/
def wAnd (a b : WE) : WE := fun ρ m Q Qx => a ρ m (fun x m1 => match x with
  | .bl c => if c = true then b ρ m1 Q Qx else Q (.bl false) m1
  | _ => False) Qx
def wOr (a b : WE) : WE := fun ρ m Q Qx => a ρ m (fun x m1 => match x with
  | .bl c => if c = true then Q (.bl true) m1 else b ρ m1 Q Qx
  | _ => False) Qx
def wNot (a : WE) : WE := fun ρ m Q Qx => a ρ m (fun x m1 => match x with
  | .bl c => Q (.bl (!c)) m1
  | _ => False) Qx
theorem pd_and {rest : List Expr} (ha : PD K W X a wa) (hb : PD K W X (.BoolOp .And (b :: rest) pos) wb) : PD K W X (.BoolOp .And (a :: b :: rest) pos) (wAnd wa wb) := by
  obtain ⟨ta, h1, h2⟩ := ha
  obtain ⟨tb, h3, h4⟩ := hb
  refine ⟨_, fun i => pe_and (h1 i) (h3 i), ?_⟩
  intro G m F H σ ρ Q Qd Qx hW hE h hX hQ
  refine h2 G m F H σ ρ _ _ Qx hW hE h hX ?_
  intro dx m1 x G1 H1 q e1 W1 r1
  cases r1 <;> first | exact (show False from q).elim | skip
  rename_i k
  refine ⟨k, rfl, ?_⟩
  cases k with
  | true => exact h4 G1 m1 F H1 σ ρ Q Qd Qx W1 (hE.mono e1) q (hX.mono e1) fun d m' v G' H' z e => hQ d m' v G' H' z (e1.trans e)
  | false =>
    have q : Qd (.bl false) m1 := q
    exact hQ _ m1 _ G1 H1 q e1 W1 (.bl false)
theorem pd_or {rest : List Expr} (ha : PD K W X a wa) (hb : PD K W X (.BoolOp .Or (b :: rest) pos) wb) : PD K W X (.BoolOp .Or (a :: b :: rest) pos) (wOr wa wb) := by
  obtain ⟨ta, h1, h2⟩ := ha
  obtain ⟨tb, h3, h4⟩ := hb
  refine ⟨_, fun i => pe_or (h1 i) (h3 i), ?_⟩
  intro G m F H σ ρ Q Qd Qx hW hE h hX hQ
  refine h2 G m F H σ ρ _ _ Qx hW hE h hX ?_
  intro dx m1 x G1 H1 q e1 W1 r1
  cases r1 <;> first | exact (show False from q).elim | skip
  rename_i k
  refine ⟨k, rfl, ?_⟩
  cases k with
  | false => exact h4 G1 m1 F H1 σ ρ Q Qd Qx W1 (hE.mono e1) q (hX.mono e1) fun d m' v G' H' z e => hQ d m' v G' H' z (e1.trans e)
  | true =>
    have q : Qd (.bl true) m1 := q
    exact hQ _ m1 _ G1 H1 q e1 W1 (.bl true)
theorem pd_one {op : BoolOp} (ha : PD K W X a wa) : PD K W X (.BoolOp op [a] pos) wa := by
  obtain ⟨ta, h1, h2⟩ := ha
  exact ⟨ta, fun i => pe_one (h1 i), h2⟩
theorem pd_not (ha : PD K W X a wa) : PD K W X (.UnaryOp .Not a pos) (wNot wa) := by
  obtain ⟨ta, h1, h2⟩ := ha
  refine ⟨_, fun i => pe_not (h1 i), ?_⟩
  intro G m F H σ ρ Q Qd Qx hW hE h hX hQ
  refine h2 G m F H σ ρ _ _ Qx hW hE h hX ?_
  intro dx m1 x G1 H1 q e1 W1 r1
  cases r1 <;> first | exact (show False from q).elim | skip
  exact ⟨_, rfl, hQ _ m1 _ G1 H1 q e1 W1 (.bl _)⟩
/-! tests -/
def tvAnd (a b : WT) : WT := fun ρ m Q Qx => a ρ m (fun c m1 => if c = true then b ρ m1 Q Qx else Q false m1) Qx
def tvOr (a b : WT) : WT := fun ρ m Q Qx => a ρ m (fun c m1 => if c = true then Q true m1 else b ρ m1 Q Qx) Qx
def tvNot (a : WT) : WT := fun ρ m Q Qx => a ρ m (fun c m1 => Q (!c) m1) Qx
variable {ua ub : WT}
theorem pt_val (ha : PD K W X a wa) (he : ∀ i whole, isTrue a (X i).env whole = (do let v ← whole; standAt a.pos; holding [v] (truthy v)) := by intro _ _; rfl) : PDT K W X a (wTest wa) := by
  obtain ⟨ta, h1, h2⟩ := ha
  exact ⟨_, fun i => L2.pt_val (h1 i) (he i), lift_tB h2⟩
theorem pw_and1 (ha : PDT K W X a ua) : PDW K W X (.BoolOp .And [a] pos) ua := by
  obtain ⟨ta, h1, h2⟩ := ha
  exact ⟨_, fun i => L2.pw_and1 (h1 i), h2⟩
theorem pw_or1 (ha : PDT K W X a ua) : PDW K W X (.BoolOp .Or [a] pos) ua := by
  obtain ⟨ta, h1, h2⟩ := ha
  exact ⟨_, fun i => L2.pw_or1 (h1 i), h2⟩
theorem pw_and {rest : List Expr} (ha : PDT K W X a ua) (hb : PDW K W X (.BoolOp .And (b :: rest) pos) ub) : PDW K W X (.BoolOp .And (a :: b :: rest) pos) (tvAnd ua ub) := by
  obtain ⟨ta, h1, h2⟩ := ha
  obtain ⟨tb, h3, h4⟩ := hb
  refine ⟨_, fun i => L2.pw_and (h1 i) (h3 i), ?_⟩
  intro G m F H σ ρ Q Qd Qx hW hE h hX hQ
  refine h2 G m F H σ ρ _ _ Qx hW hE h hX ?_
  intro k m1 G1 H1 q e1 W1
  cases k with
  | true => exact h4 G1 m1 F H1 σ ρ Q Qd Qx W1 (hE.mono e1) q (hX.mono e1) fun d m' G' H' z e => hQ d m' G' H' z (e1.trans e)
  | false => exact hQ false m1 G1 H1 q e1 W1
theorem pw_or {rest : List Expr} (ha : PDT K W X a ua) (hb : PDW K W X (.BoolOp .Or (b :: rest) pos) ub) : PDW K W X (.BoolOp .Or (a :: b :: rest) pos) (tvOr ua ub) := by
  obtain ⟨ta, h1, h2⟩ := ha
  obtain ⟨tb, h3, h4⟩ := hb
  refine ⟨_, fun i => L2.pw_or (h1 i) (h3 i), ?_⟩
  intro G m F H σ ρ Q Qd Qx hW hE h hX hQ
  refine h2 G m F H σ ρ _ _ Qx hW hE h hX ?_
  intro k m1 G1 H1 q e1 W1
  cases k with
  | false => exact h4 G1 m1 F H1 σ ρ Q Qd Qx W1 (hE.mono e1) q (hX.mono e1) fun d m' G' H' z e => hQ d m' G' H' z (e1.trans e)
  | true => exact hQ true m1 G1 H1 q e1 W1
theorem pw_pt (h : PDW K W X a ua) : PDT K W X a ua := by
  obtain ⟨t, h1, h2⟩ := h
  exact ⟨t, fun i => (h1 i).pt, h2⟩
theorem pt_not (ha : PDT K W X a ua) : PDT K W X (.UnaryOp .Not a pos) (tvNot ua) := by
  obtain ⟨ta, h1, h2⟩ := ha
  refine ⟨_, fun i => L2.pt_not (h1 i), ?_⟩
  intro G m F H σ ρ Q Qd Qx hW hE h hX hQ
  exact h2 G m F H σ ρ _ _ Qx hW hE h hX fun k m1 G1 H1 q e1 W1 => hQ _ m1 G1 H1 q e1 W1
def wIf (t : WT) (a b : WE) : WE := fun ρ m Q Qx => t ρ m (fun c m1 => if c = true then a ρ m1 Q Qx else b ρ m1 Q Qx) Qx
theorem pd_if (hc : PDT K W X c ua) (ha : PD K W X a wa) (hb : PD K W X b wb) : PD K W X (.IfExp c a b pos) (wIf ua wa wb) := by
  obtain ⟨tc, h5, h6⟩ := hc
  obtain ⟨ta, h1, h2⟩ := ha
  obtain ⟨tb, h3, h4⟩ := hb
  refine ⟨_, fun i => pe_ifExp (h5 i) (h1 i) (h3 i), ?_⟩
  intro G m F H σ ρ Q Qd Qx hW hE h hX hQ
  refine h6 G m F H σ ρ _ _ Qx hW hE h hX ?_
  intro k m1 G1 H1 q e1 W1
  cases k with
  | true => exact h2 G1 m1 F H1 σ ρ Q Qd Qx W1 (hE.mono e1) q (hX.mono e1) fun d m' v G' H' z e => hQ d m' v G' H' z (e1.trans e)
  | false => exact h4 G1 m1 F H1 σ ρ Q Qd Qx W1 (hE.mono e1) q (hX.mono e1) fun d m' v G' H' z e => hQ d m' v G' H' z (e1.trans e)

/-! ### arguments, displays -/
def wNil : WA := fun _ m Q _ => Q [] m
def wCons (a : WE) (r : WA) : WA := fun ρ m Q Qx => a ρ m (fun x m1 => r ρ m1 (fun xs m2 => Q (x :: xs) m2) Qx) Qx
variable {wr : WA}
theorem pa_nil : PDA K W X [] wNil := ⟨_, fun _ => L2.pa_nil, fun G m F H σ ρ Q Qd Qx hW hE h hX hQ => hQ [] m [] G H h (Ex.refl G) hW .nil⟩
theorem pa_cons (ha : PD K W X e wa) (hr : PDA K W X es wr) (hs : ∀ i, starEach (e :: es) (X i).env = (false, eval e (X i).env) :: starEach es (X i).env := by intro _; rfl) : PDA K W X (e :: es) (wCons wa wr) := by
  obtain ⟨ta, h1, h2⟩ := ha
  obtain ⟨tr, h3, h4⟩ := hr
  refine ⟨_, fun i => L2.pa_cons (h1 i) (h3 i) (hs i), ?_⟩
  intro G m F H σ ρ Q Qd Qx hW hE h hX hQ
  refine h2 G m F H σ ρ _ _ Qx hW hE h hX ?_
  intro dx m1 x G1 H1 q e1 W1 r1
  refine h4 G1 m1 F H1 σ ρ _ _ Qx W1 (hE.mono e1) q (hX.mono e1) ?_
  intro ds m2 vs G2 H2 q2 e2 W2 r2
  exact hQ _ m2 _ G2 H2 q2 (e1.trans e2) W2 (.cons (r1.mono e2) r2)
def wLst (r : WA) : WE := fun ρ m Q Qx => r ρ m (fun ds m1 => ds.length ≤ sizeLine ∧ Q (.lst ds) m1) Qx
def wTup (r : WA) : WE := fun ρ m Q Qx => r ρ m (fun ds m1 => ds.length ≤ sizeLine ∧ Q (.tup ds) m1) Qx
/-- a new list that is owned: it may change -/
def wOwn (r : WA) : WE := fun ρ m Q Qx => r ρ m (fun ds m1 => ds.length ≤ sizeLine ∧ ∀ p, m1 p = none → Q (.box p) (m1.up p ds)) Qx
theorem pd_lst (h : PDA K W X es wr) : PD K W X (.List es pos) (wLst wr) := by
  obtain ⟨t, h1, h2⟩ := h
  refine ⟨_, fun i => pe_lst (h1 i), ?_⟩
  intro G m F H σ ρ Q Qd Qx hW hE h hX hQ
  refine h2 G m F H σ ρ _ _ Qx hW hE h hX ?_
  intro ds m1 vs G1 H1 q e1 W1 r1
  refine ⟨by rw [r1.len]; exact q.1, fun p hp => ?_⟩
  obtain ⟨e, W'⟩ := W1.new hp (.lst vs)
  exact hQ _ m1 _ _ _ q.2 (e1.trans e) W' (.lst upd_same (r1.mono e))
theorem pd_tup {x1 : Nat} (h : PDA K W X es wr) : PD K W X (.Tuple es x1 pos) (wTup wr) := by
  obtain ⟨t, h1, h2⟩ := h
  refine ⟨_, fun i => pe_tup (h1 i), ?_⟩
  intro G m F H σ ρ Q Qd Qx hW hE h hX hQ
  refine h2 G m F H σ ρ _ _ Qx hW hE h hX ?_
  intro ds m1 vs G1 H1 q e1 W1 r1
  refine ⟨by rw [r1.len]; exact q.1, fun p hp => ?_⟩
  obtain ⟨e, W'⟩ := W1.new hp (.tup vs)
  exact hQ _ m1 _ _ _ q.2 (e1.trans e) W' (.tup (SqT.of upd_same) (r1.mono e))
theorem pd_own (h : PDA K W X es wr) : PD K W X (.List es pos) (wOwn wr) := by
  obtain ⟨t, h1, h2⟩ := h
  refine ⟨_, fun i => pe_lst (h1 i), ?_⟩
  intro G m F H σ ρ Q Qd Qx hW hE h hX hQ
  refine h2 G m F H σ ρ _ _ Qx hW hE h hX ?_
  intro ds m1 vs G1 H1 q e1 W1 r1
  refine ⟨by rw [r1.len]; exact q.1, fun p hp => ?_⟩
  obtain ⟨e, W'⟩ := W1.newOwn hp r1
  exact hQ _ _ _ _ _ (q.2 p e) e1 W' (.box p)
/-- {} -/
def wDct0 : WE := fun _ m Q _ => Q (.dct [] []) m
theorem pd_dct0 : PD K W X (.Dict [] [] pos) wDct0 := by
  refine ⟨_, fun i => pe_dnewK, ?_⟩
  intro G m F H σ ρ Q Qd Qx hW hE h hX hQ
  intro p hp
  obtain ⟨e, W'⟩ := hW.new hp (.dK [])
  exact hQ _ m _ _ _ h e W' (.dct (kvs := []) (vs := []) upd_same rfl rfl .nil)
/-- {'k': v}: one written text as the key -/
def wDct1 (k : Str) (v : WE) : WE := fun ρ m Q Qx => v ρ m (fun d m1 => Q (.dct [.inr k] [d]) m1) Qx
theorem pd_dct1 {k : Str} {j : Nat} {pk : Pos} {v : Expr} {wv : WE} (hv : PD K W X v wv) : PD K W X (.Dict [some (.Constant (.str k) j pk)] [v] pos) (wDct1 k wv) := by
  obtain ⟨tv, h1, h2⟩ := hv
  refine ⟨_, fun i => pe_disp (pps_cons pe_str (h1 i) pps_nil) (by rfl) (by rfl) (fun z => by cases z) (by show 1 ≤ 15; decide), ?_⟩
  intro G m F H σ ρ Q Qd Qx hW hE h hX hQ
  intro p hp
  obtain ⟨hG, hm, hF⟩ := hW.fresh hp
  have W0 := hW.frame hp (.dK [])
  show tv σ (upd H p (.dK [])) _
  refine h2 G m (upd F p (.dK [])) _ σ ρ _ (fun d m1 => Qd (.dct [.inr k] [d]) m1) Qx W0 hE h (hX.frame hF) ?_
  intro d m1 v G1 H1 q e1 W1 r1
  refine ⟨W1.fr p _ upd_same, [(.inr k, v)], rfl, (by show 1 ≤ 15; decide), ?_⟩
  have W2 := W1.reframe (.dK (mergeK [] [((.inr k : Key), v)]))
  obtain ⟨e3, W3⟩ := W2.adopt hF
  exact hQ _ m1 _ _ _ q (e1.trans e3) W3 (.dct upd_same rfl rfl (.cons (r1.mono e3) .nil))

/-! ### a[i], a[lo:hi], a[i] = v -/
def dIx : WR := fun x y m Q => match x, y with
  | .lst ds, .int i => ∃ d, atI ds i = some d ∧ Q d m
  | .tup ds, .int i => ∃ d, atI ds i = some d ∧ Q d m
  | .scr ns, .int i => ∃ d, atI ns i = some d ∧ Q (.int d) m
  | .box a, .int i => ∃ ds d, m a = some ds ∧ atI ds i = some d ∧ Q d m
  | .str z, .int i => z.length ≤ sizeLine ∧ ∃ c, atI z.cps.toList i = some c ∧ Q (.str ⟨#[c]⟩) m
  | _, _ => False
theorem RpA.atI {K : Fg} {G : Hp} {vs : List V} {ds : List D} {i : Int} {d : D} (r : RpA K G vs ds) (h : L2.atI ds i = some d) : ∃ v, L2.atI vs i = some v ∧ Rp K G v d := by
  unfold L2.atI at h ⊢
  rw [r.len]
  cases e : ixN ds.length i with
  | none => rw [e] at h; cases h
  | some j =>
    rw [e] at h
    exact r.at h
theorem atI_map {α β : Type} {f : α → β} {xs : List α} {i : Int} {x : α} (h : L2.atI xs i = some x) : L2.atI (xs.map f) i = some (f x) := by
  unfold L2.atI at h ⊢
  rw [List.length_map]
  cases e : ixN xs.length i with
  | none => rw [e] at h; cases h
  | some j =>
    rw [e] at h
    have h : xs[j]? = some x := h
    show (xs.map f)[j]? = some (f x)
    rw [List.getElem?_map, h]
    rfl
theorem lift_ix {K : Fg} : LiftR K (rIx K) dIx := by
  intro G m F H x y dx dy Q Qd hW rx ry h hQ
  cases rx <;> cases ry <;> first | exact (show False from h).elim | skip
  case lst.int a xs ds h1 r1 i =>
    obtain ⟨d, hd, q⟩ := h
    obtain ⟨v, hv, rv⟩ := r1.atI hd
    exact Or.inl ⟨a, xs, i, v, rfl, rfl, SqL.of (hW.ex _ _ h1), hv, hQ.here hW q rv⟩
  case tup.int a xs ds h1 r1 i =>
    obtain ⟨d, hd, q⟩ := h
    obtain ⟨v, hv, rv⟩ := r1.atI hd
    exact Or.inr (Or.inl ⟨a, xs, i, v, rfl, rfl, Evl.ex_t hW.ex h1, hv, hQ.here hW q rv⟩)
  case scr.int a ns h1 i =>
    obtain ⟨d, hd, q⟩ := h
    exact Or.inl ⟨a, _, i, _, rfl, rfl, Evl.ex_l hW.ex h1, atI_map hd, hQ.here hW q (.int d)⟩
  case box.int a i =>
    obtain ⟨ds, d, hm, hd, q⟩ := h
    obtain ⟨_, _, xs, hx, r1⟩ := hW.own a ds hm
    obtain ⟨v, hv, rv⟩ := r1.atI hd
    exact Or.inl ⟨a, xs, i, v, rfl, rfl, SqL.of hx, hv, hQ.here hW q rv⟩
  case str.int z i =>
    obtain ⟨hz, c, hc, q⟩ := h
    exact Or.inr (Or.inr ⟨z, i, c, rfl, rfl, hz, hc, hQ.here hW q (.str _)⟩)
theorem pd_ix (hK : ∀ i, (X i).K = K) (ha : PD K W X a wa) (hb : PD K W X b wb) (hs : PlainIx b := by exact fun _ _ => rfl) : PD K W X (.Subscript a b pos) (wOp dIx wa wb) := by
  obtain ⟨ta, h1, h2⟩ := ha
  obtain ⟨tb, h3, h4⟩ := hb
  exact ⟨_, fun i => pe_ix (hK i ▸ ix_seq) (h1 i) (h3 i) hs, lift_op lift_ix h2 h4⟩
def wNoPart : WO := fun _ m Q _ => Q none m
def wPart (a : WE) : WO := fun ρ m Q Qx => a ρ m (fun d m1 => match d with
  | .int i => Q (some i) m1
  | _ => False) Qx
theorem po_none : PDO K W X none wNoPart := ⟨_, fun _ => L2.po_none, fun G m F H σ ρ Q Qd Qx hW hE h hX hQ => hQ none m G H h (Ex.refl G) hW⟩
theorem po_some (ha : PD K W X a wa) : PDO K W X (some a) (wPart wa) := by
  obtain ⟨ta, h1, h2⟩ := ha
  refine ⟨_, fun i => L2.po_some (h1 i), ?_⟩
  intro G m F H σ ρ Q Qd Qx hW hE h hX hQ
  refine h2 G m F H σ ρ _ _ Qx hW hE h hX ?_
  intro d m1 x G1 H1 q e1 W1 r1
  cases r1 <;> first | exact (show False from q).elim | skip
  exact ⟨_, rfl, hQ _ m1 G1 H1 q e1 W1⟩
def cutD (ds : List D) (lo hi : Option Int) : List D := (ds.drop (HT.sIx ds.length 0 lo)).take (HT.sIx ds.length ds.length hi - HT.sIx ds.length 0 lo)
def dSl (x : D) (lo hi : Option Int) (m : Mem) (Q : D → Mem → Prop) : Prop := match x with
  | .lst ds => Q (.lst (cutD ds lo hi)) m
  | .tup ds => Q (.tup (cutD ds lo hi)) m
  | .str z => z.length ≤ sizeLine ∧ Q (.str (cutS z lo hi)) m
  | _ => False
theorem RpA.cut {K : Fg} {G : Hp} {vs : List V} {ds : List D} (r : RpA K G vs ds) (lo hi : Option Int) : RpA K G (cutV vs lo hi) (cutD ds lo hi) := by
  unfold cutV cutD
  rw [r.len]
  exact (r.drop _).take _
def rSlU (K : Fg) : V → Option Int → Option Int → Hp → VK → Prop := fun x lo hi H Q => rSlL K x lo hi H Q ∨ rSlA K x lo hi H Q ∨ rSlS x lo hi H Q
def wSl (a : WE) (l h : WO) : WE := fun ρ m Q Qx => a ρ m (fun x m1 => l ρ m1 (fun lo m2 => h ρ m2 (fun hi m3 => dSl x lo hi m3 Q) Qx) Qx) Qx
variable {wl wh : WO} {lo hi : Option Expr} {p2 : Pos}
theorem pd_sl (hK : ∀ i, (X i).K = K) (ha : PD K W X a wa) (hl : PDO K W X lo wl) (hh : PDO K W X hi wh) : PD K W X (.Subscript a (.Slice lo hi none p2) pos) (wSl wa wl wh) := by
  obtain ⟨ta, h1, h2⟩ := ha
  obtain ⟨tl, h3, h4⟩ := hl
  obtain ⟨th, h5, h6⟩ := hh
  refine ⟨_, fun i => pe_slice (r := rSlU K) (hK i ▸ (sl_list.or (sl_tupA.or sl_str))) (h1 i) (h3 i) (h5 i), ?_⟩
  intro G m F H σ ρ Q Qd Qx hW hE h hX hQ
  refine h2 G m F H σ ρ _ _ Qx hW hE h hX ?_
  intro dx m1 x G1 H1 q1 e1 W1 r1
  refine h4 G1 m1 F H1 σ ρ _ _ Qx W1 (hE.mono e1) q1 (hX.mono e1) ?_
  intro l m2 G2 H2 q2 e2 W2
  refine h6 G2 m2 F H2 σ ρ _ _ Qx W2 (hE.mono (e1.trans e2)) q2 (hX.mono (e1.trans e2)) ?_
  intro u m3 G3 H3 q3 e3 W3
  have e13 := (e1.trans e2).trans e3
  have r3 := r1.mono (e2.trans e3)
  cases r3 <;> first | exact (show False from q3).elim | skip
  case lst a0 xs ds hx rr =>
    refine Or.inl ⟨_, _, rfl, SqL.of (W3.ex _ _ hx), fun p hp => ?_⟩
    obtain ⟨e, W'⟩ := W3.new hp (.lst (cutV xs l u))
    exact hQ _ m3 _ _ _ q3 (e13.trans e) W' (.lst upd_same ((rr.cut l u).mono e))
  case tup a0 xs ds hx rr =>
    refine Or.inr (Or.inl ⟨_, _, rfl, Evl.ex_t W3.ex hx, fun hw => ?_, fun hw p hp => ?_⟩)
    · have ec : cutD ds l u = ds := by
        unfold cutD
        rw [← rr.len, hw.1, hw.2, List.drop_zero, Nat.sub_zero, rr.len, List.take_length]
      have q3 : Qd (.tup (cutD ds l u)) m3 := q3
      rw [ec] at q3
      exact hQ _ m3 _ _ _ q3 e13 W3 (.tup hx rr)
    · obtain ⟨e, W'⟩ := W3.new hp (.tup (cutV xs l u))
      exact hQ _ m3 _ _ _ q3 (e13.trans e) W' (.tup (SqT.of upd_same) ((rr.cut l u).mono e))
  case str z => exact Or.inr (Or.inr ⟨z, rfl, q3.1, hQ _ m3 _ _ _ q3.2 e13 W3 (.str _)⟩)

/-! ### calls -/
abbrev WC := List D → Mem → (D → Mem → Prop) → Prop
def LiftC (K : Fg) (r : List V → Hp → VK → Prop) (w : WC) : Prop := ∀ G m F H xs ds (Q : VK) (Qd : D → Mem → Prop), Wd K G m F H → RpA K G xs ds → w ds m Qd → FitE K G F Q Qd → r xs H Q
def wBi (w : WC) (a : WA) : WE := fun ρ m Q Qx => a ρ m (fun ds m1 => w ds m1 Q) Qx
theorem lift_cb {r : List V → Hp → VK → Prop} {w : WC} {ta : TA} {wa : WA} (hr : LiftC K r w) (ha : LiftA K W ta wa) : LiftE K W (tCB r ta) (wBi w wa) := by
  intro G m F H σ ρ Q Qd Qx hW hE h hX hQ
  refine ha G m F H σ ρ _ _ Qx hW hE h hX ?_
  intro ds m1 vs G1 H1 q e1 W1 r1
  exact hr G1 m1 F H1 vs ds Q Qd W1 r1 q fun d m' v G' H' z e => hQ d m' v G' H' z (e1.trans e)
/-- a built-in function, a built-in type, called -/
def BiU (K : Fg) {ι : Type} (X : ι → Cx) (f : Value) (w : WC) : Prop := ∃ r, (∀ i, CallR (X i) f r) ∧ LiftC K r w
theorem pd_bi {mg : Str → Option Value} {x : Str} {p : Pos} {id : String} {w : WC} {wr : WA} (hc : BiU K X (.builtin id) w) (hX : ∀ i, (X i).mg = mg) (hm : mg x = none) (hv : bootBuiltins x = some (.builtin id)) (ha : PDA K W X (e :: es) wr) (hg : ∀ i, Gl (X i) x := by intro _; rfl)
    (he : ∀ i, starEach (e :: es) (X i).env = (false, eval e (X i).env) :: starEach es (X i).env := by intro _; rfl) (hpl : ∀ i, (backTo pos (starEach es (X i).env)).any (·.1) = false := by intro _; rfl) (hn : x ≠ "__name__" := by decide) (hd : (x == ("__debug__" : Str)) = false := by decide) :
    PD K W X (.Call (.Name x p) (e :: es) [] pos) (wBi w wr) := by
  obtain ⟨r, c1, c2⟩ := hc
  obtain ⟨t, h1, h2⟩ := ha
  exact ⟨_, fun i => pe_callB (c1 i) (hg i) (by rw [hX i]; exact hm) hv (h1 i) hn hd (he i) (hpl i), lift_cb c2 h2⟩
theorem pd_bt {mg : Str → Option Value} {x : Str} {p : Pos} {id : String} {w : WC} {wr : WA} (hc : BiU K X (.type id) w) (hX : ∀ i, (X i).mg = mg) (hm : mg x = none) (hv : bootBuiltins x = some (.type id)) (ha : PDA K W X (e :: es) wr) (hg : ∀ i, Gl (X i) x := by intro _; rfl)
    (he : ∀ i, starEach (e :: es) (X i).env = (false, eval e (X i).env) :: starEach es (X i).env := by intro _; rfl) (hpl : ∀ i, (backTo pos (starEach es (X i).env)).any (·.1) = false := by intro _; rfl) (hn : x ≠ "__name__" := by decide) (hd : (x == ("__debug__" : Str)) = false := by decide) :
    PD K W X (.Call (.Name x p) (e :: es) [] pos) (wBi w wr) := by
  obtain ⟨r, c1, c2⟩ := hc
  obtain ⟨t, h1, h2⟩ := ha
  exact ⟨_, fun i => pe_callTy (c1 i) (hg i) (by rw [hX i]; exact hm) hv (h1 i) hn hd (he i) (hpl i), lift_cb c2 h2⟩
def dLen : WC := fun xs m Q => match xs with
  | [.lst ds] => Q (.int ds.length) m
  | [.tup ds] => Q (.int ds.length) m
  | [.scr ns] => Q (.int ns.length) m
  | [.box a] => ∃ ds, m a = some ds ∧ Q (.int ds.length) m
  | [.str z] => z.length ≤ sizeLine ∧ Q (.int z.length) m
  | _ => False
theorem b_len (hK : ∀ i, (X i).K = K) : BiU K X (.builtin "len") dLen := by
  refine ⟨_, fun i => hK i ▸ call_len, ?_⟩
  intro G m F H xs ds Q Qd hW r h hQ
  cases r with
  | nil => cases h
  | cons r1 t =>
    cases t with
    | cons _ _ => cases r1 <;> cases h
    | nil =>
      cases r1 <;> first | exact (show False from h).elim | skip
      case lst a xs ds hx rr => exact ⟨_, _, rfl, Or.inl ⟨_, SqL.of (hW.ex _ _ hx), rr.len.symm⟩, hQ.here hW h (.int _)⟩
      case tup a xs ds hx rr => exact ⟨_, _, rfl, Or.inr ⟨_, Evl.ex_t hW.ex hx, rr.len.symm⟩, hQ.here hW h (.int _)⟩
      case scr a ns hx => exact ⟨_, _, rfl, Or.inl ⟨_, Evl.ex_l hW.ex hx, (List.length_map _).symm⟩, hQ.here hW h (.int _)⟩
      case box a =>
        obtain ⟨ds, hm, q⟩ := h
        obtain ⟨_, _, xs, hx, rr⟩ := hW.own a ds hm
        exact ⟨_, _, rfl, Or.inl ⟨_, SqL.of hx, rr.len.symm⟩, hQ.here hW q (.int _)⟩
      case str z => exact ⟨_, _, rfl, ⟨h.1, rfl⟩, hQ.here hW h.2 (.int _)⟩
def dInt2 (f : Int → Int → Int) : WC := fun xs m Q => match xs with
  | [.int i, .int j] => Q (.int (f i j)) m
  | _ => False
theorem lift_int2 {f : Int → Int → Int} : LiftC K (fun xs H Q => ∃ i j, xs = [.int i, .int j] ∧ Q (.int (f i j)) H) (dInt2 f) := by
  intro G m F H xs ds Q Qd hW r h hQ
  unfold dInt2 at h
  split at h
  · cases r with
    | cons r1 t =>
      cases r1
      cases t with
      | cons r2 t =>
        cases r2
        cases t
        exact ⟨_, _, rfl, hQ.here hW h (.int _)⟩
  · cases h
abbrev dMax : WC := dInt2 fun i j => if j > i then j else i
abbrev dMin : WC := dInt2 fun i j => if j < i then j else i
theorem b_max (hc : ∀ i, (X i).calm = true) : BiU K X (.builtin "max") dMax := ⟨_, fun i => call_max2 (hc i), lift_int2⟩
theorem b_min (hc : ∀ i, (X i).calm = true) : BiU K X (.builtin "min") dMin := ⟨_, fun i => call_min2 (hc i), lift_int2⟩
/-! isinstance against a built-in type -/
def tyD : D → String
  | .non => "NoneType" | .bl _ => "bool" | .int _ => "int" | .str _ => "str" | .ty _ => "type" | .lst _ => "list" | .tup _ => "tuple" | .dct _ _ => "dict" | .scr _ => "list" | .box _ => "list" | .obj _ _ _ => "object"
def isTyped : D → Bool
  | .ty _ => false | .box _ => false | .obj _ _ _ => false | _ => true
theorem ty_of {K : Fg} {G H : Hp} {v : V} {d : D} (e : Ex G H) (r : Rp K G v d) (ht : isTyped d = true) : TyX K H v (.type (tyD d)) := by
  cases r with
  | non => exact .base .non
  | bl b => exact .base (.bl b)
  | int i => exact .base (.int i)
  | str x => exact .base (.str x)
  | ty n => cases ht
  | box a => cases ht
  | obj _ _ _ _ _ => cases ht
  | lst h r => exact .base (.lst (e _ _ h))
  | dct h _ _ _ => exact .base (.dK (e _ _ h))
  | tup h r =>
    rcases Evl.ex_t e h with (h | ⟨o, h⟩) | ⟨o, its, n, hk, hc, _⟩
    · exact .base (.tup h)
    · exact .fTuple h
    · exact .kTuple hk hc
  | scr h =>
    rcases Evl.ex_l e h with (h | ⟨o, h⟩) | ⟨o, its, n, hk, hc, _⟩
    · exact .base (.lst h)
    · exact .base (.frz h)
    · exact .kList hk hc
def intB : D → Bool
  | .int _ => true | .bl _ => true | _ => false
def blB : D → Bool
  | .bl _ => true | _ => false
def strB : D → Bool
  | .str _ => true | _ => false
def lstB : D → Bool
  | .lst _ => true | .scr _ => true | .box _ => true | _ => false
def tupB : D → Bool
  | .tup _ => true | _ => false
def dctB : D → Bool
  | .dct _ _ => true | _ => false
/-- isinstance of a datum against a built-in type -/
def isaB (n : String) (x : D) : Option Bool := if n = "int" then some (intB x) else if n = "bool" then some (blB x) else if n = "str" then some (strB x) else if n = "list" then some (lstB x) else if n = "tuple" then some (tupB x) else if n = "dict" then some (dctB x) else none
theorem isa_int {x : D} : isaB "int" x = some (intB x) := if_pos rfl
theorem isa_bool {x : D} : isaB "bool" x = some (blB x) := (if_neg (by decide)).trans (if_pos rfl)
theorem isa_str {x : D} : isaB "str" x = some (strB x) := (if_neg (by decide)).trans ((if_neg (by decide)).trans (if_pos rfl))
theorem isa_list {x : D} : isaB "list" x = some (lstB x) := (if_neg (by decide)).trans ((if_neg (by decide)).trans ((if_neg (by decide)).trans (if_pos rfl)))
theorem isa_tuple {x : D} : isaB "tuple" x = some (tupB x) := (if_neg (by decide)).trans ((if_neg (by decide)).trans ((if_neg (by decide)).trans ((if_neg (by decide)).trans (if_pos rfl))))
theorem isa_dict {x : D} : isaB "dict" x = some (dctB x) := (if_neg (by decide)).trans ((if_neg (by decide)).trans ((if_neg (by decide)).trans ((if_neg (by decide)).trans ((if_neg (by decide)).trans (if_pos rfl)))))
theorem kit_isa {n : String} {x : D} {b : Bool} (hx : isTyped x = true) (h : isaB n x = some b) : kitB (tyD x) n = some b := by
  unfold isaB at h
  by_cases c : n = "int"
  · subst c; rw [if_pos rfl] at h; cases h
    cases x <;> first | (cases hx; done) | (simp only [tyD, intB]; decide +kernel)
  rw [if_neg c] at h
  by_cases c : n = "bool"
  · subst c; rw [if_pos rfl] at h; cases h
    cases x <;> first | (cases hx; done) | (simp only [tyD, blB]; decide +kernel)
  rw [if_neg c] at h
  by_cases c : n = "str"
  · subst c; rw [if_pos rfl] at h; cases h
    cases x <;> first | (cases hx; done) | (simp only [tyD, strB]; decide +kernel)
  rw [if_neg c] at h
  by_cases c : n = "list"
  · subst c; rw [if_pos rfl] at h; cases h
    cases x <;> first | (cases hx; done) | (simp only [tyD, lstB]; decide +kernel)
  rw [if_neg c] at h
  by_cases c : n = "tuple"
  · subst c; rw [if_pos rfl] at h; cases h
    cases x <;> first | (cases hx; done) | (simp only [tyD, tupB]; decide +kernel)
  rw [if_neg c] at h
  by_cases c : n = "dict"
  · subst c; rw [if_pos rfl] at h; cases h
    cases x <;> first | (cases hx; done) | (simp only [tyD, dctB]; decide +kernel)
  rw [if_neg c] at h
  cases h
def dIsi : WC := fun xs m Q => match xs with
  | [x, .ty n] => isTyped x = true ∧ ∃ b, isaB n x = some b ∧ Q (.bl b) m
  | _ => False
theorem b_isi (hK : ∀ i, (X i).K = K) : BiU K X (.builtin "isinstance") dIsi := by
  refine ⟨_, fun i => hK i ▸ call_isi, ?_⟩
  intro G m F H xs ds Q Qd hW r h hQ
  unfold dIsi at h
  split at h
  · obtain ⟨h1, b, hb, q⟩ := h
    cases r with
    | cons r1 t =>
      cases t with
      | cons r2 t =>
        cases r2
        cases t
        exact ⟨_, _, _, _, b, rfl, .ty _, ty_of hW.ex r1 h1, kit_ty (kit_isa h1 hb), hQ.here hW q (.bl b)⟩
  · cases h
/-! all, any, sum -/
def blsD : List D → Option (List Bool)
  | [] => some []
  | .bl b :: ds => (blsD ds).map (b :: ·)
  | _ => none
theorem bls_of {K : Fg} {G : Hp} : ∀ {vs : List V} {ds : List D} {bs : List Bool}, RpA K G vs ds → blsD ds = some bs → vs = bs.map V.bl
  | _, _, bs, .nil, h => by cases h; rfl
  | _, _, bs, .cons r t, h => by
    cases r <;> first | (cases h; done) | skip
    rename_i ds b
    unfold blsD at h
    cases e : blsD ds with
    | none => rw [e] at h; cases h
    | some cs =>
      rw [e] at h
      cases h
      rw [bls_of t e]
      rfl
def intsD : List D → Option (List Int)
  | [] => some []
  | .int b :: ds => (intsD ds).map (b :: ·)
  | _ => none
theorem ints_of {K : Fg} {G : Hp} : ∀ {vs : List V} {ds : List D} {bs : List Int}, RpA K G vs ds → intsD ds = some bs → vs = bs.map V.int
  | _, _, bs, .nil, h => by cases h; rfl
  | _, _, bs, .cons r t, h => by
    cases r <;> first | (cases h; done) | skip
    rename_i ds b
    unfold intsD at h
    cases e : intsD ds with
    | none => rw [e] at h; cases h
    | some cs =>
      rw [e] at h
      cases h
      rw [ints_of t e]
      rfl
def strsD : List D → Option (List Str)
  | [] => some []
  | .str b :: ds => (strsD ds).map (b :: ·)
  | _ => none
theorem strs_of {K : Fg} {G : Hp} : ∀ {vs : List V} {ds : List D} {bs : List Str}, RpA K G vs ds → strsD ds = some bs → vs = bs.map V.str
  | _, _, bs, .nil, h => by cases h; rfl
  | _, _, bs, .cons r t, h => by
    cases r <;> first | (cases h; done) | skip
    rename_i ds b
    unfold strsD at h
    cases e : strsD ds with
    | none => rw [e] at h; cases h
    | some cs =>
      rw [e] at h
      cases h
      rw [strs_of t e]
      rfl
def dBls (f : List Bool → Bool) : WC := fun xs m Q => match xs with
  | [.lst ds] => ∃ bs, blsD ds = some bs ∧ Q (.bl (f bs)) m
  | _ => False
theorem lift_bls {f : List Bool → Bool} : LiftC K (fun vs H Q => ∃ (a : Addr) (bs : List Bool), vs = [V.ref a] ∧ SqL K H a (bs.map V.bl) ∧ Q (.bl (f bs)) H) (dBls f) := by
  intro G m F H xs ds Q Qd hW r h hQ
  unfold dBls at h
  split at h
  · obtain ⟨bs, hb, q⟩ := h
    cases r with
    | cons r1 t =>
      cases t
      cases r1 with
      | lst hx rr =>
        rw [bls_of rr hb] at hx
        exact ⟨_, bs, rfl, SqL.of (hW.ex _ _ hx), hQ.here hW q (.bl _)⟩
  · cases h
theorem b_all (hK : ∀ i, (X i).K = K) (hc : ∀ i, (X i).calm = true) : BiU K X (.builtin "all") (dBls fun bs => bs.all id) := ⟨_, fun i => hK i ▸ cr_all (hc i), lift_bls⟩
theorem b_any (hK : ∀ i, (X i).K = K) (hc : ∀ i, (X i).calm = true) : BiU K X (.builtin "any") (dBls fun bs => bs.any id) := ⟨_, fun i => hK i ▸ cr_any (hc i), lift_bls⟩
def dSum : WC := fun xs m Q => match xs with
  | [.lst ds] => ∃ bs, intsD ds = some bs ∧ Q (.int bs.sum) m
  | _ => False
theorem b_sum (hK : ∀ i, (X i).K = K) (hc : ∀ i, (X i).calm = true) : BiU K X (.builtin "sum") dSum := by
  refine ⟨_, fun i => hK i ▸ cr_sum (hc i), ?_⟩
  intro G m F H xs ds Q Qd hW r h hQ
  unfold dSum at h
  split at h
  · obtain ⟨bs, hb, q⟩ := h
    cases r with
    | cons r1 t =>
      cases t
      cases r1 with
      | lst hx rr =>
        rw [ints_of rr hb] at hx
        exact ⟨_, bs, rfl, SqL.of (hW.ex _ _ hx), hQ.here hW q (.int _)⟩
  · cases h
/-- tuple(xs), list(xs) -/
def dTuple : WC := fun xs m Q => match xs with
  | [.lst ds] => Q (.tup ds) m
  | [.tup ds] => Q (.tup ds) m
  | _ => False
theorem b_tuple (hK : ∀ i, (X i).K = K) : BiU K X (.type "tuple") dTuple := by
  refine ⟨_, fun i => hK i ▸ call_tuple_of, ?_⟩
  intro G m F H xs ds Q Qd hW r h hQ
  unfold dTuple at h
  split at h
  · cases r with
    | cons r1 t =>
      cases t
      cases r1 with
      | lst hx rr => exact ⟨_, _, rfl, Or.inl ⟨SqL.of (hW.ex _ _ hx), hQ.tup hW h rr⟩⟩
  · cases r with
    | cons r1 t =>
      cases t
      cases r1 with
      | tup hx rr => exact ⟨_, _, rfl, Or.inr ⟨Evl.ex_t hW.ex hx, hQ.here hW h (.tup hx rr)⟩⟩
  · cases h
def dList : WC := fun xs m Q => match xs with
  | [.lst ds] => Q (.lst ds) m
  | [.tup ds] => Q (.lst ds) m
  | _ => False
theorem b_list (hK : ∀ i, (X i).K = K) : BiU K X (.type "list") dList := by
  refine ⟨_, fun i => hK i ▸ call_list_of, ?_⟩
  intro G m F H xs ds Q Qd hW r h hQ
  unfold dList at h
  split at h
  · cases r with
    | cons r1 t =>
      cases t
      cases r1 with
      | lst hx rr => exact ⟨_, _, rfl, Or.inl (SqL.of (hW.ex _ _ hx)), hQ.lst hW h rr⟩
  · cases r with
    | cons r1 t =>
      cases t
      cases r1 with
      | tup hx rr => exact ⟨_, _, rfl, Or.inr (Evl.ex_t hW.ex hx), hQ.lst hW h rr⟩
  · cases h
/-! repr -/
structure Shows (d : PyData) : Prop where
  lay : d.canLay0 = true
  show1 : d.showable = true
  nod : d.hasDict = false
  deep : d.depth ≤ 60
  size : d.shown.length ≤ sizeLine
def dRepr : WC := fun xs m Q => match xs with
  | [.bl b] => Q (.str (if b then "True" else "False")) m
  | [.int i] => i.natAbs.log2 < 1920 ∧ Q (.str (toString i)) m
  | [.lst ds] => Shows (py (.lst ds)) ∧ Q (.str (py (.lst ds)).shown) m
  | [.tup ds] => Shows (py (.tup ds)) ∧ Q (.str (py (.tup ds)).shown) m
  | _ => False
def rReprB : List V → Hp → VK → Prop := fun xs H Q => ∃ b, xs = [.bl b] ∧ Q (.str (if b then "True" else "False")) H
theorem call_reprB {X : Cx} : CallR X (.builtin "repr") rReprB := by
  intro pins s σ H xs us Q I r h
  obtain ⟨b, rfl, q⟩ := h
  cases r with
  | cons r1 t =>
    cases t
    cases r1
    exact PySem.P.repr_of_bool ⟨.str _, H, I.tok _, ⟨_, rfl⟩, q⟩
def rReprI : List V → Hp → VK → Prop := fun xs H Q => ∃ i, xs = [.int i] ∧ i.natAbs.log2 < 1920 ∧ Q (.str (toString i)) H
theorem call_reprI {X : Cx} : CallR X (.builtin "repr") rReprI := by
  intro pins s σ H xs us Q I r h
  obtain ⟨i, rfl, hz, q⟩ := h
  cases r with
  | cons r1 t =>
    cases t
    obtain ⟨t, rfl⟩ := r1
    exact PySem.P.repr_of_int hz ⟨.str _, H, I.tok _, ⟨_, rfl⟩, q⟩
def rReprL (K : Fg) : List V → Hp → VK → Prop := fun xs H Q => ∃ a d, xs = [.ref a] ∧ Dp K H (.ref a) d ∧ d.showable = true ∧ d.hasDict = false ∧ d.depth ≤ 60 ∧ d.shown.length ≤ sizeLine ∧ Q (.str d.shown) H
theorem call_reprL {X : Cx} (hc : X.A.guards = some []) (hu : X.A.units + 64 < cLine) : CallR X (.builtin "repr") (rReprL X.K) := by
  intro pins s σ H xs us Q I r h
  obtain ⟨a, d, rfl, hd, hs, hh, hdp, hl, q⟩ := h
  cases r with
  | cons r1 t =>
    cases t
    cases r1
    obtain ⟨as, hr⟩ := Dp.reads I d _ _ hd rfl
    refine repr_of_reads' hr hs (fun z => by rw [hh] at z; cases z) hc (by omega) (fun _ _ q => q) (fun h' u tk k => ?_) hl
    exact ⟨.str d.shown, H, I.kept k, ⟨u, rfl⟩, q⟩
end
end DL
namespace DL
open PySem L2
open Evl (Ex)
/-! ### families: the guards too -/
structure FamG (P : Program) (w : World) (K : Fg) (mg : Str → Option Value) (base : Heap) (k : Nat) (N : List Str) {ι : Type} (X : ι → Cx) : Prop extends Fam P w K mg base k N X where
  guards : ∀ i, (X i).A.guards = some []
theorem call_or {X : Cx} {f : Value} {r r' : List V → Hp → VK → Prop} (h : CallR X f r) (h' : CallR X f r') : CallR X f (fun xs H Q => r xs H Q ∨ r' xs H Q) := by
  intro pins s σ H xs us Q I rv q
  rcases q with q | q
  · exact h pins s σ H xs us Q I rv q
  · exact h' pins s σ H xs us Q I rv q
theorem b_repr {P : Program} {w : World} {K : Fg} {mg : Str → Option Value} {base : Heap} {k : Nat} {N : List Str} {ι : Type} {X : ι → Cx} (hX : FamG P w K mg base k N X) : BiU K X (.builtin "repr") dRepr := by
  refine ⟨_, fun i => call_or (call_or call_reprB call_reprI) (hX.K i ▸ call_reprL (hX.guards i) (by have := (hX.room i).un; omega)), ?_⟩
  intro G m F H xs ds Q Qd hW r h hQ
  unfold dRepr at h
  split at h
  · cases r with
    | cons r1 t =>
      cases t
      cases r1
      exact Or.inl (Or.inl ⟨_, rfl, hQ.here hW h (.str _)⟩)
  · cases r with
    | cons r1 t =>
      cases t
      cases r1
      exact Or.inl (Or.inr ⟨_, rfl, h.1, hQ.here hW h.2 (.str _)⟩)
  · obtain ⟨h0, q⟩ := h
    cases r with
    | cons r1 t =>
      cases t
      have hd := dp_of hW.ex (D.lst _) r1 h0.lay
      cases r1 with
      | lst hx rr => exact Or.inr ⟨_, _, rfl, hd, h0.show1, h0.nod, h0.deep, h0.size, hQ.here hW q (.str _)⟩
  · obtain ⟨h0, q⟩ := h
    cases r with
    | cons r1 t =>
      cases t
      have hd := dp_of hW.ex (D.tup _) r1 h0.lay
      cases r1 with
      | tup hx rr => exact Or.inr ⟨_, _, rfl, hd, h0.show1, h0.nod, h0.deep, h0.size, hQ.here hW q (.str _)⟩
  · cases h
/-- the contexts of a comprehension's blocks -/
abbrev BI (ι : Type) := ι × Shared × Hp × Addr × List (Str × Addr) × List Addr
def Blk {ι : Type} (X : ι → Cx) (scope : Scope) : BI ι → Cx := fun j => (X j.1).blk j.2.1 j.2.2.1 scope (compEnvC scope j.2.2.2.2.1 j.2.2.2.1 (X j.1).env) j.2.2.2.2.2
theorem FamG.blk {P : Program} {w : World} {K : Fg} {mg : Str → Option Value} {base : Heap} {k : Nat} {N : List Str} {ι : Type} {X : ι → Cx} (hX : FamG P w K mg base k N X) (scope : Scope) : FamG P w K mg base k N (Blk X scope) where
  prog := fun j => hX.prog j.1
  w := fun j => hX.w j.1
  K := fun j => hX.K j.1
  mg := fun j => hX.mg j.1
  base := fun j => hX.base j.1
  hN := fun j => hX.hN j.1
  calm := fun j => hX.calm j.1
  room := fun j => hX.room j.1
  nd := hX.nd
  guards := fun j => hX.guards j.1

/-! ### targets -/
theorem wipe_ix (σ : L2.St) : ∀ (vs : List Nat) (i : Nat), (L2.wipe σ vs)[i]? = if i ∈ vs then (σ[i]?).map (fun _ => none) else σ[i]?
  | [], i => by simp [L2.wipe]
  | v :: vs, i => by
    unfold L2.wipe
    rw [List.getElem?_set]
    by_cases h : v = i
    · subst h
      rw [if_pos rfl, if_pos List.mem_cons_self, wipe_length]
      by_cases hl : v < σ.length
      · rw [if_pos hl, List.getElem?_eq_getElem hl]; rfl
      · rw [if_neg hl, List.getElem?_eq_none (Nat.le_of_not_lt hl)]; rfl
    · rw [if_neg h, wipe_ix σ vs i]
      by_cases hm : i ∈ vs
      · rw [if_pos hm, if_pos (List.mem_cons_of_mem _ hm)]
      · rw [if_neg hm, if_neg (by intro z; rcases List.mem_cons.mp z with z | z; exact h z.symm; exact hm z)]
theorem wipe_put {σ : L2.St} {vs : List Nat} {j : Nat} {o : Option V} (h : j ∈ vs) : L2.wipe (σ.set j o) vs = L2.wipe σ vs := by
  apply List.ext_getElem?
  intro i
  rw [wipe_ix, wipe_ix]
  by_cases hm : i ∈ vs
  · rw [if_pos hm, if_pos hm, List.getElem?_set]
    by_cases e : j = i
    · subst e
      rw [if_pos rfl]
      by_cases hl : j < σ.length
      · rw [if_pos hl, List.getElem?_eq_getElem hl]; rfl
      · rw [if_neg hl, List.getElem?_eq_none (Nat.le_of_not_lt hl)]
    · rw [if_neg e]
  · rw [if_neg hm, if_neg hm, List.getElem?_set, if_neg (fun e2 => hm (by rw [← e2]; exact h))]
theorem wipe_wipe {σ : L2.St} {vs : List Nat} : L2.wipe (L2.wipe σ vs) vs = L2.wipe σ vs := by
  apply List.ext_getElem?
  intro i
  rw [wipe_ix, wipe_ix]
  by_cases hm : i ∈ vs
  · rw [if_pos hm, if_pos hm]
    cases σ[i]? <;> rfl
  · rw [if_neg hm, if_neg hm]
abbrev WG := D → En0 → (En0 → Prop) → Prop
abbrev WGs := List D → En0 → (En0 → Prop) → Prop
def LiftG (K : Fg) (js : List Nat) (t : TG) (g : WG) : Prop := ∀ G m F H v d σ ρ (Q : L2.St → Hp → Prop) (Qd : En0 → Prop), Wd K G m F H → En K G σ ρ → Rp K G v d → g d ρ Qd →
  (∀ ρ' σ', Qd ρ' → En K G σ' ρ' → (∀ vs, (∀ j ∈ js, j ∈ vs) → L2.wipe σ' vs = L2.wipe σ vs) → Q σ' H) → t v σ H Q
def LiftGs (K : Fg) (js : List Nat) (t : TGs) (g : WGs) : Prop := ∀ G m F H vs ds σ ρ (Q : L2.St → Hp → Prop) (Qd : En0 → Prop), Wd K G m F H → En K G σ ρ → RpA K G vs ds → g ds ρ Qd →
  (∀ ρ' σ', Qd ρ' → En K G σ' ρ' → (∀ vs, (∀ j ∈ js, j ∈ vs) → L2.wipe σ' vs = L2.wipe σ vs) → Q σ' H) → t vs σ H Q
def PDG (K : Fg) {ι : Type} (X : ι → Cx) (tg : Expr) (js : List Nat) (g : WG) : Prop := ∃ t, (∀ i, PG (X i) tg t) ∧ LiftG K js t g
def PDGs (K : Fg) {ι : Type} (X : ι → Cx) (tgs : List Expr) (js : List Nat) (g : WGs) : Prop := ∃ t, (∀ i, PGs (X i) tgs t) ∧ LiftGs K js t g
def gvName (i : Nat) : WG := fun d ρ Q => Q (ρ.set i (some d))
def gvNil : WGs := fun ds ρ Q => ds = [] ∧ Q ρ
def gvCons (g : WG) (r : WGs) : WGs := fun ds ρ Q => ∃ d t, ds = d :: t ∧ g d ρ fun ρ1 => r t ρ1 Q
def gvTup (n : Nat) (g : WGs) : WG := fun d ρ Q => match d with
  | .tup ds => ds.length = n ∧ g ds ρ Q
  | _ => False
section
variable {K : Fg} {W : Wx} {ι : Type} {X : ι → Cx} {pos : Pos} {a b c e : Expr} {es : List Expr} {wa wb wc w : WE} {wr : WA}
theorem pg_name (i : Nat) {N : List Str} {x : Str} (hX : ∀ j, (X j).N = N) (hN : N.Nodup) (hi : N[i]? = some x := by rfl) (hx : ∀ j, Loc (X j).env.scope x := by intro _; first | exact Or.inl rfl | exact Or.inr rfl) (hf : ∀ j, (X j).fn x = true ∨ (X j).env.scope.names.lookup x = some .local := by intro _; first | exact Or.inl rfl | exact Or.inr rfl) : PDG K X (.Name x pos) [i] (gvName i) := by
  refine ⟨_, fun j => L2.pg_name (i := i) (by rw [hX j]; exact hN) (by rw [hX j]; exact hi) (hx j) (hf j), ?_⟩
  intro G m F H v d σ ρ Q Qd hW hE r h hQ
  exact hQ _ _ h (hE.put r i) fun vs hv => wipe_put (hv i List.mem_cons_self)
theorem pgs_nil : PDGs K X [] [] gvNil := by
  refine ⟨_, fun j => L2.pgs_nil, ?_⟩
  intro G m F H vs ds σ ρ Q Qd hW hE r h hQ
  obtain ⟨rfl, h⟩ := h
  cases r
  exact ⟨rfl, hQ _ _ h hE fun _ _ => rfl⟩
theorem pgs_cons {js js' : List Nat} {g : WG} {gs : WGs} (h1 : PDG K X e js g) (h2 : PDGs K X es js' gs) (hs : ∀ i, (assignEach (e :: es) (X i).env).map (·.2) = assign e (X i).env :: (assignEach es (X i).env).map (·.2) := by intro _; rfl) : PDGs K X (e :: es) (js ++ js') (gvCons g gs) := by
  obtain ⟨t, a1, a2⟩ := h1
  obtain ⟨u, b1, b2⟩ := h2
  refine ⟨_, fun j => L2.pgs_cons (a1 j) (b1 j) (hs j), ?_⟩
  intro G m F H vs ds σ ρ Q Qd hW hE r h hQ
  obtain ⟨d, t', rfl, h⟩ := h
  cases r with
  | cons r1 r2 =>
    refine ⟨_, _, rfl, a2 G m F H _ d σ ρ _ _ hW hE r1 h ?_⟩
    intro ρ1 σ1 h1 hE1 w1
    refine b2 G m F H _ t' σ1 ρ1 _ _ hW hE1 r2 h1 ?_
    intro ρ2 σ2 h2 hE2 w2
    exact hQ ρ2 σ2 h2 hE2 fun vs hv => (w2 vs fun j hj => hv j (List.mem_append_right _ hj)).trans (w1 vs fun j hj => hv j (List.mem_append_left _ hj))
theorem pg_tup {n : Nat} {js : List Nat} {g : WGs} {kx : Nat} (hK : ∀ i, (X i).K = K) (hc : ∀ i, (X i).calm = true) (h : PDGs K X es js g) (hn : ∀ i, (assignEach es (X i).env).length = n := by intro _; rfl) (hst : ∀ i, (assignEach es (X i).env).findIdx? (·.1) = none := by intro _; rfl) : PDG K X (.Tuple es kx pos) js (gvTup n g) := by
  obtain ⟨t, a1, a2⟩ := h
  refine ⟨gTup K n t, fun j => hK j ▸ L2.pg_tup (hc j) (a1 j) (hn j) (hst j), ?_⟩
  intro G m F H v d σ ρ Q Qd hW hE r h hQ
  cases r <;> first | exact (show False from h).elim | skip
  case tup a0 xs ds hx rr => exact ⟨_, _, rfl, Evl.ex_t hW.ex hx, by rw [rr.len]; exact h.1, a2 G m F H xs ds σ ρ Q Qd hW hE rr h.2 hQ⟩

/-! ### what is walked -/
def DW (K : Fg) (J : It) (ds : List D) (G0 : Hp) : Prop := ∃ Gd Y, Walk J ds.length Gd Y ∧ ∀ G m F H, Ex G0 G → Wd K G m F H → Gd H ∧
  ∀ i H' x d, ds[i]? = some d → Y i H x H' → ∃ G', Ex G G' ∧ Wd K G' m F H' ∧ Rp K G' x d
theorem DW.mono {J : It} {ds : List D} {G G' : Hp} (h : DW K J ds G) (e : Ex G G') : DW K J ds G' := by
  obtain ⟨Gd, Y, w, k⟩ := h
  exact ⟨Gd, Y, w, fun G2 m F H e2 W => k G2 m F H (e.trans e2) W⟩
def LiftI (K : Fg) (W : Wx) (t : TI) (w : WA) : Prop := ∀ G m F H σ ρ (R : It → Hp → Prop) (Qd : List D → Mem → Prop) (Qx : XQ), Wd K G m F H → En K G σ ρ → w ρ m Qd Qx → FitX K W G F Qx →
  (∀ ds m' J G' H', Qd ds m' → Ex G G' → Wd K G' m' F H' → DW K J ds G' → R J H') → t σ H R
def PDI (K : Fg) (W : Wx) {ι : Type} (X : ι → Cx) (tg iter : Expr) (w : WA) : Prop := ∃ t, (∀ i, PI (X i) tg iter t) ∧ LiftI K W t w
/-- a list's items -/
def iLst (w : WE) : WA := fun ρ m Q Qx => w ρ m (fun d m1 => match d with
  | .lst ds => Q ds m1
  | .scr ns => Q (ns.map D.int) m1
  | _ => False) Qx
theorem dw_list {a : Addr} {xs : List V} {ds : List D} {G : Hp} (h : G a = some (.lst xs)) (r : RpA K G xs ds) : DW K (Itl K a) ds G := by
  refine ⟨_, _, r.len ▸ walk_list (xs := xs), fun G2 m F H e W => ⟨SqL.of (W.ex _ _ (e _ _ h)), ?_⟩⟩
  rintro i H' x d hd ⟨rfl, hx⟩
  obtain ⟨v, hv, rv⟩ := r.at hd
  rw [hv] at hx
  cases hx
  exact ⟨G2, Ex.refl _, W, rv.mono e⟩
theorem dw_scr {a : Addr} {ns : List Int} {G : Hp} (h : SqL K G a (ns.map V.int)) : DW K (Itl K a) (ns.map D.int) G := by
  have hl : (ns.map D.int).length = (ns.map V.int).length := by rw [List.length_map, List.length_map]
  refine ⟨_, _, hl ▸ walk_list (xs := ns.map V.int), fun G2 m F H e W => ⟨Evl.ex_l W.ex (Evl.ex_l e h), ?_⟩⟩
  rintro i H' x d hd ⟨rfl, hx⟩
  rw [List.getElem?_map] at hd hx
  cases e2 : ns[i]? with
  | none => rw [e2] at hd; cases hd
  | some n =>
    rw [e2] at hd hx
    cases hd; cases hx
    exact ⟨G2, Ex.refl _, W, .int n⟩
theorem pi_lst (hK : ∀ i, (X i).K = K) (ha : PD K W X a wa) {tg : Expr} : PDI K W X tg a (iLst wa) := by
  obtain ⟨t, h1, h2⟩ := ha
  refine ⟨iList K t, fun i => hK i ▸ pi_list (h1 i), ?_⟩
  intro G m F H σ ρ R Qd Qx hW hE h hX hR
  refine h2 G m F H σ ρ _ _ Qx hW hE h hX ?_
  intro d m1 x G1 H1 q e1 W1 r1
  cases r1 <;> first | exact (show False from q).elim | skip
  case lst a0 xs ds hx rr => exact ⟨a0, rfl, ⟨xs, SqL.of (W1.ex _ _ hx)⟩, hR _ _ _ _ _ q e1 W1 (dw_list hx rr)⟩
  case scr a0 ns hx => exact ⟨a0, rfl, ⟨_, Evl.ex_l W1.ex hx⟩, hR _ _ _ _ _ q e1 W1 (dw_scr hx)⟩
/-- a tuple's items -/
def iTp (w : WE) : WA := fun ρ m Q Qx => w ρ m (fun d m1 => match d with
  | .tup ds => Q ds m1
  | _ => False) Qx
theorem pi_tp (hK : ∀ i, (X i).K = K) (ha : PD K W X a wa) {tg : Expr} : PDI K W X tg a (iTp wa) := by
  obtain ⟨t, h1, h2⟩ := ha
  refine ⟨iTup K t, fun i => hK i ▸ pi_tup (h1 i), ?_⟩
  intro G m F H σ ρ R Qd Qx hW hE h hX hR
  refine h2 G m F H σ ρ _ _ Qx hW hE h hX ?_
  intro d m1 x G1 H1 q e1 W1 r1
  cases r1 <;> first | exact (show False from q).elim | skip
  case tup a0 xs ds hx rr =>
    refine ⟨a0, rfl, ⟨xs, Evl.ex_t W1.ex hx⟩, hR _ _ _ _ _ q e1 W1 ?_⟩
    refine ⟨_, _, rr.len ▸ walk_tup (xs := xs), fun G2 m F H e W => ⟨Evl.ex_t W.ex (Evl.ex_t e hx), ?_⟩⟩
    rintro i H' x d hd ⟨rfl, hx⟩
    obtain ⟨v, hv, rv⟩ := rr.at hd
    rw [hv] at hx
    cases hx
    exact ⟨G2, Ex.refl _, W, rv.mono e⟩
/-- a text's signs -/
def signs (z : Str) : List D := z.cps.toList.map fun c => D.str ⟨#[c]⟩
def iSg (w : WE) : WA := fun ρ m Q Qx => w ρ m (fun d m1 => match d with
  | .str z => Q (signs z) m1
  | _ => False) Qx
theorem pi_sg (ha : PD K W X a wa) {tg : Expr} : PDI K W X tg a (iSg wa) := by
  obtain ⟨t, h1, h2⟩ := ha
  refine ⟨_, fun i => L2.pi_str (h1 i), ?_⟩
  intro G m F H σ ρ R Qd Qx hW hE h hX hR
  refine h2 G m F H σ ρ _ _ Qx hW hE h hX ?_
  intro d m1 x G1 H1 q e1 W1 r1
  cases r1 <;> first | exact (show False from q).elim | skip
  rename_i z
  refine ⟨z, rfl, hR _ _ _ _ _ q e1 W1 ?_⟩
  have hl : (signs z).length = z.cps.size := by unfold signs; rw [List.length_map, Array.length_toList]
  refine ⟨_, _, hl ▸ walk_str (z := z), fun G2 m F H e W => ⟨trivial, ?_⟩⟩
  rintro i H' x d hd ⟨rfl, c, hc, rfl⟩
  unfold signs at hd
  rw [List.getElem?_map, Array.getElem?_toList, hc] at hd
  cases hd
  exact ⟨G2, Ex.refl _, W, .str _⟩
/-- range(n) -/
def iRg1 (w : WA) : WA := fun ρ m Q Qx => w ρ m (fun ds m1 => match ds with
  | [.int n] => (-(2 ^ 62) ≤ n ∧ n < 2 ^ 62) ∧ Q ((List.range n.toNat).map fun i => D.int (0 + (i : Nat))) m1
  | _ => False) Qx
theorem pi_rg1 {mg : Str → Option Value} {p : Pos} (hX : ∀ i, (X i).mg = mg) (hm : mg "range" = none) (ha : PDA K W X [a] wr) (hg : ∀ i, Gl (X i) "range" := by intro _; rfl) (hs : ∀ i, starEach [a] (X i).env = [(false, eval a (X i).env)] := by intro _; rfl) {tg : Expr} : PDI K W X tg (.Call (.Name "range" p) [a] [] pos) (iRg1 wr) := by
  obtain ⟨t, h1, h2⟩ := ha
  refine ⟨_, fun i => pi_range1 (hg i) (by rw [hX i]; exact hm) (h1 i) (hs i), ?_⟩
  intro G m F H σ ρ R Qd Qx hW hE h hX hR
  refine h2 G m F H σ ρ _ _ Qx hW hE h hX ?_
  intro ds m1 xs G1 H1 q e1 W1 r1
  split at q
  · cases r1 with
    | cons r1 t =>
      cases t
      cases r1
      rename_i n
      refine ⟨n, rfl, q.1.1, q.1.2, hR _ _ _ _ _ q.2 e1 W1 ?_⟩
      have hl : ((List.range n.toNat).map fun i => D.int (0 + (i : Nat))).length = n.toNat := by rw [List.length_map, List.length_range]
      refine ⟨_, _, (by rw [hl]; exact walk_range (lo := 0) (n := n.toNat)), fun G2 m F H e W => ⟨trivial, ?_⟩⟩
      rintro i H' x d hd ⟨rfl, rfl⟩
      rw [List.getElem?_map] at hd
      cases e2 : (List.range n.toNat)[i]? with
      | none => rw [e2] at hd; cases hd
      | some j =>
        rw [e2] at hd
        cases hd
        obtain ⟨_, rfl⟩ := List.getElem?_eq_some_iff.mp e2
        rw [List.getElem_range]
        exact ⟨G2, Ex.refl _, W, .int _⟩
  · cases q

/-! ### statements -/
def sNext : WS := fun E ρ m => E.nx ρ m
def sSeq (t u : WS) : WS := fun E ρ m => t { E with nx := fun ρ' m' => u E ρ' m' } ρ m
def sRet (w : WE) : WS := fun E ρ m => w ρ m E.rt E.ex
def sDrop (w : WE) : WS := fun E ρ m => w ρ m (fun _ m' => E.nx ρ m') E.ex
def sIf (c : WT) (t u : WS) : WS := fun E ρ m => c ρ m (fun k m' => if k = true then t E ρ m' else u E ρ m') E.ex
def sSet (i : Nat) (w : WE) : WS := fun E ρ m => w ρ m (fun d m' => E.nx (ρ.set i (some d)) m') E.ex
def sNever : WS := fun _ _ _ => False
variable {st : Stmt} {sts sts' : List Stmt} {t u : WS} {ua : WT}
theorem pb_nil : PDB K W X [] sNext := ⟨_, fun _ => pss_nil, fun G m F H σ ρ S E hW hE h f => f.nx ρ m σ G H h (Ex.refl G) hW hE⟩
theorem pb_cons (h1 : PDS K W X st t) (h2 : PDB K W X sts u) : PDB K W X (st :: sts) (sSeq t u) := by
  obtain ⟨t', a1, a2⟩ := h1
  obtain ⟨u', b1, b2⟩ := h2
  refine ⟨_, fun i => pss_cons (a1 i) (b1 i), ?_⟩
  intro G m F H σ ρ S E hW hE h f
  refine a2 G m F H σ ρ _ _ hW hE h ⟨?_, f.rt, f.bk, f.ct, f.ex⟩
  intro ρ' m' σ' G' H' q e W' E'
  exact b2 G' m' F H' σ' ρ' S E W' E' q (f.mono e)
theorem pb_one (h1 : PDS K W X st t) : PDB K W X [st] t := by
  obtain ⟨t', a1, a2⟩ := h1
  exact ⟨_, fun i => pss_one (a1 i), a2⟩
theorem pb_never : PDB K W X sts sNever := ⟨_, fun _ => pss_never, fun G m F H σ ρ S E hW hE h f => h.elim⟩
theorem ps_never : PDS K W X st sNever := ⟨_, fun _ => L2.ps_never, fun G m F H σ ρ S E hW hE h f => h.elim⟩
theorem ps_ret (h : PD K W X e w) : PDS K W X (.Return (some e) pos) (sRet w) := by
  obtain ⟨t, h1, h2⟩ := h
  refine ⟨_, fun i => L2.ps_ret (h1 i), ?_⟩
  intro G m F H σ ρ S E hW hE h f
  exact h2 G m F H σ ρ _ _ E.ex hW hE h f.ex f.rt
theorem ps_expr (h : PD K W X e w) (hs : ∀ i, swapsWith e none pos.line (X i).env = pure false := by intro _; rfl) : PDS K W X (.Expr e pos) (sDrop w) := by
  obtain ⟨t, h1, h2⟩ := h
  refine ⟨_, fun i => L2.ps_expr (h1 i) (hs i), ?_⟩
  intro G m F H σ ρ S E hW hE h f
  refine h2 G m F H σ ρ _ _ E.ex hW hE h f.ex ?_
  intro d m' v G' H' q e W' r
  exact f.nx ρ m' σ G' H' q e W' (hE.mono e)
theorem ps_if (hc : PDT K W X c ua) (h1 : PDB K W X sts t) (h2 : PDB K W X sts' u) : PDS K W X (.If c sts sts' pos) (sIf ua t u) := by
  obtain ⟨tc, c1, c2⟩ := hc
  obtain ⟨t', a1, a2⟩ := h1
  obtain ⟨u', b1, b2⟩ := h2
  refine ⟨_, fun i => L2.ps_if (c1 i) (a1 i) (b1 i), ?_⟩
  intro G m F H σ ρ S E hW hE h f
  refine c2 G m F H σ ρ _ _ E.ex hW hE h f.ex ?_
  intro k m' G' H' q e W'
  cases k with
  | true => exact a2 G' m' F H' σ ρ S E W' (hE.mono e) q (f.mono e)
  | false => exact b2 G' m' F H' σ ρ S E W' (hE.mono e) q (f.mono e)
theorem ps_set (i : Nat) {N : List Str} {x : Str} {p' : Pos} (hX : ∀ j, (X j).N = N) (hN : N.Nodup) (h : PD K W X e w) (hi : N[i]? = some x := by rfl) (hx : ∀ j, Loc (X j).env.scope x := by intro _; first | exact Or.inl rfl | exact Or.inr rfl) (hs : ∀ j, swapsWith e (some (.Name x p')) pos.line (X j).env = pure false := by intro _; rfl)
    (hf : ∀ j, (X j).fn x = true ∨ (X j).env.scope.names.lookup x = some .local := by intro _; first | exact Or.inl rfl | exact Or.inr rfl) : PDS K W X (.Assign [.Name x p'] e pos) (sSet i w) := by
  obtain ⟨t, h1, h2⟩ := h
  refine ⟨_, fun j => L2.ps_set (i := i) (by rw [hX j]; exact hN) (by rw [hX j]; exact hi) (hx j) (h1 j) (hs j) (hf j), ?_⟩
  intro G m F H σ ρ S E hW hE h f
  refine h2 G m F H σ ρ _ _ E.ex hW hE h f.ex ?_
  intro d m' v G' H' q e W' r
  exact f.nx _ m' _ G' H' q e W' ((hE.mono e).put r i)
/-- xs[i] = e, xs owned -/
def sPut (o i v : WE) : WS := fun E ρ m => v ρ m (fun d m1 => o ρ m1 (fun x m2 => i ρ m2 (fun k m3 => match x, k with
  | .box a, .int j => ∃ ds n, m3 a = some ds ∧ ixN ds.length j = some n ∧ E.nx ρ (m3.up a (ds.set n d))
  | _, _ => False) E.ex) E.ex) E.ex
theorem ps_put {o i : Expr} {wo wi wv : WE} {p' : Pos} (hv : PD K W X e wv) (ho : PD K W X o wo) (hi : PD K W X i wi) (hs : ∀ j, swapsWithSole [.Subscript o i p'] e pos.line (X j).env = pure false := by intro _; rfl) (hw : ∀ j, swappedStores [.Subscript o i p'] e (X j).env = pure none := by intro _; rfl)
    (h1 : ∀ j, (assignEach [.Subscript o i p'] (X j).env).map (·.2) = [assign (.Subscript o i p') (X j).env] := by intro _; rfl)
    (ha : ∀ j v, assign (.Subscript o i p') (X j).env v = (do
      let ov ← holding [v] (eval o (X j).env)
      let iv ← holding [v, ov] (eval i (X j).env)
      standAt p'
      holding [v, ov, iv] (setItem ov iv v)
      release [v, ov, iv] []) := by intro _ _; rfl) : PDS K W X (.Assign [.Subscript o i p'] e pos) (sPut wo wi wv) := by
  obtain ⟨tv, v1, v2⟩ := hv
  obtain ⟨to, o1, o2⟩ := ho
  obtain ⟨ti, i1, i2⟩ := hi
  refine ⟨_, fun j => ps_asg (v1 j) (pg_sub (o1 j) (i1 j) set_list (ha j)) (hs j) (hw j) (h1 j), ?_⟩
  intro G m F H σ ρ S E hW hE h f
  refine v2 G m F H σ ρ _ _ E.ex hW hE h f.ex ?_
  intro d m1 v G1 H1 q1 e1 W1 r1
  refine o2 G1 m1 F H1 σ ρ _ _ E.ex W1 (hE.mono e1) q1 (f.ex.mono e1) ?_
  intro x m2 xv G2 H2 q2 e2 W2 r2
  refine i2 G2 m2 F H2 σ ρ _ _ E.ex W2 (hE.mono (e1.trans e2)) q2 (f.ex.mono (e1.trans e2)) ?_
  intro k m3 kv G3 H3 q3 e3 W3 r3
  have r2 := r2.mono e3
  have r1 := r1.mono (e2.trans e3)
  have e13 := (e1.trans e2).trans e3
  cases r2 <;> cases r3 <;> first | exact (show False from q3).elim | skip
  rename_i a j
  obtain ⟨ds, n, hm, hn, q⟩ := q3
  obtain ⟨_, _, xs, hx, rr⟩ := W3.own a ds hm
  refine ⟨a, xs, j, n, rfl, rfl, hx, by rw [rr.len]; exact hn, ?_⟩
  exact f.nx ρ _ σ G3 _ q e13 (W3.put hm (rr.set r1 n)) (hE.mono e13)
/-! ### for -/
def wLoop (g : WG) (body : WS) (E : De) : List D → En0 → Mem → Prop
  | [], ρ, m => E.nx ρ m
  | d :: ds, ρ, m => g d ρ fun ρ1 => body { E with nx := wLoop g body E ds, ct := wLoop g body E ds, bk := E.nx } ρ1 m
def sFor (wi : WA) (g : WG) (body : WS) : WS := fun E ρ m => wi ρ m (fun ds m1 => wLoop g body E ds ρ m1) E.ex
theorem drop_cons {α : Type} {l : List α} {i : Nat} (h : i < l.length) : l.drop i = l[i] :: l.drop (i + 1) := List.drop_eq_getElem_cons h
theorem ps_for {tg iter : Expr} {wi : WA} {js : List Nat} {g : WG} (hp : ∀ i, PassesOwn (model (X i).prog (X i).w) (X i).A (X i).env (X i).xe) (hc : ∀ i, (X i).calm = true) (hi : PDI K W X tg iter wi) (hg : PDG K X tg js g) (hb : PDB K W X sts t)
    (hs : ∀ i x, foldedSetIterable iter (X i).env x = pure x := by intro _ _; rfl) : PDS K W X (.For tg iter sts [] pos) (sFor wi g t) := by
  obtain ⟨ti, i1, i2⟩ := hi
  obtain ⟨tg', g1, g2⟩ := hg
  obtain ⟨tb, b1, b2⟩ := hb
  refine ⟨_, fun i => L2.ps_for (hp i) (hc i) (i1 i) (g1 i) (b1 i) (hs i), ?_⟩
  intro G m F H σ ρ S E hW hE h f
  refine i2 G m F H σ ρ _ _ E.ex hW hE h f.ex ?_
  intro ds m1 J G1 H1 h1 e1 W1 dw
  obtain ⟨Gd, Y, wk, st⟩ := dw
  refine for_it wk (fun i σ H => ∃ G' m' ρ', Ex G1 G' ∧ Wd K G' m' F H ∧ En K G' σ ρ' ∧ wLoop g t E (ds.drop i) ρ' m') ⟨G1, m1, ρ, Ex.refl _, W1, hE.mono e1, h1⟩ ?_ ?_ ?_
  · rintro i σ H _ ⟨G', m', ρ', e', W', _, _⟩
    exact (st G' m' F H e' W').1
  · rintro i x σ H H' hi ⟨G', m', ρ', e', W', E', l⟩ y
    rw [drop_cons hi] at l
    obtain ⟨G2, e2, W2, r⟩ := (st G' m' F H e' W').2 i H' x ds[i] (List.getElem?_eq_getElem hi) y
    have e12 := e1.trans (e'.trans e2)
    refine g2 G2 m' F H' x _ σ ρ' _ _ W2 (E'.mono e2) r l ?_
    intro ρ1 σ1 q E1 _
    refine b2 G2 m' F H' σ1 ρ1 _ _ W2 E1 q ⟨?_, (f.mono e12).rt, ?_, ?_, (f.mono e12).ex⟩
    · intro ρ2 m2 σ2 G3 H3 q3 e3 W3 E3
      exact ⟨G3, m2, ρ2, (e'.trans e2).trans e3, W3, E3, q3⟩
    · exact (f.mono e12).nx
    · intro ρ2 m2 σ2 G3 H3 q3 e3 W3 E3
      exact ⟨G3, m2, ρ2, (e'.trans e2).trans e3, W3, E3, q3⟩
  · rintro σ H ⟨G', m', ρ', e', W', E', l⟩
    rw [List.drop_length] at l
    exact f.nx ρ' m' σ G' H l (e1.trans e') W' E'
/-! ### comprehensions -/
def wLcGo (g : WG) (tt : WT) (te : WE) (ρ : En0) (Qx : XQ) : List D → List D → Mem → (D → Mem → Prop) → Prop
  | [], acc, m, Q => Q (.lst acc) m
  | d :: ds, acc, m, Q => g d ρ fun ρ1 => tt ρ1 m (fun b m1 => if b = true then te ρ1 m1 (fun y m2 => wLcGo g tt te ρ Qx ds (acc ++ [y]) m2 Q) Qx else wLcGo g tt te ρ Qx ds acc m1 Q) Qx
def wLc (wi : WA) (g : WG) (tt : WT) (te : WE) (vs : List Nat) : WE := fun ρ m Q Qx => wi ρ m (fun ds m1 => ds.length ≤ 1000000 ∧ wLcGo g tt te (wipeD ρ vs) Qx ds [] m1 Q) Qx
def tvYes : WT := fun _ m Q _ => Q true m
def PDTs (K : Fg) (W : Wx) {ι : Type} (X : ι → Cx) (es : List Expr) (w : WT) : Prop := ∃ t, (∀ i, PTs (X i) es t) ∧ LiftT K W t w
theorem pts_nil : PDTs K W X [] tvYes := ⟨_, fun _ => L2.pts_nil, fun G m F H σ ρ Q Qd Qx hW hE h hX hQ => hQ true m G H h (Ex.refl G) hW⟩
theorem pts_one (h : PDT K W X c ua) : PDTs K W X [c] ua := by
  obtain ⟨t, h1, h2⟩ := h
  exact ⟨t, fun i => L2.pts_one (h1 i), h2⟩
theorem line_big : (1000000 : Nat) < sizeLine := by rw [sizeLine_eq]; decide
theorem lift_lc {ti : TI} {wi : WA} {tG : TG} {js : List Nat} {g : WG} {tT : TT} {tt : WT} {tE : TE} {te : WE} {vs : List Nat} (hi : LiftI K W ti wi) (hg : LiftG K js tG g) (ht : LiftT K W tT tt) (he : LiftE K W tE te) (hj : ∀ j ∈ js, j ∈ vs) :
    LiftE K W (tLc ti tG tT tE vs) (wLc wi g tt te vs) := by
  intro G m F H σ ρ Q Qd Qx hW hE h hX hQ
  refine hi G m F H σ ρ _ _ Qx hW hE h hX ?_
  intro ds m1 J G1 H1 h1 e1 W1 dw
  intro Dl hD
  obtain ⟨Gd, Y, wk, st⟩ := dw
  obtain ⟨hG, hm, hF⟩ := W1.fresh hD
  obtain ⟨hz, h1⟩ := h1
  refine lc_it wk (fun i H => ∃ G' m' acc xs, Ex G1 G' ∧ Wd K G' m' (upd F Dl (.lst xs)) H ∧ RpA K G' xs acc ∧ acc.length ≤ i ∧ wLcGo g tt te (wipeD ρ vs) Qx (ds.drop i) acc m' Qd)
    ⟨G1, m1, [], [], Ex.refl _, W1.frame hD (.lst []), .nil, Nat.le_refl _, h1⟩ ?_ ?_ ?_
  · rintro i H _ ⟨G', m', acc, xs, e', W', _⟩
    exact (st G' m' _ H e' W').1
  · rintro i x H H' hi' ⟨G', m', acc, xs, e', W', ra, hl, l⟩ y
    rw [drop_cons hi'] at l
    obtain ⟨G2, e2, W2, r⟩ := (st G' m' _ H e' W').2 i H' x ds[i] (List.getElem?_eq_getElem hi') y
    have e12 := (e1.trans e').trans e2
    refine hg G2 m' _ H' x _ (L2.wipe σ vs) (wipeD ρ vs) _ _ W2 ((hE.mono e12).wipe vs) r l ?_
    intro ρ1 σ1 q E1 w1
    refine ⟨(w1 vs hj).trans wipe_wipe, ?_⟩
    refine ht G2 m' _ H' σ1 ρ1 _ _ Qx W2 E1 q ((hX.mono e12).frame hF) ?_
    intro b m2 G3 H3 q3 e3 W3
    have e13 := e12.trans e3
    cases b with
    | true =>
      refine he G3 m2 _ H3 σ1 ρ1 _ _ Qx W3 (E1.mono e3) q3 ((hX.mono e13).frame hF) ?_
      intro d m3 v G4 H4 q4 e4 W4 r4
      have rx := (ra.mono e2).mono (e3.trans e4)
      refine ⟨xs, W4.fr _ _ upd_same, ?_, G4, m3, acc ++ [d], xs ++ [v], ((e'.trans e2).trans e3).trans e4, W4.reframe _, rx.app (.cons r4 .nil), ?_, q4⟩
      · rw [ra.len]
        have := line_big
        omega
      · rw [List.length_append, List.length_singleton]; omega
    | false =>
      exact ⟨G3, m2, acc, xs, (e'.trans e2).trans e3, W3, (ra.mono e2).mono e3, by omega, q3⟩
  · rintro H ⟨G', m', acc, xs, e', W', ra, hl, l⟩
    rw [List.drop_length] at l
    obtain ⟨e3, W3⟩ := W'.adopt hF
    exact hQ _ m' _ _ _ l ((e1.trans e').trans e3) W3 (.lst upd_same (ra.mono e3))
theorem pd_lc {elt tg iter : Expr} {ifs : List Expr} {scope : Scope} {own : List (Str × Nat)} {wi : WA} {js : List Nat} {g : WG} {tt : WT} {te : WE} {N : List Str} (hX : ∀ j, (X j).N = N) (hc : ∀ i, (X i).calm = true) (hN : N.Nodup) (hi : PDI K W X tg iter wi)
    (ok : ∀ i, BlkOk N (X i).env.scope scope own) (hg : PDG K (Blk X scope) tg js g) (ht : PDTs K W (Blk X scope) ifs tt) (he : PD K W (Blk X scope) elt te) (hj : ∀ j ∈ js, j ∈ own.map (·.2) := by decide) (hs : ∀ i x, foldedSetIterable iter (X i).env x = pure x := by intro _ _; rfl) :
    PD K W X (.ListComp elt [⟨tg, iter, ifs, 0⟩] scope pos) (wLc wi g tt te (own.map (·.2))) := by
  obtain ⟨ti, i1, i2⟩ := hi
  obtain ⟨tG, g1, g2⟩ := hg
  obtain ⟨tT, t1, t2⟩ := ht
  obtain ⟨tE, e1, e2⟩ := he
  exact ⟨_, fun i => pe_lc (hc i) (by rw [hX i]; exact hN) (i1 i) (by rw [hX i]; exact ok i) (fun s H C cl fp => g1 (i, s, H, C, cl, fp)) (fun s H C cl fp => t1 (i, s, H, C, cl, fp)) (fun s H C cl fp => e1 (i, s, H, C, cl, fp)) (hs i), lift_lc i2 g2 t2 e2 hj⟩
theorem ps_setLc {i : Nat} {y : Str} {py : Pos} {elt tg iter : Expr} {ifs : List Expr} {scope : Scope} {own : List (Str × Nat)} {wi : WA} {js : List Nat} {g : WG} {tt : WT} {te : WE} {N : List Str} {spos : Pos} (hX : ∀ j, (X j).N = N) (hc : ∀ i, (X i).calm = true) (hN : N.Nodup) (hy : N[i]? = some y)
    (hyl : ∀ j, (X j).env.scope.names.lookup y = some .local) (hsw : ∀ j, swapsWith (.ListComp elt [⟨tg, iter, ifs, 0⟩] scope pos) (some (.Name y py)) spos.line (X j).env = pure true) (hi : PDI K W X tg iter wi)
    (ok : ∀ i, BlkOk N (X i).env.scope scope own) (hg : PDG K (Blk X scope) tg js g) (ht : PDTs K W (Blk X scope) ifs tt) (he : PD K W (Blk X scope) elt te) (hj : ∀ j ∈ js, j ∈ own.map (·.2) := by decide) (hs : ∀ i x, foldedSetIterable iter (X i).env x = pure x := by intro _ _; rfl) :
    PDS K W X (.Assign [.Name y py] (.ListComp elt [⟨tg, iter, ifs, 0⟩] scope pos) spos) (sSet i (wLc wi g tt te (own.map (·.2)))) := by
  obtain ⟨ti, i1, i2⟩ := hi
  obtain ⟨tG, g1, g2⟩ := hg
  obtain ⟨tT, t1, t2⟩ := ht
  obtain ⟨tE, e1, e2⟩ := he
  refine ⟨_, fun j => L2.ps_setLc (i := i) (hc j) (by rw [hX j]; exact hN) (by rw [hX j]; exact hy) (hyl j) (hsw j) (i1 j) (by rw [hX j]; exact ok j) (fun s H C cl fp => g1 (j, s, H, C, cl, fp)) (fun s H C cl fp => t1 (j, s, H, C, cl, fp)) (fun s H C cl fp => e1 (j, s, H, C, cl, fp)) (hs j), ?_⟩
  intro G m F H σ ρ S E hW hE h f
  refine lift_lc i2 g2 t2 e2 hj G m F H σ ρ _ _ E.ex hW hE h f.ex ?_
  intro d m' v G' H' q e W' r
  exact f.nx _ m' _ G' H' q e W' ((hE.mono e).put r i)
/-! ### join -/
def wJoin (o e : WE) : WE := fun ρ m Q Qx => o ρ m (fun x m1 => match x with
  | .str a => e ρ m1 (fun y m2 => match y with
    | .lst ds => ∃ ys, strsD ds = some ys ∧ (ys.map (·.length)).sum + ys.length * a.length ≤ 16777216 ∧ Q (.str (Txt.join a ys)) m2
    | _ => False) Qx
  | _ => False) Qx
theorem pd_join {o : Expr} {wo : WE} {apos : Pos} (hK : ∀ i, (X i).K = K) (ho : PD K W X o wo) (he : PD K W X e w) (hs : ∀ i, starEach [e] (X i).env = [(false, eval e (X i).env)] := by intro _; rfl) (hb : ∀ i, attributeBase o "join" (X i).env (eval o (X i).env) = eval o (X i).env := by intro _; rfl) (hl : (apos.endLine == pos.line) = true := by rfl) :
    PD K W X (.Call (.Attribute o "join" apos) [e] [] pos) (wJoin wo w) := by
  obtain ⟨to, o1, o2⟩ := ho
  obtain ⟨te, e1, e2⟩ := he
  refine ⟨_, fun i => hK i ▸ pe_join (o1 i) (e1 i) (hs i) (hb i) hl, ?_⟩
  intro G m F H σ ρ Q Qd Qx hW hE h hX hQ
  refine o2 G m F H σ ρ _ _ Qx hW hE h hX ?_
  intro x m1 xv G1 H1 q1 f1 W1 r1
  cases r1 <;> first | exact (show False from q1).elim | skip
  rename_i a
  refine ⟨⟨a, rfl⟩, ?_⟩
  refine e2 G1 m1 F H1 σ ρ _ _ Qx W1 (hE.mono f1) q1 (hX.mono f1) ?_
  intro y m2 yv G2 H2 q2 f2 W2 r2
  cases r2 <;> first | exact (show False from q2).elim | skip
  rename_i l xs ds hx rr
  obtain ⟨ys, hy, hz, q⟩ := q2
  rw [strs_of rr hy] at hx
  exact ⟨a, l, ys, rfl, rfl, Or.inl (SqL.of (W2.ex _ _ hx)), hz, hQ _ m2 _ _ _ q (f1.trans f2) W2 (.str _)⟩
end

/-! ### loops and comprehensions over data -/
theorem lc_pure {j : Nat} {tt : WT} {te : WE} {ρ : En0} {Qx : XQ} {m : Mem} (p : D → Bool) (f : D → D) : ∀ (ds acc : List D) (Q : D → Mem → Prop),
    (∀ d ∈ ds, ∀ Q : Bool → Mem → Prop, Q (p d) m → tt (ρ.set j (some d)) m Q Qx) → (∀ d ∈ ds, p d = true → ∀ Q : D → Mem → Prop, Q (f d) m → te (ρ.set j (some d)) m Q Qx) →
    Q (.lst (acc ++ (ds.filter p).map f)) m → wLcGo (gvName j) tt te ρ Qx ds acc m Q
  | [], acc, Q, _, _, h => by
    rw [List.filter_nil, List.map_nil, List.append_nil] at h
    exact h
  | d :: ds, acc, Q, h1, h2, h => by
    refine h1 d List.mem_cons_self _ ?_
    by_cases hp : p d = true
    · rw [if_pos hp]
      refine h2 d List.mem_cons_self hp _ ?_
      refine lc_pure p f ds (acc ++ [f d]) Q (fun e he => h1 e (List.mem_cons_of_mem _ he)) (fun e he => h2 e (List.mem_cons_of_mem _ he)) ?_
      rw [List.filter_cons_of_pos hp, List.map_cons] at h
      rw [List.append_assoc]
      exact h
    · rw [if_neg hp]
      refine lc_pure p f ds acc Q (fun e he => h1 e (List.mem_cons_of_mem _ he)) (fun e he => h2 e (List.mem_cons_of_mem _ he)) ?_
      rw [List.filter_cons_of_neg hp] at h
      exact h
theorem lc_map {j : Nat} {te : WE} {ρ : En0} {Qx : XQ} {m : Mem} (f : D → D) (ds acc : List D) (Q : D → Mem → Prop) (h2 : ∀ d ∈ ds, ∀ Q : D → Mem → Prop, Q (f d) m → te (ρ.set j (some d)) m Q Qx)
    (h : Q (.lst (acc ++ ds.map f)) m) : wLcGo (gvName j) tvYes te ρ Qx ds acc m Q := by
  refine lc_pure (fun _ => true) f ds acc Q (fun _ _ _ q => q) (fun d hd _ => h2 d hd) ?_
  rw [List.filter_eq_self.mpr (fun _ _ => rfl)]
  exact h
/-- a comprehension whose items change what is owned: I by the items so far -/
theorem lc_inv {j : Nat} {te : WE} {ρ : En0} {Qx : XQ} (I : List D → Mem → Prop) (n : Nat) : ∀ (ds acc : List D) (m : Mem) (Q : D → Mem → Prop), acc.length + ds.length = n → I acc m →
    (∀ d ∈ ds, ∀ acc m, acc.length < n → I acc m → ∀ Q : D → Mem → Prop, (∀ y m', I (acc ++ [y]) m' → Q y m') → te (ρ.set j (some d)) m Q Qx) →
    (∀ acc' m', acc'.length = n → I acc' m' → Q (.lst acc') m') → wLcGo (gvName j) tvYes te ρ Qx ds acc m Q
  | [], acc, m, Q, hn, h0, _, h => h acc m hn h0
  | d :: ds, acc, m, Q, hn, h0, h1, h => by
    rw [List.length_cons] at hn
    refine h1 d List.mem_cons_self acc m (by omega) h0 _ fun y m' h' => ?_
    refine lc_inv I n ds (acc ++ [y]) m' Q ?_ h' (fun e he => h1 e (List.mem_cons_of_mem _ he)) h
    rw [List.length_append, List.length_singleton]
    omega
/-- a for whose turns each end in a next one: I between the turns -/
theorem loop_inv {g : WG} {body : WS} {E : De} (I : En0 → Mem → Prop) : ∀ (ds : List D) (ρ : En0) (m : Mem), I ρ m →
    (∀ d ∈ ds, ∀ ρ m, I ρ m → ∀ E' : De, E'.rt = E.rt → E'.ex = E.ex → (∀ ρ' m', I ρ' m' → E'.nx ρ' m') → (∀ ρ' m', I ρ' m' → E'.ct ρ' m') → g d ρ fun ρ1 => body E' ρ1 m) → (∀ ρ m, I ρ m → E.nx ρ m) → wLoop g body E ds ρ m
  | [], ρ, m, h0, _, h => h ρ m h0
  | d :: ds, ρ, m, h0, h1, h => by
    refine h1 d List.mem_cons_self ρ m h0 _ rfl rfl ?_ ?_
    · intro ρ' m' h'
      exact loop_inv I ds ρ' m' h' (fun e he => h1 e (List.mem_cons_of_mem _ he)) h
    · intro ρ' m' h'
      exact loop_inv I ds ρ' m' h' (fun e he => h1 e (List.mem_cons_of_mem _ he)) h

/-! ### defs, by data -/
abbrev DFn := List D → Mem → (D → Mem → Prop) → XQ → Prop
def FitXc (K : Fg) (mg : Str → Option Value) (G : Hp) (F : Hp) (Qx : XQ) (E : XK) : Prop := ∀ x m' cls d G' H', Qx x m' → mg x.cls = some cls → Ex G G' → Wd K G' m' F H' → Xr K G' x d → E cls d H'
def spD (K : Fg) (mg : Str → Option Value) (f : DFn) : Sp := fun vs H Q E => ∃ G m F ds Qd Qx, Wd K G m F H ∧ RpA K G vs ds ∧ f ds m Qd Qx ∧ FitE K G F Q Qd ∧ FitXc K mg G F Qx E
/-- a def's promise, where no repr is under way -/
structure FnG (P : Program) (w : World) (K : Fg) (mg : Str → Option Value) (base : Heap) (CX : CXT) (k : Nat) (f : Addr) (fd : FuncData) (ps : List Str) (sp : Sp) : Prop where
  size : ∀ vs H Q E, sp vs H Q E → vs.length = ps.length
  runs : ∀ (A : Around) (oe : List Env) (s : Shared) (H : Hp) (ar : Args) (us : List Value) (vs : List V) (Q : VK) (E : XK), A.guards = some [] → Room k A → Env0 P w K mg base A oe s H → BindsTo s fd ar (ps.zip us) →
    Vals vs us → sp vs H Q E → codeAny (model P w) A (.call (.ref f) ar) (CR CX oe P w H s Q E) s
section
variable {P : Program} {w : World} {K : Fg} {mg : Str → Option Value} {base : Heap} {k : Nat} {N : List Str} {W : Wx} {ι : Type} {X : ι → Cx} {f : Addr} {fd : FuncData} {ps : List Str} {pos : Pos}
theorem FnG.goes {X : Cx} {CX : CXT} {sp : Sp} {dvs : List V} {ds : List Value} {E : XK} {pins : List (Addr × Obj)} {σ : L2.St} {H : Hp} {s : Shared} {Q : VK} {us : List Value} {vs : List V} (Fn : FnG X.prog X.w X.K X.mg X.base CX k f fd ps sp)
    (hg : X.A.guards = some []) (hr : Room k X.A) (hb : Binds X.K fd ps ds) (hd : Vals dvs ds) (hx : Passes CX X E) (I : Inv X pins σ H s) (r : Vals vs us) (h : sp (vs ++ dvs) H Q E) :
    wpAny (model X.prog X.w) X.A (call (.ref f) us) (EP X pins σ Q) X.xe s := by
  have rr : Vals (vs ++ dvs) (us ++ ds) := r.append hd
  have hlen : (us ++ ds).length = ps.length := rr.length.symm.trans (Fn.size _ _ _ _ h)
  have goal := Fn.runs X.A X.stack s H ⟨us, []⟩ (us ++ ds) (vs ++ dvs) Q E hg hr I.env0 (hb s us I.kIn hlen) rr h
  refine wpAny_call (codeAny_mono goal ?_)
  rintro (e | fl) s' hq
  · exact hx pins σ H s e s' I hq
  · cases fl <;> first | exact I.after hq | exact (hq : False).elim
/-- f(e, ..) of the text, nothing raised -/
def wCall (fn : DFn) (a : WA) : WE := fun ρ m Q Qx => a ρ m (fun ds m1 => fn ds m1 Q (fun _ _ => False)) Qx
theorem pd_call {fn : DFn} {j : Nat} {x : Str} {p : Pos} {e : Expr} {es : List Expr} {wr : WA} (hX : FamG P w K mg base k N X) (Fn : FnG P w K mg base CX0 j f fd ps (spD K mg fn)) (hj : j ≤ k) (hg : ∀ i, Gl (X i) x) (hm : mg x = some (.ref f)) (hk : PySem.W.keepIn K (.ref f) = true)
    (hb : Binds K fd ps []) (ha : PDA K W X (e :: es) wr) (hd : (x == ("__debug__" : Str)) = false) (he : ∀ i, starEach (e :: es) (X i).env = (false, eval e (X i).env) :: starEach es (X i).env)
    (hpl : ∀ i, (backTo pos (starEach es (X i).env)).any (·.1) = false) : PD K W X (.Call (.Name x p) (e :: es) [] pos) (wCall fn wr) := by
  obtain ⟨t, a1, a2⟩ := ha
  refine ⟨fun σ H Q => t σ H fun vs H1 => spD K mg fn (vs ++ []) H1 Q E0, fun i => ⟨fun pins s σ H Q I h => ?_⟩, ?_⟩
  · have hmi : (X i).mg x = some (.ref f) := by rw [hX.mg i]; exact hm
    have Fi : FnG (X i).prog (X i).w (X i).K (X i).mg (X i).base CX0 j f fd ps (spD K mg fn) := by rw [hX.prog i, hX.w i, hX.K i, hX.mg i, hX.base i]; exact Fn
    refine wpAny_Call_Name_kw (ld_glob I (hg i) hmi ?_ hd)
    refine PySem.W.callWith_K (h₀ := (X i).base) I.ok.mod.kin (by rw [hX.K i]; exact hk) (thn ((a1 i).run pos pins s σ H _ I h) ?_) (he i) (hpl i)
    rintro us s1 ⟨vs, H1, I1, r, q⟩
    exact ⟨I1.kIn, Fi.goes (hX.guards i) ((hX.room i).mono hj) (by rw [hX.K i]; exact hb) .nil pass0 I1 r q⟩
  · intro G m F H σ ρ Q Qd Qx hW hE h hXx hQ
    refine a2 G m F H σ ρ _ _ Qx hW hE h hXx ?_
    intro ds m1 vs G1 H1 q e1 W1 r1
    refine ⟨G1, m1, F, ds, Qd, fun _ _ => False, W1, by rw [List.append_nil]; exact r1, q, ?_, fun _ _ _ _ _ _ z => z.elim⟩
    intro d m' v G' H' z e
    exact hQ d m' v G' H' z (e1.trans e)
/-- the def x of the text stands and keeps the promise fn -/
def Has (P : Program) (w : World) (K : Fg) (mg : Str → Option Value) (base : Heap) (j : Nat) (x : Str) (ps : List Str) (fn : DFn) : Prop :=
  ∃ f fd, FnG P w K mg base CX0 j f fd ps (spD K mg fn) ∧ mg x = some (.ref f) ∧ PySem.W.keepIn K (.ref f) = true ∧ Binds K fd ps []
theorem pd_own_call {fn : DFn} {j : Nat} {x : Str} {p : Pos} {e : Expr} {es : List Expr} {wr : WA} (hX : FamG P w K mg base k N X) (h : Has P w K mg base j x ps fn) (ha : PDA K W X (e :: es) wr) (hj : j ≤ k := by decide) (hg : ∀ i, Gl (X i) x := by intro _; rfl) (hd : (x == ("__debug__" : Str)) = false := by decide)
    (he : ∀ i, starEach (e :: es) (X i).env = (false, eval e (X i).env) :: starEach es (X i).env := by intro _; rfl) (hpl : ∀ i, (backTo pos (starEach es (X i).env)).any (·.1) = false := by intro _; rfl) : PD K W X (.Call (.Name x p) (e :: es) [] pos) (wCall fn wr) := by
  obtain ⟨f, fd, Fn, hm, hk, hb⟩ := h
  exact pd_call hX Fn hj hg hm hk hb ha hd he hpl
/-- a def of the text keeps its promise: its body's reading, by data -/
theorem fn_ok {x qual : Str} {st : Stmt} {fn : DFn} {wb : WS} (Fu : Fun K x qual st f fd) (S : FnScope N ps (defScope st)) (hlen : ∀ ds m Q Qx, fn ds m Q Qx → ds.length = ps.length)
    (hb : ∀ (cdv : Value) (A : Around) (oe : List Env) (s : Shared) (H : Hp) (E : XK), FamG P w K mg base k N (fun _ : Unit => (cxOf CX0 P w K mg base N qual (defScope st) f cdv A oe s H E).nox) →
      PDB K W (fun _ : Unit => (cxOf CX0 P w K mg base N qual (defScope st) f cdv A oe s H E).nox) (defBody st) wb)
    (hr : ∀ ds m Qd Qx, fn ds m Qd Qx → wb { nx := fun _ m' => Qd .non m', rt := Qd } (ds.map some ++ List.replicate (N.length - ds.length) none) m) :
    FnG P w K mg base CX0 (k + 1) f fd ps (spD K mg fn) := by
  obtain ⟨oc, od, kV, doc, pm, an, cdv, ct, osl, rfl, lk, hcd⟩ := Fu.ex
  have size : ∀ vs H Q E, spD K mg fn vs H Q E → vs.length = ps.length := by
    rintro vs H Q E ⟨G, m, F, ds, Qd, Qx, _, r, hf, _⟩
    exact r.len.trans (hlen _ _ _ _ hf)
  refine ⟨size, ?_⟩
  intro A oe s H ar us vs Q E hgd hrm e0 hbind r hsp
  have hl := size _ _ _ _ hsp
  have old : ∀ b o, base.get? b = some o → s.heap.get? b = some o := fun b o e => (e0.bs b o e).1
  have KX : K.In s.heap := e0.mod.kin.keeps old
  have lim : s.heap.NoLimit := e0.mod.nolimit.keeps old
  have kinds : ∀ y ∈ ps.zip us, (defScope st).names.lookup y.1 = some .local ∨ ((defScope st).names.lookup y.1 = some .cell ∧ ((cellsFrom (s.heap.objs.size + 1) (defScope st).names []).lookup y.1).isSome = true) := by
    rintro ⟨n, v⟩ hy
    rcases S.par n (List.of_mem_zip hy).1 with q | q
    · exact Or.inl q
    · exact Or.inr ⟨q, PySem.W.cellsFrom_some _ _ _ (Or.inl q)⟩
  refine codeAny_call_function hrm.depth (KX _ _ lk) rfl S.co S.gen rfl (PySem.W.codeRec_of KX hcd) (hbind _ _ _ _ ?_)
  refine wpAny_newFunctionEnv_cells S.kind kinds ?_
  rintro env rfl s1 nx
  refine ⟨lim.keeps nx.toInCall.keep, codeAny_func ?_⟩
  have fam : FamG P w K mg base k N (fun _ : Unit => (cxOf CX0 P w K mg base N qual (defScope st) f cdv A oe s H E).nox) :=
    { prog := fun _ => rfl, w := fun _ => rfl, K := fun _ => rfl, mg := fun _ => rfl, base := fun _ => rfl, hN := fun _ => rfl, calm := fun _ => rfl, room := fun _ => hrm.deeper _, nd := S.nd, guards := fun _ => hgd }
  obtain ⟨t, h1, h2⟩ := hb cdv A oe s H E fam
  have I : Inv (cxOf CX0 P w K mg base N qual (defScope st) f cdv A oe s H E) [] (start N vs) H s1 := inv_start S hrm.hd e0 hl r nx
  obtain ⟨G, m, F, ds, Qd, Qx, hW, rr, hf, hQ, _⟩ := hsp
  have reading : t { nx := fun _ H' => Q .non H', rt := Q } (start N vs) H := by
    refine h2 G m F H _ _ _ { nx := fun _ m' => Qd .non m', rt := Qd } hW ?_ (hr ds m Qd Qx hf) ⟨?_, ?_, ?_, ?_, ?_⟩
    · unfold L2.start
      rw [rr.len]
      exact En.start _ rr
    · intro ρ' m' σ' G' H' q e W' _
      exact hQ _ m' _ G' H' q e W' .non
    · exact hQ
    · intro _ _ _ _ _ z; exact z.elim
    · intro _ _ _ _ _ z; exact z.elim
    · intro _ _ _ _ _ _ z; exact z.elim
  refine wpAny_mono (((h1 ()).nox).run [] s1 (start N vs) H _ I reading) ?_ fun e s' z => z
  have fin : ∀ {s' : Shared} {σ' : L2.St} {H' : Hp} {v : V} {u : Value}, Inv (cxOf CX0 P w K mg base N qual (defScope st) f cdv A oe s H E) [] σ' H' s' → RelV v u → Q v H' → CE oe P w H s Q u s' := by
    intro s' σ' H' v u J rv q
    exact ⟨v, H', J.os, J.bare, J.base, J.hok, rv, q⟩
  intro fl s' hs
  cases fl
  case ret u =>
    obtain ⟨v, σ', H', J, rv, q⟩ := hs
    exact fin J rv q
  case next =>
    obtain ⟨σ', H', J, q⟩ := hs
    exact fin (v := V.non) (u := Value.none) J rfl q
  case brk =>
    obtain ⟨_, _, _, q⟩ := hs
    exact (q : False).elim
  case cont =>
    obtain ⟨_, _, _, q⟩ := hs
    exact (q : False).elim
/-- a def of the text as it stands behind the top -/
def FunAt (K : Fg) (mg : Str → Option Value) (x qual : Str) (st : Stmt) (ps : List Str) : Prop := ∃ f fd, mg x = some (.ref f) ∧ Fun K x qual st f fd ∧ Binds K fd ps []
theorem has_of {x qual : Str} {st : Stmt} {fn : DFn} {wb : WS} (Fu : FunAt K mg x qual st ps) (S : FnScope N ps (defScope st)) (hlen : ∀ ds m Q Qx, fn ds m Q Qx → ds.length = ps.length)
    (hb : ∀ (f : Addr) (cdv : Value) (A : Around) (oe : List Env) (s : Shared) (H : Hp) (E : XK), FamG P w K mg base k N (fun _ : Unit => (cxOf CX0 P w K mg base N qual (defScope st) f cdv A oe s H E).nox) →
      PDB K W (fun _ : Unit => (cxOf CX0 P w K mg base N qual (defScope st) f cdv A oe s H E).nox) (defBody st) wb)
    (hr : ∀ ds m Qd Qx, fn ds m Qd Qx → wb { nx := fun _ m' => Qd .non m', rt := Qd } (ds.map some ++ List.replicate (N.length - ds.length) none) m) : Has P w K mg base (k + 1) x ps fn := by
  obtain ⟨f, fd, hm, F, hbi⟩ := Fu
  exact ⟨f, fd, fn_ok F S hlen (hb f) hr, hm, F.kp, hbi⟩
theorem at_mk {h : Heap} {x qual : Str} {st : Stmt} {f : Addr} {oc : Value} {od an : Option Addr} {osl : Array (Option Value)} {kV doc pm cdv ct : Value} (X : K.In h) (G : h.Ns mainGlobals mg) (a : PySem.W.nsIn K mainGlobals x = some (some (.ref f)))
    (l : K.lookup f = some ⟨oc, od, .func (PySem.W.fnOf x qual (defArgs st) (defBody st) (defScope st) .none kV doc pm an cdv ct), osl⟩) (c : PySem.W.codeIn K cdv qual = true) (kp : PySem.W.keepIn K (.ref f) = true)
    (hb : ∀ (kV doc pm : Value) (an : Option Addr) (cdv ct : Value) (us : List Value), us.length = ps.length → bindArgs (PySem.W.fnOf x qual (defArgs st) (defBody st) (defScope st) .none kV doc pm an cdv ct) ⟨us, []⟩ = pure (ps.zip us)) : FunAt K mg x qual st ps :=
  ⟨f, _, PySem.W.mg_of X G a, fun_mk l c kp, (fun_mk l c kp).binds hb⟩
end

/-! ### the end -/
open PyProof.Rows (AllBare IntsAre)
/-- what is asked of the law's def: handed the script it gives True -/
def lawFn (n : Nat) : DFn := fun ds m Q _ => ∃ ns : List Int, ds = [.scr ns] ∧ ns.length ≤ n ∧ ∀ m', Q (.bl true) m'
theorem lawFn_len {n : Nat} : ∀ ds m Q Qx, lawFn n ds m Q Qx → ds.length = (["_law_script"] : List Str).length := by
  rintro ds m Q Qx ⟨ns, rfl, _⟩
  rfl
section
variable {P : Program} {w : World} {K : Fg} {mg mb : Str → Option Value} {k n : Nat} {fa a : Addr} {fd : FuncData} {x : Str} {s1 : Shared} {vs : List Value} {ns : List Int}
theorem from_only (H : Hp) (hO : Only H) (hS : SqL K H a (ns.map V.int)) (hok : HOk P w H s1.heap) (hA : ∀ b, H b ≠ none → b = a) (hK : H a ≠ none → K.lookup a = none) (KX : K.In s1.heap) (hns : s1.heap.Ns mainGlobals mg) (hb : s1.heap.Ns builtinsNs mb)
    (hbb : ∀ y : Str, y ≠ "__name__" → mb y = bootBuiltins y) (hlim : s1.heap.NoLimit) (hg : s1.gens = #[]) (ha : s1.heap.get? a = some { cls := .type "list", data := .seq vs.toArray }) (hl : ns.length ≤ n) (hr : Room k callerA)
    (F : ∀ base : Heap, K.In base → base.Ns mainGlobals mg → FnG P w K mg base CX0 k fa fd [x] (spD K mg (lawFn n))) (hbind : ∀ (s : Shared) (u : Value), BindsTo s fd ⟨[u], []⟩ [(x, u)]) :
    codeAny (model P w) callerA (.call (.ref fa) ⟨[.ref a], []⟩) (fun r s' => r = .ok (.ret (.bool true)) ∧ OldK s1.heap s'.heap ∧ s'.os = s1.os ∧ AllBare s'.gens) s1 := by
  have only_a : ∀ {b : Addr} {u : HO}, H b = some u → b = a := by
    intro b u q
    exact hA b (by rw [q]; exact fun z => by cases z)
  have bare : ∀ {b : Addr} {o : Obj} {es : Array DictEntry} {ep : Nat}, s1.heap.get? b = some o → o.data = .dict es ep → H b = none := by
    intro b o es ep e d
    cases q : H b with
    | none => rfl
    | some u =>
      have e' := only_a q
      subst e'
      rw [ha] at e
      cases e
      cases (d : Data.seq vs.toArray _ = Data.dict es ep)
  have nsOf : ∀ {b : Addr} {m : Str → Option Value}, s1.heap.Ns b m → (hidT s1.heap H).Ns b m := by
    rintro b m ⟨o, es, ep, e, d, r⟩
    exact ⟨o, es, ep, hidT_get e (bare e d), d, r⟩
  have kin : K.In (hidT s1.heap H) := by
    intro b o e
    refine hidT_get (KX b o e) ?_
    cases q : H b with
    | none => rfl
    | some u =>
      have e' := only_a q
      subst e'
      have := hK (by rw [q]; exact fun z => by cases z)
      rw [this] at e
      cases e
  have lim2 : (hidT s1.heap H).NoLimit := by
    obtain ⟨mc, h1, h2⟩ := hlim
    exact ⟨mc, nsOf h1, h2⟩
  have md : Mod K mg (hidT s1.heap H) := ⟨kin, nsOf hns, ⟨mb, nsOf hb, hbb⟩, lim2⟩
  have e0 : Env0 P w K mg (hidT s1.heap H) callerA [] s1 H := ⟨rfl, md, fun _ _ e => of_hidT e, Nat.le_of_eq (hidT_size _ _), trivial, (fun b hb => nomatch hb), hok, PyProof.Rows.AllBare.of_eq hg⟩
  have W0 : Wd K H (fun _ => none) (fun _ => none) H := ⟨fun _ _ h => h, (fun _ _ h => nomatch h), (fun _ _ h => nomatch h), (fun _ _ h => nomatch h)⟩
  have sp : spD K mg (lawFn n) [.ref a] H (fun v _ => v = .bl true) (fun _ _ _ => False) := by
    refine ⟨H, fun _ => none, fun _ => none, [.scr ns], fun d _ => d = .bl true, fun _ _ => False, W0, .cons (.scr hS) .nil, ⟨ns, rfl, hl, fun _ => rfl⟩, ?_, fun _ _ _ _ _ _ z => z.elim⟩
    rintro d m' v G' H' rfl _ _ r
    cases r
    rfl
  refine codeAny_mono ((F _ kin (nsOf hns)).runs callerA [] s1 H ⟨[.ref a], []⟩ [.ref a] [.ref a] _ _ rfl hr e0 (hbind s1 (.ref a)) (.cons rfl .nil) sp) ?_
  rintro (e | fl) s' h
  · exact (h : False).elim
  cases fl <;> first | exact (h : False).elim | skip
  rename_i u
  obtain ⟨v, H', os, br, un, hok', r', q⟩ := h
  have q : v = .bl true := q
  subst q
  have r' : u = Value.bool true := r'
  subst r'
  refine ⟨rfl, OldK.of_keep ?_, os, br⟩
  intro b o e
  cases q : H b with
  | none => exact un.keep b o e q (by intro z; cases z) (by intro z; cases z)
  | some u =>
    rcases hO b with z | ⟨ob, xs, z⟩
    · rw [q] at z; cases z
    · have t1 := (hok b _ z).1
      have t2 := (hok' b _ (un.frzs b ob _ z)).1
      rw [e] at t1
      cases t1
      exact t2
theorem law_runs (KX : K.In s1.heap) (hns : s1.heap.Ns mainGlobals mg) (hb : s1.heap.Ns builtinsNs mb) (hbb : ∀ y : Str, y ≠ "__name__" → mb y = bootBuiltins y) (hlim : s1.heap.NoLimit) (hg : s1.gens = #[])
    (ha : s1.heap.get? a = some { cls := .type "list", data := .seq vs.toArray }) (hi : IntsAre vs ns) (hl : ns.length ≤ n) (hn : n ≤ sizeLine) (hr : Room k callerA)
    (F : ∀ base : Heap, K.In base → base.Ns mainGlobals mg → FnG P w K mg base CX0 k fa fd [x] (spD K mg (lawFn n))) (hbind : ∀ (s : Shared) (u : Value), BindsTo s fd ⟨[u], []⟩ [(x, u)]) :
    codeAny (model P w) callerA (.call (.ref fa) ⟨[.ref a], []⟩) (fun r s' => r = .ok (.ret (.bool true)) ∧ OldK s1.heap s'.heap ∧ s'.os = s1.os ∧ AllBare s'.gens) s1 := by
  have rv := vals_ints hi
  have lz : ns.length ≤ sizeLine := Nat.le_trans hl hn
  have sz : (ns.map V.int).length ≤ sizeLine := by rw [List.length_map]; exact lz
  have vz : vs.length ≤ sizeLine := by rw [← rv.length]; exact sz
  cases hk : K.lookup a with
  | some o =>
    have e := KX a o hk
    rw [ha] at e
    cases e
    refine from_only (fun _ => none) (fun _ => Or.inl rfl) (Or.inr ⟨_, vs.toArray, _, hk, rfl, rfl, rfl, by rw [List.size_toArray]; exact vz, by simpa using rv⟩) (by intro b u z; cases z) (by intro b z; exact absurd rfl z) (by intro z; exact absurd rfl z) KX hns hb hbb hlim hg ha hl hr F hbind
  | none =>
    have at_a : ∀ {b : Addr} {u : HO}, (if b = a then some (HO.frz { cls := .type "list", data := .seq vs.toArray } (.lst (ns.map V.int))) else none) = some u → b = a ∧ u = HO.frz { cls := .type "list", data := .seq vs.toArray } (.lst (ns.map V.int)) := by
      intro b u z
      by_cases hba : b = a
      · rw [if_pos hba] at z; cases z; exact ⟨hba, rfl⟩
      · rw [if_neg hba] at z; cases z
    refine from_only (fun b => if b = a then some (.frz { cls := .type "list", data := .seq vs.toArray } (.lst (ns.map V.int))) else none) ?_ (Or.inl (Or.inr ⟨_, if_pos rfl⟩)) ?_ ?_ (fun _ => hk) KX hns hb hbb hlim hg ha hl hr F hbind
    · intro b
      by_cases hba : b = a
      · exact Or.inr ⟨_, _, if_pos hba⟩
      · exact Or.inl (if_neg hba)
    · intro b u z
      obtain ⟨rfl, rfl⟩ := at_a z
      exact ⟨ha, sz, vs, _, rv, ha⟩
    · intro b z
      by_cases hba : b = a
      · exact hba
      · exact absurd (if_neg hba) z
end
/-- the goal that the head leaves -/
theorem the_end {l : PySem.W.OpenLaw} {n k : Nat} {q : Program} {loose : List Str} {XP : (Str → Option Value) → Heap → Prop} {YP : World → Heap → Prop} {d : DefRec} {K : Params → Fg} {x : Str}
    (hn : l.most = some n) (hz : n ≤ sizeLine) (hdf : d.params.defaults = []) (hr : Room k callerA) (hY : ∀ (w : World) (h : Heap), YP w h → (K w.params).In h)
    (F : ∀ (w : World) (mg : Str → Option Value) (fa : Addr) (h : Heap), (K w.params).In h → h.Ns mainGlobals mg → mg d.name = some (.ref fa) →
      ∃ fd : FuncData, (∀ (s : Shared) (u : Value), BindsTo s fd ⟨[u], []⟩ [(x, u)]) ∧ ∀ base : Heap, (K w.params).In base → base.Ns mainGlobals mg → FnG l.prog w (K w.params) mg base CX0 k fa fd [x] (spD (K w.params) mg (lawFn n))) :
    PySem.W.WalkO q loose XP YP l.row.toRowW d [] (fun f vs => PySem.call f vs) := by
  refine Att.attach_call hn hdf ?_
  intro w s0 s1 mg mb fa o pm cd doc a vs ns G Y ho hd hcd hmg hobj hints hlen hg
  obtain ⟨fd, hb, hF⟩ := F w mg fa _ (hY w _ Y) G.T.g hmg
  exact law_runs (hY w _ Y) G.T.g G.T.b G.T.builtins G.T.nolimit hg hobj hints hlen hz hr hF hb
end DL
/-! XSM: methods of texts at the level of data -/
namespace DL
open PySem L2
open Evl (Ex)
section
variable {K : Fg} {W : Wx} {ι : Type} {X : ι → Cx} {pos : Pos} {e : Expr} {wa : WE}
abbrev WM := Str → List D → Mem → (D → Mem → Prop) → Prop
def LiftM (K : Fg) (r : V → List V → Hp → VK → Prop) (w : WM) : Prop := ∀ G m F H z xs ds (Q : VK) (Qd : D → Mem → Prop), Wd K G m F H → RpA K G xs ds → w z ds m Qd → FitE K G F Q Qd → r (.str z) xs H Q
def MtU (K : Fg) {ι : Type} (X : ι → Cx) (id : String) (w : WM) : Prop := ∃ r, (∀ i, MtR (X i) id r) ∧ LiftM K r w
/-- o.name() -/
def wM0 (w : WM) (wo : WE) : WE := fun ρ m Q Qx => wo ρ m (fun x m1 => match x with
  | .str z => w z [] m1 Q
  | _ => False) Qx
/-- o.name(e) -/
def wM1 (w : WM) (wo we : WE) : WE := fun ρ m Q Qx => wo ρ m (fun x m1 => match x with
  | .str z => we ρ m1 (fun y m2 => w z [y] m2 Q) Qx
  | _ => False) Qx
theorem pd_m0 {id : String} {name : Str} {o : Expr} {wo : WE} {apos : Pos} {w : WM} (hm : MtU K X id w) (slot : Slot "str" name id) (ty : typeOf (.builtin id) = pure (.type "method_descriptor")) (ho : PD K W X o wo)
    (hb : ∀ i, attributeBase o name (X i).env (eval o (X i).env) = eval o (X i).env := by intro _; rfl) (hl : (apos.endLine == pos.line) = true := by rfl) : PD K W X (.Call (.Attribute o name apos) [] [] pos) (wM0 w wo) := by
  obtain ⟨r, m1, m2⟩ := hm
  obtain ⟨to, o1, o2⟩ := ho
  refine ⟨_, fun i => pe_m0 slot ty (m1 i) (o1 i) (hb i) hl, ?_⟩
  intro G m F H σ ρ Q Qd Qx hW hE h hX hQ
  refine o2 G m F H σ ρ _ _ Qx hW hE h hX ?_
  intro x m1 xv G1 H1 q1 f1 W1 r1
  cases r1 <;> first | exact (show False from q1).elim | skip
  rename_i a
  refine ⟨⟨a, rfl⟩, m2 G1 m1 F H1 a [] [] Q Qd W1 .nil q1 ?_⟩
  exact fun d m' v G' H' q e => hQ d m' v G' H' q (f1.trans e)
theorem pd_m1 {id : String} {name : Str} {o : Expr} {wo : WE} {apos : Pos} {w : WM} (hm : MtU K X id w) (slot : Slot "str" name id) (ty : typeOf (.builtin id) = pure (.type "method_descriptor")) (ho : PD K W X o wo) (he : PD K W X e wa)
    (hs : ∀ i, starEach [e] (X i).env = [(false, eval e (X i).env)] := by intro _; rfl) (hb : ∀ i, attributeBase o name (X i).env (eval o (X i).env) = eval o (X i).env := by intro _; rfl) (hl : (apos.endLine == pos.line) = true := by rfl) : PD K W X (.Call (.Attribute o name apos) [e] [] pos) (wM1 w wo wa) := by
  obtain ⟨r, m1, m2⟩ := hm
  obtain ⟨to, o1, o2⟩ := ho
  obtain ⟨te, e1, e2⟩ := he
  refine ⟨_, fun i => pe_m1 slot ty (m1 i) (o1 i) (e1 i) (hs i) (hb i) hl, ?_⟩
  intro G m F H σ ρ Q Qd Qx hW hE h hX hQ
  refine o2 G m F H σ ρ _ _ Qx hW hE h hX ?_
  intro x m1 xv G1 H1 q1 f1 W1 r1
  cases r1 <;> first | exact (show False from q1).elim | skip
  rename_i a
  refine ⟨⟨a, rfl⟩, e2 G1 m1 F H1 σ ρ _ _ Qx W1 (hE.mono f1) q1 (hX.mono f1) ?_⟩
  intro y m2' yv G2 H2 q2 f2 W2 r2
  refine m2 G2 m2' F H2 a [yv] [y] Q Qd W2 (.cons r2 .nil) q2 ?_
  exact fun d m' v G' H' q e => hQ d m' v G' H' q ((f1.trans f2).trans e)
/-- a method without arguments that says yes or no -/
def wIs (f : Str → Bool) : WM := fun z ds m Q => ds = [] ∧ Q (.bl (f z)) m
theorem lift_is0 {f : Str → Bool} : LiftM K (fun x xs H Q => ∃ a, x = .str a ∧ xs = [] ∧ True ∧ Q (.bl (f a)) H) (wIs f) := by
  intro G m F H z xs ds Q Qd hW r h hQ
  obtain ⟨rfl, q⟩ := h
  cases r
  exact ⟨z, rfl, rfl, trivial, hQ.here hW q (.bl _)⟩
theorem m_isascii : MtU K X "str.isascii" (wIs Txt.isascii) := ⟨_, fun _ => mt_isascii, lift_is0⟩
theorem m_isalpha : MtU K X "str.isalpha" (wIs Txt.isalpha) := ⟨_, fun _ => mt_isalpha, lift_is0⟩
theorem m_islower : MtU K X "str.islower" (wIs Txt.islower) := ⟨_, fun _ => mt_islower, lift_is0⟩
theorem m_isdecimal : MtU K X "str.isdecimal" (wIs Txt.isdecimal) := ⟨_, fun _ => mt_isdecimal, lift_is0⟩
end
/-! small letters -/
def lowC (c : Nat) : Bool := decide (97 ≤ c) && decide (c ≤ 122)
theorem ascii_c : ∀ c, c < 128 → Unicode.isAlpha c = (lowC c || (decide (65 ≤ c) && decide (c ≤ 90))) ∧ Unicode.isLower c = lowC c ∧ (Unicode.isUpper c || Unicode.isTitle c) = (decide (65 ≤ c) && decide (c ≤ 90)) := by decide +kernel
theorem low_big {c : Nat} (h : ¬ c < 128) : lowC c = false := by
  unfold lowC
  have : decide (c ≤ 122) = false := decide_eq_false (by omega)
  rw [this, Bool.and_false]
theorem lower_list {l : List Nat} (h : l.all (fun c => decide (c < 128)) = true) : ((decide (l.length > 0) && l.all Unicode.isAlpha) && (l.any Unicode.isLower && !l.any fun c => Unicode.isUpper c || Unicode.isTitle c)) = (decide (l.length > 0) && l.all lowC) := by
  have h1 : ∀ c ∈ l, Unicode.isAlpha c = (lowC c || (decide (65 ≤ c) && decide (c ≤ 90))) ∧ Unicode.isLower c = lowC c ∧ (Unicode.isUpper c || Unicode.isTitle c) = (decide (65 ≤ c) && decide (c ≤ 90)) := by
    intro c hc
    exact ascii_c c (by simpa using (List.all_eq_true.mp h) c hc)
  rw [Bool.eq_iff_iff]
  simp only [Bool.and_eq_true, decide_eq_true_eq, List.all_eq_true, List.any_eq_true, Bool.not_eq_true', List.any_eq_false]
  constructor
  · rintro ⟨⟨h0, h2⟩, _, h4⟩
    refine ⟨h0, fun c hc => ?_⟩
    have a := h2 c hc
    have u := h4 c hc
    rw [(h1 c hc).1] at a
    rw [(h1 c hc).2.2] at u
    rcases Bool.or_eq_true _ _ |>.mp a with a | a
    · exact a
    · exact absurd a u
  · rintro ⟨h0, h2⟩
    refine ⟨⟨h0, fun c hc => by rw [(h1 c hc).1, h2 c hc]; rfl⟩, ?_, fun c hc => ?_⟩
    · obtain ⟨c, l', rfl⟩ := List.exists_cons_of_length_pos h0
      exact ⟨c, List.mem_cons_self, by rw [(h1 c List.mem_cons_self).2.1, h2 c List.mem_cons_self]⟩
    · rw [(h1 c hc).2.2]
      have := h2 c hc
      unfold lowC at this
      simp only [Bool.and_eq_true, decide_eq_true_eq] at this ⊢
      omega
theorem lettered_eq (z : Str) : (if (Txt.isascii z) = true then (if Txt.isalpha z = true then Txt.islower z else false) else false) = (decide (z.cps.toList.length > 0) && z.cps.toList.all lowC) := by
  unfold Txt.isascii Txt.isalpha Txt.islower
  have e0 : z.length = z.cps.toList.length := by unfold Str.length; simp
  rw [e0]
  rw [← Array.all_toList, ← Array.all_toList, ← Array.any_toList, ← Array.any_toList]
  generalize z.cps.toList = l
  cases ha : l.all (fun c => decide (c < 128)) with
  | true =>
    rw [if_pos rfl, ← lower_list ha]
    cases (decide (l.length > 0) && l.all Unicode.isAlpha) <;> simp
  | false =>
    rw [if_neg Bool.false_ne_true]
    obtain ⟨c, hc, hn⟩ := List.all_eq_false.mp ha
    symm
    rw [Bool.and_eq_false_iff]
    right
    rw [List.all_eq_false]
    exact ⟨c, hc, by rw [low_big (by simpa using hn)]; exact Bool.false_ne_true⟩
end DL
/-! XO: exception classes «def __init__(self, f): super().__init__('..'); self.f = f», made, raised, caught. -/
namespace XO
open PySem PySem.W PySem.Calls PyProof.Rows PySem.HandSPX
def iA (fld : Str) (p1 p2 : Pos) : Arguments := { posonlyargs := [], args := [{ arg := "self", annotation := none, pos := p1 }, { arg := fld, annotation := none, pos := p2 }], vararg := none, kwonlyargs := [], kw_defaults := [], kwarg := none, defaults := [] }
def iB (fld msg : Str) (j : Nat) (a1 a2 a3 a4 a5 a6 q1 q2 q3 q4 : Pos) : List Stmt :=
  [.Expr (.Call (.Attribute (.Call (.Name "super" a1) [] [] a2) "__init__" a3) [.Constant (.str msg) j a4] [] a5) a6, .Assign [.Attribute (.Name "self" q1) fld q2] (.Name fld q3) q4]
def iS (fld : Str) : Scope := { kind := .function, names := [(PySem.Str.ofString "self", .local), (fld, .local), (PySem.Str.ofString "__class__", .free), (PySem.Str.ofString "super", .globalImplicit)], isGenerator := false, isCoroutine := false, more := [] }
/-- what makes an own exception: the maker bears the name of some built-in BN -/
structure NewF (BN newId : String) (bmB : List Value) : Prop where
  quiet : newId.startsWith "lifetime." = false
  kind : builtinKind newId = some .builtinFn
  split : splitId newId = some (BN, "__new__")
  row : Manifest.signature? newId = some ⟨.any, BN, BN, .cls, [⟨"args", .varPos, false⟩, ⟨"kwargs", .varKw, false⟩]⟩
  ends : newId.endsWith ".__new__" = true
  owner : newId.dropRight 8 = BN
  entry : entryFor table newId = some Builtin.«BaseException.__new__»
  canon : Manifest.canonical newId = Manifest.canonical "BaseException.__new__"
  noStar : (BN != "*") = true
  has : bmB.contains (.type BN) = true
  noAttr : bmB.contains (.type "AttributeError") = false
  noName : bmB.contains (.type "NameError") = false
/-- what the built-in __init__ of the base B asks -/
structure InitF (B initId : String) : Prop where
  plain : plainId initId = true
  entry : entryFor table initId = some Builtin.«BaseException.__init__»
  kind : builtinKind initId = some .slot
  row : Manifest.signature? initId = some ⟨.positional, "*", B, .self, [⟨"args", .varPos, false⟩]⟩
  noStar : (B != "*") = true
theorem NewF.of {B newId initId : String} {bm : List Value} (F : ExcBaseFacts B newId initId bm) : NewF B newId bm :=
  ⟨F.quiet, F.newKind, F.newSplit, F.newRow, F.ends, F.owner, F.entry, F.canon, F.noStar, F.hasB, F.noAttr, F.noName⟩
theorem InitF.of {B newId initId : String} {bm : List Value} (F : ExcBaseFacts B newId initId bm) : InitF B initId :=
  ⟨F.init.plain, F.initEntry, F.initKind, F.initRow, F.noStar⟩
/-- a built-in base: its facts -/
structure Base (B newId initId : String) (bmB : List Value) : Prop where
  new : ∃ BN, NewF BN newId bmB
  ini : InitF B initId
  KF : KxsFacts B initId
  pass : ∀ self, refuseLoop self "__setattr__" bmB = pure ()
  obj : bmB.contains (.type "object") = true
theorem base_ValueError : Base "ValueError" "ValueError.__new__" "ValueError.__init__" [.type "ValueError", .type "Exception", .type "BaseException", .type "object"] :=
  ⟨⟨_, .of F.excBase_ValueError⟩, .of F.excBase_ValueError, kxs_ValueError, fun s => F.store_ValueError.passes s, by decide +kernel⟩
theorem base_LookupError : Base "LookupError" "LookupError.__new__" "LookupError.__init__" [.type "LookupError", .type "Exception", .type "BaseException", .type "object"] :=
  ⟨⟨_, .of F.excBase_LookupError⟩, .of F.excBase_LookupError, kxs_LookupError, fun s => F.store_LookupError.passes s, by decide +kernel⟩
theorem new_KeyError : NewF "LookupError" "LookupError.__new__" [.type "KeyError", .type "LookupError", .type "Exception", .type "BaseException", .type "object"] :=
  have F := NewF.of F.excBase_LookupError
  ⟨F.quiet, F.kind, F.split, F.row, F.ends, F.owner, F.entry, F.canon, F.noStar, by decide +kernel, by decide +kernel, by decide +kernel⟩
theorem init_KeyError : InitF "KeyError" "KeyError.__init__" :=
  ⟨excClass_KeyError.init.plain, excClass_KeyError.initEntry, excClass_KeyError.initKind, by kernel_rfl, by decide +kernel⟩
theorem kxs_KeyErr : KxsFacts "KeyError" "KeyError.__init__" := ⟨by show builtinType _ = _; rw [builtinType_eq_fast]; kernel_rfl, by first | kernel_rfl | rfl⟩
theorem pass_KeyError (s : Value) : refuseLoop s "__setattr__" [.type "KeyError", .type "LookupError", .type "Exception", .type "BaseException", .type "object"] = pure () := by
  have h := F.store_LookupError.passes s
  kernel_rfl
theorem base_KeyError : Base "KeyError" "LookupError.__new__" "KeyError.__init__" [.type "KeyError", .type "LookupError", .type "Exception", .type "BaseException", .type "object"] :=
  ⟨⟨_, new_KeyError⟩, init_KeyError, kxs_KeyErr, pass_KeyError, by decide +kernel⟩
section
variable {prog : Program} {w : World} {M : Model} {A : Around} {E : Value → Shared → Prop} {R : Result → Shared → Prop} {h : Heap} {g : Array GenState} {d : Drawn} {t : Nat} {os : OsState}
variable {nm q : Str} {C N : Addr} {bs bm bmB : List Value} {hdct : Bool} {sn : List Str} {sub : List Value} {ab : Bool} {col : Option Bool} {dd : Option Addr} {k0 k1 k2 k3 k5 : Option Value} {BN newId : String}
/-- the maker of the base, called on an own class -/
theorem nf_check (F : NewF BN newId bmB) (hT : ∀ X : String, bm.contains (.type X) = bmB.contains (.type X)) {rest : List Value} {Q : Unit → Shared → Prop}
    (hC : h.get? C = some (excClassObj nm q C N bs bm hdct sn sub ab col dd k0 k1 k2 k3 k5 newId)) (hq : Q () ⟨h, g, d, t, os⟩) :
    wpAny M A (checkBuiltinCall newId ⟨.ref C :: rest, []⟩) Q E ⟨h, g, d, t, os⟩ := by
  have yes : (Value.ref C :: bm).contains (.type BN) = true := by
    rw [List.contains_cons, hT, F.has, Bool.or_true]
  have star := F.noStar
  simp only [checkBuiltinCall, F.kind, F.split, F.row]
  repeat (first | refine wpAny_loadPart_at hC ?_
                | (refine wpAny_isSubtype_exc hC ?_; rw [yes])
                | refine wpAny_staticBase_exc hC ?_
                | refine wpAny_madeBy_exc hC ?_
                | simp only [bne_self_eq_false, Bool.false_eq_true, if_false]
                | wp_step)
  exact hq
theorem nf_new (F : NewF BN newId bmB) (hT : ∀ X : String, bm.contains (.type X) = bmB.contains (.type X)) {rest : List Value}
    (hC : h.get? C = some (excClassObj nm q C N bs bm hdct sn sub ab col dd k0 k1 k2 k3 k5 newId))
    (hq : R (.ok (.ret (.ref (h.objs.size + 1)))) ⟨(h.push (kdv_tup rest)).push (excO C h.objs.size), g, d, t, os⟩) (hz : rest.length ≤ sizeLine) :
    codeAny (model prog w) A (.builtin newId ⟨.ref C :: rest, []⟩) R ⟨h, g, d, t, os⟩ := by
  have hends := F.ends
  have y1 : (Value.ref C :: bm).contains (.type BN) = true := by
    rw [List.contains_cons, hT, F.has, Bool.or_true]
  have y2 : (Value.ref C :: bm).contains (.type "AttributeError") = false := by
    rw [List.contains_cons, hT, F.noAttr]; rfl
  have y3 : (Value.ref C :: bm).contains (.type "NameError") = false := by
    rw [List.contains_cons, hT, F.noName]; rfl
  refine codeAny_builtinAt F.entry ?_
  unfold Builtin.«BaseException.__new__»
  refine PySem.wpAt_bind ?_
  show PySem.wpAt _ _ _ (stack >>= _) _ _ _
  refine PySem.wpAt_bind (PySem.wpAt_stack fun p below => PySem.wpAt_of_wpAny ?_)
  wp_walk
  refine PySem.wpAt_of_wpAny ?_
  rw [F.owner]
  repeat (first | with_reducible refine wpAny_madeHere_exc F.canon hC ?_
                | with_reducible refine wpAny_loadPart_at hC ?_
                | (with_reducible refine wpAny_isSubtype_exc hC ?_; first | rw [y1] | rw [y2] | rw [y3])
                | wp_step)
  show R _ _
  rw [Heap.size_push]
  exact hq
theorem nf_make (F : NewF BN newId bmB) (hT : ∀ X : String, bm.contains (.type X) = bmB.contains (.type X)) {rest : List Value} {fI : Addr} {Q : Fin → Shared → Prop}
    (hC : h.get? C = some (excClassObj nm q C N bs bm hdct sn sub ab col dd k0 k1 k2 k3 k5 newId))
    (hi : W.Looks (model prog w) h (typeLookup (.ref C) "__init__") (some (.ref fI))) (hb : ∀ self, W.Looks (model prog w) h (bindSpecial (.ref fI) self) (.ref fI, [self])) (hz : rest.length ≤ sizeLine)
    (hq : codeAny (model prog w) A (.call (.ref fI) ⟨.ref (h.objs.size + 1) :: rest, []⟩)
      (fun r s' => match r with
        | .ok (.ret v) => v = .none ∧ Q (.done (.ret (.ref (h.objs.size + 1)))) s'
        | .ok _ => False
        | .error e => E e s')
      ⟨(h.push (kdv_tup rest)).push (excO C h.objs.size), g, d, t, os⟩) :
    wpAny (model prog w) A (Builtin.«type.__call__» ⟨.ref C :: rest, []⟩) Q E ⟨h, g, d, t, os⟩ := by
  repeat (first | with_reducible refine wpAny_loadPart_at hC ?_ | with_reducible refine wpAny_madeBy_exc hC ?_ | wp_step)
  refine codeAny_call_builtin_code (Code.quiet_builtin _ F.quiet) (nf_check F hT hC ?_)
  refine nf_new F hT hC ?_ hz
  show wpAny _ _ _ _ _ _
  have kk : ∀ b o, h.get? b = some o → ((h.push (kdv_tup rest)).push (excO C h.objs.size)).get? b = some o :=
    fun b o e => Heap.get?_push_of_some _ (Heap.get?_push_of_some _ e)
  have c1 := kk _ _ hC
  have there : ((h.push (kdv_tup rest)).push (excO C h.objs.size)).get? (h.objs.size + 1) = some (excO C h.objs.size) := by heap_get
  have mine : (Value.ref C :: bm).contains (.ref C) = true := by simp
  have i1 := hi.keeps kk
  have b1 := (hb (.ref (h.objs.size + 1))).keeps kk
  unfold isInstance
  repeat (first | with_reducible refine wpAny_loadPart_at there ?_ | (with_reducible refine wpAny_isSubtype_exc c1 ?_; rw [mine]) | wp_step)
  show wpAny _ _ (typeLookup (.ref C) _) _ _ _
  refine i1.at ?_
  refine wpAny_holding (wpAny_bind (b1.at ?_))
  refine wpAny_bind (wpAny_call (codeAny_mono hq fun r s' z => ?_))
  rcases r with e | (v | _ | _ | _) <;> first | exact z | exact z.elim | skip
  obtain ⟨rfl, z⟩ := z
  first
    | exact wpAny_pure (wpAny_pure z)
    | (wp_walk; exact z)
theorem nf_call (F : NewF BN newId bmB) (hT : ∀ X : String, bm.contains (.type X) = bmB.contains (.type X)) {rest : List Value} {fI : Addr}
    (hC : h.get? C = some (excClassObj nm q C N bs bm hdct sn sub ab col dd k0 k1 k2 k3 k5 newId))
    (hi : W.Looks (model prog w) h (typeLookup (.ref C) "__init__") (some (.ref fI))) (hb : ∀ self, W.Looks (model prog w) h (bindSpecial (.ref fI) self) (.ref fI, [self])) (hz : rest.length ≤ sizeLine)
    (hq : codeAny (model prog w) (A.under (.builtin "type.__call__" ⟨.ref C :: rest, []⟩)) (.call (.ref fI) ⟨.ref (h.objs.size + 1) :: rest, []⟩) (W.InitBack (h.objs.size + 1) R)
      ⟨(h.push (kdv_tup rest)).push (excO C h.objs.size), g, d, t, os⟩) :
    codeAny (model prog w) A (.call (.ref C) ⟨rest, []⟩) R ⟨h, g, d, t, os⟩ := by
  have f1 := tc_lookup
  have f2 := tc_bind (.ref C)
  have ty : (⟨h, g, d, t, os⟩ : Shared).TypeIs (.ref C) "type" := ⟨_, hC, rfl⟩
  refine codeAny_of_tree ?_
  show wpAny _ _ (callAny (.ref C) _) _ _ _
  repeat (any_goals (first | assumption | with_reducible refine wpAny_loadPart_at hC ?_ | wp_step))
  refine ⟨rfl, ?_⟩
  have en := entry_typeCall
  refine codeAny_call_builtin_at (Code.quiet_builtin _ (by decide +kernel)) en (wpAny_check_type_call_sub hC (nf_make F hT hC hi hb hz ?_))
  refine codeAny_mono hq fun r s' z => ?_
  rcases r with e | (v | _ | _ | _) <;> exact z
theorem nf_bound {cls initId : String} (F : InitF cls initId) {e : Addr} {oe : Obj} {rest : List Value} {Q : Unit → Shared → Prop}
    (hC : h.get? C = some (excClassObj nm q C N bs bm hdct sn sub ab col dd k0 k1 k2 k3 k5 newId)) (he : h.get? e = some oe) (hc : oe.cls = .ref C) (hq : Q () ⟨h, g, d, t, os⟩) :
    wpAny M A (checkBoundCall initId ⟨.ref e :: rest, []⟩) Q E ⟨h, g, d, t, os⟩ := by
  have star := F.noStar
  simp only [checkBoundCall, F.kind, F.row]
  repeat (first | (with_reducible refine wpAny_loadPart_at he ?_; rw [hc]) | with_reducible refine wpAny_loadPart_at hC ?_ | wp_step)
  refine wpAny_onRaise ?_
  have sa : ∀ (a b : String) (n : Nat), Bind.check ⟨.positional, "*", cls, .self, [⟨"args", .varPos, false⟩]⟩ a b n (List.map (fun x => x.fst) ({ pos := Value.ref e :: rest } : Args).kw) = pure () :=
    fun _ _ _ => check_star_args _ _ _ _ _ _
  rw [sa]
  exact wpAny_pure hq
end
/-- how the two arguments bind -/
def BindOk (fld : Str) : Prop := ∀ (qual : Str) (body : List Stmt) (p1 p2 : Pos) (doc pm cdv ct : Value) (an : Option Addr) (cc : Addr) (u v : Value),
  bindArgs (ksFn "__init__" qual (iA fld p1 p2) body (iS fld) .none .none doc pm an cdv ct cc) ⟨[u, v], []⟩ = pure ([((PySem.Str.ofString "self"), u), (fld, v)] : List (Str × Value))
theorem bind_value : BindOk "value" := fun _ _ _ _ _ _ _ _ _ _ _ _ => rfl
theorem bind_label : BindOk "label" := fun _ _ _ _ _ _ _ _ _ _ _ _ => rfl
theorem bind_index : BindOk "index" := fun _ _ _ _ _ _ _ _ _ _ _ _ => rfl
theorem bind_most : BindOk "most" := fun _ _ _ _ _ _ _ _ _ _ _ _ => rfl
theorem bind_parts : BindOk "parts" := fun _ _ _ _ _ _ _ _ _ _ _ _ => rfl
/-- what the written part says of the class at C and of its __init__ at fI -/
structure XT (main : Str) (K : Frag) (C fI : Addr) (fld : Str) (B newId initId : String) (bmB : List Value) : Prop where
  cls : ∃ nm q N bs bm sn sub ab col dd k0 k1 k2 k3 k5, K.lookup C = some (excClassObj nm q C N bs bm true sn sub ab col dd k0 k1 k2 k3 k5 newId) ∧ excTail bmB bm = true
  sa : findIn K (.ref C) "__setattr__" = some (some (.builtin "object.__setattr__"))
  ga : findIn K (.ref C) "__getattribute__" = some (some (.builtin "BaseException.__getattribute__"))
  gg : findIn K (.ref C) "__getattr__" = some none
  noN : findIn K (.ref C) fld = some none
  iC : findIn K (.ref C) "__init__" = some (some (.ref fI))
  tC : typeIn K (.ref fI) = some (.type "function")
  kC : keepIn K (.ref C) = true
  exC : subIn K (.ref C) (.type "BaseException") = some true
  tyC : typeIn K (.ref C) = some (.type "type")
  hdC : hasDictIn K C = true
  subB : subIn K (.ref C) (.type B) = some true
  mroC : mroIn K C (.ref C) = some true
  statics : nsIn K cStatics "thirdparty.any" = some none
  along : ks_superIn K C C "__init__" = some (some (.builtin initId))
  fn : ∃ (oc : Value) (od : Option Addr) (qual : Str) (doc pm : Value) (an : Option Addr) (cda cc : Addr) (ct : Value) (osl : Array (Option Value)) (msg : Str) (j : Nat) (p1 p2 a1 a2 a3 a4 a5 a6 q1 q2 q3 q4 : Pos),
    K.lookup fI = some ⟨oc, od, .func (ksFn "__init__" qual (iA fld p1 p2) (iB fld msg j a1 a2 a3 a4 a5 a6 q1 q2 q3 q4) (iS fld) .none .none doc pm an (.ref cda) ct cc), osl⟩ ∧ codeIn K (.ref cda) qual = true ∧
    (∃ cl cld csl, K.lookup cc = some ⟨cl, cld, .cell (some (.ref C)), csl⟩) ∧ ∃ ccl cdd vs ccs file tf, K.lookup cda = some ⟨ccl, cdd, .fields vs, ccs⟩ ∧ vs[2]? = some (.str file tf) ∧ (main == file) = true ∧ (a3.endLine == a5.line) = true
  bind : BindOk fld
  names : (fld == ("self" : Str)) = false ∧ (fld == ("__debug__" : Str)) = false ∧ (("self" : Str) == fld) = false ∧ (("super" : Str) == fld) = false ∧ (("__class__" : Str) == fld) = false
theorem ldL {M : Model} {A : Around} {E : Value → Shared → Prop} {s : Shared} {env : Env} {m : Str → Option Value} {x : Str} {pos : Pos} {v : Value} {Q : Value → Shared → Prop} (hn : s.heap.Ns env.locals m) (hv : m x = some v) (h : Q v s)
    (hk : env.scope.kind = .function) (hl : env.kindOf x = some .local) (hd : (x == ("__debug__" : Str)) = false) : wpAny M A (eval (.Name x pos) env) Q E s := wpAny_Name (wpAny_loadName_local hk hl hn hv h) hd
theorem ev_sup {o : Expr} {name msg : Str} {apos pos a4 : Pos} {j : Nat} {env : Env} (hl : (apos.endLine == pos.line) = true) : eval (.Call (.Attribute o name apos) [.Constant (.str msg) j a4] [] pos) env = (do
      let ov ← attributeBase o name env (eval o env)
      standAt apos.atName
      let (f, first) ← holding [ov] (getMethod ov name (do return (← importBound o env).getD true))
      callWith pos f first (backTo pos (starEach [.Constant (.str msg) j a4] env)) []) := by
  have hp : methodCallPos true o env apos pos = pure pos := by unfold methodCallPos; simp [hl]
  have hf : methodCallForm ([Expr.Constant (.str msg) j a4].length + ([] : List Keyword).length) (backTo pos (starEach [.Constant (.str msg) j a4] env)) (backToKw pos (keywordEach [] env)) = true := by rfl
  rw [arm_eval_Call]
  unfold methodCall
  rw [hf, hp]
  simp only [pure_bind]
  rfl
/-- self.f = v on an exception that has no dict yet -/
theorem xo_store {prog : Program} {w : World} {A : Around} {R : Result → Shared → Prop} {hp : Heap} {g : Array GenState} {d : Drawn} {t : Nat} {os : OsState} {K : Frag} {name : Str} {tk : Tok} {v : Value} {x C : Addr} {fv : Array Value} {cd : ClassData}
    (X : K.In hp) (hx : hp.get? x = some { cls := .ref C, data := .fields fv }) (hcd : clsIn K C = some cd) (ne : cd.mro.isEmpty = false) (hpass : refuseLoop (.ref x) "__setattr__" cd.mro = pure ()) (hob : cd.mro.contains (.type "object") = true) (hh : cd.hasDict = true)
    (ha : findIn K (.ref C) name = some none)
    (hq : ∀ h' tk' dx, (∀ b o, b ≠ x → hp.get? b = some o → h'.get? b = some o) → hp.objs.size ≤ dx → dx ≠ x → h'.get? x = some { cls := .ref C, dict := some dx, data := .fields fv } →
      h'.Ns1 dx (fun y => if y = name then some v else none) → R (.ok (.ret .none)) ⟨h', g, d, tk', os⟩) :
    codeAny (model prog w) A (.call (.builtin "object.__setattr__") ⟨[.ref x, .str name tk, v], []⟩) R ⟨hp, g, d, t, os⟩ := by
  have IA : InstAt hp x { cls := .ref C, data := .fields fv } C none := ⟨hx, rfl, rfl, trivial⟩
  have SF := F.store_object
  have xs : x ≠ hp.objs.size := Nat.ne_of_lt (Heap.lt_size hx)
  have isObj : Looks (model prog w) hp (isInstance (.ref x) (.type "object")) true := IA.type.andThen (looks_mroIn X (by unfold mroIn; rw [hcd, Option.bind_some, if_neg (by rw [ne]; decide), hob]))
  refine codeAny_call_builtin SF.slot.plain SF.entry (@check_slot (model prog w) _ _ ⟨hp, g, d, t, os⟩ "object.__setattr__" "object" "__setattr__" (.ref x) [.str name tk, v] [] _ SF.kind SF.split isObj (SF.args (.ref x) (.str name tk) v) ?_)
  have mroL : Looks (model prog w) hp (mroOf (.ref C)) cd.mro := (looks_clsIn X hcd).andThen .now
  have nowL : Looks (model prog w) hp (Builtin.ObjectAttr.storeTaker? none) none := .now
  have clsL : Looks (model prog w) hp (classData C) cd := looks_clsIn X hcd
  rw [osa_eq, refuse_eq]
  refine wpAny_bind (wpAny_bind (IA.type.at (wpAny_bind (mroL.at ?_))))
  rw [hpass]
  refine wpAny_pure (wpAny_bind (IA.type.at (wpAny_bind ((looks_findIn X ha).at (wpAny_bind (nowL.at ?_))))))
  show wpAny _ _ (Builtin.ObjectAttr.storeInOwnDict (.ref x) (.ref C) (.str name tk) name v false) _ _ _
  obtain ⟨nm, bs, mro, ns, qn, hd, sn, sb, ab, col, del⟩ := cd
  dsimp only at hh
  subst hh
  unfold Builtin.ObjectAttr.storeInOwnDict Builtin.ObjectAttr.ownDictForStores
  repeat (first | with_reducible refine HandSPX.store_in_new ?_ ?_ | with_reducible refine wpAny_loadPart_at hx ?_ | with_reducible refine clsL.at ?_ | wp_step)
  · exact ⟨_, #[], _, (Heap.get?_update_ne _ _ _ _ xs.symm).trans (Heap.get?_push_at rfl rfl), rfl, fun e he => absurd he (by simp), fun _ => rfl⟩
  · intro h' tk' hn' same
    have hx1 : (hp.push { cls := .type "dict", data := .dict #[] }).get? x = some { cls := .ref C, data := .fields fv } := Heap.get?_push_of_some _ hx
    refine hq h' tk' hp.objs.size (fun b o hb ho => ?_) (Nat.le_refl _) xs.symm ?_ hn'
    · exact (same.2 b (Nat.ne_of_lt (Heap.lt_size ho))).trans ((Heap.get?_update_ne _ _ _ _ hb).trans (Heap.get?_push_of_some _ ho))
    · exact (same.2 x xs).trans (Heap.get?_update_self _ hx1 rfl)
/-- the wrapper of the built-in __init__, called -/
theorem mw_call {prog : Program} {w : World} {A : Around} {E : Value → Shared → Prop} {h : Heap} {g : Array GenState} {d : Drawn} {t : Nat} {os : OsState} {B newId i : String} {u x C t0 : Addr} {rest : List Value} {Q : Value → Shared → Prop}
    {nm q : Str} {N : Addr} {bs bm : List Value} {hdct : Bool} {sn : List Str} {sub : List Value} {ab : Bool} {col : Option Bool} {dd : Option Addr} {k0 k1 k2 k3 k5 : Option Value}
    (FB : InitF B i) (hC : h.get? C = some (excClassObj nm q C N bs bm hdct sn sub ab col dd k0 k1 k2 k3 k5 newId)) (he : h.get? x = some (excO C t0)) (hu : h.get? u = some (kxs_mw i x)) (hz : rest.length ≤ sizeLine)
    (hq : ∀ h' t1, (∀ b o, b ≠ x → h.get? b = some o → h'.get? b = some o) → h'.get? x = some (excO C t1) → Q .none ⟨h', g, d, t, os⟩) :
    wpAny (model prog w) A (call (.ref u) rest) Q E ⟨h, g, d, t, os⟩ := by
  refine wpAny_call (codeAny_of_tree ?_)
  show wpAny _ A.in1 (callAny (.ref u) ⟨rest, []⟩) _ _ _
  simp only [callAny]
  refine wpAny_bind (wpAny_load hu ?_)
  simp only [kxs_mw, show (Value.type "method-wrapper" == Value.type "method" || Value.type "method-wrapper" == Value.type "builtin_function_or_method" || Value.type "method-wrapper" == Value.type "method-wrapper") = true by decide, if_true]
  refine KFB.if_so (by decide) ?_
  refine wpAny_bind (nf_bound FB hC he rfl ?_)
  refine wpAny_bind (wpAny_pure (wpAny_pure ?_))
  refine ⟨plainId_quiet FB.plain _, codeAny_builtin FB.entry ?_⟩
  exact exc_init_tree (cls := .ref C) (t0 := t0) (dv := none) (c2 := .none) (c3 := .none) (b4 := .bool false) he hz fun h' k e _ => hq h' _ k e
/-- what __init__ leaves of a fresh exception at x -/
structure Inited (h h' : Heap) (x C dx t1 : Addr) (fld : Str) (v : Value) : Prop where
  keep : ∀ b o, b ≠ x → h.get? b = some o → h'.get? b = some o
  obj : h'.get? x = some { cls := .ref C, dict := some dx, data := .fields #[.ref t1, .none, .none, .none, .bool false, .none] }
  big : h.objs.size ≤ dx
  ne : dx ≠ x
  ns : h'.Ns1 dx (fun y => if y = fld then some v else none)
section
variable {prog : Program} {w : World} {A : Around} {E : Value → Shared → Prop} {R : Result → Shared → Prop} {s : Shared} {K : Frag} {mg mb : Str → Option Value} {C fI : Addr} {fld : Str} {B newId initId : String} {bmB : List Value}
theorem xo_init (D : Base B newId initId bmB) (T : XT prog.main.file K C fI fld B newId initId bmB) {x t0 : Addr} {v : Value} (X : K.In s.heap) (hlim : s.heap.NoLimit) (hx : s.heap.get? x = some (excO C t0)) (hnx : K.lookup x = none) (hroom : A.depth < recursionLimit)
    (hg : s.heap.Ns mainGlobals mg) (hm : mg "super" = none) (hb : s.heap.Ns builtinsNs mb) (hbs : mb "super" = some (.type "super")) (htop : (prog.main.scope.names.lookup ("super" : Str)).isSome = false)
    (hq : ∀ h' tk t1 dx, Inited s.heap h' x C dx t1 fld v → R (.ok (.ret .none)) { s with heap := h', toks := tk }) :
    codeAny (model prog w) A (.call (.ref fI) ⟨[.ref x, v], []⟩) R s := by
  obtain ⟨oc, od, qual, doc, pm, an, cda, cc, ct, osl, msg, j, p1, p2, a1, a2, a3, a4, a5, a6, q1, q2, q3, q4, ho, hcd, ⟨cl, cld, csl, hcell⟩, ccl, cdd, vs, ccs, file, tf, hcode, hvs, hfile, hline⟩ := T.fn
  obtain ⟨nm, q, N, bs, bm, sn, sub, ab, col, dd, k0, k1, k2, k3, k5, hC, hbm⟩ := T.cls
  obtain ⟨n1, n2, n3, n4, n5⟩ := T.names
  have hcl : clsIn K C = some { name := nm, bases := bs, mro := .ref C :: bm, ns := N, qualname := q, hasDict := true, slotNames := sn, subclasses := sub, abstract := ab, collection := col, hasDel := false } := by unfold clsIn; rw [hC] <;> rfl
  have k1 : (iS fld).names.lookup ("self" : Str) = some .local := rfl
  have ks : (iS fld).names.lookup ("super" : Str) = some .globalImplicit := by
    unfold iS
    rw [List.lookup_cons, show (("super" : Str) == PySem.Str.ofString "self") = false by decide, List.lookup_cons, n4]
    rfl
  have kc : (iS fld).names.lookup ("__class__" : Str) = some .free := by
    unfold iS
    rw [List.lookup_cons, show (("__class__" : Str) == PySem.Str.ofString "self") = false by decide, List.lookup_cons, n5]
    rfl
  have k2' : (iS fld).names.lookup fld = some .local := by
    unfold iS
    rw [List.lookup_cons, n1, List.lookup_cons, beq_self_eq_true]
  have lookN : ∀ y : Str, ([("self", Value.ref x), (fld, v)] : List (Str × Value)).reverse.lookup y = if y = fld then some v else if y = ("self" : Str) then some (Value.ref x) else none := by
    intro y
    show ([(fld, v), (("self" : Str), Value.ref x)] : List (Str × Value)).lookup y = _
    rw [List.lookup_cons, List.lookup_cons]
    by_cases h1 : y = fld
    · subst h1
      rw [beq_self_eq_true, if_pos rfl]
    · have h1' : (y == fld) = false := by simpa using h1
      rw [h1', if_neg h1]
      by_cases h2 : y = ("self" : Str)
      · subst h2
        rw [if_pos rfl]
        rfl
      · have h2' : (y == ("self" : Str)) = false := by simpa using h2
        rw [h2', if_neg h2]
        rfl
  have selfN : (if ("self" : Str) = fld then some v else if ("self" : Str) = ("self" : Str) then some (Value.ref x) else none) = some (.ref x) := by
    rw [if_neg (fun e => by rw [← e, beq_self_eq_true] at n1; cases n1), if_pos rfl]
  refine ks_codeAny_call_defAt (fd := ksFn "__init__" qual (iA fld p1 p2) (iB fld msg j a1 a2 a3 a4 a5 a6 q1 q2 q3 q4) (iS fld) .none .none doc pm an (.ref cda) ct cc) (body := iB fld msg j a1 a2 a3 a4 a5 a6 q1 q2 q3 q4) (binds := [("self", .ref x), (fld, v)])
    hroom (X _ _ ho) rfl hlim (codeRec_of X hcd) rfl (BindsTo.of_eq (T.bind _ _ _ _ _ _ _ _ _ _ _ _)) ?_ ?_ ?_ rfl rfl rfl
  · intro y hy
    simp only [iS, List.mem_cons, List.not_mem_nil, or_false] at hy
    rcases hy with rfl | rfl | rfl | rfl <;> intro z <;> cases z
  · intro y hy
    simp only [List.mem_cons, List.not_mem_nil, or_false] at hy
    rcases hy with rfl | rfl
    · exact k1
    · exact k2'
  intro h1 hns k
  have X1 : K.In h1 := X.keeps k
  have hx1 := k _ _ hx
  have xL : s.heap.objs.size ≠ x := Nat.ne_of_gt (Heap.lt_size hx)
  -- super().__init__('..')
  refine ks_wpAt_execs_cons (ks_wpAt_Expr_any (ks_wpAt_MethodCall (ks_wpAt_super_base (of := ⟨oc, od, .func (ksFn "__init__" qual (iA fld p1 p2) (iB fld msg j a1 a2 a3 a4 a5 a6 q1 q2 q3 q4) (iS fld) .none .none doc pm an (.ref cda) ct cc), osl⟩) (oc := ⟨ccl, cdd, .fields vs, ccs⟩) (ar := { arg := "self", annotation := none, pos := p1 })
    ks kc (by decide) rfl (X1 _ _ ho) rfl rfl rfl (X1 _ _ hcode) rfl hvs hfile htop ?_) (ev_sup hline)))
  refine ks_loadName_global rfl ks (loadGlobal_builtin (hg.keeps k) hm (hb.keeps k) hbs ⟨rfl, ?_⟩)
  refine wpAny_loadName_free rfl kc rfl ⟨_, X1 _ _ hcell, rfl⟩ ?_
  refine wpAny_loadName_local rfl k1 hns (v := .ref x) ((lookN _).trans ?_) ?_
  · exact selfN
  refine ks_wpAny_isType_cls (X1 _ _ hC) rfl ⟨rfl, ?_⟩
  refine ks_wpAny_call_super (X1 _ _ hC) rfl hx1 rfl (fun c e => by cases e) (looks_mroIn X1 T.mroC) (fun h2 e2 k2 => ?_)
  have X2 : K.In h2 := X1.keeps k2
  have hx2 := k2 _ _ hx1
  have IA : InstAt h2 x (excO C t0) C none := ⟨hx2, rfl, rfl, trivial⟩
  have al := T.along
  unfold ks_superIn at al
  rw [hcl] at al
  refine kxs_getMethod D.KF (l₀ := .ref C :: bm) e2 (looks_opaque X2 T.statics) (fun A Q E s k q => wpAny_bind ((looks_clsIn X2 hcl) A _ E s k (wpAny_pure q))) rfl X2 al (IA.type.andThen (looks_subIn X2 T.subB)) (ks_ne X2 IA hcl) (by decide) ?_
  have hC2 := X2 _ _ hC
  have hu : (h2.push (kxs_mw initId x)).get? h2.objs.size = some (kxs_mw initId x) := Heap.get?_push_at rfl rfl
  have k3 : ∀ b o, h2.get? b = some o → (h2.push (kxs_mw initId x)).get? b = some o := fun b o e => Heap.get?_push_of_some _ e
  refine kxs_callWith (i := initId) (x := x) rfl (evalArgs_plain (spliced_cons ?_))
  show wpAny _ _ (eval (.Constant (.str msg) j a4) _) _ _ _
  refine Constant_str (spliced_nil ⟨hu, ?_⟩)
  refine mw_call D.ini (k3 _ _ hC2) (k3 _ _ hx2) hu (show 1 ≤ sizeLine by rw [sizeLine_eq]; decide) ?_
  intro h4 t1 k4 hx4
  -- self.f = f
  have old : ∀ b o, b ≠ x → h1.get? b = some o → h4.get? b = some o := fun b o hb e => k4 b o hb (k3 b o (k2 b o e))
  have X4 : K.In h4 := by
    intro b o e
    refine old b o ?_ (X1 b o e)
    rintro rfl
    rw [hnx] at e
    cases e
  have hns4 : h4.Ns s.heap.objs.size (fun y => ([("self", Value.ref x), (fld, v)] : List (Str × Value)).reverse.lookup y) := by
    obtain ⟨o, es, ep, e1, e2, e3⟩ := hns
    exact ⟨o, es, ep, old _ _ xL e1, e2, e3⟩
  refine wpAt_of_wpAny ?_
  refine wpAny_execs_cons (plainObj_wpAny_Assign_Attribute ?_)
  refine ldL hns4 ((lookN fld).trans (if_pos rfl)) ?_ rfl k2' n2
  refine ldL hns4 (v := .ref x) ((lookN _).trans ?_) ?_ rfl k1 (by decide)
  · exact selfN
  refine set_plain X4 (ox := excO C t1) (od := none) ⟨hx4, rfl, rfl, trivial⟩ T.sa ?_
  refine xo_store X4 hx4 hcl rfl (by show refuseLoop _ _ (.ref C :: bm) = _; rw [refuseLoop_ref]; exact excTail_pass _ (D.pass _) _ hbm) ?_ rfl T.noN ?_
  · show (Value.ref C :: bm).contains (.type "object") = true
    rw [List.contains_cons, excTail_contains "object" _ hbm, D.obj, Bool.or_true]
  intro h5 tk5 dx k5 big ne hx5 hn5
  show wpAny _ _ (execs _ _) _ _ _
  have z : s.heap.objs.size ≤ h4.objs.size := Nat.le_of_lt hns4.lt
  refine wpAny_execs_nil (hq h5 tk5 t1 dx ⟨?_, hx5, Nat.le_trans z big, ne, hn5⟩)
  intro b o hb e
  exact k5 b o hb (old b o hb (k b o e))
/-- a made exception: e, its own dict at d -/
structure Made (h h' : Heap) (e C d : Addr) (fld : Str) (v : Value) : Prop where
  keep : ∀ b o, h.get? b = some o → h'.get? b = some o
  new : h.objs.size ≤ e
  obj : ∃ oe vs, h'.get? e = some oe ∧ oe.cls = .ref C ∧ oe.dict = some d ∧ oe.data = .fields vs ∧ vs[1]? = some .none
  big : h.objs.size ≤ d
  ne : d ≠ e
  ns : h'.Ns1 d (fun y => if y = fld then some v else none)
theorem size_one (v : Value) : [v].length ≤ sizeLine := by
  rw [sizeLine_eq]
  exact (by decide : 1 ≤ 16777216)
theorem xo_made (D : Base B newId initId bmB) (T : XT prog.main.file K C fI fld B newId initId bmB) {v : Value} (X : K.In s.heap) (hlim : s.heap.NoLimit) (hroom : A.depth + 1 < recursionLimit)
    (hg : s.heap.Ns mainGlobals mg) (hm : mg "super" = none) (hb : s.heap.Ns builtinsNs mb) (hbs : mb "super" = some (.type "super")) (htop : (prog.main.scope.names.lookup ("super" : Str)).isSome = false)
    (hq : ∀ h' tk e d, Made s.heap h' e C d fld v → R (.ok (.ret (.ref e))) { s with heap := h', toks := tk }) : codeAny (model prog w) A (.call (.ref C) ⟨[v], []⟩) R s := by
  obtain ⟨nm, q, N, bs, bm, sn, sub, ab, col, dd, k0, k1, k2, k3, k5, hC, hbm⟩ := T.cls
  obtain ⟨hp, g, dr, tk, os⟩ := s
  have k : ∀ b o, hp.get? b = some o → ((hp.push (kdv_tup [v])).push (excO C hp.objs.size)).get? b = some o := fun b o e => Heap.get?_push_of_some _ (Heap.get?_push_of_some _ e)
  have got : ((hp.push (kdv_tup [v])).push (excO C hp.objs.size)).get? (hp.objs.size + 1) = some (excO C hp.objs.size) := by heap_get
  have fresh : K.lookup (hp.objs.size + 1) = none := by
    cases e : K.lookup (hp.objs.size + 1) with
    | none => rfl
    | some o => exact absurd (Nat.lt_of_succ_lt (Heap.lt_size (X _ _ e : hp.get? (hp.objs.size + 1) = some o))) (Nat.lt_irrefl _)
  obtain ⟨BN, DN⟩ := D.new
  refine nf_call DN (fun Y => excTail_contains Y bm hbm) (X _ _ hC) (looks_findIn X T.iC) (fun self => bind_fn X self T.tC) (size_one v) ?_
  refine xo_init (s := ⟨(hp.push (kdv_tup [v])).push (excO C hp.objs.size), g, dr, tk, os⟩) D T (X.keeps k) (hlim.keeps k) got fresh ?_ (hg.keeps k) hm (hb.keeps k) hbs htop ?_
  · show A.depth + 1 < recursionLimit
    exact hroom
  rintro h' tk' t1 dx ⟨k', hx, big, ne, ns⟩
  have z : hp.objs.size + 1 + 1 ≤ dx := by
    have zz := big
    rw [Heap.size_push, Heap.size_push] at zz
    exact zz
  refine ⟨rfl, hq h' tk' (hp.objs.size + 1) dx ⟨?_, Nat.le_succ _, ⟨_, _, hx, rfl, rfl, rfl, rfl⟩, Nat.le_trans (Nat.le_trans (Nat.le_succ _) (Nat.le_succ _)) z, ne, ns⟩⟩
  intro b o e
  exact k' b o (Nat.ne_of_lt (Nat.lt_succ_of_lt (Heap.lt_size e))) (k b o e)
end
end XO
namespace DL
open PySem L2 XO
theorem relO_one {fld : Str} {v : V} {u : Value} (r : RelV v u) (f : Str) : RelO (List.lookup f [(fld, v)]) (if f = fld then some u else none) := by
  by_cases h : f = fld
  · subst h
    rw [if_pos rfl, List.lookup_cons, beq_self_eq_true]
    exact r
  · have hb : (f == fld) = false := by simpa using h
    rw [if_neg h, List.lookup_cons, hb]
    trivial
theorem boot_super : bootBuiltins "super" = some (.type "super") := by decide +kernel
/-- C(e), C such a class -/
def tMkX (C : Addr) (fld : Str) (ta : TA) : L2.St → Hp → XK → Prop := fun σ H Q => ta σ H fun vs H1 => ∃ v, vs = [v] ∧ ∀ d, H1 d = none → Q (.ref C) (some d) (upd H1 d (.xd [(fld, v)]))
theorem pmk_x {X : Cx} {C fI : Addr} {x fld : Str} {B newId initId : String} {bmB : List Value} {a : Expr} {ta : TA} {p pos : Pos} {k : Nat} (D : Base B newId initId bmB) (T : XT X.prog.main.file X.K C fI fld B newId initId bmB) (hm : X.mg x = some (.ref C)) (hsup : X.mg "super" = none)
    (htop : (X.prog.main.scope.names.lookup ("super" : Str)).isSome = false) (hr : Room k X.A) (ha : PA X [a] ta) (hg : Gl X x) (hd : (x == ("__debug__" : Str)) = false)
    (he : starEach (a :: []) X.env = (false, eval a X.env) :: starEach [] X.env) (hpl : (backTo pos (starEach [] X.env)).any (·.1) = false) : PMk X (.Call (.Name x p) [a] [] pos) (tMkX C fld ta) := by
  intro pins s σ H Q I h
  refine wpAny_Call_Name_kw (ld_glob I hg hm ?_ hd)
  refine PySem.W.callWith_K (h₀ := X.base) I.ok.mod.kin T.kC (thn (ha.run pos pins s σ H _ I h) ?_) he hpl
  rintro us s1 ⟨vs, H1, I1, r1, v, ev, q1⟩
  subst ev
  refine ⟨I1.kIn, ?_⟩
  cases r1 with
  | cons rv rn =>
    rename_i v' us'
    cases rn
    show wpAny _ _ (call (.ref C) [v']) _ _ _
    have lim := I1.nolimit
    obtain ⟨mb, hb1, hb2⟩ := I1.ok.mod.blt
    have hglob := I1.ok.mod.glob
    have bk := I1.bk
    obtain ⟨hp, g, dr, tk, os⟩ := s1
    refine wpAny_call (xo_made D T I1.kIn lim (by have := hr.dp; omega) (hglob.keeps bk) hsup (hb1.keeps bk) ((hb2 _ (by decide)).trans boot_super) htop ?_)
    intro h' tk' e d M
    show MkP X pins σ Q (.ref e) ⟨h', g, dr, tk', os⟩
    obtain ⟨oe, fv, hoe, hc, hdct, hdat, h1⟩ := M.obj
    have hns := M.ns
    obtain ⟨G', g1, g2⟩ := restrict h' fun b => decide (b ≠ e)
    have gk : ∀ b, b ≠ e → G'.get? b = h'.get? b := fun b hb => g1 b (decide_eq_true hb)
    have ge : G'.get? e = none := g2 e (by simp)
    have old : ∀ b o, hp.get? b = some o → G'.get? b = some o := fun b o q => (gk b (Nat.ne_of_lt (Nat.lt_of_lt_of_le (Heap.lt_size q) M.new))).trans (M.keep b o q)
    have ob : ObjOk X.prog X.w (upd H1 d (.xd [(fld, v)])) G' d (.xd [(fld, v)]) := ⟨_, hns.at (fun o q => (gk d M.ne).trans q), fun f => relO_one rv f⟩
    have J : Inv X pins σ (upd H1 d (.xd [(fld, v)])) ⟨G', g, dr, tk', os⟩ := I1.laid (t' := tk') old M.big ob
    refine ⟨e, oe, fv, ⟨G', g, dr, tk', os⟩, _, .ref C, some d, rfl, J, ?_, ge, hoe, ⟨hc, hdct⟩, hdat, h1, ?_, rfl, I1.bare, raises_own T.exC T.tyC, q1 d (I1.hok.fresh M.big)⟩
    · intro b o q
      by_cases hb : b = e
      · subst hb
        have q : G'.get? b = some o := q
        rw [ge] at q
        cases q
      · exact (gk b hb).symm.trans q
    · rw [upd_ne (Ne.symm M.ne)]
      exact I1.hok.fresh M.new
end DL
namespace DL
open PySem L2 XO
open Evl (Ex)
/-! ### wishes by the class's name -/
def byName (mg : Str → Option Value) (W0 : WX) : Wx := fun n d σ H => ∀ cls, mg n = some cls → W0 cls d σ H
def toWX (mg : Str → Option Value) (W : Wx) : WX := fun cls d σ H => ∃ n, mg n = some cls ∧ W n d σ H
theorem takes_by {mg : Str → Option Value} {X : Cx} {W0 : WX} (t : Takes X W0) : Takes X (toWX mg (byName mg W0)) := t.imp fun cls d σ H h => by
  obtain ⟨n, hm, q⟩ := h
  exact q cls hm
/-- an exception class of the text: its name, its field -/
def XC (P : Program) (K : Fg) (mg : Str → Option Value) (n fld : Str) : Prop := ∃ C fI B newId initId bmB, Base B newId initId bmB ∧ XT P.main.file K C fI fld B newId initId bmB ∧ mg n = some (.ref C) ∧ PySem.W.exmOne K (.ref C) (.ref C) = some true
structure Sup (P : Program) (mg : Str → Option Value) : Prop where
  mg : mg "super" = none
  top : (P.main.scope.names.lookup ("super" : Str)).isSome = false
section
variable {P : Program} {w : World} {K : Fg} {mg : Str → Option Value} {base : Heap} {k : Nat} {N : List Str} {W : Wx} {ι : Type} {X : ι → Cx} {f : Addr} {fd : FuncData} {ps : List Str} {pos : Pos}
/-! ### raise C(e) -/
def sRaise (n fld : Str) (w : WE) : WS := fun E ρ m => w ρ m (fun v m1 => E.ex ⟨n, fld, v⟩ m1) E.ex
theorem ps_raiseX {n fld : Str} {a : Expr} {wa : WE} {p cpos : Pos} (hX : FamG P w K mg base k N X) (tk : ∀ i, Takes (X i) (toWX mg W)) (S : Sup P mg) (c : XC P K mg n fld) (ha : PD K W X a wa) (hg : ∀ i, Gl (X i) n := by intro _; rfl) (hd : (n == ("__debug__" : Str)) = false := by decide)
    (he : ∀ i, starEach (a :: []) (X i).env = (false, eval a (X i).env) :: starEach [] (X i).env := by intro _; rfl) (hpl : ∀ i, (backTo cpos (starEach [] (X i).env)).any (·.1) = false := by intro _; rfl) :
    PDS K W X (.Raise (some (.Call (.Name n p) [a] [] cpos)) none pos) (sRaise n fld wa) := by
  obtain ⟨C, fI, B, newId, initId, bmB, D, T, hm, _⟩ := c
  obtain ⟨ta, a1, a2⟩ := DL.pa_cons ha (DL.pa_nil (K := K) (W := W) (X := X)) he
  refine ⟨_, fun i => ps_raise (hX.calm i) (tk i) (pmk_x (fld := fld) D (by rw [hX.prog i, hX.K i]; exact T) (by rw [hX.mg i]; exact hm) (by rw [hX.mg i]; exact S.mg) (by rw [hX.prog i]; exact S.top) (hX.room i) (a1 i) (hg i) hd (he i) (hpl i)), ?_⟩
  intro G m F H σ ρ Sd E hW hE h ft
  refine a2 G m F H σ ρ _ (fun ds m1 => match ds with
    | [v] => E.ex ⟨n, fld, v⟩ m1
    | _ => False) E.ex hW hE h ft.ex ?_
  rintro ds m1 vs G1 H1 q e1 W1 r1
  cases r1 with
  | nil => exact q.elim
  | cons r1 t =>
    cases t with
    | cons _ _ => exact q.elim
    | nil =>
      refine ⟨_, rfl, fun d hd => ?_⟩
      obtain ⟨e, W'⟩ := W1.new hd (.xd [(fld, _)])
      exact ⟨n, hm, ft.ex _ m1 (some d) σ _ _ q (e1.trans e) W' ⟨d, _, rfl, upd_same, r1.mono e⟩⟩
/-! ### calls that may raise -/
theorem FnG.goesAt {X : Cx} {sp : Sp} {E : XK} {pins : List (Addr × Obj)} {σ : L2.St} {H : Hp} {s : Shared} {Q : VK} {us : List Value} {vs : List V} (Fn : FnG X.prog X.w X.K X.mg X.base (L2.CX X.prog X.w) k f fd ps sp)
    (hg : X.A.guards = some []) (hr : Room k X.A) (hb : Binds X.K fd ps []) (hx : PassesAt (L2.CX X.prog X.w) X σ E) (I : Inv X pins σ H s) (r : Vals vs us) (h : sp vs H Q E) :
    wpAny (model X.prog X.w) X.A (call (.ref f) us) (EP X pins σ Q) X.xe s := by
  have hlen : us.length = ps.length := r.length.symm.trans (Fn.size _ _ _ _ h)
  have b := hb s us I.kIn (by rw [List.append_nil]; exact hlen)
  rw [List.append_nil] at b
  have goal := Fn.runs X.A X.stack s H ⟨us, []⟩ us vs Q E hg hr I.env0 b r h
  refine wpAny_call (codeAny_mono goal ?_)
  rintro (e | fl) s' hq
  · exact hx pins H s e s' I hq
  · cases fl <;> first | exact I.after hq | exact (hq : False).elim
def HasX (P : Program) (w : World) (K : Fg) (mg : Str → Option Value) (base : Heap) (j : Nat) (x : Str) (ps : List Str) (fn : DFn) : Prop :=
  ∃ f fd, FnG P w K mg base (L2.CX P w) j f fd ps (spD K mg fn) ∧ mg x = some (.ref f) ∧ PySem.W.keepIn K (.ref f) = true ∧ Binds K fd ps []
def wCallX (fn : DFn) (a : WA) : WE := fun ρ m Q Qx => a ρ m (fun ds m1 => fn ds m1 Q Qx) Qx
theorem pd_own_callX {fn : DFn} {j : Nat} {x : Str} {p : Pos} {e : Expr} {es : List Expr} {wr : WA} (hX : FamG P w K mg base k N X) (tk : ∀ i, Takes (X i) (toWX mg W)) (hh : HasX P w K mg base j x ps fn) (ha : PDA K W X (e :: es) wr) (hj : j ≤ k := by decide) (hg : ∀ i, Gl (X i) x := by intro _; rfl) (hd : (x == ("__debug__" : Str)) = false := by decide)
    (he : ∀ i, starEach (e :: es) (X i).env = (false, eval e (X i).env) :: starEach es (X i).env := by intro _; rfl) (hpl : ∀ i, (backTo pos (starEach es (X i).env)).any (·.1) = false := by intro _; rfl) : PD K W X (.Call (.Name x p) (e :: es) [] pos) (wCallX fn wr) := by
  obtain ⟨f, fd, Fn, hm, hk, hb⟩ := hh
  obtain ⟨t, a1, a2⟩ := ha
  refine ⟨fun σ H Q => t σ H fun vs H1 => spD K mg fn vs H1 Q (fun cls d H' => toWX mg W cls d σ H'), fun i => ⟨fun pins s σ H Q I h => ?_⟩, ?_⟩
  · have hmi : (X i).mg x = some (.ref f) := by rw [hX.mg i]; exact hm
    have Fi : FnG (X i).prog (X i).w (X i).K (X i).mg (X i).base (L2.CX (X i).prog (X i).w) j f fd ps (spD K mg fn) := by rw [hX.prog i, hX.w i, hX.K i, hX.mg i, hX.base i]; exact Fn
    refine wpAny_Call_Name_kw (ld_glob I (hg i) hmi ?_ hd)
    refine PySem.W.callWith_K (h₀ := (X i).base) I.ok.mod.kin (by rw [hX.K i]; exact hk) (thn ((a1 i).run pos pins s σ H _ I h) ?_) (he i) (hpl i)
    rintro us s1 ⟨vs, H1, I1, r, q⟩
    exact ⟨I1.kIn, Fi.goesAt (hX.guards i) ((hX.room i).mono hj) (by rw [hX.K i]; exact hb) (passAt (tk i) σ) I1 r q⟩
  · intro G m F H σ ρ Q Qd Qx hW hE h hXx hQ
    refine a2 G m F H σ ρ _ _ Qx hW hE h hXx ?_
    intro ds m1 vs G1 H1 q e1 W1 r1
    refine ⟨G1, m1, F, ds, Qd, Qx, W1, r1, q, ?_, ?_⟩
    · intro d m' v G' H' z e
      exact hQ d m' v G' H' z (e1.trans e)
    · intro x m' cls d G' H' z hmx e W' r
      exact ⟨x.cls, hmx, hXx x m' d σ G' H' z (e1.trans e) W' r⟩
/-- a def that may raise keeps its promise -/
theorem fn_okX {x qual : Str} {st : Stmt} {fn : DFn} {wb : WS} (Fu : Fun K x qual st f fd) (S : FnScope N ps (defScope st)) (hlen : ∀ ds m Q Qx, fn ds m Q Qx → ds.length = ps.length)
    (hb : ∀ (cdv : Value) (A : Around) (oe : List Env) (s : Shared) (H : Hp) (E : XK), FamG P w K mg base k N (fun _ : Unit => cxOf (L2.CX P w) P w K mg base N qual (defScope st) f cdv A oe s H E) →
      (∀ i, Takes ((fun _ : Unit => cxOf (L2.CX P w) P w K mg base N qual (defScope st) f cdv A oe s H E) i) (toWX mg (byName mg fun cls d _ H => E cls d H))) →
      PDB K (byName mg fun cls d _ H => E cls d H) (fun _ : Unit => cxOf (L2.CX P w) P w K mg base N qual (defScope st) f cdv A oe s H E) (defBody st) wb)
    (hr : ∀ ds m Qd Qx, fn ds m Qd Qx → wb { nx := fun _ m' => Qd .non m', rt := Qd, ex := Qx } (ds.map some ++ List.replicate (N.length - ds.length) none) m) :
    FnG P w K mg base (L2.CX P w) (k + 1) f fd ps (spD K mg fn) := by
  obtain ⟨oc, od, kV, doc, pm, an, cdv, ct, osl, rfl, lk, hcd⟩ := Fu.ex
  have size : ∀ vs H Q E, spD K mg fn vs H Q E → vs.length = ps.length := by
    rintro vs H Q E ⟨G, m, F, ds, Qd, Qx, _, r, hf, _⟩
    exact r.len.trans (hlen _ _ _ _ hf)
  refine ⟨size, ?_⟩
  intro A oe s H ar us vs Q E hgd hrm e0 hbind r hsp
  have hl := size _ _ _ _ hsp
  have old : ∀ b o, base.get? b = some o → s.heap.get? b = some o := fun b o e => (e0.bs b o e).1
  have KX : K.In s.heap := e0.mod.kin.keeps old
  have lim : s.heap.NoLimit := e0.mod.nolimit.keeps old
  have kinds : ∀ y ∈ ps.zip us, (defScope st).names.lookup y.1 = some .local ∨ ((defScope st).names.lookup y.1 = some .cell ∧ ((cellsFrom (s.heap.objs.size + 1) (defScope st).names []).lookup y.1).isSome = true) := by
    rintro ⟨n, v⟩ hy
    rcases S.par n (List.of_mem_zip hy).1 with q | q
    · exact Or.inl q
    · exact Or.inr ⟨q, PySem.W.cellsFrom_some _ _ _ (Or.inl q)⟩
  refine codeAny_call_function hrm.depth (KX _ _ lk) rfl S.co S.gen rfl (PySem.W.codeRec_of KX hcd) (hbind _ _ _ _ ?_)
  refine wpAny_newFunctionEnv_cells S.kind kinds ?_
  rintro env rfl s1 nx
  refine ⟨lim.keeps nx.toInCall.keep, codeAny_func ?_⟩
  have fam : FamG P w K mg base k N (fun _ : Unit => cxOf (L2.CX P w) P w K mg base N qual (defScope st) f cdv A oe s H E) :=
    { prog := fun _ => rfl, w := fun _ => rfl, K := fun _ => rfl, mg := fun _ => rfl, base := fun _ => rfl, hN := fun _ => rfl, calm := fun _ => rfl, room := fun _ => hrm.deeper _, nd := S.nd, guards := fun _ => hgd }
  obtain ⟨t, h1, h2⟩ := hb cdv A oe s H E fam (fun _ => takes_by (takes_of rfl rfl rfl rfl))
  have I : Inv (cxOf (L2.CX P w) P w K mg base N qual (defScope st) f cdv A oe s H E) [] (start N vs) H s1 := inv_start S hrm.hd e0 hl r nx
  obtain ⟨G, m, F, ds, Qd, Qx, hW, rr, hf, hQ, hQx⟩ := hsp
  have reading : t { nx := fun _ H' => Q .non H', rt := Q } (start N vs) H := by
    refine h2 G m F H _ _ _ { nx := fun _ m' => Qd .non m', rt := Qd, ex := Qx } hW ?_ (hr ds m Qd Qx hf) ⟨?_, ?_, ?_, ?_, ?_⟩
    · unfold L2.start
      rw [rr.len]
      exact En.start _ rr
    · intro ρ' m' σ' G' H' q e W' _
      exact hQ _ m' _ G' H' q e W' .non
    · exact hQ
    · intro _ _ _ _ _ z; exact z.elim
    · intro _ _ _ _ _ z; exact z.elim
    · intro x m' d σ' G' H' z e W' r cls hc
      exact hQx x m' cls d G' H' z hc e W' r
  refine wpAny_mono ((h1 ()).run [] s1 (start N vs) H _ I reading) ?_ fun e s' z => z
  have fin : ∀ {s' : Shared} {σ' : L2.St} {H' : Hp} {v : V} {u : Value}, Inv (cxOf (L2.CX P w) P w K mg base N qual (defScope st) f cdv A oe s H E) [] σ' H' s' → RelV v u → Q v H' → CE oe P w H s Q u s' := by
    intro s' σ' H' v u J rv q
    exact ⟨v, H', J.os, J.bare, J.base, J.hok, rv, q⟩
  intro fl s' hs
  cases fl
  case ret u =>
    obtain ⟨v, σ', H', J, rv, q⟩ := hs
    exact fin J rv q
  case next =>
    obtain ⟨σ', H', J, q⟩ := hs
    exact fin (v := V.non) (u := Value.none) J rfl q
  case brk =>
    obtain ⟨_, _, _, q⟩ := hs
    exact (q : False).elim
  case cont =>
    obtain ⟨_, _, _, q⟩ := hs
    exact (q : False).elim
theorem has_ofX {x qual : Str} {st : Stmt} {fn : DFn} {wb : WS} (Fu : FunAt K mg x qual st ps) (S : FnScope N ps (defScope st)) (hlen : ∀ ds m Q Qx, fn ds m Q Qx → ds.length = ps.length)
    (hb : ∀ (f : Addr) (cdv : Value) (A : Around) (oe : List Env) (s : Shared) (H : Hp) (E : XK), FamG P w K mg base k N (fun _ : Unit => cxOf (L2.CX P w) P w K mg base N qual (defScope st) f cdv A oe s H E) →
      (∀ i, Takes ((fun _ : Unit => cxOf (L2.CX P w) P w K mg base N qual (defScope st) f cdv A oe s H E) i) (toWX mg (byName mg fun cls d _ H => E cls d H))) →
      PDB K (byName mg fun cls d _ H => E cls d H) (fun _ : Unit => cxOf (L2.CX P w) P w K mg base N qual (defScope st) f cdv A oe s H E) (defBody st) wb)
    (hr : ∀ ds m Qd Qx, fn ds m Qd Qx → wb { nx := fun _ m' => Qd .non m', rt := Qd, ex := Qx } (ds.map some ++ List.replicate (N.length - ds.length) none) m) : HasX P w K mg base (k + 1) x ps fn := by
  obtain ⟨f, fd, hm, F, hbi⟩ := Fu
  exact ⟨f, fd, fn_okX F S hlen (hb f) hr, hm, F.kp, hbi⟩
/-! ### try: body, except C as n: return [.., n.f] -/
/-- the contexts of a try's body that take W0 -/
def TrI {ι : Type} (X : ι → Cx) (W0 : WX) : Type := { j : ι × List (Addr × Obj) × (Value → Shared → Prop) // Takes ((X j.1).tr j.2.1 j.2.2) W0 ∧ PassesOwn (model (X j.1).prog (X j.1).w) (X j.1).A (X j.1).env j.2.2 }
def TrF {ι : Type} (X : ι → Cx) (W0 : WX) : TrI X W0 → Cx := fun j => (X j.1.1).tr j.1.2.1 j.1.2.2
theorem FamG.tr (hX : FamG P w K mg base k N X) (W0 : WX) : FamG P w K mg base k N (TrF X W0) where
  prog := fun j => hX.prog j.1.1
  w := fun j => hX.w j.1.1
  K := fun j => hX.K j.1.1
  mg := fun j => hX.mg j.1.1
  base := fun j => hX.base j.1.1
  hN := fun j => hX.hN j.1.1
  calm := fun j => hX.calm j.1.1
  room := fun j => hX.room j.1.1
  nd := hX.nd
  guards := fun j => hX.guards j.1.1
def byLen (mg : Str → Option Value) (N : List Str) (W0 : WX) : Wx := fun n d σ H => σ.length = N.length → ∀ cls, mg n = some cls → W0 cls d σ H
theorem takes_len {Y : Cx} {W0 : WX} (t : Takes Y W0) (hN : Y.N = N) : Takes Y (toWX mg (byLen mg N W0)) := by
  rintro u s' ⟨a, B, sI, pins, σ, H, cls, d, e, I, nb, up, sky, na, os, ag, n, hm, q⟩
  exact t u s' ⟨a, B, sI, pins, σ, H, cls, d, e, I, nb, up, sky, na, os, ag, q (by rw [I.len, hN]) cls hm⟩
theorem tr_takes (hX : FamG P w K mg base k N X) (W0 : WX) : ∀ j, Takes (TrF X W0 j) (toWX mg (byLen mg N W0)) := fun j => takes_len j.2.1 (hX.hN j.1.1)
def sTry (x fld tag : Str) (wb : WS) : WS := fun E ρ m => wb { nx := E.nx, rt := E.rt, bk := E.bk, ct := E.ct, ex := fun xx m' => xx.cls = x ∧ xx.fld = fld ∧ E.rt (.lst [.str tag, xx.val]) m' } ρ m
theorem xfc_of {main : Str} {C fI : Addr} {fld : Str} {B newId initId : String} {bmB : List Value} (T : XT main K C fI fld B newId initId bmB) : XfC K C := ⟨T.ga, T.gg, T.exC, T.hdC⟩
theorem ps_tryR {x fld tag n : Str} {body : List Stmt} {wb : WS} {np p1 p2 p3 p4 p5 pos' : Pos} {j1 : Nat} (hX : FamG P w K mg base k N X) (tk : ∀ i, Takes (X i) (toWX mg W)) (c : XC P K mg x fld) (v : Nat)
    (hb : ∀ W0 : WX, PDB K (byLen mg N W0) (TrF X W0) body wb) (hi : N[v]? = some n := by rfl)
    (hs : ∀ i, (X i).stack = (X i).env :: (X i).outer := by intro _; rfl) (hf : ∀ i, (X i).env.frame = some (X i).env.locals := by intro _; rfl) (hln : ∀ i, (X i).env.kindOf n = some .local := by intro _; rfl)
    (hg : ∀ i, Gl (X i) x := by intro _; rfl) (hd : (x == ("__debug__" : Str)) = false := by decide) (hv : ∀ j, Vis (X j).env.scope n := by intro _; first | exact Or.inl rfl | exact Or.inr (Or.inl rfl) | exact Or.inr (Or.inr rfl)) (hdn : (n == ("__debug__" : Str)) = false := by decide) (hcn : (n == ("__classdict__" : Str)) = false := by decide)
    (hab : ∀ i, attributeBase (.Name n p2) fld (X i).env (eval (.Name n p2) (X i).env) = eval (.Name n p2) (X i).env := by intro _; rfl) :
    PDS K W X (.Try body [.ExceptHandler (some (.Name x np)) (some n) [.Return (some (.List [.Constant (.str tag) j1 p1, .Attribute (.Name n p2) fld p3] p4)) p5] pos'] [] [] pos) (sTry x fld tag wb) := by
  obtain ⟨C, fI, B, newId, initId, bmB, D, T, hm, hex⟩ := c
  obtain ⟨ts, hts⟩ : ∃ ts : Addr → Value → Option Addr → TS, ts = fun a cls d => tRet (tLst (tCons (tC (.str tag)) (tCons (tXf a cls d C fld (tVar v)) tNil))) := ⟨_, rfl⟩
  refine ⟨fun D σ H => Classical.choose (hb (wAs K (.ref C) v ts (toWX mg W) D)) D σ H, fun i => ?_, ?_⟩
  · have q := L2.ps_try_as (X := X i) (x := x) (n := n) (np := np) (pos := pos) (pos' := pos') (body := body) (b₀ := .Return (some (.List [.Constant (.str tag) j1 p1, .Attribute (.Name n p2) fld p3] p4)) p5) (suite := []) (i := v) (c := .ref C) (ts := ts) (tb := fun W0 => Classical.choose (hb W0)) (Wout := toWX mg W) (hs i) (hf i) (by rw [hX.hN i]; exact hX.nd) (by rw [hX.hN i]; exact hi) (hln i)
      ⟨hg i, hd, Or.inl (by rw [hX.mg i]; exact hm)⟩ (tk i) (fun W0 pn xe t po => (Classical.choose_spec (hb W0)).1 ⟨(i, pn, xe), t, po⟩) (fun a oe cls d pn hz hfl => ?_)
    · rw [hX.K i] at q; exact q
    · subst hts
      refine pss_one (L2.ps_ret (pe_lst (L2.pa_cons pe_str (L2.pa_cons (pe_xf ?_ ?_ hz hfl (pe_var (by exact (hX.hN i) ▸ hi) (hv i) hdn hcn) (hab i)) L2.pa_nil))))
      · show XfC (X i).K C; rw [hX.K i]; exact xfc_of T
      · show PySem.W.findIn (X i).K (.ref C) fld = some none; rw [hX.K i]; exact T.noN
  · intro G m F H σ ρ S E hW hE h ft
    refine (Classical.choose_spec (hb (wAs K (.ref C) v ts (toWX mg W) S))).2 G m F H σ ρ S _ hW hE h ⟨ft.nx, ft.rt, ft.bk, ft.ct, ?_⟩
    rintro xx m' d σ' G' H' ⟨q1, q2, q3⟩ e W' ⟨dd, u, ed, eg, ru⟩ hlen cls hcls
    rw [q1, hm] at hcls
    cases hcls
    refine ⟨true, hex, fun _ a ha => ?_, fun z => nomatch z⟩
    subst hts
    have hvl : v < σ'.length := by
      rw [hlen]
      exact (List.getElem?_eq_some_iff.mp hi).1
    have hH : H' dd = some (.xd [(xx.fld, u)]) := W'.ex _ _ eg
    refine ⟨.ref a, by rw [List.getElem?_set_self hvl], rfl, rfl, dd, [(xx.fld, u)], u, ed, hH, by rw [q2]; simp [List.lookup], ?_, fun p hp => ?_⟩
    · show 2 ≤ sizeLine
      rw [sizeLine_eq]; decide
    · obtain ⟨e2, W2⟩ := W'.new hp (.lst [.str tag, u])
      exact ft.rt _ m' _ _ _ q3 (e.trans e2) W2 (.lst upd_same (.cons (.str tag) (.cons (ru.mono e2) .nil)))
end
end DL
/-! XR: repr of data, empty dicts among them -/
namespace DL
open PySem L2 XO
open Evl (Ex)
mutual
def plainD : D → Bool
  | .non => true | .bl _ => true | .int _ => true | .str _ => true
  | .lst ds => plainA ds | .tup ds => plainA ds
  | .dct [] [] => true
  | _ => false
def plainA : List D → Bool
  | [] => true
  | d :: ds => plainD d && plainA ds
end
section
variable {X : Cx} {pins : List (Addr × Obj)} {σ : L2.St} {G H : Hp} {s : Shared}
mutual
theorem rk_of (I : Inv X pins σ H s) (e : Ex G H) : ∀ (d : D) (v : V) (u : Value), Rp X.K G v d → RelV v u → plainD d = true → (py d).showable = true → (py d).shown.length ≤ sizeLine →
    ∃ as bs, Reads s.heap u (py d) as ∧ ReadAtMost s.heap (py d).depth bs ∧ ReprK X.prog X.w bs s.heap (py d).depth u (py d).shown
  | .non, _, _, r, ru, _, _, _ => by
    cases r; cases ru
    exact ⟨_, [], Reads.none, (fun _ h => nomatch h), by simp only [py, PyData.shown]; exact .of_is ReprIs.none _ _ _⟩
  | .bl b, _, _, r, ru, _, _, _ => by
    cases r; cases ru
    exact ⟨_, [], Reads.bool b, (fun _ h => nomatch h), by simp only [py, PyData.shown]; exact .of_is (ReprIs.bool b) _ _ _⟩
  | .int i, _, _, r, ru, _, hs, _ => by
    cases r
    obtain ⟨t, rfl⟩ := ru
    exact ⟨_, [], Reads.int i t, (fun _ h => nomatch h), by simp only [py, PyData.shown]; exact .of_is (ReprIs.int t (by simpa [py, PyData.showable] using hs)) _ _ _⟩
  | .str x, _, _, r, ru, _, _, hz => by
    cases r
    obtain ⟨t, rfl⟩ := ru
    exact ⟨_, [], Reads.str x t, (fun _ h => nomatch h), by simp only [py, PyData.shown]; exact .of_is (ReprIs.str x t (by simpa only [py, PyData.shown] using hz)) _ _ _⟩
  | .lst ds, _, _, r, ru, hp, hs, hz => by
    cases r with
    | @lst a0 xs0 _ hx rr =>
      cases ru
      obtain ⟨its, rv, ⟨o, n, ho, hc, _, hd⟩, _⟩ := I.list (SqL.of (e _ _ hx))
      have hz' : (listText (PyData.shownAll (pyA ds))).length ≤ sizeLine := by simpa only [py, PyData.shown] using hz
      obtain ⟨as, bs, hr, hb, hk⟩ := rks_of I e ds _ its rr rv (by simpa only [plainD] using hp) (by simpa only [py, PyData.showable] using hs) (fun t ht => Nat.le_trans (listText_mem_le ht) hz')
      have r : Reads s.heap (.ref a0) (.list (pyA ds)) _ := .list ho hc hd hr
      have hna : a0 ∉ bs := not_mem_of_deeper r (by simp only [PyData.depth]; omega) hb
      rw [show py (D.lst ds) = PyData.list (pyA ds) from by simp only [py]]
      refine ⟨_, _ :: bs, r, ReadAtMost.cons r (by simp only [PyData.depth]; omega) hb, ?_⟩
      simp only [PyData.depth, PyData.shown]
      cases its with
      | nil =>
        have h4' : ReadsAll s.heap [] (pyA ds) _ := hr
        cases ds with
        | nil =>
          simp only [pyA, PyData.shownAll, listText_nil]
          exact ReprK.listEmpty ho hc hd
        | cons d ds => simp only [pyA] at h4'; cases h4'
      | cons x l => exact ReprK.list ho hc hd hna (by simpa using hk.length_eq) (fun i y e => hk.item i y (by simpa using e))
  | .tup ds, _, _, r, ru, hp, hs, hz => by
    cases r with
    | @tup a0 xs0 _ hx rr =>
      cases ru
      obtain ⟨its, rv, ⟨o, ho, hc, n, hd⟩, _⟩ := I.tuple (Evl.ex_t e hx)
      have hz' : (tupleText (PyData.shownAll (pyA ds))).length ≤ sizeLine := by simpa only [py, PyData.shown] using hz
      obtain ⟨as, bs, hr, hb, hk⟩ := rks_of I e ds _ its rr rv (by simpa only [plainD] using hp) (by simpa only [py, PyData.showable] using hs) (fun t ht => Nat.le_trans (tupleText_mem_le ht) hz')
      have r : Reads s.heap (.ref a0) (.tuple (pyA ds)) _ := .tuple ho hc hd hr
      have hna : a0 ∉ bs := not_mem_of_deeper r (by simp only [PyData.depth]; omega) hb
      rw [show py (D.tup ds) = PyData.tuple (pyA ds) from by simp only [py]]
      refine ⟨_, _ :: bs, r, ReadAtMost.cons r (by simp only [PyData.depth]; omega) hb, ?_⟩
      simp only [PyData.depth, PyData.shown]
      exact ReprK.tuple ho hc hd hna hk
  | .dct [] [], _, _, r, ru, _, _, _ => by
    cases r with
    | @dct a0 kvs0 _ _ _ hx h1 h2 rr =>
      cases ru
      have hk0 : kvs0 = [] := List.map_eq_nil_iff.mp h1
      subst hk0
      obtain ⟨_, hsys, vs, kv, o, es, ep, ho, hex, hd, _, hp, _⟩ := dk_of I.hok (e _ _ hx)
      cases kv
      have hes : es.toList = [] := by
        cases hh : es.toList with
        | nil => rfl
        | cons x l => rw [hh] at hp; cases hp
      have r : Reads s.heap (.ref a0) (.dict []) _ := .dict ho hex.1 hd (by rw [hes]; exact ReadsAll.nil) (by rw [hes]; exact ReadsAll.nil)
      refine ⟨_, [a0], r, ReadAtMost.cons (n := 0) r (Nat.zero_le _) (fun _ h => nomatch h), ?_⟩
      simp only [py, PyData.depth, PyData.shown, PyData.shownKv_eq]
      exact ReprK.dict ho hex.1 hd hsys (fun h => nomatch h) (by rw [hes]; exact .nil)
  | .dct (_ :: _) _, _, _, _, _, h, _, _ => by simp [plainD] at h
  | .dct [] (_ :: _), _, _, _, _, h, _, _ => by simp [plainD] at h
  | .ty _, _, _, _, _, h, _, _ => by simp [plainD] at h
  | .scr _, _, _, _, _, h, _, _ => by simp [plainD] at h
  | .box _, _, _, _, _, h, _, _ => by simp [plainD] at h
  | .obj _ _ _, _, _, _, _, h, _, _ => by simp [plainD] at h
theorem rks_of (I : Inv X pins σ H s) (e : Ex G H) : ∀ (ds : List D) (vs : List V) (us : List Value), RpA X.K G vs ds → Vals vs us → plainA ds = true → PyData.showableAll (pyA ds) = true → (∀ t ∈ PyData.shownAll (pyA ds), t.length ≤ sizeLine) →
    ∃ as bs, ReadsAll s.heap us (pyA ds) as ∧ ReadAtMost s.heap (PyData.depthAll (pyA ds)) bs ∧ ReprAllK X.prog X.w bs s.heap (PyData.depthAll (pyA ds)) us (PyData.shownAll (pyA ds))
  | [], _, _, r, rv, _, _, _ => by
    cases r; cases rv
    exact ⟨_, [], ReadsAll.nil, (fun _ h => nomatch h), by simp only [pyA, PyData.shownAll]; exact .nil⟩
  | d :: ds, _, _, r, rv, hp, hs, hz => by
    cases r with
    | cons r1 r2 =>
      cases rv with
      | cons v1 v2 =>
        have hp' : plainD d = true ∧ plainA ds = true := by simpa [plainA] using hp
        have hs' : (py d).showable = true ∧ PyData.showableAll (pyA ds) = true := by simpa [pyA, PyData.showableAll] using hs
        obtain ⟨as1, b1, q1, hb1, k1⟩ := rk_of I e d _ _ r1 v1 hp'.1 hs'.1 (hz _ (by simp only [pyA, PyData.shownAll]; exact List.mem_cons_self ..))
        obtain ⟨as2, b2, q2, hb2, k2⟩ := rks_of I e ds _ _ r2 v2 hp'.2 hs'.2 (fun t ht => hz t (by simp only [pyA, PyData.shownAll]; exact List.mem_cons_of_mem _ ht))
        refine ⟨_, b1 ++ b2, ReadsAll.cons q1 q2, ?_, ?_⟩
        · intro b hm
          simp only [pyA, PyData.depthAll]
          rcases List.mem_append.mp hm with hm | hm
          · obtain ⟨d', as', r', hd'⟩ := hb1 b hm
            exact ⟨d', as', r', Nat.le_trans hd' (Nat.le_max_left _ _)⟩
          · obtain ⟨d', as', r', hd'⟩ := hb2 b hm
            exact ⟨d', as', r', Nat.le_trans hd' (Nat.le_max_right _ _)⟩
        · simp only [pyA, PyData.depthAll, PyData.shownAll]
          exact .cons ((k1.more fun b hb => List.mem_append_left _ hb).level_le (Nat.le_max_left _ _)) (k2.more_le (fun b hb => List.mem_append_right _ hb) (Nat.le_max_right _ _))
end
theorem py_lst {ds : List D} : (py (.lst ds)).depth = PyData.depthAll (pyA ds) + 1 ∧ (py (.lst ds)).shown = listText (PyData.shownAll (pyA ds)) := ⟨by simp only [py, PyData.depth], by simp only [py, PyData.shown]⟩
end
structure ShowsU (d : D) : Prop where
  plain : plainD d = true
  show1 : (py d).showable = true
  deep : (py d).depth ≤ 60
  size : (py d).shown.length ≤ sizeLine
def dReprU : WC := fun xs m Q => match xs with
  | [.lst ds] => ShowsU (.lst ds) ∧ Q (.str (py (.lst ds)).shown) m
  | _ => False
def rReprU (K : Fg) : List V → Hp → VK → Prop := fun xs H Q => ∃ a G ds, xs = [.ref a] ∧ Ex G H ∧ Rp K G (.ref a) (.lst ds) ∧ ShowsU (.lst ds) ∧ Q (.str (py (.lst ds)).shown) H
theorem call_reprU {X : Cx} (hc : X.A.guards = some []) (hu : X.A.units + 64 < cLine) : CallR X (.builtin "repr") (rReprU X.K) := by
  intro pins s σ H xs us Q I r h
  obtain ⟨a, G, ds, rfl, e, rp, S, q⟩ := h
  cases r with
  | cons r1 t =>
    cases t
    cases r1
    have hz := S.size
    have hdp := S.deep
    cases rp with
    | @lst a0 xs0 _ hx rr =>
      obtain ⟨its, rv, ⟨o, n, ho, hcl, _, hd⟩, _⟩ := I.list (SqL.of (e _ _ hx))
      have hz' : (listText (PyData.shownAll (pyA ds))).length ≤ sizeLine := by simpa only [py, PyData.shown] using hz
      obtain ⟨as, bs, hr, hb, hk⟩ := rks_of I e ds _ its rr rv (by simpa only [plainD] using S.plain) (by simpa only [py, PyData.showable] using S.show1) (fun t ht => Nat.le_trans (listText_mem_le ht) hz')
      have r : Reads s.heap (.ref a) (.list (pyA ds)) _ := .list ho hcl hd hr
      have hna : a ∉ bs := not_mem_of_deeper r (by simp only [PyData.depth]; omega) hb
      refine call_repr_slot (by omega) ⟨o, ho, hcl⟩ F.slot_list_repr.toG ?_
      simp only [py, PyData.depth] at hdp
      have fin : ∀ h' u tk, (∀ b o, s.heap.get? b = some o → h'.get? b = some o) → ∃ v H1, Inv X pins σ H1 { s with heap := h', toks := tk } ∧ RelV v (.str (listText (PyData.shownAll (pyA ds))) u) ∧ Q v H1 := fun h' u tk k => by
        have e2 : (py (.lst ds)).shown = listText (PyData.shownAll (pyA ds)) := py_lst.2
        rw [e2] at q
        exact ⟨.str _, H, I.kept k, ⟨u, rfl⟩, q⟩
      cases its with
      | nil =>
        have h4' : ReadsAll s.heap [] (pyA ds) _ := hr
        cases ds with
        | nil =>
          refine call_list_repr_empty ⟨o, ho, hcl⟩ ho hd ⟨_, _, rfl, ?_⟩
          have := fin s.heap s.toks (s.toks + 1) fun _ _ e => e
          simp only [pyA, PyData.shownAll, listText_nil] at this
          exact this
        | cons d ds => simp only [pyA] at h4'; cases h4'
      | cons x l =>
        exact call_list_reprK ho hcl hd hna (by simpa using hk.length_eq) (fun i y e => hk.item i y (by simpa using e)) hc (fun b _ => Clear.nil b) (by show X.A.units + 1 + (PyData.depthAll (pyA ds) + 1) < cLine; omega) (fun _ _ e => e) (fun h' u tk k => ⟨_, _, rfl, fin h' u tk k⟩) hz'
theorem b_reprU {P : Program} {w : World} {K : Fg} {mg : Str → Option Value} {base : Heap} {k : Nat} {N : List Str} {ι : Type} {X : ι → Cx} (hX : FamG P w K mg base k N X) : BiU K X (.builtin "repr") dReprU := by
  refine ⟨_, fun i => hX.K i ▸ call_reprU (hX.guards i) (by have := (hX.room i).un; omega), ?_⟩
  intro G m F H xs ds Q Qd hW r h hQ
  unfold dReprU at h
  split at h
  · obtain ⟨S, q⟩ := h
    cases r with
    | cons r1 t =>
      cases t
      have r2 := r1
      cases r1 with
      | lst hx rr => exact ⟨_, G, _, rfl, hW.ex, r2, S, hQ.here hW q (.str _)⟩
  · cases h
end DL
/-! XE: further rules at the level of data -/
namespace DL
open PySem L2 XO
open Evl (Ex)
section
variable {K : Fg} {W : Wx} {ι : Type} {X : ι → Cx} {pos : Pos} {a b c e : Expr} {es : List Expr} {wa wb wc w : WE} {wr : WA} {sts : List Stmt} {t : WS} {ua : WT}
/-! a built-in function under a name of the text -/
theorem pd_bg {mg : Str → Option Value} {x : Str} {p : Pos} {id : String} {w : WC} (hc : BiU K X (.builtin id) w) (hX : ∀ i, (X i).mg = mg) (hm : mg x = some (.builtin id)) (ha : PDA K W X (e :: es) wr) (hg : ∀ i, Gl (X i) x := by intro _; rfl)
    (he : ∀ i, starEach (e :: es) (X i).env = (false, eval e (X i).env) :: starEach es (X i).env := by intro _; rfl) (hpl : ∀ i, (backTo pos (starEach es (X i).env)).any (·.1) = false := by intro _; rfl) (hd : (x == ("__debug__" : Str)) = false := by decide) :
    PD K W X (.Call (.Name x p) (e :: es) [] pos) (wBi w wr) := by
  obtain ⟨r, c1, c2⟩ := hc
  obtain ⟨t, h1, h2⟩ := ha
  exact ⟨_, fun i => pe_callBfun (c1 i) (hg i) (by rw [hX i]; exact hm) (h1 i) hd (he i) (hpl i), lift_cb c2 h2⟩
abbrev dGcd : WC := dInt2 fun i j => ((Nat.gcd i.natAbs j.natAbs : Nat) : Int)
theorem b_gcd : BiU K X (.builtin "math.gcd") dGcd := ⟨_, fun _ => cr_gcd, lift_int2⟩
def dAbs : WC := fun xs m Q => match xs with
  | [.int i] => Q (.int (if i < 0 then -i else i)) m
  | _ => False
theorem b_abs : BiU K X (.builtin "abs") dAbs := by
  refine ⟨_, fun _ => call_abs, ?_⟩
  intro G m F H xs ds Q Qd hW r h hQ
  unfold dAbs at h
  split at h
  · cases r with
    | cons r1 t =>
      cases r1
      cases t
      exact ⟨_, rfl, hQ.here hW h (.int _)⟩
  · cases h
/-! isinstance(x, (c1, ..)) -/
/-- boxes too: they are lists -/
def typedM (m : Mem) : D → Bool
  | .box a => (m a).isSome
  | d => isTyped d
def isaL (x : D) : List String → Option Bool
  | [] => some false
  | n :: r => match isaB n x with
    | some true => some true
    | some false => isaL x r
    | none => none
theorem isaL_box {a : Addr} : ∀ ns, isaL (.box a) ns = isaL (.lst []) ns
  | [] => rfl
  | n :: r => by unfold isaL; rw [show isaB n (.box a) = isaB n (.lst []) from rfl, isaL_box r]
theorem kits {x : D} (hx : isTyped x = true) : ∀ {ns : List String} {b : Bool}, isaL x ns = some b → PySem.W.kitAny K (.type (tyD x)) (ns.map Value.type) = some b
  | [], _, h => by cases h; rfl
  | n :: r, b, h => by
    unfold isaL at h
    split at h
    · rename_i e
      cases h
      exact kitAny_cons (r := true) (kit_ty (kit_isa hx e)) (fun z => nomatch z) (fun _ => rfl)
    · rename_i e
      exact kitAny_cons (kit_ty (kit_isa hx e)) (fun _ => kits hx h) (fun z => nomatch z)
    · cases h
/-- isinstance(e, (c1, c2)) -/
def wIsiT (we : WE) (ns : List String) : WE := fun ρ m Q Qx => we ρ m (fun x m1 => typedM m1 x = true ∧ ∃ b, isaL x ns = some b ∧ Q (.bl b) m1) Qx
theorem tyM_of {G F H : Hp} {m : Mem} {v : V} {d : D} {ns : List String} {b : Bool} (hW : Wd K G m F H) (r : Rp K G v d) (ht : typedM m d = true) (h : isaL d ns = some b) : ∃ t, TyX K H v t ∧ PySem.W.kitAny K t (ns.map Value.type) = some b := by
  cases d with
  | box a =>
    cases r
    obtain ⟨ds, hm⟩ := Option.isSome_iff_exists.mp ht
    obtain ⟨_, _, xs, hx, _⟩ := hW.own a ds hm
    rw [isaL_box] at h
    exact ⟨_, .base (.lst hx), kits (x := .lst []) rfl h⟩
  | _ => exact ⟨_, ty_of hW.ex r (by exact ht), kits (by exact ht) h⟩
theorem pd_isiT2 {mg : Str → Option Value} {x1 x2 : Str} {n1 n2 : String} {p p1 p2 p3 : Pos} {kx : Nat} {we : WE} (hK : ∀ i, (X i).K = K) (hX : ∀ i, (X i).mg = mg) (hm : mg "isinstance" = none) (hi : bootBuiltins "isinstance" = some (.builtin "isinstance")) (m1 : mg x1 = none) (v1 : bootBuiltins x1 = some (.type n1)) (m2 : mg x2 = none) (v2 : bootBuiltins x2 = some (.type n2))
    (he : PD K W X e we) (hg : ∀ i, Gl (X i) "isinstance" := by intro _; rfl) (g1 : ∀ i, Gl (X i) x1 := by intro _; rfl) (g2 : ∀ i, Gl (X i) x2 := by intro _; rfl) (hn1 : x1 ≠ "__name__" := by decide) (hd1 : (x1 == ("__debug__" : Str)) = false := by decide) (hn2 : x2 ≠ "__name__" := by decide) (hd2 : (x2 == ("__debug__" : Str)) = false := by decide)
    (hs : ∀ i, starEach [e, .Tuple [.Name x1 p1, .Name x2 p2] kx p3] (X i).env = (false, eval e (X i).env) :: starEach [.Tuple [.Name x1 p1, .Name x2 p2] kx p3] (X i).env := by intro _; rfl)
    (hpl : ∀ i, (backTo pos (starEach [.Tuple [.Name x1 p1, .Name x2 p2] kx p3] (X i).env)).any (·.1) = false := by intro _; rfl) :
    PD K W X (.Call (.Name "isinstance" p) [e, .Tuple [.Name x1 p1, .Name x2 p2] kx p3] [] pos) (wIsiT we [n1, n2]) := by
  obtain ⟨t, h1, h2⟩ := he
  refine ⟨tCB (rIsiT K) (tCons t (tCons (tTup (tCons (tC (.ty n1)) (tCons (tC (.ty n2)) tNil))) tNil)), fun i => pe_callB (by have q := call_isiT (X := X i); rw [hK i] at q; exact q) (hg i) (by rw [hX i]; exact hm) hi
    (L2.pa_cons (h1 i) (L2.pa_cons (pe_tup (L2.pa_cons (pe_bltn (g1 i) (by rw [hX i]; exact m1) v1 rfl hn1 hd1) (L2.pa_cons (pe_bltn (g2 i) (by rw [hX i]; exact m2) v2 rfl hn2 hd2) L2.pa_nil))) L2.pa_nil) (hs i)) (by decide) (by decide) (hs i) (hpl i), ?_⟩
  intro G m F H σ ρ Q Qd Qx hW hE h hX hQ
  refine h2 G m F H σ ρ _ _ Qx hW hE h hX ?_
  intro d m1 x G1 H1 q e1 W1 r1
  obtain ⟨ht, b, hb, q⟩ := q
  refine ⟨by show 2 ≤ sizeLine; rw [sizeLine_eq]; decide, fun p hp => ?_⟩
  obtain ⟨e2, W2⟩ := W1.new hp (.tup [V.ty n1, V.ty n2])
  obtain ⟨t, ht2, hk⟩ := tyM_of W2 (r1.mono e2) ht hb
  exact ⟨x, p, _, t, _, b, rfl, upd_same, .cons (.ty n1) (.cons (.ty n2) .nil), ht2, hk, hQ _ _ _ _ _ q (e1.trans e2) W2 (.bl b)⟩
/-! what a variable holds, walked: a list or a tuple -/
def iVar (i : Nat) : WA := fun ρ m Q _ => match ρ[i]? with
  | some (some (.lst ds)) => Q ds m
  | some (some (.tup ds)) => Q ds m
  | some (some (.scr ns)) => Q (ns.map D.int) m
  | _ => False
theorem pi_or {Y : Cx} {tg iter : Expr} {t t' : TI} (h : PI Y tg iter t) (h' : PI Y tg iter t') : PI Y tg iter (fun σ H R => t σ H R ∨ t' σ H R) := by
  refine ⟨fun pins s σ H R I q => ?_⟩
  rcases q with q | q
  · exact h.run pins s σ H R I q
  · exact h'.run pins s σ H R I q
theorem pi_var (hK : ∀ i, (X i).K = K) (i : Nat) {N : List Str} {x : Str} (hX : ∀ j, (X j).N = N) (hN : N[i]? = some x := by rfl) (hv : ∀ j, Vis (X j).env.scope x := by intro _; first | exact Or.inl rfl | exact Or.inr (Or.inl rfl) | exact Or.inr (Or.inr rfl)) (hd : (x == ("__debug__" : Str)) = false := by decide) (hc : (x == ("__classdict__" : Str)) = false := by decide) {tg : Expr} : PDI K W X tg (.Name x pos) (iVar i) := by
  refine ⟨fun σ H R => iList K (tVar i) σ H R ∨ iTup K (tVar i) σ H R, fun j => ?_, ?_⟩
  · have pv : PE (X j) (.Name x pos) (tVar i) := pe_var (by rw [hX j]; exact hN) (hv j) hd hc
    have q := pi_or (pi_list (tg := tg) pv) (pi_tup (tg := tg) pv)
    rw [hK j] at q
    exact q
  · intro G m F H σ ρ R Qd Qx hW hE h hX hR
    unfold iVar at h
    split at h
    · rename_i ds e
      obtain ⟨v, h1, h2⟩ := hE.get e
      cases h2 with
      | lst hx rr => exact Or.inl ⟨_, h1, _, rfl, ⟨_, SqL.of (hW.ex _ _ hx)⟩, hR _ _ _ _ _ h (Ex.refl G) hW (dw_list hx rr)⟩
    · rename_i ds e
      obtain ⟨v, h1, h2⟩ := hE.get e
      cases h2 with
      | tup hx rr =>
        refine Or.inr ⟨_, h1, _, rfl, ⟨_, Evl.ex_t hW.ex hx⟩, hR _ _ _ _ _ h (Ex.refl G) hW ?_⟩
        refine ⟨_, _, rr.len ▸ walk_tup, fun G2 m F H e W => ⟨Evl.ex_t W.ex (Evl.ex_t e hx), ?_⟩⟩
        rintro i H' x d hd ⟨rfl, hx⟩
        obtain ⟨v, hv, rv⟩ := rr.at hd
        rw [hv] at hx
        cases hx
        exact ⟨G2, Ex.refl _, W, rv.mono e⟩
    · rename_i ns e
      obtain ⟨v, h1, h2⟩ := hE.get e
      cases h2 with
      | scr hx => exact Or.inl ⟨_, h1, _, rfl, ⟨_, Evl.ex_l hW.ex hx⟩, hR _ _ _ _ _ h (Ex.refl G) hW (dw_scr hx)⟩
    · cases h
/-! while -/
/-- a while of a measured state -/
def sWhile (c : WT) (body : WS) : WS := fun E ρ m => ∃ J : Nat → En0 → Mem → Prop, (∃ n, J n ρ m) ∧ ∀ n ρ m, J n ρ m → c ρ m (fun b m1 => if b = true then body { E with nx := fun ρ' m' => ∃ n', n' < n ∧ J n' ρ' m', ct := fun ρ' m' => ∃ n', n' < n ∧ J n' ρ' m', bk := E.nx } ρ m1 else E.nx ρ m1) E.ex
theorem ps_whileD (hp : ∀ i, PassesOwn (model (X i).prog (X i).w) (X i).A (X i).env (X i).xe) (hc : PDT K W X c ua) (hb : PDB K W X sts t) : PDS K W X (.While c sts [] pos) (sWhile ua t) := by
  obtain ⟨tc, c1, c2⟩ := hc
  obtain ⟨tb, b1, b2⟩ := hb
  refine ⟨_, fun i => ps_while (hp i) (c1 i) (b1 i), ?_⟩
  intro G m F H σ ρ S E hW hE ⟨J, ⟨n0, j0⟩, turn⟩ f
  refine ⟨fun n σ H => ∃ G' m' ρ', Ex G G' ∧ Wd K G' m' F H ∧ En K G' σ ρ' ∧ J n ρ' m', ⟨n0, G, m, ρ, Ex.refl G, hW, hE, j0⟩, ?_⟩
  rintro n σ H ⟨G1, m1, ρ1, e1, W1, E1, j1⟩
  refine c2 G1 m1 F H σ ρ1 _ _ E.ex W1 E1 (turn n ρ1 m1 j1) (f.ex.mono e1) ?_
  intro b m2 G2 H2 q e2 W2
  have e12 := e1.trans e2
  cases b with
  | true =>
    rw [if_pos rfl] at q
    refine ⟨fun σ' H' => ∃ m', m' < n ∧ ∃ G' mm ρ', Ex G G' ∧ Wd K G' mm F H' ∧ En K G' σ' ρ' ∧ J m' ρ' mm, fun _ _ h => h, ?_⟩
    refine b2 G2 m2 F H2 σ ρ1 _ _ W2 (E1.mono e2) q ⟨?_, (f.mono e12).rt, ?_, ?_, (f.mono e12).ex⟩
    · rintro ρ3 m3 σ3 G3 H3 ⟨n', hn, j⟩ e3 W3 E3
      exact ⟨n', hn, G3, m3, ρ3, e12.trans e3, W3, E3, j⟩
    · exact (f.mono e12).nx
    · rintro ρ3 m3 σ3 G3 H3 ⟨n', hn, j⟩ e3 W3 E3
      exact ⟨n', hn, G3, m3, ρ3, e12.trans e3, W3, E3, j⟩
  | false => exact f.nx ρ1 m2 σ G2 H2 q e12 W2 (E1.mono e2)
/-! a, b = e, f -/
def sPar (i j : Nat) (wr : WA) : WS := fun E ρ m => wr ρ m (fun ds m1 => ∃ d1 d2, ds = [d1, d2] ∧ E.nx ((ρ.set i (some d1)).set j (some d2)) m1) E.ex
theorem ps_parD (i j : Nat) {N : List Str} {x y : Str} {px py pt pt2 : Pos} {kt k2 : Nat} (hX : ∀ j, (X j).N = N) (hc : ∀ i, (X i).calm = true) (hN : N.Nodup) (h : PDA K W X [a, b] wr) (hij : i ≠ j := by decide) (hi : N[i]? = some x := by rfl) (hj : N[j]? = some y := by rfl)
    (hx : ∀ j, (X j).env.scope.names.lookup x = some .local := by intro _; rfl) (hy : ∀ j, (X j).env.scope.names.lookup y = some .local := by intro _; rfl)
    (hw : ∀ i, swappedStores [.Tuple [.Name x px, .Name y py] kt pt] (.Tuple [a, b] k2 pt2) (X i).env = pure (some [x, y]) := by intro _; rfl)
    (hs : ∀ i, swapsWithSole [.Tuple [.Name x px, .Name y py] kt pt] (.Tuple [a, b] k2 pt2) pos.line (X i).env = pure false := by intro _; rfl) :
    PDS K W X (.Assign [.Tuple [.Name x px, .Name y py] kt pt] (.Tuple [a, b] k2 pt2) pos) (sPar i j wr) := by
  obtain ⟨t, a1, a2⟩ := h
  refine ⟨_, fun l => ps_par (i := i) (j := j) (hc l) (by rw [hX l]; exact hN) (by rw [hX l]; exact hi) (by rw [hX l]; exact hj) hij (hx l) (hy l) (a1 l) (hw l) (hs l), ?_⟩
  intro G m F H σ ρ S E hW hE h f
  refine a2 G m F H σ ρ _ _ E.ex hW hE h f.ex ?_
  rintro ds m1 vs G1 H1 ⟨d1, d2, rfl, q⟩ e1 W1 r1
  cases r1 with
  | cons r1 t =>
    cases t with
    | cons r2 t =>
      cases t
      exact ⟨_, _, rfl, f.nx _ m1 _ G1 H1 q e1 W1 (((hE.mono e1).put r1 i).put r2 j)⟩
end
end DL
/-! XF: zip, append, boxes compared, calls that borrow boxes -/
namespace DL
open PySem L2 XO RZ
open Evl (Ex)
section
variable {K : Fg} {W : Wx} {ι : Type} {X : ι → Cx} {pos : Pos} {a b c e : Expr} {es : List Expr} {wa wb wc w : WE} {wr : WA} {sts : List Stmt} {t : WS} {ua : WT}
def zipD (xs ys : List D) : List D := (xs.zip ys).map fun p => .tup [p.1, p.2]
def iZipD (wr : WA) : WA := fun ρ m Q Qx => wr ρ m (fun ds m1 => match ds with
  | [.lst xs, .lst ys] => Q (zipD xs ys) m1
  | [.tup xs, .tup ys] => Q (zipD xs ys) m1
  | _ => False) Qx
theorem walk_zipT {K : Fg} {a b : Addr} {xs ys : List V} {n : Nat} (hn : n = min xs.length ys.length) : Walk (ItzT K a b) n (fun H => SqT K H a xs ∧ SqT K H b ys) (YPair (fun i => xs[i]?) (fun i => ys[i]?)) where
  goes := by
    rintro i H hi ⟨qa, qb⟩
    have la : i < xs.length := Nat.lt_of_lt_of_le (hn ▸ hi) (Nat.min_le_left _ _)
    have lb : i < ys.length := Nat.lt_of_lt_of_le (hn ▸ hi) (Nat.min_le_right _ _)
    exact ⟨xs, ys, _, _, qa, qb, List.getElem?_eq_getElem la, List.getElem?_eq_getElem lb⟩
  stops := by
    rintro H ⟨qa, qb⟩
    refine ⟨xs, ys, qa, qb, ?_⟩
    rcases Nat.le_total xs.length ys.length with c | c
    · exact Or.inl (by rw [hn, Nat.min_eq_left c]; exact Nat.le_refl _)
    · exact Or.inr (by rw [hn, Nat.min_eq_right c]; exact Nat.le_refl _)
  yields := by
    rintro i H v H' hi ⟨qa, qb⟩ ⟨T, u, u', ev, fresh, eH, ku, ku'⟩
    exact ⟨T, u, u', ev, fresh, eH, ku xs qa, ku' ys qb⟩
theorem zip_turn {G : Hp} {xs ys : List V} {ds es : List D} (r1 : RpA K G xs ds) (r2 : RpA K G ys es) {G2 : Hp} {m : Mem} {F H : Hp} (e : Ex G G2) (hW : Wd K G2 m F H) :
    ∀ i H' x d, (zipD ds es)[i]? = some d → YPair (fun i => xs[i]?) (fun i => ys[i]?) i H x H' → ∃ G', Ex G2 G' ∧ Wd K G' m F H' ∧ Rp K G' x d := by
  rintro i H' x d hd ⟨T, u, v, rfl, hT, rfl, hu, hv⟩
  unfold zipD at hd
  rw [List.getElem?_map] at hd
  cases hz : (ds.zip es)[i]? with
  | none => rw [hz] at hd; cases hd
  | some p =>
    rw [hz] at hd
    cases hd
    obtain ⟨h1, h2⟩ := List.getElem?_zip_eq_some.mp hz
    obtain ⟨u', hu', ru⟩ := r1.at h1
    obtain ⟨v', hv', rv⟩ := r2.at h2
    have hu : xs[i]? = some u := hu
    have hv : ys[i]? = some v := hv
    rw [hu] at hu'; cases hu'
    rw [hv] at hv'; cases hv'
    obtain ⟨e2, W2⟩ := hW.new hT (.tup [u, v])
    exact ⟨_, e2, W2, .tup (SqT.of upd_same) (.cons (ru.mono (e.trans e2)) (.cons (rv.mono (e.trans e2)) .nil))⟩
theorem zip_len {xs ys : List V} {ds es : List D} {G : Hp} (r1 : RpA K G xs ds) (r2 : RpA K G ys es) : (zipD ds es).length = min xs.length ys.length := by
  unfold zipD
  rw [List.length_map, List.length_zip, r1.len, r2.len]
theorem pi_zipD {mg : Str → Option Value} {p tpos : Pos} {elts : List Expr} {kk : Nat} (hK : ∀ i, (X i).K = K) (hX : ∀ i, (X i).mg = mg) (hm : mg "zip" = none) (ha : PDA K W X [a, b] wr) (hg : ∀ i, Gl (X i) "zip" := by intro _; rfl)
    (hs : ∀ i, starEach [a, b] (X i).env = (false, eval a (X i).env) :: starEach [b] (X i).env := by intro _; rfl) (hpl : ∀ i, (backTo pos (starEach [b] (X i).env)).any (·.1) = false := by intro _; rfl) :
    PDI K W X (.Tuple elts kk tpos) (.Call (.Name "zip" p) [a, b] [] pos) (iZipD wr) := by
  obtain ⟨t, h1, h2⟩ := ha
  refine ⟨iZipA K t, fun i => hK i ▸ pi_zipA (hg i) (by rw [hX i]; exact hm) (h1 i) (hs i) (hpl i), ?_⟩
  intro G m F H σ ρ R Qd Qx hW hE h hX hR
  refine h2 G m F H σ ρ _ _ Qx hW hE h hX ?_
  intro ds m1 vs G1 H1 q e1 W1 r1
  split at q
  · rename_i ds es
    cases r1 with
    | cons r1 t =>
      cases t with
      | cons r2 t =>
        cases t
        cases r1 with
        | lst hx rx =>
          cases r2 with
          | lst hy ry =>
            refine ⟨_, _, _, _, rfl, Or.inl ⟨SqL.of (W1.ex _ _ hx), SqL.of (W1.ex _ _ hy), hR _ _ _ _ _ q e1 W1 ?_⟩⟩
            exact ⟨_, _, walk_zip (zip_len rx ry), fun G2 m F H e W => ⟨⟨SqL.of (W.ex _ _ (e _ _ hx)), SqL.of (W.ex _ _ (e _ _ hy))⟩, zip_turn (G := G1) rx ry e W⟩⟩
  · rename_i ds es
    cases r1 with
    | cons r1 t =>
      cases t with
      | cons r2 t =>
        cases t
        cases r1 with
        | tup hx rx =>
          cases r2 with
          | tup hy ry =>
            refine ⟨_, _, _, _, rfl, Or.inr ⟨Evl.ex_t W1.ex hx, Evl.ex_t W1.ex hy, hR _ _ _ _ _ q e1 W1 ?_⟩⟩
            exact ⟨_, _, walk_zipT (zip_len rx ry), fun G2 m F H e W => ⟨⟨Evl.ex_t W.ex (Evl.ex_t e hx), Evl.ex_t W.ex (Evl.ex_t e hy)⟩, zip_turn (G := G1) rx ry e W⟩⟩
  · cases q
/-! xs.append(e), xs a box -/
def sAppend (o : WE) (wr : WA) : WS := fun E ρ m => o ρ m (fun x m1 => match x with
  | .box p => (m1 p).isSome = true ∧ wr ρ m1 (fun ds m2 => ∃ d xs, ds = [d] ∧ m2 p = some xs ∧ xs.length < sizeLine ∧ E.nx ρ (m2.up p (xs ++ [d]))) E.ex
  | _ => False) E.ex
theorem ps_appendD {o : Expr} {wo : WE} {apos cpos : Pos} (hK : ∀ i, (X i).K = K) (ho : PD K W X o wo) (ha : PDA K W X [e] wr)
    (hbase : ∀ i, attributeBase o "append" (X i).env (eval o (X i).env) = eval o (X i).env := by intro _; rfl)
    (hfew : ∀ i, ((backTo cpos (starEach [e] (X i).env)).all (fun x => !x.1) && (backToKw cpos (keywordEach [] (X i).env)).all (fun x => x.1.isSome)
      && decide ([e].length + ([] : List Keyword).length + (if ([] : List Keyword).isEmpty then 0 else 1) < 30)) = true := by intro _; rfl)
    (hline : (apos.endLine == cpos.line) = true := by rfl) (hs : ∀ i, starEach [e] (X i).env = (false, eval e (X i).env) :: starEach [] (X i).env := by intro _; rfl) (hplain : ∀ i, (backTo cpos (starEach [] (X i).env)).any (·.1) = false := by intro _; rfl)
    (hsw : ∀ i, swapsWith (.Call (.Attribute o "append" apos) [e] [] cpos) none pos.line (X i).env = pure false := by intro _; rfl) :
    PDS K W X (.Expr (.Call (.Attribute o "append" apos) [e] [] cpos) pos) (sAppend wo wr) := by
  obtain ⟨to, o1, o2⟩ := ho
  obtain ⟨ta, a1, a2⟩ := ha
  refine ⟨_, fun i => L2.ps_expr (te := tBM K "list" rAppend to ta) (by have q := pe_bm PySem.F.plainAttrs_list PySem.F.slot_list_append PySem.F.type_list_append (mt_append (X := X i)) (o1 i) (a1 i) (hbase i) (hfew i) hline (hs i) (hplain i); rw [hK i] at q; exact q) (hsw i), ?_⟩
  intro G m F H σ ρ S E hW hE h f
  refine o2 G m F H σ ρ _ _ E.ex hW hE h f.ex ?_
  intro x m1 xv G1 H1 q1 e1 W1 r1
  cases r1 <;> first | exact (show False from q1).elim | skip
  rename_i p
  obtain ⟨hp, q1⟩ := q1
  obtain ⟨ds0, hp⟩ := Option.isSome_iff_exists.mp hp
  obtain ⟨_, _, xs0, hx0, _⟩ := W1.own p ds0 hp
  refine ⟨Or.inl ⟨rfl, _, SqL.of hx0⟩, ?_⟩
  refine a2 G1 m1 F H1 σ ρ _ _ E.ex W1 (hE.mono e1) q1 (f.ex.mono e1) ?_
  rintro ds m2 vs G2 H2 ⟨d, xs, rfl, hm, hl, q2⟩ e2 W2 r2
  cases r2 with
  | cons r2 t =>
    cases t
    obtain ⟨_, _, ys, hy, ry⟩ := W2.own p xs hm
    refine ⟨p, ys, _, rfl, rfl, hy, by rw [ry.len]; exact hl, ?_⟩
    exact f.nx ρ _ σ G2 _ q2 (e1.trans e2) (W2.put hm (ry.app (.cons r2 .nil))) (hE.mono (e1.trans e2))
/-! data with its boxes looked up -/
mutual
def res (m : Mem) : D → D
  | .box a => match m a with
    | some ds => .lst ds
    | none => .box a
  | .lst ds => .lst (resA m ds)
  | .tup ds => .tup (resA m ds)
  | .dct ks ds => .dct ks (resA m ds)
  | .obj n ks ds => .obj n ks (resA m ds)
  | .non => .non | .bl b => .bl b | .int i => .int i | .str x => .str x | .ty n => .ty n | .scr ns => .scr ns
def resA (m : Mem) : List D → List D
  | [] => []
  | d :: ds => res m d :: resA m ds
end
/-- G2: what is good, the boxes of m among it -/
structure Adopt (K : Fg) (G : Hp) (m : Mem) (G2 : Hp) : Prop where
  ex : Ex G G2
  box : ∀ a ds, m a = some ds → ∃ xs, G2 a = some (.lst xs) ∧ RpA K G xs ds
mutual
theorem rp_res {G G2 : Hp} {m : Mem} (A : Adopt K G m G2) : ∀ {v : V} {d : D}, Rp K G v d → Rp K G2 v (res m d)
  | _, _, .non => by simp only [res]; exact .non
  | _, _, .bl b => by simp only [res]; exact .bl b
  | _, _, .int i => by simp only [res]; exact .int i
  | _, _, .str x => by simp only [res]; exact .str x
  | _, _, .ty n => by simp only [res]; exact .ty n
  | _, _, .scr h => by simp only [res]; exact .scr (Evl.ex_l A.ex h)
  | _, _, .lst h r => by simp only [res]; exact .lst (A.ex _ _ h) (rps_res A r)
  | _, _, .tup h r => by simp only [res]; exact .tup (Evl.ex_t A.ex h) (rps_res A r)
  | _, _, .dct h a b r => by simp only [res]; exact .dct (A.ex _ _ h) a b (rps_res A r)
  | _, _, .obj k h a b r => by simp only [res]; exact .obj k (A.ex _ _ h) a b (rps_res A r)
  | _, _, .box a => by
    unfold res
    split
    · rename_i ds hm
      obtain ⟨xs, hx, rr⟩ := A.box a ds hm
      exact .lst hx (rr.mono A.ex)
    · exact .box a
theorem rps_res {G G2 : Hp} {m : Mem} (A : Adopt K G m G2) : ∀ {vs : List V} {ds : List D}, RpA K G vs ds → RpA K G2 vs (resA m ds)
  | _, _, .nil => by simp only [resA]; exact .nil
  | _, _, .cons r t => by simp only [resA]; exact .cons (rp_res A r) (rps_res A t)
end
theorem Wd.adoptH {G F H : Hp} {m : Mem} (W : Wd K G m F H) : Adopt K G m H := ⟨W.ex, fun a ds h => by
  obtain ⟨_, _, xs, hx, rr⟩ := W.own a ds h
  exact ⟨xs, hx, rr⟩⟩
def dEqM : WR := fun x y m Q => SeqAt.shaped (py (res m x)) = true ∧ SeqAt.shaped (py (res m y)) = true ∧ Q (.bl (PyData.eqv (py (res m x)) (py (res m y)))) m
def dNeM : WR := fun x y m Q => SeqAt.shaped (py (res m x)) = true ∧ SeqAt.shaped (py (res m y)) = true ∧ Q (.bl (!PyData.eqv (py (res m x)) (py (res m y)))) m
theorem c_eqM {P : Program} {wo : World} {mg : Str → Option Value} {base : Heap} {k : Nat} {N : List Str} (hX : Fam P wo K mg base k N X) : CmpU K X .Eq dEqM := by
  refine ⟨rEqD K, fun i => hX.K i ▸ op_eqD (by have := (hX.room i).un; omega), ?_⟩
  rintro G m F H x y dx dy Q Qd hW rx ry ⟨h1, h2, q⟩ hQ
  exact ⟨_, _, dp_of (Ex.refl H) _ (rp_res hW.adoptH rx) (shaped_lay h1), dp_of (Ex.refl H) _ (rp_res hW.adoptH ry) (shaped_lay h2), h1, h2, hQ.here hW q (.bl _)⟩
theorem c_neM {P : Program} {wo : World} {mg : Str → Option Value} {base : Heap} {k : Nat} {N : List Str} (hX : Fam P wo K mg base k N X) : CmpU K X .NotEq dNeM := by
  refine ⟨rNeD K, fun i => hX.K i ▸ op_neD (by have := (hX.room i).un; omega), ?_⟩
  rintro G m F H x y dx dy Q Qd hW rx ry ⟨h1, h2, q⟩ hQ
  exact ⟨_, _, dp_of (Ex.refl H) _ (rp_res hW.adoptH rx) (shaped_lay h1), dp_of (Ex.refl H) _ (rp_res hW.adoptH ry) (shaped_lay h2), h1, h2, hQ.here hW q (.bl _)⟩
/-! calls that borrow the boxes: what comes back is flat -/
theorem rp_flat {G G2 : Hp} {v : V} {d : D} (h : flatD d = true) (r : Rp K G v d) : Rp K G2 v d := by
  cases r <;> first | exact .non | exact .bl _ | exact .int _ | exact .str _ | exact nomatch h
/-- G with the boxes of m -/
def withBoxes (m : Mem) (G H : Hp) : Hp := fun a => if (m a).isSome = true then H a else G a
/-- G without the boxes of m -/
def noBoxes (m : Mem) (G : Hp) : Hp := fun a => if (m a).isSome = true then none else G a
theorem Wd.lend {G F H : Hp} {m : Mem} (W : Wd K G m F H) : Adopt K G m (withBoxes m G H) ∧ Wd K (withBoxes m G H) (fun _ => none) F H := by
  have ex : Ex G (withBoxes m G H) := by
    intro a o h
    unfold withBoxes
    by_cases c : (m a).isSome = true
    · obtain ⟨ds, hm⟩ := Option.isSome_iff_exists.mp c
      rw [(W.own a ds hm).1] at h; cases h
    · rw [if_neg c]; exact h
  refine ⟨⟨ex, fun a ds h => ?_⟩, ⟨?_, fun _ _ z => (nomatch z), W.fr, ?_⟩⟩
  · obtain ⟨_, _, xs, hx, rr⟩ := W.own a ds h
    exact ⟨xs, by unfold withBoxes; rw [if_pos (by rw [h]; rfl)]; exact hx, rr⟩
  · intro a o h
    unfold withBoxes at h
    by_cases c : (m a).isSome = true
    · rw [if_pos c] at h; exact h
    · rw [if_neg c] at h; exact W.ex _ _ h
  · intro a o h
    unfold withBoxes
    by_cases c : (m a).isSome = true
    · obtain ⟨ds, hm⟩ := Option.isSome_iff_exists.mp c
      rw [(W.own a ds hm).2.1] at h; cases h
    · rw [if_neg c]; exact W.frG _ _ h
theorem Wd.back {G F H G2 H2 : Hp} {m m2 : Mem} (W : Wd K G m F H) (e : Ex (withBoxes m G H) G2) (W2 : Wd K G2 m2 F H2) : Ex G (noBoxes m G2) ∧ Wd K (noBoxes m G2) m F H2 := by
  have ex : Ex G (noBoxes m G2) := by
    intro a o h
    unfold noBoxes
    by_cases c : (m a).isSome = true
    · obtain ⟨ds, hm⟩ := Option.isSome_iff_exists.mp c
      rw [(W.own a ds hm).1] at h; cases h
    · rw [if_neg c]
      exact e _ _ (W.lend.1.ex _ _ h)
  refine ⟨ex, ⟨?_, ?_, W2.fr, ?_⟩⟩
  · intro a o h
    unfold noBoxes at h
    by_cases c : (m a).isSome = true
    · rw [if_pos c] at h; cases h
    · rw [if_neg c] at h; exact W2.ex _ _ h
  · intro a ds h
    obtain ⟨_, hF, xs, hx, rr⟩ := W.own a ds h
    refine ⟨by unfold noBoxes; rw [if_pos (by rw [h]; rfl)], hF, xs, W2.ex _ _ (e _ _ ?_), rr.mono ex⟩
    unfold withBoxes; rw [if_pos (by rw [h]; rfl)]; exact hx
  · intro a o h
    unfold noBoxes
    by_cases c : (m a).isSome = true
    · rw [if_pos c]
    · rw [if_neg c]; exact W2.frG _ _ h
theorem Wd.backX {G F H G2 : Hp} {m : Mem} {x : Xn} {d : Option Addr} (W : Wd K G m F H) (e : Ex (withBoxes m G H) G2) (hf : flatD x.val = true) (r : Xr K G2 x d) : Xr K (noBoxes m G2) x d := by
  obtain ⟨dd, v, h1, h2, h3⟩ := r
  refine ⟨dd, v, h1, ?_, rp_flat hf h3⟩
  unfold noBoxes
  by_cases c : (m dd).isSome = true
  · obtain ⟨ds, hm⟩ := Option.isSome_iff_exists.mp c
    obtain ⟨_, _, xs, hx, _⟩ := W.own dd ds hm
    have : G2 dd = some (.lst xs) := e _ _ (by unfold withBoxes; rw [if_pos c]; exact hx)
    rw [this] at h2; cases h2
  · rw [if_neg c]; exact h2
/-- a promise, the boxes lent or not -/
def lent (fn : DFn) : DFn := fun ds m Q Qx => fn ds m Q Qx ∨ fn (resA m ds) (fun _ => none) (fun d _ => flatD d = true ∧ Q d m) (fun x _ => flatD x.val = true ∧ Qx x m)
theorem spD_lent {mg : Str → Option Value} {fn : DFn} {vs : List V} {H : Hp} {Q : VK} {E : XK} (h : spD K mg (lent fn) vs H Q E) : spD K mg fn vs H Q E := by
  obtain ⟨G, m, F, ds, Qd, Qx, W, r, h, hQ, hX⟩ := h
  rcases h with h | h
  · exact ⟨G, m, F, ds, Qd, Qx, W, r, h, hQ, hX⟩
  · obtain ⟨A, W1⟩ := W.lend
    refine ⟨_, _, F, _, _, _, W1, rps_res A r, h, ?_, ?_⟩
    · rintro d m' v G' H' ⟨hf, q⟩ e W' rv
      obtain ⟨e2, W2⟩ := W.back e W'
      exact hQ d m v _ H' q e2 W2 (rp_flat hf rv)
    · rintro x m' cls d G' H' ⟨hf, q⟩ hm e W' rx
      obtain ⟨e2, W2⟩ := W.back e W'
      exact hX x m cls d _ H' q hm e2 W2 (W.backX e hf rx)
theorem FnG.lent {P : Program} {w : World} {mg : Str → Option Value} {base : Heap} {CX : CXT} {k : Nat} {f : Addr} {fd : FuncData} {ps : List Str} {fn : DFn} (Fn : FnG P w K mg base CX k f fd ps (spD K mg fn)) : FnG P w K mg base CX k f fd ps (spD K mg (lent fn)) :=
  ⟨fun vs H Q E h => Fn.size vs H Q E (spD_lent h), fun A oe s H ar us vs Q E hg hr e0 hb r h => Fn.runs A oe s H ar us vs Q E hg hr e0 hb r (spD_lent h)⟩
theorem Has.lent {P : Program} {w : World} {mg : Str → Option Value} {base : Heap} {j : Nat} {x : Str} {ps : List Str} {fn : DFn} (h : Has P w K mg base j x ps fn) : Has P w K mg base j x ps (DL.lent fn) := by
  obtain ⟨f, fd, Fn, r⟩ := h
  exact ⟨f, fd, Fn.lent, r⟩
theorem HasX.lent {P : Program} {w : World} {mg : Str → Option Value} {base : Heap} {j : Nat} {x : Str} {ps : List Str} {fn : DFn} (h : HasX P w K mg base j x ps fn) : HasX P w K mg base j x ps (DL.lent fn) := by
  obtain ⟨f, fd, Fn, r⟩ := h
  exact ⟨f, fd, Fn.lent, r⟩
end
end DL
/-! XG: the facts of an exception class, one by one -/
namespace DL
open PySem L2 XO PySem.HandSPX PySem.Calls PyProof.Rows
theorem exm_self {K : Fg} {S : Addr} (h1 : PySem.W.subIn K (.ref S) (.type "BaseException") = some true) (h2 : PySem.W.isClsIn K S = true) (h3 : PySem.W.typeIn K (.ref S) = some (.type "type")) (h4 : PySem.W.subIn K (.ref S) (.ref S) = some true) : PySem.W.exmOne K (.ref S) (.ref S) = some true := by
  unfold PySem.W.exmOne PySem.W.kitCls
  rw [if_pos (by rw [h1]; rfl)]
  show (if ((PySem.W.clsIn K S).isSome && PySem.W.typeIn K (.ref S) == some (.type "type")) = true then PySem.W.subIn K (.ref S) (.ref S) else none) = some true
  rw [if_pos (by rw [show (PySem.W.clsIn K S).isSome = true from h2, h3]; rfl)]
  exact h4
theorem xc_mk {P : Program} {K : Fg} {mg : Str → Option Value} {h : Heap} (X : K.In h) (G : h.Ns mainGlobals mg) {n fld : Str} {B newId initId : String} {bmB : List Value} (D : Base B newId initId bmB) (bind : BindOk fld)
  (names : (fld == ("self" : Str)) = false ∧ (fld == ("__debug__" : Str)) = false ∧ (("self" : Str) == fld) = false ∧ (("super" : Str) == fld) = false ∧ (("__class__" : Str) == fld) = false)
  {C fI : Addr} (a1 : PySem.W.nsIn K mainGlobals n = some (some (.ref C))) (a2 : PySem.W.findIn K (.ref C) "__init__" = some (some (.ref fI)))
  {nm q : Str} {N : Addr} {bs bm : List Value} {sn : List Str} {sub : List Value} {ab : Bool} {col : Option Bool} {dd : Option Addr} {k0 k1 k2 k3 k5 : Option Value}
  (b1 : K.lookup C = some (excClassObj nm q C N bs bm true sn sub ab col dd k0 k1 k2 k3 k5 newId)) (b2 : PySem.W.excTail bmB bm = true)
  (b3 : PySem.W.findIn K (.ref C) "__setattr__" = some (some (.builtin "object.__setattr__"))) (b4 : PySem.W.findIn K (.ref C) "__getattribute__" = some (some (.builtin "BaseException.__getattribute__"))) (b5 : PySem.W.findIn K (.ref C) "__getattr__" = some none) (b6 : PySem.W.findIn K (.ref C) fld = some none)
  (b7 : PySem.W.typeIn K (.ref fI) = some (.type "function")) (b8 : PySem.W.keepIn K (.ref C) = true) (b9 : PySem.W.subIn K (.ref C) (.type "BaseException") = some true) (c1 : PySem.W.typeIn K (.ref C) = some (.type "type")) (c2 : PySem.W.hasDictIn K C = true)
  (c3 : PySem.W.subIn K (.ref C) (.type B) = some true) (c4 : PySem.W.mroIn K C (.ref C) = some true) (c5 : PySem.W.nsIn K cStatics "thirdparty.any" = some none) (c6 : PySem.W.ks_superIn K C C "__init__" = some (some (.builtin initId)))
  (c7 : PySem.W.isClsIn K C = true) (c8 : PySem.W.subIn K (.ref C) (.ref C) = some true)
  {oc : Value} {od : Option Addr} {qual : Str} {doc pm : Value} {an : Option Addr} {cda cc : Addr} {ct : Value} {osl : Array (Option Value)} {msg : Str} {j : Nat} {p1 p2 d1 d2 d3 d4 d5 d6 q1 q2 q3 q4 : Pos}
  (e1 : K.lookup fI = some ⟨oc, od, .func (PySem.W.ksFn "__init__" qual (iA fld p1 p2) (iB fld msg j d1 d2 d3 d4 d5 d6 q1 q2 q3 q4) (iS fld) .none .none doc pm an (.ref cda) ct cc), osl⟩) (e2 : PySem.W.codeIn K (.ref cda) qual = true)
  {cl : Value} {cld : Option Addr} {csl : Array (Option Value)} (e3 : K.lookup cc = some ⟨cl, cld, .cell (some (.ref C)), csl⟩) {ccl : Value} {cdd : Option Addr} {vs : Array Value} {ccs : Array (Option Value)} {file : Str} {tf : Tok} (e4 : K.lookup cda = some ⟨ccl, cdd, .fields vs, ccs⟩) (e5 : vs[2]? = some (.str file tf)) (e6 : (P.main.file == file) = true) (e7 : (d3.endLine == d5.line) = true) :
  XC P K mg n fld :=
  ⟨C, fI, B, newId, initId, bmB, D, { cls := ⟨_, _, _, _, _, _, _, _, _, _, _, _, _, _, _, b1, b2⟩, sa := b3, ga := b4, gg := b5, noN := b6, iC := a2, tC := b7, kC := b8, exC := b9, tyC := c1, hdC := c2, subB := c3, mroC := c4, statics := c5, along := c6, fn := ⟨_, _, _, _, _, _, _, _, _, _, _, _, _, _, _, _, _, _, _, _, _, _, _, _, e1, e2, ⟨_, _, _, e3⟩, _, _, _, _, _, _, e4, e5, e6, e7⟩, bind := bind, names := names }, PySem.W.mg_of X G a1, exm_self b9 c7 c1 c8⟩
theorem nox_takes {ι : Type} {Y : ι → Cx} {mg : Str → Option Value} : ∀ i, Takes (Y i) (toWX mg fun _ _ _ _ => False) := by
  rintro i u s' ⟨a, B, sI, pins, σ, H, cls, d, e, I, nb, up, sky, na, os, ag, n, hm, q⟩
  exact q.elim
/-! f() -/
def wCall0 (fn : DFn) : WE := fun ρ m Q Qx => fn [] m Q (fun _ _ => False)
theorem pd_own_call0 {P : Program} {w : World} {K : Fg} {mg : Str → Option Value} {base : Heap} {k : Nat} {N : List Str} {W : Wx} {ι : Type} {X : ι → Cx} {pos : Pos} {fn : DFn} {j : Nat} {x : Str} {p : Pos} (hX : FamG P w K mg base k N X) (h : Has P w K mg base j x [] fn) (hj : j ≤ k := by decide) (hg : ∀ i, Gl (X i) x := by intro _; rfl) (hd : (x == ("__debug__" : Str)) = false := by decide) :
    PD K W X (.Call (.Name x p) [] [] pos) (wCall0 fn) := by
  obtain ⟨f, fd, Fn, hm, hk, hb⟩ := h
  refine ⟨fun σ H Q => spD K mg fn ([] ++ []) H Q E0, fun i => ⟨fun pins s σ H Q I h => ?_⟩, ?_⟩
  · have hmi : (X i).mg x = some (.ref f) := by rw [hX.mg i]; exact hm
    have Fi : FnG (X i).prog (X i).w (X i).K (X i).mg (X i).base CX0 j f fd [] (spD K mg fn) := by rw [hX.prog i, hX.w i, hX.K i, hX.mg i, hX.base i]; exact Fn
    refine wpAny_Call_Name_kw (ld_glob I (hg i) hmi ?_ hd)
    refine PySem.W.callWith_K0 (I.kIn) (by rw [hX.K i]; exact hk) ?_
    exact Fi.goes (hX.guards i) ((hX.room i).mono hj) (by rw [hX.K i]; exact hb) .nil pass0 I .nil h
  · intro G m F H σ ρ Q Qd Qx hW hE h hXx hQ
    exact ⟨G, m, F, [], Qd, fun _ _ => False, hW, .nil, h, hQ, fun _ _ _ _ _ _ z => z.elim⟩
end DL
/-! XI: objects as data: attributes, properties, methods, isinstance -/
namespace DL
open PySem L2 XO
open Evl (Ex)
/-- the class n of the text -/
structure Kl (K : Fg) (mg : Str → Option Value) (n : Str) (C : Addr) : Prop where
  own : PySem.W.nsIn K mainGlobals n = some (some (.ref C))
  mg : mg n = some (.ref C)
  cls : Cls K C
theorem rp_lookup {K : Fg} {G : Hp} {f : Str} {d : D} : ∀ {fs : List (Str × V)} {ds : List D}, RpA K G (fs.map (·.2)) ds → ((fs.map (·.1)).zip ds).lookup f = some d → ∃ v, fs.lookup f = some v ∧ Rp K G v d
  | [], _, r, h => by
    cases r
    cases h
  | (k, v) :: fs, _, r, h => by
    cases r with
    | cons r t =>
      rename_i d0 ds0
      have h : List.lookup f ((k, d0) :: ((fs.map (·.1)).zip ds0)) = some d := h
      rw [List.lookup_cons] at h ⊢
      cases e : (f == k) with
      | true =>
        rw [e] at h
        cases h
        exact ⟨v, rfl, r⟩
      | false =>
        rw [e] at h
        exact rp_lookup t h
section
variable {P : Program} {w : World} {K : Fg} {mg : Str → Option Value} {base : Heap} {k : Nat} {N : List Str} {W : Wx} {ι : Type} {X : ι → Cx} {pos : Pos} {a b c e : Expr} {es : List Expr} {wa wb wc we : WE} {wr : WA} {sts : List Stmt} {t : WS} {ua : WT}
/-! e.f -/
def wFld (n f : Str) (we : WE) : WE := fun ρ m Q Qx => we ρ m (fun x m1 => match x with
  | .obj n' ks ds => n' = n ∧ ∃ d, (ks.zip ds).lookup f = some d ∧ Q d m1
  | _ => False) Qx
theorem pd_fld {n f : Str} {C : Addr} (hK : ∀ i, (X i).K = K) (c : Kl K mg n C) (nf : NoAttr K C f) (he : PD K W X e we) (hb : ∀ i, attributeBase e f (X i).env (eval e (X i).env) = eval e (X i).env := by intro _; rfl) : PD K W X (.Attribute e f pos) (wFld n f we) := by
  obtain ⟨te, h1, h2⟩ := he
  refine ⟨tFld K te f, fun i => by have q := pe_fld (pos := pos) (h1 i) (hb i); rw [hK i] at q; exact q, ?_⟩
  intro G m F H σ ρ Q Qd Qx hW hE h hX hQ
  refine h2 G m F H σ ρ _ _ Qx hW hE h hX ?_
  intro x m1 v G1 H1 q e1 W1 r1
  cases r1 <;> first | exact (show False from q).elim | skip
  rename_i a0 C0 dx fs n' ks vs ds hn hg hk hv rr
  obtain ⟨rfl, d, hl, q⟩ := q
  rw [c.own] at hn
  cases hn
  subst hk hv
  obtain ⟨v, l, rv⟩ := rp_lookup rr hl
  exact ⟨a0, C, dx, fs, v, rfl, W1.ex _ _ hg, c.cls, nf, l, hQ d m1 v G1 H1 q e1 W1 rv⟩
/-- a property whose getter tells the attribute f -/
structure PropAt (K : Fg) (C : Addr) (p f : Str) : Prop where
  ex : ∃ (pa g : Addr) (fd : FuncData), PropOf K C p pa g ∧ Binds K fd ["self"] [] ∧ ∀ (P : Program) (w : World) (mg : Str → Option Value) (base : Heap), FnOk P w K mg base CX0 1 g fd ["self"] (getSp C f)
theorem pd_prop {n p f : Str} {C : Addr} (hX : FamG P w K mg base k N X) (c : Kl K mg n C) (pr : PropAt K C p f) (he : PD K W X e we) (hk : 2 ≤ k := by decide) (hb : ∀ i, attributeBase e p (X i).env (eval e (X i).env) = eval e (X i).env := by intro _; rfl) : PD K W X (.Attribute e p pos) (wFld n f we) := by
  obtain ⟨te, h1, h2⟩ := he
  obtain ⟨pa, g, fd, hp, bi, fo⟩ := pr.ex
  refine ⟨tProp C (getSp C f) [] E0 te, fun i => pe_prop (h1 i) (by rw [hX.K i]; exact c.cls) (by rw [hX.K i]; exact hp) (fo _ _ _ _ |> fun z => by rw [hX.K i]; exact z) ((hX.room i).mono hk) (by rw [hX.K i]; exact bi) .nil pass0 (hb i), ?_⟩
  intro G m F H σ ρ Q Qd Qx hW hE h hX hQ
  refine h2 G m F H σ ρ _ _ Qx hW hE h hX ?_
  intro x m1 v G1 H1 q e1 W1 r1
  cases r1 <;> first | exact (show False from q).elim | skip
  rename_i a0 C0 dx fs n' ks vs ds hn hg hk hv rr
  obtain ⟨rfl, d, hl, q⟩ := q
  rw [c.own] at hn
  cases hn
  subst hk hv
  obtain ⟨v, l, rv⟩ := rp_lookup rr hl
  exact ⟨a0, dx, fs, rfl, W1.ex _ _ hg, a0, dx, fs, v, rfl, W1.ex _ _ hg, l, hQ d m1 v G1 H1 q e1 W1 rv⟩
/-! o.m(e, ..) -/
variable {f : Addr} {fd : FuncData} {ps : List Str}
theorem FnG.goesD {X : Cx} {sp : Sp} {E : XK} {pins : List (Addr × Obj)} {σ : L2.St} {H : Hp} {s : Shared} {Q : VK} {us dus : List Value} {vs dvs : List V} {k : Nat} (Fn : FnG X.prog X.w X.K X.mg X.base (L2.CX X.prog X.w) k f fd ps sp)
    (hg : X.A.guards = some []) (hr : Room k X.A) (hb : Binds X.K fd ps dus) (hd : Vals dvs dus) (hx : PassesAt (L2.CX X.prog X.w) X σ E) (I : Inv X pins σ H s) (r : Vals vs us) (h : sp (vs ++ dvs) H Q E) :
    wpAny (model X.prog X.w) X.A (call (.ref f) us) (EP X pins σ Q) X.xe s := by
  have r2 : Vals (vs ++ dvs) (us ++ dus) := r.append hd
  have hlen : (us ++ dus).length = ps.length := r2.length.symm.trans (Fn.size _ _ _ _ h)
  have goal := Fn.runs X.A X.stack s H ⟨us, []⟩ (us ++ dus) (vs ++ dvs) Q E hg hr I.env0 (hb s us I.kIn hlen) r2 h
  refine wpAny_call (codeAny_mono goal ?_)
  rintro (e | fl) s' hq
  · exact hx pins H s e s' I hq
  · cases fl <;> first | exact I.after hq | exact (hq : False).elim
/-- the method m of the class n keeps the promise fn; dds: its defaults from the end on -/
def HasM (P : Program) (w : World) (K : Fg) (mg : Str → Option Value) (base : Heap) (j : Nat) (n m : Str) (ps : List Str) (dds : List D) (fn : DFn) : Prop :=
  ∃ C f fd dvs dus, Kl K mg n C ∧ Meth K C m f ∧ FnG P w K mg base (L2.CX P w) j f fd ps (spD K mg fn) ∧ Binds K fd ps dus ∧ Vals dvs dus ∧ ∀ G, RpA K G dvs dds
def wMeth (n m : Str) (dds : List D) (fn : DFn) (wo : WE) (wr : WA) : WE := fun ρ mm Q Qx => wo ρ mm (fun x m1 => match x with
  | .obj n' ks ds => n' = n ∧ (ks.zip ds).lookup m = none ∧ ks.length = ds.length ∧ wr ρ m1 (fun as m2 => fn (.obj n' ks ds :: (as ++ dds)) m2 Q Qx) Qx
  | _ => False) Qx
theorem rp_nolookup {G : Hp} {f : Str} : ∀ {fs : List (Str × V)} {ds : List D}, (fs.map (·.1)).length = ds.length → ((fs.map (·.1)).zip ds).lookup f = none → fs.lookup f = none
  | [], _, _, _ => rfl
  | (k, v) :: fs, [], h, _ => by cases h
  | (k, v) :: fs, d :: ds, hl, h => by
    have h : List.lookup f ((k, d) :: ((fs.map (·.1)).zip ds)) = none := h
    rw [List.lookup_cons] at h ⊢
    cases e : (f == k) with
    | true => rw [e] at h; cases h
    | false =>
      rw [e] at h
      exact rp_nolookup (G := G) (by simpa using hl) h
theorem pd_meth {n m : Str} {dds : List D} {fn : DFn} {j : Nat} {o : Expr} {wo : WE} {apos : Pos} {pl : ι → Sem Bool} (hX : FamG P w K mg base k N X) (tk : ∀ i, Takes (X i) (toWX mg W)) (hh : HasM P w K mg base j n m ps dds fn) (ho : PD K W X o wo) (ha : PDA K W X (e :: es) wr) (hj : j ≤ k := by decide)
    (hst : ∀ i, starEach (e :: es) (X i).env = (false, eval e (X i).env) :: starEach es (X i).env := by intro _; rfl) (hpl : ∀ i, (backTo pos (starEach es (X i).env)).any (·.1) = false := by intro _; rfl)
    (ht : ∀ i, eval (.Call (.Attribute o m apos) (e :: es) [] pos) (X i).env = (do
      let ov ← eval o (X i).env
      standAt apos.atName
      let (f, first) ← holding [ov] (getMethod ov m (pl i))
      callWith pos f first (backTo pos (starEach (e :: es) (X i).env)) (backToKw pos (keywordEach [] (X i).env))) := by intro _; rfl) :
    PD K W X (.Call (.Attribute o m apos) (e :: es) [] pos) (wMeth n m dds fn wo wr) := by
  obtain ⟨C, f, fd, dvs, dus, c, hm, Fn, hb, hd, hdd⟩ := hh
  obtain ⟨to, o1, o2⟩ := ho
  obtain ⟨ta, a1, a2⟩ := ha
  refine ⟨fun σ H Q => to σ H fun x H1 => ∃ a dx fs, x = .ref a ∧ H1 a = some (.ins C dx fs) ∧ fs.lookup m = none ∧ ta σ H1 fun vs H2 => spD K mg fn ((.ref a :: vs) ++ dvs) H2 Q (fun cls d H' => toWX mg W cls d σ H'), fun i => ⟨fun pins s σ H Q I h => ?_⟩, ?_⟩
  · have Fi : FnG (X i).prog (X i).w (X i).K (X i).mg (X i).base (L2.CX (X i).prog (X i).w) j f fd ps (spD K mg fn) := by rw [hX.prog i, hX.w i, hX.K i, hX.mg i, hX.base i]; exact Fn
    have ci : Cls (X i).K C := by rw [hX.K i]; exact c.cls
    have mi : Meth (X i).K C m f := by rw [hX.K i]; exact hm
    refine PySem.W.methodCall_KW (pl := pl i) (thn ((o1 i).run pins s σ H _ I h) fun u s1 ⟨x, H1, I1, rx, a, dx, fs, ex, ea, l, q⟩ => ?_) (ht i)
    subst ex
    obtain rfl : u = Value.ref a := rx
    refine getmeth_ok I1 ea ci mi l ?_
    refine PySem.W.callWith_K (first := [.ref a]) (h₀ := (X i).base) I.ok.mod.kin mi.kp (thn ((a1 i).run pos pins s1 σ H1 _ I1 q) fun us s2 ⟨vs, H2, I2, r, q2⟩ => ⟨I2.kIn, ?_⟩) (hst i) (hpl i)
    exact Fi.goesD (us := .ref a :: us) (vs := .ref a :: vs) (hX.guards i) ((hX.room i).mono hj) (by rw [hX.K i]; exact hb) hd (passAt (tk i) σ) I2 (.cons rfl r) q2
  · intro G m0 F H σ ρ Q Qd Qx hW hE h hXx hQ
    refine o2 G m0 F H σ ρ _ _ Qx hW hE h hXx ?_
    intro x m1 v G1 H1 q e1 W1 r1
    have r1' := r1
    cases r1 <;> first | exact (show False from q).elim | skip
    rename_i a0 C0 dx fs n' ks vs ds hn hg hk hv rr
    obtain ⟨rfl, hl, hlen, q⟩ := q
    rw [c.own] at hn
    cases hn
    subst hk hv
    refine ⟨a0, dx, fs, rfl, W1.ex _ _ hg, rp_nolookup (G := G) hlen hl, ?_⟩
    refine a2 G1 m1 F H1 σ ρ _ _ Qx W1 (hE.mono e1) q (hXx.mono e1) ?_
    intro as m2 vs2 G2 H2 q2 e2 W2 r2
    refine ⟨G2, m2, F, _, Qd, Qx, W2, (RpA.cons (r1'.mono e2) r2).app (hdd G2), q2, ?_, ?_⟩
    · intro d m' v G' H' z e
      exact hQ d m' v G' H' z ((e1.trans e2).trans e)
    · intro x m' cls d G' H' z hmx e W' r
      exact ⟨x.cls, hmx, hXx x m' d σ G' H' z ((e1.trans e2).trans e) W' r⟩
/-! isinstance(e, n), n a class of the text -/
structure KlI (K : Fg) (mg : Str → Option Value) (n : Str) (C : Addr) : Prop extends Kl K mg n C where
  met : PySem.W.findIn K (.ref C) "__class__" = some (some (.builtin "object.__class__")) ∧ PySem.W.specialIn K (.builtin "object.__class__") "__get__" = some (some (.builtin "getset_descriptor.__get__")) ∧ PySem.W.takesIn K (.builtin "object.__class__") = some true ∧ PySem.W.mroIn K C (.type "object") = some true
  no : ∀ t : String, t = "NoneType" ∨ t = "bool" ∨ t = "int" ∨ t = "str" ∨ t = "list" ∨ t = "tuple" ∨ t = "dict" → PySem.W.kitOne K (.type t) (.ref C) = some false
def wIsC (n : Str) (we : WE) : WE := fun ρ m Q Qx => we ρ m (fun x m1 => match x with
  | .obj n' _ _ => n' = n ∧ Q (.bl true) m1
  | x => typedM m1 x = true ∧ Q (.bl false) m1) Qx
theorem ty_names {m : Mem} {x : D} (h : typedM m x = true) : tyD x = "NoneType" ∨ tyD x = "bool" ∨ tyD x = "int" ∨ tyD x = "str" ∨ tyD x = "list" ∨ tyD x = "tuple" ∨ tyD x = "dict" := by
  cases x <;> first | (cases h; done) | (simp only [tyD]; decide)
theorem tyM_has {G F H : Hp} {m : Mem} {v : V} {d : D} (hW : Wd K G m F H) (r : Rp K G v d) (ht : typedM m d = true) : TyX K H v (.type (tyD d)) := by
  cases d with
  | box a =>
    cases r
    obtain ⟨ds, hm⟩ := Option.isSome_iff_exists.mp ht
    obtain ⟨_, _, xs, hx, _⟩ := hW.own a ds hm
    exact .base (.lst hx)
  | _ => exact ty_of hW.ex r (by exact ht)
theorem kit_same {C : Addr} : PySem.W.kitOne K (.ref C) (.ref C) = some true := by
  unfold PySem.W.kitOne
  exact if_pos (by simp)
theorem pd_isiC {n : Str} {C : Addr} {p p2 : Pos} (hK : ∀ i, (X i).K = K) (hX : ∀ i, (X i).mg = mg) (hm : mg "isinstance" = none) (hi : bootBuiltins "isinstance" = some (.builtin "isinstance")) (c : KlI K mg n C) (he : PD K W X e we) (hg : ∀ i, Gl (X i) "isinstance" := by intro _; rfl) (g1 : ∀ i, Gl (X i) n := by intro _; rfl) (hd : (n == ("__debug__" : Str)) = false := by decide)
    (hs : ∀ i, starEach [e, .Name n p2] (X i).env = (false, eval e (X i).env) :: starEach [.Name n p2] (X i).env := by intro _; rfl) (hpl : ∀ i, (backTo pos (starEach [.Name n p2] (X i).env)).any (·.1) = false := by intro _; rfl) :
    PD K W X (.Call (.Name "isinstance" p) [e, .Name n p2] [] pos) (wIsC n we) := by
  obtain ⟨t, h1, h2⟩ := he
  refine ⟨tCB (rIsi K) (tCons t (tCons (tC (.ref C)) tNil)), fun i => pe_callB (by have q := call_isi (X := X i); rw [hK i] at q; exact q) (hg i) (by rw [hX i]; exact hm) hi
    (L2.pa_cons (h1 i) (L2.pa_cons (pe_glob (v := V.ref C) (g1 i) (by rw [hX i]; exact c.mg) rfl hd) L2.pa_nil) (hs i)) (by decide) (by decide) (hs i) (hpl i), ?_⟩
  intro G m F H σ ρ Q Qd Qx hW hE h hX hQ
  refine h2 G m F H σ ρ _ _ Qx hW hE h hX ?_
  intro d m1 x G1 H1 q e1 W1 r1
  have other : typedM m1 d = true → Qd (.bl false) m1 → rIsi K [x, .ref C] H1 Q := fun ht q =>
    ⟨x, .ref C, _, .ref C, false, rfl, .own C, tyM_has W1 r1 ht, c.no _ (ty_names ht), hQ _ _ _ _ _ q e1 W1 (.bl false)⟩
  cases d with
  | obj n' ks ds =>
    obtain ⟨rfl, q⟩ := q
    cases r1 with
    | obj hn hg hk hv rr =>
      rw [c.own] at hn
      cases hn
      exact ⟨_, .ref C, _, .ref C, true, rfl, .own C, .base (.ins (W1.ex _ _ hg) c.cls c.met.1 c.met.2.1 c.met.2.2.1 c.met.2.2.2), kit_same, hQ _ _ _ _ _ q e1 W1 (.bl true)⟩
  | _ => exact other q.1 q.2
end
end DL
/-! XJ: objects made: __init__, C(e, k = e, ..) -/
namespace DL
open PySem L2 XO
open Evl (Ex)
section
variable {P : Program} {w : World} {K : Fg} {mg : Str → Option Value} {base : Heap} {k : Nat} {N : List Str} {W : Wx} {ι : Type} {X : ι → Cx} {f : Addr} {fd : FuncData} {ps : List Str} {pos : Pos}
/-- a def or method, defaults or not -/
structure FunV (K : Fg) (x qual : Str) (st : Stmt) (f : Addr) (fd : FuncData) : Prop where
  ex : ∃ (oc : Value) (od : Option Addr) (dV kV doc pm : Value) (an : Option Addr) (cdv ct : Value) (osl : Array (Option Value)),
    fd = PySem.W.fnOf x qual (defArgs st) (defBody st) (defScope st) dV kV doc pm an cdv ct ∧ K.lookup f = some ⟨oc, od, .func fd, osl⟩ ∧ PySem.W.codeIn K cdv qual = true
theorem Fun.toV {x qual : Str} {st : Stmt} {f : Addr} {fd : FuncData} (h : Fun K x qual st f fd) : FunV K x qual st f fd := by
  obtain ⟨oc, od, kV, doc, pm, an, cdv, ct, osl, e1, e2, e3⟩ := h.ex
  exact ⟨oc, od, .none, kV, doc, pm, an, cdv, ct, osl, e1, e2, e3⟩
/-- a def of any promise: its body's reading -/
theorem fn_coreV {x qual : Str} {st : Stmt} {sp : Sp} (Fu : FunV K x qual st f fd) (S : FnScope N ps (defScope st)) (size : ∀ vs H Q E, sp vs H Q E → vs.length = ps.length)
    (hb : ∀ (cdv : Value) (A : Around) (oe : List Env) (s : Shared) (H : Hp) (E : XK), FamG P w K mg base k N (fun _ : Unit => cxOf (L2.CX P w) P w K mg base N qual (defScope st) f cdv A oe s H E) →
      (∀ i, Takes ((fun _ : Unit => cxOf (L2.CX P w) P w K mg base N qual (defScope st) f cdv A oe s H E) i) (toWX mg (byName mg fun cls d _ H => E cls d H))) →
      ∃ t : TS, PSs (cxOf (L2.CX P w) P w K mg base N qual (defScope st) f cdv A oe s H E) (defBody st) t ∧ ∀ vs Q, sp vs H Q E → t { nx := fun _ H' => Q .non H', rt := Q } (start N vs) H) :
    FnG P w K mg base (L2.CX P w) (k + 1) f fd ps sp := by
  obtain ⟨oc, od, dV, kV, doc, pm, an, cdv, ct, osl, rfl, lk, hcd⟩ := Fu.ex
  refine ⟨size, ?_⟩
  intro A oe s H ar us vs Q E hgd hrm e0 hbind r hsp
  have hl := size _ _ _ _ hsp
  have old : ∀ b o, base.get? b = some o → s.heap.get? b = some o := fun b o e => (e0.bs b o e).1
  have KX : K.In s.heap := e0.mod.kin.keeps old
  have lim : s.heap.NoLimit := e0.mod.nolimit.keeps old
  have kinds : ∀ y ∈ ps.zip us, (defScope st).names.lookup y.1 = some .local ∨ ((defScope st).names.lookup y.1 = some .cell ∧ ((cellsFrom (s.heap.objs.size + 1) (defScope st).names []).lookup y.1).isSome = true) := by
    rintro ⟨n, v⟩ hy
    rcases S.par n (List.of_mem_zip hy).1 with q | q
    · exact Or.inl q
    · exact Or.inr ⟨q, PySem.W.cellsFrom_some _ _ _ (Or.inl q)⟩
  refine codeAny_call_function hrm.depth (KX _ _ lk) rfl S.co S.gen rfl (PySem.W.codeRec_of KX hcd) (hbind _ _ _ _ ?_)
  refine wpAny_newFunctionEnv_cells S.kind kinds ?_
  rintro env rfl s1 nx
  refine ⟨lim.keeps nx.toInCall.keep, codeAny_func ?_⟩
  have fam : FamG P w K mg base k N (fun _ : Unit => cxOf (L2.CX P w) P w K mg base N qual (defScope st) f cdv A oe s H E) :=
    { prog := fun _ => rfl, w := fun _ => rfl, K := fun _ => rfl, mg := fun _ => rfl, base := fun _ => rfl, hN := fun _ => rfl, calm := fun _ => rfl, room := fun _ => hrm.deeper _, nd := S.nd, guards := fun _ => hgd }
  obtain ⟨t, h1, h2⟩ := hb cdv A oe s H E fam (fun _ => takes_by (takes_of rfl rfl rfl rfl))
  have I : Inv (cxOf (L2.CX P w) P w K mg base N qual (defScope st) f cdv A oe s H E) [] (start N vs) H s1 := inv_start S hrm.hd e0 hl r nx
  refine wpAny_mono (h1.run [] s1 (start N vs) H _ I (h2 vs Q hsp)) ?_ fun e s' z => z
  have fin : ∀ {s' : Shared} {σ' : L2.St} {H' : Hp} {v : V} {u : Value}, Inv (cxOf (L2.CX P w) P w K mg base N qual (defScope st) f cdv A oe s H E) [] σ' H' s' → RelV v u → Q v H' → CE oe P w H s Q u s' := by
    intro s' σ' H' v u J rv q
    exact ⟨v, H', J.os, J.bare, J.base, J.hok, rv, q⟩
  intro fl s' hs
  cases fl
  case ret u =>
    obtain ⟨v, σ', H', J, rv, q⟩ := hs
    exact fin J rv q
  case next =>
    obtain ⟨σ', H', J, q⟩ := hs
    exact fin (v := V.non) (u := Value.none) J rfl q
  case brk =>
    obtain ⟨_, _, _, q⟩ := hs
    exact (q : False).elim
  case cont =>
    obtain ⟨_, _, _, q⟩ := hs
    exact (q : False).elim
theorem fn_core {x qual : Str} {st : Stmt} {sp : Sp} (Fu : Fun K x qual st f fd) (S : FnScope N ps (defScope st)) (size : ∀ vs H Q E, sp vs H Q E → vs.length = ps.length)
    (hb : ∀ (cdv : Value) (A : Around) (oe : List Env) (s : Shared) (H : Hp) (E : XK), FamG P w K mg base k N (fun _ : Unit => cxOf (L2.CX P w) P w K mg base N qual (defScope st) f cdv A oe s H E) →
      (∀ i, Takes ((fun _ : Unit => cxOf (L2.CX P w) P w K mg base N qual (defScope st) f cdv A oe s H E) i) (toWX mg (byName mg fun cls d _ H => E cls d H))) →
      ∃ t : TS, PSs (cxOf (L2.CX P w) P w K mg base N qual (defScope st) f cdv A oe s H E) (defBody st) t ∧ ∀ vs Q, sp vs H Q E → t { nx := fun _ H' => Q .non H', rt := Q } (start N vs) H) :
    FnG P w K mg base (L2.CX P w) (k + 1) f fd ps sp := fn_coreV (Fun.toV Fu) S size hb
/-- a def or method that may raise, defaults or not -/
theorem fn_okV {x qual : Str} {st : Stmt} {fn : DFn} {wb : WS} (Fu : FunV K x qual st f fd) (S : FnScope N ps (defScope st)) (hlen : ∀ ds m Q Qx, fn ds m Q Qx → ds.length = ps.length)
    (hb : ∀ (cdv : Value) (A : Around) (oe : List Env) (s : Shared) (H : Hp) (E : XK), FamG P w K mg base k N (fun _ : Unit => cxOf (L2.CX P w) P w K mg base N qual (defScope st) f cdv A oe s H E) →
      (∀ i, Takes ((fun _ : Unit => cxOf (L2.CX P w) P w K mg base N qual (defScope st) f cdv A oe s H E) i) (toWX mg (byName mg fun cls d _ H => E cls d H))) →
      PDB K (byName mg fun cls d _ H => E cls d H) (fun _ : Unit => cxOf (L2.CX P w) P w K mg base N qual (defScope st) f cdv A oe s H E) (defBody st) wb)
    (hr : ∀ ds m Qd Qx, fn ds m Qd Qx → wb { nx := fun _ m' => Qd .non m', rt := Qd, ex := Qx } (ds.map some ++ List.replicate (N.length - ds.length) none) m) :
    FnG P w K mg base (L2.CX P w) (k + 1) f fd ps (spD K mg fn) := by
  refine fn_coreV Fu S ?_ fun cdv A oe s H E fam tk => ?_
  · rintro vs H Q E ⟨G, m, F, ds, Qd, Qx, _, r, hf, _⟩
    exact r.len.trans (hlen _ _ _ _ hf)
  · obtain ⟨t, h1, h2⟩ := hb cdv A oe s H E fam tk
    refine ⟨t, h1 (), ?_⟩
    rintro vs Q ⟨G, m, F, ds, Qd, Qx, hW, rr, hf, hQ, hQx⟩
    refine h2 G m F H _ _ _ { nx := fun _ m' => Qd .non m', rt := Qd, ex := Qx } hW ?_ (hr ds m Qd Qx hf) ⟨?_, hQ, fun _ _ _ _ _ z => z.elim, fun _ _ _ _ _ z => z.elim, ?_⟩
    · unfold L2.start
      rw [rr.len]
      exact En.start _ rr
    · intro ρ' m' σ' G' H' q e W' _
      exact hQ _ m' _ G' H' q e W' .non
    · intro x m' d σ' G' H' z e W' r cls hc
      exact hQx x m' cls d G' H' z hc e W' r
/-! the body of an __init__: statements, self.f = e -/
abbrev WZ := List D → (List D → Mem → Prop) → XQ → En0 → Mem → Prop
def LiftZ (K : Fg) (W : Wx) (C : Addr) (ks ks' : List Str) (t : TS) (z : WZ) : Prop := ∀ G m F H σ ρ (x dx : Addr) (fs : List (Str × V)) (ds : List D) (S : Ends) (E : List D → Mem → Prop) (Qx : XQ), F x = none → Wd K G m (upd F x (.ins C dx fs)) H → En K G σ ρ → ρ[0]? = some (some (.box x)) →
  fs.map (·.1) = ks → RpA K G (fs.map (·.2)) ds → z ds E Qx ρ m → FitX K W G F Qx →
  (∀ fs' ds' m' σ' G' H', E ds' m' → Ex G G' → Wd K G' m' (upd F x (.ins C dx fs')) H' → fs'.map (·.1) = ks' → RpA K G' (fs'.map (·.2)) ds' → S.nx σ' H') → t S σ H
def PDZ (K : Fg) (W : Wx) {ι : Type} (X : ι → Cx) (C : Addr) (ks ks' : List Str) (b : List Stmt) (z : WZ) : Prop := ∃ t, (∀ i, PSs (X i) b t) ∧ LiftZ K W C ks ks' t z
def zNil : WZ := fun ds E _ _ m => E ds m
def zCons (u : WS) (z : WZ) : WZ := fun ds E Qx ρ m => u { nx := fun ρ' m' => ρ'[0]? = ρ[0]? ∧ z ds E Qx ρ' m', rt := fun _ _ => False, ex := Qx } ρ m
def zSet (v : WE) (z : WZ) : WZ := fun ds E Qx ρ m => v ρ m (fun d m' => z (ds ++ [d]) E Qx ρ m') Qx
variable {C : Addr} {ks ks' : List Str} {sts : List Stmt} {st : Stmt} {u : WS} {z : WZ}
theorem pz_nil : PDZ K W X C ks ks [] zNil := ⟨_, fun _ => pss_nil, fun G m F H σ ρ x dx fs ds S E Qx hF hW hE h0 hk hr h hX hN => hN fs ds m σ G H h (Ex.refl G) hW hk hr⟩
theorem pz_cons (h1 : PDS K W X st u) (h2 : PDZ K W X C ks ks' sts z) : PDZ K W X C ks ks' (st :: sts) (zCons u z) := by
  obtain ⟨t1, a1, a2⟩ := h1
  obtain ⟨t2, b1, b2⟩ := h2
  refine ⟨_, fun i => pss_cons (a1 i) (b1 i), ?_⟩
  intro G m F H σ ρ x dx fs ds S E Qx hF hW hE h0 hk hr h hX hN
  refine a2 G m (upd F x (.ins C dx fs)) H σ ρ _ _ hW hE h ⟨?_, fun _ _ _ _ _ z => z.elim, fun _ _ _ _ _ z => z.elim, fun _ _ _ _ _ z => z.elim, hX.frame hF⟩
  rintro ρ' m' σ' G' H' ⟨e0, q⟩ e W' E'
  refine b2 G' m' F H' σ' ρ' x dx fs ds S E Qx hF W' E' (e0.trans h0) hk (hr.mono e) q (hX.mono e) ?_
  intro fs' ds' m2 σ2 G2 H2 q2 e2
  exact hN fs' ds' m2 σ2 G2 H2 q2 (e.trans e2)
theorem putF_new {f : Str} {v : V} : ∀ {fs : List (Str × V)}, f ∉ fs.map (·.1) → putF f v fs = fs ++ [(f, v)]
  | [], _ => rfl
  | (g, x) :: r, h => by
    have hg : ¬ g = f := fun e => h (by rw [List.map_cons, e]; exact List.mem_cons_self)
    show (if g = f then (g, v) :: r else (g, x) :: putF f v r) = _
    rw [if_neg hg, putF_new fun e => h (by rw [List.map_cons]; exact List.mem_cons_of_mem _ e)]
    rfl
theorem pz_set {self f : Str} {p p' : Pos} {value : Expr} {wv : WE} (hK : ∀ i, (X i).K = K) (c : Cls K C) (nf : NoAttr K C f) (hN : ∀ j, (X j).N = N) (hv : PD K W X value wv) (r : PDZ K W X C (ks ++ [f]) ks' sts z) (hf : f ∉ ks := by decide) (hl : ks.length < 1000 := by decide) (h0 : N[0]? = some self := by rfl)
    (vis : ∀ j, Vis (X j).env.scope self := by intro _; first | exact Or.inl rfl | exact Or.inr (Or.inl rfl) | exact Or.inr (Or.inr rfl)) (hd : (self == ("__debug__" : Str)) = false := by decide) (hcd : (self == ("__classdict__" : Str)) = false := by decide)
    (hs : ∀ i, swapsWith value (some (.Attribute (.Name self p) f p')) pos.line (X i).env = pure false := by intro _; rfl) : PDZ K W X C ks ks' (.Assign [.Attribute (.Name self p) f p'] value pos :: sts) (zSet wv z) := by
  obtain ⟨tv, v1, v2⟩ := hv
  obtain ⟨t2, b1, b2⟩ := r
  refine ⟨_, fun i => pss_cons (t := sFld K (tVar 0) tv f) (by have q := ps_fld (pe_var (X := X i) (i := 0) (pos := p) (by rw [hN i]; exact h0) (vis i) hd hcd) (v1 i) (hs i); rw [hK i] at q; exact q) (b1 i), ?_⟩
  intro G m F H σ ρ x dx fs ds S E Qx hF hW hE hx hk hr h hX hNx
  refine v2 G m (upd F x (.ins C dx fs)) H σ ρ _ _ _ hW hE h (hX.frame hF) ?_
  intro d m1 y G1 H1 q e1 W1 ry
  obtain ⟨u0, hu, ru⟩ := hE.get hx
  cases ru
  refine ⟨.ref x, hu, x, C, dx, fs, rfl, W1.fr _ _ upd_same, c, nf, ?_, ?_⟩
  · rw [← hk, List.length_map] at hl
    exact hl
  · rw [putF_new (by rw [hk]; exact hf)]
    refine b2 G1 m1 F _ σ ρ x dx (fs ++ [(f, y)]) (ds ++ [d]) S E Qx hF ?_ (hE.mono e1) hx ?_ ?_ q (hX.mono e1) ?_
    · have := W1.reframe (HO.ins C dx (fs ++ [(f, y)]))
      exact this
    · rw [List.map_append, hk]; rfl
    · rw [List.map_append]
      exact (hr.mono e1).app (.cons ry .nil)
    · intro fs' ds' m2 σ2 G2 H2 q2 e2
      exact hNx fs' ds' m2 σ2 G2 H2 q2 (e1.trans e2)
/-! an __init__ keeps its promise -/
def spInit (K : Fg) (mg : Str → Option Value) (C : Addr) (fn : DFn) : Sp := fun vs H Q E => ∃ x dx H0 vs0 G m F ds Qd Qx, vs = .ref x :: vs0 ∧ H = upd (upd H0 dx (.own x)) x (.ins C dx []) ∧ H0 x = none ∧ H0 dx = none ∧ dx ≠ x ∧ Wd K G m F H0 ∧ RpA K G vs0 ds ∧ fn ds m Qd Qx ∧
  (∀ d m' G' H', Qd d m' → Ex G G' → Wd K G' m' F H' → Rp K G' (.ref x) d → Q .non H') ∧ FitXc K mg G F Qx E
theorem init_ok {x qual n : Str} {st : Stmt} {fn : DFn} (Fu : Fun K x qual st f fd) (S : FnScope N ps (defScope st)) (c : Kl K mg n C) (hlen : ∀ ds m Q Qx, fn ds m Q Qx → ds.length + 1 = ps.length)
    (hb : ∀ (cdv : Value) (A : Around) (oe : List Env) (s : Shared) (H : Hp) (E : XK), FamG P w K mg base k N (fun _ : Unit => cxOf (L2.CX P w) P w K mg base N qual (defScope st) f cdv A oe s H E) →
      (∀ i, Takes ((fun _ : Unit => cxOf (L2.CX P w) P w K mg base N qual (defScope st) f cdv A oe s H E) i) (toWX mg (byName mg fun cls d _ H => E cls d H))) →
      PDZ K (byName mg fun cls d _ H => E cls d H) (fun _ : Unit => cxOf (L2.CX P w) P w K mg base N qual (defScope st) f cdv A oe s H E) C [] ks (defBody st) z)
    (hr : ∀ ds m Qd Qx, fn ds m Qd Qx → ∀ a, z [] (fun ds' m' => Qd (.obj n ks ds') m') Qx ((D.box a :: ds).map some ++ List.replicate (N.length - (ds.length + 1)) none) m) :
    FnG P w K mg base (L2.CX P w) (k + 1) f fd ps (spInit K mg C fn) := by
  refine fn_core Fu S ?_ ?_
  · rintro vs H Q E ⟨x, dx, H0, vs0, G, m, F, ds, Qd, Qx, rfl, rfl, _, _, _, _, r, h, _, _⟩
    rw [List.length_cons, r.len]
    exact hlen _ _ _ _ h
  · intro cdv A oe s H E fam tk
    obtain ⟨t, h1, h2⟩ := hb cdv A oe s H E fam tk
    refine ⟨t, h1 (), ?_⟩
    rintro vs Q ⟨x, dx, H0, vs0, G, m, F, ds, Qd, Qx, rfl, rfl, hx, hdx, hne, W0, r, h, hQ, hX⟩
    have Fx : F x = none := by
      cases e : F x with
      | none => rfl
      | some o => rw [W0.fr _ _ e] at hx; cases hx
    have Fd : F dx = none := by
      cases e : F dx with
      | none => rfl
      | some o => rw [W0.fr _ _ e] at hdx; cases hdx
    have W1 := W0.frame hdx (.own x)
    have hx1 : upd H0 dx (.own x) x = none := by rw [upd_ne (Ne.symm hne)]; exact hx
    have W2 := W1.frame hx1 (.ins C dx [])
    have Fx1 : upd F dx (.own x) x = none := by rw [upd_ne (Ne.symm hne)]; exact Fx
    have fx : FitX K (byName mg fun cls d _ H => E cls d H) G (upd F dx (.own x)) Qx := by
      refine FitX.frame ?_ Fd
      intro y m' d σ' G' H' q e W' ry cls hc
      exact hX y m' cls d G' H' q hc e W' ry
    refine h2 G m (upd F dx (.own x)) _ _ ((D.box x :: ds).map some ++ List.replicate (N.length - (ds.length + 1)) none) x dx [] [] _ _ Qx Fx1 W2 ?_ rfl rfl .nil (hr ds m Qd Qx h x) fx ?_
    · unfold L2.start
      have := En.start (K := K) (G := G) (N.length - (V.ref x :: vs0).length) (RpA.cons (.box x) r)
      rw [List.length_cons, r.len] at this
      rw [List.length_cons, r.len]
      exact this
    · intro fs' ds' m' σ' G' H' q e W' hk hr'
      obtain ⟨e2, W3⟩ := W'.adopt Fx1
      exact hQ _ m' _ H' q (e.trans e2) (W3.unframe Fd) (.obj c.own upd_same hk rfl (hr'.mono e2))
/-! C(e, .., k = e, ..) -/
theorem run_makeG {X : Cx} {sp : Sp} {E : XK} {nn j : Nat} {g : List Value → List Value → List Value} {gV : List V → List V → List V} {kn : List Str} {pins : List (Addr × Obj)} {σ : L2.St} {H : Hp} {s : Shared} {Q : VK} {us ws : List Value} {vs zs : List V} (M : Mk X.K C f) (Fn : FnG X.prog X.w X.K X.mg X.base (L2.CX X.prog X.w) j f fd ps sp)
    (hgd : X.A.guards = some []) (hr : Room (j + 1) X.A) (hb : KBn X.K fd ps (nn + 1) kn g gV) (hx : PassesAt (L2.CX X.prog X.w) X σ E)
    (I : Inv X pins σ H s) (r : Vals vs us) (rz : Vals zs ws) (l1 : vs.length = nn) (l2 : zs.length = kn.length)
    (h : ∀ x dx, H x = none → H dx = none → dx ≠ x → sp (gV (.ref x :: vs) zs) (upd (upd H dx (.own x)) x (.ins C dx [])) (fun v H2 => v = .non ∧ Q (.ref x) H2) E) :
    wpAny (model X.prog X.w) X.A (call (.ref C) us (kn.zip ws)) (EP X pins σ Q) X.xe s := by
  have fx : H (s.heap.objs.size + 1) = none := I.hok.fresh (Nat.le_add_right _ 1)
  have asked := h _ _ fx (I.hok.fresh (Nat.le_refl s.heap.objs.size)) (Nat.ne_of_lt (Nat.lt_add_one s.heap.objs.size))
  have J := I.made (C := C)
  have self1 : Vals (V.ref (s.heap.objs.size + 1) :: vs) (Value.ref (s.heap.objs.size + 1) :: us) := .cons rfl r
  have many : (Value.ref (s.heap.objs.size + 1) :: us).length = nn + 1 := congrArg (· + 1) (r.length.symm.trans l1)
  have body := Fn.runs _ X.stack _ _ ⟨Value.ref (s.heap.objs.size + 1) :: us, kn.zip ws⟩ (g (Value.ref (s.heap.objs.size + 1) :: us) ws) _ _ E (by exact hgd) (hr.make C us (kn.zip ws)) (J.env0.make C us (kn.zip ws)) (hb.to _ _ ws J.kIn many (rz.length.symm.trans l2)) (hb.rel self1 rz) asked
  refine wpAny_call (make_map (f := f) I.kIn M.makes M.init (beq_iff_eq.mp M.fn) (codeAny_mono body ?_))
  rintro (er | fl) s2 left
  · exact hx pins _ _ er s2 J left
  · cases fl <;> first | exact (left : False).elim | skip
    obtain ⟨v, H2, J2, rv, ev, told⟩ := J.after left
    subst ev
    exact ⟨rv, ⟨V.ref (s.heap.objs.size + 1), H2, J2, rfl, told⟩⟩
section
variable {kws : List Keyword} {wk : WA} {e : Expr} {es : List Expr} {we : WE} {wr : WA}
def PDK (K : Fg) (W : Wx) {ι : Type} (X : ι → Cx) (kws : List Keyword) (w : WA) : Prop := ∃ t, (∀ i, PK (X i) kws t) ∧ LiftA K W t w
theorem pdk_nil : PDK K W X [] wNil := ⟨_, fun _ => L2.pk_nil, fun G m F H σ ρ Q Qd Qx hW hE h hX hQ => hQ [] m [] G H h (Ex.refl G) hW .nil⟩
theorem pdk_cons {nm : Option Str} {kpos : Pos} (ha : PD K W X e we) (hr : PDK K W X kws wk) : PDK K W X (⟨nm, e, kpos⟩ :: kws) (wCons we wk) := by
  obtain ⟨ta, a1, a2⟩ := ha
  obtain ⟨tr, b1, b2⟩ := hr
  refine ⟨_, fun i => L2.pk_cons (a1 i) (b1 i), ?_⟩
  intro G m F H σ ρ Q Qd Qx hW hE h hX hQ
  refine a2 G m F H σ ρ _ _ Qx hW hE h hX ?_
  intro d m1 v G1 H1 q e1 W1 r1
  refine b2 G1 m1 F H1 σ ρ _ _ Qx W1 (hE.mono e1) q (hX.mono e1) ?_
  intro ds m2 vs G2 H2 q2 e2 W2 r2
  exact hQ _ m2 _ G2 H2 q2 (e1.trans e2) W2 (.cons (r1.mono e2) r2)
/-- the class n makes objects as fn tells: nn values by position, the keywords kn; gD: all its arguments -/
def HasC (P : Program) (w : World) (K : Fg) (mg : Str → Option Value) (base : Heap) (j : Nat) (n : Str) (ps : List Str) (nn : Nat) (kn : List Str) (gD : List D → List D → List D) (fn : DFn) : Prop :=
  ∃ C f fd g gV, Kl K mg n C ∧ Mk K C f ∧ FnG P w K mg base (L2.CX P w) j f fd ps (spInit K mg C fn) ∧ KBn K fd ps (nn + 1) kn g gV ∧
    ∀ (G : Hp) (x : Addr) (vs zs : List V) (ds es : List D), RpA K G vs ds → RpA K G zs es → vs.length = nn → zs.length = kn.length → ∃ rest, gV (.ref x :: vs) zs = .ref x :: rest ∧ RpA K G rest (gD ds es)
def wMake (nn kk : Nat) (gD : List D → List D → List D) (fn : DFn) (wr wk : WA) : WE := fun ρ m Q Qx => wr ρ m (fun ds m1 => wk ρ m1 (fun es m2 => ds.length = nn ∧ es.length = kk ∧ fn (gD ds es) m2 Q Qx) Qx) Qx
theorem pd_make {n : Str} {nn j : Nat} {kn : List Str} {gD : List D → List D → List D} {fn : DFn} {p : Pos} (hX : FamG P w K mg base k N X) (tk : ∀ i, Takes (X i) (toWX mg W)) (hh : HasC P w K mg base j n ps nn kn gD fn) (ha : PDA K W X (e :: es) wr) (hkw : PDK K W X kws wk) (hj : j + 1 ≤ k := by decide)
    (hg : ∀ i, Gl (X i) n := by intro _; rfl) (hall : ∀ i, (backToKw pos (keywordEach kws (X i).env)).all (·.1.isSome) = true := by intro _; rfl) (hks : ∀ i, (backToKw pos (keywordEach kws (X i).env)).filterMap (·.1) = kn := by intro _; rfl) (hdb : (n == ("__debug__" : Str)) = false := by decide)
    (he : ∀ i, starEach (e :: es) (X i).env = (false, eval e (X i).env) :: starEach es (X i).env := by intro _; rfl) (hpl : ∀ i, ((backTo pos (starEach (e :: es) (X i).env)).any (·.1) || (backToKw pos (keywordEach kws (X i).env)).any (·.1.isNone)) = false := by intro _; rfl) :
    PD K W X (.Call (.Name n p) (e :: es) kws pos) (wMake nn kn.length gD fn wr wk) := by
  obtain ⟨C, f, fd, g, gV, c, M, Fn, hb, hgv⟩ := hh
  obtain ⟨t, a1, a2⟩ := ha
  obtain ⟨tk', k1, k2⟩ := hkw
  refine ⟨tMakeK C nn kn.length (spInit K mg C fn) gV (fun cls d H' => False) t tk' |> fun _ => fun σ H Q => tMakeK C nn kn.length (spInit K mg C fn) gV (fun cls d H' => toWX mg W cls d σ H') t tk' σ H Q, fun i => ⟨fun pins s σ H Q I h => ?_⟩, ?_⟩
  · have Fi : FnG (X i).prog (X i).w (X i).K (X i).mg (X i).base (L2.CX (X i).prog (X i).w) j f fd ps (spInit K mg C fn) := by rw [hX.prog i, hX.w i, hX.K i, hX.mg i, hX.base i]; exact Fn
    have Mi : Mk (X i).K C f := by rw [hX.K i]; exact M
    refine wpAny_Call_Name_kw (ld_glob I (hg i) (by rw [hX.mg i]; exact c.mg) ?_ hdb)
    refine PySem.W.callWith_KW (h₀ := (X i).base) I.ok.mod.kin Mi.kp (hall i) (thn ((a1 i).run pos pins s σ H _ I h) fun us s1 ⟨vs, H1, I1, r, q⟩ => ?_) (hpl i) (he i)
    refine thn ((k1 i).run pos pins s1 σ H1 _ I1 q) fun ws s2 ⟨zs, H2, I2, rz, l1, l2, q2⟩ => ⟨I2.kIn, ?_⟩
    rw [hks i]
    exact run_makeG Mi Fi (hX.guards i) ((hX.room i).mono hj) (by rw [hX.K i]; exact hb) (passAt (tk i) σ) I2 r rz l1 l2 q2
  · intro G m F H σ ρ Q Qd Qx hW hE h hXx hQ
    refine a2 G m F H σ ρ _ _ Qx hW hE h hXx ?_
    intro ds m1 vs G1 H1 q e1 W1 r1
    refine k2 G1 m1 F H1 σ ρ _ _ Qx W1 (hE.mono e1) q (hXx.mono e1) ?_
    intro es m2 zs G2 H2 q2 e2 W2 r2
    obtain ⟨l1, l2, q2⟩ := q2
    refine ⟨by rw [r1.len]; exact l1, by rw [r2.len]; exact l2, fun x dx hx hdx hne => ?_⟩
    obtain ⟨rest, eg, rr⟩ := hgv G2 x vs zs ds es (r1.mono e2) r2 (by rw [r1.len]; exact l1) (by rw [r2.len]; exact l2)
    refine ⟨x, dx, H2, rest, G2, m2, F, gD ds es, Qd, Qx, eg, rfl, hx, hdx, hne, W2, rr, q2, ?_, ?_⟩
    · intro d m' G' H' z e W' rd
      exact ⟨rfl, hQ d m' _ G' H' z ((e1.trans e2).trans e) W' rd⟩
    · intro y m' cls d G' H' z hmx e W' ry
      exact ⟨y.cls, hmx, hXx y m' d σ G' H' z ((e1.trans e2).trans e) W' ry⟩
end
end
end DL
/-! XS: sorted(text), enumerate, truth, further rules for schemes -/
namespace DL
open PySem L2 XO PyProof.Rows
open Evl (Ex)
/-- a text's signs -/
def signL (z : Str) : List Str := z.cps.toList.map fun c => (⟨#[c]⟩ : Str)
theorem strs_build : ∀ (l : List Value) (cs : List Nat), l.length = cs.length → (∀ (j : Nat) (v : Value), l[j]? = some v → ∃ c u, cs[j]? = some c ∧ v = .str ⟨#[c]⟩ u) → StrsAre l (cs.map fun c => (⟨#[c]⟩ : Str))
  | [], [], _, _ => .nil
  | [], _ :: _, h, _ => by cases h
  | _ :: _, [], h, _ => by cases h
  | v :: l, c :: cs, h, k => by
    obtain ⟨c', u, e1, e2⟩ := k 0 v rfl
    have e1 : some c = some c' := e1
    cases e1
    subst e2
    exact .cons _ _ (strs_build l cs (by simpa using h) fun j w hw => k (j + 1) w hw)
theorem strs_items {x : Str} {acc : Array Value} (h : ItemsOf (SignAt x) acc x.cps.size) : StrsAre acc.toList (signL x) := by
  refine strs_build acc.toList x.cps.toList ?_ ?_
  · rw [Array.length_toList, Array.length_toList]
    exact h.1
  · intro j v hv
    obtain ⟨c, u, e1, e2⟩ := h.2 j v (by rw [← Array.getElem?_toList]; exact hv)
    exact ⟨c, u, by rw [Array.getElem?_toList]; exact e1, e2⟩
section
variable {prog : Program} {w : World} {A : Around} {E : Value → Shared → Prop} {s : Shared}
theorem sorted_text {Q : Value → Shared → Prop} (hh : A.handled = none) (x : Str) (t : Tok) (hn : x.cps.size ≤ 1000000)
    (h : ∀ (s1 : Shared) (vs : List Value) (out : Array Value) (ss' : List Str), (∀ b o, s.heap.get? b = some o → s1.heap.get? b = some o) → s1.gens = s.gens → s1.drawn = s.drawn → s1.os = s.os → StrsAre out.toList ss' → ss'.Perm (signL x) → sortedS ss' = true →
      Q (.ref s1.heap.objs.size) { s1 with heap := sortedHeap (s1.heap.push (seqObj "list" vs.toArray 0)) s1.heap.objs.size vs out }) :
    wpAny (model prog w) A (call (.builtin "sorted") [.str x t]) Q E s := by
  refine Calls.call_function_entry kind_sorted plain_sorted entry_sorted (args_sorted1 _) ?_
  unfold Builtin.«sorted»
  refine wpAny_bind (m := checkCount "sorted" 1 1 _) (wpAny_pure ?_)
  refine wpAny_bind (wpAny_collect_str (by exact hh) x t (fun s1 acc k g d o hacc => ?_) (by rw [sizeLine_eq]; omega))
  have hS := strs_items hacc
  have hL : acc.toList.length ≤ sizeLine := by rw [Array.length_toList, hacc.1, sizeLine_eq]; omega
  refine wpAny_bind (wpAny_newList ?_ hL)
  have hoL : (s1.heap.push (seqObj "list" acc.toList.toArray 0)).get? s1.heap.objs.size = some (seqObj "list" acc.toList.toArray 0) := Heap.get?_push_size _ rfl
  show wpAny _ _ _ _ _ { s1 with heap := s1.heap.push (seqObj "list" acc.toList.toArray 0) }
  refine wpAny_bind (wpAny_holding (wpAny_call_entry slot_list_sort ⟨_, hoL, rfl⟩ entry_list_sort (list_sort_treeKAny strKind_oneLt hoL hS.keysOf (fun v₁ v₂ rest e => keyKind_strs (by rw [← e]; exact hS)) hL fun st' hp hs => ⟨_, rfl, ?_⟩) (args_list_sort _)))
  obtain ⟨ss', h1, h2, h3⟩ := sorted_out_str hS hp hs
  exact wpAny_pure ⟨_, rfl, h s1 acc.toList _ ss' k g d o h1 h2 h3⟩
end
def rSortedTx : List V → Hp → VK → Prop := fun vs H Q => ∃ z : Str, vs = [V.str z] ∧ z.cps.size ≤ 1000000 ∧ ∀ (ys : List Str) (p : Addr), ys.Perm (signL z) → sortedS ys = true → H p = none → Q (.ref p) (upd H p (.lst (ys.map V.str)))
theorem cr_sortedTx {X : Cx} (hc : X.calm = true) : CallR X (.builtin "sorted") rSortedTx := by
  intro pins s σ H vs us Q I r h
  obtain ⟨z, rfl, hz, q⟩ := h
  cases r with
  | cons r1 t0 =>
    cases t0
    obtain ⟨t, rfl⟩ := r1
    refine sorted_text (I.ok.hd hc) z t hz fun s1 vs out ys k g d o h1 h2 h3 => ?_
    obtain ⟨hp, gn, dr, tk, os⟩ := s1
    simp only at k g d o
    subst g d o
    have hlen : (ys.map V.str).length ≤ sizeLine := by
      rw [List.length_map, h2.length_eq]
      unfold signL
      rw [List.length_map, Array.length_toList, sizeLine_eq]
      omega
    have hoL : (hp.push (seqObj "list" vs.toArray 0)).get? hp.objs.size = some (seqObj "list" vs.toArray 0) := Heap.get?_push_size _ rfl
    obtain ⟨ep, he⟩ := sortedHeap_at (out := out) hoL
    have hn : H hp.objs.size = none := (I.hok.kept k).fresh (Nat.le_refl _)
    have h0 : s.heap.get? hp.objs.size = none := by
      cases e : s.heap.get? hp.objs.size with
      | none => rfl
      | some o => exact absurd (Heap.lt_size (k _ _ e)) (Nat.lt_irrefl _)
    have kk : ∀ b u, s.heap.get? b = some u → (sortedHeap (hp.push (seqObj "list" vs.toArray 0)) hp.objs.size vs out).get? b = some u := by
      intro b u e
      have e1 := k b u e
      have hb := Heap.lt_size e1
      rw [sortedHeap_old (Nat.ne_of_lt hb) (by rw [size_push']; exact Nat.lt_succ_of_lt hb)]
      exact Heap.get?_push_of_some _ e1
    exact ⟨.ref _, upd H hp.objs.size (.lst (ys.map V.str)), I.laidN (t' := tk) kk h0 hn ⟨hlen, out.toList, ep, vals_of_strs h1, he⟩, rfl, q ys _ h2 h3 hn⟩
/-- sorted(text): its signs, by code points -/
def dSortedTx : WC := fun xs m Q => match xs with
  | [.str z] => z.cps.size ≤ 1000000 ∧ ∀ ys : List Str, ys.Perm (signL z) → sortedS ys = true → Q (.lst (ys.map D.str)) m
  | _ => False
theorem rp_strs {K : Fg} {G : Hp} : ∀ ys : List Str, RpA K G (ys.map V.str) (ys.map D.str)
  | [] => .nil
  | y :: ys => .cons (.str y) (rp_strs ys)
theorem b_sortedTx {K : Fg} {ι : Type} {X : ι → Cx} (hc : ∀ i, (X i).calm = true) : BiU K X (.builtin "sorted") dSortedTx := by
  refine ⟨_, fun i => cr_sortedTx (hc i), ?_⟩
  intro G m F H xs ds Q Qd hW r h hQ
  unfold dSortedTx at h
  split at h
  · cases r with
    | cons r1 t =>
      cases r1
      cases t
      exact ⟨_, rfl, h.1, fun ys p hp hs hf => hQ.lst hW (h.2 ys hp hs) (rp_strs ys) p hf⟩
  · cases h
end DL
/-! XT: len(set(text)) -/
namespace DL
open PySem L2 XO PyProof.Rows
open Evl (Ex)
/-- how many unlike texts -/
def distinct : List Str → Nat
  | [] => 0
  | x :: l => if l.any (· == x) then distinct l else distinct l + 1
theorem distinct_le : ∀ l, distinct l ≤ l.length
  | [] => Nat.le_refl _
  | x :: l => by
    have := distinct_le l
    unfold distinct
    rw [List.length_cons]
    split <;> omega
section
variable {prog : Program} {w : World} {A : Around} {R : Result → Shared → Prop} {I : Addr} {fp wr : List Addr} {G : Array GenState → Array GenState → Prop} {n : Nat} {St : Nat → Shared → Prop} {x : Str}
/-- the loop of a set's filling over a text: l is what is in it, the last one first -/
theorem fill_signs (W : WalksS prog w A.in1 I fp wr G n (SignAt x) St) (S : Addr) (away : S ∉ fp) (hn : x.cps.toList.length = n) (small : n < 4000) :
    ∀ (rest done : List Nat) (s : Shared), x.cps.toList = done ++ rest → St done.length s →
      s.heap.SetOf (PySem.strKind prog w) S (fun k => ((done.reverse).map fun c => (⟨#[c]⟩ : Str)).any (· == k)) (distinct ((done.reverse).map fun c => (⟨#[c]⟩ : Str))) →
      (∀ s', Moved (S :: wr) G s s' → s'.heap.SetOf (PySem.strKind prog w) S (fun k => ((x.cps.toList.reverse).map fun c => (⟨#[c]⟩ : Str)).any (· == k)) (distinct ((x.cps.toList.reverse).map fun c => (⟨#[c]⟩ : Str))) → R (.ok (.ret .none)) s') →
      codeAny (model prog w) A (.builtin "set.update.loop" ⟨[.ref S, .ref I], []⟩) R s := by
  have outside : S ∉ wr := fun h => away (W.sub _ h)
  have more : ∀ b ∈ wr, b ∈ S :: wr := fun b hb => List.mem_cons_of_mem _ hb
  intro rest
  induction rest with
  | nil =>
    intro done s hx hst hS hR
    rw [List.append_nil] at hx
    have hl : done.length = n := by rw [← hx]; exact hn
    rw [hl] at hst
    refine codeAny_builtin F.entry_set_update_loop ?_
    rw [Around.under_plainId F.plain_set_update_loop _]
    show wpAny _ A.in1 (pyNext (.ref I) >>= _) _ _ s
    refine wpAny_bind (W.done s _ _ hst fun s' hm => ?_)
    show wpAny _ A.in1 (ret Value.none) _ _ s'
    refine wpAny_pure (hR s' (hm.mono more) ?_)
    rw [hx]
    obtain ⟨o, es, ep, t, ho, others⟩ := hS
    exact ⟨o, es, ep, t, hm.heap S _ outside ho, others⟩
  | cons c rest ih =>
    intro done s hx hst hS hR
    have hlt : done.length < n := by
      rw [← hn, hx, List.length_append, List.length_cons]
      omega
    refine codeAny_builtin F.entry_set_update_loop ?_
    rw [Around.under_plainId F.plain_set_update_loop _]
    show wpAny _ A.in1 (pyNext (.ref I) >>= _) _ _ s
    refine wpAny_bind (W.item done.length s _ _ hlt hst fun v s' hP hst' hm => ?_)
    obtain ⟨c', u, hc', rfl⟩ := hP
    have ec : c' = c := by
      have h1 : x.cps.toList[done.length]? = some c' := by rw [Array.getElem?_toList]; exact hc'
      rw [hx, List.getElem?_append_right (Nat.le_refl _), Nat.sub_self] at h1
      exact (Option.some.inj h1).symm
    subst ec
    have hS' : s'.heap.SetOf (PySem.strKind prog w) S (fun k => ((done.reverse).map fun c => (⟨#[c]⟩ : Str)).any (· == k)) (distinct ((done.reverse).map fun c => (⟨#[c]⟩ : Str))) := by
      obtain ⟨o, es, ep, tb, ho, others⟩ := hS
      exact ⟨o, es, ep, tb, hm.heap S _ outside ho, others⟩
    show wpAny _ A.in1 (holding [Value.str ⟨#[c']⟩ u] (setAdd S (.str ⟨#[c']⟩ u)) >>= _) _ _ s'
    refine wpAny_bind (wpAny_holding ?_)
    unfold setAdd
    refine wpAny_holding ?_
    refine wpAny_bind ((PySem.strKind prog w).pyHash (k := (⟨#[c']⟩ : Str)) (strKind_is _ _ _ _) ?_)
    have room : distinct ((done.reverse).map fun c => (⟨#[c]⟩ : Str)) + 1 < scanBound := by
      have := distinct_le ((done.reverse).map fun c => (⟨#[c]⟩ : Str))
      rw [List.length_map, List.length_reverse] at this
      unfold scanBound
      omega
    refine wpAny_setAddHashed_of (knd := PySem.strKind prog w) (s := { s' with toks := s'.toks + 1 }) (strKind_is _ _ _ _) rfl hS' room fun h' hsb hS2 => ?_
    have e1 : ((done ++ [c']).reverse).map (fun c => (⟨#[c]⟩ : Str)) = (⟨#[c']⟩ : Str) :: (done.reverse).map fun c => (⟨#[c]⟩ : Str) := by
      rw [List.reverse_append]; rfl
    have hS3 : h'.SetOf (PySem.strKind prog w) S (fun k => (((done ++ [c']).reverse).map fun c => (⟨#[c]⟩ : Str)).any (· == k)) (distinct (((done ++ [c']).reverse).map fun c => (⟨#[c]⟩ : Str))) := by
      rw [e1]
      refine SetOf_congr hS2 (fun k => ?_) ?_
      · rw [List.any_cons, Bool.or_comm]
        congr 1
        by_cases e : k = (⟨#[c']⟩ : Str)
        · subst e; simp
        · have ne : ((⟨#[c']⟩ : Str) == k) = false := by
            rw [beq_eq_false_iff_ne]
            exact fun z => e z.symm
          rw [ne, decide_eq_false e]
      · rfl
    refine wpAny_pure ⟨plainId_quiet F.plain_set_update_loop _, ih (done ++ [c']) _ (by rw [hx, List.append_assoc]; rfl) ?_ hS3 fun s2 hm2 hS4 => ?_⟩
    · rw [List.length_append, List.length_singleton]
      refine W.frame _ s' _ _ hst' (Nat.le_succ _) fun b hb o e => ?_
      rw [hsb.2 b (fun z : b = S => away (by rw [← z]; exact hb))]
      exact e
    · refine hR s2 (Moved.trans W.gtrans ((hm.mono more).then_heap (Nat.le_succ _) fun b o hb e => ?_) hm2) hS4
      rw [hsb.2 b (fun z : b = S => hb (by rw [z]; exact List.mem_cons_self))]
      exact e
end
section
variable {prog : Program} {w : World} {A : Around} {E : Value → Shared → Prop} {s : Shared}
open PySem.Spec
/-- set(text) -/
theorem call_set_text {x : Str} {t : Tok} {Q : Value → Shared → Prop} (hh : A.handled = none) (small : x.cps.toList.length < 4000)
    (told : ∀ (h' : Heap) (tk : Nat), h'.SetOf (PySem.strKind prog w) s.heap.objs.size (fun k => ((x.cps.toList.reverse).map fun c => (⟨#[c]⟩ : Str)).any (· == k)) (distinct ((x.cps.toList.reverse).map fun c => (⟨#[c]⟩ : Str))) →
      (∀ b o, b < s.heap.objs.size → s.heap.get? b = some o → h'.get? b = some o) → Q (.ref s.heap.objs.size) { s with heap := h', toks := tk }) :
    wpAny (model prog w) A (call (.type "set") [.str x t]) Q E s := by
  obtain ⟨c0, tl0, k_mro⟩ := PySem.F.called_set.mro
  have k_made := PySem.F.called_set.made
  have k_sub := PySem.F.called_set.sub
  refine wpAny_call (codeAny_of_tree ?_)
  show wpAny _ _ (callAny (.type "set") _) _ _ _
  refine wpAny_pure ⟨Code.quiet_builtin _ (by decide +kernel), codeAny_builtin PySem.F.entry_type_call ?_⟩
  rw [Around.under_plain (weight_type_call_type "set" [.str x t] []) rfl]
  have k_not := PySem.F.called_set.notType
  have k_can := PySem.F.called_set.canCreate
  have k_chk := PySem.F.typeCall_set_1 (.str x t)
  repeat (any_goals (first | assumption | wp_step))
  refine codeAny_mono (code_set_new_1 (.str x t) (E := E) (Q₁ := fun obj s1 => ∃ led : Bool, obj = .ref s.heap.objs.size ∧ s1 = { s with heap := s.heap.push { cls := .type "set", dict := none, data := .set #[] 0 (.fresh 0 0 led) } }) fun led => ⟨led, rfl, rfl⟩) fun r s1 hr => ?_
  cases r with
  | error e => exact hr
  | ok fl =>
    cases fl <;> first | exact hr.elim | skip
    rename_i obj
    obtain ⟨led, rfl, rfl⟩ := hr
    have atS : (s.heap.push { cls := .type "set", dict := none, data := .set #[] 0 (.fresh 0 0 led) }).get? s.heap.objs.size = some { cls := .type "set", dict := none, data := .set #[] 0 (.fresh 0 0 led) } := Heap.get?_push_size _ rfl
    have tyS : Shared.TypeIs { s with heap := s.heap.push { cls := .type "set", dict := none, data := .set #[] 0 (.fresh 0 0 led) } } (.ref s.heap.objs.size) "set" := ⟨_, atS, rfl⟩
    have k_look := PySem.F.called_set.init.lookup
    have k_bind := PySem.F.called_set.init.bind (.ref s.heap.objs.size)
    repeat (any_goals (first | assumption | wp_step))
    refine codeAny_mono (codeAny_call_builtin (R := wants (fun r s2 => r = .none ∧ ∃ h' tk, s2 = { s with heap := h', toks := tk } ∧
        h'.SetOf (PySem.strKind prog w) s.heap.objs.size (fun k => ((x.cps.toList.reverse).map fun c => (⟨#[c]⟩ : Str)).any (· == k)) (distinct ((x.cps.toList.reverse).map fun c => (⟨#[c]⟩ : Str))) ∧
        (∀ b o, b < s.heap.objs.size → s.heap.get? b = some o → h'.get? b = some o)) E) PySem.F.called_set.init.plain PySem.F.entry_set_init (check_set_init_1 tyS ?_)) fun r2 s2 hr2 => ?_
    · have no1 := PySem.F.sub_str_set
      have no2 := PySem.F.sub_str_frozenset
      have no3 : (Value.type "str" == Value.type "dict") = false := by decide
      unfold Builtin.«set.__init__» noKeywords Builtin.Frozenset.updateFrom
      generalize hPI : pyIter = PI
      wp_walk
      subst hPI
      refine wpAny_pyIter_str fun o St W hst => ?_
      refine wpAny_bind (wpAny_runValue ?_)
      have calm3 : A.in1.in1.in1.handled = none := by simp [hh]
      have apart : s.heap.objs.size ∉ [(s.heap.push { cls := .type "set", dict := none, data := .set #[] 0 (.fresh 0 0 led) }).objs.size] := by
        rw [Heap.size_push, List.mem_singleton]
        exact Nat.ne_of_lt (Nat.lt_succ_self _)
      refine fill_signs (W _ calm3).toS s.heap.objs.size apart (by rw [Array.length_toList]) (by rw [Array.length_toList] at small; exact small) x.cps.toList [] _ rfl hst ?hS0 ?hR
      case hS0 =>
        have at2 := Heap.get?_push_of_some o atS
        exact SetOf_congr ((setObjOf_fresh (knd := PySem.strKind prog w) led).setOf at2 (by unfold scanBound; omega)) (fun _ => rfl) rfl
      case hR =>
        intro s2 hm hS
        obtain ⟨h2, g2, d2, tk2, os2⟩ := s2
        have eg : g2 = s.gens := hm.gens
        have ed : d2 = s.drawn := hm.drawn
        have eo : os2 = s.os := hm.os
        subst eg ed eo
        refine wpAny_pure ?_
        show wpAny _ _ (ret Value.none) _ _ _
        refine wpAny_pure ⟨rfl, h2, tk2, rfl, hS, fun b o' hb e => ?_⟩
        refine hm.heap b o' (fun hin => ?_) (Heap.get?_push_of_some _ (Heap.get?_push_of_some _ e))
        rcases List.mem_cons.mp hin with z | z
        · exact Nat.ne_of_lt hb z
        · rw [List.mem_singleton, Heap.size_push] at z
          exact Nat.ne_of_lt (Nat.lt_succ_of_lt hb) z
    · cases r2 with
      | error e => exact hr2
      | ok fl2 =>
        cases fl2 <;> first | exact hr2.elim | skip
        obtain ⟨rfl, h', tk, rfl, hS, hk⟩ := hr2
        repeat (any_goals (first | assumption | wp_step))
        exact told _ _ hS hk
end
/-- how many unlike signs -/
def unlike (z : Str) : Nat := distinct ((z.cps.toList.reverse).map fun c => (⟨#[c]⟩ : Str))
def tLenSetT (ta : TE) : TE := fun σ H Q => ta σ H fun x H1 => ∃ z : Str, x = .str z ∧ z.cps.toList.length < 4000 ∧ Q (.int (unlike z : Nat)) H1
theorem pe_lenSetT {X : Cx} {a : Expr} {ta : TE} {p p2 q pos : Pos} (hc : X.calm = true) (hg : Gl X "len") (hm : X.mg "len" = none) (hg2 : Gl X "set") (hm2 : X.mg "set" = none) (ha : PE X a ta)
    (na : starEach [a] X.env = (false, eval a X.env) :: starEach [] X.env := by rfl) : PE X (.Call (.Name "len" p) [.Call (.Name "set" p2) [a] [] q] [] pos) (tLenSetT ta) := by
  refine ⟨fun pins s σ H Q I h => ?_⟩
  refine Call_ (ld_blt I hg hm boot_len (callWith_builtin1 (args_cons ?_ rfl) rfl rfl))
  refine Call_ (ld_blt I hg2 hm2 boot_set (callWith_type1 (args_cons (thn (ha.run pins s σ H _ I h) fun v s1 ⟨x, H1, I1, r1, q1⟩ => args_nil ?_) na) na rfl))
  obtain ⟨z, rfl, small, q1⟩ := q1
  obtain ⟨t, rfl⟩ := r1
  refine call_set_text (I1.ok.hd hc) small fun h' tk hS hk => args_nil ?_
  obtain ⟨o, es, ep, tb, ho, hex, hd, _, _, _, hf, hn⟩ := hS
  have I2 : Inv X pins σ H1 { s1 with heap := h', toks := tk } := I1.kept fun b o e => hk b o (Heap.lt_size e) e
  have le := distinct_le ((z.cps.toList.reverse).map fun c => (⟨#[c]⟩ : Str))
  rw [List.length_map, List.length_reverse] at le
  exact call_len_set ho hex hd hf (by rw [hn] <;> omega) ⟨.int (unlike z : Nat), H1, I2.tok _, ⟨_, by rw [hn]; rfl⟩, q1⟩
def wLenSet (we : WE) : WE := fun ρ m Q Qx => we ρ m (fun d m1 => match d with
  | .str z => z.cps.toList.length < 4000 ∧ Q (.int (unlike z : Nat)) m1
  | _ => False) Qx
theorem pd_lenSet {K : Fg} {W : Wx} {ι : Type} {X : ι → Cx} {mg : Str → Option Value} {a : Expr} {wa : WE} {p p2 q pos : Pos} (hc : ∀ i, (X i).calm = true) (hX : ∀ i, (X i).mg = mg) (hm : mg "len" = none) (hm2 : mg "set" = none) (ha : PD K W X a wa) (hg : ∀ i, Gl (X i) "len" := by intro _; rfl) (hg2 : ∀ i, Gl (X i) "set" := by intro _; rfl)
    (na : ∀ i, starEach [a] (X i).env = (false, eval a (X i).env) :: starEach [] (X i).env := by intro _; rfl) : PD K W X (.Call (.Name "len" p) [.Call (.Name "set" p2) [a] [] q] [] pos) (wLenSet wa) := by
  obtain ⟨t, h1, h2⟩ := ha
  refine ⟨tLenSetT t, fun i => pe_lenSetT (hc i) (hg i) (by rw [hX i]; exact hm) (hg2 i) (by rw [hX i]; exact hm2) (h1 i) (na i), ?_⟩
  intro G m F H σ ρ Q Qd Qx hW hE h hXx hQ
  refine h2 G m F H σ ρ _ _ Qx hW hE h hXx ?_
  intro d m1 x G1 H1 q e1 W1 r1
  cases r1 <;> first | exact (show False from q).elim | skip
  exact ⟨_, rfl, q.1, hQ _ m1 _ G1 H1 q.2 e1 W1 (.int _)⟩
/-- all signs unlike: just as many -/
theorem distinct_all : ∀ l : List Str, distinct l = l.length ↔ l.Nodup
  | [] => by simp [distinct]
  | x :: l => by
    have le := distinct_le l
    have ih := distinct_all l
    rw [List.nodup_cons, List.length_cons]
    unfold distinct
    by_cases c : x ∈ l
    · have e : l.any (· == x) = true := by simpa using c
      rw [e]
      constructor
      · intro z; simp at z; omega
      · intro z; exact absurd c z.1
    · have e : l.any (· == x) = false := by
        rw [Bool.eq_false_iff]
        intro z
        exact c (by simpa using z)
      rw [e]
      constructor
      · intro z; simp at z; exact ⟨c, ih.mp z⟩
      · intro z; simp; exact ih.mpr z.2
end DL
/-! XU: tuple(box), truth, constants of the module -/
namespace DL
open PySem L2 XO
open Evl (Ex)
section
variable {K : Fg} {W : Wx} {ι : Type} {X : ι → Cx} {pos : Pos} {a b c e : Expr} {es : List Expr} {wa wb wc w : WE} {wr : WA}
/-! tuple, list of what may be a box -/
def dTupleM : WC := fun xs m Q => match xs with
  | [.box a] => ∃ ds, m a = some ds ∧ Q (.tup ds) m
  | xs => dTuple xs m Q
def dListM : WC := fun xs m Q => match xs with
  | [.box a] => ∃ ds, m a = some ds ∧ Q (.lst ds) m
  | xs => dList xs m Q
theorem b_tupleM (hK : ∀ i, (X i).K = K) : BiU K X (.type "tuple") dTupleM := by
  refine ⟨_, fun i => hK i ▸ call_tuple_of, ?_⟩
  intro G m F H xs ds Q Qd hW r h hQ
  unfold dTupleM at h
  split at h
  · obtain ⟨ds, hm, q⟩ := h
    obtain ⟨_, _, ys, hy, ry⟩ := hW.own _ ds hm
    cases r with
    | cons r1 t =>
      cases t
      cases r1
      exact ⟨_, _, rfl, Or.inl ⟨SqL.of hy, hQ.tup hW q ry⟩⟩
  · unfold dTuple at h
    split at h
    · cases r with
      | cons r1 t =>
        cases t
        cases r1 with
        | lst hx rr => exact ⟨_, _, rfl, Or.inl ⟨SqL.of (hW.ex _ _ hx), hQ.tup hW h rr⟩⟩
    · cases r with
      | cons r1 t =>
        cases t
        cases r1 with
        | tup hx rr => exact ⟨_, _, rfl, Or.inr ⟨Evl.ex_t hW.ex hx, hQ.here hW h (.tup hx rr)⟩⟩
    · cases h
theorem b_listM (hK : ∀ i, (X i).K = K) : BiU K X (.type "list") dListM := by
  refine ⟨_, fun i => hK i ▸ call_list_of, ?_⟩
  intro G m F H xs ds Q Qd hW r h hQ
  unfold dListM at h
  split at h
  · obtain ⟨ds, hm, q⟩ := h
    obtain ⟨_, _, ys, hy, ry⟩ := hW.own _ ds hm
    cases r with
    | cons r1 t =>
      cases t
      cases r1
      exact ⟨_, _, rfl, Or.inl (SqL.of hy), hQ.lst hW q ry⟩
  · unfold dList at h
    split at h
    · cases r with
      | cons r1 t =>
        cases t
        cases r1 with
        | lst hx rr => exact ⟨_, _, rfl, Or.inl (SqL.of (hW.ex _ _ hx)), hQ.lst hW h rr⟩
    · cases r with
      | cons r1 t =>
        cases t
        cases r1 with
        | tup hx rr => exact ⟨_, _, rfl, Or.inr (Evl.ex_t hW.ex hx), hQ.lst hW h rr⟩
    · cases h
/-! if xs: -/
def truD (m : Mem) : D → Option Bool
  | .non => some false
  | .bl b => some b
  | .int i => some (i != 0)
  | .str z => if z.length ≤ 1000000 then some ((z.length : Int) != 0) else none
  | .lst ds => some (!ds.isEmpty)
  | .tup ds => some (!ds.isEmpty)
  | .scr ns => some (!ns.isEmpty)
  | .box a => (m a).map fun ds => !ds.isEmpty
  | .dct ks _ => some (!ks.isEmpty)
  | _ => none
theorem empty_of {G : Hp} {xs : List V} {ds : List D} (r : RpA K G xs ds) : (!ds.isEmpty) = !xs.isEmpty := by
  cases r <;> rfl
theorem tru_of {G F H : Hp} {m : Mem} {v : V} {d : D} {k : Bool} (hW : Wd K G m F H) (r : Rp K G v d) (h : truD m d = some k) : TruV K v H k := by
  cases r with
  | non => cases h; rfl
  | bl b => cases h; rfl
  | int i => cases h; rfl
  | str z =>
    have h : (if z.length ≤ 1000000 then some ((z.length : Int) != 0) else none) = some k := h
    by_cases hz : z.length ≤ 1000000
    · rw [if_pos hz] at h
      cases h
      exact ⟨by rw [sizeLine_eq]; omega, rfl⟩
    · rw [if_neg hz] at h
      cases h
  | ty n => cases h
  | lst hx rr => cases h; exact Or.inl ⟨_, SqL.of (hW.ex _ _ hx), empty_of rr⟩
  | tup hx rr => cases h; exact Or.inr (Or.inl ⟨_, Evl.ex_t hW.ex hx, empty_of rr⟩)
  | dct hx h1 h2 rr => cases h; exact Or.inr (Or.inr ⟨_, hW.ex _ _ hx, by rw [← h1, List.isEmpty_map]⟩)
  | scr hx => cases h; exact Or.inl ⟨_, Evl.ex_l hW.ex hx, by rw [List.isEmpty_map]⟩
  | box a =>
    have h : (m a).map (fun ds => !ds.isEmpty) = some k := h
    cases e : m a with
    | none => rw [e] at h; cases h
    | some ds =>
      rw [e] at h
      cases h
      obtain ⟨_, _, ys, hy, ry⟩ := hW.own _ ds e
      exact Or.inl ⟨_, SqL.of hy, empty_of ry⟩
  | obj _ _ _ _ _ => cases h
def wTru (w : WE) : WT := fun ρ m Q Qx => w ρ m (fun d m1 => ∃ k, truD m1 d = some k ∧ Q k m1) Qx
theorem pt_tru (hK : ∀ i, (X i).K = K) (ha : PD K W X a wa) (he : ∀ i whole, isTrue a (X i).env whole = (do let v ← whole; standAt a.pos; holding [v] (truthy v)) := by intro _ _; rfl) : PDT K W X a (wTru wa) := by
  obtain ⟨t, h1, h2⟩ := ha
  refine ⟨fun σ H Q => t σ H fun x H' => ∃ k, TruV K x H' k ∧ Q k H', fun i => by have q := pt_truth (h1 i) (he i); rw [hK i] at q; exact q, ?_⟩
  intro G m F H σ ρ Q Qd Qx hW hE h hX hQ
  refine h2 G m F H σ ρ _ _ Qx hW hE h hX ?_
  rintro d m1 x G1 H1 ⟨k, hk, q⟩ e1 W1 r1
  exact ⟨k, tru_of W1 r1 hk, hQ k m1 G1 H1 q e1 W1⟩
/-! a tuple of texts that is a constant of the module -/
theorem pd_globTs {mg : Str → Option Value} {x : Str} {ss : List Str} {at_ : Addr} {o : Obj} {its : Array Value} {n : Nat} (hX : ∀ j, (X j).mg = mg) (hm : mg x = some (.ref at_)) (lk : K.lookup at_ = some o) (oc : o.cls = .type "tuple") (od : o.data = .seq its n) (hz : its.size ≤ sizeLine) (hv : Vals (ss.map V.str) its.toList)
    (hg : ∀ j, Gl (X j) x := by intro _; rfl) (hd : (x == ("__debug__" : Str)) = false := by decide) : PD K W X (.Name x pos) (wC (.tup (ss.map D.str))) :=
  pd_glob (v := V.ref at_) hX hm rfl (fun G => .tup (Or.inr ⟨o, its, n, lk, oc, od, hz, hv⟩) (rp_strs ss)) hg hd
end
end DL
/-! XV: dicts with several texts as keys, d[k]; enumerate(list) -/
namespace DL
open PySem L2 XO
open Evl (Ex)
section
variable {K : Fg} {W : Wx} {ι : Type} {X : ι → Cx} {pos : Pos} {a b c e : Expr} {es : List Expr} {wa wb wc w : WE} {wr : WA}
def PPD (K : Fg) (W : Wx) {ι : Type} (X : ι → Cx) (pos : Pos) (keys : List (Option Expr)) (values : List Expr) (ks : List Str) (wr : WA) : Prop := ∃ trs, (∀ i, PPs (X i) pos keys values trs) ∧
  ∀ G m F H σ ρ (Q : List (V × V) → Hp → Prop) (Qd : List D → Mem → Prop) (Qx : XQ), Wd K G m F H → En K G σ ρ → wr ρ m Qd Qx → FitX K W G F Qx →
    (∀ ds m' vs G' H', Qd ds m' → Ex G G' → Wd K G' m' F H' → RpA K G' vs ds → vs.length = ks.length → Q ((ks.zip vs).map fun p => (V.str p.1, p.2)) H') → tPairs trs σ H Q
theorem ppd_nil : PPD K W X pos [] [] [] wNil := ⟨[], fun _ => pps_nil, fun G m F H σ ρ Q Qd Qx hW hE h hX hQ => hQ [] m [] G H h (Ex.refl G) hW .nil rfl⟩
theorem ppd_cons {k : Str} {j : Nat} {pk : Pos} {v : Expr} {wv : WE} {keys : List (Option Expr)} {values : List Expr} {ks : List Str} (hv : PD K W X v wv) (hr : PPD K W X pos keys values ks wr) : PPD K W X pos (some (.Constant (.str k) j pk) :: keys) (v :: values) (k :: ks) (wCons wv wr) := by
  obtain ⟨tv, h1, h2⟩ := hv
  obtain ⟨trs, r1, r2⟩ := hr
  refine ⟨_, fun i => pps_cons pe_str (h1 i) (r1 i), ?_⟩
  intro G m F H σ ρ Q Qd Qx hW hE h hX hQ
  show tv σ H _
  refine h2 G m F H σ ρ _ _ Qx hW hE h hX ?_
  intro d m1 y G1 H1 q e1 W1 ry
  refine r2 G1 m1 F H1 σ ρ _ _ Qx W1 (hE.mono e1) q (hX.mono e1) ?_
  intro ds m2 vs G2 H2 q2 e2 W2 r hl
  exact hQ _ m2 _ G2 H2 q2 (e1.trans e2) W2 (.cons (ry.mono e2) r) (congrArg (· + 1) hl)
theorem valV_out {ks : List Str} {vs : List V} {k : Str} (h : k ∉ ks) : valV ((ks.zip vs).map fun p => ((.inr p.1 : Key), p.2)) (.inr k) = none := by
  unfold valV
  rw [List.find?_eq_none.mpr ?_]
  · rfl
  · intro x hx
    obtain ⟨p, hp, rfl⟩ := List.mem_map.mp hx
    have := (List.of_mem_zip hp).1
    simp only [decide_eq_true_eq]
    intro z
    cases z
    exact h this
theorem merge_new : ∀ (ks : List Str) (vs : List V) (pre : List Str) (pvs : List V), pre.length = pvs.length → ks.length = vs.length → (pre ++ ks).Nodup →
    mergeK ((pre.zip pvs).map fun p => ((.inr p.1 : Key), p.2)) ((ks.zip vs).map fun p => ((.inr p.1 : Key), p.2)) = ((pre ++ ks).zip (pvs ++ vs)).map fun p => ((.inr p.1 : Key), p.2)
  | [], [], pre, pvs, _, _, _ => by rw [List.append_nil, List.append_nil]; rfl
  | [], _ :: _, _, _, _, h, _ => by cases h
  | _ :: _, [], _, _, _, h, _ => by cases h
  | k :: ks, v :: vs, pre, pvs, hp, h, nd => by
    have hk : k ∉ pre := fun z => (List.nodup_append.mp nd).2.2 k z k List.mem_cons_self rfl
    have e : mergeK ((pre.zip pvs).map fun p => ((.inr p.1 : Key), p.2)) (((k :: ks).zip (v :: vs)).map fun p => ((.inr p.1 : Key), p.2)) = mergeK (putK ((pre.zip pvs).map fun p => ((.inr p.1 : Key), p.2)) (.inr k) v) ((ks.zip vs).map fun p => ((.inr p.1 : Key), p.2)) := rfl
    rw [e, putK_new v (valV_out hk)]
    have e2 : ((pre.zip pvs).map fun p => ((.inr p.1 : Key), p.2)) ++ [((.inr k : Key), v)] = (((pre ++ [k]).zip (pvs ++ [v])).map fun p => ((.inr p.1 : Key), p.2)) := by
      rw [List.zip_append hp, List.map_append]
      rfl
    rw [e2, merge_new ks vs (pre ++ [k]) (pvs ++ [v]) (by rw [List.length_append, List.length_append, hp]; rfl) (by simpa using h) (by rw [List.append_assoc]; exact nd), List.append_assoc, List.append_assoc]
    rfl
/-- {'k': v, ..} -/
def wDctN (ks : List Str) (wr : WA) : WE := fun ρ m Q Qx => wr ρ m (fun ds m1 => Q (.dct (ks.map .inr) ds) m1) Qx
theorem pd_dctN {keys : List (Option Expr)} {values : List Expr} {ks : List Str} (h : PPD K W X pos keys values ks wr) (nd : ks.Nodup := by decide) (hz : ks.length ≤ 15 := by decide) (hall : keys.all (·.isSome) = true := by rfl) (hl : keys.length = values.length := by rfl) (h0 : keys ≠ [] := by exact fun z => nomatch z) (h15 : keys.length ≤ 15 := by decide) : PD K W X (.Dict keys values pos) (wDctN ks wr) := by
  obtain ⟨trs, h1, h2⟩ := h
  refine ⟨_, fun i => pe_disp (h1 i) hall hl h0 h15, ?_⟩
  intro G m F H σ ρ Q Qd Qx hW hE h hX hQ p hp
  obtain ⟨hG, hm, hF⟩ := hW.fresh hp
  have W0 := hW.frame hp (.dK [])
  refine h2 G m (upd F p (.dK [])) _ σ ρ _ _ Qx W0 hE h (hX.frame hF) ?_
  intro ds m1 vs G1 H1 q e1 W1 r hlen
  have hlen2 : ks.length = vs.length := hlen.symm
  refine ⟨W1.fr p _ upd_same, (ks.zip vs).map fun p => ((.inr p.1 : Key), p.2), by rw [List.map_map]; rfl, by rw [List.length_map, List.length_zip]; omega, ?_⟩
  have em := merge_new ks vs [] [] rfl hlen2 nd
  have em : mergeK [] ((ks.zip vs).map fun p => ((.inr p.1 : Key), p.2)) = (ks.zip vs).map fun p => ((.inr p.1 : Key), p.2) := em
  rw [em]
  have W2 := W1.reframe (.dK ((ks.zip vs).map fun p => ((.inr p.1 : Key), p.2)))
  obtain ⟨e3, W3⟩ := W2.adopt hF
  have k1 : ((ks.zip vs).map fun p => ((.inr p.1 : Key), p.2)).map (·.1) = ks.map .inr := by
    rw [List.map_map]
    have : ((·.1) ∘ fun p : Str × V => ((.inr p.1 : Key), p.2)) = (fun s : Str => (.inr s : Key)) ∘ Prod.fst := rfl
    rw [this, ← List.map_map, List.map_fst_zip (by omega)]
  have k2 : ((ks.zip vs).map fun p => ((.inr p.1 : Key), p.2)).map (·.2) = vs := by
    rw [List.map_map]
    have : ((·.2) ∘ fun p : Str × V => ((.inr p.1 : Key), p.2)) = Prod.snd := rfl
    rw [this, List.map_snd_zip (by omega)]
  exact hQ _ m1 _ _ _ q (e1.trans e3) W3 (.dct upd_same k1 k2 (r.mono e3))
/-! d[k] -/
def findD : List Key → List D → Key → Option D
  | k :: ks, d :: ds, x => if k = x then some d else findD ks ds x
  | _, _, _ => none
def wDGet (we wi : WE) : WE := fun ρ m Q Qx => we ρ m (fun x m1 => wi ρ m1 (fun y m2 => match x, y with
  | .dct ks ds, .str s => ∃ d, findD ks ds (.inr s) = some d ∧ Q d m2
  | .dct ks ds, .int i => ∃ d, findD ks ds (.inl i) = some d ∧ Q d m2
  | _, _ => False) Qx) Qx
theorem find_of {G : Hp} {x : Key} : ∀ {kvs : List (Key × V)} {ds : List D} {d : D}, RpA K G (kvs.map (·.2)) ds → findD (kvs.map (·.1)) ds x = some d → ∃ v, valV kvs x = some v ∧ Rp K G v d
  | [], _, _, r, h => by cases r; cases h
  | (k, v) :: kvs, _, d, r, h => by
    cases r with
    | cons r t =>
      have h : (if k = x then some _ else findD (kvs.map (·.1)) _ x) = some d := h
      by_cases c : k = x
      · rw [if_pos c] at h
        cases h
        exact ⟨v, valV_pos c, r⟩
      · rw [if_neg c] at h
        obtain ⟨u, hu, ru⟩ := find_of t h
        refine ⟨u, ?_, ru⟩
        unfold valV at hu ⊢
        rw [List.find?_cons_of_neg (by simpa using c)]
        exact hu
theorem pd_dget {P : Program} {wo : World} {mg : Str → Option Value} {base : Heap} {k : Nat} {N : List Str} (hX : Fam P wo K mg base k N X) (ha : PD K W X a wa) (hb : PD K W X b wb) (hs : NoSl b := by exact fun _ _ => rfl) : PD K W X (.Subscript a b pos) (wDGet wa wb) := by
  obtain ⟨ta, a1, a2⟩ := ha
  obtain ⟨tb, b1, b2⟩ := hb
  refine ⟨_, fun i => pe_dget (by have := (hX.room i).un; omega) (a1 i) (b1 i) hs, ?_⟩
  intro G m F H σ ρ Q Qd Qx hW hE h hXx hQ
  refine a2 G m F H σ ρ _ _ Qx hW hE h hXx ?_
  intro x m1 xv G1 H1 q1 e1 W1 r1
  refine b2 G1 m1 F H1 σ ρ _ _ Qx W1 (hE.mono e1) q1 (hXx.mono e1) ?_
  intro y m2 yv G2 H2 q2 e2 W2 r2
  have r1 := r1.mono e2
  cases r1 <;> first | exact (show False from q2).elim | skip
  rename_i a0 kvs ks vs ds hg h1 h2 rr
  subst h1 h2
  cases r2 <;> first | exact (show False from q2).elim | skip
  · obtain ⟨d, hf, q⟩ := q2
    obtain ⟨v, hv, rv⟩ := find_of rr hf
    exact ⟨a0, v, rfl, Or.inl ⟨kvs, _, Or.inl (W2.ex _ _ hg), rfl, hv.symm⟩, hQ d m2 v G2 H2 q (e1.trans e2) W2 rv⟩
  · obtain ⟨d, hf, q⟩ := q2
    obtain ⟨v, hv, rv⟩ := find_of rr hf
    exact ⟨a0, v, rfl, Or.inl ⟨kvs, _, Or.inl (W2.ex _ _ hg), rfl, hv.symm⟩, hQ d m2 v G2 H2 q (e1.trans e2) W2 rv⟩
end
end DL
/-! XW: a try with several «except C as e» -/
namespace DL
open PySem L2 XO PySem.Spec PyProof.Rows
open Evl (Ex)
abbrev HTs := Addr → Value → Option Addr → TS
inductive HdsAs (X : Cx) (n : Str) : List ExceptHandler → List (Value × HTs) → Prop
  | nil : HdsAs X n [] []
  | cons {x : Str} {c : Value} {ts : HTs} {b0 : Stmt} {suite : List Stmt} {np pos' : Pos} {hds : List ExceptHandler} {l : List (Value × HTs)} (hc : Names X x c)
      (hsu : ∀ (a : Addr) (oe : Obj) (cls : Value) (d : Option Addr) (pn : List (Addr × Obj)), Zc cls d oe → (∃ vs, oe.data = .fields vs) → PSs (X.suite a ((a, oe) :: pn)) (b0 :: suite) (ts a cls d)) (r : HdsAs X n hds l) :
      HdsAs X n (.ExceptHandler (some (.Name x np)) (some n) (b0 :: suite) pos' :: hds) ((c, ts) :: l)
/-- the clauses from the left -/
def wAsL (K : Fg) (i : Nat) (Wout : WX) (D : Ends) : List (Value × HTs) → WX
  | [] => Wout
  | (c, ts) :: r => fun cls d σ H => ∃ b, PySem.W.exmOne K cls c = some b ∧
      (b = true → ∀ a, H a = none → ts a cls d { nx := fun σ' H' => D.nx (σ'.set i none) H', rt := D.rt, bk := fun σ' H' => D.bk (σ'.set i none) H', ct := fun σ' H' => D.ct (σ'.set i none) H' } (σ.set i (some (.ref a))) H) ∧
      (b = false → wAsL K i Wout D r cls d σ H)
section
variable {X : Cx} {n : Str} {i : Nat} {Wout : WX} {D : Ends}
theorem catches (hs : X.stack = X.env :: X.outer) (hf : X.env.frame = some X.env.locals) (hN : X.N.Nodup) (hi : X.N[i]? = some n) (hln : X.env.kindOf n = some .local) (tk : L2.Takes X Wout)
    {pins : List (Addr × Obj)} {sI s' : Shared} {σ' : L2.St} {H' : Hp} {cls : Value} {d : Option Addr} {a : Addr} {B h3 : Heap} (ok : X.Ok) (J : Inv X pins σ' H' sI) (nb : ∀ b o, sI.heap.get? b = some o → b ∉ frs X.stack → B.get? b = some o) (up : sI.heap.UpToSlots s'.heap) (na : H' a = none) (os : s'.os = sI.os) (ag : AllBare s'.gens)
    (fl3 : HandSPX.FlyingZ B (X.env :: X.outer) a (Zc cls d) h3) (up3 : s'.heap.UpToSlots h3) : ∀ {hds : List ExceptHandler} {l : List (Value × HTs)}, HdsAs X n hds l → wAsL X.K i Wout D l cls d σ' H' →
    wpAny (model X.prog X.w) X.A (handleBy (.ref a) X.env hds) (SP X pins D) X.xe { s' with heap := h3 } := by
  have J3 : Inv X pins σ' H' { s' with heap := h3 } := J.landed nb fl3.1 (up.trans up3) os ag
  obtain ⟨oe3, vs3, he3, hz3, hd3⟩ := fl3.there
  have apart : ∀ {h : Heap} {o : Obj} {vs : Array Value}, h.FunFrames B (X.env :: X.outer) → h.get? a = some o → o.data = .fields vs → a ∉ frs (X.env :: X.outer) := by
    intro h o vs ff e dd hm
    obtain ⟨_, o', e', hnf⟩ := ff.mem hm
    cases e.symm.trans e'
    exact hnf _ dd
  have nfr := apart fl3.2.2.1 he3 hd3
  have nL : a ≠ X.env.locals := fun z => nfr (List.mem_filterMap.mpr ⟨X.env, List.mem_cons_self, hf.trans (congrArg some z.symm)⟩)
  have nF : a ∉ X.fs := by
    intro hm
    obtain ⟨e, he, q⟩ := List.mem_filterMap.mp hm
    exact nfr (List.mem_filterMap.mpr ⟨e, List.mem_cons_of_mem _ he, q⟩)
  have S3 := J3.suite he3 hd3 na nL nF
  have looks : PySem.W.Looks (model X.prog X.w) h3 (typeOf (.ref a)) cls := fun A Q E s k q => wpAny_typeOf_ref (k _ _ he3) (hz3.1.symm ▸ q)
  intro hds l hh
  induction hh with
  | nil =>
    intro hw
    refine wpAny_handleBy_nil ?_
    obtain ⟨_, _, _, oe, vs, T, oT, ts', he, hz, hd, h1, hr⟩ := id fl3
    unfold PySem.passOn
    refine wpAny_bind (wpAny_field he hd h1 ?_)
    rw [if_neg (show ¬ ((Value.ref T == Value.none) = true) from by simp)]
    have out : wpAny (model X.prog X.w) X.A (setFlight (.ref a) X.env.frame) (fun _ s4 => wpAny (model X.prog X.w) X.A (throw (.ref a) : Sem Flow) (SP X pins D) X.xe s4) X.xe { s' with heap := h3 } := by
      rw [hf]
      refine HandSPX.setFlight_upZ fl3 fun h4 hh4 up4 => wpAny_throw (tk _ _ ⟨a, B, sI, pins, σ', H', cls, d, rfl, J, nb, (up.trans up3).trans up4, .inr (.inr (hs ▸ hh4)), na, os, ag, hw⟩)
    first | exact wpAny_bind (wpAny_pure (wpAny_bind out)) | exact wpAny_bind out
  | cons hc hsu r ih =>
    rename_i x c ts b0 suite np pos' hds l
    rintro ⟨b, hb, hyes, hno⟩
    have looksM := PySem.W.exm_one (M := model X.prog X.w) J3.kIn looks hb
    refine wpAny_handleBy_cons (codeAny_handlers_test ?_) (by intro q; cases q)
    have test : ∀ {Q E : Value → Shared → Prop}, Q c { s' with heap := h3 } → wpAny (model X.prog X.w) (X.A.mark (some (.ref a))) (eval (.Name x np) X.env) Q E { s' with heap := h3 } := by
      intro Q E q
      obtain ⟨hg, hdbg, hm | ⟨hm, hv, hnn⟩⟩ := hc
      · exact ld_glob (X := X.suite a ((a, oe3) :: (X.pn ++ pins))) S3 hg hm q hdbg
      · exact ld_blt (X := X.suite a ((a, oe3) :: (X.pn ++ pins))) S3 hg hm hv q hnn hdbg
    refine test (looksM.here ?_)
    cases b with
    | false => exact ih (hno rfl)
    | true =>
      refine codeAny_handlers_suite_as (HandSPX.lands_againZ fl3 fun h4 fl4 up4 => ?_)
      have J4 : Inv X pins σ' H' { s' with heap := h4 } := J.landed nb fl4.1 ((up.trans up3).trans up4) os ag
      obtain ⟨oe4, vs4, he4, hz4, hd4⟩ := fl4.there
      have S4 := J4.suite he4 hd4 na nL nF
      refine store_ok (X := X.suite a ((a, oe4) :: (X.pn ++ pins))) (v := .ref a) S4 hN hi (.inl hln) rfl (fun s5 S5 => ?_) (.inr hln)
      refine wpAny_mono ((hsu a oe4 cls d (X.pn ++ pins) hz4 ⟨_, hd4⟩).run [] s5 _ H' _ S5 (hyes rfl a na)) (fun f s6 hsp => ?_) (fun _ _ z => z.elim)
      have gone : ∀ {σ6 : L2.St} {H6 : Hp} {Q : Shared → Prop}, Inv (X.suite a ((a, oe4) :: (X.pn ++ pins))) [] σ6 H6 s6 → (∀ s7, Inv X pins (σ6.set i none) H6 s7 → Q s7) →
          wpAny (model X.prog X.w) X.A (do bindName X.env n .none; unbindBehindTheSuite X.env n pos') (fun _ s7 => Q s7) X.xe s6 := fun S6 hq => gone_ok (S6.unsuite ok) hN hi hln hq
      cases f with
      | ret u =>
        obtain ⟨v6, σ6, H6, S6, r6, q6⟩ := hsp
        exact gone S6 fun s7 J7 => ⟨_, _, _, J7, r6, q6⟩
      | next => obtain ⟨σ6, H6, S6, q6⟩ := hsp; exact gone S6 fun s7 J7 => ⟨_, _, J7, q6⟩
      | brk => obtain ⟨σ6, H6, S6, q6⟩ := hsp; exact gone S6 fun s7 J7 => ⟨_, _, J7, q6⟩
      | cont => obtain ⟨σ6, H6, S6, q6⟩ := hsp; exact gone S6 fun s7 J7 => ⟨_, _, J7, q6⟩
/-- try: body, the clauses from the left -/
theorem try_asL {body : List Stmt} {h0 : ExceptHandler} {hds : List ExceptHandler} {l : List (Value × HTs)} {pos : Pos} {tb : WX → TS} (hs : X.stack = X.env :: X.outer) (hf : X.env.frame = some X.env.locals) (hN : X.N.Nodup) (hi : X.N[i]? = some n) (hln : X.env.kindOf n = some .local) (tk : L2.Takes X Wout)
    (hb : ∀ (W : WX) (pn : List (Addr × Obj)) (xe : Value → Shared → Prop), L2.Takes (X.tr pn xe) W → PassesOwn (model X.prog X.w) X.A X.env xe → PSs (X.tr pn xe) body (tb W)) (hh : HdsAs X n (h0 :: hds) l) :
    PS X (.Try body (h0 :: hds) [] [] pos) (fun D σ H => tb (wAsL X.K i Wout D l) D σ H) := by
  refine ⟨fun pins s σ H D I h => wpAny_Try_except ?_⟩
  have ok := I.ok
  have frames : X.A.frames = some (X.env :: X.outer) := ok.frames.trans (congrArg some hs)
  have caught : ∀ (xe : Value → Shared → Prop) (u : Value) (s' : Shared), L2.XE (X.tr (X.pn ++ pins) xe) (wAsL X.K i Wout D l) u s' → wpAny (model X.prog X.w) X.A (noteFrame u X.env) (fun _ s2 => wpAny (model X.prog X.w) X.A (setFlight u none) (fun _ s3 => wpAny (model X.prog X.w) X.A (handleBy u X.env (h0 :: hds)) (SP X pins D) X.xe s3) X.xe s2) X.xe s' := by
    rintro xe u s' ⟨a, B, sI, pins', σ', H', cls, d, rfl, J', nb, up, sky, na, os, ag, q⟩
    refine Sky.land Zc.steady frames hf (hs ▸ sky) fun h3 fl3 up3 => ?_
    exact catches hs hf hN hi hln tk ok (J'.ofTry ok) nb up na os ag fl3 up3 hh q
  refine wpAny_mono ((hb (wAsL X.K i Wout D l) (X.pn ++ pins) (fun e s1 => wpAny (model X.prog X.w) X.A (noteFrame e X.env) (fun _ s2 => wpAny (model X.prog X.w) X.A (setFlight e none) (fun _ s3 => wpAny (model X.prog X.w) X.A (handleBy e X.env (h0 :: hds)) (SP X pins D) X.xe s3) X.xe s2) X.xe s1) (fun u s' xx => caught _ u s' xx) PassesOwn.looking).run [] s σ H D (I.toTry _) h) (fun f s1 hsp => ?_) (fun e s1 he => he)
  cases f with
  | next => obtain ⟨σ', H', J', q⟩ := hsp; exact wpAny_execs_nil ⟨σ', H', J'.ofTry ok, q⟩
  | brk => obtain ⟨σ', H', J', q⟩ := hsp; exact ⟨σ', H', J'.ofTry ok, q⟩
  | cont => obtain ⟨σ', H', J', q⟩ := hsp; exact ⟨σ', H', J'.ofTry ok, q⟩
  | ret u => obtain ⟨v, σ', H', J', r, q⟩ := hsp; exact ⟨v, σ', H', J'.ofTry ok, r, q⟩
end
/-! at the level of data: each clause «return [tag, e.field]» -/
abbrev Cl := Str × Str × Str
inductive HdD (P : Program) (K : Fg) (mg : Str → Option Value) {ι : Type} (X : ι → Cx) (n : Str) : List ExceptHandler → List Cl → Prop
  | nil : HdD P K mg X n [] []
  | cons {x fld tag : Str} {np p1 p2 p3 p4 p5 pos' : Pos} {j1 : Nat} {hds : List ExceptHandler} {cs : List Cl} (c : XC P K mg x fld) (r : HdD P K mg X n hds cs) (hg : ∀ i, Gl (X i) x := by intro _; rfl) (hd : (x == ("__debug__" : Str)) = false := by decide)
      (hab : ∀ i, attributeBase (.Name n p2) fld (X i).env (eval (.Name n p2) (X i).env) = eval (.Name n p2) (X i).env := by intro _; rfl) :
      HdD P K mg X n (.ExceptHandler (some (.Name x np)) (some n) [.Return (some (.List [.Constant (.str tag) j1 p1, .Attribute (.Name n p2) fld p3] p4)) p5] pos' :: hds) ((x, fld, tag) :: cs)
/-- of a clause and one behind it: who is raised for the later isn't caught by the earlier -/
def Apart (K : Fg) (mg : Str → Option Value) (c c' : Cl) : Prop := ∀ C C', mg c.1 = some (.ref C) → mg c'.1 = some (.ref C') → PySem.W.exmOne K (.ref C') (.ref C) = some false
def tsOf (v : Nat) (C : Addr) (c : Cl) : HTs := fun a cls d => tRet (tLst (tCons (tC (.str c.2.2)) (tCons (tXf a cls d C c.2.1 (tVar v)) tNil)))
inductive LL (K : Fg) (mg : Str → Option Value) (v : Nat) : List Cl → List (Value × HTs) → Prop
  | nil : LL K mg v [] []
  | cons {c : Cl} {C : Addr} {cs : List Cl} {l : List (Value × HTs)} (hm : mg c.1 = some (.ref C)) (he : PySem.W.exmOne K (.ref C) (.ref C) = some true) (r : LL K mg v cs l) : LL K mg v (c :: cs) ((.ref C, tsOf v C c) :: l)
section
variable {P : Program} {w : World} {K : Fg} {mg : Str → Option Value} {base : Heap} {k : Nat} {N : List Str} {W : Wx} {ι : Type} {X : ι → Cx} {n : Str} {v : Nat}
theorem hds_of (hX : FamG P w K mg base k N X) (hi : N[v]? = some n) (hv : ∀ j, Vis (X j).env.scope n) (hdn : (n == ("__debug__" : Str)) = false) (hcn : (n == ("__classdict__" : Str)) = false) :
    ∀ {hds : List ExceptHandler} {cs : List Cl}, HdD P K mg X n hds cs → ∃ l, (∀ i, HdsAs (X i) n hds l) ∧ LL K mg v cs l := by
  intro hds cs hh
  induction hh with
  | nil => exact ⟨[], fun _ => .nil, .nil⟩
  | cons c r hg hd hab ih =>
    obtain ⟨l, h1, h2⟩ := ih
    obtain ⟨C, fI, B, newId, initId, bmB, D, T, hm, hex⟩ := c
    rename_i x fld tag np p1 p2 p3 p4 p5 pos' j1 hds cs
    refine ⟨(.ref C, tsOf v C (x, fld, tag)) :: l, fun i => .cons ⟨hg i, hd, Or.inl (by rw [hX.mg i]; exact hm)⟩ (fun a oe cls d pn hz hfl => ?_) (h1 i), .cons hm hex h2⟩
    refine pss_one (L2.ps_ret (pe_lst (L2.pa_cons pe_str (L2.pa_cons (pe_xf ?_ ?_ hz hfl (pe_var (by exact (hX.hN i) ▸ hi) (hv i) hdn hcn) (hab i)) L2.pa_nil))))
    · show XfC (X i).K C; rw [hX.K i]; exact xfc_of T
    · show PySem.W.findIn (X i).K (.ref C) fld = some none; rw [hX.K i]; exact T.noN
def sTrys (cs : List Cl) (wb : WS) : WS := fun E ρ m => wb { nx := E.nx, rt := E.rt, bk := E.bk, ct := E.ct, ex := fun xx m' => ∃ c ∈ cs, c.1 = xx.cls ∧ c.2.1 = xx.fld ∧ E.rt (.lst [.str c.2.2, xx.val]) m' } ρ m
theorem catch_lift {S : Ends} {Wout : WX} {xx : Xn} {m' : Mem} {d : Option Addr} {σ' : L2.St} {G' F H' : Hp} {cls : Value} {Er : D → Mem → Prop} (hlen : v < σ'.length) (W' : Wd K G' m' F H') (rx : Xr K G' xx d) (hcls : mg xx.cls = some cls)
    (rt : ∀ d m2 v G2 H2, Er d m2 → Ex G' G2 → Wd K G2 m2 F H2 → Rp K G2 v d → S.rt v H2) : ∀ {cs : List Cl} {l : List (Value × HTs)}, LL K mg v cs l → cs.Pairwise (Apart K mg) → (∃ c ∈ cs, c.1 = xx.cls ∧ c.2.1 = xx.fld ∧ Er (.lst [.str c.2.2, xx.val]) m') → wAsL K v Wout S l cls d σ' H' := by
  intro cs l ll
  induction ll with
  | nil => rintro _ ⟨c, hc, _⟩; exact nomatch hc
  | cons hm he r ih =>
    rename_i c C cs l
    intro hp h
    obtain ⟨p1, p2⟩ := List.pairwise_cons.mp hp
    by_cases e : c.1 = xx.cls ∧ c.2.1 = xx.fld ∧ Er (.lst [.str c.2.2, xx.val]) m'
    · obtain ⟨q1, q2, q3⟩ := e
      rw [← q1, hm] at hcls
      cases hcls
      obtain ⟨dd, u, ed, eg, ru⟩ := rx
      refine ⟨true, he, fun _ a ha => ?_, fun z => nomatch z⟩
      refine ⟨.ref a, by rw [List.getElem?_set_self hlen], rfl, rfl, dd, [(xx.fld, u)], u, ed, W'.ex _ _ eg, by rw [q2]; simp [List.lookup], ?_, fun p hp => ?_⟩
      · show 2 ≤ sizeLine
        rw [sizeLine_eq]; decide
      · obtain ⟨e2, W2⟩ := W'.new hp (.lst [.str c.2.2, u])
        exact rt _ m' _ _ _ q3 e2 W2 (.lst upd_same (.cons (.str _) (.cons (ru.mono e2) .nil)))
    · obtain ⟨c', hc', q⟩ := h
      have hin : c' ∈ cs := by
        rcases List.mem_cons.mp hc' with z | z
        · subst z; exact absurd q e
        · exact z
      have hm' : ∃ C', mg c'.1 = some (.ref C') := by
        have look : ∀ {cs : List Cl} {l : List (Value × HTs)}, LL K mg v cs l → ∀ c ∈ cs, ∃ C', mg c.1 = some (.ref C') := by
          intro cs l ll
          induction ll with
          | nil => intro c hc; exact nomatch hc
          | cons hm _ _ ih =>
            intro c hc
            rcases List.mem_cons.mp hc with z | z
            · subst z; exact ⟨_, hm⟩
            · exact ih c z
        exact look r c' hin
      obtain ⟨C', hm'⟩ := hm'
      have ec : cls = .ref C' := by
        rw [← q.1, hm'] at hcls
        exact (Option.some.inj hcls).symm
      refine ⟨false, by rw [ec]; exact p1 c' hin C C' hm hm', (fun z => Bool.noConfusion z), fun _ => ih p2 ⟨c', hin, q⟩⟩
theorem ps_tryRs {body : List Stmt} {wb : WS} {h0 : ExceptHandler} {hds : List ExceptHandler} {cs : List Cl} {pos : Pos} (hX : FamG P w K mg base k N X) (tk : ∀ i, Takes (X i) (toWX mg W)) (v : Nat) (hh : HdD P K mg X n (h0 :: hds) cs) (hp : cs.Pairwise (Apart K mg))
    (hb : ∀ W0 : WX, PDB K (byLen mg N W0) (TrF X W0) body wb) (hi : N[v]? = some n := by rfl)
    (hs : ∀ i, (X i).stack = (X i).env :: (X i).outer := by intro _; rfl) (hf : ∀ i, (X i).env.frame = some (X i).env.locals := by intro _; rfl) (hln : ∀ i, (X i).env.kindOf n = some .local := by intro _; rfl)
    (hv : ∀ j, Vis (X j).env.scope n := by intro _; first | exact Or.inl rfl | exact Or.inr (Or.inl rfl) | exact Or.inr (Or.inr rfl)) (hdn : (n == ("__debug__" : Str)) = false := by decide) (hcn : (n == ("__classdict__" : Str)) = false := by decide) :
    PDS K W X (.Try body (h0 :: hds) [] [] pos) (sTrys cs wb) := by
  obtain ⟨l, h1, h2⟩ := hds_of hX hi hv hdn hcn hh
  refine ⟨fun D σ H => Classical.choose (hb (wAsL K v (toWX mg W) D l)) D σ H, fun i => ?_, ?_⟩
  · have q := try_asL (X := X i) (i := v) (pos := pos) (Wout := toWX mg W) (tb := fun W0 => Classical.choose (hb W0)) (hs i) (hf i) (by rw [hX.hN i]; exact hX.nd) (by rw [hX.hN i]; exact hi) (hln i) (tk i) (fun W0 pn xe t po => (Classical.choose_spec (hb W0)).1 ⟨(i, pn, xe), t, po⟩) (h1 i)
    rw [hX.K i] at q
    exact q
  · intro G m F H σ ρ S E hW hE h ft
    refine (Classical.choose_spec (hb (wAsL K v (toWX mg W) S l))).2 G m F H σ ρ S _ hW hE h ⟨ft.nx, ft.rt, ft.bk, ft.ct, ?_⟩
    intro xx m' d σ' G' H' hx e W' rx hlen cls hcls
    have hvl : v < σ'.length := by
      rw [hlen]
      exact (List.getElem?_eq_some_iff.mp hi).1
    exact catch_lift hvl W' rx hcls (fun d m2 u G2 H2 q e2 => ft.rt d m2 u G2 H2 q (e.trans e2)) h2 hp hx
end
end DL
/-! XY: for i, x in enumerate(list) -/
namespace DL
open PySem L2 XO
open Evl (Ex)
section
variable {K : Fg} {W : Wx} {ι : Type} {X : ι → Cx} {pos : Pos} {a : Expr} {wr : WA}
def enumD (ds : List D) : List D := ds.mapIdx fun i d => .tup [.int (i : Nat), d]
theorem enumD_len (ds : List D) : (enumD ds).length = ds.length := by unfold enumD; rw [List.length_mapIdx]
def iEnumD (wr : WA) : WA := fun ρ m Q Qx => wr ρ m (fun ds m1 => match ds with
  | [.lst xs] => Q (enumD xs) m1
  | _ => False) Qx
theorem pi_enumD {mg : Str → Option Value} {p tpos : Pos} {elts : List Expr} {kk : Nat} (hK : ∀ i, (X i).K = K) (hX : ∀ i, (X i).mg = mg) (hm : mg "enumerate" = none) (ha : PDA K W X [a] wr) (hg : ∀ i, Gl (X i) "enumerate" := by intro _; rfl)
    (hs : ∀ i, starEach [a] (X i).env = [(false, eval a (X i).env)] := by intro _; rfl) : PDI K W X (.Tuple elts kk tpos) (.Call (.Name "enumerate" p) [a] [] pos) (iEnumD wr) := by
  obtain ⟨t, h1, h2⟩ := ha
  refine ⟨iEnum K t, fun i => hK i ▸ pi_enum (hg i) (by rw [hX i]; exact hm) (h1 i) (hs i), ?_⟩
  intro G m F H σ ρ R Qd Qx hW hE h hX hR
  refine h2 G m F H σ ρ _ _ Qx hW hE h hX ?_
  intro ds m1 vs G1 H1 q e1 W1 r1
  split at q
  · rename_i ds
    cases r1 with
    | cons r1 t =>
      cases t
      cases r1 with
      | lst hx rx =>
        refine ⟨_, _, rfl, SqL.of (W1.ex _ _ hx), hR _ _ _ _ _ q e1 W1 ?_⟩
        refine ⟨_, _, by rw [enumD_len, ← rx.len]; exact walk_enum, fun G2 m F H e W => ⟨SqL.of (W.ex _ _ (e _ _ hx)), ?_⟩⟩
        rintro i H' x d hd ⟨T, u, v, rfl, hT, rfl, hu, hv⟩
        unfold enumD at hd
        rw [List.getElem?_mapIdx] at hd
        cases hz : ds[i]? with
        | none => rw [hz] at hd; cases hd
        | some d0 =>
          rw [hz] at hd
          cases hd
          obtain ⟨v', hv', rv⟩ := rx.at hz
          cases hv'.symm.trans hv
          cases (show some (V.int (i : Nat)) = some u from hu)
          obtain ⟨e2, W2⟩ := W.new hT (.tup [.int (i : Nat), v])
          exact ⟨_, e2, W2, .tup (SqT.of upd_same) (.cons (.int _) (.cons (rv.mono (e.trans e2)) .nil))⟩
  · cases q
end
end DL
/-! XZ: enumerate(tuple) -/
namespace DL
open PySem L2 XO
open AutoSeq1 (wpAny_loadPart')
open Evl (Ex)
/-- the iterator of a tuple, as it begins -/
abbrev tupIt (l : Addr) : Obj := { cls := .type "tuple_iterator", data := .fields #[.ref l, .int 0 0] }
abbrev enumOver (it : Addr) : Obj := { cls := .type "enumerate", data := .fields #[.none, .bool false, .ref it, rawInt 0, .none, .none] }
theorem new_enumT (l : Addr) (items : Array Value) (n : Nat) (dct : Option Addr) (sl : Array (Option Value)) :
    Meets (Builtin.«enumerate.__new__» ⟨[.type "enumerate", .ref l], []⟩) (fun _ R s => s.heap.get? l = some { cls := .type "tuple", dict := dct, data := .seq items n, slots := sl } ∧
      R (.ok (.ret (.ref (s.heap.push (tupIt l)).objs.size))) { s with heap := (s.heap.push (tupIt l)).push (enumOver s.heap.objs.size) }) :=
  .of_wp fun prog w A R s h => by
    obtain ⟨hp, gn, dr, tk, os⟩ := s
    obtain ⟨hl, h⟩ := h
    have k_sub := sub_enumerate
    have isT : Heap.IsTuple (Shared.heap ⟨hp, gn, dr, tk, os⟩) l items := ⟨_, hl, rfl, n, rfl⟩
    wp_walk using wpAny_loadPart' hl
    refine wpAny_stack_any fun st => wpAny_pure ?_
    split
    · rename_i c _ _ _ _ _
      cases (c == Value.type "enumerate") <;>
      · wp_walk using wpAny_loadPart' hl, wpAny_pyIter_tuple isT
        exact ⟨_, rfl, h⟩
    · wp_walk using wpAny_loadPart' hl, wpAny_pyIter_tuple isT
      exact ⟨_, rfl, h⟩
section
variable {prog : Program} {w : World} {A : Around} {E : Value → Shared → Prop} {s : Shared}
theorem call_enumT {l : Addr} {items : Array Value} {Q : Value → Shared → Prop} (isT : s.heap.IsTuple l items)
    (told : ∀ h', IsEnum h' (s.heap.objs.size + 1) s.heap.objs.size 0 .none → h'.IsTupleIter s.heap.objs.size l 0 → h'.objs.size = s.heap.objs.size + 2 → (∀ b o, s.heap.get? b = some o → h'.get? b = some o) → Q (.ref (s.heap.objs.size + 1)) { s with heap := h' }) :
    wpAny (model prog w) A (call (.type "enumerate") [.ref l]) Q E s := by
  obtain ⟨⟨c, dct, dt, sl⟩, hl, hc, n, hd⟩ := isT
  obtain rfl : c = .type "tuple" := hc
  obtain rfl : dt = .seq items n := hd
  refine callType_new F.called_enumerate (by decide) (F.typeCall_enumerate_1 _) (F.newCall_enumerate_1 _) (fun obj => F.args_object_init_2 obj _) F.entry_enumerate_new (new_enumT l items n dct sl) ⟨hl, ?_⟩
  have size1 : (s.heap.push (tupIt l)).objs.size = s.heap.objs.size + 1 := Heap.size_push ..
  show _ ∧ _
  rw [size1]
  have he : IsEnum ((s.heap.push (tupIt l)).push (enumOver s.heap.objs.size)) (s.heap.objs.size + 1) s.heap.objs.size 0 .none := by
    have q := Heap.get?_push_size (s.heap.push (tupIt l)) (o := enumOver s.heap.objs.size) rfl
    rw [size1] at q
    exact q
  exact ⟨⟨_, he, rfl⟩, told _ he ⟨_, Heap.get?_push_of_some _ (Heap.get?_push_size _ rfl), rfl, rfl⟩ (by rw [Heap.size_push, size1]) fun b o x => Heap.get?_push_of_some _ (Heap.get?_push_of_some _ x)⟩
end
/-- the tuple at a, each item in a new pair -/
def IteT (K : Fg) (a : Addr) : It :=
  ⟨fun i H => ∃ (xs : List V) (x : V), SqT K H a xs ∧ xs[i]? = some x, fun i H v H' => ∃ T x, v = .ref T ∧ H T = none ∧ H' = upd H T (.tup [.int (i : Nat), x]) ∧ ∀ xs, SqT K H a xs → xs[i]? = some x, fun i H => ∃ xs : List V, SqT K H a xs ∧ xs.length = i⟩
theorem turn_enumT {P : Program} {w : World} {K : Fg} {elts : List Expr} {kk : Nat} {tpos : Pos} (a e it : Addr) :
    Turn P w K (.Tuple elts kk tpos) (IteT K a) [e, it] e (fun i h => (∃ old, IsEnum h e it ((i : Nat) : Int) old) ∧ h.IsTupleIter it a i ∧ e ≠ it ∧ a ≠ it ∧ a ≠ e) where
  mem := List.mem_cons_self
  obj := by
    rintro i h ⟨⟨old, he⟩, ⟨o, ho, hc, hd⟩, _⟩ b hb
    rcases (show b = e ∨ b = it by simpa using hb) with z | z
    · subst z
      exact ⟨_, he, fun v q => nomatch q⟩
    · subst z
      exact ⟨o, ho, fun v q => by rw [hd] at q; cases q⟩
  keep := by
    rintro i h h' ⟨⟨old, he⟩, hi, hne⟩ k
    exact ⟨⟨old, k e (by simp) _ he⟩, hi.at fun o q => k it (by simp) o q, hne⟩
  item := by
    rintro X rfl rfl rfl hc i pins s σ H E I hf ⟨⟨old, he⟩, hit, hne, hai, hae⟩ ⟨xs, x, hq, hx⟩
    obtain ⟨its, rv, p, hz⟩ := I.tuple hq
    obtain ⟨u, hu, ru⟩ := rv.get hx
    have hel : e < s.heap.objs.size := Heap.lt_size he
    have hil : it < s.heap.objs.size := by obtain ⟨_, q, _⟩ := hit; exact Heap.lt_size q
    have isT : s.heap.IsTuple a its.toArray := p
    have calm : X.A.in1.handled = none := I.ok.hd hc
    have far : e ∉ [it, a] := by
      intro z
      rcases (show e = it ∨ e = a by simpa using z) with z | z
      · exact hne z
      · exact hae z.symm
    have hlt : i < its.toArray.size := by
      rw [List.size_toArray]
      exact (List.getElem?_eq_some_iff.mp hu).1
    refine wpAny_pyNext_enum_itemD (Draws.tuple calm it a hai its.toArray) he ⟨hit, isT⟩ hlt hne far fun y h' tk hy ho hst2 hT hsz hk => ?_
    obtain rfl : y = u := by
      have : its.toArray[i]? = some u := by simpa using hu
      exact Option.some.inj (hy.symm.trans this)
    refine ⟨_, rfl, wpAny_letOwnedTupleGo_enum (s := { s with heap := h', toks := tk + 1 }) ho fun h2 he2 sb => ?_⟩
    have hT2 : h2.get? s.heap.objs.size = some { cls := .type "tuple", data := .seq #[.int i tk, y] } := (sb.2 _ (Nat.ne_of_gt hel)).trans hT
    have laid : ObjOk X.prog X.w (upd H s.heap.objs.size (.tup [.int (i : Nat), x])) h2 s.heap.objs.size (.tup [.int (i : Nat), x]) :=
      ⟨by show 2 ≤ sizeLine; decide, [.int i tk, y], .cons ⟨_, rfl⟩ (.cons ru .nil), ⟨_, hT2, rfl, _, rfl⟩⟩
    have J : Inv X pins σ (upd H s.heap.objs.size (.tup [.int (i : Nat), x])) { s with heap := h2, toks := tk + 1 } :=
      I.turnedNew (ch := [e, it]) (fun b ob hb q => (sb.2 b (fun z => hb (by simp [z]))).trans (hk b ob (fun z => hb (by simp [z])) (fun z => hb (by simp [z])) q)) hf (Nat.le_refl _) laid
    refine ⟨.ref s.heap.objs.size, _, J, rfl, ⟨_, x, rfl, I.hok.fresh (Nat.le_refl _), rfl, fun ys hy => by rw [I.tuple_inj hy hq]; exact hx⟩, ⟨⟨y, ?_⟩, hst2.1.at fun o q => (sb.2 it (Ne.symm hne)).trans q, hne, hai, hae⟩, fun b hb => ?_⟩
    · have e1 : ((i + 1 : Nat) : Int) = (i : Int) + 1 := by omega
      rw [e1]
      exact he2
    · have below : b < s.heap.objs.size := by
        rcases (show b = e ∨ b = it by simpa using hb) with z | z
        · exact z ▸ hel
        · exact z ▸ hil
      rw [upd_ne (Nat.ne_of_lt below)]
      exact (hf b hb).1
  done := by
    rintro X rfl rfl rfl hc i pins s σ H E I hf ⟨⟨old, he⟩, hit, hne, hai, hae⟩ ⟨xs, hq, hx⟩
    obtain ⟨its, rv, p, hz⟩ := I.tuple hq
    have isT : s.heap.IsTuple a its.toArray := p
    have calm : X.A.in1.handled = none := I.ok.hd hc
    obtain ⟨f0, f1, f2, f3, f4, f5⟩ := hf it (by simp)
    have ei : i = its.toArray.size := by rw [List.size_toArray, ← rv.length, hx]
    rw [ei] at hit
    exact wpAny_pyNext_enum_endD (Draws.tuple calm it a hai its.toArray) he ⟨hit, isT⟩ fun h' eb => ⟨rfl, I.turned (t' := s.toks) (fun b o hb q => eb b o hb q) f0 f1 f3 f4 f5⟩
  self := fun A i s Q E st h => let ⟨⟨_, he⟩, _⟩ := st; wpAny_pyIter_enum he h
theorem walk_enumT {K : Fg} {a : Addr} {xs : List V} : Walk (IteT K a) xs.length (fun H => SqT K H a xs) (YPair (fun i => some (.int (i : Nat))) (fun i => xs[i]?)) where
  goes := by
    rintro i H hi q
    exact ⟨xs, _, q, List.getElem?_eq_getElem hi⟩
  stops := by
    rintro H q
    exact ⟨xs, q, rfl⟩
  yields := by
    rintro i H v H' hi q ⟨T, x, ev, fresh, eH, kx⟩
    exact ⟨T, _, x, ev, fresh, eH, rfl, kx xs q⟩
def iEnumA (K : Fg) (ta : TA) : TI := fun σ H R => ta σ H fun vs H1 => ∃ a xs, vs = [.ref a] ∧ ((SqL K H1 a xs ∧ R (Ite K a) H1) ∨ (SqT K H1 a xs ∧ R (IteT K a) H1))
theorem pi_enumT {X : Cx} {e : Expr} {ta : TA} {p pos tpos : Pos} {elts : List Expr} {kk : Nat} (hg : Gl X "enumerate") (hm : X.mg "enumerate" = none) (ha : PA X [e] ta) (hs : starEach [e] X.env = [(false, eval e X.env)] := by rfl) :
    PI X (.Tuple elts kk tpos) (.Call (.Name "enumerate" p) [e] [] pos) (iEnumA X.K ta) := by
  refine ⟨fun pins s σ H R I h => ?_⟩
  refine PyProof.Rows.Call_ (ld_blt I hg hm PyProof.Rows.boot_enumerate (PyProof.Rows.callWith_type1 (thn (ha.run pos pins s σ H _ I h) fun us s1 ⟨vs, H1, I1, r1, q1⟩ => ?_) hs rfl))
  obtain ⟨a, xs, rfl, q1⟩ := q1
  cases r1 with
  | cons r rr =>
    cases rr
    cases r
    have two : ∀ b, b ∈ [s1.heap.objs.size + 1, s1.heap.objs.size] → s1.heap.objs.size ≤ b := by
      intro b hb
      rcases (show b = s1.heap.objs.size + 1 ∨ b = s1.heap.objs.size by simpa using hb) with z | z
      · exact z ▸ Nat.le_add_right _ _
      · exact z ▸ Nat.le_refl _
    rcases q1 with ⟨hq, q⟩ | ⟨hq, q⟩
    · obtain ⟨its, rv, p', hz⟩ := I1.list hq
      refine PySem.call_enumerate_list p'.isList fun h' he hit hsz hk => wpAny_pyIter_enum he ?_
      have J : Inv X pins σ H1 { s1 with heap := h' } := I1.kept (t' := s1.toks) hk
      exact ⟨s1.heap.objs.size + 1, [s1.heap.objs.size + 1, s1.heap.objs.size], _, _, H1, rfl, J, turn_enum a (s1.heap.objs.size + 1) s1.heap.objs.size, ⟨⟨.none, he⟩, hit, Nat.succ_ne_self _⟩, fun b hb => I1.fpOk (two b hb) (I1.hok.fresh (two b hb)), q⟩
    · obtain ⟨its, rv, p', hz⟩ := I1.tuple hq
      have isT : s1.heap.IsTuple a its.toArray := p'
      have low : a < s1.heap.objs.size := by obtain ⟨_, e0, _⟩ := isT; exact Heap.lt_size e0
      refine call_enumT isT fun h' he hit hsz hk => wpAny_pyIter_enum he ?_
      have J : Inv X pins σ H1 { s1 with heap := h' } := I1.kept (t' := s1.toks) hk
      exact ⟨s1.heap.objs.size + 1, [s1.heap.objs.size + 1, s1.heap.objs.size], _, _, H1, rfl, J, turn_enumT a (s1.heap.objs.size + 1) s1.heap.objs.size, ⟨⟨.none, he⟩, hit, Nat.succ_ne_self _, Nat.ne_of_lt low, Nat.ne_of_lt (Nat.lt_succ_of_lt low)⟩, fun b hb => I1.fpOk (two b hb) (I1.hok.fresh (two b hb)), q⟩
section
variable {K : Fg} {W : Wx} {ι : Type} {X : ι → Cx} {pos : Pos} {a : Expr} {wr : WA}
def iEnumB (wr : WA) : WA := fun ρ m Q Qx => wr ρ m (fun ds m1 => match ds with
  | [.lst xs] => Q (enumD xs) m1
  | [.tup xs] => Q (enumD xs) m1
  | _ => False) Qx
theorem enum_turn {G G2 : Hp} {xs : List V} {ds : List D} {m : Mem} {F H : Hp} (rx : RpA K G xs ds) (e : Ex G G2) (W : Wd K G2 m F H) : ∀ i H' x d, (enumD ds)[i]? = some d → YPair (fun i => some (.int (i : Nat))) (fun i => xs[i]?) i H x H' → ∃ G', Ex G2 G' ∧ Wd K G' m F H' ∧ Rp K G' x d := by
  rintro i H' x d hd ⟨T, u, v, rfl, hT, rfl, hu, hv⟩
  unfold enumD at hd
  rw [List.getElem?_mapIdx] at hd
  cases hz : ds[i]? with
  | none => rw [hz] at hd; cases hd
  | some d0 =>
    rw [hz] at hd
    cases hd
    obtain ⟨v', hv', rv⟩ := rx.at hz
    cases hv'.symm.trans hv
    cases (show some (V.int (i : Nat)) = some u from hu)
    obtain ⟨e2, W2⟩ := W.new hT (.tup [.int (i : Nat), v])
    exact ⟨_, e2, W2, .tup (SqT.of upd_same) (.cons (.int _) (.cons (rv.mono (e.trans e2)) .nil))⟩
theorem pi_enumB {mg : Str → Option Value} {p tpos : Pos} {elts : List Expr} {kk : Nat} (hK : ∀ i, (X i).K = K) (hX : ∀ i, (X i).mg = mg) (hm : mg "enumerate" = none) (ha : PDA K W X [a] wr) (hg : ∀ i, Gl (X i) "enumerate" := by intro _; rfl)
    (hs : ∀ i, starEach [a] (X i).env = [(false, eval a (X i).env)] := by intro _; rfl) : PDI K W X (.Tuple elts kk tpos) (.Call (.Name "enumerate" p) [a] [] pos) (iEnumB wr) := by
  obtain ⟨t, h1, h2⟩ := ha
  refine ⟨iEnumA K t, fun i => hK i ▸ pi_enumT (hg i) (by rw [hX i]; exact hm) (h1 i) (hs i), ?_⟩
  intro G m F H σ ρ R Qd Qx hW hE h hX hR
  refine h2 G m F H σ ρ _ _ Qx hW hE h hX ?_
  intro ds m1 vs G1 H1 q e1 W1 r1
  split at q
  · cases r1 with
    | cons r1 t =>
      cases t
      cases r1 with
      | lst hx rx => exact ⟨_, _, rfl, Or.inl ⟨SqL.of (W1.ex _ _ hx), hR _ _ _ _ _ q e1 W1 ⟨_, _, by rw [enumD_len, ← rx.len]; exact walk_enum, fun G2 m F H e W => ⟨SqL.of (W.ex _ _ (e _ _ hx)), enum_turn rx e W⟩⟩⟩⟩
  · cases r1 with
    | cons r1 t =>
      cases t
      cases r1 with
      | tup hx rx => exact ⟨_, _, rfl, Or.inr ⟨Evl.ex_t W1.ex hx, hR _ _ _ _ _ q e1 W1 ⟨_, _, by rw [enumD_len, ← rx.len]; exact walk_enumT, fun G2 m F H e W => ⟨Evl.ex_t W.ex (Evl.ex_t e hx), enum_turn rx e W⟩⟩⟩⟩
  · cases q
end
end DL
/-! XL: enumerate(text), repr with boxes, lists beside [], a, b, .. = a list -/
namespace DL
open PySem L2 XO
open AutoSeq1 (wpAny_loadPart')
open Evl (Ex)
/-! enumerate(text) -/
def IteS (z : Str) : It :=
  ⟨fun i _ => i < z.cps.size, fun i H v H' => ∃ T c, v = .ref T ∧ H T = none ∧ H' = upd H T (.tup [.int (i : Nat), .str ⟨#[c]⟩]) ∧ z.cps[i]? = some c, fun i _ => z.cps.size = i⟩
theorem turn_enumS {P : Program} {w : World} {K : Fg} {elts : List Expr} {kk : Nat} {tpos : Pos} (z : Str) (t : Tok) (e it : Addr) :
    Turn P w K (.Tuple elts kk tpos) (IteS z) [e, it] e (fun i h => (∃ old, IsEnum h e it ((i : Nat) : Int) old) ∧ h.IsStrIter it (strIterType z) z t i ∧ e ≠ it) where
  mem := List.mem_cons_self
  obj := by
    rintro i h ⟨⟨old, he⟩, ⟨o, ho, hc, hd⟩, _⟩ b hb
    rcases (show b = e ∨ b = it by simpa using hb) with q | q
    · subst q
      exact ⟨_, he, fun v q => nomatch q⟩
    · subst q
      exact ⟨o, ho, fun v q => by rw [hd] at q; cases q⟩
  keep := by
    rintro i h h' ⟨⟨old, he⟩, hi, hne⟩ k
    obtain ⟨o, ho, hc, hd⟩ := hi
    exact ⟨⟨old, k e (by simp) _ he⟩, ⟨o, k it (by simp) o ho, hc, hd⟩, hne⟩
  item := by
    rintro X rfl rfl rfl hc i pins s σ H E I hf ⟨⟨old, he⟩, hit, hne⟩ hlt
    have hel : e < s.heap.objs.size := Heap.lt_size he
    have hil : it < s.heap.objs.size := by obtain ⟨_, q, _⟩ := hit; exact Heap.lt_size q
    have calm : X.A.in1.handled = none := I.ok.hd hc
    have far : e ∉ [it] := fun q => hne (List.mem_singleton.mp q)
    refine wpAny_pyNext_enum_itemD (Draws.text calm it z t) he hit hlt hne far fun y h' tk hy ho hst2 hT hsz hk => ?_
    obtain ⟨c, u, hcc, rfl⟩ := hy
    refine ⟨_, rfl, wpAny_letOwnedTupleGo_enum (s := { s with heap := h', toks := tk + 1 }) ho fun h2 he2 sb => ?_⟩
    have hT2 : h2.get? s.heap.objs.size = some { cls := .type "tuple", data := .seq #[.int i tk, .str ⟨#[c]⟩ u] } := (sb.2 _ (Nat.ne_of_gt hel)).trans hT
    have laid : ObjOk X.prog X.w (upd H s.heap.objs.size (.tup [.int (i : Nat), .str ⟨#[c]⟩])) h2 s.heap.objs.size (.tup [.int (i : Nat), .str ⟨#[c]⟩]) :=
      ⟨by show 2 ≤ sizeLine; decide, [.int i tk, .str ⟨#[c]⟩ u], .cons ⟨_, rfl⟩ (.cons ⟨_, rfl⟩ .nil), ⟨_, hT2, rfl, _, rfl⟩⟩
    have J : Inv X pins σ (upd H s.heap.objs.size (.tup [.int (i : Nat), .str ⟨#[c]⟩])) { s with heap := h2, toks := tk + 1 } :=
      I.turnedNew (ch := [e, it]) (fun b ob hb q => (sb.2 b (fun z => hb (by simp [z]))).trans (hk b ob (fun z => hb (by simp [z])) (fun z => hb (by simp [z])) q)) hf (Nat.le_refl _) laid
    refine ⟨.ref s.heap.objs.size, _, J, rfl, ⟨_, c, rfl, I.hok.fresh (Nat.le_refl _), rfl, hcc⟩, ⟨⟨.str ⟨#[c]⟩ u, ?_⟩, (by obtain ⟨o, q1, q2, q3⟩ := hst2; exact ⟨o, (sb.2 it (Ne.symm hne)).trans q1, q2, q3⟩), hne⟩, fun b hb => ?_⟩
    · have e1 : ((i + 1 : Nat) : Int) = (i : Int) + 1 := by omega
      rw [e1]
      exact he2
    · have below : b < s.heap.objs.size := by
        rcases (show b = e ∨ b = it by simpa using hb) with q | q
        · exact q ▸ hel
        · exact q ▸ hil
      rw [upd_ne (Nat.ne_of_lt below)]
      exact (hf b hb).1
  done := by
    rintro X rfl rfl rfl hc i pins s σ H E I hf ⟨⟨old, he⟩, hit, hne⟩ hx
    have calm : X.A.in1.handled = none := I.ok.hd hc
    obtain ⟨f0, f1, f2, f3, f4, f5⟩ := hf it (by simp)
    have hx : z.cps.size = i := hx
    rw [← hx] at hit
    exact wpAny_pyNext_enum_endD (Draws.text calm it z t) he hit fun h' eb => ⟨rfl, I.turned (t' := s.toks) (fun b o hb q => eb b o hb q) f0 f1 f3 f4 f5⟩
  self := fun A i s Q E st h => let ⟨⟨_, he⟩, _⟩ := st; wpAny_pyIter_enum he h
theorem walk_enumS {z : Str} : Walk (IteS z) z.cps.size (fun _ => True) (fun i H v H' => ∃ T c, v = .ref T ∧ H T = none ∧ H' = upd H T (.tup [.int (i : Nat), .str ⟨#[c]⟩]) ∧ z.cps[i]? = some c) where
  goes := fun i H hi _ => hi
  stops := fun H _ => rfl
  yields := fun i H v H' hi _ q => q
def iEnumSA (ta : TA) : TI := fun σ H R => ta σ H fun vs H1 => ∃ z, vs = [.str z] ∧ R (IteS z) H1
theorem pi_enumSA {X : Cx} {e : Expr} {ta : TA} {p pos tpos : Pos} {elts : List Expr} {kk : Nat} (hg : Gl X "enumerate") (hm : X.mg "enumerate" = none) (ha : PA X [e] ta) (hs : starEach [e] X.env = [(false, eval e X.env)] := by rfl) :
    PI X (.Tuple elts kk tpos) (.Call (.Name "enumerate" p) [e] [] pos) (iEnumSA ta) := by
  refine ⟨fun pins s σ H R I h => ?_⟩
  refine PyProof.Rows.Call_ (ld_blt I hg hm PyProof.Rows.boot_enumerate (PyProof.Rows.callWith_type1 (thn (ha.run pos pins s σ H _ I h) fun us s1 ⟨vs, H1, I1, r1, q1⟩ => ?_) hs rfl))
  obtain ⟨z, rfl, q1⟩ := q1
  cases r1 with
  | cons r rr =>
    cases rr
    obtain ⟨t, rfl⟩ := r
    have two : ∀ b, b ∈ [s1.heap.objs.size + 1, s1.heap.objs.size] → s1.heap.objs.size ≤ b := by
      intro b hb
      rcases (show b = s1.heap.objs.size + 1 ∨ b = s1.heap.objs.size by simpa using hb) with q | q
      · exact q ▸ Nat.le_add_right _ _
      · exact q ▸ Nat.le_refl _
    refine call_enumerate_str fun h' he hit hsz hk => wpAny_pyIter_enum he ?_
    have J : Inv X pins σ H1 { s1 with heap := h' } := I1.kept (t' := s1.toks) hk
    exact ⟨s1.heap.objs.size + 1, [s1.heap.objs.size + 1, s1.heap.objs.size], _, _, H1, rfl, J, turn_enumS z t (s1.heap.objs.size + 1) s1.heap.objs.size, ⟨⟨.none, he⟩, hit, Nat.succ_ne_self _⟩, fun b hb => I1.fpOk (two b hb) (I1.hok.fresh (two b hb)), q1⟩
section
variable {K : Fg} {W : Wx} {ι : Type} {X : ι → Cx} {pos : Pos} {a : Expr} {wr : WA}
def iEnumS (wr : WA) : WA := fun ρ m Q Qx => wr ρ m (fun ds m1 => match ds with
  | [.str z] => Q (enumD (signs z)) m1
  | _ => False) Qx
theorem pi_enumS {mg : Str → Option Value} {p tpos : Pos} {elts : List Expr} {kk : Nat} (hX : ∀ i, (X i).mg = mg) (hm : mg "enumerate" = none) (ha : PDA K W X [a] wr) (hg : ∀ i, Gl (X i) "enumerate" := by intro _; rfl)
    (hs : ∀ i, starEach [a] (X i).env = [(false, eval a (X i).env)] := by intro _; rfl) : PDI K W X (.Tuple elts kk tpos) (.Call (.Name "enumerate" p) [a] [] pos) (iEnumS wr) := by
  obtain ⟨t, h1, h2⟩ := ha
  refine ⟨iEnumSA t, fun i => pi_enumSA (hg i) (by rw [hX i]; exact hm) (h1 i) (hs i), ?_⟩
  intro G m F H σ ρ R Qd Qx hW hE h hX hR
  refine h2 G m F H σ ρ _ _ Qx hW hE h hX ?_
  intro ds m1 vs G1 H1 q e1 W1 r1
  split at q
  · cases r1 with
    | cons r1 t =>
      cases t
      cases r1
      rename_i z
      refine ⟨z, rfl, hR _ _ _ _ _ q e1 W1 ?_⟩
      have hl : (enumD (signs z)).length = z.cps.size := by
        rw [enumD_len]
        unfold signs
        rw [List.length_map, Array.length_toList]
      refine ⟨_, _, hl ▸ walk_enumS (z := z), fun G2 m F H e W => ⟨trivial, ?_⟩⟩
      rintro i H' x d hd ⟨T, c, rfl, hT, rfl, hcc⟩
      unfold enumD signs at hd
      rw [List.getElem?_mapIdx, List.getElem?_map, Array.getElem?_toList, hcc] at hd
      cases hd
      obtain ⟨e2, W2⟩ := W.new hT (.tup [.int (i : Nat), .str ⟨#[c]⟩])
      exact ⟨_, e2, W2, .tup (SqT.of upd_same) (.cons (.int _) (.cons (.str _) .nil))⟩
  · cases q
end
/-! repr of a list, boxes looked up -/
def dReprM : WC := fun xs m Q => match xs with
  | [x] => ∃ ds, res m x = .lst ds ∧ ShowsU (.lst ds) ∧ Q (.str (py (.lst ds)).shown) m
  | _ => False
theorem b_reprM {P : Program} {w : World} {K : Fg} {mg : Str → Option Value} {base : Heap} {k : Nat} {N : List Str} {ι : Type} {X : ι → Cx} (hX : FamG P w K mg base k N X) : BiU K X (.builtin "repr") dReprM := by
  refine ⟨_, fun i => hX.K i ▸ call_reprU (hX.guards i) (by have := (hX.room i).un; omega), ?_⟩
  intro G m F H xs ds Q Qd hW r h hQ
  unfold dReprM at h
  split at h
  · obtain ⟨es, he, S, q⟩ := h
    cases r with
    | cons r1 t =>
      cases t
      have r2 := rp_res hW.adoptH r1
      rw [he] at r2
      have r3 := r2
      cases r2 with
      | lst hx rr => exact ⟨_, H, _, rfl, Ex.refl H, r3, S, hQ.here hW q (.str _)⟩
  · cases h
/-! a list beside the empty list -/
def rNil (K : Fg) (neg : Bool) : R2 := fun x y H Q => ∃ a b xs, x = .ref a ∧ y = .ref b ∧ SqL K H a xs ∧ SqL K H b [] ∧ Q (.bl (xs.isEmpty ^^ neg)) H
theorem sizes_ne {v : Value} {l : List Value} : ((v :: l).toArray.size != ([] : List Value).toArray.size) = true := by simp
theorem op_eqNil {X : Cx} (hu : X.A.units + 64 < cLine) : OpR X (compareOp .Eq) (rNil X.K false) := by
  rintro pins s σ H x y v u Q I rx ry ⟨a, b, xs, rfl, rfl, h1, h2, q⟩
  cases xs with
  | nil => exact op_eqD hu pins s σ H _ _ v u Q I rx ry ⟨.list [], .list [], .lst h1 .nil, .lst h2 .nil, by decide, by decide, q⟩
  | cons c xs =>
    cases rx; cases ry
    obtain ⟨its, rv, p, hz⟩ := I.list h1
    obtain ⟨its2, rv2, p2, hz2⟩ := I.list h2
    cases rv with
    | cons r1 rr =>
      cases rv2
      exact SeqAt.eq_list_lengthsAt p.isList p2.isList sizes_ne (by omega) ⟨.bl _, H, I, rfl, q⟩
theorem op_neNil {X : Cx} (hu : X.A.units + 64 < cLine) : OpR X (compareOp .NotEq) (rNil X.K true) := by
  rintro pins s σ H x y v u Q I rx ry ⟨a, b, xs, rfl, rfl, h1, h2, q⟩
  cases xs with
  | nil => exact op_neD hu pins s σ H _ _ v u Q I rx ry ⟨.list [], .list [], .lst h1 .nil, .lst h2 .nil, by decide, by decide, q⟩
  | cons c xs =>
    cases rx; cases ry
    obtain ⟨its, rv, p, hz⟩ := I.list h1
    obtain ⟨its2, rv2, p2, hz2⟩ := I.list h2
    cases rv with
    | cons r1 rr =>
      cases rv2
      exact SeqAt.RcNeAt.lists_lengths p.isList p2.isList sizes_ne (by omega) X.prog X.w _ _ ⟨.bl _, H, I, rfl, q⟩
def dNilB (neg : Bool) : WR := fun x y m Q => y = .lst [] ∧ ((∃ ds, x = .lst ds ∧ Q (.bl (ds.isEmpty ^^ neg)) m) ∨ (∃ a ds, x = .box a ∧ m a = some ds ∧ Q (.bl (ds.isEmpty ^^ neg)) m))
theorem lift_nil {K : Fg} {neg : Bool} : LiftR K (rNil K neg) (dNilB neg) := by
  rintro G m F H x y dx dy Q Qd hW rx ry ⟨rfl, h⟩ hQ
  cases ry with
  | lst hy ry =>
    cases ry
    rcases h with ⟨ds, rfl, q⟩ | ⟨a, ds, rfl, hm, q⟩
    · cases rx with
      | lst hx rx =>
        exact ⟨_, _, _, rfl, rfl, SqL.of (hW.ex _ _ hx), SqL.of (hW.ex _ _ hy), by rw [← (show ds.isEmpty = List.isEmpty _ by cases rx <;> rfl)]; exact hQ.here hW q (.bl _)⟩
    · cases rx
      obtain ⟨_, _, xs, hx, rx⟩ := hW.own _ _ hm
      exact ⟨_, _, xs, rfl, rfl, SqL.of hx, SqL.of (hW.ex _ _ hy), by rw [← (show ds.isEmpty = xs.isEmpty by cases rx <;> rfl)]; exact hQ.here hW q (.bl _)⟩
theorem c_eqNil {P : Program} {wo : World} {K : Fg} {mg : Str → Option Value} {base : Heap} {k : Nat} {N : List Str} {ι : Type} {X : ι → Cx} (hX : Fam P wo K mg base k N X) : CmpU K X .Eq (dNilB false) :=
  ⟨_, fun i => hX.K i ▸ op_eqNil (by have := (hX.room i).un; omega), lift_nil⟩
theorem c_neNil {P : Program} {wo : World} {K : Fg} {mg : Str → Option Value} {base : Heap} {k : Nat} {N : List Str} {ι : Type} {X : ι → Cx} (hX : Fam P wo K mg base k N X) : CmpU K X .NotEq (dNilB true) :=
  ⟨_, fun i => hX.K i ▸ op_neNil (by have := (hX.room i).un; omega), lift_nil⟩
/-! a, b, .. = a list, a tuple, a box -/
theorem pg_or {X : Cx} {tg : Expr} {t t' : TG} (h : PG X tg t) (h' : PG X tg t') : PG X tg (fun v σ H Q => t v σ H Q ∨ t' v σ H Q) := by
  refine ⟨fun pins s σ H v u Q I r hw => ?_⟩
  rcases hw with hw | hw
  · exact h.run pins s σ H v u Q I r hw
  · exact h'.run pins s σ H v u Q I r hw
def sUnp (n : Nat) (g : WGs) (w : WE) : WS := fun E ρ m => w ρ m (fun d m1 => ∃ ds, (d = .lst ds ∨ d = .tup ds ∨ ∃ a, d = .box a ∧ m1 a = some ds) ∧ ds.length = n ∧ g ds ρ (fun ρ' => E.nx ρ' m1)) E.ex
theorem ps_unp {K : Fg} {W : Wx} {ι : Type} {X : ι → Cx} {pos p' : Pos} {e : Expr} {es : List Expr} {kx n : Nat} {js : List Nat} {g : WGs} {we : WE} (hK : ∀ i, (X i).K = K) (hc : ∀ i, (X i).calm = true) (he : PD K W X e we) (h : PDGs K X es js g)
    (hn : ∀ i, (assignEach es (X i).env).length = n := by intro _; rfl) (hst : ∀ i, (assignEach es (X i).env).findIdx? (·.1) = none := by intro _; rfl)
    (hs : ∀ i, swapsWithSole [.Tuple es kx p'] e pos.line (X i).env = pure false := by intro _; rfl) (hw : ∀ i, swappedStores [.Tuple es kx p'] e (X i).env = pure none := by intro _; rfl)
    (h1 : ∀ i, (assignEach [.Tuple es kx p'] (X i).env).map (·.2) = [assign (.Tuple es kx p') (X i).env] := by intro _; rfl) : PDS K W X (.Assign [.Tuple es kx p'] e pos) (sUnp n g we) := by
  obtain ⟨te, e1, e2⟩ := he
  obtain ⟨t, a1, a2⟩ := h
  refine ⟨_, fun i => ps_asg (e1 i) (pg_or (hK i ▸ L2.pg_tup (hc i) (a1 i) (hn i) (hst i)) (hK i ▸ L2.pg_lst (hc i) (a1 i) (hn i) (hst i))) (hs i) (hw i) (h1 i), ?_⟩
  intro G m F H σ ρ S E hW hE h f
  refine e2 G m F H σ ρ _ _ E.ex hW hE h f.ex ?_
  rintro d m1 v G1 H1 ⟨ds, hd, hl, q⟩ ex1 W1 r1
  have fin : ∀ (xs : List V), RpA K G1 xs ds → t xs σ H1 S.nx := fun xs rr => a2 G1 m1 F H1 xs ds σ ρ _ _ W1 (hE.mono ex1) rr q fun ρ' σ' h' hE' _ => f.nx ρ' m1 σ' G1 H1 h' ex1 W1 hE'
  rcases hd with rfl | rfl | ⟨a, rfl, hm⟩
  · cases r1 with
    | lst hx rr => exact Or.inr ⟨_, _, rfl, SqL.of (W1.ex _ _ hx), by rw [rr.len]; exact hl, fin _ rr⟩
  · cases r1 with
    | tup hx rr => exact Or.inl ⟨_, _, rfl, Evl.ex_t W1.ex hx, by rw [rr.len]; exact hl, fin _ rr⟩
  · cases r1
    obtain ⟨_, _, xs, hx, rr⟩ := W1.own _ _ hm
    exact Or.inr ⟨_, _, rfl, SqL.of hx, by rw [rr.len]; exact hl, fin _ rr⟩
end DL
/-! XM: a dict beside a text -/
namespace DL
open PySem L2 XO SeqAt
open AutoSeq1 (wpAny_loadPart')
open Evl (Ex)
theorem dict_ne_no (l : Addr) (dt : Data) (dd : Option Addr) (sl : Array (Option Value)) (b : Str) (u : Tok) :
    Meets (Builtin.«dict.__ne__» ⟨[.ref l, .str b u], []⟩) (fun _ R s => s.heap.get? l = some { cls := .type "dict", dict := dd, data := dt, slots := sl } ∧ R (.ok (.ret .notImplemented)) s) :=
  .of_wp fun prog w A R s h => by
    obtain ⟨hp, g, d, tk, os⟩ := s
    obtain ⟨hl, h⟩ := h
    have f1 := F.sub_str_dict
    wp_walk using wpAny_loadPart' hl
    exact ⟨_, rfl, h⟩
theorem str_ne_no (b : Str) (u : Tok) (l : Addr) (c : Value) (ens) (epp) (dd : Option Addr) (sl : Array (Option Value)) :
    Meets (Builtin.«str.__ne__» ⟨[.str b u, .ref l], []⟩) (fun _ R s => s.heap.get? l = some { cls := c, dict := dd, data := .dict ens epp, slots := sl } ∧ R (.ok (.ret .notImplemented)) s) :=
  .of_wp fun prog w A R s h => by
    obtain ⟨hp, g, d, tk, os⟩ := s
    obtain ⟨hl, h⟩ := h
    wp_walk using wpAny_loadPart' hl, wpAny_load hl
    exact ⟨_, rfl, h⟩
theorem ne_dict_str {A : Around} {s : Shared} {l : Addr} {o : Obj} {ens epp} (b : Str) (u : Tok) (ho : s.heap.get? l = some o) (hc : o.cls = .type "dict") (hd : o.data = .dict ens epp) (hu : A.units < cLine) : RcNeAt A s (.ref l) (.str b u) true := fun prog w E Q h => by
  obtain ⟨cls, dd, data, sl⟩ := o
  simp only at hc hd
  subst hc hd
  exact rc_ne_decline_or (k := false) ⟨_, ho, rfl⟩ (typeIs_str s b u) (by decide) F.sub_str_dict F.slot_dict_ne F.slot_str_ne_refl
    (fun _ hq => call_meets F.slot_dict_ne ⟨_, ho, rfl⟩ F.entry_dict_ne (F.args_dict_ne_2 _ _) (dict_ne_no l _ dd sl b u) ⟨ho, hq⟩)
    (fun _ hq => call_meets F.slot_str_ne_refl (typeIs_str s b u) F.entry_str_ne (F.args_str_ne_2 _ _) (str_ne_no b u l (.type "dict") _ _ dd sl) ⟨ho, hq⟩)
    (fun _ hq => wpAny_of_eq (rfl : isSame (.ref l) (.str b u) = pure false) hq) (.inr hu) h
def rNeDS : R2 := fun x y H Q => ∃ a kvs z, x = .ref a ∧ y = .str z ∧ H a = some (.dK kvs) ∧ Q (.bl true) H
theorem op_neDS {X : Cx} (hu : X.A.units + 64 < cLine) : OpR X (compareOp .NotEq) rNeDS := by
  rintro pins s σ H x y v u Q I rx ry ⟨a, kvs, z, rfl, rfl, h1, q⟩
  cases rx
  obtain ⟨t, rfl⟩ := ry
  obtain ⟨_, _, vs, kv, o, es, ep, ho, hex, hd, _⟩ := dk_of I.hok h1
  exact ne_dict_str z t ho hex.1 hd (by omega) X.prog X.w _ _ ⟨.bl _, H, I, rfl, q⟩
/-- x != text, x may be a dict -/
def dNeS : WR := fun x y m Q => match x, y with
  | .dct _ _, .str _ => Q (.bl true) m
  | x, y => dNe x y m Q
theorem c_neS {P : Program} {wo : World} {K : Fg} {mg : Str → Option Value} {base : Heap} {k : Nat} {N : List Str} {ι : Type} {X : ι → Cx} (hX : Fam P wo K mg base k N X) : CmpU K X .NotEq dNeS := by
  obtain ⟨r, h1, h2⟩ := c_ne hX
  refine ⟨fun x y H Q => r x y H Q ∨ rNeDS x y H Q, fun i => (h1 i).or (op_neDS (by have := (hX.room i).un; omega)), ?_⟩
  intro G m F H x y dx dy Q Qd hW rx ry h hQ
  unfold dNeS at h
  split at h
  · cases rx with
    | dct hx _ _ _ =>
      cases ry
      exact Or.inr ⟨_, _, _, rfl, rfl, hW.ex _ _ hx, hQ.here hW h (.bl _)⟩
  · exact Or.inl (h2 G m F H x y dx dy Q Qd hW rx ry h hQ)
end DL
/-! XN: list(e) that is changed later, constants, clauses apart -/
namespace DL
open PySem L2 XO
open Evl (Ex)
section
variable {K : Fg} {W : Wx} {ι : Type} {X : ι → Cx} {pos : Pos}
/-- list(e), owned -/
def itemsD (m : Mem) : D → Option (List D)
  | .lst ds => some ds
  | .tup ds => some ds
  | .box a => m a
  | _ => none
def dListO : WC := fun xs m Q => match xs with
  | [x] => ∃ ds, itemsD m x = some ds ∧ ∀ p, m p = none → Q (.box p) (m.up p ds)
  | _ => False
theorem b_listO (hK : ∀ i, (X i).K = K) : BiU K X (.type "list") dListO := by
  refine ⟨_, fun i => hK i ▸ call_list_of, ?_⟩
  intro G m F H xs ds Q Qd hW r h hQ
  unfold dListO at h
  split at h
  · obtain ⟨es, hi, q⟩ := h
    have fin : ∀ ys, RpA K G ys es → ∀ p, H p = none → Q (.ref p) (upd H p (.lst ys)) := by
      intro ys rr p hp
      obtain ⟨hm, W'⟩ := hW.newOwn hp rr
      exact hQ _ _ _ G _ (q p hm) (Ex.refl G) W' (.box p)
    cases r with
    | cons r1 t =>
      cases t
      cases r1 with
      | lst hx rr => cases hi; exact ⟨_, _, rfl, Or.inl (SqL.of (hW.ex _ _ hx)), fin _ rr⟩
      | tup hx rr => cases hi; exact ⟨_, _, rfl, Or.inr (Evl.ex_t hW.ex hx), fin _ rr⟩
      | box a =>
        obtain ⟨_, _, ys, hy, ry⟩ := hW.own _ _ hi
        exact ⟨_, _, rfl, Or.inl (SqL.of hy), fin _ ry⟩
      | _ => cases hi
  · cases h
/-- a constant that is an object -/
theorem pd_globR {mg : Str → Option Value} {x : Str} {d : D} (hX : ∀ j, (X j).mg = mg) (hm : ∃ a, mg x = some (.ref a) ∧ ∀ G, Rp K G (.ref a) d) (hg : ∀ j, Gl (X j) x := by intro _; rfl) (hd : (x == ("__debug__" : Str)) = false := by decide) : PD K W X (.Name x pos) (wC d) := by
  obtain ⟨a, hm, r⟩ := hm
  exact pd_glob (v := V.ref a) hX hm rfl r hg hd
end
theorem rp_globT {K : Fg} {ss : List Str} {a : Addr} {o : Obj} {its : Array Value} {n : Nat} (lk : K.lookup a = some o) (oc : o.cls = .type "tuple") (od : o.data = .seq its n) (hz : its.size ≤ sizeLine) (hv : Vals (ss.map V.str) its.toList) : ∀ G, Rp K G (.ref a) (.tup (ss.map D.str)) :=
  fun G => .tup (Or.inr ⟨o, its, n, lk, oc, od, hz, hv⟩) (rp_strs ss)
/-- all arguments: those by position, those by name -/
def gApp : List D → List D → List D := fun ds es => ds ++ es
/-- no class of the names catches what is raised for another -/
def ApartAll (K : Fg) (mg : Str → Option Value) (l : List Str) : Prop := ∀ x ∈ l, ∀ y ∈ l, x ≠ y → ∀ C C', mg x = some (.ref C) → mg y = some (.ref C') → PySem.W.exmOne K (.ref C') (.ref C) = some false
theorem pw_of {K : Fg} {mg : Str → Option Value} {l : List Str} (h : ApartAll K mg l) : ∀ {cs : List Cl}, (∀ c ∈ cs, c.1 ∈ l) → (cs.map (·.1)).Nodup → cs.Pairwise (Apart K mg)
  | [], _, _ => .nil
  | c :: cs, hl, hn => by
    rw [List.map_cons, List.nodup_cons] at hn
    refine .cons (fun c' hc' C C' h1 h2 => ?_) (pw_of h (fun c hc => hl c (List.mem_cons_of_mem _ hc)) hn.2)
    refine h c.1 (hl c List.mem_cons_self) c'.1 (hl c' (List.mem_cons_of_mem _ hc')) (fun e => hn.1 ?_) C C' h1 h2
    rw [e]
    exact List.mem_map_of_mem hc'
end DL
namespace DL
open PySem L2 XO
def apartB (K : Fg) (cs : List (Str × Addr)) : Bool := cs.all fun p => cs.all fun q => p.1 == q.1 || PySem.W.exmOne K (.ref q.2) (.ref p.2) == some false
theorem apart_mk {K : Fg} {mg : Str → Option Value} {cs : List (Str × Addr)} (hm : ∀ p ∈ cs, mg p.1 = some (.ref p.2)) (h : apartB K cs = true) : ApartAll K mg (cs.map (·.1)) := by
  intro x hx y hy hne C C' h1 h2
  obtain ⟨p, hp, rfl⟩ := List.mem_map.mp hx
  obtain ⟨q, hq, rfl⟩ := List.mem_map.mp hy
  rw [hm p hp] at h1
  rw [hm q hq] at h2
  cases h1; cases h2
  have a := List.all_eq_true.mp (List.all_eq_true.mp h p hp) q hq
  rcases Bool.or_eq_true_iff.mp a with a | a
  · exact absurd (eq_of_beq a) hne
  · exact eq_of_beq a
end DL
namespace DL
open PySem L2 XO
theorem exm_other {K : Fg} {S T : Addr} (h1 : PySem.W.subIn K (.ref T) (.type "BaseException") = some true) (h2 : PySem.W.isClsIn K T = true) (h3 : PySem.W.typeIn K (.ref T) = some (.type "type")) (h4 : PySem.W.subIn K (.ref S) (.ref T) = some false) : PySem.W.exmOne K (.ref S) (.ref T) = some false := by
  unfold PySem.W.exmOne PySem.W.kitCls
  rw [if_pos (by rw [h1]; rfl)]
  show (if ((PySem.W.clsIn K T).isSome && PySem.W.typeIn K (.ref T) == some (.type "type")) = true then PySem.W.subIn K (.ref S) (.ref T) else none) = some false
  rw [if_pos (by rw [show (PySem.W.clsIn K T).isSome = true from h2, h3]; rfl)]
  exact h4
theorem binds_full {K : Fg} {fd : FuncData} {ps : List Str} (h : ∃ ds, Vals ([] : List V) ds ∧ Binds K fd ps ds) : Binds K fd ps [] := by
  obtain ⟨ds, v, b⟩ := h
  cases v
  exact b
end DL
/-! XQ: readings opened one after another -/
namespace DL
open PySem L2 XO
section
variable {ρ : En0} {m : Mem} {Q : D → Mem → Prop} {Qx : XQ} {E : De} {P : Prop}
theorem a_test {w : WE} {Qb : Bool → Mem → Prop} : wTest w ρ m Qb Qx = w ρ m (fun d m' => match d with
  | .bl b => Qb b m'
  | _ => False) Qx := rfl
theorem a_op {r : WR} {a b : WE} : wOp r a b ρ m Q Qx = a ρ m (fun x m1 => b ρ m1 (fun y m2 => r x y m2 Q) Qx) Qx := rfl
theorem a_var {i : Nat} : wVar i ρ m Q Qx = (match ρ[i]? with
  | some (some d) => Q d m
  | _ => False) := rfl
theorem a_c {d : D} : wC d ρ m Q Qx = Q d m := rfl
theorem a_call {fn : DFn} {a : WA} : wCall fn a ρ m Q Qx = a ρ m (fun ds m1 => fn ds m1 Q (fun _ _ => False)) Qx := rfl
theorem a_callX {fn : DFn} {a : WA} : wCallX fn a ρ m Q Qx = a ρ m (fun ds m1 => fn ds m1 Q Qx) Qx := rfl
theorem a_call0 {fn : DFn} : wCall0 fn ρ m Q Qx = fn [] m Q (fun _ _ => False) := rfl
theorem a_nil {Ql : List D → Mem → Prop} : wNil ρ m Ql Qx = Ql [] m := rfl
theorem a_cons {a : WE} {r : WA} {Ql : List D → Mem → Prop} : wCons a r ρ m Ql Qx = a ρ m (fun x m1 => r ρ m1 (fun xs m2 => Ql (x :: xs) m2) Qx) Qx := rfl
theorem a_bi {w : WC} {a : WA} : wBi w a ρ m Q Qx = a ρ m (fun ds m1 => w ds m1 Q) Qx := rfl
theorem a_tnot {a : WT} {Qb : Bool → Mem → Prop} : tvNot a ρ m Qb Qx = a ρ m (fun c m1 => Qb (!c) m1) Qx := rfl
theorem a_tor {a b : WT} {Qb : Bool → Mem → Prop} : tvOr a b ρ m Qb Qx = a ρ m (fun c m1 => if c = true then Qb true m1 else b ρ m1 Qb Qx) Qx := rfl
theorem a_tand {a b : WT} {Qb : Bool → Mem → Prop} : tvAnd a b ρ m Qb Qx = a ρ m (fun c m1 => if c = true then b ρ m1 Qb Qx else Qb false m1) Qx := rfl
theorem a_tru {w : WE} {Qb : Bool → Mem → Prop} : wTru w ρ m Qb Qx = w ρ m (fun d m1 => ∃ k, truD m1 d = some k ∧ Qb k m1) Qx := rfl
theorem a_yes {Qb : Bool → Mem → Prop} : tvYes ρ m Qb Qx = Qb true m := rfl
theorem a_if {t : WT} {a b : WE} : wIf t a b ρ m Q Qx = t ρ m (fun c m1 => if c = true then a ρ m1 Q Qx else b ρ m1 Q Qx) Qx := rfl
theorem a_and {a b : WE} : wAnd a b ρ m Q Qx = a ρ m (fun x m1 => match x with
  | .bl c => if c = true then b ρ m1 Q Qx else Q (.bl false) m1
  | _ => False) Qx := rfl
theorem a_or {a b : WE} : wOr a b ρ m Q Qx = a ρ m (fun x m1 => match x with
  | .bl c => if c = true then Q (.bl true) m1 else b ρ m1 Q Qx
  | _ => False) Qx := rfl
theorem a_not {a : WE} : wNot a ρ m Q Qx = a ρ m (fun x m1 => match x with
  | .bl c => Q (.bl (!c)) m1
  | _ => False) Qx := rfl
theorem a_chain {r r' : WR} {a b c : WE} : wChain r r' a b c ρ m Q Qx = a ρ m (fun x m1 => b ρ m1 (fun y m2 => r x y m2 fun z m3 => match z with
  | .bl k => if k = true then c ρ m3 (fun u m4 => r' y u m4 Q) Qx else Q (.bl false) m3
  | _ => False) Qx) Qx := rfl
theorem a_sl {a : WE} {l h : WO} : wSl a l h ρ m Q Qx = a ρ m (fun x m1 => l ρ m1 (fun lo m2 => h ρ m2 (fun hi m3 => dSl x lo hi m3 Q) Qx) Qx) Qx := rfl
theorem a_noPart {Qo : Option Int → Mem → Prop} : wNoPart ρ m Qo Qx = Qo none m := rfl
theorem a_part {a : WE} {Qo : Option Int → Mem → Prop} : wPart a ρ m Qo Qx = a ρ m (fun d m1 => match d with
  | .int i => Qo (some i) m1
  | _ => False) Qx := rfl
theorem a_lst {r : WA} : wLst r ρ m Q Qx = r ρ m (fun ds m1 => ds.length ≤ sizeLine ∧ Q (.lst ds) m1) Qx := rfl
theorem a_tup {r : WA} : wTup r ρ m Q Qx = r ρ m (fun ds m1 => ds.length ≤ sizeLine ∧ Q (.tup ds) m1) Qx := rfl
theorem a_dct0 : wDct0 ρ m Q Qx = Q (.dct [] []) m := rfl
theorem a_own {r : WA} : wOwn r ρ m Q Qx = r ρ m (fun ds m1 => ds.length ≤ sizeLine ∧ ∀ p, m1 p = none → Q (.box p) (m1.up p ds)) Qx := rfl
theorem a_isT {we : WE} {ns : List String} : wIsiT we ns ρ m Q Qx = we ρ m (fun x m1 => typedM m1 x = true ∧ ∃ b, isaL x ns = some b ∧ Q (.bl b) m1) Qx := rfl
theorem a_next : sNext E ρ m = E.nx ρ m := rfl
theorem a_seq {t u : WS} : sSeq t u E ρ m = t { E with nx := fun ρ' m' => u E ρ' m' } ρ m := rfl
theorem a_ret {w : WE} : sRet w E ρ m = w ρ m E.rt E.ex := rfl
theorem a_drop {w : WE} : sDrop w E ρ m = w ρ m (fun _ m' => E.nx ρ m') E.ex := rfl
theorem a_sif {c : WT} {t u : WS} : sIf c t u E ρ m = c ρ m (fun k m' => if k = true then t E ρ m' else u E ρ m') E.ex := rfl
theorem a_set {i : Nat} {w : WE} : sSet i w E ρ m = w ρ m (fun d m' => E.nx (ρ.set i (some d)) m') E.ex := rfl
theorem a_raise {n fld : Str} {w : WE} : sRaise n fld w E ρ m = w ρ m (fun v m1 => E.ex ⟨n, fld, v⟩ m1) E.ex := rfl
theorem a_for {wi : WA} {g : WG} {body : WS} : sFor wi g body E ρ m = wi ρ m (fun ds m1 => wLoop g body E ds ρ m1) E.ex := rfl
theorem a_iVar {i : Nat} {Ql : List D → Mem → Prop} : iVar i ρ m Ql Qx = (match ρ[i]? with
  | some (some (.lst ds)) => Ql ds m
  | some (some (.tup ds)) => Ql ds m
  | some (some (.scr ns)) => Ql (ns.map D.int) m
  | _ => False) := by
  unfold iVar
  split <;> first | rfl | (split <;> first | rfl | simp_all)
theorem a_fld {n f : Str} {we : WE} : wFld n f we ρ m Q Qx = we ρ m (fun x m1 => match x with
  | .obj n' ks ds => n' = n ∧ ∃ d, (ks.zip ds).lookup f = some d ∧ Q d m1
  | _ => False) Qx := rfl
theorem a_lc {wi : WA} {g : WG} {tt : WT} {te : WE} {vs : List Nat} : wLc wi g tt te vs ρ m Q Qx = wi ρ m (fun ds m1 => ds.length ≤ 1000000 ∧ wLcGo g tt te (wipeD ρ vs) Qx ds [] m1 Q) Qx := rfl
theorem a_iEnumB {wr : WA} {Ql : List D → Mem → Prop} : iEnumB wr ρ m Ql Qx = wr ρ m (fun ds m1 => match ds with
  | [.lst xs] => Ql (enumD xs) m1
  | [.tup xs] => Ql (enumD xs) m1
  | _ => False) Qx := rfl
theorem a_iEnumS {wr : WA} {Ql : List D → Mem → Prop} : iEnumS wr ρ m Ql Qx = wr ρ m (fun ds m1 => match ds with
  | [.str z] => Ql (enumD (signs z)) m1
  | _ => False) Qx := rfl
theorem a_iSg {w : WE} {Ql : List D → Mem → Prop} : iSg w ρ m Ql Qx = w ρ m (fun d m1 => match d with
  | .str z => Ql (signs z) m1
  | _ => False) Qx := rfl
theorem a_iLst {w : WE} {Ql : List D → Mem → Prop} : iLst w ρ m Ql Qx = w ρ m (fun d m1 => match d with
  | .lst ds => Ql ds m1
  | .scr ns => Ql (ns.map D.int) m1
  | _ => False) Qx := rfl
theorem a_iTp {w : WE} {Ql : List D → Mem → Prop} : iTp w ρ m Ql Qx = w ρ m (fun d m1 => match d with
  | .tup ds => Ql ds m1
  | _ => False) Qx := rfl
theorem a_join {o e : WE} : wJoin o e ρ m Q Qx = o ρ m (fun x m1 => match x with
  | .str a => e ρ m1 (fun y m2 => match y with
    | .lst ds => ∃ ys, strsD ds = some ys ∧ (ys.map (·.length)).sum + ys.length * a.length ≤ 16777216 ∧ Q (.str (Txt.join a ys)) m2
    | _ => False) Qx
  | _ => False) Qx := rfl
theorem a_lenSet {we : WE} : wLenSet we ρ m Q Qx = we ρ m (fun d m1 => match d with
  | .str z => z.cps.toList.length < 4000 ∧ Q (.int (unlike z : Nat)) m1
  | _ => False) Qx := rfl
theorem a_append {o : WE} {wr : WA} : sAppend o wr E ρ m = o ρ m (fun x m1 => match x with
  | .box p => (m1 p).isSome = true ∧ wr ρ m1 (fun ds m2 => ∃ d xs, ds = [d] ∧ m2 p = some xs ∧ xs.length < sizeLine ∧ E.nx ρ (m2.up p (xs ++ [d]))) E.ex
  | _ => False) E.ex := rfl
theorem a_put {o i v : WE} : sPut o i v E ρ m = v ρ m (fun d m1 => o ρ m1 (fun x m2 => i ρ m2 (fun k m3 => match x, k with
  | .box a, .int j => ∃ ds n, m3 a = some ds ∧ ixN ds.length j = some n ∧ E.nx ρ (m3.up a (ds.set n d))
  | _, _ => False) E.ex) E.ex) E.ex := rfl
theorem a_par {i j : Nat} {wr : WA} : sPar i j wr E ρ m = wr ρ m (fun ds m1 => ∃ d1 d2, ds = [d1, d2] ∧ E.nx ((ρ.set i (some d1)).set j (some d2)) m1) E.ex := rfl
theorem a_unp {n : Nat} {g : WGs} {w : WE} : sUnp n g w E ρ m = w ρ m (fun d m1 => ∃ ds, (d = .lst ds ∨ d = .tup ds ∨ ∃ a, d = .box a ∧ m1 a = some ds) ∧ ds.length = n ∧ g ds ρ (fun ρ' => E.nx ρ' m1)) E.ex := rfl
theorem a_meth {n mm : Str} {dds : List D} {fn : DFn} {wo : WE} {wr : WA} : wMeth n mm dds fn wo wr ρ m Q Qx = wo ρ m (fun x m1 => match x with
  | .obj n' ks ds => n' = n ∧ (ks.zip ds).lookup mm = none ∧ ks.length = ds.length ∧ wr ρ m1 (fun as m2 => fn (.obj n' ks ds :: (as ++ dds)) m2 Q Qx) Qx
  | _ => False) Qx := rfl
theorem a_make {nn kk : Nat} {gD : List D → List D → List D} {fn : DFn} {wr wk : WA} : wMake nn kk gD fn wr wk ρ m Q Qx = wr ρ m (fun ds m1 => wk ρ m1 (fun es m2 => ds.length = nn ∧ es.length = kk ∧ fn (gD ds es) m2 Q Qx) Qx) Qx := rfl
theorem a_rg1 {w : WA} {Ql : List D → Mem → Prop} : iRg1 w ρ m Ql Qx = w ρ m (fun ds m1 => match ds with
  | [.int n] => (-(2 ^ 62) ≤ n ∧ n < 2 ^ 62) ∧ Ql ((List.range n.toNat).map fun i => D.int (0 + (i : Nat))) m1
  | _ => False) Qx := rfl
theorem a_gTup {n : Nat} {g : WGs} {ds : List D} {Qe : En0 → Prop} : gvTup n g (.tup ds) ρ Qe = (ds.length = n ∧ g ds ρ Qe) := rfl
theorem a_gName {i : Nat} {d : D} {Qe : En0 → Prop} : gvName i d ρ Qe = Qe (ρ.set i (some d)) := rfl
theorem a_gNil {Qe : En0 → Prop} : gvNil [] ρ Qe = Qe ρ := by
  show (([] : List D) = [] ∧ Qe ρ) = Qe ρ
  simp
theorem a_gCons {g : WG} {r : WGs} {d : D} {ds : List D} {Qe : En0 → Prop} : gvCons g r (d :: ds) ρ Qe = g d ρ fun ρ1 => r ds ρ1 Qe := by
  apply propext
  constructor
  · rintro ⟨d', t, e, h⟩
    cases e
    exact h
  · intro h
    exact ⟨d, ds, rfl, h⟩
theorem a_loopN {g : WG} {body : WS} : wLoop g body E [] ρ m = E.nx ρ m := rfl
theorem a_loopC {g : WG} {body : WS} {d : D} {ds : List D} : wLoop g body E (d :: ds) ρ m = g d ρ fun ρ1 => body { E with nx := wLoop g body E ds, ct := wLoop g body E ds, bk := E.nx } ρ1 m := rfl
end
end DL
/-! XQQ: slots by their numbers -/
namespace DL
open PySem L2 XO
/-- the statements that follow, not opened yet -/
def Hold (u : WS) (E : De) : En0 → Mem → Prop := fun ρ m => u E ρ m
theorem a_hold {u : WS} {E : De} {ρ : En0} {m : Mem} : Hold u E ρ m = u E ρ m := rfl
theorem a_seqH {t u : WS} {E : De} {ρ : En0} {m : Mem} : sSeq t u E ρ m = t { E with nx := Hold u E } ρ m := rfl
section
variable {m : Mem} {Q : D → Mem → Prop} {Qx : XQ} {E : De} {w : WE} {ρ : En0} {d : D} {Qe : En0 → Prop} {Ql : List D → Mem → Prop}
theorem a_v0 : wVar 0 (some d :: ρ) m Q Qx = Q d m := rfl
theorem a_s0 {p : Option D} : sSet 0 w E (p :: ρ) m = w (p :: ρ) m (fun d m' => E.nx (some d :: ρ) m') E.ex := rfl
theorem a_g0 {p : Option D} : gvName 0 d (p :: ρ) Qe = Qe (some d :: ρ) := rfl
theorem a_ilst0 {ds : List D} : iVar 0 (some (.lst ds) :: ρ) m Ql Qx = Ql ds m := rfl
theorem a_itup0 {ds : List D} : iVar 0 (some (.tup ds) :: ρ) m Ql Qx = Ql ds m := rfl
theorem a_v1 {o0 : Option D} : wVar 1 (o0 :: some d :: ρ) m Q Qx = Q d m := rfl
theorem a_s1 {o0 : Option D} {p : Option D} : sSet 1 w E (o0 :: p :: ρ) m = w (o0 :: p :: ρ) m (fun d m' => E.nx (o0 :: some d :: ρ) m') E.ex := rfl
theorem a_g1 {o0 : Option D} {p : Option D} : gvName 1 d (o0 :: p :: ρ) Qe = Qe (o0 :: some d :: ρ) := rfl
theorem a_ilst1 {o0 : Option D} {ds : List D} : iVar 1 (o0 :: some (.lst ds) :: ρ) m Ql Qx = Ql ds m := rfl
theorem a_itup1 {o0 : Option D} {ds : List D} : iVar 1 (o0 :: some (.tup ds) :: ρ) m Ql Qx = Ql ds m := rfl
theorem a_v2 {o0 o1 : Option D} : wVar 2 (o0 :: o1 :: some d :: ρ) m Q Qx = Q d m := rfl
theorem a_s2 {o0 o1 : Option D} {p : Option D} : sSet 2 w E (o0 :: o1 :: p :: ρ) m = w (o0 :: o1 :: p :: ρ) m (fun d m' => E.nx (o0 :: o1 :: some d :: ρ) m') E.ex := rfl
theorem a_g2 {o0 o1 : Option D} {p : Option D} : gvName 2 d (o0 :: o1 :: p :: ρ) Qe = Qe (o0 :: o1 :: some d :: ρ) := rfl
theorem a_ilst2 {o0 o1 : Option D} {ds : List D} : iVar 2 (o0 :: o1 :: some (.lst ds) :: ρ) m Ql Qx = Ql ds m := rfl
theorem a_itup2 {o0 o1 : Option D} {ds : List D} : iVar 2 (o0 :: o1 :: some (.tup ds) :: ρ) m Ql Qx = Ql ds m := rfl
theorem a_v3 {o0 o1 o2 : Option D} : wVar 3 (o0 :: o1 :: o2 :: some d :: ρ) m Q Qx = Q d m := rfl
theorem a_s3 {o0 o1 o2 : Option D} {p : Option D} : sSet 3 w E (o0 :: o1 :: o2 :: p :: ρ) m = w (o0 :: o1 :: o2 :: p :: ρ) m (fun d m' => E.nx (o0 :: o1 :: o2 :: some d :: ρ) m') E.ex := rfl
theorem a_g3 {o0 o1 o2 : Option D} {p : Option D} : gvName 3 d (o0 :: o1 :: o2 :: p :: ρ) Qe = Qe (o0 :: o1 :: o2 :: some d :: ρ) := rfl
theorem a_ilst3 {o0 o1 o2 : Option D} {ds : List D} : iVar 3 (o0 :: o1 :: o2 :: some (.lst ds) :: ρ) m Ql Qx = Ql ds m := rfl
theorem a_itup3 {o0 o1 o2 : Option D} {ds : List D} : iVar 3 (o0 :: o1 :: o2 :: some (.tup ds) :: ρ) m Ql Qx = Ql ds m := rfl
theorem a_v4 {o0 o1 o2 o3 : Option D} : wVar 4 (o0 :: o1 :: o2 :: o3 :: some d :: ρ) m Q Qx = Q d m := rfl
theorem a_s4 {o0 o1 o2 o3 : Option D} {p : Option D} : sSet 4 w E (o0 :: o1 :: o2 :: o3 :: p :: ρ) m = w (o0 :: o1 :: o2 :: o3 :: p :: ρ) m (fun d m' => E.nx (o0 :: o1 :: o2 :: o3 :: some d :: ρ) m') E.ex := rfl
theorem a_g4 {o0 o1 o2 o3 : Option D} {p : Option D} : gvName 4 d (o0 :: o1 :: o2 :: o3 :: p :: ρ) Qe = Qe (o0 :: o1 :: o2 :: o3 :: some d :: ρ) := rfl
theorem a_ilst4 {o0 o1 o2 o3 : Option D} {ds : List D} : iVar 4 (o0 :: o1 :: o2 :: o3 :: some (.lst ds) :: ρ) m Ql Qx = Ql ds m := rfl
theorem a_itup4 {o0 o1 o2 o3 : Option D} {ds : List D} : iVar 4 (o0 :: o1 :: o2 :: o3 :: some (.tup ds) :: ρ) m Ql Qx = Ql ds m := rfl
theorem a_v5 {o0 o1 o2 o3 o4 : Option D} : wVar 5 (o0 :: o1 :: o2 :: o3 :: o4 :: some d :: ρ) m Q Qx = Q d m := rfl
theorem a_s5 {o0 o1 o2 o3 o4 : Option D} {p : Option D} : sSet 5 w E (o0 :: o1 :: o2 :: o3 :: o4 :: p :: ρ) m = w (o0 :: o1 :: o2 :: o3 :: o4 :: p :: ρ) m (fun d m' => E.nx (o0 :: o1 :: o2 :: o3 :: o4 :: some d :: ρ) m') E.ex := rfl
theorem a_g5 {o0 o1 o2 o3 o4 : Option D} {p : Option D} : gvName 5 d (o0 :: o1 :: o2 :: o3 :: o4 :: p :: ρ) Qe = Qe (o0 :: o1 :: o2 :: o3 :: o4 :: some d :: ρ) := rfl
theorem a_ilst5 {o0 o1 o2 o3 o4 : Option D} {ds : List D} : iVar 5 (o0 :: o1 :: o2 :: o3 :: o4 :: some (.lst ds) :: ρ) m Ql Qx = Ql ds m := rfl
theorem a_itup5 {o0 o1 o2 o3 o4 : Option D} {ds : List D} : iVar 5 (o0 :: o1 :: o2 :: o3 :: o4 :: some (.tup ds) :: ρ) m Ql Qx = Ql ds m := rfl
theorem a_v6 {o0 o1 o2 o3 o4 o5 : Option D} : wVar 6 (o0 :: o1 :: o2 :: o3 :: o4 :: o5 :: some d :: ρ) m Q Qx = Q d m := rfl
theorem a_s6 {o0 o1 o2 o3 o4 o5 : Option D} {p : Option D} : sSet 6 w E (o0 :: o1 :: o2 :: o3 :: o4 :: o5 :: p :: ρ) m = w (o0 :: o1 :: o2 :: o3 :: o4 :: o5 :: p :: ρ) m (fun d m' => E.nx (o0 :: o1 :: o2 :: o3 :: o4 :: o5 :: some d :: ρ) m') E.ex := rfl
theorem a_g6 {o0 o1 o2 o3 o4 o5 : Option D} {p : Option D} : gvName 6 d (o0 :: o1 :: o2 :: o3 :: o4 :: o5 :: p :: ρ) Qe = Qe (o0 :: o1 :: o2 :: o3 :: o4 :: o5 :: some d :: ρ) := rfl
theorem a_ilst6 {o0 o1 o2 o3 o4 o5 : Option D} {ds : List D} : iVar 6 (o0 :: o1 :: o2 :: o3 :: o4 :: o5 :: some (.lst ds) :: ρ) m Ql Qx = Ql ds m := rfl
theorem a_itup6 {o0 o1 o2 o3 o4 o5 : Option D} {ds : List D} : iVar 6 (o0 :: o1 :: o2 :: o3 :: o4 :: o5 :: some (.tup ds) :: ρ) m Ql Qx = Ql ds m := rfl
theorem a_v7 {o0 o1 o2 o3 o4 o5 o6 : Option D} : wVar 7 (o0 :: o1 :: o2 :: o3 :: o4 :: o5 :: o6 :: some d :: ρ) m Q Qx = Q d m := rfl
theorem a_s7 {o0 o1 o2 o3 o4 o5 o6 : Option D} {p : Option D} : sSet 7 w E (o0 :: o1 :: o2 :: o3 :: o4 :: o5 :: o6 :: p :: ρ) m = w (o0 :: o1 :: o2 :: o3 :: o4 :: o5 :: o6 :: p :: ρ) m (fun d m' => E.nx (o0 :: o1 :: o2 :: o3 :: o4 :: o5 :: o6 :: some d :: ρ) m') E.ex := rfl
theorem a_g7 {o0 o1 o2 o3 o4 o5 o6 : Option D} {p : Option D} : gvName 7 d (o0 :: o1 :: o2 :: o3 :: o4 :: o5 :: o6 :: p :: ρ) Qe = Qe (o0 :: o1 :: o2 :: o3 :: o4 :: o5 :: o6 :: some d :: ρ) := rfl
theorem a_ilst7 {o0 o1 o2 o3 o4 o5 o6 : Option D} {ds : List D} : iVar 7 (o0 :: o1 :: o2 :: o3 :: o4 :: o5 :: o6 :: some (.lst ds) :: ρ) m Ql Qx = Ql ds m := rfl
theorem a_itup7 {o0 o1 o2 o3 o4 o5 o6 : Option D} {ds : List D} : iVar 7 (o0 :: o1 :: o2 :: o3 :: o4 :: o5 :: o6 :: some (.tup ds) :: ρ) m Ql Qx = Ql ds m := rfl
theorem a_v8 {o0 o1 o2 o3 o4 o5 o6 o7 : Option D} : wVar 8 (o0 :: o1 :: o2 :: o3 :: o4 :: o5 :: o6 :: o7 :: some d :: ρ) m Q Qx = Q d m := rfl
theorem a_s8 {o0 o1 o2 o3 o4 o5 o6 o7 : Option D} {p : Option D} : sSet 8 w E (o0 :: o1 :: o2 :: o3 :: o4 :: o5 :: o6 :: o7 :: p :: ρ) m = w (o0 :: o1 :: o2 :: o3 :: o4 :: o5 :: o6 :: o7 :: p :: ρ) m (fun d m' => E.nx (o0 :: o1 :: o2 :: o3 :: o4 :: o5 :: o6 :: o7 :: some d :: ρ) m') E.ex := rfl
theorem a_g8 {o0 o1 o2 o3 o4 o5 o6 o7 : Option D} {p : Option D} : gvName 8 d (o0 :: o1 :: o2 :: o3 :: o4 :: o5 :: o6 :: o7 :: p :: ρ) Qe = Qe (o0 :: o1 :: o2 :: o3 :: o4 :: o5 :: o6 :: o7 :: some d :: ρ) := rfl
theorem a_ilst8 {o0 o1 o2 o3 o4 o5 o6 o7 : Option D} {ds : List D} : iVar 8 (o0 :: o1 :: o2 :: o3 :: o4 :: o5 :: o6 :: o7 :: some (.lst ds) :: ρ) m Ql Qx = Ql ds m := rfl
theorem a_itup8 {o0 o1 o2 o3 o4 o5 o6 o7 : Option D} {ds : List D} : iVar 8 (o0 :: o1 :: o2 :: o3 :: o4 :: o5 :: o6 :: o7 :: some (.tup ds) :: ρ) m Ql Qx = Ql ds m := rfl
theorem a_v9 {o0 o1 o2 o3 o4 o5 o6 o7 o8 : Option D} : wVar 9 (o0 :: o1 :: o2 :: o3 :: o4 :: o5 :: o6 :: o7 :: o8 :: some d :: ρ) m Q Qx = Q d m := rfl
theorem a_s9 {o0 o1 o2 o3 o4 o5 o6 o7 o8 : Option D} {p : Option D} : sSet 9 w E (o0 :: o1 :: o2 :: o3 :: o4 :: o5 :: o6 :: o7 :: o8 :: p :: ρ) m = w (o0 :: o1 :: o2 :: o3 :: o4 :: o5 :: o6 :: o7 :: o8 :: p :: ρ) m (fun d m' => E.nx (o0 :: o1 :: o2 :: o3 :: o4 :: o5 :: o6 :: o7 :: o8 :: some d :: ρ) m') E.ex := rfl
theorem a_g9 {o0 o1 o2 o3 o4 o5 o6 o7 o8 : Option D} {p : Option D} : gvName 9 d (o0 :: o1 :: o2 :: o3 :: o4 :: o5 :: o6 :: o7 :: o8 :: p :: ρ) Qe = Qe (o0 :: o1 :: o2 :: o3 :: o4 :: o5 :: o6 :: o7 :: o8 :: some d :: ρ) := rfl
theorem a_ilst9 {o0 o1 o2 o3 o4 o5 o6 o7 o8 : Option D} {ds : List D} : iVar 9 (o0 :: o1 :: o2 :: o3 :: o4 :: o5 :: o6 :: o7 :: o8 :: some (.lst ds) :: ρ) m Ql Qx = Ql ds m := rfl
theorem a_itup9 {o0 o1 o2 o3 o4 o5 o6 o7 o8 : Option D} {ds : List D} : iVar 9 (o0 :: o1 :: o2 :: o3 :: o4 :: o5 :: o6 :: o7 :: o8 :: some (.tup ds) :: ρ) m Ql Qx = Ql ds m := rfl
theorem a_v10 {o0 o1 o2 o3 o4 o5 o6 o7 o8 o9 : Option D} : wVar 10 (o0 :: o1 :: o2 :: o3 :: o4 :: o5 :: o6 :: o7 :: o8 :: o9 :: some d :: ρ) m Q Qx = Q d m := rfl
theorem a_s10 {o0 o1 o2 o3 o4 o5 o6 o7 o8 o9 : Option D} {p : Option D} : sSet 10 w E (o0 :: o1 :: o2 :: o3 :: o4 :: o5 :: o6 :: o7 :: o8 :: o9 :: p :: ρ) m = w (o0 :: o1 :: o2 :: o3 :: o4 :: o5 :: o6 :: o7 :: o8 :: o9 :: p :: ρ) m (fun d m' => E.nx (o0 :: o1 :: o2 :: o3 :: o4 :: o5 :: o6 :: o7 :: o8 :: o9 :: some d :: ρ) m') E.ex := rfl
theorem a_g10 {o0 o1 o2 o3 o4 o5 o6 o7 o8 o9 : Option D} {p : Option D} : gvName 10 d (o0 :: o1 :: o2 :: o3 :: o4 :: o5 :: o6 :: o7 :: o8 :: o9 :: p :: ρ) Qe = Qe (o0 :: o1 :: o2 :: o3 :: o4 :: o5 :: o6 :: o7 :: o8 :: o9 :: some d :: ρ) := rfl
theorem a_ilst10 {o0 o1 o2 o3 o4 o5 o6 o7 o8 o9 : Option D} {ds : List D} : iVar 10 (o0 :: o1 :: o2 :: o3 :: o4 :: o5 :: o6 :: o7 :: o8 :: o9 :: some (.lst ds) :: ρ) m Ql Qx = Ql ds m := rfl
theorem a_itup10 {o0 o1 o2 o3 o4 o5 o6 o7 o8 o9 : Option D} {ds : List D} : iVar 10 (o0 :: o1 :: o2 :: o3 :: o4 :: o5 :: o6 :: o7 :: o8 :: o9 :: some (.tup ds) :: ρ) m Ql Qx = Ql ds m := rfl
theorem a_v11 {o0 o1 o2 o3 o4 o5 o6 o7 o8 o9 o10 : Option D} : wVar 11 (o0 :: o1 :: o2 :: o3 :: o4 :: o5 :: o6 :: o7 :: o8 :: o9 :: o10 :: some d :: ρ) m Q Qx = Q d m := rfl
theorem a_s11 {o0 o1 o2 o3 o4 o5 o6 o7 o8 o9 o10 : Option D} {p : Option D} : sSet 11 w E (o0 :: o1 :: o2 :: o3 :: o4 :: o5 :: o6 :: o7 :: o8 :: o9 :: o10 :: p :: ρ) m = w (o0 :: o1 :: o2 :: o3 :: o4 :: o5 :: o6 :: o7 :: o8 :: o9 :: o10 :: p :: ρ) m (fun d m' => E.nx (o0 :: o1 :: o2 :: o3 :: o4 :: o5 :: o6 :: o7 :: o8 :: o9 :: o10 :: some d :: ρ) m') E.ex := rfl
theorem a_g11 {o0 o1 o2 o3 o4 o5 o6 o7 o8 o9 o10 : Option D} {p : Option D} : gvName 11 d (o0 :: o1 :: o2 :: o3 :: o4 :: o5 :: o6 :: o7 :: o8 :: o9 :: o10 :: p :: ρ) Qe = Qe (o0 :: o1 :: o2 :: o3 :: o4 :: o5 :: o6 :: o7 :: o8 :: o9 :: o10 :: some d :: ρ) := rfl
theorem a_ilst11 {o0 o1 o2 o3 o4 o5 o6 o7 o8 o9 o10 : Option D} {ds : List D} : iVar 11 (o0 :: o1 :: o2 :: o3 :: o4 :: o5 :: o6 :: o7 :: o8 :: o9 :: o10 :: some (.lst ds) :: ρ) m Ql Qx = Ql ds m := rfl
theorem a_itup11 {o0 o1 o2 o3 o4 o5 o6 o7 o8 o9 o10 : Option D} {ds : List D} : iVar 11 (o0 :: o1 :: o2 :: o3 :: o4 :: o5 :: o6 :: o7 :: o8 :: o9 :: o10 :: some (.tup ds) :: ρ) m Ql Qx = Ql ds m := rfl
theorem a_v12 {o0 o1 o2 o3 o4 o5 o6 o7 o8 o9 o10 o11 : Option D} : wVar 12 (o0 :: o1 :: o2 :: o3 :: o4 :: o5 :: o6 :: o7 :: o8 :: o9 :: o10 :: o11 :: some d :: ρ) m Q Qx = Q d m := rfl
theorem a_s12 {o0 o1 o2 o3 o4 o5 o6 o7 o8 o9 o10 o11 : Option D} {p : Option D} : sSet 12 w E (o0 :: o1 :: o2 :: o3 :: o4 :: o5 :: o6 :: o7 :: o8 :: o9 :: o10 :: o11 :: p :: ρ) m = w (o0 :: o1 :: o2 :: o3 :: o4 :: o5 :: o6 :: o7 :: o8 :: o9 :: o10 :: o11 :: p :: ρ) m (fun d m' => E.nx (o0 :: o1 :: o2 :: o3 :: o4 :: o5 :: o6 :: o7 :: o8 :: o9 :: o10 :: o11 :: some d :: ρ) m') E.ex := rfl
theorem a_g12 {o0 o1 o2 o3 o4 o5 o6 o7 o8 o9 o10 o11 : Option D} {p : Option D} : gvName 12 d (o0 :: o1 :: o2 :: o3 :: o4 :: o5 :: o6 :: o7 :: o8 :: o9 :: o10 :: o11 :: p :: ρ) Qe = Qe (o0 :: o1 :: o2 :: o3 :: o4 :: o5 :: o6 :: o7 :: o8 :: o9 :: o10 :: o11 :: some d :: ρ) := rfl
theorem a_ilst12 {o0 o1 o2 o3 o4 o5 o6 o7 o8 o9 o10 o11 : Option D} {ds : List D} : iVar 12 (o0 :: o1 :: o2 :: o3 :: o4 :: o5 :: o6 :: o7 :: o8 :: o9 :: o10 :: o11 :: some (.lst ds) :: ρ) m Ql Qx = Ql ds m := rfl
theorem a_itup12 {o0 o1 o2 o3 o4 o5 o6 o7 o8 o9 o10 o11 : Option D} {ds : List D} : iVar 12 (o0 :: o1 :: o2 :: o3 :: o4 :: o5 :: o6 :: o7 :: o8 :: o9 :: o10 :: o11 :: some (.tup ds) :: ρ) m Ql Qx = Ql ds m := rfl
theorem a_v13 {o0 o1 o2 o3 o4 o5 o6 o7 o8 o9 o10 o11 o12 : Option D} : wVar 13 (o0 :: o1 :: o2 :: o3 :: o4 :: o5 :: o6 :: o7 :: o8 :: o9 :: o10 :: o11 :: o12 :: some d :: ρ) m Q Qx = Q d m := rfl
theorem a_s13 {o0 o1 o2 o3 o4 o5 o6 o7 o8 o9 o10 o11 o12 : Option D} {p : Option D} : sSet 13 w E (o0 :: o1 :: o2 :: o3 :: o4 :: o5 :: o6 :: o7 :: o8 :: o9 :: o10 :: o11 :: o12 :: p :: ρ) m = w (o0 :: o1 :: o2 :: o3 :: o4 :: o5 :: o6 :: o7 :: o8 :: o9 :: o10 :: o11 :: o12 :: p :: ρ) m (fun d m' => E.nx (o0 :: o1 :: o2 :: o3 :: o4 :: o5 :: o6 :: o7 :: o8 :: o9 :: o10 :: o11 :: o12 :: some d :: ρ) m') E.ex := rfl
theorem a_g13 {o0 o1 o2 o3 o4 o5 o6 o7 o8 o9 o10 o11 o12 : Option D} {p : Option D} : gvName 13 d (o0 :: o1 :: o2 :: o3 :: o4 :: o5 :: o6 :: o7 :: o8 :: o9 :: o10 :: o11 :: o12 :: p :: ρ) Qe = Qe (o0 :: o1 :: o2 :: o3 :: o4 :: o5 :: o6 :: o7 :: o8 :: o9 :: o10 :: o11 :: o12 :: some d :: ρ) := rfl
theorem a_ilst13 {o0 o1 o2 o3 o4 o5 o6 o7 o8 o9 o10 o11 o12 : Option D} {ds : List D} : iVar 13 (o0 :: o1 :: o2 :: o3 :: o4 :: o5 :: o6 :: o7 :: o8 :: o9 :: o10 :: o11 :: o12 :: some (.lst ds) :: ρ) m Ql Qx = Ql ds m := rfl
theorem a_itup13 {o0 o1 o2 o3 o4 o5 o6 o7 o8 o9 o10 o11 o12 : Option D} {ds : List D} : iVar 13 (o0 :: o1 :: o2 :: o3 :: o4 :: o5 :: o6 :: o7 :: o8 :: o9 :: o10 :: o11 :: o12 :: some (.tup ds) :: ρ) m Ql Qx = Ql ds m := rfl
end
end DL
namespace DL
open PySem L2 XO
/-! ### k05: data that the rules take -/
mutual
def okD : D → Nat → Bool
  | .non, _ => true
  | .bl _, _ => true
  | .int i, _ => decide (i.natAbs < 1000)
  | .str z, _ => decide (z.length ≤ 20) && PyData.strOk z
  | .lst ds, n + 1 => decide (ds.length ≤ 100000) && okA ds n
  | .tup ds, n + 1 => decide (ds.length ≤ 100000) && okA ds n
  | .dct [] [], _ + 1 => true
  | _, _ => false
def okA : List D → Nat → Bool
  | [], _ => true
  | d :: ds, n => okD d n && okA ds n
end
mutual
def wtD : D → Nat
  | .lst ds => 10 + wtA ds
  | .tup ds => 10 + wtA ds
  | _ => 300
def wtA : List D → Nat
  | [] => 0
  | d :: ds => wtD d + 2 + wtA ds
end
/-! what is wrong -/
inductive Fl where
  | part (x : D) | name (x : D) | twice (x : D) | cost (x : D) | group (x : D)
def Fl.xn : Fl → Xn
  | .part x => ⟨"InvalidPart", "value", x⟩
  | .name x => ⟨"InvalidName", "value", x⟩
  | .twice x => ⟨"Duplicate", "label", x⟩
  | .cost x => ⟨"UnknownCost", "label", x⟩
  | .group x => ⟨"InvalidGroup", "value", x⟩
def Fl.told : Fl → List D
  | .part x => [.str (Str.ofString "part"), x]
  | .name x => [.str (Str.ofString "name"), x]
  | .twice x => [.str (Str.ofString "twice"), x]
  | .cost x => [.str (Str.ofString "cost"), x]
  | .group x => [.str (Str.ofString "group"), x]
def told : Option Fl → List D
  | none => [.str (Str.ofString "scheme")]
  | some f => f.told
def some_ : Option Fl → List D
  | none => []
  | some f => f.told
def letS (z : Str) : Bool := decide (z.length = 1) && (!decide (z.cps.toList < [97]) && !decide ([122] < z.cps.toList))
def letters (z : Str) : Bool := z.cps.toList.all fun c => letS ⟨#[c]⟩
def isLetter : D → Bool
  | .str z => letS z
  | _ => false
def isLettered : D → Bool
  | .str z => letters z
  | _ => false
def isName : D → Bool
  | .str z => letters z && (decide (1 ≤ z.length) && decide (z.length ≤ 8))
  | _ => false
def listB : D → Option (List D)
  | .lst ds => some ds
  | .tup ds => some ds
  | _ => none
def dueNames : List D → List D → Option Fl
  | _, [] => none
  | pre, x :: xs => if isName x = true then (if inD x pre = true then some (.twice x) else dueNames (pre ++ [x]) xs) else some (.name x)
def dueCosts (c : D) : Option Fl := match listB c with
  | none => some (.part c)
  | some ds => if 1 ≤ ds.length ∧ ds.length ≤ 4 then dueNames [] ds else some (.part c)
def costB (ns : List D) (x : D) : Bool := strB x && inD x ns
def dueFirst (ns : List D) : List D → Option Fl
  | [] => none
  | x :: xs => if costB ns x = true then dueFirst ns xs else some (.cost x)
def grpL : List D → Option (Str × D)
  | [.str z, c] => if (letters z && (decide (2 ≤ z.length) && decide z.cps.toList.Nodup)) = true then some (z, c) else none
  | _ => none
def grpB (x : D) : Option (Str × D) := match listB x with
  | some ds => grpL ds
  | none => none
def dueGroups (ns : List D) : List Nat → List D → Option Fl
  | _, [] => none
  | tk, g :: gs => match grpB g with
    | none => some (.group g)
    | some (z, c) => if (z.cps.toList.any fun k => decide (k ∈ tk)) = true then some (.group g) else if costB ns c = true then dueGroups ns (tk ++ z.cps.toList) gs else some (.cost c)
def dueSets (ns : List D) (s : D) : Option Fl := match listB s with
  | none => some (.part s)
  | some gs => dueGroups ns [] gs
def dueTurn (ns : List D) (a : D) : Option Fl := if (isNonD a || costB ns a) = true then none else some (.cost a)
def andThen (o o' : Option Fl) : Option Fl := match o with
  | none => o'
  | some f => some f
def itemsOr (c : D) : List D := (listB c).getD []
def due (c p mi ch s a : D) : Option Fl := andThen (dueCosts c) (andThen (dueFirst (itemsOr c) [p, mi, ch]) (andThen (dueSets (itemsOr c) s) (dueTurn (itemsOr c) a)))
/-! memory -/
def Sub (m m' : Mem) : Prop := ∀ b ds, m b = some ds → m' b = some ds
/-- the box: three ints; the third counts -/
def Box (l : List D) (c : Int) : Prop := ∃ x y z : Int, l = [.int x, .int y, .int z] ∧ 0 ≤ x ∧ 0 ≤ y ∧ y < 2147483648 ∧ 0 ≤ z ∧ z ≤ c
/-- the box at a was drawn from, new objects beside it -/
def Nx (a : Addr) (c : Int) (m m' : Mem) : Prop := (∀ b ds, b ≠ a → m b = some ds → m' b = some ds) ∧ ∃ l, m' a = some l ∧ Box l c
def typM (m : Mem) (x : D) : Prop := typedM m x = true
def isL (x : D) : Bool := lstB x || tupB x || (match x with | .box _ => true | _ => false)
/-! ### what each def is worth -/
def F_is_list : DFn := fun ds m Q _ => ∃ x, ds = [x] ∧ typM m x ∧ Q (.bl (isL x)) m
def fun1 (f : D → Bool) : DFn := fun ds m Q _ => ∃ x, ds = [x] ∧ (∃ n, okD x n = true) ∧ Q (.bl (f x)) m
def F_is_letter : DFn := fun1 isLetter
def F_is_lettered : DFn := fun1 isLettered
def F_is_name : DFn := fun1 isName
def F_check_cost : DFn := fun ds m Q Qx => ∃ nm x ns, ds = [nm, x] ∧ listB nm = some ns ∧ ns.all strB = true ∧ (∃ n, okD x n = true) ∧ (if costB ns x = true then Q .non m else Qx (Fl.cost x).xn m)
def F_check_names : DFn := fun ds m Q Qx => ∃ x, ds = [x] ∧
  (((∃ n, okD x n = true) ∧ match dueCosts x with
    | none => Q .non m
    | some f => Qx f.xn m) ∨ (∃ a, x = .box a ∧ m a = some [] ∧ Qx (Fl.part x).xn m))
def F_is_group : DFn := fun ds m Q _ => ∃ x, ds = [x] ∧ (((∃ n, okD x n = true) ∧ Q (.bl (grpB x).isSome) m) ∨ (∃ a l, x = .box a ∧ m a = some l ∧ l.length ≠ 2 ∧ Q (.bl false) m))
def F_checked_groups : DFn := fun ds m Q Qx => ∃ nm s ns, ds = [nm, s] ∧ listB nm = some ns ∧ ns.all strB = true ∧
  (((∃ n, okD s n = true) ∧ ∀ m', Sub m m' → match dueSets ns s with
    | none => ∀ gs, Q (.tup gs) m'
    | some f => Qx f.xn m') ∨ (∃ b l, s = .lst [.box b] ∧ m b = some l ∧ l.length ≠ 2 ∧ ∀ m', Sub m m' → Qx (Fl.group (.box b)).xn m'))
def flatL (x : D) : Bool := match listB x with
  | some ds => ds.all flatD
  | none => true
def lastL : List D → Bool
  | [l] => isLetter l
  | _ => false
def stepB (x : D) : Bool := match listB x with
  | some (h :: t) => if inD h [.str (Str.ofString "keep"), .str (Str.ofString "drop"), .str (Str.ofString "turn")] = true then t.isEmpty
    else inD h [.str (Str.ofString "add"), .str (Str.ofString "swap")] && lastL t
  | _ => false
def F_is_step : DFn := fun ds m Q _ => ∃ x, ds = [x] ∧ (∃ n, okD x n = true) ∧ flatL x = true ∧ Q (.bl (stepB x)) m
abbrev attrs : List Str := ["_costs", "_add", "_drop", "_swap", "_groups", "_turn"]
def F_Scheme : DFn := fun ds m Q Qx => ∃ c p mi ch s a, ds = [c, p, mi, ch, s, a] ∧
  (((∀ x ∈ [c, p, mi, ch, s, a], ∃ n, okD x n = true) ∧ ∀ m', Sub m m' → match due c p mi ch s a with
    | none => ∀ ns gs, listB c = some ns → Q (.obj "Scheme" attrs [.tup ns, p, mi, ch, .tup gs, a]) m'
    | some f => Qx f.xn m') ∨
   (∃ b, c = .box b ∧ m b = some [] ∧ Qx (Fl.part c).xn m) ∨
   (∃ b l, c = .lst [.str (Str.ofString "b")] ∧ p = .str (Str.ofString "b") ∧ mi = .str (Str.ofString "b") ∧ ch = .str (Str.ofString "b") ∧ s = .lst [.box b] ∧ m b = some l ∧ l.length ≠ 2 ∧ ∀ m', Sub m m' → Qx (Fl.group (.box b)).xn m'))
/-- a scheme as the odd questions need it -/
def Plan (o : D) (a : D) : Prop := ∃ v1 v2 v3 v4 v5, o = .obj "Scheme" attrs [v1, v2, v3, v4, v5, a]
def letterX (x : D) : Xn := ⟨"InvalidLetter", "value", x⟩
def stepX (x : D) : Xn := ⟨"InvalidStep", "value", x⟩
def F_Scheme_swap_cost : DFn := fun ds m _ Qx => ∃ o x y, ds = [o, x, y] ∧ (∃ n, okD x n = true) ∧ (∃ n, okD y n = true) ∧
  ((isLetter x = false ∧ Qx (letterX x) m) ∨ (isLetter x = true ∧ isLetter y = false ∧ Qx (letterX y) m) ∨ (∃ z, x = .str z ∧ y = .str z ∧ letS z = true ∧ Qx (letterX y) m))
def F_Scheme_step_cost : DFn := fun ds m _ Qx => ∃ o x y a, ds = [o, x, y] ∧ Plan o a ∧ (∃ n, okD x n = true) ∧ (∃ n, okD y n = true) ∧ flatL x = true ∧
  ((stepB x = false ∧ Qx (stepX x) m) ∨ (x = .tup [.str (Str.ofString "turn")] ∧ a = .non ∧ Qx (stepX x) m) ∨
   (x = .tup [.str (Str.ofString "swap"), .str (Str.ofString "a")] ∧ (isLetter y = false ∨ y = .str (Str.ofString "a")) ∧ Qx (letterX y) m))
/-! the law's -/
def F_law_cell : DFn := fun ds m Q _ => ∃ (ns : List Int) (k : Int), ds = [.scr ns, .int k] ∧ 0 ≤ k ∧ k < 1000 ∧ ∀ i : Int, Q (.int i) m
def F_law_box : DFn := fun ds m Q _ => ∃ i : Int, ds = [.int i] ∧ ∀ p l, m p = none → Box l 0 → Q (.box p) (m.up p l)
def F_law_take : DFn := fun ds m Q _ => ∃ (a : Addr) (n c : Int) (l : List D), ds = [.box a, .int n] ∧ m a = some l ∧ Box l c ∧ c ≤ 1000000 ∧ 0 < n ∧ n < 2 ^ 200 ∧ ∀ (d : Int) (m' : Mem), 0 ≤ d → d < n → Nx a (c + 1) m m' → Q (.int d) m'
def small (z : Str) : Bool := z.cps.toList.all fun c => decide (c ∈ (Str.ofString "abcdefghijklmnopqrstuvwxyz").cps.toList)
def smallB (x : D) (lo hi : Int) : Bool := match x with
  | .str z => (decide (lo ≤ z.length) && decide ((z.length : Int) ≤ hi)) && small z
  | _ => false
def F_law_is_small : DFn := fun ds m Q _ => ∃ x lo hi, ds = [x, .int lo, .int hi] ∧ (∃ n, okD x n = true) ∧ Q (.bl (smallB x lo hi)) m
def F_law_is_cost : DFn := fun ds m Q _ => ∃ nm x ns, ds = [nm, x] ∧ listB nm = some ns ∧ ns.all strB = true ∧ (∃ n, okD x n = true) ∧ Q (.bl (costB ns x)) m
def F_law_due_costs : DFn := fun ds m Q _ => ∃ x, ds = [x] ∧ (∃ n, okD x n = true) ∧ Q (.lst (some_ (dueCosts x))) m
def F_law_due_groups : DFn := fun ds m Q _ => ∃ nm s ns, ds = [nm, s] ∧ listB nm = some ns ∧ ns.all strB = true ∧ (∃ n, okD s n = true) ∧ Q (.lst (some_ (dueSets ns s))) m
/-- a model -/
def Sm (l : List D) : Prop := ∀ d ∈ l, wtD d ≤ 320
def MC (w : Nat) (c : D) : Prop := okD c 2 = true ∧ wtD c ≤ w ∧ ∀ ds, listB c = some ds → Sm ds
def MO (x : D) : Prop := okD x 1 = true ∧ wtD x ≤ 320
def MS (w : Nat) (s : D) : Prop := okD s 3 = true ∧ wtD s ≤ w
def Mdl (w : Nat) (l : List D) : Prop := ∃ c p mi ch s a, l = [c, p, mi, ch, s, a] ∧ MC w c ∧ MO p ∧ MO mi ∧ MO ch ∧ MS w s ∧ MO a
def F_law_due : DFn := fun ds m Q _ => ∃ x c p mi ch s a, ds = [x] ∧ itemsD m x = some [c, p, mi, ch, s, a] ∧ (∀ y ∈ [c, p, mi, ch, s, a], ∃ n, okD y n = true) ∧ Q (.lst (told (due c p mi ch s a))) m
def F_law_told : DFn := fun ds m Q _ => ∃ x c p mi ch s a, ds = [x] ∧ itemsD m x = some [c, p, mi, ch, s, a] ∧
  (((∀ y ∈ [c, p, mi, ch, s, a], ∃ n, okD y n = true) ∧ ∀ m', Sub m m' → Q (.lst (told (due c p mi ch s a))) m') ∨
   (∃ b, c = .box b ∧ m b = some [] ∧ Q (.lst (Fl.part c).told) m) ∨
   (∃ b l, c = .lst [.str (Str.ofString "b")] ∧ p = .str (Str.ofString "b") ∧ mi = .str (Str.ofString "b") ∧ ch = .str (Str.ofString "b") ∧ s = .lst [.box b] ∧ m b = some l ∧ l.length ≠ 2 ∧ ∀ m', Sub m m' → Q (.lst (Fl.group (.box b)).told) m'))
/-- a good model: a scheme is made of it -/
def Good (l : List D) : Prop := Mdl 3000 l ∧ ∃ c p mi ch s a, l = [c, p, mi, ch, s, a] ∧ due c p mi ch s a = none ∧ lstB c = true ∧ lstB s = true
def F_law_model : DFn := fun ds m Q _ => ∃ (b : Addr) (k : Int) (l : List D), ds = [.box b] ∧ m b = some l ∧ Box l k ∧ k ≤ 100000 ∧ ∀ m' l', Nx b (k + 20) m m' → Good l' → Q (.lst l') m'
def F_law_bent : DFn := fun ds m Q _ => ∃ (b : Addr) (x : D) (k : Int) (l l0 : List D) (w : Nat), ds = [.box b, x] ∧ m b = some l ∧ Box l k ∧ k ≤ 100000 ∧ itemsD m x = some l0 ∧ Mdl w l0 ∧ w ≤ 30000 ∧
  ∀ m' p l', Nx b (k + 20) m m' → p ≠ b → m' p = some l' → Mdl (2 * w + 5000) l' → Q (.box p) m'
def F_law_scheme : DFn := fun ds m Q _ => ∃ l, ds = [.lst l] ∧ Good l ∧ ∀ m' o a, Sub m m' → l[5]? = some a → Plan o a → Q o m'
def F_law_caught : DFn := fun ds m Q _ => ∃ (o x y a : D) (w : Int), ds = [o, .int w, x, y] ∧ Plan o a ∧
  ((w = 0 ∧ F_Scheme_swap_cost [o, x, y] m (fun _ _ => False) (fun xn m' => xn.cls = "InvalidLetter" ∧ xn.fld = "value" ∧ Q (.lst [.str (Str.ofString "letter"), xn.val]) m')) ∨
   (w = 1 ∧ F_Scheme_step_cost [o, x, y] m (fun _ _ => False) (fun xn m' => (xn.cls = "InvalidLetter" ∧ xn.fld = "value" ∧ Q (.lst [.str (Str.ofString "letter"), xn.val]) m') ∨ (xn.cls = "InvalidStep" ∧ xn.fld = "value" ∧ Q (.lst [.str (Str.ofString "step"), xn.val]) m'))))
def F_law_odd_right : DFn := fun ds m Q _ => ∃ o a, ds = [o, a] ∧ Plan o a ∧ okD a 0 = true ∧ Q (.bl true) m
def F_law_very_right : DFn := fun ds m Q _ => ds = [] ∧ ∀ m', Q (.bl true) m'
def F_law : DFn := lawFn 63
def w_is_list : WS := (sRet (wIsiT (wVar 0) ["list", "tuple"]))
def w_is_letter : WS := (sRet (wAnd (wBi dIsi (wCons (wVar 0) (wCons (wC (.ty "str")) wNil))) (wAnd (wOp dEq (wBi dLen (wCons (wVar 0) wNil)) (wC (.int 1))) (wChain dLe dLe (wC (.str (Str.ofString "a"))) (wVar 0) (wC (.str (Str.ofString "z")))))))
def w_check_cost : WS := (sIf (tvOr (tvNot (wTest (wBi dIsi (wCons (wVar 1) (wCons (wC (.ty "str")) wNil))))) (wTest (wOp dNotIn (wVar 1) (wVar 0)))) (sRaise "UnknownCost" "label" (wVar 1)) sNext)
def w__law_cell : WS := (sSeq (sIf (wTest (wOp dLt (wVar 1) (wBi dLen (wCons (wVar 0) wNil)))) (sRet (wOp dIx (wVar 0) (wVar 1))) sNext) (sRet (wOp dAdd (wOp dMul (wC (.int 15489823)) (wVar 1)) (wC (.int 1801)))))
def w__law_box : WS := (sRet (wOwn (wCons (wBi dMax (wCons (wC (.int 0)) (wCons (wOp dSub (wVar 0) (wOp dPow (wC (.int 10)) (wC (.int 18)))) wNil))) (wCons (wOp dMod (wVar 0) (wC (.int 2147483629))) (wCons (wC (.int 0)) wNil)))))
def w__law_take : WS := (sSeq (sIf (wTest (wOp dGt (wOp dIx (wVar 0) (wC (.int 0))) (wC (.int 0)))) (sSeq (sSet 3 (wOp dMod (wOp dIx (wVar 0) (wC (.int 0))) (wVar 1))) (sSeq (sPut (wVar 0) (wC (.int 0)) (wOp dDiv (wOp dIx (wVar 0) (wC (.int 0))) (wVar 1))) (sRet (wVar 3)))) sNext) (sSeq (sPut (wVar 0) (wC (.int 2)) (wOp dAdd (wOp dIx (wVar 0) (wC (.int 2))) (wC (.int 1)))) (sSeq (sSet 2 (wOp dMod (wOp dPow (wOp dAdd (wOp dAdd (wOp dIx (wVar 0) (wC (.int 1))) (wOp dMul (wC (.int 15489823)) (wOp dIx (wVar 0) (wC (.int 2))))) (wC (.int 1801))) (wC (.int 5))) (wC (.int 2147483647)))) (sSeq (sSet 2 (wOp dMod (wOp dPow (wOp dAdd (wVar 2) (wOp dMul (wC (.int 104711)) (wOp dIx (wVar 0) (wC (.int 2))))) (wC (.int 3))) (wC (.int 2147483587)))) (sRet (wOp dMod (wOp dDiv (wVar 2) (wC (.int 32))) (wVar 1)))))))
def w__law_is_small : WS := (sSeq (sIf (tvOr (tvNot (wTest (wBi dIsi (wCons (wVar 0) (wCons (wC (.ty "str")) wNil))))) (tvNot (wTest (wChain dLe dLe (wVar 1) (wBi dLen (wCons (wVar 0) wNil)) (wVar 2))))) (sRet (wC (.bl false))) sNext) (sRet (wOp (dNilB false) (wLc (iSg (wVar 0)) (gvName 3) (wTest (wOp dNotIn (wVar 3) (wC (.str (Str.ofString "abcdefghijklmnopqrstuvwxyz"))))) (wVar 3) [3]) (wLst wNil))))
def w__law_is_cost : WS := (sRet (wAnd (wBi dIsi (wCons (wVar 1) (wCons (wC (.ty "str")) wNil))) (wOp dIn (wVar 1) (wVar 0))))
def w_is_lettered : WS := (sSeq (sIf (tvNot (wTest (wBi dIsi (wCons (wVar 0) (wCons (wC (.ty "str")) wNil))))) (sRet (wC (.bl false))) sNext) (sRet (wOr (wOp dEq (wVar 0) (wC (.str (Str.ofString "")))) (wAnd (wM0 (wIs Txt.isascii) (wVar 0)) (wAnd (wM0 (wIs Txt.isalpha) (wVar 0)) (wM0 (wIs Txt.islower) (wVar 0)))))))
def w_is_step : WS := (sSeq (sIf (tvOr (tvNot (wTest (wCall F_is_list (wCons (wVar 0) wNil)))) (tvNot (wTru (wVar 0)))) (sRet (wC (.bl false))) sNext) (sSeq (sIf (wTest (wOp dIn (wOp dIx (wVar 0) (wC (.int 0))) (wC (.tup ((["keep", "drop", "turn"] : List Str).map D.str))))) (sRet (wOp dEq (wBi dLen (wCons (wVar 0) wNil)) (wC (.int 1)))) sNext) (sRet (wAnd (wOp dIn (wOp dIx (wVar 0) (wC (.int 0))) (wC (.tup ((["add", "swap"] : List Str).map D.str)))) (wAnd (wOp dEq (wBi dLen (wCons (wVar 0) wNil)) (wC (.int 2))) (wCall F_is_letter (wCons (wOp dIx (wVar 0) (wC (.int 1))) wNil)))))))
def w__law_model : WS := (sSeq (sSet 1 (wLst (wCons (wLst (wCons (wC (.str (Str.ofString "c"))) (wCons (wC (.str (Str.ofString "cc"))) (wCons (wC (.str (Str.ofString "near"))) (wCons (wC (.str (Str.ofString "zzzzzzzz"))) wNil))))) (wCons (wLst (wCons (wC (.str (Str.ofString "b"))) (wCons (wC (.str (Str.ofString "a"))) (wCons (wC (.str (Str.ofString "ab"))) (wCons (wC (.str (Str.ofString "abc"))) wNil))))) (wCons (wLst (wCons (wC (.str (Str.ofString "add"))) (wCons (wC (.str (Str.ofString "drop"))) (wCons (wC (.str (Str.ofString "swap"))) (wCons (wC (.str (Str.ofString "turn"))) wNil))))) wNil))))) (sSeq (sSet 2 (wOp dIx (wVar 1) (wCall F_law_take (wCons (wVar 0) (wCons (wC (.int 3)) wNil))))) (sSeq (sSet 2 (wSl (wVar 2) wNoPart (wPart (wOp dAdd (wC (.int 1)) (wCall F_law_take (wCons (wVar 0) (wCons (wC (.int 4)) wNil))))))) (sSeq (sSet 3 (wLc (iRg1 (wCons (wC (.int 6)) wNil)) (gvName 5) tvYes (wOp dIx (wVar 2) (wCall F_law_take (wCons (wVar 0) (wCons (wBi dLen (wCons (wVar 2) wNil)) wNil)))) [5])) (sSeq (sSet 4 (wOwn (wCons (wLst wNil) (wCons (wLst (wCons (wTup (wCons (wC (.str (Str.ofString "ab"))) (wCons (wOp dIx (wVar 3) (wC (.int 3))) wNil))) wNil)) (wCons (wLst (wCons (wTup (wCons (wC (.str (Str.ofString "ca"))) (wCons (wOp dIx (wVar 3) (wC (.int 3))) wNil))) wNil)) (wCons (wLst (wCons (wTup (wCons (wC (.str (Str.ofString "ab"))) (wCons (wOp dIx (wVar 3) (wC (.int 3))) wNil))) (wCons (wTup (wCons (wC (.str (Str.ofString "cd"))) (wCons (wOp dIx (wVar 3) (wC (.int 4))) wNil))) wNil))) wNil)))))) (sSeq (sAppend (wVar 4) (wCons (wLst (wCons (wTup (wCons (wC (.str (Str.ofString "qr"))) (wCons (wOp dIx (wVar 3) (wC (.int 4))) wNil))) (wCons (wTup (wCons (wC (.str (Str.ofString "st"))) (wCons (wOp dIx (wVar 3) (wC (.int 0))) wNil))) (wCons (wTup (wCons (wC (.str (Str.ofString "bc"))) (wCons (wOp dIx (wVar 3) (wC (.int 3))) wNil))) (wCons (wTup (wCons (wC (.str (Str.ofString "ad"))) (wCons (wOp dIx (wVar 3) (wC (.int 5))) wNil))) wNil))))) wNil)) (sSeq (sAppend (wVar 4) (wCons (wLst (wCons (wTup (wCons (wC (.str (Str.ofString "abcdef"))) (wCons (wOp dIx (wVar 3) (wC (.int 3))) wNil))) (wCons (wTup (wCons (wC (.str (Str.ofString "xyz"))) (wCons (wOp dIx (wVar 3) (wC (.int 4))) wNil))) wNil))) wNil)) (sSeq (sSet 4 (wOp dIx (wVar 4) (wCall F_law_take (wCons (wVar 0) (wCons (wC (.int 6)) wNil))))) (sRet (wLst (wCons (wVar 2) (wCons (wOp dIx (wVar 3) (wC (.int 0))) (wCons (wOp dIx (wVar 3) (wC (.int 1))) (wCons (wOp dIx (wVar 3) (wC (.int 2))) (wCons (wVar 4) (wCons (wOp dIx (wLst (wCons (wC .non) (wCons (wOp dIx (wVar 3) (wC (.int 5))) wNil))) (wCall F_law_take (wCons (wVar 0) (wCons (wC (.int 2)) wNil)))) wNil))))))))))))))))
def w__law_due_costs : WS := (sSeq (sIf (tvOr (tvNot (wTest (wIsiT (wVar 0) ["list", "tuple"]))) (tvNot (wTest (wChain dLe dLe (wC (.int 1)) (wBi dLen (wCons (wVar 0) wNil)) (wC (.int 4)))))) (sRet (wLst (wCons (wC (.str (Str.ofString "part"))) (wCons (wVar 0) wNil)))) sNext) (sSeq (sFor (iEnumB (wCons (wVar 0) wNil)) (gvTup 2 (gvCons (gvName 1) (gvCons (gvName 2) gvNil))) (sSeq (sIf (tvNot (wTest (wCall F_law_is_small (wCons (wVar 2) (wCons (wC (.int 1)) (wCons (wC (.int 8)) wNil)))))) (sRet (wLst (wCons (wC (.str (Str.ofString "name"))) (wCons (wVar 2) wNil)))) sNext) (sIf (wTest (wOp dIn (wVar 2) (wSl (wVar 0) wNoPart (wPart (wVar 1))))) (sRet (wLst (wCons (wC (.str (Str.ofString "twice"))) (wCons (wVar 2) wNil)))) sNext))) (sRet (wLst wNil))))
def w__law_due_groups : WS := (sSeq (sIf (tvNot (wTest (wIsiT (wVar 1) ["list", "tuple"]))) (sRet (wLst (wCons (wC (.str (Str.ofString "part"))) (wCons (wVar 1) wNil)))) sNext) (sSeq (sSet 2 (wC (.str (Str.ofString "")))) (sSeq (sFor (iVar 1) (gvName 3) (sSeq (sIf (tvOr (tvNot (wTest (wIsiT (wVar 3) ["list", "tuple"]))) (tvOr (wTest (wOp dNe (wBi dLen (wCons (wVar 3) wNil)) (wC (.int 2)))) (tvNot (wTest (wCall F_law_is_small (wCons (wOp dIx (wVar 3) (wC (.int 0))) (wCons (wC (.int 2)) (wCons (wC (.int 26)) wNil)))))))) (sRet (wLst (wCons (wC (.str (Str.ofString "group"))) (wCons (wVar 3) wNil)))) sNext) (sSeq (sFor (iEnumS (wCons (wOp dIx (wVar 3) (wC (.int 0))) wNil)) (gvTup 2 (gvCons (gvName 4) (gvCons (gvName 5) gvNil))) (sIf (tvOr (wTest (wOp dIn (wVar 5) (wVar 2))) (wTest (wOp dIn (wVar 5) (wSl (wOp dIx (wVar 3) (wC (.int 0))) wNoPart (wPart (wVar 4)))))) (sRet (wLst (wCons (wC (.str (Str.ofString "group"))) (wCons (wVar 3) wNil)))) sNext)) (sSeq (sIf (tvNot (wTest (wCall F_law_is_cost (wCons (wVar 0) (wCons (wOp dIx (wVar 3) (wC (.int 1))) wNil))))) (sRet (wLst (wCons (wC (.str (Str.ofString "cost"))) (wCons (wOp dIx (wVar 3) (wC (.int 1))) wNil)))) sNext) (sSet 2 (wOp dAdd (wVar 2) (wOp dIx (wVar 3) (wC (.int 0))))))))) (sRet (wLst wNil)))))
def w__law_bent : WS := (sSeq (sSet 2 (wBi dListO (wCons (wVar 1) wNil))) (sSeq (sSet 3 (wIf (wTest (wBi dIsi (wCons (wOp dIx (wVar 2) (wC (.int 0))) (wCons (wC (.ty "list")) wNil)))) (wBi dListM (wCons (wOp dIx (wVar 2) (wC (.int 0))) wNil)) (wLst (wCons (wC (.str (Str.ofString "b"))) wNil)))) (sSeq (sSet 4 (wOp dIx (wLst (wCons (wC .non) (wCons (wC (.int 3)) (wCons (wC (.bl true)) (wCons (wC (.str (Str.ofString ""))) (wCons (wC (.str (Str.ofString "A"))) (wCons (wC (.str (Str.ofString "abcdefghi"))) (wCons (wLst (wCons (wC (.str (Str.ofString "c"))) wNil)) (wCons wDct0 (wCons (wC (.str (Str.ofString "zz"))) (wCons (wC (.str (Str.ofString "late"))) wNil))))))))))) (wCall F_law_take (wCons (wVar 0) (wCons (wC (.int 10)) wNil))))) (sSeq (sPar 5 6 (wCons (wCall F_law_take (wCons (wVar 0) (wCons (wC (.int 9)) wNil))) (wCons (wIf (wTest (wOp (dNilB true) (wVar 3) (wLst wNil))) (wCall F_law_take (wCons (wVar 0) (wCons (wBi dLen (wCons (wVar 3) wNil)) wNil))) (wC (.int 0))) wNil))) (sSeq (sIf (wTest (wOp dEq (wVar 5) (wC (.int 0)))) (sSeq (sSet 7 (wLst (wCons (wVar 4) (wCons (wLst wNil) (wCons (wOp dAdd (wVar 3) (wLst (wCons (wC (.str (Str.ofString "x1"))) wNil))) (wCons (wOp dAdd (wVar 3) (wSl (wVar 3) wNoPart (wPart (wC (.int 1))))) (wCons (wBi dTupleM (wCons (wVar 3) wNil)) (wCons (wOp dAdd (wVar 3) (wLst (wCons (wC (.str (Str.ofString "y"))) (wCons (wC (.str (Str.ofString "z"))) (wCons (wC (.str (Str.ofString "w"))) (wCons (wC (.str (Str.ofString "v"))) wNil)))))) wNil)))))))) (sPut (wVar 2) (wC (.int 0)) (wOp dIx (wVar 7) (wCall F_law_take (wCons (wVar 0) (wCons (wC (.int 6)) wNil)))))) (sIf (wTest (wOp dEq (wVar 5) (wC (.int 1)))) (sPut (wVar 2) (wC (.int 0)) (wOp dAdd (wOp dAdd (wSl (wVar 3) wNoPart (wPart (wVar 6))) (wLst (wCons (wVar 4) wNil))) (wSl (wVar 3) (wPart (wOp dAdd (wVar 6) (wC (.int 1)))) wNoPart))) (sIf (wTest (wOp dLt (wVar 5) (wC (.int 5)))) (sPut (wVar 2) (wOp dSub (wVar 5) (wC (.int 1))) (wVar 4)) (sIf (wTest (wOp dEq (wVar 5) (wC (.int 5)))) (sPut (wVar 2) (wC (.int 5)) (wVar 4)) (sIf (wTest (wOp dEq (wVar 5) (wC (.int 6)))) (sPut (wVar 2) (wC (.int 4)) (wOp dIx (wLst (wCons (wVar 4) (wCons (wIf (wTest (wBi dIsi (wCons (wOp dIx (wVar 2) (wC (.int 4))) (wCons (wC (.ty "list")) wNil)))) (wBi dTupleM (wCons (wOp dIx (wVar 2) (wC (.int 4))) wNil)) (wTup wNil)) (wCons (wLst (wCons (wVar 4) wNil)) wNil)))) (wCall F_law_take (wCons (wVar 0) (wCons (wC (.int 3)) wNil))))) (sSeq (sSet 8 (wIf (wTest (wOp (dNilB true) (wVar 3) (wLst wNil))) (wOp dIx (wVar 3) (wVar 6)) (wC (.str (Str.ofString "b"))))) (sSeq (sSet 7 (wLst (wCons (wTup (wCons (wC (.str (Str.ofString "aa"))) (wCons (wVar 8) wNil))) (wCons (wTup (wCons (wC (.str (Str.ofString "a"))) (wCons (wVar 8) wNil))) (wCons (wTup (wCons (wC (.str (Str.ofString "xyz"))) (wCons (wVar 4) wNil))) (wCons (wLst (wCons (wC (.str (Str.ofString "xy"))) (wCons (wVar 8) wNil))) (wCons (wTup (wCons (wC (.str (Str.ofString "ab"))) (wCons (wVar 8) wNil))) (wCons (wTup (wCons (wC (.str (Str.ofString "aB"))) (wCons (wVar 8) wNil))) wNil)))))))) (sSeq (sSet 9 (wOp dIx (wOp dAdd (wVar 7) (wLst (wCons (wTup (wCons (wC (.str (Str.ofString "xy"))) (wCons (wVar 8) (wCons (wVar 8) wNil)))) (wCons (wVar 4) wNil)))) (wCall F_law_take (wCons (wVar 0) (wCons (wC (.int 8)) wNil))))) (sSeq (sSet 10 (wIf (wTest (wIsiT (wOp dIx (wVar 2) (wC (.int 4))) ["list", "tuple"])) (wBi dListM (wCons (wOp dIx (wVar 2) (wC (.int 4))) wNil)) (wLst wNil))) (sSeq (sSet 11 (wCall F_law_take (wCons (wVar 0) (wCons (wOp dAdd (wBi dLen (wCons (wVar 10) wNil)) (wC (.int 1))) wNil)))) (sPut (wVar 2) (wC (.int 4)) (wOp dAdd (wOp dAdd (wSl (wVar 10) wNoPart (wPart (wVar 11))) (wLst (wCons (wVar 9) wNil))) (wSl (wVar 10) (wPart (wVar 11)) wNoPart))))))))))))) (sRet (wVar 2)))))))
def w_Scheme_swap_cost : WS := (sSeq (sFor (iTp (wTup (wCons (wVar 1) (wCons (wVar 2) wNil)))) (gvName 3) (sIf (tvNot (wTest (wCall F_is_letter (wCons (wVar 3) wNil)))) (sRaise "InvalidLetter" "value" (wVar 3)) sNext)) (sSeq (sIf (wTest (wOp dEq (wVar 1) (wVar 2))) (sRaise "InvalidLetter" "value" (wVar 2)) sNext) (sSeq (sFor (iTp (wFld "Scheme" "_groups" (wVar 0))) (gvTup 2 (gvCons (gvName 4) (gvCons (gvName 5) gvNil))) (sIf (tvAnd (wTest (wOp dIn (wVar 1) (wVar 4))) (wTest (wOp dIn (wVar 2) (wVar 4)))) (sRet (wVar 5)) sNext)) (sRet (wFld "Scheme" "_swap" (wVar 0))))))
def w_is_name : WS := (sRet (wAnd (wCall F_is_lettered (wCons (wVar 0) wNil)) (wChain dLe dLe (wC (.int 1)) (wBi dLen (wCons (wVar 0) wNil)) (wC (.int 8)))))
def w_is_group : WS := (sSeq (sIf (tvOr (tvNot (wTest (wCall F_is_list (wCons (wVar 0) wNil)))) (tvOr (wTest (wOp dNe (wBi dLen (wCons (wVar 0) wNil)) (wC (.int 2)))) (tvNot (wTest (wCall F_is_lettered (wCons (wOp dIx (wVar 0) (wC (.int 0))) wNil)))))) (sRet (wC (.bl false))) sNext) (sRet (wAnd (wOp dGe (wBi dLen (wCons (wOp dIx (wVar 0) (wC (.int 0))) wNil)) (wC (.int 2))) (wOp dEq (wLenSet (wOp dIx (wVar 0) (wC (.int 0)))) (wBi dLen (wCons (wOp dIx (wVar 0) (wC (.int 0))) wNil))))))
def w__law_due : WS := (sSeq (sUnp 6 (gvCons (gvName 1) (gvCons (gvName 2) (gvCons (gvName 3) (gvCons (gvName 4) (gvCons (gvName 5) (gvCons (gvName 6) gvNil)))))) (wVar 0)) (sSeq (sSet 7 (wCall F_law_due_costs (wCons (wVar 1) wNil))) (sSeq (sIf (wTest (wOp (dNilB true) (wVar 7) (wLst wNil))) (sRet (wVar 7)) sNext) (sSeq (sFor (iLst (wLst (wCons (wVar 2) (wCons (wVar 3) (wCons (wVar 4) wNil))))) (gvName 8) (sIf (tvNot (wTest (wCall F_law_is_cost (wCons (wVar 1) (wCons (wVar 8) wNil))))) (sRet (wLst (wCons (wC (.str (Str.ofString "cost"))) (wCons (wVar 8) wNil)))) sNext)) (sSeq (sSet 7 (wCall F_law_due_groups (wCons (wVar 1) (wCons (wVar 5) wNil)))) (sSeq (sIf (wTest (wOp (dNilB true) (wVar 7) (wLst wNil))) (sRet (wVar 7)) sNext) (sRet (wIf (tvOr (wTest (wOp (dIsB false) (wVar 6) (wC .non))) (wTest (wCall F_law_is_cost (wCons (wVar 1) (wCons (wVar 6) wNil))))) (wLst (wCons (wC (.str (Str.ofString "scheme"))) wNil)) (wLst (wCons (wC (.str (Str.ofString "cost"))) (wCons (wVar 6) wNil)))))))))))
def w_Scheme_step_cost : WS := (sSeq (sIf (tvOr (tvNot (wTest (wCall F_is_step (wCons (wVar 1) wNil)))) (tvAnd (wTest (wOp dEq (wOp dIx (wVar 1) (wC (.int 0))) (wC (.str (Str.ofString "turn"))))) (wTest (wOp (dIsB false) (wFld "Scheme" "_turn" (wVar 0)) (wC .non))))) (sRaise "InvalidStep" "value" (wVar 1)) sNext) (sSeq (sIf (wTest (wOp dEq (wOp dIx (wVar 1) (wC (.int 0))) (wC (.str (Str.ofString "swap"))))) (sSeq (sIf (tvOr (tvNot (wTest (wCall F_is_letter (wCons (wVar 2) wNil)))) (wTest (wOp dEq (wVar 2) (wOp dIx (wVar 1) (wC (.int 1)))))) (sRaise "InvalidLetter" "value" (wVar 2)) sNext) (sRet (wMeth "Scheme" "swap_cost" [] F_Scheme_swap_cost (wVar 0) (wCons (wVar 2) (wCons (wOp dIx (wVar 1) (wC (.int 1))) wNil))))) sNext) (sSeq (sSet 3 (wDctN ["keep", "add", "drop", "turn"] (wCons (wC .non) (wCons (wFld "Scheme" "_add" (wVar 0)) (wCons (wFld "Scheme" "_drop" (wVar 0)) (wCons (wFld "Scheme" "_turn" (wVar 0)) wNil)))))) (sRet (wDGet (wVar 3) (wOp dIx (wVar 1) (wC (.int 0))))))))
def w_check_names : WS := (sSeq (sIf (tvOr (tvNot (wTest (wCall F_is_list (wCons (wVar 0) wNil)))) (tvNot (wTest (wChain dLe dLe (wC (.int 1)) (wBi dLen (wCons (wVar 0) wNil)) (wC (.int 4)))))) (sRaise "InvalidPart" "value" (wVar 0)) sNext) (sFor (iEnumB (wCons (wVar 0) wNil)) (gvTup 2 (gvCons (gvName 1) (gvCons (gvName 2) gvNil))) (sSeq (sIf (tvNot (wTest (wCall F_is_name (wCons (wVar 2) wNil)))) (sRaise "InvalidName" "value" (wVar 2)) sNext) (sIf (wTest (wOp dIn (wVar 2) (wSl (wVar 0) wNoPart (wPart (wVar 1))))) (sRaise "Duplicate" "label" (wVar 2)) sNext))))
def w_checked_groups : WS := (sSeq (sIf (tvNot (wTest (wCall F_is_list (wCons (wVar 1) wNil)))) (sRaise "InvalidPart" "value" (wVar 1)) sNext) (sSeq (sSet 2 (wOwn wNil)) (sSeq (sSet 3 (wC (.str (Str.ofString "")))) (sSeq (sFor (iVar 1) (gvName 4) (sSeq (sIf (tvOr (tvNot (wTest (wCall F_is_group (wCons (wVar 4) wNil)))) (wTest (wBi (dBls fun bs => bs.any id) (wCons (wLc (iSg (wOp dIx (wVar 4) (wC (.int 0)))) (gvName 5) tvYes (wOp dIn (wVar 5) (wVar 3)) [5]) wNil)))) (sRaise "InvalidGroup" "value" (wVar 4)) sNext) (sSeq (sDrop (wCallX F_check_cost (wCons (wVar 0) (wCons (wOp dIx (wVar 4) (wC (.int 1))) wNil)))) (sSeq (sAppend (wVar 2) (wCons (wTup (wCons (wJoin (wC (.str (Str.ofString ""))) (wBi dSortedTx (wCons (wOp dIx (wVar 4) (wC (.int 0))) wNil))) (wCons (wOp dIx (wVar 4) (wC (.int 1))) wNil))) wNil)) (sSet 3 (wOp dAdd (wVar 3) (wOp dIx (wVar 4) (wC (.int 0))))))))) (sRet (wBi dTupleM (wCons (wVar 2) wNil)))))))
def w__law_caught : WS := (sTrys [("InvalidLetter", "value", "letter"), ("InvalidStep", "value", "step")] (sRet (wLst (wCons (wC (.str (Str.ofString "told"))) (wCons (wIf (wTest (wOp dEq (wVar 1) (wC (.int 0)))) (wMeth "Scheme" "swap_cost" [] F_Scheme_swap_cost (wVar 0) (wCons (wVar 2) (wCons (wVar 3) wNil))) (wMeth "Scheme" "step_cost" [] F_Scheme_step_cost (wVar 0) (wCons (wVar 2) (wCons (wVar 3) wNil)))) wNil)))))
def w__law_odd_right : WS := (sSeq (sFor (iLst (wLst (wCons (wC .non) (wCons (wC (.int 3)) (wCons (wC (.bl true)) (wCons (wC (.str (Str.ofString ""))) (wCons (wC (.str (Str.ofString "ab"))) (wCons (wC (.str (Str.ofString "A"))) (wCons (wLst (wCons (wC (.str (Str.ofString "a"))) wNil)) (wCons wDct0 (wCons (wTup (wCons (wC (.str (Str.ofString "keep"))) (wCons (wC (.str (Str.ofString "a"))) wNil))) (wCons (wTup (wCons (wC (.str (Str.ofString "add"))) wNil)) (wCons (wTup (wCons (wC (.str (Str.ofString "swap"))) (wCons (wC (.str (Str.ofString "A"))) wNil))) (wCons (wTup (wCons (wC (.str (Str.ofString "swop"))) (wCons (wC (.str (Str.ofString "a"))) wNil))) (wCons (wTup wNil) wNil))))))))))))))) (gvName 2) (sSeq (sIf (tvAnd (wTest (wOp dNeS (wVar 2) (wC (.str (Str.ofString "a"))))) (wTest (wOp dNe (wBi dReprM (wCons (wCall F_law_caught (wCons (wVar 0) (wCons (wC (.int 0)) (wCons (wVar 2) (wCons (wC (.str (Str.ofString "a"))) wNil))))) wNil)) (wBi dReprM (wCons (wLst (wCons (wC (.str (Str.ofString "letter"))) (wCons (wVar 2) wNil))) wNil))))) (sRet (wC (.bl false))) sNext) (sSeq (sSet 3 (wLst (wCons (wCall F_law_caught (wCons (wVar 0) (wCons (wC (.int 0)) (wCons (wVar 2) (wCons (wVar 2) wNil))))) (wCons (wCall F_law_caught (wCons (wVar 0) (wCons (wC (.int 0)) (wCons (wC (.str (Str.ofString "a"))) (wCons (wVar 2) wNil))))) wNil)))) (sSeq (sSet 3 (wOp dAdd (wVar 3) (wLst (wCons (wCall F_law_caught (wCons (wVar 0) (wCons (wC (.int 1)) (wCons (wVar 2) (wCons (wC .non) wNil))))) (wCons (wCall F_law_caught (wCons (wVar 0) (wCons (wC (.int 1)) (wCons (wTup (wCons (wC (.str (Str.ofString "swap"))) (wCons (wC (.str (Str.ofString "a"))) wNil))) (wCons (wVar 2) wNil))))) wNil))))) (sSeq (sSet 4 (wLst (wCons (wLst (wCons (wC (.str (Str.ofString "letter"))) (wCons (wVar 2) wNil))) (wCons (wLst (wCons (wC (.str (Str.ofString "letter"))) (wCons (wVar 2) wNil))) (wCons (wLst (wCons (wC (.str (Str.ofString "step"))) (wCons (wVar 2) wNil))) (wCons (wLst (wCons (wC (.str (Str.ofString "letter"))) (wCons (wVar 2) wNil))) wNil)))))) (sIf (wTest (wOp dNe (wBi dReprM (wCons (wVar 3) wNil)) (wBi dReprM (wCons (wVar 4) wNil)))) (sRet (wC (.bl false))) sNext)))))) (sSeq (sIf (tvAnd (wTest (wOp (dIsB false) (wVar 1) (wC .non))) (wTest (wOp dNe (wCall F_law_caught (wCons (wVar 0) (wCons (wC (.int 1)) (wCons (wTup (wCons (wC (.str (Str.ofString "turn"))) wNil)) (wCons (wC (.str (Str.ofString "a"))) wNil))))) (wLst (wCons (wC (.str (Str.ofString "step"))) (wCons (wTup (wCons (wC (.str (Str.ofString "turn"))) wNil)) wNil)))))) (sRet (wC (.bl false))) sNext) (sSeq (sSet 3 (wLst (wCons (wCall F_law_caught (wCons (wVar 0) (wCons (wC (.int 0)) (wCons (wC (.str (Str.ofString "a"))) (wCons (wC (.str (Str.ofString "a"))) wNil))))) (wCons (wCall F_law_caught (wCons (wVar 0) (wCons (wC (.int 1)) (wCons (wTup (wCons (wC (.str (Str.ofString "swap"))) (wCons (wC (.str (Str.ofString "a"))) wNil))) (wCons (wC (.str (Str.ofString "a"))) wNil))))) wNil)))) (sRet (wOp dEq (wVar 3) (wLst (wCons (wLst (wCons (wC (.str (Str.ofString "letter"))) (wCons (wC (.str (Str.ofString "a"))) wNil))) (wCons (wLst (wCons (wC (.str (Str.ofString "letter"))) (wCons (wC (.str (Str.ofString "a"))) wNil))) wNil))))))))
def w_Scheme_init : WZ := (zCons (sDrop (wCallX F_check_names (wCons (wVar 1) wNil))) (zCons (sFor (iTp (wTup (wCons (wVar 2) (wCons (wVar 3) (wCons (wVar 4) wNil))))) (gvName 7) (sDrop (wCallX F_check_cost (wCons (wVar 1) (wCons (wVar 7) wNil))))) (zCons (sSet 8 (wCallX F_checked_groups (wCons (wVar 1) (wCons (wVar 5) wNil)))) (zCons (sIf (wTest (wOp (dIsB true) (wVar 6) (wC .non))) (sDrop (wCallX F_check_cost (wCons (wVar 1) (wCons (wVar 6) wNil)))) sNext) (zSet (wBi dTupleM (wCons (wVar 1) wNil)) (zSet (wVar 2) (zSet (wVar 3) (zSet (wVar 4) (zSet (wVar 8) (zSet (wVar 6) zNil))))))))))
def w__law_scheme : WS := (sSeq (sUnp 6 (gvCons (gvName 1) (gvCons (gvName 2) (gvCons (gvName 3) (gvCons (gvName 4) (gvCons (gvName 5) (gvCons (gvName 6) gvNil)))))) (wVar 0)) (sRet (wMake 1 (["add", "drop", "swap", "groups", "turn"] : List Str).length gApp F_Scheme (wCons (wBi dListM (wCons (wVar 1) wNil)) wNil) (wCons (wVar 2) (wCons (wVar 3) (wCons (wVar 4) (wCons (wBi dListM (wCons (wVar 5) wNil)) (wCons (wVar 6) wNil))))))))
def w__law_told : WS := (sSeq (sUnp 6 (gvCons (gvName 1) (gvCons (gvName 2) (gvCons (gvName 3) (gvCons (gvName 4) (gvCons (gvName 5) (gvCons (gvName 6) gvNil)))))) (wVar 0)) (sSeq (sTrys [("InvalidPart", "value", "part"), ("InvalidName", "value", "name"), ("Duplicate", "label", "twice"), ("UnknownCost", "label", "cost"), ("InvalidGroup", "value", "group")] (sDrop (wMake 1 (["add", "drop", "swap", "groups", "turn"] : List Str).length gApp F_Scheme (wCons (wVar 1) wNil) (wCons (wVar 2) (wCons (wVar 3) (wCons (wVar 4) (wCons (wVar 5) (wCons (wVar 6) wNil)))))))) (sRet (wLst (wCons (wC (.str (Str.ofString "scheme"))) wNil)))))
def w__law_very_right : WS := (sSeq (sPar 0 1 (wCons (wOwn wNil) (wCons (wOwn (wCons (wC (.str (Str.ofString "ab"))) wNil)) wNil))) (sSeq (sSet 2 (wLst (wCons (wOp dIx (wCall F_law_told (wCons (wLst (wCons (wVar 0) (wCons (wC (.int 1)) (wCons (wC (.int 1)) (wCons (wC (.int 1)) (wCons (wLst wNil) (wCons (wC .non) wNil))))))) wNil)) (wC (.int 1))) (wCons (wOp dIx (wCall F_law_told (wCons (wLst (wCons (wLst (wCons (wC (.str (Str.ofString "b"))) wNil)) (wCons (wC (.str (Str.ofString "b"))) (wCons (wC (.str (Str.ofString "b"))) (wCons (wC (.str (Str.ofString "b"))) (wCons (wLst (wCons (wVar 1) wNil)) (wCons (wC .non) wNil))))))) wNil)) (wC (.int 1))) wNil)))) (sSeq (sAppend (wVar 0) (wCons (wC (.int 7)) wNil)) (sSeq (sAppend (wVar 1) (wCons (wC (.int 8)) wNil)) (sRet (wOp dEqM (wVar 2) (wLst (wCons (wLst (wCons (wC (.int 7)) wNil)) (wCons (wLst (wCons (wC (.str (Str.ofString "ab"))) (wCons (wC (.int 8)) wNil))) wNil)))))))))
def w_law : WS := (sSeq (sFor (iRg1 (wCons (wBi dMax (wCons (wC (.int 2)) (wCons (wBi dMin (wCons (wC (.int 6)) (wCons (wBi dLen (wCons (wVar 0) wNil)) wNil))) wNil))) wNil)) (gvName 1) (sSeq (sSet 2 (wCall F_law_box (wCons (wCall F_law_cell (wCons (wVar 0) (wCons (wVar 1) wNil))) wNil))) (sSeq (sSet 3 (wCall F_law_model (wCons (wVar 2) wNil))) (sSeq (sFor (iRg1 (wCons (wC (.int 8)) wNil)) (gvName 4) (sSeq (sSet 5 (wVar 3)) (sSeq (sFor (iRg1 (wCons (wCall F_law_take (wCons (wVar 2) (wCons (wC (.int 3)) wNil))) wNil)) (gvName 4) (sSet 5 (wCall F_law_bent (wCons (wVar 2) (wCons (wVar 5) wNil))))) (sSeq (sPar 6 7 (wCons (wBi dReprM (wCons (wVar 5) wNil)) (wCons (wCall F_law_told (wCons (wVar 5) wNil)) wNil))) (sIf (tvOr (wTest (wOp dNe (wBi dReprM (wCons (wVar 7) wNil)) (wBi dReprM (wCons (wCall F_law_due (wCons (wVar 5) wNil)) wNil)))) (wTest (wOp dNe (wBi dReprM (wCons (wVar 5) wNil)) (wVar 6)))) (sRet (wC (.bl false))) sNext))))) (sIf (tvNot (wTest (wCall F_law_odd_right (wCons (wCall F_law_scheme (wCons (wVar 3) wNil)) (wCons (wOp dIx (wVar 3) (wC (.int 5))) wNil))))) (sRet (wC (.bl false))) sNext))))) (sRet (wCall0 F_law_very_right)))
end DL
namespace DL
open PySem L2 XO
theorem ifb {c : Bool} {A B : Prop} (h1 : c = true → A) (h2 : c = false → B) : if c = true then A else B := by
  cases c
  · exact h2 rfl
  · exact h1 rfl
theorem dec_le {a b : Nat} {i j : Int} (ha : i = a) (hb : j = b) : decide (i ≤ j) = decide (a ≤ b) := by
  subst ha hb
  by_cases c : a ≤ b
  · rw [decide_eq_true c, decide_eq_true (by omega)]
  · rw [decide_eq_false c, decide_eq_false (by omega)]
theorem dec_eq {a b : Nat} {i j : Int} (ha : i = a) (hb : j = b) : decide (i = j) = decide (a = b) := by
  subst ha hb
  by_cases c : a = b
  · rw [decide_eq_true c, decide_eq_true (by omega)]
  · rw [decide_eq_false c, decide_eq_false (by omega)]
theorem small_line {n : Nat} (h : n ≤ 1000) : n ≤ sizeLine := Nat.le_trans h (by rw [sizeLine_eq]; decide)
/-! data -/
theorem okD.ty {d : D} {n : Nat} (h : okD d n = true) : isTyped d = true := by
  cases d with
  | dct ks ds => rfl
  | lst ds => rfl
  | tup ds => rfl
  | _ => first | rfl | (simp [okD] at h)
theorem okD.str {z : Str} {n : Nat} (h : okD (.str z) n = true) : z.length ≤ 20 ∧ PyData.strOk z = true := by
  simp only [okD, Bool.and_eq_true, decide_eq_true_eq] at h
  exact h
theorem okA.mem {n : Nat} : ∀ {ds : List D}, okA ds n = true → ∀ d ∈ ds, okD d n = true
  | [], _, d, h => nomatch h
  | e :: ds, h, d, hd => by
    simp only [okA, Bool.and_eq_true] at h
    rcases List.mem_cons.mp hd with rfl | hd
    · exact h.1
    · exact okA.mem h.2 d hd
theorem okA.of {n : Nat} : ∀ {ds : List D}, (∀ d ∈ ds, okD d n = true) → okA ds n = true
  | [], _ => by simp [okA]
  | e :: ds, h => by
    simp only [okA, Bool.and_eq_true]
    exact ⟨h e List.mem_cons_self, okA.of fun d hd => h d (List.mem_cons_of_mem _ hd)⟩
theorem okD.len {x : D} {n : Nat} (h : okD x n = true) {ds : List D} (hl : listB x = some ds) : ds.length ≤ 100000 := by
  cases x with
  | lst es =>
    cases hl
    cases n with
    | zero => simp [okD] at h
    | succ n => simp only [okD, Bool.and_eq_true, decide_eq_true_eq] at h; exact h.1
  | tup es =>
    cases hl
    cases n with
    | zero => simp [okD] at h
    | succ n => simp only [okD, Bool.and_eq_true, decide_eq_true_eq] at h; exact h.1
  | _ => cases hl
theorem okD.items {x : D} {n : Nat} (h : okD x n = true) {ds : List D} (hl : listB x = some ds) : ∃ k, ∀ d ∈ ds, okD d k = true := by
  cases x with
  | lst es =>
    cases hl
    cases n with
    | zero => simp [okD] at h
    | succ n => simp only [okD, Bool.and_eq_true, decide_eq_true_eq] at h; exact ⟨n, okA.mem h.2⟩
  | tup es =>
    cases hl
    cases n with
    | zero => simp [okD] at h
    | succ n => simp only [okD, Bool.and_eq_true, decide_eq_true_eq] at h; exact ⟨n, okA.mem h.2⟩
  | _ => cases hl
mutual
theorem okD.up : ∀ {d : D} {n k : Nat}, okD d n = true → n ≤ k → okD d k = true
  | .non, _, _, _, _ => by simp [okD]
  | .bl _, _, _, _, _ => by simp [okD]
  | .int _, _, _, h, _ => by simpa [okD] using h
  | .str _, _, _, h, _ => by simpa [okD] using h
  | .lst ds, 0, _, h, _ => by simp [okD] at h
  | .lst ds, n + 1, 0, _, hk => absurd hk (by omega)
  | .lst ds, n + 1, k + 1, h, hk => by
    simp only [okD, Bool.and_eq_true, decide_eq_true_eq] at h ⊢
    exact ⟨h.1, okA.up h.2 (by omega)⟩
  | .tup ds, 0, _, h, _ => by simp [okD] at h
  | .tup ds, n + 1, 0, _, hk => absurd hk (by omega)
  | .tup ds, n + 1, k + 1, h, hk => by
    simp only [okD, Bool.and_eq_true, decide_eq_true_eq] at h ⊢
    exact ⟨h.1, okA.up h.2 (by omega)⟩
  | .dct [] [], 0, _, h, _ => by simp [okD] at h
  | .dct [] [], n + 1, 0, _, hk => absurd hk (by omega)
  | .dct [] [], n + 1, k + 1, _, _ => by simp [okD]
  | .dct (_ :: _) _, _, _, h, _ => by simp [okD] at h
  | .dct [] (_ :: _), _, _, h, _ => by simp [okD] at h
  | .ty _, _, _, h, _ => by simp [okD] at h
  | .scr _, _, _, h, _ => by simp [okD] at h
  | .box _, _, _, h, _ => by simp [okD] at h
  | .obj _ _ _, _, _, h, _ => by simp [okD] at h
theorem okA.up : ∀ {ds : List D} {n k : Nat}, okA ds n = true → n ≤ k → okA ds k = true
  | [], _, _, _, _ => by simp [okA]
  | d :: ds, n, k, h, hk => by
    simp only [okA, Bool.and_eq_true] at h ⊢
    exact ⟨okD.up h.1 hk, okA.up h.2 hk⟩
end
theorem log_small {i : Int} (h : i.natAbs < 1000) : i.natAbs.log2 < 1920 := by
  have : i.natAbs.log2 ≤ i.natAbs := Nat.log2_le_self _
  omega
theorem str_shown {z : Str} (h1 : z.length ≤ 20) (h2 : PyData.strOk z = true) : (reprText z).length ≤ 300 := by
  have a := StrLaws.reprText_len z fun c hc => by
    unfold PyData.strOk at h2
    rw [Array.all_eq_true'] at h2
    have := of_decide_eq_true (h2 c (Array.mem_toList_iff.mp hc))
    exact Nat.lt_of_lt_of_le this (by decide)
  omega
/-- what repr writes -/
structure Shw (d : D) (n : Nat) : Prop where
  plain : plainD d = true
  show1 : (py d).showable = true
  deep : (py d).depth ≤ n
  size : (py d).shown.length ≤ wtD d
structure ShwA (ds : List D) (n : Nat) : Prop where
  plain : plainA ds = true
  show1 : PyData.showableAll (pyA ds) = true
  deep : PyData.depthAll (pyA ds) ≤ n
  size : ((PyData.shownAll (pyA ds)).map (·.length)).sum + 2 * (PyData.shownAll (pyA ds)).length ≤ wtA ds
theorem int_shown {i : Int} (h : i.natAbs < 1000) : (PyData.shown (.int i)).length ≤ 13 := PyData.shown_int_le (by omega)
mutual
theorem shw : ∀ (d : D) (n : Nat), okD d n = true → Shw d n
  | .non, n, _ => ⟨by simp [plainD], by simp [py, PyData.showable], by simp [py, PyData.depth], by simp only [py, wtD]; decide⟩
  | .bl b, n, _ => ⟨by simp [plainD], by simp [py, PyData.showable], by simp [py, PyData.depth], by cases b <;> (simp only [py, wtD]; decide)⟩
  | .int i, n, h => by
    have h : i.natAbs < 1000 := by simpa [okD] using h
    exact ⟨by simp [plainD], by simp only [py, PyData.showable]; exact decide_eq_true (log_small h), by simp [py, PyData.depth], by simp only [py, wtD]; have := int_shown h; omega⟩
  | .str z, n, h => by
    obtain ⟨h1, h2⟩ := okD.str h
    exact ⟨by simp [plainD], by simp [py, PyData.showable], by simp [py, PyData.depth], by simp only [py, wtD, PyData.shown]; exact str_shown h1 h2⟩
  | .lst ds, 0, h => by simp [okD] at h
  | .lst ds, n + 1, h => by
    simp only [okD, Bool.and_eq_true] at h
    have a := shwA ds n h.2
    refine ⟨by simp only [plainD]; exact a.plain, by simp only [py, PyData.showable]; exact a.show1, by simp only [py, PyData.depth]; have := a.deep; omega, ?_⟩
    simp only [py, wtD, PyData.shown]
    have := listText_len_le (PyData.shownAll (pyA ds))
    have := a.size
    omega
  | .tup ds, 0, h => by simp [okD] at h
  | .tup ds, n + 1, h => by
    simp only [okD, Bool.and_eq_true] at h
    have a := shwA ds n h.2
    refine ⟨by simp only [plainD]; exact a.plain, by simp only [py, PyData.showable]; exact a.show1, by simp only [py, PyData.depth]; have := a.deep; omega, ?_⟩
    simp only [py, wtD, PyData.shown]
    have := tupleText_len_le (PyData.shownAll (pyA ds))
    have := a.size
    omega
  | .dct [] [], 0, h => by simp [okD] at h
  | .dct [] [], n + 1, _ => ⟨by simp [plainD], by simp [py, PyData.showable, PyData.showableKv], by simp [py, PyData.depth, PyData.depthKv], by simp only [py, wtD]; decide⟩
  | .dct (_ :: _) _, _, h => by simp [okD] at h
  | .dct [] (_ :: _), _, h => by simp [okD] at h
  | .ty _, _, h => by simp [okD] at h
  | .scr _, _, h => by simp [okD] at h
  | .box _, _, h => by simp [okD] at h
  | .obj _ _ _, _, h => by simp [okD] at h
theorem shwA : ∀ (ds : List D) (n : Nat), okA ds n = true → ShwA ds n
  | [], n, _ => ⟨by simp [plainA], by simp [pyA, PyData.showableAll], by simp [pyA, PyData.depthAll], by simp [pyA, PyData.shownAll, wtA]⟩
  | d :: ds, n, h => by
    simp only [okA, Bool.and_eq_true] at h
    have a := shw d n h.1
    have b := shwA ds n h.2
    refine ⟨by simp only [plainA, Bool.and_eq_true]; exact ⟨a.plain, b.plain⟩, by simp only [pyA, PyData.showableAll, Bool.and_eq_true]; exact ⟨a.show1, b.show1⟩, by simp only [pyA, PyData.depthAll]; have := a.deep; have := b.deep; omega, ?_⟩
    simp only [pyA, PyData.shownAll, wtA, List.map_cons, List.sum_cons, List.length_cons]
    have := a.size
    have := b.size
    omega
end
theorem showsU {ds : List D} {n : Nat} (h : okD (.lst ds) n = true) (hn : n ≤ 50) (hw : wtD (.lst ds) ≤ 1000000) : ShowsU (.lst ds) := by
  have a := shw _ _ h
  refine ⟨a.plain, a.show1, by have := a.deep; omega, Nat.le_trans a.size (Nat.le_trans hw ?_)⟩
  rw [sizeLine_eq]; decide
mutual
theorem res_plain (m : Mem) : ∀ d : D, plainD d = true → res m d = d
  | .non, _ => by simp only [res]
  | .bl _, _ => by simp only [res]
  | .int _, _ => by simp only [res]
  | .str _, _ => by simp only [res]
  | .lst ds, h => by simp only [plainD] at h; simp only [res, resA_plain m ds h]
  | .tup ds, h => by simp only [plainD] at h; simp only [res, resA_plain m ds h]
  | .dct [] [], _ => by simp only [res, resA]
  | .dct (_ :: _) _, h => by simp [plainD] at h
  | .dct [] (_ :: _), h => by simp [plainD] at h
  | .ty _, _ => by simp only [res]
  | .scr _, _ => by simp only [res]
  | .box _, h => by simp [plainD] at h
  | .obj _ _ _, h => by simp [plainD] at h
theorem resA_plain (m : Mem) : ∀ ds : List D, plainA ds = true → resA m ds = ds
  | [], _ => by simp only [resA]
  | d :: ds, h => by
    simp only [plainA, Bool.and_eq_true] at h
    simp only [resA, res_plain m d h.1, resA_plain m ds h.2]
end
theorem wtA_app : ∀ a b : List D, wtA (a ++ b) = wtA a + wtA b
  | [], b => by simp [wtA]
  | d :: a, b => by simp only [List.cons_append, wtA, wtA_app a b]; omega
theorem wtA_sub {a b : List D} (h : List.Sublist a b) : wtA a ≤ wtA b := by
  induction h with
  | slnil => exact Nat.le_refl _
  | cons x _ ih => simp only [wtA]; omega
  | cons_cons x _ ih => simp only [wtA]; omega
theorem len_wtA : ∀ a : List D, a.length ≤ wtA a
  | [] => Nat.zero_le _
  | d :: a => by have := len_wtA a; simp only [wtA, List.length_cons]; omega
theorem wtD_mem {d : D} {ds : List D} (h : d ∈ ds) : wtD d ≤ wtA ds := by
  induction ds with
  | nil => cases h
  | cons e ds ih =>
    simp only [wtA]
    rcases List.mem_cons.mp h with rfl | h
    · omega
    · have := ih h; omega
theorem cut_sub (ds : List D) (lo hi : Option Int) : List.Sublist (cutD ds lo hi) ds := (List.take_sublist _ _).trans (List.drop_sublist _ _)
/-! one thing -/
theorem typedM_of {m : Mem} {x : D} (h : isTyped x = true) : typedM m x = true := by
  cases x <;> first | exact h | cases h
theorem isaLT (x : D) : isaL x ["list", "tuple"] = some (isL x) := by
  have e : ∀ y : D, isL y = (lstB y || tupB y || (match y with | .box _ => true | _ => false)) := fun _ => rfl
  cases x with
  | box a =>
    rw [isaL_box]
    unfold isaL
    rw [isa_list]
    rfl
  | _ =>
    unfold isaL
    rw [isa_list]
    first
      | rfl
      | (show isaL _ ["tuple"] = _; unfold isaL; rw [isa_tuple]; rfl)
theorem r_is_list : ∀ ds m Qd Qx, F_is_list ds m Qd Qx → w_is_list { nx := fun _ m' => Qd .non m', rt := Qd } (ds.map some ++ List.replicate (1 - ds.length) none) m := by
  rintro ds m Qd Qx ⟨x, rfl, hx, h⟩
  exact ⟨hx, _, isaLT x, h⟩
theorem r_is_letter : ∀ ds m Qd Qx, F_is_letter ds m Qd Qx → w_is_letter { nx := fun _ m' => Qd .non m', rt := Qd } (ds.map some ++ List.replicate (1 - ds.length) none) m := by
  rintro ds m Qd Qx ⟨x, rfl, ⟨n, hx⟩, h⟩
  refine ⟨okD.ty hx, _, isa_str, ifb (fun e => ?_) (fun e => ?_)⟩
  · cases x <;> first | (cases e; done) | skip
    rename_i z
    refine ⟨small_line (by have := (okD.str hx).1; omega), ?_⟩
    have h : Qd (.bl (letS z)) m := h
    unfold letS at h
    show if (decide ((z.length : Int) = 1) ^^ false) = true then _ else _
    have e1 : decide ((z.length : Int) = 1) = decide (z.length = 1) := dec_eq rfl rfl
    rw [Bool.xor_false, e1]
    refine ifb (fun e => ?_) (fun e => ?_)
    · rw [e, Bool.true_and] at h
      show if (!decide (z.cps.toList < [97])) = true then _ else _
      refine ifb (fun e => ?_) (fun e => ?_)
      · rw [e, Bool.true_and] at h
        exact h
      · rw [e] at h
        exact h
    · rw [e] at h
      exact h
  · cases x <;> first | (cases e; done) | exact h
theorem bls_map (f : D → Bool) : ∀ ds : List D, blsD (ds.map fun d => .bl (f d)) = some (ds.map f)
  | [] => rfl
  | d :: ds => by
    rw [List.map_cons, List.map_cons]
    unfold blsD
    rw [bls_map f ds]
    rfl
theorem sign_ok {z : Str} (hs : PyData.strOk z = true) {d : D} (hd : d ∈ signs z) : ∃ c, d = .str ⟨#[c]⟩ ∧ c ∈ z.cps.toList ∧ PyData.strOk ⟨#[c]⟩ = true := by
  obtain ⟨c, hc, rfl⟩ := List.mem_map.mp hd
  refine ⟨c, rfl, hc, ?_⟩
  unfold PyData.strOk at hs ⊢
  rw [Array.all_eq_true'] at hs
  have := hs c (Array.mem_toList_iff.mp hc)
  simpa using this
theorem ok_sign {c : Nat} (h : PyData.strOk ⟨#[c]⟩ = true) : okD (.str ⟨#[c]⟩) 0 = true := by
  simp only [okD, Bool.and_eq_true, decide_eq_true_eq]
  exact ⟨(by decide : (1 : Nat) ≤ 20), h⟩
theorem signs_len (z : Str) : (signs z).length = z.length := by
  unfold signs
  rw [List.length_map, Array.length_toList]
  rfl
theorem letS_low (c : Nat) : letS ⟨#[c]⟩ = lowC c := by
  unfold letS lowC
  have e1 : (⟨#[c]⟩ : Str).length = 1 := rfl
  have e2 : (⟨#[c]⟩ : Str).cps.toList = [c] := rfl
  rw [e1, e2]
  simp only [decide_true, Bool.true_and]
  rw [Bool.eq_iff_iff]
  simp only [Bool.and_eq_true, Bool.not_eq_true', decide_eq_true_eq, decide_eq_false_iff_not, List.cons_lt_cons_iff, List.not_lt_nil, and_false, or_false]
  omega
theorem letters_low (z : Str) : letters z = z.cps.toList.all lowC := by
  unfold letters
  congr 1
  funext c
  exact letS_low c
theorem letters_ans (z : Str) : (decide (z = Str.ofString "") || (if (Txt.isascii z) = true then (if Txt.isalpha z = true then Txt.islower z else false) else false)) = letters z := by
  rw [lettered_eq, letters_low]
  cases e : z.cps.toList with
  | nil =>
    have : z = Str.ofString "" := by
      obtain ⟨⟨l⟩⟩ := z
      have e : l = [] := e
      subst e
      rfl
    rw [decide_eq_true this]
    rfl
  | cons c l =>
    have : z ≠ Str.ofString "" := fun h => by
      subst h
      have e : ([] : List Nat) = c :: l := e
      cases e
    rw [decide_eq_false this, Bool.false_or]
    rfl
theorem lettered_go {z : Str} {m : Mem} {Q : D → Mem → Prop} (h : Q (.bl (letters z)) m) : if (decide (z = Str.ofString "") ^^ false) = true then Q (.bl true) m else (wIs Txt.isascii z [] m fun x m1 => match x with
      | .bl c => if c = true then wIs Txt.isalpha z [] m1 (fun x m2 => match x with
        | .bl c => if c = true then wIs Txt.islower z [] m2 Q else Q (.bl false) m2
        | _ => False) else Q (.bl false) m1
      | _ => False) := by
  rw [← letters_ans z] at h
  rw [Bool.xor_false]
  refine ifb (fun e => ?_) (fun e => ?_)
  · rw [e] at h; exact h
  · rw [e, Bool.false_or] at h
    refine ⟨rfl, ?_⟩
    refine ifb (fun e => ?_) (fun e => ?_)
    · rw [if_pos e] at h
      refine ⟨rfl, ?_⟩
      refine ifb (fun e => ?_) (fun e => ?_)
      · rw [if_pos e] at h
        exact ⟨rfl, h⟩
      · rw [if_neg (by rw [e]; exact Bool.false_ne_true)] at h
        exact h
    · rw [if_neg (by rw [e]; exact Bool.false_ne_true)] at h
      exact h
theorem r_is_lettered : ∀ ds m Qd Qx, F_is_lettered ds m Qd Qx → w_is_lettered { nx := fun _ m' => Qd .non m', rt := Qd } (ds.map some ++ List.replicate (1 - ds.length) none) m := by
  rintro ds m Qd Qx ⟨x, rfl, ⟨n, hx⟩, h⟩
  refine ⟨okD.ty hx, _, isa_str, ?_⟩
  refine ifb (fun e => ?_) (fun e => ?_)
  · cases x <;> first | (cases e; done) | exact h
  · cases x <;> first | (cases e; done) | skip
    exact lettered_go h
theorem r_is_name : ∀ ds m Qd Qx, F_is_name ds m Qd Qx → w_is_name { nx := fun _ m' => Qd .non m', rt := Qd } (ds.map some ++ List.replicate (1 - ds.length) none) m := by
  rintro ds m Qd Qx ⟨x, rfl, ⟨n, hx⟩, h⟩
  refine ⟨x, rfl, ⟨n, hx⟩, ifb (fun e => ?_) (fun e => ?_)⟩
  · cases x <;> first | (cases e; done) | skip
    rename_i z
    refine ⟨small_line (by have := (okD.str hx).1; omega), ?_⟩
    have h : Qd (.bl (letters z && (decide (1 ≤ z.length) && decide (z.length ≤ 8)))) m := h
    have e : letters z = true := e
    rw [e, Bool.true_and] at h
    show if decide ((1 : Int) ≤ z.length) = true then _ else _
    have e1 : decide ((1 : Int) ≤ z.length) = decide (1 ≤ z.length) := dec_le rfl rfl
    rw [e1]
    refine ifb (fun e => ?_) (fun e => ?_)
    · rw [e, Bool.true_and] at h
      show Qd (.bl (decide ((z.length : Int) ≤ 8))) m
      have e2 : decide ((z.length : Int) ≤ 8) = decide (z.length ≤ 8) := dec_le rfl rfl
      rw [e2]
      exact h
    · rw [e] at h
      exact h
  · cases x <;> first | exact h | skip
    rename_i z
    have h : Qd (.bl (letters z && (decide (1 ≤ z.length) && decide (z.length ≤ 8)))) m := h
    have e : letters z = false := e
    rw [e] at h
    exact h
end DL
namespace DL
open PySem L2 XO
local macro_rules | `(tactic| walk_at "wg") => `(tactic| simp only [a_test, a_op, a_var, a_c, a_call, a_callX, a_call0, a_nil, a_cons, a_bi, a_tnot, a_tor, a_tand, a_tru, a_yes, a_if, a_and, a_or, a_not, a_chain, a_sl, a_noPart, a_part, a_lst, a_tup, a_dct0, a_own, a_isT, a_next, a_seq, a_ret, a_drop, a_sif, a_set, a_raise, a_for, a_iVar, a_fld, a_lc, a_iEnumB, a_iEnumS, a_iSg, a_iLst, a_iTp, a_join, a_lenSet, a_append, a_put, a_par, a_unp, a_meth, a_make, a_rg1, a_gTup, a_gName, a_gNil, a_gCons, a_loopN, wipeD, List.map_cons, List.map_nil, List.length_cons, List.length_nil, List.cons_append, List.nil_append, List.replicate_succ, List.replicate_zero, List.append_nil, List.getElem?_cons_zero, List.getElem?_cons_succ, List.set_cons_zero, List.set_cons_succ, Nat.reduceAdd, Nat.reduceSub, Bool.not_true, Bool.not_false, reduceIte, Bool.false_eq_true, true_and])
theorem flat_strs {ns : List D} (h : ns.all strB = true) : ns.all flatD = true := by
  rw [List.all_eq_true] at h ⊢
  intro x hx
  have := h x hx
  cases x <;> first | rfl | cases this
theorem listB_cases {x : D} {ds : List D} (h : listB x = some ds) : x = .lst ds ∨ x = .tup ds := by
  cases x <;> first | (cases h; exact Or.inl rfl) | (cases h; exact Or.inr rfl) | cases h
theorem listB_isL {x : D} {ds : List D} (h : listB x = some ds) : isL x = true := by
  rcases listB_cases h with rfl | rfl <;> rfl
theorem no_list {x : D} (h : listB x = none) {n : Nat} (hx : okD x n = true) : isL x = false := by
  cases x <;> first | rfl | (cases h; done) | (simp [okD] at hx)
theorem notIn_list {x nm : D} {ns : List D} {m : Mem} {Q : D → Mem → Prop} (hl : listB nm = some ns) (hx : flatD x = true) (hs : ns.all flatD = true) (q : Q (.bl (inD x ns ^^ true)) m) : dNotIn x nm m Q := by
  rcases listB_cases hl with rfl | rfl
  · cases x <;> first | exact ⟨rfl, hs, q⟩ | cases hx
  · cases x <;> first | exact ⟨rfl, hs, q⟩ | cases hx
theorem in_list {x nm : D} {ns : List D} {m : Mem} {Q : D → Mem → Prop} (hl : listB nm = some ns) (hx : flatD x = true) (hs : ns.all flatD = true) (q : Q (.bl (inD x ns)) m) : dIn x nm m Q := by
  have q : Q (.bl (inD x ns ^^ false)) m := by rw [Bool.xor_false]; exact q
  rcases listB_cases hl with rfl | rfl
  · cases x <;> first | exact ⟨rfl, hs, q⟩ | cases hx
  · cases x <;> first | exact ⟨rfl, hs, q⟩ | cases hx
theorem isi_str {x : D} {n : Nat} {m : Mem} {Q : D → Mem → Prop} (hx : okD x n = true) (q : Q (.bl (strB x)) m) : dIsi [x, .ty "str"] m Q := ⟨okD.ty hx, _, isa_str, q⟩
theorem isi_list {x : D} {n : Nat} {m : Mem} {Q : D → Mem → Prop} (hx : okD x n = true) (q : Q (.bl (lstB x)) m) : dIsi [x, .ty "list"] m Q := ⟨okD.ty hx, _, isa_list, q⟩
theorem r_check_cost : ∀ ds m Qd Qx, F_check_cost ds m Qd Qx → w_check_cost { nx := fun _ m' => Qd .non m', rt := Qd, ex := Qx } (ds.map some ++ List.replicate (2 - ds.length) none) m := by
  rintro ds m Qd Qx ⟨nm, x, ns, rfl, hl, hs, ⟨n, hx⟩, h⟩
  unfold w_check_cost
  walk_at "wg"
  refine isi_str hx ?_
  cases e : strB x with
  | false =>
    have c : costB ns x = false := by unfold costB; rw [e]; rfl
    rw [c] at h
    exact h
  | true =>
    have fx : flatD x = true := by cases x <;> first | rfl | cases e
    walk_at "wg"
    refine notIn_list hl fx (flat_strs hs) ?_
    have c : costB ns x = inD x ns := by unfold costB; rw [e]; rfl
    rw [c] at h
    cases e2 : inD x ns with
    | false => rw [e2] at h; exact h
    | true => rw [e2] at h; exact h
/-! a list's items with their numbers -/
def enumF (k : Nat) : List D → List D
  | [] => []
  | d :: ds => .tup [.int (k : Nat), d] :: enumF (k + 1) ds
theorem enumF_eq (ds : List D) : enumD ds = enumF 0 ds := by
  have go : ∀ (ds : List D) (k : Nat), (ds.mapIdx fun i d => D.tup [.int ((i + k : Nat) : Int), d]) = enumF k ds := by
    intro ds
    induction ds with
    | nil => intro k; rfl
    | cons d ds ih =>
      intro k
      rw [List.mapIdx_cons]
      unfold enumF
      congr 1
      · rw [Nat.zero_add]
      · rw [← ih (k + 1)]
        congr 1
        funext i e
        rw [Nat.add_assoc, Nat.add_comm 1 k]
  exact go ds 0
theorem cut_pre (pre xs : List D) : cutD (pre ++ xs) none (some (pre.length : Int)) = pre := by
  unfold cutD
  rw [HT.sIx_nat, HT.sIx_none, List.length_append, Nat.min_eq_left (by omega), List.drop_zero, Nat.sub_zero, List.take_left']
  rfl
theorem names_flat {pre : List D} (h : ∀ d ∈ pre, isName d = true) : pre.all flatD = true := by
  rw [List.all_eq_true]
  intro x hx
  have := h x hx
  cases x <;> first | rfl | cases this
theorem name_flat {d : D} (h : isName d = true) : flatD d = true := by
  cases d <;> first | rfl | cases h
theorem ok_flat_in {x nm : D} {m : Mem} {Q : D → Mem → Prop} {pre xs : List D} (hl : listB nm = some (pre ++ xs)) (hx : isName x = true) (hp : ∀ d ∈ pre, isName d = true) (q : Q (.bl (inD x pre)) m) :
    dSl nm none (some (pre.length : Int)) m (fun y m1 => dIn x y m1 Q) := by
  have fx := name_flat hx
  rcases listB_cases hl with rfl | rfl
  · show dIn x (.lst (cutD (pre ++ xs) none (some (pre.length : Int)))) m Q
    rw [cut_pre]
    exact in_list rfl fx (names_flat hp) q
  · show dIn x (.tup (cutD (pre ++ xs) none (some (pre.length : Int)))) m Q
    rw [cut_pre]
    exact in_list rfl fx (names_flat hp) q
abbrev namesBody : WS := sSeq (sIf (tvNot (wTest (wCall F_is_name (wCons (wVar 2) wNil)))) (sRaise "InvalidName" "value" (wVar 2)) sNext) (sIf (wTest (wOp dIn (wVar 2) (wSl (wVar 0) wNoPart (wPart (wVar 1))))) (sRaise "Duplicate" "label" (wVar 2)) sNext)
theorem names_loop {c : D} {m : Mem} {E : De} {n : Nat} : ∀ (xs pre : List D) (o1 o2 : Option D), listB c = some (pre ++ xs) → (∀ d ∈ xs, okD d n = true) → (∀ d ∈ pre, isName d = true) →
    (match dueNames pre xs with
      | none => ∀ o1 o2, E.nx [some c, o1, o2] m
      | some f => E.ex f.xn m) → wLoop (gvTup 2 (gvCons (gvName 1) (gvCons (gvName 2) gvNil))) namesBody E (enumF pre.length xs) [some c, o1, o2] m
  | [], pre, o1, o2, _, _, _, h => h o1 o2
  | x :: xs, pre, o1, o2, hl, hx, hp, h => by
    refine ⟨rfl, _, _, rfl, _, _, rfl, rfl, ?_⟩
    refine ⟨x, rfl, ⟨n, hx x List.mem_cons_self⟩, ?_⟩
    unfold dueNames at h
    refine ifb (fun e => ?_) (fun e => ?_)
    · have e : isName x = false := by simpa using e
      rw [e] at h
      exact h
    · have e : isName x = true := by simpa using e
      rw [if_pos e] at h
      refine ok_flat_in hl e hp ?_
      refine ifb (fun e2 => ?_) (fun e2 => ?_)
      · rw [if_pos e2] at h
        exact h
      · rw [if_neg (by rw [e2]; exact Bool.false_ne_true)] at h
        have len : pre.length + 1 = (pre ++ [x]).length := by rw [List.length_append]; rfl
        show wLoop _ _ E (enumF (pre.length + 1) xs) _ m
        rw [len]
        refine names_loop xs (pre ++ [x]) _ _ (by rw [List.append_assoc]; exact hl) (fun d hd => hx d (List.mem_cons_of_mem _ hd)) ?_ h
        intro d hd
        rcases List.mem_append.mp hd with hd | hd
        · exact hp d hd
        · rw [List.mem_singleton] at hd; subst hd; exact e
theorem len_list {x : D} {ds : List D} {m : Mem} {Q : D → Mem → Prop} (h : listB x = some ds) (q : Q (.int (ds.length : Nat)) m) : dLen [x] m Q := by
  rcases listB_cases h with rfl | rfl <;> exact q
theorem r_check_names : ∀ ds m Qd Qx, F_check_names ds m Qd Qx → w_check_names { nx := fun _ m' => Qd .non m', rt := Qd, ex := Qx } (ds.map some ++ List.replicate (3 - ds.length) none) m := by
  rintro ds m Qd Qx ⟨x, rfl, ⟨⟨n, hx⟩, h⟩ | ⟨a, rfl, hm, h⟩⟩
  · unfold w_check_names
    walk_at "wg"
    refine ⟨x, rfl, typedM_of (okD.ty hx), ?_⟩
    cases hl : listB x with
    | none =>
      rw [no_list hl hx]
      unfold dueCosts at h
      rw [hl] at h
      exact h
    | some ds =>
      rw [listB_isL hl]
      have h : (match (if 1 ≤ ds.length ∧ ds.length ≤ 4 then dueNames [] ds else some (Fl.part x)) with
            | none => Qd .non m
            | some f => Qx f.xn m) := by
        unfold dueCosts at h
        rw [hl] at h
        exact h
      walk_at "wg"
      refine len_list hl ?_
      show if decide ((1 : Int) ≤ (ds.length : Nat)) = true then _ else _
      rw [dec_le (i := 1) (j := (ds.length : Nat)) (a := 1) (b := ds.length) rfl rfl]
      by_cases c1 : 1 ≤ ds.length
      · rw [if_pos (decide_eq_true c1)]
        show if (!decide (((ds.length : Nat) : Int) ≤ 4)) = true then _ else _
        rw [dec_le (i := (ds.length : Nat)) (j := 4) (a := ds.length) (b := 4) rfl rfl]
        by_cases c2 : ds.length ≤ 4
        · rw [if_pos ⟨c1, c2⟩] at h
          rw [decide_eq_true c2]
          obtain ⟨k, hk⟩ := okD.items hx hl
          have fin : wLoop (gvTup 2 (gvCons (gvName 1) (gvCons (gvName 2) gvNil))) namesBody { nx := fun _ m' => Qd .non m', rt := Qd, ex := Qx } (enumD ds) [some x, none, none] m := by
            rw [enumF_eq]
            refine names_loop (n := k) ds [] none none hl hk (fun d hd => nomatch hd) ?_
            revert h
            cases dueNames [] ds with
            | none => intro h _ _; exact h
            | some f => exact fun h => h
          rcases listB_cases hl with rfl | rfl <;> exact fin
        · rw [if_neg fun z => c2 z.2] at h
          rw [decide_eq_false c2]
          exact h
      · rw [if_neg fun z => c1 z.1] at h
        rw [decide_eq_false c1]
        exact h
  · exact ⟨_, rfl, by show (m a).isSome = true; rw [hm]; rfl, ⟨_, hm, h⟩⟩
end DL
namespace DL
open PySem L2 XO
local macro_rules | `(tactic| walk_at "wg") => `(tactic| simp only [a_test, a_op, a_var, a_c, a_call, a_callX, a_call0, a_nil, a_cons, a_bi, a_tnot, a_tor, a_tand, a_tru, a_yes, a_if, a_and, a_or, a_not, a_chain, a_sl, a_noPart, a_part, a_lst, a_tup, a_dct0, a_own, a_isT, a_next, a_seq, a_ret, a_drop, a_sif, a_set, a_raise, a_for, a_iVar, a_fld, a_lc, a_iEnumB, a_iEnumS, a_iSg, a_iLst, a_iTp, a_join, a_lenSet, a_append, a_put, a_par, a_unp, a_meth, a_make, a_rg1, a_gTup, a_gName, a_gNil, a_gCons, a_loopN, wipeD, List.map_cons, List.map_nil, List.length_cons, List.length_nil, List.cons_append, List.nil_append, List.replicate_succ, List.replicate_zero, List.append_nil, List.getElem?_cons_zero, List.getElem?_cons_succ, List.set_cons_zero, List.set_cons_succ, Nat.reduceAdd, Nat.reduceSub, Bool.not_true, Bool.not_false, reduceIte, Bool.false_eq_true, true_and])
/-! groups -/
theorem atI_zero {α : Type} {x : α} {xs : List α} : atI (x :: xs) (0 : Int) = some x := by
  unfold L2.atI ixN
  rw [if_pos (Int.le_refl 0), if_pos (by rw [List.length_cons]; omega)]
  rfl
theorem atI_one {α : Type} {x y : α} {xs : List α} : atI (x :: y :: xs) (1 : Int) = some y := by
  unfold L2.atI ixN
  rw [if_pos (by decide), if_pos (by rw [List.length_cons, List.length_cons]; omega)]
  rfl
theorem ix_list {x : D} {ds : List D} {i : Int} {d : D} {m : Mem} {Q : D → Mem → Prop} (h : listB x = some ds) (hi : atI ds i = some d) (q : Q d m) : dIx x (.int i) m Q := by
  rcases listB_cases h with rfl | rfl <;> exact ⟨d, hi, q⟩
theorem sign_inj {a b : Nat} (h : (⟨#[a]⟩ : Str) = ⟨#[b]⟩) : a = b := by
  have h1 : (#[a] : Array Nat) = #[b] := congrArg Str.cps h
  simpa using h1
theorem nodup_map {α β : Type} {f : α → β} (hf : ∀ a b, f a = f b → a = b) : ∀ {l : List α}, (l.map f).Nodup ↔ l.Nodup
  | [] => by simp
  | a :: l => by
    rw [List.map_cons, List.nodup_cons, List.nodup_cons, nodup_map hf]
    constructor
    · rintro ⟨h1, h2⟩
      exact ⟨fun h => h1 (List.mem_map_of_mem h), h2⟩
    · rintro ⟨h1, h2⟩
      refine ⟨fun h => h1 ?_, h2⟩
      obtain ⟨b, hb, e⟩ := List.mem_map.mp h
      exact hf _ _ e ▸ hb
theorem nodup_rev {α : Type} {l : List α} : l.reverse.Nodup ↔ l.Nodup := by
  unfold List.Nodup
  rw [List.pairwise_reverse]
  constructor <;> exact fun h => h.imp fun h e => h e.symm
theorem unlike_eq (z : Str) : decide ((unlike z : Nat) = z.length) = decide z.cps.toList.Nodup := by
  have h := distinct_all ((z.cps.toList.reverse).map fun c => (⟨#[c]⟩ : Str))
  rw [List.length_map, List.length_reverse, nodup_map (fun a b => sign_inj), nodup_rev] at h
  have e : z.cps.toList.length = z.length := by rw [Array.length_toList]; rfl
  rw [e] at h
  have h : (unlike z : Nat) = z.length ↔ z.cps.toList.Nodup := h
  by_cases c : z.cps.toList.Nodup
  · rw [decide_eq_true c, decide_eq_true (h.mpr c)]
  · rw [decide_eq_false c, decide_eq_false fun z => c (h.mp z)]
theorem two_of {ds : List D} (h : ds.length = 2) : ∃ a b, ds = [a, b] := by
  match ds, h with
  | [a, b], _ => exact ⟨a, b, rfl⟩
theorem dNe_int {i j : Int} {m : Mem} {Q : D → Mem → Prop} (q : Q (.bl (!decide (i = j))) m) : dNe (.int i) (.int j) m Q := by
  show Q (.bl (decide (i = j) ^^ true)) m
  rw [Bool.xor_true]; exact q
theorem dEq_int {i j : Int} {m : Mem} {Q : D → Mem → Prop} (q : Q (.bl (decide (i = j))) m) : dEq (.int i) (.int j) m Q := by
  show Q (.bl (decide (i = j) ^^ false)) m
  rw [Bool.xor_false]; exact q
theorem grpL_ne {ds : List D} (h : ¬ ds.length = 2) : grpL ds = none := by
  unfold grpL
  split
  · exact absurd rfl h
  · rfl
theorem r_is_group : ∀ ds m Qd Qx, F_is_group ds m Qd Qx → w_is_group { nx := fun _ m' => Qd .non m', rt := Qd } (ds.map some ++ List.replicate (1 - ds.length) none) m := by
  rintro ds m Qd Qx ⟨x, rfl, ⟨⟨n, hx⟩, h⟩ | ⟨a, l, rfl, hm, hl, h⟩⟩
  · unfold w_is_group
    walk_at "wg"
    refine ⟨x, rfl, typedM_of (okD.ty hx), ?_⟩
    cases hl : listB x with
    | none =>
      rw [no_list hl hx]
      unfold grpB at h
      rw [hl] at h
      exact h
    | some ds =>
      rw [listB_isL hl]
      obtain ⟨k, hk⟩ := okD.items hx hl
      walk_at "wg"
      refine len_list hl ?_
      refine dNe_int ?_
      rw [dec_eq (i := (ds.length : Nat)) (j := 2) (a := ds.length) (b := 2) rfl rfl]
      by_cases c : ds.length = 2
      · obtain ⟨u, v, rfl⟩ := two_of c
        rw [decide_eq_true c]
        walk_at "wg"
        refine ix_list hl atI_zero ?_
        refine ⟨u, rfl, ⟨k, hk u List.mem_cons_self⟩, ?_⟩
        have hg : grpB x = grpL [u, v] := by unfold grpB; rw [hl]
        rw [hg] at h
        cases u with
        | str z =>
          have h : Qd (.bl (if (letters z && (decide (2 ≤ z.length) && decide z.cps.toList.Nodup)) = true then some (z, v) else none).isSome) m := h
          have hz := okD.str (hk _ List.mem_cons_self)
          cases e : letters z with
          | false =>
            rw [e] at h
            show if (!letters z) = true then _ else _
            rw [e]
            exact h
          | true =>
            rw [e] at h
            show if (!letters z) = true then _ else _
            rw [e]
            walk_at "wg"
            refine ix_list hl atI_zero ?_
            refine ⟨small_line (by omega), ?_⟩
            show if decide ((2 : Int) ≤ (z.length : Nat)) = true then _ else _
            rw [dec_le (i := 2) (j := (z.length : Nat)) (a := 2) (b := z.length) rfl rfl]
            by_cases c2 : 2 ≤ z.length
            · rw [decide_eq_true c2] at h ⊢
              rw [if_pos rfl]
              refine ix_list hl atI_zero ?_
              refine ⟨?_, ?_⟩
              · rw [Array.length_toList]
                show z.length < 4000
                omega
              refine ix_list hl atI_zero ?_
              refine ⟨small_line (by omega), ?_⟩
              refine dEq_int ?_
              rw [dec_eq (i := (unlike z : Nat)) (j := (z.length : Nat)) rfl rfl, unlike_eq]
              rw [Bool.true_and, Bool.true_and] at h
              cases e3 : decide z.cps.toList.Nodup with
              | false => rw [e3] at h; exact h
              | true => rw [e3] at h; exact h
            · rw [decide_eq_false c2] at h ⊢
              exact h
        | _ => exact h
      · rw [decide_eq_false c]
        have hg : grpB x = none := by
          unfold grpB
          rw [hl]
          exact grpL_ne c
        rw [hg] at h
        exact h
  · unfold w_is_group
    walk_at "wg"
    refine ⟨_, rfl, by show (m a).isSome = true; rw [hm]; rfl, ?_⟩
    show if (!true) = true then _ else _
    walk_at "wg"
    refine ⟨_, hm, ?_⟩
    refine dNe_int ?_
    rw [dec_eq (i := (l.length : Nat)) (j := 2) (a := l.length) (b := 2) rfl rfl, decide_eq_false hl]
    exact h
/-! signs in a comprehension -/
theorem lc_signs {j : Nat} {te : WE} {ρ : En0} {Qx : XQ} {m : Mem} (f : Nat → Bool) : ∀ (cs : List Nat) (acc : List D) (Q : D → Mem → Prop), (∀ c ∈ cs, ∀ Q : D → Mem → Prop, Q (.bl (f c)) m → te (ρ.set j (some (.str ⟨#[c]⟩))) m Q Qx) →
    Q (.lst (acc ++ cs.map fun c => D.bl (f c))) m → wLcGo (gvName j) tvYes te ρ Qx (cs.map fun c => D.str ⟨#[c]⟩) acc m Q
  | [], acc, Q, _, h => by
    rw [List.map_nil, List.append_nil] at h
    exact h
  | c :: cs, acc, Q, h1, h => by
    refine h1 c List.mem_cons_self _ ?_
    refine lc_signs f cs (acc ++ [.bl (f c)]) Q (fun e he => h1 e (List.mem_cons_of_mem _ he)) ?_
    rw [List.append_assoc]
    exact h
theorem bls_signs (f : Nat → Bool) : ∀ cs : List Nat, blsD (cs.map fun c => D.bl (f c)) = some (cs.map f)
  | [] => rfl
  | c :: cs => by
    rw [List.map_cons, List.map_cons]
    unfold blsD
    rw [bls_signs f cs]
    rfl
theorem strs_strs : ∀ ys : List Str, strsD (ys.map D.str) = some ys
  | [] => rfl
  | y :: ys => by
    rw [List.map_cons]
    unfold strsD
    rw [strs_strs ys]
    rfl
theorem Sub.refl (m : Mem) : Sub m m := fun _ _ h => h
theorem Sub.trans {m m' m'' : Mem} (h : Sub m m') (h' : Sub m' m'') : Sub m m'' := fun b ds e => h' b ds (h b ds e)
theorem Sub.up {m m' : Mem} (h : Sub m m') {p : Addr} (hp : m p = none) (l : List D) : Sub m (m'.up p l) := by
  intro b ds e
  have : b ≠ p := fun z => by subst z; rw [hp] at e; cases e
  rw [Mem.up_ne this]
  exact h b ds e
abbrev groupBody : WS := sSeq (sIf (tvOr (tvNot (wTest (wCall F_is_group (wCons (wVar 4) wNil)))) (wTest (wBi (dBls fun bs => bs.any id) (wCons (wLc (iSg (wOp dIx (wVar 4) (wC (.int 0)))) (gvName 5) tvYes (wOp dIn (wVar 5) (wVar 3)) [5]) wNil)))) (sRaise "InvalidGroup" "value" (wVar 4)) sNext) (sSeq (sDrop (wCallX F_check_cost (wCons (wVar 0) (wCons (wOp dIx (wVar 4) (wC (.int 1))) wNil)))) (sSeq (sAppend (wVar 2) (wCons (wTup (wCons (wJoin (wC (.str (Str.ofString ""))) (wBi dSortedTx (wCons (wOp dIx (wVar 4) (wC (.int 0))) wNil))) (wCons (wOp dIx (wVar 4) (wC (.int 1))) wNil))) wNil)) (sSet 3 (wOp dAdd (wVar 3) (wOp dIx (wVar 4) (wC (.int 0)))))))
theorem grp_some {x : D} {z : Str} {c : D} (h : grpB x = some (z, c)) : listB x = some [.str z, c] ∧ letters z = true := by
  unfold grpB at h
  split at h
  · rename_i ds e
    unfold grpL at h
    split at h
    · split at h
      · rename_i g
        cases h
        exact ⟨e, (Bool.and_eq_true_iff.mp g).1⟩
      · cases h
    · cases h
  · cases h
theorem sorted_len {ys : List Str} {z : Str} (h : ys.Perm (signL z)) : (ys.map (·.length)).sum + ys.length * (Str.ofString "").length ≤ ys.length ∧ ys.length = z.length := by
  have e1 : ys.length = z.length := by
    rw [h.length_eq]
    unfold signL
    rw [List.length_map, Array.length_toList]
    rfl
  have all1 : ∀ y ∈ ys, y.length = 1 := by
    intro y hy
    obtain ⟨c, _, rfl⟩ := List.mem_map.mp (h.mem_iff.mp hy)
    rfl
  have e2 : (ys.map (·.length)).sum = ys.length := by
    clear h e1
    induction ys with
    | nil => rfl
    | cons y ys ih =>
      rw [List.map_cons, List.sum_cons, List.length_cons, all1 y List.mem_cons_self, ih fun y hy => all1 y (List.mem_cons_of_mem _ hy)]
      omega
  have e3 : (Str.ofString "").length = 0 := by decide
  rw [e2, e3]
  exact ⟨by omega, e1⟩
theorem groups_loop {nm s : D} {ns : List D} {m : Mem} {p : Addr} {E : De} {n : Nat} (hnl : listB nm = some ns) (hs : ns.all strB = true) (hp : m p = none) : ∀ (gs : List D) (tk : Str) (out : List D) (m1 : Mem) (o4 o5 : Option D), (∀ d ∈ gs, okD d n = true) → Sub m m1 → m1 p = some out →
    tk.length + 20 * gs.length ≤ 2000000 → out.length + gs.length ≤ 100000 →
    (match dueGroups ns tk.cps.toList gs with
      | none => ∀ out m' tk o4 o5, Sub m m' → m' p = some out → E.nx [some nm, some s, some (.box p), some (.str tk), o4, o5] m'
      | some f => ∀ m', Sub m m' → E.ex f.xn m') → wLoop (gvName 4) groupBody E gs [some nm, some s, some (.box p), some (.str tk), o4, o5] m1
  | [], tk, out, m1, o4, o5, _, hsub, ho, _, _, h => h out m1 tk o4 o5 hsub ho
  | g :: gs, tk, out, m1, o4, o5, hx, hsub, ho, hb1, hb2, h => by
    rw [a_loopC]
    unfold groupBody
    walk_at "wg"
    refine ⟨g, rfl, Or.inl ⟨⟨n, hx g List.mem_cons_self⟩, ?_⟩⟩
    rw [List.length_cons] at hb1 hb2
    cases hg : grpB g with
    | none =>
      have h : ∀ m', Sub m m' → E.ex (Fl.group g).xn m' := by
        unfold dueGroups at h
        rw [hg] at h
        exact h
      exact h m1 hsub
    | some zc =>
      obtain ⟨z, c⟩ := zc
      obtain ⟨hgl, hzl⟩ := grp_some hg
      obtain ⟨k, hk⟩ := okD.items (hx g List.mem_cons_self) hgl
      have hz := okD.str (hk _ List.mem_cons_self)
      have h : (match (if (z.cps.toList.any fun k => decide (k ∈ tk.cps.toList)) = true then some (Fl.group g) else if costB ns c = true then dueGroups ns (tk.cps.toList ++ z.cps.toList) gs else some (Fl.cost c)) with
        | none => ∀ out m' tk o4 o5, Sub m m' → m' p = some out → E.nx [some nm, some s, some (.box p), some (.str tk), o4, o5] m'
        | some f => ∀ m', Sub m m' → E.ex f.xn m') := by
        unfold dueGroups at h
        rw [hg] at h
        exact h
      show if (!true) = true then _ else _
      walk_at "wg"
      refine ix_list hgl atI_zero ?_
      refine ⟨by rw [signs_len]; omega, ?_⟩
      refine lc_signs (fun k => decide (k ∈ tk.cps.toList)) _ _ _ (fun e he Q q => ?_) ?_
      · walk_at "wg"
        refine ⟨e, rfl, ?_⟩
        rw [Bool.xor_false]
        exact q
      · rw [List.nil_append]
        refine ⟨_, bls_signs _ _, ?_⟩
        have ea : ((z.cps.toList.map fun k => decide (k ∈ tk.cps.toList)).any id) = z.cps.toList.any fun k => decide (k ∈ tk.cps.toList) := by
          rw [List.any_map]; rfl
        show if ((z.cps.toList.map fun k => decide (k ∈ tk.cps.toList)).any id) = true then _ else _
        rw [ea]
        refine ifb (fun e1 => ?_) (fun e1 => ?_)
        · rw [if_pos e1] at h
          exact h m1 hsub
        · rw [if_neg (by rw [e1]; exact Bool.false_ne_true)] at h
          refine ix_list hgl atI_one ?_
          refine ⟨nm, c, ns, rfl, hnl, hs, ⟨k, hk c (by simp)⟩, ?_⟩
          cases e2 : costB ns c with
          | false =>
            rw [e2] at h
            exact h m1 hsub
          | true =>
            rw [e2, if_pos rfl] at h
            rw [if_pos rfl]
            refine ⟨by rw [ho]; rfl, ?_⟩
            refine ix_list hgl atI_zero ?_
            refine ⟨by show z.length ≤ 1000000; omega, fun ys hperm hsort => ?_⟩
            obtain ⟨l1, l2⟩ := sorted_len hperm
            refine ⟨ys, strs_strs ys, by omega, ?_⟩
            refine ix_list hgl atI_one ?_
            refine ⟨small_line (by decide), ?_⟩
            refine ⟨_, out, rfl, ho, Nat.lt_of_le_of_lt (show out.length ≤ 100000 by omega) (by rw [sizeLine_eq]; decide), ?_⟩
            refine ix_list hgl atI_zero ?_
            refine ⟨Nat.le_trans (show tk.length + z.length ≤ 2000000 by omega) (by rw [sizeLine_eq]; decide), ?_⟩
            have ez : (tk ++ z).cps.toList = tk.cps.toList ++ z.cps.toList := by
              show (tk.cps ++ z.cps).toList = _
              rw [Array.toList_append]
            have lz : (tk ++ z).length = tk.length + z.length := by
              show (tk.cps ++ z.cps).size = _
              rw [Array.size_append]; rfl
            refine groups_loop hnl hs hp gs (tk ++ z) _ _ _ _ (fun d hd => hx d (List.mem_cons_of_mem _ hd)) (hsub.up hp _) Mem.up_same (by rw [lz]; omega) (by rw [List.length_append]; show out.length + 1 + _ ≤ _; omega) ?_
            rw [ez]
            exact h
theorem r_checked_groups : ∀ ds m Qd Qx, F_checked_groups ds m Qd Qx → w_checked_groups { nx := fun _ m' => Qd .non m', rt := Qd, ex := Qx } (ds.map some ++ List.replicate (6 - ds.length) none) m := by
  rintro ds m Qd Qx ⟨nm, s, ns, rfl, hl, hs, ⟨⟨n, hx⟩, h⟩ | ⟨b, l, rfl, hm, hne, h⟩⟩
  · unfold w_checked_groups
    walk_at "wg"
    refine ⟨s, rfl, typedM_of (okD.ty hx), ?_⟩
    cases hsl : listB s with
    | none =>
      rw [no_list hsl hx]
      have h : ∀ m', Sub m m' → Qx (Fl.part s).xn m' := by
        intro m' hs'
        have := h m' hs'
        unfold dueSets at this
        rw [hsl] at this
        exact this
      exact h m (Sub.refl m)
    | some gs =>
      rw [listB_isL hsl]
      walk_at "wg"
      refine ⟨small_line (by decide), fun p hp => ?_⟩
      obtain ⟨k, hk⟩ := okD.items hx hsl
      have hlen := okD.len hx hsl
      have fin : wLoop (gvName 4) groupBody { nx := fun ρ' m' => wBi dTupleM (wCons (wVar 2) wNil) ρ' m' Qd Qx, rt := Qd, ex := Qx } gs [some nm, some s, some (.box p), some (.str (Str.ofString "")), none, none] (m.up p []) := by
        refine groups_loop (n := k) hl hs hp gs _ [] _ _ _ hk ((Sub.refl m).up hp _) Mem.up_same ?_ ?_ ?_
        · show (Str.ofString "").length + 20 * gs.length ≤ 2000000
          have : (Str.ofString "").length = 0 := by decide
          omega
        · show 0 + gs.length ≤ 100000
          omega
        · have e0 : (Str.ofString "").cps.toList = [] := by decide
          rw [e0]
          have h : ∀ m', Sub m m' → match dueGroups ns [] gs with
            | none => ∀ gs, Qd (.tup gs) m'
            | some f => Qx f.xn m' := by
            intro m' hs'
            have := h m' hs'
            unfold dueSets at this
            rw [hsl] at this
            exact this
          revert h
          cases dueGroups ns [] gs with
          | none =>
            intro h out m' tk o4 o5 hsub ho
            exact ⟨_, ho, h m' hsub out⟩
          | some f => exact fun h => h
      rcases listB_cases hsl with rfl | rfl <;> exact fin
  · unfold w_checked_groups
    walk_at "wg"
    refine ⟨_, rfl, rfl, ?_⟩
    show if (!true) = true then _ else _
    walk_at "wg"
    refine ⟨small_line (by decide), fun p hp => ?_⟩
    have hb : b ≠ p := fun z => by subst z; rw [hp] at hm; cases hm
    refine ⟨_, rfl, Or.inr ⟨b, l, rfl, by rw [Mem.up_ne hb]; exact hm, hne, ?_⟩⟩
    exact h _ ((Sub.refl m).up hp _)
end DL
namespace DL
open PySem L2 XO
local macro_rules | `(tactic| walk_at "wg") => `(tactic| simp only [a_test, a_op, a_var, a_c, a_call, a_callX, a_call0, a_nil, a_cons, a_bi, a_tnot, a_tor, a_tand, a_tru, a_yes, a_if, a_and, a_or, a_not, a_chain, a_sl, a_noPart, a_part, a_lst, a_tup, a_dct0, a_own, a_isT, a_next, a_seq, a_ret, a_drop, a_sif, a_set, a_raise, a_for, a_iVar, a_fld, a_lc, a_iEnumB, a_iEnumS, a_iSg, a_iLst, a_iTp, a_join, a_lenSet, a_append, a_put, a_par, a_unp, a_meth, a_make, a_rg1, a_gTup, a_gName, a_gNil, a_gCons, a_loopN, wipeD, List.map_cons, List.map_nil, List.length_cons, List.length_nil, List.cons_append, List.nil_append, List.replicate_succ, List.replicate_zero, List.append_nil, List.getElem?_cons_zero, List.getElem?_cons_succ, List.set_cons_zero, List.set_cons_succ, Nat.reduceAdd, Nat.reduceSub, Bool.not_true, Bool.not_false, reduceIte, Bool.false_eq_true, true_and])
/-! steps -/
theorem in_texts {x : D} {ss : List Str} {m : Mem} {Q : D → Mem → Prop} (hx : flatD x = true) (q : Q (.bl (inD x (ss.map D.str))) m) : dIn x (.tup (ss.map D.str)) m Q := by
  refine in_list rfl hx ?_ q
  rw [List.all_map, List.all_eq_true]
  intro _ _; rfl
theorem truD_list {x : D} {ds : List D} {m : Mem} (h : listB x = some ds) : truD m x = some (!ds.isEmpty) := by
  rcases listB_cases h with rfl | rfl <;> rfl
theorem r_is_step : ∀ ds m Qd Qx, F_is_step ds m Qd Qx → w_is_step { nx := fun _ m' => Qd .non m', rt := Qd } (ds.map some ++ List.replicate (1 - ds.length) none) m := by
  rintro ds m Qd Qx ⟨x, rfl, ⟨n, hx⟩, hf, h⟩
  unfold w_is_step
  walk_at "wg"
  refine ⟨x, rfl, typedM_of (okD.ty hx), ?_⟩
  cases hl : listB x with
  | none =>
    rw [no_list hl hx]
    unfold stepB at h
    rw [hl] at h
    exact h
  | some ds =>
    rw [listB_isL hl]
    walk_at "wg"
    refine ⟨_, truD_list hl, ?_⟩
    obtain ⟨k, hk⟩ := okD.items hx hl
    unfold stepB at h
    unfold flatL at hf
    rw [hl] at h hf
    cases ds with
    | nil => exact h
    | cons u t =>
      have hf : (u :: t).all flatD = true := hf
      rw [List.all_cons, Bool.and_eq_true] at hf
      have h : Qd (.bl (if inD u [.str (Str.ofString "keep"), .str (Str.ofString "drop"), .str (Str.ofString "turn")] = true then t.isEmpty
        else inD u [.str (Str.ofString "add"), .str (Str.ofString "swap")] && lastL t)) m := h
      show if (!(!(u :: t).isEmpty)) = true then _ else _
      rw [show (!(!(u :: t).isEmpty)) = false from rfl]
      walk_at "wg"
      refine ix_list hl atI_zero ?_
      refine in_list rfl hf.1 rfl ?_
      show if inD u [.str (Str.ofString "keep"), .str (Str.ofString "drop"), .str (Str.ofString "turn")] = true then _ else _
      refine ifb (fun e => ?_) (fun e => ?_)
      · rw [if_pos e] at h
        refine len_list hl ?_
        refine dEq_int ?_
        rw [dec_eq (i := ((u :: t).length : Nat)) (j := 1) (a := (u :: t).length) (b := 1) rfl rfl]
        cases t with
        | nil => exact h
        | cons v t =>
          rw [decide_eq_false (by rw [List.length_cons, List.length_cons]; omega)]
          exact h
      · rw [if_neg (by rw [e]; exact Bool.false_ne_true)] at h
        refine ix_list hl atI_zero ?_
        refine in_list rfl hf.1 rfl ?_
        show if inD u [.str (Str.ofString "add"), .str (Str.ofString "swap")] = true then _ else _
        refine ifb (fun e2 => ?_) (fun e2 => ?_)
        · rw [e2, Bool.true_and] at h
          refine len_list hl ?_
          refine dEq_int ?_
          rw [dec_eq (i := ((u :: t).length : Nat)) (j := 2) (a := (u :: t).length) (b := 2) rfl rfl]
          cases t with
          | nil => exact h
          | cons v t =>
            cases t with
            | nil =>
              show if decide ([u, v].length = 2) = true then _ else _
              rw [decide_eq_true (show [u, v].length = 2 from rfl), if_pos rfl]
              refine ix_list hl atI_one ?_
              exact ⟨v, rfl, ⟨k, hk v (by simp)⟩, h⟩
            | cons w t =>
              rw [decide_eq_false (by rw [List.length_cons, List.length_cons, List.length_cons]; omega)]
              exact h
        · rw [e2, Bool.false_and] at h
          exact h
/-! a scheme is made -/
theorem dueFirst_loop {c : D} {ns : List D} {m : Mem} {E : De} {a : Addr} {v1 v2 v3 v4 v5 : D} (hl : listB c = some ns) (hs : ns.all strB = true) : ∀ (xs : List D) (o7 : Option D), (∀ x ∈ xs, ∃ n, okD x n = true) →
    (match dueFirst ns xs with
      | none => ∀ o7, E.nx [some (.box a), some c, some v1, some v2, some v3, some v4, some v5, o7, none] m
      | some f => E.ex f.xn m) → wLoop (gvName 7) (sDrop (wCallX F_check_cost (wCons (wVar 1) (wCons (wVar 7) wNil)))) E xs [some (.box a), some c, some v1, some v2, some v3, some v4, some v5, o7, none] m
  | [], o7, _, h => h o7
  | x :: xs, o7, hx, h => by
    rw [a_loopC]
    walk_at "wg"
    refine ⟨c, x, ns, rfl, hl, hs, hx x List.mem_cons_self, ?_⟩
    unfold dueFirst at h
    cases e : costB ns x with
    | true =>
      rw [e, if_pos rfl] at h
      rw [if_pos rfl]
      exact dueFirst_loop hl hs xs _ (fun y hy => hx y (List.mem_cons_of_mem _ hy)) h
    | false =>
      rw [e] at h
      exact h
theorem names_str {ds : List D} : ∀ (xs pre : List D), dueNames pre xs = none → xs.all strB = true
  | [], _, _ => rfl
  | x :: xs, pre, h => by
    unfold dueNames at h
    split at h
    · rename_i e
      split at h
      · cases h
      · rw [List.all_cons, names_str (ds := ds) xs _ h, Bool.and_true]
        cases x <;> first | rfl | cases e
    · cases h
theorem costs_none {c : D} (h : dueCosts c = none) : ∃ ns, listB c = some ns ∧ ns.all strB = true := by
  unfold dueCosts at h
  cases hl : listB c with
  | none => rw [hl] at h; cases h
  | some ds =>
    rw [hl] at h
    have h : (if 1 ≤ ds.length ∧ ds.length ≤ 4 then dueNames [] ds else some (.part c)) = none := h
    split at h
    · exact ⟨ds, rfl, names_str (ds := ds) _ _ h⟩
    · cases h
theorem z_set {v : WE} {z : WZ} {ds : List D} {E : List D → Mem → Prop} {Qx : XQ} {ρ : En0} {m : Mem} : zSet v z ds E Qx ρ m = v ρ m (fun d m' => z (ds ++ [d]) E Qx ρ m') Qx := rfl
theorem z_nil {ds : List D} {E : List D → Mem → Prop} {Qx : XQ} {ρ : En0} {m : Mem} : zNil ds E Qx ρ m = E ds m := rfl
theorem z_cons {u : WS} {z : WZ} {ds : List D} {E : List D → Mem → Prop} {Qx : XQ} {ρ : En0} {m : Mem} : zCons u z ds E Qx ρ m = u { nx := fun ρ' m' => ρ'[0]? = ρ[0]? ∧ z ds E Qx ρ' m', rt := fun _ _ => False, ex := Qx } ρ m := rfl
theorem tupleM_list {x : D} {ds : List D} {m : Mem} {Q : D → Mem → Prop} (h : listB x = some ds) (q : Q (.tup ds) m) : dTupleM [x] m Q := by
  rcases listB_cases h with rfl | rfl <;> exact q
theorem r_Scheme_init : ∀ ds m Qd Qx, F_Scheme ds m Qd Qx → ∀ a, w_Scheme_init [] (fun ds' m' => Qd (.obj "Scheme" ["_costs", "_add", "_drop", "_swap", "_groups", "_turn"] ds') m') Qx ((D.box a :: ds).map some ++ List.replicate (9 - (ds.length + 1)) none) m := by
  rintro ds m Qd Qx ⟨c, p, mi, ch, s, t, rfl, h⟩ a
  unfold w_Scheme_init
  simp only [z_cons, z_set, z_nil]
  walk_at "wg"
  rcases h with ⟨hx, h⟩ | ⟨b, rfl, hm, h⟩ | ⟨b, l, rfl, rfl, rfl, rfl, rfl, hm, hne, h⟩
  · refine ⟨c, rfl, Or.inl ⟨hx c (by simp), ?_⟩⟩
    unfold due at h
    cases hc : dueCosts c with
    | some f =>
      rw [hc] at h
      exact h m (Sub.refl m)
    | none =>
      rw [hc] at h
      have h : ∀ m', Sub m m' → match andThen (dueFirst (itemsOr c) [p, mi, ch]) (andThen (dueSets (itemsOr c) s) (dueTurn (itemsOr c) t)) with
        | none => ∀ ns gs, listB c = some ns → Qd (.obj "Scheme" attrs [.tup ns, p, mi, ch, .tup gs, t]) m'
        | some f => Qx f.xn m' := h
      obtain ⟨ns, hl, hs⟩ := costs_none hc
      have hi : itemsOr c = ns := by unfold itemsOr; rw [hl]; rfl
      rw [hi] at h
      refine ⟨small_line (by decide), ?_⟩
      refine dueFirst_loop hl hs [p, mi, ch] none (fun x hxx => hx x ?_) ?_
      · simp only [List.mem_cons, List.not_mem_nil, or_false] at hxx ⊢
        rcases hxx with rfl | rfl | rfl <;> simp
      cases h1 : dueFirst ns [p, mi, ch] with
      | some f =>
        rw [h1] at h
        exact h m (Sub.refl m)
      | none =>
        rw [h1] at h
        have h : ∀ m', Sub m m' → match andThen (dueSets ns s) (dueTurn ns t) with
          | none => ∀ ns gs, listB c = some ns → Qd (.obj "Scheme" attrs [.tup ns, p, mi, ch, .tup gs, t]) m'
          | some f => Qx f.xn m' := h
        intro o7
        refine ⟨rfl, ?_⟩
        refine ⟨c, s, ns, rfl, hl, hs, Or.inl ⟨hx s (by simp), fun m' hsub => ?_⟩⟩
        have h := h m' hsub
        revert h
        cases h2 : dueSets ns s with
        | some f => exact fun h => h
        | none =>
          intro h gs
          have h : match dueTurn ns t with
            | none => ∀ ns gs, listB c = some ns → Qd (.obj "Scheme" attrs [.tup ns, p, mi, ch, .tup gs, t]) m'
            | some f => Qx f.xn m' := h
          refine ⟨rfl, ?_⟩
          have fin : (isNonD t || costB ns t) = true → dTupleM [c] m' (fun d m'_1 => Qd (D.obj "Scheme" ["_costs", "_add", "_drop", "_swap", "_groups", "_turn"] ([] ++ [d] ++ [p] ++ [mi] ++ [ch] ++ [D.tup gs] ++ [t])) m'_1) := by
            intro e
            unfold dueTurn at h
            rw [if_pos e] at h
            exact tupleM_list hl (h ns gs hl)
          show if (isNonD t ^^ true) = true then _ else _
          rw [Bool.xor_true]
          cases e : isNonD t with
          | true =>
            rw [e, Bool.true_or] at fin
            exact fin rfl
          | false =>
            refine ⟨c, t, ns, rfl, hl, hs, hx t (by simp), ?_⟩
            rw [e, Bool.false_or] at fin
            cases e2 : costB ns t with
            | true =>
              rw [if_pos rfl]
              exact fin e2
            | false =>
              unfold dueTurn at h
              rw [e, e2] at h
              exact h
  · exact ⟨_, rfl, Or.inr ⟨b, rfl, hm, h⟩⟩
  · refine ⟨_, rfl, Or.inl ⟨⟨1, by decide +kernel⟩, ?_⟩⟩
    have hc : dueCosts (.lst [.str (Str.ofString "b")]) = none := by decide
    rw [hc]
    refine ⟨small_line (by decide), ?_⟩
    refine dueFirst_loop (ns := [.str (Str.ofString "b")]) rfl rfl _ none (fun x hxx => ⟨0, ?_⟩) ?_
    · simp only [List.mem_cons, List.not_mem_nil, or_false] at hxx
      rcases hxx with rfl | rfl | rfl <;> decide +kernel
    have h1 : dueFirst [.str (Str.ofString "b")] [.str (Str.ofString "b"), .str (Str.ofString "b"), .str (Str.ofString "b")] = none := by decide
    rw [h1]
    intro o7
    refine ⟨rfl, ?_⟩
    exact ⟨_, _, _, rfl, rfl, rfl, Or.inr ⟨b, l, rfl, hm, hne, h⟩⟩
theorem l_Scheme_init : ∀ ds m Q Qx, F_Scheme ds m Q Qx → ds.length + 1 = 7 := by
  rintro ds m Q Qx ⟨c, p, mi, ch, s, a, rfl, _⟩; rfl
/-! the methods, where they refuse -/
theorem dEq_str {a b : Str} {m : Mem} {Q : D → Mem → Prop} (q : Q (.bl (decide (a = b))) m) : dEq (.str a) (.str b) m Q := by
  show Q (.bl (decide (a = b) ^^ false)) m
  rw [Bool.xor_false]; exact q
theorem r_Scheme_swap_cost : ∀ ds m Qd Qx, F_Scheme_swap_cost ds m Qd Qx → w_Scheme_swap_cost { nx := fun _ m' => Qd .non m', rt := Qd, ex := Qx } (ds.map some ++ List.replicate (6 - ds.length) none) m := by
  rintro ds m Qd Qx ⟨o, x, y, rfl, hx, hy, h⟩
  unfold w_Scheme_swap_cost
  walk_at "wg"
  refine ⟨small_line (by decide), ?_⟩
  rw [a_loopC]
  walk_at "wg"
  refine ⟨x, rfl, hx, ?_⟩
  rcases h with ⟨e, h⟩ | ⟨e, e2, h⟩ | ⟨z, rfl, rfl, e, h⟩
  · rw [e]; exact h
  · rw [e]
    walk_at "wg"
    rw [a_loopC]
    walk_at "wg"
    refine ⟨y, rfl, hy, ?_⟩
    rw [e2]
    exact h
  · have e1 : isLetter (.str z) = true := e
    rw [e1]
    walk_at "wg"
    rw [a_loopC]
    walk_at "wg"
    refine ⟨_, rfl, hy, ?_⟩
    rw [e1]
    walk_at "wg"
    refine dEq_str ?_
    rw [decide_eq_true rfl]
    exact h
theorem r_Scheme_step_cost : ∀ ds m Qd Qx, F_Scheme_step_cost ds m Qd Qx → w_Scheme_step_cost { nx := fun _ m' => Qd .non m', rt := Qd, ex := Qx } (ds.map some ++ List.replicate (4 - ds.length) none) m := by
  rintro ds m Qd Qx ⟨o, x, y, a, rfl, ⟨v1, v2, v3, v4, v5, rfl⟩, hx, hy, hf, h⟩
  unfold w_Scheme_step_cost
  walk_at "wg"
  refine ⟨x, rfl, hx, hf, ?_⟩
  rcases h with ⟨e, h⟩ | ⟨rfl, rfl, h⟩ | ⟨rfl, hyy, h⟩
  · rw [e]; exact h
  · have e : stepB (.tup [.str (Str.ofString "turn")]) = true := by decide
    rw [e]
    walk_at "wg"
    refine ⟨_, atI_zero, ?_⟩
    refine dEq_str ?_
    rw [decide_eq_true rfl]
    walk_at "wg"
    refine ⟨.non, rfl, ?_⟩
    exact h
  · have e : stepB (.tup [.str (Str.ofString "swap"), .str (Str.ofString "a")]) = true := by decide
    rw [e]
    walk_at "wg"
    refine ⟨_, atI_zero, ?_⟩
    refine dEq_str ?_
    have e2 : decide (Str.ofString "swap" = Str.ofString "turn") = false := by decide
    rw [e2]
    walk_at "wg"
    refine ⟨_, atI_zero, ?_⟩
    refine dEq_str ?_
    rw [decide_eq_true rfl]
    walk_at "wg"
    refine ⟨y, rfl, hy, ?_⟩
    cases e3 : isLetter y with
    | false => exact h
    | true =>
      rcases hyy with hyy | rfl
      · rw [e3] at hyy; cases hyy
      · walk_at "wg"
        refine ⟨_, atI_one, ?_⟩
        refine dEq_str ?_
        rw [decide_eq_true rfl]
        exact h
end DL
namespace DL
open PySem L2 XO
local macro_rules | `(tactic| walk_at "wg") => `(tactic| simp only [a_test, a_op, a_var, a_c, a_call, a_callX, a_call0, a_nil, a_cons, a_bi, a_tnot, a_tor, a_tand, a_tru, a_yes, a_if, a_and, a_or, a_not, a_chain, a_sl, a_noPart, a_part, a_lst, a_tup, a_dct0, a_own, a_isT, a_next, a_seq, a_ret, a_drop, a_sif, a_set, a_raise, a_for, a_iVar, a_fld, a_lc, a_iEnumB, a_iEnumS, a_iSg, a_iLst, a_iTp, a_join, a_lenSet, a_append, a_put, a_par, a_unp, a_meth, a_make, a_rg1, a_gTup, a_gName, a_gNil, a_gCons, a_loopN, wipeD, List.map_cons, List.map_nil, List.length_cons, List.length_nil, List.cons_append, List.nil_append, List.replicate_succ, List.replicate_zero, List.append_nil, List.getElem?_cons_zero, List.getElem?_cons_succ, List.set_cons_zero, List.set_cons_succ, Nat.reduceAdd, Nat.reduceSub, Bool.not_true, Bool.not_false, reduceIte, Bool.false_eq_true, true_and])
/-! ### the law's own defs -/
theorem ixN_lt {n : Nat} {i : Int} (h0 : 0 ≤ i) (h1 : i < n) : ixN n i = some i.toNat := by
  unfold ixN
  rw [if_pos h0, if_pos h1]
theorem atI_lt {α : Type} {xs : List α} {i : Int} (h0 : 0 ≤ i) (h1 : i < xs.length) : ∃ x, atI xs i = some x ∧ x ∈ xs := by
  unfold L2.atI
  rw [ixN_lt h0 h1]
  have h : i.toNat < xs.length := by omega
  exact ⟨xs[i.toNat], List.getElem?_eq_getElem h, List.getElem_mem h⟩
theorem r__law_cell : ∀ ds m Qd Qx, F_law_cell ds m Qd Qx → w__law_cell { nx := fun _ m' => Qd .non m', rt := Qd } (ds.map some ++ List.replicate (2 - ds.length) none) m := by
  rintro ds m Qd Qx ⟨ns, k, rfl, h0, h1, h⟩
  show if decide (k < (ns.length : Int)) = true then _ else _
  refine ifb (fun e => ?_) (fun e => ?_)
  · obtain ⟨x, hx, _⟩ := atI_lt h0 (of_decide_eq_true e)
    exact ⟨x, hx, h x⟩
  · exact ⟨Or.inl (Or.inl ⟨by decide, by decide⟩), h _⟩
theorem r__law_box : ∀ ds m Qd Qx, F_law_box ds m Qd Qx → w__law_box { nx := fun _ m' => Qd .non m', rt := Qd } (ds.map some ++ List.replicate (1 - ds.length) none) m := by
  rintro ds m Qd Qx ⟨i, rfl, h⟩
  refine ⟨⟨by decide, by decide, by decide⟩, ?_⟩
  refine ⟨by decide, ?_⟩
  refine ⟨by show 3 ≤ sizeLine; rw [sizeLine_eq]; decide, fun p hp => ?_⟩
  refine h p _ hp ⟨_, _, _, rfl, ?_, Int.emod_nonneg _ (by decide), ?_, Int.le_refl _, Int.le_refl _⟩
  · show (0 : Int) ≤ if i - 10 ^ 18 > 0 then i - 10 ^ 18 else 0
    split <;> omega
  · have := Int.emod_lt_of_pos i (show (0 : Int) < 2147483629 by decide)
    omega
theorem div_ok {j : Int} (h0 : 0 < j) (h1 : j < 2 ^ 200) (i : Int) : CDivW i j := by
  refine wide_div (b := 200) h0 ?_ (by decide) (by decide)
  have : (j.natAbs : Int) = j := Int.natAbs_of_nonneg (Int.le_of_lt h0)
  have h2 : (j.natAbs : Int) < ((2 ^ 200 : Nat) : Int) := by rw [this]; exact_mod_cast h1
  exact_mod_cast h2
theorem Nx.mk_ {a : Addr} {k : Int} {m : Mem} {l l' : List D} (hm : m a = some l) (hb : Box l' k) : Nx a k m (m.up a l') :=
  ⟨fun b ds hb e => by rw [Mem.up_ne hb]; exact e, l', Mem.up_same, hb⟩
theorem r__law_take : ∀ ds m Qd Qx, F_law_take ds m Qd Qx → w__law_take { nx := fun _ m' => Qd .non m', rt := Qd } (ds.map some ++ List.replicate (4 - ds.length) none) m := by
  rintro ds m Qd Qx ⟨a, n, c, l, rfl, hm, ⟨x, y, z, rfl, hx, hy0, hy, hz0, hz⟩, hc, hn0, hn, h⟩
  refine ⟨_, _, hm, rfl, ?_⟩
  show if decide (0 < x) = true then _ else _
  refine ifb (fun e => ?_) (fun e => ?_)
  · refine ⟨_, _, hm, rfl, hn0, ?_⟩
    refine ⟨_, _, hm, rfl, div_ok hn0 hn x, ?_⟩
    refine ⟨_, 0, hm, rfl, ?_⟩
    refine h _ _ (Int.emod_nonneg _ (by omega)) (Int.emod_lt_of_pos _ hn0) (Nx.mk_ hm ⟨x / n, y, z, rfl, Int.ediv_nonneg hx (by omega), hy0, hy, hz0, by omega⟩)
  · refine ⟨_, _, hm, rfl, ?_⟩
    refine ⟨_, 2, hm, rfl, ?_⟩
    refine ⟨_, _, Mem.up_same, rfl, ?_⟩
    refine ⟨_, _, Mem.up_same, rfl, ?_⟩
    refine ⟨Or.inl (Or.inl ⟨by decide, by decide⟩), ?_⟩
    refine ⟨⟨by decide, by decide, by omega⟩, ?_⟩
    refine ⟨by decide, ?_⟩
    have q0 := Int.emod_nonneg ((y + 15489823 * (z + 1) + 1801) ^ Int.toNat 5) (show (2147483647 : Int) ≠ 0 by decide)
    have q1 := Int.emod_lt_of_pos ((y + 15489823 * (z + 1) + 1801) ^ Int.toNat 5) (show (0 : Int) < 2147483647 by decide)
    generalize (y + 15489823 * (z + 1) + 1801) ^ Int.toNat 5 % 2147483647 = v at q0 q1 ⊢
    refine ⟨_, _, Mem.up_same, rfl, ?_⟩
    refine ⟨Or.inl (Or.inl ⟨by decide, by decide⟩), ?_⟩
    refine ⟨⟨by decide, by decide, by omega⟩, ?_⟩
    refine ⟨by decide, ?_⟩
    refine ⟨wide_div (b := 10) (by decide) (by decide) (by decide) (by decide), ?_⟩
    refine ⟨hn0, ?_⟩
    exact h _ _ (Int.emod_nonneg _ (by omega)) (Int.emod_lt_of_pos _ hn0) (Nx.mk_ hm ⟨x, y, z + 1, rfl, hx, hy0, hy, by omega, by omega⟩)
/-! the law's look at signs -/
abbrev alpha : List Nat := (Str.ofString "abcdefghijklmnopqrstuvwxyz").cps.toList
theorem alpha_eq : alpha = [97, 98, 99, 100, 101, 102, 103, 104, 105, 106, 107, 108, 109, 110, 111, 112, 113, 114, 115, 116, 117, 118, 119, 120, 121, 122] := by decide +kernel
theorem lt_one (a b : Nat) : ([a] < [b]) ↔ a < b := by
  rw [List.cons_lt_cons_iff]
  constructor
  · rintro (h | ⟨_, h⟩)
    · exact h
    · cases h
  · exact Or.inl
theorem letS_one (c : Nat) : letS ⟨#[c]⟩ = decide (c ∈ alpha) := by
  rw [Bool.eq_iff_iff, decide_eq_true_iff, alpha_eq]
  unfold letS
  have e1 : decide ((⟨#[c]⟩ : Str).length = 1) = true := by
    rw [decide_eq_true_iff]; rfl
  rw [e1, Bool.true_and, Bool.and_eq_true, Bool.not_eq_true', Bool.not_eq_true', decide_eq_false_iff_not, decide_eq_false_iff_not]
  show (¬ [c] < [97] ∧ ¬ [122] < [c]) ↔ _
  rw [lt_one, lt_one]
  simp only [List.mem_cons, List.not_mem_nil, or_false]
  omega
theorem letters_small (z : Str) : letters z = small z := by
  unfold letters small
  congr 1
  funext c
  exact letS_one c
theorem r__law_is_small : ∀ ds m Qd Qx, F_law_is_small ds m Qd Qx → w__law_is_small { nx := fun _ m' => Qd .non m', rt := Qd } (ds.map some ++ List.replicate (4 - ds.length) none) m := by
  rintro ds m Qd Qx ⟨x, lo, hi, rfl, ⟨n, hx⟩, h⟩
  unfold w__law_is_small
  walk_at "wg"
  refine isi_str hx ?_
  cases x with
  | str z =>
    have h : Qd (.bl ((decide (lo ≤ z.length) && decide ((z.length : Int) ≤ hi)) && small z)) m := h
    obtain ⟨h1, h2⟩ := okD.str hx
    show if (!true) = true then _ else _
    walk_at "wg"
    refine ⟨small_line (by omega), ?_⟩
    show if decide (lo ≤ (z.length : Int)) = true then _ else _
    cases e : decide (lo ≤ (z.length : Int)) with
    | false => rw [e] at h; exact h
    | true =>
      rw [e, Bool.true_and] at h
      rw [if_pos rfl]
      show if (!decide ((z.length : Int) ≤ hi)) = true then _ else _
      cases e2 : decide ((z.length : Int) ≤ hi) with
      | false => rw [e2] at h; exact h
      | true =>
        rw [e2, Bool.true_and] at h
        show (signs z).length ≤ 1000000 ∧ _
        refine ⟨by rw [signs_len]; omega, ?_⟩
        refine lc_pure (fun d => match d with | .str y => !(y.cps.toList.all fun c => decide (c ∈ alpha)) | _ => false) (fun d => d) _ _ _ ?_ (fun d hd _ Q q => q) ?_
        · intro d hd Q q
          obtain ⟨c, rfl, hc, _⟩ := sign_ok h2 hd
          walk_at "wg"
          refine ⟨c, rfl, ?_⟩
          have e : (decide (c ∈ alpha) ^^ true) = !((#[c] : Array Nat).toList.all fun c => decide (c ∈ alpha)) := by
            show (decide (c ∈ alpha) ^^ true) = !(decide (c ∈ alpha) && true)
            rw [Bool.and_true, Bool.xor_true]
          exact e ▸ q
        · rw [List.nil_append, List.map_id']
          refine ⟨Nat.zero_le _, rfl, Or.inl ⟨_, rfl, ?_⟩⟩
          rw [Bool.xor_false]
          have e2 : (List.filter (fun d => match d with | .str y => !(y.cps.toList.all fun c => decide (c ∈ alpha)) | _ => false) (signs z)).isEmpty = small z := by
            unfold small signs
            rw [List.filter_map, List.isEmpty_map]
            rw [Bool.eq_iff_iff, List.isEmpty_iff, List.filter_eq_nil_iff, List.all_eq_true]
            simp
          rw [e2]
          exact h
  | _ => exact h
theorem r__law_is_cost : ∀ ds m Qd Qx, F_law_is_cost ds m Qd Qx → w__law_is_cost { nx := fun _ m' => Qd .non m', rt := Qd } (ds.map some ++ List.replicate (2 - ds.length) none) m := by
  rintro ds m Qd Qx ⟨nm, x, ns, rfl, hl, hs, ⟨n, hx⟩, h⟩
  unfold w__law_is_cost
  walk_at "wg"
  refine isi_str hx ?_
  unfold costB at h
  cases e : strB x with
  | false => rw [e] at h; exact h
  | true =>
    rw [e, Bool.true_and] at h
    have fx : flatD x = true := by cases x <;> first | rfl | cases e
    walk_at "wg"
    exact in_list hl fx (flat_strs hs) h
/-! the law's look at costs -/
theorem name_small {x : D} : smallB x 1 8 = isName x := by
  cases x <;> first | rfl | skip
  rename_i z
  show ((decide ((1 : Int) ≤ z.length) && decide ((z.length : Int) ≤ 8)) && small z) = (letters z && (decide (1 ≤ z.length) && decide (z.length ≤ 8)))
  rw [dec_le (i := 1) (j := (z.length : Nat)) (a := 1) (b := z.length) rfl rfl, dec_le (i := (z.length : Nat)) (j := 8) (a := z.length) (b := 8) rfl rfl, letters_small, Bool.and_comm]
abbrev dueBody : WS := sSeq (sIf (tvNot (wTest (wCall F_law_is_small (wCons (wVar 2) (wCons (wC (.int 1)) (wCons (wC (.int 8)) wNil)))))) (sRet (wLst (wCons (wC (.str (Str.ofString "name"))) (wCons (wVar 2) wNil)))) sNext) (sIf (wTest (wOp dIn (wVar 2) (wSl (wVar 0) wNoPart (wPart (wVar 1))))) (sRet (wLst (wCons (wC (.str (Str.ofString "twice"))) (wCons (wVar 2) wNil)))) sNext)
theorem due_loop {c : D} {m : Mem} {E : De} {n : Nat} : ∀ (xs pre : List D) (o1 o2 : Option D), listB c = some (pre ++ xs) → (∀ d ∈ xs, okD d n = true) → (∀ d ∈ pre, isName d = true) →
    (match dueNames pre xs with
      | none => ∀ o1 o2, E.nx [some c, o1, o2] m
      | some f => E.rt (.lst f.told) m) → wLoop (gvTup 2 (gvCons (gvName 1) (gvCons (gvName 2) gvNil))) dueBody E (enumF pre.length xs) [some c, o1, o2] m
  | [], pre, o1, o2, _, _, _, h => h o1 o2
  | x :: xs, pre, o1, o2, hl, hx, hp, h => by
    refine ⟨rfl, _, _, rfl, _, _, rfl, rfl, ?_⟩
    unfold dueBody
    walk_at "wg"
    refine ⟨x, 1, 8, rfl, ⟨n, hx x List.mem_cons_self⟩, ?_⟩
    rw [name_small]
    unfold dueNames at h
    cases e : isName x with
    | false =>
      rw [e] at h
      exact ⟨small_line (by decide), h⟩
    | true =>
      rw [if_pos e] at h
      walk_at "wg"
      refine ok_flat_in hl e hp ?_
      cases e2 : inD x pre with
      | true =>
        rw [if_pos e2] at h
        exact ⟨small_line (by decide), h⟩
      | false =>
        rw [if_neg (by rw [e2]; exact Bool.false_ne_true)] at h
        have len : pre.length + 1 = (pre ++ [x]).length := by rw [List.length_append]; rfl
        show wLoop _ _ E (enumF (pre.length + 1) xs) _ m
        rw [len]
        refine due_loop xs (pre ++ [x]) _ _ (by rw [List.append_assoc]; exact hl) (fun d hd => hx d (List.mem_cons_of_mem _ hd)) ?_ h
        intro d hd
        rcases List.mem_append.mp hd with hd | hd
        · exact hp d hd
        · rw [List.mem_singleton] at hd; subst hd; exact e
theorem isL_lt {x : D} {n : Nat} {m : Mem} {Q : Bool → Prop} (hx : okD x n = true) (q : Q (isL x)) : typedM m x = true ∧ ∃ b, isaL x ["list", "tuple"] = some b ∧ Q b := ⟨typedM_of (okD.ty hx), _, isaLT x, q⟩
theorem r__law_due_costs : ∀ ds m Qd Qx, F_law_due_costs ds m Qd Qx → w__law_due_costs { nx := fun _ m' => Qd .non m', rt := Qd } (ds.map some ++ List.replicate (3 - ds.length) none) m := by
  rintro ds m Qd Qx ⟨x, rfl, ⟨n, hx⟩, h⟩
  unfold w__law_due_costs
  walk_at "wg"
  refine ⟨typedM_of (okD.ty hx), _, isaLT x, ?_⟩
  cases hl : listB x with
  | none =>
    rw [no_list hl hx]
    unfold dueCosts at h
    rw [hl] at h
    exact ⟨small_line (by decide), h⟩
  | some ds =>
    rw [listB_isL hl]
    have h : Qd (.lst (some_ (if 1 ≤ ds.length ∧ ds.length ≤ 4 then dueNames [] ds else some (Fl.part x)))) m := by
      unfold dueCosts at h
      rw [hl] at h
      exact h
    walk_at "wg"
    refine len_list hl ?_
    show if decide ((1 : Int) ≤ (ds.length : Nat)) = true then _ else _
    rw [dec_le (i := 1) (j := (ds.length : Nat)) (a := 1) (b := ds.length) rfl rfl]
    by_cases c1 : 1 ≤ ds.length
    · rw [if_pos (decide_eq_true c1)]
      show if (!decide (((ds.length : Nat) : Int) ≤ 4)) = true then _ else _
      rw [dec_le (i := (ds.length : Nat)) (j := 4) (a := ds.length) (b := 4) rfl rfl]
      by_cases c2 : ds.length ≤ 4
      · rw [if_pos ⟨c1, c2⟩] at h
        rw [decide_eq_true c2]
        obtain ⟨k, hk⟩ := okD.items hx hl
        have fin : wLoop (gvTup 2 (gvCons (gvName 1) (gvCons (gvName 2) gvNil))) dueBody { nx := fun ρ' m' => wLst wNil ρ' m' Qd (fun _ _ => False), rt := Qd } (enumD ds) [some x, none, none] m := by
          rw [enumF_eq]
          refine due_loop (n := k) ds [] none none hl hk (fun d hd => nomatch hd) ?_
          revert h
          cases dueNames [] ds with
          | none => intro h _ _; exact ⟨Nat.zero_le _, h⟩
          | some f => exact fun h => h
        rcases listB_cases hl with rfl | rfl <;> exact fin
      · rw [if_neg fun z => c2 z.2] at h
        rw [decide_eq_false c2]
        exact ⟨small_line (by decide), h⟩
    · rw [if_neg fun z => c1 z.1] at h
      rw [decide_eq_false c1]
      exact ⟨small_line (by decide), h⟩
end DL
namespace DL
open PySem L2 XO
local macro_rules | `(tactic| walk_at "wg") => `(tactic| simp only [a_test, a_op, a_var, a_c, a_call, a_callX, a_call0, a_nil, a_cons, a_bi, a_tnot, a_tor, a_tand, a_tru, a_yes, a_if, a_and, a_or, a_not, a_chain, a_sl, a_noPart, a_part, a_lst, a_tup, a_dct0, a_own, a_isT, a_next, a_seq, a_ret, a_drop, a_sif, a_set, a_raise, a_for, a_iVar, a_fld, a_lc, a_iEnumB, a_iEnumS, a_iSg, a_iLst, a_iTp, a_join, a_lenSet, a_append, a_put, a_par, a_unp, a_meth, a_make, a_rg1, a_gTup, a_gName, a_gNil, a_gCons, a_loopN, wipeD, List.map_cons, List.map_nil, List.length_cons, List.length_nil, List.cons_append, List.nil_append, List.replicate_succ, List.replicate_zero, List.append_nil, List.getElem?_cons_zero, List.getElem?_cons_succ, List.set_cons_zero, List.set_cons_succ, Nat.reduceAdd, Nat.reduceSub, Bool.not_true, Bool.not_false, reduceIte, Bool.false_eq_true, true_and])
/-! the law's look at groups -/
def scan (tk : List Nat) : List Nat → List Nat → Bool
  | _, [] => true
  | pre, x :: xs => if decide (x ∈ tk) || decide (x ∈ pre) then false else scan tk (pre ++ [x]) xs
theorem scan_eq (tk : List Nat) : ∀ (xs pre : List Nat), pre.Nodup → scan tk pre xs = (decide (pre ++ xs).Nodup && !(xs.any fun k => decide (k ∈ tk)))
  | [], pre, h => by
    rw [List.append_nil, decide_eq_true h]
    rfl
  | x :: xs, pre, h => by
    unfold scan
    by_cases c1 : x ∈ tk
    · rw [decide_eq_true c1, Bool.true_or, if_pos rfl, List.any_cons, decide_eq_true c1, Bool.true_or, Bool.not_true, Bool.and_false]
    · rw [decide_eq_false c1, Bool.false_or, List.any_cons, decide_eq_false c1, Bool.false_or]
      by_cases c2 : x ∈ pre
      · rw [decide_eq_true c2, if_pos rfl]
        have : ¬ (pre ++ x :: xs).Nodup := by
          intro hn
          rw [List.nodup_append] at hn
          exact hn.2.2 x c2 x List.mem_cons_self rfl
        rw [decide_eq_false this, Bool.false_and]
      · rw [decide_eq_false c2, if_neg Bool.false_ne_true]
        have hp : (pre ++ [x]).Nodup := by
          rw [List.nodup_append]
          refine ⟨h, by simp, fun a ha b hb e => ?_⟩
          rw [List.mem_singleton] at hb
          subst hb; subst e
          exact c2 ha
        rw [scan_eq tk xs (pre ++ [x]) hp, List.append_assoc]
        rfl
theorem cutS_pre {z : Str} {pre xs : List Nat} (h : z.cps.toList = pre ++ xs) : (cutS z none (some (pre.length : Int))).cps.toList = pre := by
  unfold cutS
  have hl : z.length = pre.length + xs.length := by
    show z.cps.size = _
    rw [← Array.length_toList, h, List.length_append]
  rw [HT.sIx_nat, HT.sIx_none, hl, Nat.min_eq_left (by omega), h]
  show ((pre ++ xs).drop 0).take (pre.length - 0) = pre
  rw [List.drop_zero, Nat.sub_zero, List.take_left']
  rfl
abbrev scanBody : WS := sIf (tvOr (wTest (wOp dIn (wVar 5) (wVar 2))) (wTest (wOp dIn (wVar 5) (wSl (wOp dIx (wVar 3) (wC (.int 0))) wNoPart (wPart (wVar 4)))))) (sRet (wLst (wCons (wC (.str (Str.ofString "group"))) (wCons (wVar 3) wNil)))) sNext
theorem scan_loop {nm s g c : D} {tk z : Str} {m : Mem} {E : De} (hg : listB g = some [.str z, c]) (hz : z.length ≤ 20) : ∀ (xs pre : List Nat) (o4 o5 : Option D), z.cps.toList = pre ++ xs →
    (if scan tk.cps.toList pre xs = true then ∀ o4 o5, E.nx [some nm, some s, some (.str tk), some g, o4, o5] m else E.rt (.lst (Fl.group g).told) m) →
    wLoop (gvTup 2 (gvCons (gvName 4) (gvCons (gvName 5) gvNil))) scanBody E (enumF pre.length (xs.map fun c => D.str ⟨#[c]⟩)) [some nm, some s, some (.str tk), some g, o4, o5] m
  | [], pre, o4, o5, _, h => by
    unfold scan at h
    exact h o4 o5
  | x :: xs, pre, o4, o5, hl, h => by
    refine ⟨rfl, _, _, rfl, _, _, rfl, rfl, ?_⟩
    unfold scanBody
    walk_at "wg"
    refine ⟨x, rfl, ?_⟩
    rw [Bool.xor_false]
    unfold scan at h
    cases e1 : decide (x ∈ tk.cps.toList) with
    | true =>
      rw [e1, Bool.true_or] at h
      exact ⟨small_line (by decide), h⟩
    | false =>
      rw [e1, Bool.false_or] at h
      walk_at "wg"
      refine ix_list hg atI_zero ?_
      refine ⟨small_line (by omega), ?_⟩
      refine ⟨x, rfl, ?_⟩
      rw [Bool.xor_false, cutS_pre hl]
      cases e2 : decide (x ∈ pre) with
      | true =>
        rw [e2] at h
        exact ⟨small_line (by decide), h⟩
      | false =>
        rw [e2] at h
        have len : pre.length + 1 = (pre ++ [x]).length := by rw [List.length_append]; rfl
        show wLoop _ _ E (enumF (pre.length + 1) (xs.map fun c => D.str ⟨#[c]⟩)) _ m
        rw [len]
        exact scan_loop hg hz xs (pre ++ [x]) _ _ (by rw [List.append_assoc]; exact hl) h
abbrev setsBody : WS := sSeq (sIf (tvOr (tvNot (wTest (wIsiT (wVar 3) ["list", "tuple"]))) (tvOr (wTest (wOp dNe (wBi dLen (wCons (wVar 3) wNil)) (wC (.int 2)))) (tvNot (wTest (wCall F_law_is_small (wCons (wOp dIx (wVar 3) (wC (.int 0))) (wCons (wC (.int 2)) (wCons (wC (.int 26)) wNil)))))))) (sRet (wLst (wCons (wC (.str (Str.ofString "group"))) (wCons (wVar 3) wNil)))) sNext) (sSeq (sFor (iEnumS (wCons (wOp dIx (wVar 3) (wC (.int 0))) wNil)) (gvTup 2 (gvCons (gvName 4) (gvCons (gvName 5) gvNil))) scanBody) (sSeq (sIf (tvNot (wTest (wCall F_law_is_cost (wCons (wVar 0) (wCons (wOp dIx (wVar 3) (wC (.int 1))) wNil))))) (sRet (wLst (wCons (wC (.str (Str.ofString "cost"))) (wCons (wOp dIx (wVar 3) (wC (.int 1))) wNil)))) sNext) (sSet 2 (wOp dAdd (wVar 2) (wOp dIx (wVar 3) (wC (.int 0)))))))
theorem grp_small {z : Str} {c : D} (hz : z.length ≤ 20) : grpL [.str z, c] = if (smallB (.str z) 2 26 && decide z.cps.toList.Nodup) = true then some (z, c) else none := by
  show (if (letters z && (decide (2 ≤ z.length) && decide z.cps.toList.Nodup)) = true then some (z, c) else none) = _
  have e : smallB (.str z) 2 26 = (decide (2 ≤ z.length) && letters z) := by
    show ((decide ((2 : Int) ≤ z.length) && decide ((z.length : Int) ≤ 26)) && small z) = _
    rw [dec_le (i := 2) (j := (z.length : Nat)) (a := 2) (b := z.length) rfl rfl, decide_eq_true (show (z.length : Int) ≤ 26 by omega), Bool.and_true, letters_small]
  rw [e]
  congr 1
  cases letters z <;> cases decide (2 ≤ z.length) <;> cases decide z.cps.toList.Nodup <;> rfl
theorem sets_loop {nm s : D} {ns : List D} {m : Mem} {E : De} {n : Nat} (hnl : listB nm = some ns) (hs : ns.all strB = true) : ∀ (gs : List D) (tk : Str) (o3 o4 o5 : Option D), (∀ d ∈ gs, okD d n = true) →
    tk.length + 20 * gs.length ≤ 2000000 →
    (match dueGroups ns tk.cps.toList gs with
      | none => ∀ tk o3 o4 o5, E.nx [some nm, some s, some (.str tk), o3, o4, o5] m
      | some f => E.rt (.lst f.told) m) → wLoop (gvName 3) setsBody E gs [some nm, some s, some (.str tk), o3, o4, o5] m
  | [], tk, o3, o4, o5, _, _, h => h tk o3 o4 o5
  | g :: gs, tk, o3, o4, o5, hx, hb1, h => by
    rw [a_loopC]
    unfold setsBody
    walk_at "wg"
    refine ⟨typedM_of (okD.ty (hx g List.mem_cons_self)), _, isaLT g, ?_⟩
    rw [List.length_cons] at hb1
    have hok := hx g List.mem_cons_self
    have none_ : grpB g = none → E.rt (.lst (Fl.group g).told) m := by
      intro e
      unfold dueGroups at h
      rw [e] at h
      exact h
    cases hl : listB g with
    | none =>
      rw [no_list hl hok]
      refine ⟨small_line (by decide), none_ ?_⟩
      unfold grpB
      rw [hl]
    | some ds =>
      rw [listB_isL hl]
      obtain ⟨k, hk⟩ := okD.items hok hl
      have hgl : grpB g = grpL ds := by unfold grpB; rw [hl]
      walk_at "wg"
      refine len_list hl ?_
      refine dNe_int ?_
      rw [dec_eq (i := (ds.length : Nat)) (j := 2) (a := ds.length) (b := 2) rfl rfl]
      by_cases c : ds.length = 2
      · obtain ⟨u, v, rfl⟩ := two_of c
        rw [decide_eq_true c]
        walk_at "wg"
        refine ix_list hl atI_zero ?_
        refine ⟨u, 2, 26, rfl, ⟨k, hk u List.mem_cons_self⟩, ?_⟩
        cases u with
        | str z =>
          have hz := okD.str (hk _ List.mem_cons_self)
          rw [grp_small hz.1] at hgl
          cases e : smallB (.str z) 2 26 with
          | false =>
            rw [e] at hgl
            exact ⟨small_line (by decide), none_ hgl⟩
          | true =>
            rw [e, Bool.true_and] at hgl
            walk_at "wg"
            refine ix_list hl atI_zero ?_
            have sc := scan_eq tk.cps.toList z.cps.toList [] List.nodup_nil
            rw [List.nil_append] at sc
            show wLoop _ _ _ (enumD (signs z)) _ m
            rw [enumF_eq]
            refine scan_loop (tk := tk) (c := v) hl hz.1 z.cps.toList [] _ _ (by rw [List.nil_append]) ?_
            rw [sc]
            cases e1 : decide z.cps.toList.Nodup with
            | false =>
              rw [e1] at hgl
              exact none_ hgl
            | true =>
              rw [e1, if_pos rfl] at hgl
              have h : (match (if (z.cps.toList.any fun k => decide (k ∈ tk.cps.toList)) = true then some (Fl.group g) else if costB ns v = true then dueGroups ns (tk.cps.toList ++ z.cps.toList) gs else some (Fl.cost v)) with
                | none => ∀ tk o3 o4 o5, E.nx [some nm, some s, some (.str tk), o3, o4, o5] m
                | some f => E.rt (.lst f.told) m) := by
                unfold dueGroups at h
                rw [hgl] at h
                exact h
              cases e2 : (z.cps.toList.any fun k => decide (k ∈ tk.cps.toList)) with
              | true =>
                rw [e2, if_pos rfl] at h
                exact h
              | false =>
                rw [e2, if_neg Bool.false_ne_true] at h
                rw [show (true && !false) = true from rfl, if_pos rfl]
                intro o4 o5
                walk_at "wg"
                refine ix_list hl atI_one ?_
                refine ⟨nm, v, ns, rfl, hnl, hs, ⟨k, hk v (by simp)⟩, ?_⟩
                cases e3 : costB ns v with
                | false =>
                  rw [e3] at h
                  walk_at "wg"
                  refine ix_list hl atI_one ?_
                  exact ⟨small_line (by decide), h⟩
                | true =>
                  rw [e3, if_pos rfl] at h
                  walk_at "wg"
                  refine ix_list hl atI_zero ?_
                  refine ⟨Nat.le_trans (show tk.length + z.length ≤ 2000000 by omega) (by rw [sizeLine_eq]; decide), ?_⟩
                  have ez : (tk ++ z).cps.toList = tk.cps.toList ++ z.cps.toList := by
                    show (tk.cps ++ z.cps).toList = _
                    rw [Array.toList_append]
                  have lz : (tk ++ z).length = tk.length + z.length := by
                    show (tk.cps ++ z.cps).size = _
                    rw [Array.size_append]; rfl
                  refine sets_loop hnl hs gs (tk ++ z) _ _ _ (fun d hd => hx d (List.mem_cons_of_mem _ hd)) (by rw [lz]; omega) ?_
                  rw [ez]
                  exact h
        | _ => exact ⟨small_line (by decide), none_ (by rw [hgl]; rfl)⟩
      · rw [decide_eq_false c]
        exact ⟨small_line (by decide), none_ (by rw [hgl, grpL_ne c])⟩
theorem r__law_due_groups : ∀ ds m Qd Qx, F_law_due_groups ds m Qd Qx → w__law_due_groups { nx := fun _ m' => Qd .non m', rt := Qd } (ds.map some ++ List.replicate (6 - ds.length) none) m := by
  rintro ds m Qd Qx ⟨nm, s, ns, rfl, hl, hs, ⟨n, hx⟩, h⟩
  unfold w__law_due_groups
  walk_at "wg"
  refine ⟨typedM_of (okD.ty hx), _, isaLT s, ?_⟩
  cases hsl : listB s with
  | none =>
    rw [no_list hsl hx]
    unfold dueSets at h
    rw [hsl] at h
    exact ⟨small_line (by decide), h⟩
  | some gs =>
    rw [listB_isL hsl]
    have h : Qd (.lst (some_ (dueGroups ns [] gs))) m := by
      unfold dueSets at h
      rw [hsl] at h
      exact h
    walk_at "wg"
    obtain ⟨k, hk⟩ := okD.items hx hsl
    have hlen := okD.len hx hsl
    have fin : wLoop (gvName 3) setsBody { nx := fun ρ' m' => wLst wNil ρ' m' Qd (fun _ _ => False), rt := Qd } gs [some nm, some s, some (.str (Str.ofString "")), none, none, none] m := by
      refine sets_loop (n := k) hl hs gs _ _ _ _ hk ?_ ?_
      · have : (Str.ofString "").length = 0 := by decide
        omega
      · have e0 : (Str.ofString "").cps.toList = [] := by decide
        rw [e0]
        revert h
        cases dueGroups ns [] gs with
        | none => intro h _ _ _ _; exact ⟨Nat.zero_le _, h⟩
        | some f => exact fun h => h
    rcases listB_cases hsl with rfl | rfl <;> exact fin
end DL
namespace DL
open PySem L2 XO
local macro_rules | `(tactic| walk_at "wg") => `(tactic| simp only [a_test, a_op, a_var, a_c, a_call, a_callX, a_call0, a_nil, a_cons, a_bi, a_tnot, a_tor, a_tand, a_tru, a_yes, a_if, a_and, a_or, a_not, a_chain, a_sl, a_noPart, a_part, a_lst, a_tup, a_dct0, a_own, a_isT, a_next, a_seq, a_ret, a_drop, a_sif, a_set, a_raise, a_for, a_iVar, a_fld, a_lc, a_iEnumB, a_iEnumS, a_iSg, a_iLst, a_iTp, a_join, a_lenSet, a_append, a_put, a_par, a_unp, a_meth, a_make, a_rg1, a_gTup, a_gName, a_gNil, a_gCons, a_loopN, wipeD, List.map_cons, List.map_nil, List.length_cons, List.length_nil, List.cons_append, List.nil_append, List.replicate_succ, List.replicate_zero, List.append_nil, List.getElem?_cons_zero, List.getElem?_cons_succ, List.set_cons_zero, List.set_cons_succ, Nat.reduceAdd, Nat.reduceSub, Bool.not_true, Bool.not_false, reduceIte, Bool.false_eq_true, true_and])
/-! what is due, what is told -/
theorem items_cases {m : Mem} {x : D} {ds : List D} (h : itemsD m x = some ds) : x = .lst ds ∨ x = .tup ds ∨ ∃ a, x = .box a ∧ m a = some ds := by
  cases x <;> first | (cases h; exact Or.inl rfl) | (cases h; exact Or.inr (Or.inl rfl)) | exact Or.inr (Or.inr ⟨_, rfl, h⟩) | cases h
theorem nil_lst {ds : List D} {neg : Bool} {m : Mem} {Q : D → Mem → Prop} (q : Q (.bl (ds.isEmpty ^^ neg)) m) : dNilB neg (.lst ds) (.lst []) m Q := ⟨rfl, Or.inl ⟨ds, rfl, q⟩⟩
theorem told_some (f : Fl) : f.told.isEmpty = false := by cases f <;> rfl
theorem first_loop {nm : D} {ns : List D} {m : Mem} {E : De} {v0 v2 v3 v4 v5 v6 v7 : D} (hnl : listB nm = some ns) (hs : ns.all strB = true) : ∀ (xs : List D) (o8 : Option D), (∀ x ∈ xs, ∃ n, okD x n = true) →
    (match dueFirst ns xs with
      | none => ∀ o8, E.nx [some v0, some nm, some v2, some v3, some v4, some v5, some v6, some v7, o8] m
      | some f => E.rt (.lst f.told) m) → wLoop (gvName 8) (sIf (tvNot (wTest (wCall F_law_is_cost (wCons (wVar 1) (wCons (wVar 8) wNil))))) (sRet (wLst (wCons (wC (.str (Str.ofString "cost"))) (wCons (wVar 8) wNil)))) sNext) E xs [some v0, some nm, some v2, some v3, some v4, some v5, some v6, some v7, o8] m
  | [], o8, _, h => h o8
  | x :: xs, o8, hx, h => by
    rw [a_loopC]
    walk_at "wg"
    refine ⟨nm, x, ns, rfl, hnl, hs, hx x List.mem_cons_self, ?_⟩
    unfold dueFirst at h
    cases e : costB ns x with
    | true =>
      rw [e, if_pos rfl] at h
      exact first_loop hnl hs xs _ (fun y hy => hx y (List.mem_cons_of_mem _ hy)) h
    | false =>
      rw [e] at h
      exact ⟨small_line (by decide), h⟩
theorem r__law_due : ∀ ds m Qd Qx, F_law_due ds m Qd Qx → w__law_due { nx := fun _ m' => Qd .non m', rt := Qd } (ds.map some ++ List.replicate (9 - ds.length) none) m := by
  rintro ds m Qd Qx ⟨x, c, p, mi, ch, s, a, rfl, hi, hx, h⟩
  unfold w__law_due
  walk_at "wg"
  refine ⟨_, items_cases hi, rfl, ?_⟩
  walk_at "wg"
  refine ⟨c, rfl, hx c (by simp), ?_⟩
  unfold due at h
  cases hc : dueCosts c with
  | some f =>
    rw [hc] at h
    refine ⟨Nat.zero_le _, ?_⟩
    refine nil_lst ?_
    rw [show (some_ (some f)).isEmpty = false from told_some f]
    exact h
  | none =>
    rw [hc] at h
    have h : Qd (.lst (told (andThen (dueFirst (itemsOr c) [p, mi, ch]) (andThen (dueSets (itemsOr c) s) (dueTurn (itemsOr c) a))))) m := h
    obtain ⟨ns, hl, hs⟩ := costs_none hc
    have hi : itemsOr c = ns := by unfold itemsOr; rw [hl]; rfl
    rw [hi] at h
    refine ⟨Nat.zero_le _, ?_⟩
    refine nil_lst ?_
    show if (true ^^ true) = true then _ else _
    rw [show (true ^^ true) = false from rfl]
    walk_at "wg"
    refine ⟨small_line (by decide), ?_⟩
    refine first_loop hl hs [p, mi, ch] none (fun x hxx => hx x ?_) ?_
    · simp only [List.mem_cons, List.not_mem_nil, or_false] at hxx ⊢
      rcases hxx with rfl | rfl | rfl <;> simp
    cases h1 : dueFirst ns [p, mi, ch] with
    | some f =>
      rw [h1] at h
      exact h
    | none =>
      rw [h1] at h
      have h : Qd (.lst (told (andThen (dueSets ns s) (dueTurn ns a)))) m := h
      intro o8
      walk_at "wg"
      refine ⟨c, s, ns, rfl, hl, hs, hx s (by simp), ?_⟩
      refine ⟨Nat.zero_le _, ?_⟩
      refine nil_lst ?_
      cases h2 : dueSets ns s with
      | some f =>
        rw [h2] at h
        rw [show (some_ (some f)).isEmpty = false from told_some f]
        exact h
      | none =>
        rw [h2] at h
        have h : Qd (.lst (told (dueTurn ns a))) m := h
        show if (true ^^ true) = true then _ else _
        rw [show (true ^^ true) = false from rfl]
        walk_at "wg"
        unfold dueTurn at h
        show if (isNonD a ^^ false) = true then _ else _
        rw [Bool.xor_false]
        cases e : isNonD a with
        | true =>
          rw [e, Bool.true_or, if_pos rfl] at h
          exact ⟨small_line (by decide), h⟩
        | false =>
          rw [e, Bool.false_or] at h
          walk_at "wg"
          refine ⟨c, a, ns, rfl, hl, hs, hx a (by simp), ?_⟩
          cases e2 : costB ns a with
          | true => rw [e2] at h; exact ⟨small_line (by decide), h⟩
          | false => rw [e2] at h; exact ⟨small_line (by decide), h⟩
theorem told_catch {f : Fl} {m : Mem} {Q : D → Mem → Prop} (h : Q (.lst f.told) m) : ∃ c ∈ ([("InvalidPart", "value", "part"), ("InvalidName", "value", "name"), ("Duplicate", "label", "twice"), ("UnknownCost", "label", "cost"), ("InvalidGroup", "value", "group")] : List Cl), c.1 = f.xn.cls ∧ c.2.1 = f.xn.fld ∧ Q (.lst [.str c.2.2, f.xn.val]) m := by
  cases f with
  | part x => exact ⟨("InvalidPart", "value", "part"), by simp, rfl, rfl, h⟩
  | name x => exact ⟨("InvalidName", "value", "name"), by simp, rfl, rfl, h⟩
  | twice x => exact ⟨("Duplicate", "label", "twice"), by simp, rfl, rfl, h⟩
  | cost x => exact ⟨("UnknownCost", "label", "cost"), by simp, rfl, rfl, h⟩
  | group x => exact ⟨("InvalidGroup", "value", "group"), by simp, rfl, rfl, h⟩
theorem a_trys {cs : List Cl} {wb : WS} {E : De} {ρ : En0} {m : Mem} : sTrys cs wb E ρ m = wb { nx := E.nx, rt := E.rt, bk := E.bk, ct := E.ct, ex := fun xx m' => ∃ c ∈ cs, c.1 = xx.cls ∧ c.2.1 = xx.fld ∧ E.rt (.lst [.str c.2.2, xx.val]) m' } ρ m := rfl
theorem r__law_told : ∀ ds m Qd Qx, F_law_told ds m Qd Qx → w__law_told { nx := fun _ m' => Qd .non m', rt := Qd } (ds.map some ++ List.replicate (8 - ds.length) none) m := by
  rintro ds m Qd Qx ⟨x, c, p, mi, ch, s, a, rfl, hi, h⟩
  unfold w__law_told
  walk_at "wg"
  refine ⟨_, items_cases hi, rfl, ?_⟩
  walk_at "wg"
  rw [a_trys]
  walk_at "wg"
  refine ⟨c, p, mi, ch, s, a, rfl, ?_⟩
  rcases h with ⟨hx, h⟩ | ⟨b, rfl, hm, h⟩ | ⟨b, l, e1, e2, e3, e4, e5, hm, hne, h⟩
  · refine Or.inl ⟨hx, fun m' hsub => ?_⟩
    have h := h m' hsub
    revert h
    cases due c p mi ch s a with
    | none => exact fun h ns gs hl => ⟨small_line (by decide), h⟩
    | some f => exact fun h => told_catch h
  · exact Or.inr (Or.inl ⟨b, rfl, hm, told_catch h⟩)
  · exact Or.inr (Or.inr ⟨b, l, e1, e2, e3, e4, e5, hm, hne, fun m' hsub => told_catch (h m' hsub)⟩)
end DL
namespace DL
open PySem L2 XO
local macro_rules | `(tactic| walk_at "wg") => `(tactic| try simp only [a_test, a_op, a_var, a_c, a_call, a_callX, a_call0, a_nil, a_cons, a_bi, a_tnot, a_tor, a_tand, a_tru, a_yes, a_if, a_and, a_or, a_not, a_chain, a_sl, a_noPart, a_part, a_lst, a_tup, a_dct0, a_own, a_isT, a_next, a_seq, a_ret, a_drop, a_sif, a_set, a_raise, a_for, a_iVar, a_fld, a_lc, a_iEnumB, a_iEnumS, a_iSg, a_iLst, a_iTp, a_join, a_lenSet, a_append, a_put, a_par, a_unp, a_meth, a_make, a_rg1, a_gTup, a_gName, a_gNil, a_gCons, a_loopN, wipeD, List.map_cons, List.map_nil, List.length_cons, List.length_nil, List.cons_append, List.nil_append, List.replicate_succ, List.replicate_zero, List.append_nil, List.getElem?_cons_zero, List.getElem?_cons_succ, List.set_cons_zero, List.set_cons_succ, Nat.reduceAdd, Nat.reduceSub, Bool.not_true, Bool.not_false, reduceIte, Bool.false_eq_true, true_and])
/-! drawing -/
theorem Nx.refl {b : Addr} {k : Int} {m : Mem} {l : List D} (h : m b = some l) (hb : Box l k) : Nx b k m m := ⟨fun _ _ _ e => e, l, h, hb⟩
theorem Nx.step {b : Addr} {k k' : Int} {m m1 m2 : Mem} (h : Nx b k m m1) (h' : Nx b k' m1 m2) : Nx b k' m m2 := ⟨fun x ds hx e => h'.1 x ds hx (h.1 x ds hx e), h'.2⟩
theorem Nx.isSome {b : Addr} {k : Int} {m m1 : Mem} (h : Nx b k m m1) {p : Addr} (hp : m1 p = none) : p ≠ b := by
  obtain ⟨l, e, _⟩ := h.2
  exact fun z => by subst z; rw [hp] at e; cases e
theorem Nx.up {b : Addr} {k : Int} {m m1 : Mem} (h : Nx b k m m1) {p : Addr} (hm : m p = none) (hb : p ≠ b) (l : List D) : Nx b k m (m1.up p l) := by
  refine ⟨fun x ds hx e => ?_, ?_⟩
  · have : x ≠ p := fun z => by subst z; rw [hm] at e; cases e
    rw [Mem.up_ne this]
    exact h.1 x ds hx e
  · obtain ⟨l', e, q⟩ := h.2
    exact ⟨l', by rw [Mem.up_ne (Ne.symm hb)]; exact e, q⟩
theorem Nx.new {b : Addr} {k : Int} {m m1 : Mem} (h : Nx b k m m1) {p : Addr} (hp : m1 p = none) (l : List D) : Nx b k m (m1.up p l) := by
  have hb := h.isSome hp
  refine h.up ?_ hb l
  cases e : m p with
  | none => rfl
  | some ds => rw [h.1 p ds hb e] at hp; cases hp
theorem Nx.le {b : Addr} {k k' : Int} {m m1 : Mem} (h : Nx b k m m1) (hk : k ≤ k') : Nx b k' m m1 := by
  obtain ⟨h1, l, e, x, y, z, q1, q2, q3, q4, q5, q6⟩ := h
  exact ⟨h1, l, e, x, y, z, q1, q2, q3, q4, q5, by omega⟩
theorem take_ok {b : Addr} {n k : Int} {m m1 : Mem} {Q : D → Mem → Prop} {Qx : XQ} (h : Nx b k m m1) (hk : k ≤ 1000000) (h0 : 0 < n) (h1 : n < 2 ^ 200) (q : ∀ d m2, 0 ≤ d → d < n → Nx b (k + 1) m m2 → Nx b (k + 1) m1 m2 → Q (.int d) m2) : F_law_take [.box b, .int n] m1 Q Qx := by
  obtain ⟨l, e, hb⟩ := h.2
  exact ⟨b, n, k, l, rfl, e, hb, hk, h0, h1, fun d m2 a1 a2 hn => q d m2 a1 a2 (h.step hn) hn⟩
theorem add_int {i j : Int} {m : Mem} {Q : D → Mem → Prop} (q : Q (.int (i + j)) m) : dAdd (.int i) (.int j) m Q := q
theorem sl_lst {ds : List D} {lo hi : Option Int} {m : Mem} {Q : D → Mem → Prop} (q : Q (.lst (cutD ds lo hi)) m) : dSl (.lst ds) lo hi m Q := q
/-! costs of a model -/
structure Cs (cs : List D) : Prop where
  due : dueCosts (.lst cs) = none
  sb : cs.all strB = true
  oks : okA cs 0 = true
  low : 1 ≤ cs.length
  high : cs.length ≤ 4
theorem str_in {cs : List D} {e : D} (hs : cs.all strB = true) (he : e ∈ cs) : costB cs e = true := by
  rw [List.all_eq_true] at hs
  have h := hs e he
  unfold costB
  rw [h, Bool.true_and]
  unfold inD
  rw [List.any_eq_true]
  refine ⟨e, he, ?_⟩
  cases e <;> first | (cases h; done) | skip
  show (_ == _) = true
  exact beq_self_eq_true _
theorem wt_str {e : D} (h : strB e = true) : wtD e = 300 := by
  cases e <;> first | (cases h; done) | (simp only [wtD])
def gOk (z : Str) : Bool := letters z && (decide (2 ≤ z.length) && decide z.cps.toList.Nodup)
theorem dueGroups_ok {ns : List D} {tk : List Nat} {z : Str} {c : D} {gs : List D} (h1 : gOk z = true) (h2 : (z.cps.toList.any fun k => decide (k ∈ tk)) = false) (h3 : costB ns c = true) :
    dueGroups ns tk (.tup [.str z, c] :: gs) = dueGroups ns (tk ++ z.cps.toList) gs := by
  have e : grpB (.tup [.str z, c]) = some (z, c) := by
    show (if gOk z = true then some (z, c) else none) = _
    rw [if_pos h1]
  conv => lhs; unfold dueGroups
  rw [e]
  show (if (z.cps.toList.any fun k => decide (k ∈ tk)) = true then _ else _) = _
  rw [h2, if_neg Bool.false_ne_true, h3, if_pos rfl]
/-- groups that are good for the costs -/
structure Gs (cs : List D) (s : List D) : Prop where
  due : dueGroups cs [] s = none
  ok : okA s 1 = true
  wt : wtA s ≤ 2500
  len : s.length ≤ 4
theorem good_of {cs s : List D} {p mi ch a : D} (hc : Cs cs) (hs : Gs cs s) (h1 : p ∈ cs) (h2 : mi ∈ cs) (h3 : ch ∈ cs) (h4 : a = .non ∨ a ∈ cs) : Good [.lst cs, p, mi, ch, .lst s, a] := by
  have wtc : wtA cs ≤ 1300 := by
    have : ∀ l : List D, l.all strB = true → wtA l = 302 * l.length := by
      intro l
      induction l with
      | nil => intro _; simp [wtA]
      | cons x l ih =>
        intro h
        rw [List.all_cons, Bool.and_eq_true] at h
        simp only [wtA, ih h.2, wt_str h.1, List.length_cons]
        omega
    rw [this cs hc.sb]
    have := hc.high
    omega
  have okc : ∀ e ∈ cs, MO e := by
    intro e he
    refine ⟨okD.up (okA.mem hc.oks e he) (by omega), ?_⟩
    rw [wt_str (List.all_eq_true.mp hc.sb e he)]
    omega
  refine ⟨⟨_, _, _, _, _, _, rfl, ⟨?_, by simp only [wtD]; omega, ?_⟩, okc _ h1, okc _ h2, okc _ h3, ⟨?_, by have := hs.wt; simp only [wtD]; omega⟩, ?_⟩, _, _, _, _, _, _, rfl, ?_, rfl, rfl⟩
  · simp only [okD, Bool.and_eq_true, decide_eq_true_eq]
    exact ⟨by have := hc.high; omega, okA.up hc.oks (by omega)⟩
  · intro ds e d hd
    cases e
    rw [wt_str (List.all_eq_true.mp hc.sb d hd)]
    omega
  · simp only [okD, Bool.and_eq_true, decide_eq_true_eq]
    exact ⟨by have := hs.len; omega, okA.up hs.ok (by omega)⟩
  · rcases h4 with rfl | h4
    · exact ⟨by simp [okD], by simp only [wtD]; omega⟩
    · exact okc _ h4
  · unfold due
    rw [hc.due]
    have hi : itemsOr (.lst cs) = cs := rfl
    rw [hi]
    have e1 : dueFirst cs [p, mi, ch] = none := by
      unfold dueFirst
      rw [str_in hc.sb h1, if_pos rfl]
      unfold dueFirst
      rw [str_in hc.sb h2, if_pos rfl]
      unfold dueFirst
      rw [str_in hc.sb h3, if_pos rfl]
      rfl
    have e2 : dueSets cs (.lst s) = none := hs.due
    have e3 : dueTurn cs a = none := by
      unfold dueTurn
      rcases h4 with rfl | h4
      · rfl
      · rw [str_in hc.sb h4, Bool.or_true, if_pos rfl]
    rw [e1, e2, e3]
    rfl
theorem grp_wt {z : Str} {c : D} (h : strB c = true) : wtD (.tup [.str z, c]) = 614 := by
  simp only [wtD, wtA, wt_str h]
theorem grp_ok {z : Str} {c : D} {cs : List D} (hc : okA cs 0 = true) (he : c ∈ cs) (hz : z.length ≤ 20) (hk : PyData.strOk z = true) : okD (.tup [.str z, c]) 1 = true := by
  simp only [okD, okA, Bool.and_eq_true, decide_eq_true_eq]
  exact ⟨by simp, ⟨hz, hk⟩, okA.mem hc c he, trivial⟩
def gsOf (zs : List Str) (es : List D) : List D := (zs.zip es).map fun p => .tup [.str p.1, p.2]
theorem gs_due {cs : List D} (hc : Cs cs) : ∀ (zs : List Str) (es : List D) (tk : List Nat), (∀ e ∈ es, e ∈ cs) → zs.length = es.length → (zs.all gOk) = true → (tk ++ (zs.map fun z => z.cps.toList).flatten).Nodup → dueGroups cs tk (gsOf zs es) = none
  | [], _, tk, _, _, _, _ => rfl
  | z :: zs, [], tk, _, h, _, _ => by cases h
  | z :: zs, e :: es, tk, he, hl, hg, hn => by
    rw [List.all_cons, Bool.and_eq_true] at hg
    rw [List.map_cons, List.flatten_cons, ← List.append_assoc] at hn
    show dueGroups cs tk (.tup [.str z, e] :: gsOf zs es) = none
    rw [dueGroups_ok hg.1 ?_ (str_in hc.sb (he e List.mem_cons_self))]
    · exact gs_due hc zs es _ (fun x hx => he x (List.mem_cons_of_mem _ hx)) (by simpa using hl) hg.2 hn
    · rw [List.any_eq_false]
      intro k hk
      rw [decide_eq_true_eq]
      intro ht
      rw [List.append_assoc, List.nodup_append] at hn
      exact hn.2.2 k ht k (List.mem_append_left _ hk) rfl
theorem gs_of {cs : List D} (hc : Cs cs) (zs : List Str) (es : List D) (he : ∀ e ∈ es, e ∈ cs) (hl : zs.length = es.length) (hg : zs.all gOk = true) (hn : ((zs.map fun z => z.cps.toList).flatten).Nodup) (h4 : zs.length ≤ 4) (hz : (zs.all fun z => decide (z.length ≤ 20) && PyData.strOk z) = true) : Gs cs (gsOf zs es) := by
  have len : (gsOf zs es).length = zs.length := by unfold gsOf; rw [List.length_map, List.length_zip]; omega
  refine ⟨gs_due hc zs es [] he hl hg (by rw [List.nil_append]; exact hn), ?_, ?_, by omega⟩
  · refine okA.of fun d hd => ?_
    obtain ⟨p, hp, rfl⟩ := List.mem_map.mp hd
    obtain ⟨q1, q2⟩ := List.of_mem_zip hp
    have a := List.all_eq_true.mp hz _ q1
    rw [Bool.and_eq_true, decide_eq_true_eq] at a
    exact grp_ok hc.oks (he _ q2) a.1 a.2
  · have : ∀ l : List D, (∀ d ∈ l, wtD d = 614) → wtA l = 616 * l.length := by
      intro l
      induction l with
      | nil => intro _; simp [wtA]
      | cons x l ih =>
        intro h
        simp only [wtA, ih (fun d hd => h d (List.mem_cons_of_mem _ hd)), h x List.mem_cons_self, List.length_cons]
        omega
    rw [this _ fun d hd => ?_, len]
    · omega
    · obtain ⟨p, hp, rfl⟩ := List.mem_map.mp hd
      exact grp_wt (List.all_eq_true.mp hc.sb _ (he _ (List.of_mem_zip hp).2))
abbrev S (x : String) : D := .str (Str.ofString x)
def stock : List (List D) := [[S "c", S "cc", S "near", S "zzzzzzzz"], [S "b", S "a", S "ab", S "abc"], [S "add", S "drop", S "swap", S "turn"]]
def csB (cs : List D) : Bool := (dueCosts (.lst cs)).isNone && cs.all strB && okA cs 0 && decide (1 ≤ cs.length) && decide (cs.length ≤ 4)
theorem cs_of {cs : List D} (h : csB cs = true) : Cs cs := by
  unfold csB at h
  simp only [Bool.and_eq_true, decide_eq_true_eq, Option.isNone_iff_eq_none] at h
  exact ⟨h.1.1.1.1, h.1.1.1.2, h.1.1.2, h.1.2, h.2⟩
theorem cs_stock {i d : Int} (hi0 : 0 ≤ i) (hi : i < 3) (hd0 : 0 ≤ d) (hd : d < 4) : ∃ l, atI stock i = some l ∧ Cs (cutD l none (some (1 + d))) := by
  have hi : i = 0 ∨ i = 1 ∨ i = 2 := by omega
  have hd : d = 0 ∨ d = 1 ∨ d = 2 ∨ d = 3 := by omega
  rcases hi with rfl | rfl | rfl
  · refine ⟨[S "c", S "cc", S "near", S "zzzzzzzz"], rfl, cs_of ?_⟩
    rcases hd with rfl | rfl | rfl | rfl <;> decide +kernel
  · refine ⟨[S "b", S "a", S "ab", S "abc"], rfl, cs_of ?_⟩
    rcases hd with rfl | rfl | rfl | rfl <;> decide +kernel
  · refine ⟨[S "add", S "drop", S "swap", S "turn"], rfl, cs_of ?_⟩
    rcases hd with rfl | rfl | rfl | rfl <;> decide +kernel
theorem six {l : List D} (h : l.length = 6) : ∃ a b c d e f, l = [a, b, c, d, e, f] := by
  match l, h with
  | [a, b, c, d, e, f], _ => exact ⟨a, b, c, d, e, f, rfl⟩
end DL
namespace DL
open PySem L2 XO
local macro_rules | `(tactic| walk_at "wg") => `(tactic| ((try dsimp only); (try rw [a_hold]); (try simp only [List.map_cons, List.map_nil, List.length_cons, List.length_nil, List.cons_append, List.nil_append, List.replicate_succ, List.replicate_zero, Nat.reduceAdd, Nat.reduceSub]); (try simp only [↓a_test, ↓a_v0, ↓a_s0, ↓a_g0, ↓a_v1, ↓a_s1, ↓a_g1, ↓a_v2, ↓a_s2, ↓a_g2, ↓a_v3, ↓a_s3, ↓a_g3, ↓a_v4, ↓a_s4, ↓a_g4, ↓a_v5, ↓a_s5, ↓a_g5, ↓a_v6, ↓a_s6, ↓a_g6, ↓a_v7, ↓a_s7, ↓a_g7, ↓a_v8, ↓a_s8, ↓a_g8, ↓a_v9, ↓a_s9, ↓a_g9, ↓a_v10, ↓a_s10, ↓a_g10, ↓a_v11, ↓a_s11, ↓a_g11, ↓a_v12, ↓a_s12, ↓a_g12, ↓a_v13, ↓a_s13, ↓a_g13, ↓a_op, ↓a_c, ↓a_call, ↓a_callX, ↓a_call0, ↓a_nil, ↓a_cons, ↓a_bi, ↓a_tnot, ↓a_tor, ↓a_tand, ↓a_tru, ↓a_yes, ↓a_if, ↓a_and, ↓a_or, ↓a_not, ↓a_chain, ↓a_sl, ↓a_noPart, ↓a_part, ↓a_lst, ↓a_tup, ↓a_dct0, ↓a_own, ↓a_isT, ↓a_next, ↓a_seqH, ↓a_ret, ↓a_drop, ↓a_sif, ↓a_raise, ↓a_for, ↓a_iVar, ↓a_fld, ↓a_lc, ↓a_iEnumB, ↓a_iEnumS, ↓a_iSg, ↓a_iLst, ↓a_iTp, ↓a_join, ↓a_lenSet, ↓a_append, ↓a_put, ↓a_par, ↓a_unp, ↓a_meth, ↓a_make, ↓a_rg1, ↓a_gTup, ↓a_gNil, ↓a_gCons, ↓a_loopN, wipeD, List.map_cons, List.map_nil, List.length_cons, List.length_nil, List.cons_append, List.nil_append, List.replicate_succ, List.replicate_zero, List.append_nil, List.getElem?_cons_zero, List.getElem?_cons_succ, List.set_cons_zero, List.set_cons_succ, Nat.reduceAdd, Nat.reduceSub, Bool.not_true, Bool.not_false, reduceIte, Bool.false_eq_true, true_and])))
theorem r__law_model : ∀ ds m Qd Qx, F_law_model ds m Qd Qx → w__law_model { nx := fun _ m' => Qd .non m', rt := Qd } (ds.map some ++ List.replicate (6 - ds.length) none) m := by
  rintro ds m Qd Qx ⟨b, k, l, rfl, hm, hb, hk, h⟩
  have n0 := Nx.refl hm hb
  simp only [List.map_cons, List.map_nil, List.length_cons, List.length_nil, List.cons_append, List.nil_append, List.replicate_succ, List.replicate_zero, Nat.reduceAdd, Nat.reduceSub]
  unfold w__law_model
  walk_at "wg"
  refine ⟨small_line (by decide), small_line (by decide), small_line (by decide), small_line (by decide), ?_⟩
  walk_at "wg"
  refine take_ok n0 (by omega) (by decide) (by decide) fun i m1 i0 i1 n1 _ => ?_
  have at1 : ∃ l, atI stock i = some l := let ⟨l, e, _⟩ := cs_stock i0 i1 (Int.le_refl 0) (by decide); ⟨l, e⟩
  obtain ⟨nm, en⟩ := at1
  have en2 : atI ([.lst [S "c", S "cc", S "near", S "zzzzzzzz"], .lst [S "b", S "a", S "ab", S "abc"], .lst [S "add", S "drop", S "swap", S "turn"]] : List D) i = some (.lst nm) := atI_map (f := D.lst) (xs := stock) en
  refine ⟨_, en2, ?_⟩
  walk_at "wg"
  refine take_ok n1 (by omega) (by decide) (by decide) fun d m2 d0 d1 n2 _ => ?_
  obtain ⟨nm', en', hcs⟩ := cs_stock i0 i1 d0 d1
  rw [en] at en'
  cases en'
  refine add_int ?_
  walk_at "wg"
  refine sl_lst ?_
  generalize hcc : cutD nm none (some (1 + d)) = cs at hcs ⊢
  walk_at "wg"
  refine ⟨by decide, ?_⟩
  refine ⟨by rw [List.length_map, List.length_range]; decide, ?_⟩
  refine lc_inv (fun acc m' => Nx b (k + 1 + 1 + acc.length) m m' ∧ ∀ e ∈ acc, e ∈ cs) 6 _ _ _ _ ?_ ⟨by simpa using n2, fun e he => nomatch he⟩ ?_ ?_
  · rw [List.length_map, List.length_range]; rfl
  · rintro x hx acc m' hlen ⟨hn, ha⟩ Q hQ
    walk_at "wg"
    refine len_list (x := .lst cs) rfl ?_
    refine take_ok hn (by omega) (by have := hcs.low; show (0 : Int) < (cs.length : Nat); omega) (Int.lt_of_le_of_lt (show ((cs.length : Nat) : Int) ≤ 4 by have := hcs.high; omega) (by decide)) fun j m3 j0 j1 n3 _ => ?_
    obtain ⟨e, he, hmem⟩ := atI_lt (xs := cs) j0 j1
    refine ⟨e, he, hQ e m3 ⟨?_, ?_⟩⟩
    · rw [List.length_append, List.length_singleton]
      exact n3.le (by omega)
    · intro y hy
      rcases List.mem_append.mp hy with hy | hy
      · exact ha y hy
      · rw [List.mem_singleton] at hy; subst hy; exact hmem
  · rintro acc m3 hl6 ⟨n3, ha⟩
    obtain ⟨e0, e1, e2, e3, e4, e5, rfl⟩ := six hl6
    have n3 : Nx b (k + 8) m m3 := n3.le (by simp only [List.length_cons, List.length_nil]; omega)
    have m0 : e0 ∈ cs := ha _ (by simp)
    have m1' : e1 ∈ cs := ha _ (by simp)
    have m2' : e2 ∈ cs := ha _ (by simp)
    have m3' : e3 ∈ cs := ha _ (by simp)
    have m4' : e4 ∈ cs := ha _ (by simp)
    have m5' : e5 ∈ cs := ha _ (by simp)
    walk_at "wg"
    refine ⟨Nat.zero_le _, ⟨e3, rfl, small_line (by decide), small_line (by decide), ⟨e3, rfl, small_line (by decide), small_line (by decide), ⟨e3, rfl, small_line (by decide), ⟨e4, rfl, small_line (by decide), small_line (by decide), small_line (by decide), fun p hp => ?_⟩⟩⟩⟩⟩
    have hpb := n3.isSome hp
    have n4 := n3.new hp
    walk_at "wg"
    refine ⟨by rw [Mem.up_same]; rfl, ⟨e4, rfl, small_line (by decide), ⟨e0, rfl, small_line (by decide), ⟨e3, rfl, small_line (by decide), ⟨e5, rfl, small_line (by decide), small_line (by decide), ?_⟩⟩⟩⟩⟩
    refine ⟨_, _, rfl, Mem.up_same, Nat.lt_of_lt_of_le (show 4 < 1000 by decide) (small_line (Nat.le_refl _)), ?_⟩
    walk_at "wg"
    refine ⟨by rw [Mem.up_same]; rfl, ⟨e3, rfl, small_line (by decide), ⟨e4, rfl, small_line (by decide), small_line (by decide), ?_⟩⟩⟩
    refine ⟨_, _, rfl, Mem.up_same, Nat.lt_of_lt_of_le (show 5 < 1000 by decide) (small_line (Nat.le_refl _)), ?_⟩
    rw [Mem.up_up, Mem.up_up]
    walk_at "wg"
    refine take_ok (n4 _) (by omega) (by decide) (by decide) fun j m5 j0 j1 n5 n5' => ?_
    have hp5 : m5 p = some _ := n5'.1 p _ hpb Mem.up_same
    have gs : ∃ s, atI (([.lst (gsOf [] []), .lst (gsOf [Str.ofString "ab"] [e3]), .lst (gsOf [Str.ofString "ca"] [e3]), .lst (gsOf [Str.ofString "ab", Str.ofString "cd"] [e3, e4]),
        .lst (gsOf [Str.ofString "qr", Str.ofString "st", Str.ofString "bc", Str.ofString "ad"] [e4, e0, e3, e5]), .lst (gsOf [Str.ofString "abcdef", Str.ofString "xyz"] [e3, e4])] : List D)) j = some (.lst s) ∧ Gs cs s := by
      have hj : j = 0 ∨ j = 1 ∨ j = 2 ∨ j = 3 ∨ j = 4 ∨ j = 5 := by omega
      rcases hj with rfl | rfl | rfl | rfl | rfl | rfl
      · exact ⟨_, rfl, gs_of hcs _ _ (by simp) rfl (by decide +kernel) (by decide +kernel) (by decide) (by decide +kernel)⟩
      · exact ⟨_, rfl, gs_of hcs _ _ (by simp [m3']) rfl (by decide +kernel) (by decide +kernel) (by decide) (by decide +kernel)⟩
      · exact ⟨_, rfl, gs_of hcs _ _ (by simp [m3']) rfl (by decide +kernel) (by decide +kernel) (by decide) (by decide +kernel)⟩
      · exact ⟨_, rfl, gs_of hcs _ _ (by simp [m3', m4']) rfl (by decide +kernel) (by decide +kernel) (by decide) (by decide +kernel)⟩
      · exact ⟨_, rfl, gs_of hcs _ _ (by simp [m3', m4', m0, m5']) rfl (by decide +kernel) (by decide +kernel) (by decide) (by decide +kernel)⟩
      · exact ⟨_, rfl, gs_of hcs _ _ (by simp [m3', m4']) rfl (by decide +kernel) (by decide +kernel) (by decide) (by decide +kernel)⟩
    obtain ⟨s, es, hgs⟩ := gs
    refine ⟨_, _, hp5, es, ?_⟩
    walk_at "wg"
    refine ⟨e0, rfl, e1, rfl, e2, rfl, ?_⟩
    refine ⟨e5, rfl, small_line (by decide), ?_⟩
    refine take_ok n5 (by omega) (by decide) (by decide) fun q m6 q0 q1 n6 _ => ?_
    have hq : q = 0 ∨ q = 1 := by omega
    rcases hq with rfl | rfl
    · exact ⟨.non, rfl, small_line (by decide), h m6 _ (n6.le (by omega)) (good_of hcs hgs m0 m1' m2' (Or.inl rfl))⟩
    · exact ⟨e5, rfl, small_line (by decide), h m6 _ (n6.le (by omega)) (good_of hcs hgs m0 m1' m2' (Or.inr m5'))⟩
end DL
namespace DL
open PySem L2 XO
local macro_rules | `(tactic| walk_at "wg") => `(tactic| ((try dsimp only); (try rw [a_hold]); (try simp only [List.map_cons, List.map_nil, List.length_cons, List.length_nil, List.cons_append, List.nil_append, List.replicate_succ, List.replicate_zero, Nat.reduceAdd, Nat.reduceSub]); (try simp only [↓a_test, ↓a_v0, ↓a_s0, ↓a_g0, ↓a_v1, ↓a_s1, ↓a_g1, ↓a_v2, ↓a_s2, ↓a_g2, ↓a_v3, ↓a_s3, ↓a_g3, ↓a_v4, ↓a_s4, ↓a_g4, ↓a_v5, ↓a_s5, ↓a_g5, ↓a_v6, ↓a_s6, ↓a_g6, ↓a_v7, ↓a_s7, ↓a_g7, ↓a_v8, ↓a_s8, ↓a_g8, ↓a_v9, ↓a_s9, ↓a_g9, ↓a_v10, ↓a_s10, ↓a_g10, ↓a_v11, ↓a_s11, ↓a_g11, ↓a_v12, ↓a_s12, ↓a_g12, ↓a_v13, ↓a_s13, ↓a_g13, ↓a_op, ↓a_c, ↓a_call, ↓a_callX, ↓a_call0, ↓a_nil, ↓a_cons, ↓a_bi, ↓a_tnot, ↓a_tor, ↓a_tand, ↓a_tru, ↓a_yes, ↓a_if, ↓a_and, ↓a_or, ↓a_not, ↓a_chain, ↓a_sl, ↓a_noPart, ↓a_part, ↓a_lst, ↓a_tup, ↓a_dct0, ↓a_own, ↓a_isT, ↓a_next, ↓a_seqH, ↓a_ret, ↓a_drop, ↓a_sif, ↓a_raise, ↓a_for, ↓a_iVar, ↓a_fld, ↓a_lc, ↓a_iEnumB, ↓a_iEnumS, ↓a_iSg, ↓a_iLst, ↓a_iTp, ↓a_join, ↓a_lenSet, ↓a_append, ↓a_put, ↓a_par, ↓a_unp, ↓a_meth, ↓a_make, ↓a_rg1, ↓a_gTup, ↓a_gNil, ↓a_gCons, ↓a_loopN, wipeD, List.map_cons, List.map_nil, List.length_cons, List.length_nil, List.cons_append, List.nil_append, List.replicate_succ, List.replicate_zero, List.append_nil, List.getElem?_cons_zero, List.getElem?_cons_succ, List.set_cons_zero, List.set_cons_succ, Nat.reduceAdd, Nat.reduceSub, Bool.not_true, Bool.not_false, reduceIte, Bool.false_eq_true, true_and])))
/-! bent models -/
theorem Mdl.six {w : Nat} {l : List D} (h : Mdl w l) : l.length = 6 := by
  obtain ⟨c, p, mi, ch, s, a, rfl, _⟩ := h; rfl
theorem MC.le {w w' : Nat} {c : D} (h : MC w c) (hle : w ≤ w') : MC w' c := ⟨h.1, Nat.le_trans h.2.1 hle, h.2.2⟩
theorem MS.le {w w' : Nat} {c : D} (h : MS w c) (hle : w ≤ w') : MS w' c := ⟨h.1, Nat.le_trans h.2 hle⟩
theorem Mdl.le {w w' : Nat} {l : List D} (h : Mdl w l) (hle : w ≤ w') : Mdl w' l := by
  obtain ⟨c, p, mi, ch, s, a, rfl, h1, h2, h3, h4, h5, h6⟩ := h
  exact ⟨c, p, mi, ch, s, a, rfl, h1.le hle, h2, h3, h4, h5.le hle, h6⟩
theorem Mdl.set0 {w w' : Nat} {l : List D} {v : D} (h : Mdl w l) (hv : MC w' v) (hle : w ≤ w') : Mdl w' (l.set 0 v) := by
  obtain ⟨c, p, mi, ch, s, a, rfl, h1, h2, h3, h4, h5, h6⟩ := h
  exact ⟨v, p, mi, ch, s, a, rfl, hv, h2, h3, h4, h5.le hle, h6⟩
theorem Mdl.set4 {w w' : Nat} {l : List D} {v : D} (h : Mdl w l) (hv : MS w' v) (hle : w ≤ w') : Mdl w' (l.set 4 v) := by
  obtain ⟨c, p, mi, ch, s, a, rfl, h1, h2, h3, h4, h5, h6⟩ := h
  exact ⟨c, p, mi, ch, v, a, rfl, h1.le hle, h2, h3, h4, hv, h6⟩
theorem Mdl.setO {w w' : Nat} {l : List D} {v : D} {i : Nat} (h : Mdl w l) (hv : MO v) (hle : w ≤ w') (hi : i = 1 ∨ i = 2 ∨ i = 3 ∨ i = 5) : Mdl w' (l.set i v) := by
  obtain ⟨c, p, mi, ch, s, a, rfl, h1, h2, h3, h4, h5, h6⟩ := h
  rcases hi with rfl | rfl | rfl | rfl
  · exact ⟨c, v, mi, ch, s, a, rfl, h1.le hle, hv, h3, h4, h5.le hle, h6⟩
  · exact ⟨c, p, v, ch, s, a, rfl, h1.le hle, h2, hv, h4, h5.le hle, h6⟩
  · exact ⟨c, p, mi, v, s, a, rfl, h1.le hle, h2, h3, hv, h5.le hle, h6⟩
  · exact ⟨c, p, mi, ch, s, v, rfl, h1.le hle, h2, h3, h4, h5.le hle, hv⟩
/-- a list of things, its weight -/
structure Ls (n w : Nat) (l : List D) : Prop where
  ok : okA l n = true
  wt : wtA l ≤ w
theorem okA_app {n : Nat} : ∀ {a b : List D}, okA a n = true → okA b n = true → okA (a ++ b) n = true
  | [], b, _, h => h
  | x :: a, b, h, h' => by
    simp only [okA, Bool.and_eq_true, List.cons_append] at h ⊢
    exact ⟨h.1, okA_app h.2 h'⟩
theorem okA_sub {n : Nat} {a b : List D} (h : List.Sublist a b) (hb : okA b n = true) : okA a n = true := okA.of fun d hd => okA.mem hb d (h.subset hd)
theorem Ls.app {n w w' : Nat} {a b : List D} (h : Ls n w a) (h' : Ls n w' b) : Ls n (w + w') (a ++ b) := ⟨okA_app h.ok h'.ok, by rw [wtA_app]; exact Nat.add_le_add h.wt h'.wt⟩
theorem Ls.cut {n w : Nat} {a : List D} (h : Ls n w a) (lo hi : Option Int) : Ls n w (cutD a lo hi) := ⟨okA_sub (cut_sub a lo hi) h.ok, Nat.le_trans (wtA_sub (cut_sub a lo hi)) h.wt⟩
theorem Ls.len {n w : Nat} {a : List D} (h : Ls n w a) : a.length ≤ w := Nat.le_trans (len_wtA a) h.wt
theorem Ls.lst {n w : Nat} {a : List D} (h : Ls n w a) (hw : w ≤ 100000) : okD (.lst a) (n + 1) = true ∧ wtD (.lst a) ≤ w + 10 := by
  refine ⟨?_, by have := h.wt; simp only [wtD]; omega⟩
  simp only [okD, Bool.and_eq_true, decide_eq_true_eq]
  exact ⟨Nat.le_trans h.len hw, h.ok⟩
theorem Ls.tup {n w : Nat} {a : List D} (h : Ls n w a) (hw : w ≤ 100000) : okD (.tup a) (n + 1) = true ∧ wtD (.tup a) ≤ w + 10 := by
  refine ⟨?_, by have := h.wt; simp only [wtD]; omega⟩
  simp only [okD, Bool.and_eq_true, decide_eq_true_eq]
  exact ⟨Nat.le_trans h.len hw, h.ok⟩
theorem ls_of {x : D} {n w : Nat} {l : List D} (hx : okD x (n + 1) = true) (hw : wtD x ≤ w) (hl : listB x = some l) : Ls n w l := by
  rcases listB_cases hl with rfl | rfl
  · simp only [okD, Bool.and_eq_true] at hx
    exact ⟨hx.2, by simp only [wtD] at hw; omega⟩
  · simp only [okD, Bool.and_eq_true] at hx
    exact ⟨hx.2, by simp only [wtD] at hw; omega⟩
theorem ls_one {x : D} {n w : Nat} (hx : okD x n = true) (hw : wtD x ≤ w) : Ls n (w + 2) [x] := ⟨by simp only [okA, Bool.and_eq_true]; exact ⟨hx, trivial⟩, by simp only [wtA]; omega⟩
theorem Sm.app {a b : List D} (h : Sm a) (h' : Sm b) : Sm (a ++ b) := fun d hd => (List.mem_append.mp hd).elim (h d) (h' d)
theorem Sm.cut {a : List D} (h : Sm a) (lo hi : Option Int) : Sm (cutD a lo hi) := fun d hd => h d ((cut_sub a lo hi).subset hd)
theorem Sm.one {x : D} (h : wtD x ≤ 320) : Sm [x] := fun d hd => by rw [List.mem_singleton] at hd; subst hd; exact h
theorem mc_lst {w w' : Nat} {l : List D} (h : Ls 1 w l) (hs : Sm l) (hw : w ≤ 100000) (hw' : w + 10 ≤ w') : MC w' (.lst l) := ⟨(h.lst hw).1, Nat.le_trans (h.lst hw).2 hw', fun ds e => by cases e; exact hs⟩
theorem mc_tup {w w' : Nat} {l : List D} (h : Ls 1 w l) (hs : Sm l) (hw : w ≤ 100000) (hw' : w + 10 ≤ w') : MC w' (.tup l) := ⟨(h.tup hw).1, Nat.le_trans (h.tup hw).2 hw', fun ds e => by cases e; exact hs⟩
abbrev odds : List D := [.non, .int 3, .bl true, S "", S "A", S "abcdefghi", .lst [S "c"], .dct [] [], S "zz", S "late"]
def moB (x : D) : Bool := okD x 1 && decide (wtD x ≤ 320) && (match listB x with
  | some ds => ds.all fun d => decide (wtD d ≤ 320)
  | none => true)
theorem odd_at {i : Int} (h0 : 0 ≤ i) (h1 : i < 10) : ∃ x, atI odds i = some x ∧ MO x ∧ ∀ w, 320 ≤ w → MC w x := by
  obtain ⟨x, e, hx⟩ := atI_lt (xs := odds) h0 (by show i < 10; exact h1)
  refine ⟨x, e, ?_⟩
  have all : odds.all moB = true := by decide +kernel
  have := List.all_eq_true.mp all x hx
  unfold moB at this
  rw [Bool.and_eq_true, Bool.and_eq_true, decide_eq_true_eq] at this
  refine ⟨this.1, fun w hw => ⟨okD.up this.1.1 (by omega), Nat.le_trans this.1.2 hw, fun ds hl d hd => ?_⟩⟩
  have h2 := this.2
  rw [hl] at h2
  exact of_decide_eq_true (List.all_eq_true.mp h2 d hd)
theorem add_lst {a b : List D} {m : Mem} {Q : D → Mem → Prop} (h : a.length + b.length ≤ 1000000) (q : Q (.lst (a ++ b)) m) : dAdd (.lst a) (.lst b) m Q := ⟨Nat.le_trans h (by rw [sizeLine_eq]; decide), q⟩
theorem line_of {n : Nat} (h : n ≤ 1000000) : n ≤ sizeLine := Nat.le_trans h (by rw [sizeLine_eq]; decide)
theorem ixN6 {l : List D} (h : l.length = 6) {i : Int} (h0 : 0 ≤ i) (h1 : i < 6) : ixN l.length i = some i.toNat := by
  rw [h]; exact ixN_lt h0 h1
/-- one of two, what is drawn -/
theorem pick {l : List D} {i : Int} (h0 : 0 ≤ i) (h1 : i < l.length) {P : D → Prop} (h : ∀ x ∈ l, P x) : ∃ x, atI l i = some x ∧ P x := by
  obtain ⟨x, e, hx⟩ := atI_lt h0 h1
  exact ⟨x, e, h x hx⟩
theorem r__law_bent : ∀ ds m Qd Qx, F_law_bent ds m Qd Qx → w__law_bent { nx := fun _ m' => Qd .non m', rt := Qd } (ds.map some ++ List.replicate (12 - ds.length) none) m := by
  rintro ds m Qd Qx ⟨b, x, k, l, l0, w, rfl, hm, hb, hk, hi, hM, hw, h⟩
  have n0 := Nx.refl hm hb
  unfold w__law_bent
  walk_at "wg"
  refine ⟨l0, hi, fun p hp => ?_⟩
  have hpb := n0.isSome hp
  have n1 := n0.new hp l0
  have hp1 : (m.up p l0) p = some l0 := Mem.up_same
  generalize hmm : m.up p l0 = m1 at n1 hp1 ⊢
  -- costs
  have len6 := hM.six
  obtain ⟨c0, pp, mi, ch, s0, aa, hl0, okc, hp_, hmi_, hch_, oks, ha_⟩ := id hM
  have ec0 : atI l0 0 = some c0 := by rw [hl0]; rfl
  have es0 : atI l0 4 = some s0 := by rw [hl0]; rfl
  have goal : ∀ cs : List D, Ls 1 (w + 400) cs → Sm cs → Hold
      (sSeq (sSet 4 (wOp dIx (wLst (wCons (wC .non) (wCons (wC (.int 3)) (wCons (wC (.bl true)) (wCons (wC (.str (Str.ofString ""))) (wCons (wC (.str (Str.ofString "A"))) (wCons (wC (.str (Str.ofString "abcdefghi"))) (wCons (wLst (wCons (wC (.str (Str.ofString "c"))) wNil)) (wCons wDct0 (wCons (wC (.str (Str.ofString "zz"))) (wCons (wC (.str (Str.ofString "late"))) wNil))))))))))) (wCall F_law_take (wCons (wVar 0) (wCons (wC (.int 10)) wNil))))) (sSeq (sPar 5 6 (wCons (wCall F_law_take (wCons (wVar 0) (wCons (wC (.int 9)) wNil))) (wCons (wIf (wTest (wOp (dNilB true) (wVar 3) (wLst wNil))) (wCall F_law_take (wCons (wVar 0) (wCons (wBi dLen (wCons (wVar 3) wNil)) wNil))) (wC (.int 0))) wNil))) (sSeq (sIf (wTest (wOp dEq (wVar 5) (wC (.int 0)))) (sSeq (sSet 7 (wLst (wCons (wVar 4) (wCons (wLst wNil) (wCons (wOp dAdd (wVar 3) (wLst (wCons (wC (.str (Str.ofString "x1"))) wNil))) (wCons (wOp dAdd (wVar 3) (wSl (wVar 3) wNoPart (wPart (wC (.int 1))))) (wCons (wBi dTupleM (wCons (wVar 3) wNil)) (wCons (wOp dAdd (wVar 3) (wLst (wCons (wC (.str (Str.ofString "y"))) (wCons (wC (.str (Str.ofString "z"))) (wCons (wC (.str (Str.ofString "w"))) (wCons (wC (.str (Str.ofString "v"))) wNil)))))) wNil)))))))) (sPut (wVar 2) (wC (.int 0)) (wOp dIx (wVar 7) (wCall F_law_take (wCons (wVar 0) (wCons (wC (.int 6)) wNil)))))) (sIf (wTest (wOp dEq (wVar 5) (wC (.int 1)))) (sPut (wVar 2) (wC (.int 0)) (wOp dAdd (wOp dAdd (wSl (wVar 3) wNoPart (wPart (wVar 6))) (wLst (wCons (wVar 4) wNil))) (wSl (wVar 3) (wPart (wOp dAdd (wVar 6) (wC (.int 1)))) wNoPart))) (sIf (wTest (wOp dLt (wVar 5) (wC (.int 5)))) (sPut (wVar 2) (wOp dSub (wVar 5) (wC (.int 1))) (wVar 4)) (sIf (wTest (wOp dEq (wVar 5) (wC (.int 5)))) (sPut (wVar 2) (wC (.int 5)) (wVar 4)) (sIf (wTest (wOp dEq (wVar 5) (wC (.int 6)))) (sPut (wVar 2) (wC (.int 4)) (wOp dIx (wLst (wCons (wVar 4) (wCons (wIf (wTest (wBi dIsi (wCons (wOp dIx (wVar 2) (wC (.int 4))) (wCons (wC (.ty "list")) wNil)))) (wBi dTupleM (wCons (wOp dIx (wVar 2) (wC (.int 4))) wNil)) (wTup wNil)) (wCons (wLst (wCons (wVar 4) wNil)) wNil)))) (wCall F_law_take (wCons (wVar 0) (wCons (wC (.int 3)) wNil))))) (sSeq (sSet 8 (wIf (wTest (wOp (dNilB true) (wVar 3) (wLst wNil))) (wOp dIx (wVar 3) (wVar 6)) (wC (.str (Str.ofString "b"))))) (sSeq (sSet 7 (wLst (wCons (wTup (wCons (wC (.str (Str.ofString "aa"))) (wCons (wVar 8) wNil))) (wCons (wTup (wCons (wC (.str (Str.ofString "a"))) (wCons (wVar 8) wNil))) (wCons (wTup (wCons (wC (.str (Str.ofString "xyz"))) (wCons (wVar 4) wNil))) (wCons (wLst (wCons (wC (.str (Str.ofString "xy"))) (wCons (wVar 8) wNil))) (wCons (wTup (wCons (wC (.str (Str.ofString "ab"))) (wCons (wVar 8) wNil))) (wCons (wTup (wCons (wC (.str (Str.ofString "aB"))) (wCons (wVar 8) wNil))) wNil)))))))) (sSeq (sSet 9 (wOp dIx (wOp dAdd (wVar 7) (wLst (wCons (wTup (wCons (wC (.str (Str.ofString "xy"))) (wCons (wVar 8) (wCons (wVar 8) wNil)))) (wCons (wVar 4) wNil)))) (wCall F_law_take (wCons (wVar 0) (wCons (wC (.int 8)) wNil))))) (sSeq (sSet 10 (wIf (wTest (wIsiT (wOp dIx (wVar 2) (wC (.int 4))) ["list", "tuple"])) (wBi dListM (wCons (wOp dIx (wVar 2) (wC (.int 4))) wNil)) (wLst wNil))) (sSeq (sSet 11 (wCall F_law_take (wCons (wVar 0) (wCons (wOp dAdd (wBi dLen (wCons (wVar 10) wNil)) (wC (.int 1))) wNil)))) (sPut (wVar 2) (wC (.int 4)) (wOp dAdd (wOp dAdd (wSl (wVar 10) wNoPart (wPart (wVar 11))) (wLst (wCons (wVar 9) wNil))) (wSl (wVar 10) (wPart (wVar 11)) wNoPart))))))))))))) (sRet (wVar 2)))))
      { nx := fun _ m' => Qd .non m', rt := Qd } [some (.box b), some x, some (.box p), some (.lst cs), none, none, none, none, none, none, none, none] m1 := by
    intro cs hcs hsm
    walk_at "wg"
    refine ⟨small_line (by decide), small_line (by decide), ?_⟩
    refine take_ok n1 (by omega) (by decide) (by decide) fun i m2 i0 i1 n2 n2' => ?_
    have hp2 := n2'.1 p _ hpb hp1
    obtain ⟨odd, eo, hodd, hoc⟩ := odd_at i0 i1
    have oko := hodd.1
    have wto := hodd.2
    refine ⟨odd, eo, ?_⟩
    walk_at "wg"
    refine take_ok n2 (by omega) (by decide) (by decide) fun way m3 w0 w1 n3 n3' => ?_
    have hp3 := n3'.1 p _ hpb hp2
    refine ⟨Nat.zero_le _, nil_lst ?_⟩
    -- at
    have goal2 : ∀ (at_ : Int) (m4 : Mem), 0 ≤ at_ → (cs ≠ [] → at_ < cs.length) → Nx b (k + 1 + 1 + 1) m m4 → m4 p = some l0 → Hold (sSeq (sIf (wTest (wOp dEq (wVar 5) (wC (.int 0)))) (sSeq (sSet 7 (wLst (wCons (wVar 4) (wCons (wLst wNil) (wCons (wOp dAdd (wVar 3) (wLst (wCons (wC (.str (Str.ofString "x1"))) wNil))) (wCons (wOp dAdd (wVar 3) (wSl (wVar 3) wNoPart (wPart (wC (.int 1))))) (wCons (wBi dTupleM (wCons (wVar 3) wNil)) (wCons (wOp dAdd (wVar 3) (wLst (wCons (wC (.str (Str.ofString "y"))) (wCons (wC (.str (Str.ofString "z"))) (wCons (wC (.str (Str.ofString "w"))) (wCons (wC (.str (Str.ofString "v"))) wNil)))))) wNil)))))))) (sPut (wVar 2) (wC (.int 0)) (wOp dIx (wVar 7) (wCall F_law_take (wCons (wVar 0) (wCons (wC (.int 6)) wNil)))))) (sIf (wTest (wOp dEq (wVar 5) (wC (.int 1)))) (sPut (wVar 2) (wC (.int 0)) (wOp dAdd (wOp dAdd (wSl (wVar 3) wNoPart (wPart (wVar 6))) (wLst (wCons (wVar 4) wNil))) (wSl (wVar 3) (wPart (wOp dAdd (wVar 6) (wC (.int 1)))) wNoPart))) (sIf (wTest (wOp dLt (wVar 5) (wC (.int 5)))) (sPut (wVar 2) (wOp dSub (wVar 5) (wC (.int 1))) (wVar 4)) (sIf (wTest (wOp dEq (wVar 5) (wC (.int 5)))) (sPut (wVar 2) (wC (.int 5)) (wVar 4)) (sIf (wTest (wOp dEq (wVar 5) (wC (.int 6)))) (sPut (wVar 2) (wC (.int 4)) (wOp dIx (wLst (wCons (wVar 4) (wCons (wIf (wTest (wBi dIsi (wCons (wOp dIx (wVar 2) (wC (.int 4))) (wCons (wC (.ty "list")) wNil)))) (wBi dTupleM (wCons (wOp dIx (wVar 2) (wC (.int 4))) wNil)) (wTup wNil)) (wCons (wLst (wCons (wVar 4) wNil)) wNil)))) (wCall F_law_take (wCons (wVar 0) (wCons (wC (.int 3)) wNil))))) (sSeq (sSet 8 (wIf (wTest (wOp (dNilB true) (wVar 3) (wLst wNil))) (wOp dIx (wVar 3) (wVar 6)) (wC (.str (Str.ofString "b"))))) (sSeq (sSet 7 (wLst (wCons (wTup (wCons (wC (.str (Str.ofString "aa"))) (wCons (wVar 8) wNil))) (wCons (wTup (wCons (wC (.str (Str.ofString "a"))) (wCons (wVar 8) wNil))) (wCons (wTup (wCons (wC (.str (Str.ofString "xyz"))) (wCons (wVar 4) wNil))) (wCons (wLst (wCons (wC (.str (Str.ofString "xy"))) (wCons (wVar 8) wNil))) (wCons (wTup (wCons (wC (.str (Str.ofString "ab"))) (wCons (wVar 8) wNil))) (wCons (wTup (wCons (wC (.str (Str.ofString "aB"))) (wCons (wVar 8) wNil))) wNil)))))))) (sSeq (sSet 9 (wOp dIx (wOp dAdd (wVar 7) (wLst (wCons (wTup (wCons (wC (.str (Str.ofString "xy"))) (wCons (wVar 8) (wCons (wVar 8) wNil)))) (wCons (wVar 4) wNil)))) (wCall F_law_take (wCons (wVar 0) (wCons (wC (.int 8)) wNil))))) (sSeq (sSet 10 (wIf (wTest (wIsiT (wOp dIx (wVar 2) (wC (.int 4))) ["list", "tuple"])) (wBi dListM (wCons (wOp dIx (wVar 2) (wC (.int 4))) wNil)) (wLst wNil))) (sSeq (sSet 11 (wCall F_law_take (wCons (wVar 0) (wCons (wOp dAdd (wBi dLen (wCons (wVar 10) wNil)) (wC (.int 1))) wNil)))) (sPut (wVar 2) (wC (.int 4)) (wOp dAdd (wOp dAdd (wSl (wVar 10) wNoPart (wPart (wVar 11))) (wLst (wCons (wVar 9) wNil))) (wSl (wVar 10) (wPart (wVar 11)) wNoPart))))))))))))) (sRet (wVar 2))) { nx := fun _ m' => Qd .non m', rt := Qd } [some (.box b), some x, some (.box p), some (.lst cs), some odd, some (.int way), some (.int at_), none, none, none, none, none] m4 := by
      intro at_ m4 a0 a1 n4 hp4
      have put : ∀ (i : Int) (v : D) (m5 : Mem) (ρ : En0), 0 ≤ i → i < 6 → Mdl (2 * w + 5000) (l0.set i.toNat v) → Nx b (k + 20) m m5 → m5 p = some l0 → ρ[2]? = some (some (.box p)) → ∃ ds n, m5 p = some ds ∧ ixN ds.length i = some n ∧ Hold (sRet (wVar 2)) { nx := fun _ m' => Qd .non m', rt := Qd } ρ (m5.up p (ds.set n v)) := by
        intro i v m5 ρ i0 i1 hv n5 hp5 hρ
        refine ⟨l0, i.toNat, hp5, ixN6 len6 i0 i1, ?_⟩
        rw [a_hold, a_ret, a_var, hρ]
        exact h _ p _ (n5.up hp hpb _) hpb Mem.up_same hv
      walk_at "wg"
      refine dEq_int ?_
      refine ifb (fun e => ?_) (fun ez => ?_)
      · -- way 0
        walk_at "wg"
        have l1 : Ls 1 (w + 400 + 302) (cs ++ [S "x1"]) := hcs.app (ls_one (x := S "x1") (w := 300) (by decide +kernel) (by decide +kernel))
        have l2 : Ls 1 (w + 400 + (w + 400)) (cs ++ cutD cs none (some 1)) := hcs.app (hcs.cut none (some 1))
        have l3 : Ls 1 (w + 400 + 1208) (cs ++ [S "y", S "z", S "w", S "v"]) := hcs.app ⟨by decide +kernel, by decide +kernel⟩
        have len := hcs.len
        refine ⟨Nat.zero_le _, small_line (by decide), ?_⟩
        refine add_lst (by show cs.length + 1 ≤ 1000000; omega) ?_
        refine sl_lst ?_
        refine add_lst (by have := (hcs.cut none (some 1)).len; omega) ?_
        refine ⟨small_line (by decide), ?_⟩
        refine add_lst (by show cs.length + 4 ≤ 1000000; omega) ?_
        refine ⟨small_line (by decide), ?_⟩
        walk_at "wg"
        refine take_ok n4 (by omega) (by decide) (by decide) fun j m5 j0 j1 n5 n5' => ?_
        obtain ⟨v, ev, okv⟩ := pick (l := [odd, .lst [], .lst (cs ++ [S "x1"]), .lst (cs ++ cutD cs none (some 1)), .tup cs, .lst (cs ++ [S "y", S "z", S "w", S "v"])]) (P := MC (2 * w + 5000)) j0 (by show j < 6; exact j1) (by
          intro v hv
          simp only [List.mem_cons, List.not_mem_nil, or_false] at hv
          rcases hv with rfl | rfl | rfl | rfl | rfl | rfl
          · exact hoc _ (by omega)
          · exact mc_lst (w := 0) ⟨rfl, Nat.le_refl _⟩ (fun _ h => nomatch h) (by omega) (by omega)
          · exact mc_lst l1 (hsm.app (Sm.one (by decide +kernel))) (by omega) (by omega)
          · exact mc_lst l2 (hsm.app (hsm.cut none (some 1))) (by omega) (by omega)
          · exact mc_tup hcs hsm (by omega) (by omega)
          · refine mc_lst l3 (hsm.app fun d hd => ?_) (by omega) (by omega)
            have : ([S "y", S "z", S "w", S "v"].all fun d => decide (wtD d ≤ 320)) = true := by decide +kernel
            exact of_decide_eq_true (List.all_eq_true.mp this d hd))
        refine ⟨v, ev, ?_⟩
        exact put 0 v m5 _ (by decide) (by decide) (hM.set0 okv (by omega)) (n5.le (by omega)) (n5'.1 p _ hpb hp4) rfl
      · walk_at "wg"
        refine dEq_int ?_
        refine ifb (fun e => ?_) (fun ey => ?_)
        · -- way 1
          walk_at "wg"
          have len := hcs.len
          have la := hcs.cut none (some at_)
          have lb := hcs.cut (some (at_ + 1)) none
          refine sl_lst ?_
          refine ⟨small_line (by decide), ?_⟩
          refine add_lst (by have := la.len; show _ + 1 ≤ _; omega) ?_
          refine add_int ?_
          walk_at "wg"
          refine sl_lst ?_
          have lc := (la.app (ls_one oko wto)).app lb
          refine add_lst (by have := (la.app (ls_one oko wto)).len; have := lb.len; omega) ?_
          exact put 0 _ m4 _ (by decide) (by decide) (hM.set0 (mc_lst lc (((hsm.cut none (some at_)).app (Sm.one wto)).app (hsm.cut (some (at_ + 1)) none)) (by omega) (by omega)) (by omega)) (n4.le (by omega)) hp4 rfl
        · walk_at "wg"
          show if decide (way < 5) = true then _ else _
          refine ifb (fun e2 => ?_) (fun e2 => ?_)
          · -- way 2, 3, 4
            walk_at "wg"
            have e0 := of_decide_eq_false ez
            have e1 := of_decide_eq_false ey
            have e2 := of_decide_eq_true e2
            exact put (way - 1) odd m4 _ (by omega) (by omega) (hM.setO hodd (by omega) (by omega)) (n4.le (by omega)) hp4 rfl
          · walk_at "wg"
            refine dEq_int ?_
            refine ifb (fun e3 => ?_) (fun e3 => ?_)
            · walk_at "wg"
              exact put 5 odd m4 _ (by decide) (by decide) (hM.setO hodd (by omega) (by decide)) (n4.le (by omega)) hp4 rfl
            · walk_at "wg"
              refine dEq_int ?_
              refine ifb (fun e4 => ?_) (fun e4 => ?_)
              · -- way 6
                walk_at "wg"
                refine ⟨l0, s0, hp4, es0, ?_⟩
                refine isi_list oks.1 ?_
                have fin : ∀ t : List D, Ls 2 w t → ∀ m', m' = m4 → (F_law_take [.box b, .int 3] m' (fun y m2 => dIx (.lst [odd, .tup t, .lst [odd]]) y m2 (fun d m1 => ∃ ds n, m1 p = some ds ∧ ixN ds.length 4 = some n ∧ Hold (sRet (wVar 2)) { nx := fun _ m' => Qd .non m', rt := Qd } [some (.box b), some x, some (.box p), some (.lst cs), some odd, some (.int way), some (.int at_), none, none, none, none, none] (m1.up p (ds.set n d)))) (fun _ _ => False)) := by
                  rintro t ht m' rfl
                  refine take_ok n4 (by omega) (by decide) (by decide) fun j m5 j0 j1 n5 n5' => ?_
                  obtain ⟨v, ev, okv⟩ := pick (l := [odd, .tup t, .lst [odd]]) (P := MS (2 * w + 5000)) j0 (by show j < 3; exact j1) (by
                    intro v hv
                    simp only [List.mem_cons, List.not_mem_nil, or_false] at hv
                    rcases hv with rfl | rfl | rfl
                    · exact ⟨okD.up oko (by omega), by omega⟩
                    · have := ht.tup (by omega); exact ⟨this.1, by omega⟩
                    · have := (ls_one (okD.up oko (show 1 ≤ 2 by omega)) wto).lst (by omega); exact ⟨this.1, by omega⟩)
                  refine ⟨v, ev, ?_⟩
                  exact put 4 v m5 _ (by decide) (by decide) (hM.set4 okv (by omega)) (n5.le (by omega)) (n5'.1 p _ hpb hp4) rfl
                cases hs : lstB s0 with
                | true =>
                  cases s0 with
                  | lst ss =>
                    walk_at "wg"
                    refine ⟨l0, _, hp4, es0, ?_⟩
                    refine tupleM_list (x := .lst ss) rfl ?_
                    refine ⟨small_line (by decide), small_line (by decide), fin ss (ls_of oks.1 oks.2 rfl) m4 rfl⟩
                  | _ => first | (cases hs; done) | (simp [MS, okD] at oks)
                | false =>
                  walk_at "wg"
                  exact ⟨Nat.zero_le _, small_line (by decide), small_line (by decide), fin [] ⟨rfl, Nat.zero_le _⟩ m4 rfl⟩
              · -- a group more
                walk_at "wg"
                refine ⟨Nat.zero_le _, nil_lst ?_⟩
                have len := hcs.len
                have goal3 : ∀ nm : D, okD nm 1 = true → wtD nm ≤ 320 → Hold (sSeq (sSet 7 (wLst (wCons (wTup (wCons (wC (.str (Str.ofString "aa"))) (wCons (wVar 8) wNil))) (wCons (wTup (wCons (wC (.str (Str.ofString "a"))) (wCons (wVar 8) wNil))) (wCons (wTup (wCons (wC (.str (Str.ofString "xyz"))) (wCons (wVar 4) wNil))) (wCons (wLst (wCons (wC (.str (Str.ofString "xy"))) (wCons (wVar 8) wNil))) (wCons (wTup (wCons (wC (.str (Str.ofString "ab"))) (wCons (wVar 8) wNil))) (wCons (wTup (wCons (wC (.str (Str.ofString "aB"))) (wCons (wVar 8) wNil))) wNil)))))))) (sSeq (sSet 9 (wOp dIx (wOp dAdd (wVar 7) (wLst (wCons (wTup (wCons (wC (.str (Str.ofString "xy"))) (wCons (wVar 8) (wCons (wVar 8) wNil)))) (wCons (wVar 4) wNil)))) (wCall F_law_take (wCons (wVar 0) (wCons (wC (.int 8)) wNil))))) (sSeq (sSet 10 (wIf (wTest (wIsiT (wOp dIx (wVar 2) (wC (.int 4))) ["list", "tuple"])) (wBi dListM (wCons (wOp dIx (wVar 2) (wC (.int 4))) wNil)) (wLst wNil))) (sSeq (sSet 11 (wCall F_law_take (wCons (wVar 0) (wCons (wOp dAdd (wBi dLen (wCons (wVar 10) wNil)) (wC (.int 1))) wNil)))) (sPut (wVar 2) (wC (.int 4)) (wOp dAdd (wOp dAdd (wSl (wVar 10) wNoPart (wPart (wVar 11))) (wLst (wCons (wVar 9) wNil))) (wSl (wVar 10) (wPart (wVar 11)) wNoPart))))))) { nx := Hold (sRet (wVar 2)) { nx := fun _ m' => Qd .non m', rt := Qd }, rt := Qd } [some (.box b), some x, some (.box p), some (.lst cs), some odd, some (.int way), some (.int at_), none, some nm, none, none, none] m4 := by
                  intro nm okn wtn
                  walk_at "wg"
                  refine ⟨small_line (by decide), small_line (by decide), small_line (by decide), small_line (by decide), small_line (by decide), small_line (by decide), small_line (by decide), ?_⟩
                  walk_at "wg"
                  refine ⟨small_line (by decide), small_line (by decide), ?_⟩
                  refine add_lst (by show 6 + 2 ≤ 1000000; decide) ?_
                  refine take_ok n4 (by omega) (by decide) (by decide) fun j m5 j0 j1 n5 n5' => ?_
                  have hp5 := n5'.1 p _ hpb hp4
                  have grp : ∀ (z : String) (y : D), okD (S z) 0 = true → okD y 1 = true → wtD y ≤ 320 → okD (.tup [S z, y]) 2 = true ∧ wtD (.tup [S z, y]) ≤ 1000 := by
                    intro z y hz hy hw'
                    refine ⟨?_, ?_⟩
                    · simp only [okD, okA, Bool.and_eq_true, decide_eq_true_eq]
                      have := okD.str hz
                      exact ⟨by simp, ⟨this.1, this.2⟩, hy, trivial⟩
                    · simp only [wtD, wtA]; omega
                  obtain ⟨gr, eg, okg, wtg⟩ := pick (l := [.tup [S "aa", nm], .tup [S "a", nm], .tup [S "xyz", odd], .lst [S "xy", nm], .tup [S "ab", nm], .tup [S "aB", nm]] ++ [.tup [S "xy", nm, nm], odd]) (P := fun v => okD v 2 = true ∧ wtD v ≤ 1000) j0 (by show j < 8; exact j1) (by
                    intro v hv
                    simp only [List.cons_append, List.nil_append, List.mem_cons, List.not_mem_nil, or_false] at hv
                    rcases hv with rfl | rfl | rfl | rfl | rfl | rfl | rfl | rfl
                    · have := grp "aa" nm (by decide +kernel) okn wtn; exact ⟨this.1, by omega⟩
                    · have := grp "a" nm (by decide +kernel) okn wtn; exact ⟨this.1, by omega⟩
                    · have := grp "xyz" odd (by decide +kernel) oko wto; exact ⟨this.1, by omega⟩
                    · have := grp "xy" nm (by decide +kernel) okn wtn
                      exact ⟨by have := this.1; simp only [okD] at this ⊢; exact this, by have := this.2; simp only [wtD, wtA] at this ⊢; omega⟩
                    · have := grp "ab" nm (by decide +kernel) okn wtn; exact ⟨this.1, by omega⟩
                    · have := grp "aB" nm (by decide +kernel) okn wtn; exact ⟨this.1, by omega⟩
                    · refine ⟨?_, by simp only [wtD, wtA]; omega⟩
                      simp only [okD, okA, Bool.and_eq_true, decide_eq_true_eq]
                      have hz : okD (S "xy") 0 = true := by decide +kernel
                      have := okD.str hz
                      exact ⟨by simp, ⟨this.1, this.2⟩, okn, okn, trivial⟩
                    · exact ⟨okD.up oko (by omega), by omega⟩)
                  refine ⟨gr, eg, ?_⟩
                  have goal4 : ∀ rows : List D, Ls 2 w rows → Hold (sSeq (sSet 11 (wCall F_law_take (wCons (wVar 0) (wCons (wOp dAdd (wBi dLen (wCons (wVar 10) wNil)) (wC (.int 1))) wNil)))) (sPut (wVar 2) (wC (.int 4)) (wOp dAdd (wOp dAdd (wSl (wVar 10) wNoPart (wPart (wVar 11))) (wLst (wCons (wVar 9) wNil))) (wSl (wVar 10) (wPart (wVar 11)) wNoPart)))) { nx := Hold (sRet (wVar 2)) { nx := fun _ m' => Qd .non m', rt := Qd }, rt := Qd } [some (.box b), some x, some (.box p), some (.lst cs), some odd, some (.int way), some (.int at_), some (.lst [.tup [S "aa", nm], .tup [S "a", nm], .tup [S "xyz", odd], .lst [S "xy", nm], .tup [S "ab", nm], .tup [S "aB", nm]]), some nm, some gr, some (.lst rows), none] m5 := by
                    intro rows hrows
                    have lenr := hrows.len
                    walk_at "wg"
                    refine len_list (x := .lst rows) rfl ?_
                    refine add_int ?_
                    refine take_ok n5 (by omega) (by omega) (Int.lt_of_le_of_lt (show ((rows.length : Nat) : Int) + 1 ≤ 100000 by omega) (by decide)) fun q m6 q0 q1 n6 n6' => ?_
                    have hp6 := n6'.1 p _ hpb hp5
                    walk_at "wg"
                    refine sl_lst ?_
                    refine ⟨small_line (by decide), ?_⟩
                    have la := hrows.cut none (some q)
                    have lb := hrows.cut (some q) none
                    have lla := la.len
                    have llb := lb.len
                    have lg : Ls 2 1002 [gr] := ls_one okg wtg
                    refine add_lst (by show _ + 1 ≤ _; omega) ?_
                    refine sl_lst ?_
                    refine add_lst (by rw [List.length_append]; show _ + 1 + _ ≤ _; omega) ?_
                    have := ((la.app lg).app lb).lst (by omega)
                    exact put 4 _ m6 _ (by decide) (by decide) (hM.set4 ⟨this.1, Nat.le_trans this.2 (by omega)⟩ (by omega)) (n6.le (by omega)) hp6 rfl
                  walk_at "wg"
                  refine ⟨l0, s0, hp5, es0, ?_⟩
                  refine ⟨typedM_of (okD.ty oks.1), _, isaLT s0, ?_⟩
                  cases hs : listB s0 with
                  | some ss =>
                    rw [listB_isL hs]
                    walk_at "wg"
                    refine ⟨l0, s0, hp5, es0, ?_⟩
                    have q := goal4 ss (ls_of oks.1 oks.2 hs)
                    rcases listB_cases hs with rfl | rfl <;> exact q
                  | none =>
                    rw [no_list hs oks.1]
                    walk_at "wg"
                    exact ⟨Nat.zero_le _, goal4 [] ⟨rfl, Nat.zero_le _⟩⟩
                cases cs with
                | nil => exact goal3 (S "b") (by decide +kernel) (by decide +kernel)
                | cons y cs =>
                  rw [show ((y :: cs).isEmpty ^^ true) = true from rfl]
                  walk_at "wg"
                  obtain ⟨e, he, hmem⟩ := atI_lt (xs := y :: cs) a0 (a1 (by simp))
                  refine ⟨e, he, ?_⟩
                  exact goal3 e (okA.mem hcs.ok e hmem) (hsm e hmem)
    cases cs with
    | nil =>
      walk_at "wg"
      refine ⟨_, _, rfl, ?_⟩
      exact goal2 0 m3 (by decide) (fun z => absurd rfl z) (n3.le (by omega)) hp3
    | cons e cs =>
      rw [show ((e :: cs).isEmpty ^^ true) = true from rfl]
      walk_at "wg"
      refine len_list (x := .lst (e :: cs)) rfl ?_
      have len := hcs.len
      refine take_ok n3 (by omega) (by rw [List.length_cons]; omega) (Int.lt_of_le_of_lt (show (((e :: cs).length : Nat) : Int) ≤ 100000 by omega) (by decide)) fun j m4 j0 j1 n4 n4' => ?_
      refine ⟨_, _, rfl, ?_⟩
      exact goal2 j m4 j0 (fun _ => j1) n4 (n4'.1 p _ hpb hp3)
  walk_at "wg"
  refine ⟨l0, c0, hp1, ec0, ?_⟩
  refine isi_list okc.1 ?_
  cases hs : lstB c0 with
  | true =>
    cases c0 with
    | lst cc =>
      walk_at "wg"
      refine ⟨l0, _, hp1, ec0, ?_⟩
      have q := goal cc ⟨(ls_of okc.1 okc.2.1 rfl).ok, by have := (ls_of okc.1 okc.2.1 rfl).wt; omega⟩ (okc.2.2 cc rfl)
      exact q
    | _ => first | (cases hs; done) | (simp [MC, okD] at okc)
  | false =>
    walk_at "wg"
    exact ⟨small_line (by decide), goal [S "b"] ⟨by decide +kernel, Nat.le_trans (show wtA [S "b"] ≤ 400 by decide +kernel) (by omega)⟩ (Sm.one (by decide +kernel))⟩
end DL
namespace DL
open PySem L2 XO
local macro_rules | `(tactic| walk_at "wg") => `(tactic| ((try dsimp only); (try rw [a_hold]); (try simp only [List.map_cons, List.map_nil, List.length_cons, List.length_nil, List.cons_append, List.nil_append, List.replicate_succ, List.replicate_zero, Nat.reduceAdd, Nat.reduceSub]); (try simp only [↓a_test, ↓a_v0, ↓a_s0, ↓a_g0, ↓a_v1, ↓a_s1, ↓a_g1, ↓a_v2, ↓a_s2, ↓a_g2, ↓a_v3, ↓a_s3, ↓a_g3, ↓a_v4, ↓a_s4, ↓a_g4, ↓a_v5, ↓a_s5, ↓a_g5, ↓a_v6, ↓a_s6, ↓a_g6, ↓a_v7, ↓a_s7, ↓a_g7, ↓a_v8, ↓a_s8, ↓a_g8, ↓a_v9, ↓a_s9, ↓a_g9, ↓a_v10, ↓a_s10, ↓a_g10, ↓a_v11, ↓a_s11, ↓a_g11, ↓a_v12, ↓a_s12, ↓a_g12, ↓a_v13, ↓a_s13, ↓a_g13, ↓a_op, ↓a_c, ↓a_call, ↓a_callX, ↓a_call0, ↓a_nil, ↓a_cons, ↓a_bi, ↓a_tnot, ↓a_tor, ↓a_tand, ↓a_tru, ↓a_yes, ↓a_if, ↓a_and, ↓a_or, ↓a_not, ↓a_chain, ↓a_sl, ↓a_noPart, ↓a_part, ↓a_lst, ↓a_tup, ↓a_dct0, ↓a_own, ↓a_isT, ↓a_next, ↓a_seqH, ↓a_ret, ↓a_drop, ↓a_sif, ↓a_raise, ↓a_for, ↓a_iVar, ↓a_fld, ↓a_lc, ↓a_iEnumB, ↓a_iEnumS, ↓a_iSg, ↓a_iLst, ↓a_iTp, ↓a_join, ↓a_lenSet, ↓a_append, ↓a_put, ↓a_par, ↓a_unp, ↓a_meth, ↓a_make, ↓a_rg1, ↓a_gTup, ↓a_gNil, ↓a_gCons, ↓a_loopN, wipeD, List.map_cons, List.map_nil, List.length_cons, List.length_nil, List.cons_append, List.nil_append, List.replicate_succ, List.replicate_zero, List.append_nil, List.getElem?_cons_zero, List.getElem?_cons_succ, List.set_cons_zero, List.set_cons_succ, Nat.reduceAdd, Nat.reduceSub, Bool.not_true, Bool.not_false, reduceIte, Bool.false_eq_true, true_and])))
theorem listM_lst {ds : List D} {m : Mem} {Q : D → Mem → Prop} (q : Q (.lst ds) m) : dListM [.lst ds] m Q := q
theorem very_eq {p q : Addr} {m4 : Mem} {Q : D → Mem → Prop} (mp4 : m4 p = some [.int 7]) (mq4 : m4 q = some [.str (Str.ofString "ab"), .int 8]) (h : Q (.bl true) m4) : dEqM (.lst [.box p, .box q]) (.lst [.lst [.int 7], .lst [.str (Str.ofString "ab"), .int 8]]) m4 Q := by
  have e1 : res m4 (.lst [.box p, .box q]) = .lst [.lst [.int 7], .lst [.str (Str.ofString "ab"), .int 8]] := by
    simp only [res, resA, mp4, mq4]
  have e2 : res m4 (.lst [.lst [.int 7], .lst [.str (Str.ofString "ab"), .int 8]]) = .lst [.lst [.int 7], .lst [.str (Str.ofString "ab"), .int 8]] := by
    simp only [res, resA]
  unfold dEqM
  rw [e1, e2]
  have e3 : PyData.eqv (py (.lst [.lst [.int 7], .lst [.str (Str.ofString "ab"), .int 8]])) (py (.lst [.lst [.int 7], .lst [.str (Str.ofString "ab"), .int 8]])) = true := by decide +kernel
  have e4 : SeqAt.shaped (py (.lst [.lst [.int 7], .lst [.str (Str.ofString "ab"), .int 8]])) = true := by decide +kernel
  rw [e3]
  exact ⟨e4, e4, h⟩
theorem swap_mono {ds : List D} {m : Mem} {Q Q' : D → Mem → Prop} {Qx Qx' : XQ} (h : F_Scheme_swap_cost ds m Q Qx) (i : ∀ x m', Qx x m' → Qx' x m') : F_Scheme_swap_cost ds m Q' Qx' := by
  obtain ⟨o, x, y, e, hx, hy, h⟩ := h
  refine ⟨o, x, y, e, hx, hy, ?_⟩
  rcases h with ⟨a, h⟩ | ⟨a, b, h⟩ | ⟨z, a, b, c, h⟩
  · exact Or.inl ⟨a, i _ _ h⟩
  · exact Or.inr (Or.inl ⟨a, b, i _ _ h⟩)
  · exact Or.inr (Or.inr ⟨z, a, b, c, i _ _ h⟩)
theorem step_mono {ds : List D} {m : Mem} {Q Q' : D → Mem → Prop} {Qx Qx' : XQ} (h : F_Scheme_step_cost ds m Q Qx) (i : ∀ x m', Qx x m' → Qx' x m') : F_Scheme_step_cost ds m Q' Qx' := by
  obtain ⟨o, x, y, a, e, hp, hx, hy, hf, h⟩ := h
  refine ⟨o, x, y, a, e, hp, hx, hy, hf, ?_⟩
  rcases h with ⟨b, h⟩ | ⟨b, c, h⟩ | ⟨b, c, h⟩
  · exact Or.inl ⟨b, i _ _ h⟩
  · exact Or.inr (Or.inl ⟨b, c, i _ _ h⟩)
  · exact Or.inr (Or.inr ⟨b, c, i _ _ h⟩)
theorem r__law_caught : ∀ ds m Qd Qx, F_law_caught ds m Qd Qx → w__law_caught { nx := fun _ m' => Qd .non m', rt := Qd } (ds.map some ++ List.replicate (5 - ds.length) none) m := by
  rintro ds m Qd Qx ⟨o, x, y, a, w, rfl, ⟨v1, v2, v3, v4, v5, rfl⟩, h⟩
  unfold w__law_caught
  walk_at "wg"
  rw [a_trys]
  walk_at "wg"
  rcases h with ⟨rfl, h⟩ | ⟨rfl, h⟩
  · refine dEq_int ?_
    rw [decide_eq_true rfl]
    walk_at "wg"
    refine ⟨rfl, swap_mono h ?_⟩
    rintro ⟨c, f, v⟩ m' ⟨e1, e2, q⟩
    exact ⟨("InvalidLetter", "value", "letter"), by simp, e1.symm, e2.symm, q⟩
  · refine dEq_int ?_
    have e : decide ((1 : Int) = 0) = false := by decide
    rw [e]
    walk_at "wg"
    refine ⟨rfl, step_mono h ?_⟩
    rintro ⟨c, f, v⟩ m' (⟨e1, e2, q⟩ | ⟨e1, e2, q⟩)
    · exact ⟨("InvalidLetter", "value", "letter"), by simp, e1.symm, e2.symm, q⟩
    · exact ⟨("InvalidStep", "value", "step"), by simp, e1.symm, e2.symm, q⟩
theorem r__law_scheme : ∀ ds m Qd Qx, F_law_scheme ds m Qd Qx → w__law_scheme { nx := fun _ m' => Qd .non m', rt := Qd } (ds.map some ++ List.replicate (7 - ds.length) none) m := by
  rintro ds m Qd Qx ⟨l, rfl, ⟨hm, c, p, mi, ch, s, a, rfl, hd, hc, hs⟩, h⟩
  obtain ⟨c', p', mi', ch', s', a', e, h1, h2, h3, h4, h5, h6⟩ := hm
  cases e
  cases c <;> first | (cases hc; done) | (have z := h1.1; simp [okD] at z; done) | skip
  cases s <;> first | (cases hs; done) | (have z := h5.1; simp [okD] at z; done) | skip
  rename_i cs ss
  unfold w__law_scheme
  walk_at "wg"
  refine ⟨_, Or.inl rfl, rfl, ?_⟩
  walk_at "wg"
  walk_at "wg"
  refine listM_lst ?_
  refine listM_lst ?_
  show F_Scheme [.lst cs, p, mi, ch, .lst ss, a] m _ _
  refine ⟨_, _, _, _, _, _, rfl, Or.inl ⟨?_, fun m' sub => ?_⟩⟩
  · intro x hx
    simp only [List.mem_cons, List.not_mem_nil, or_false] at hx
    rcases hx with rfl | rfl | rfl | rfl | rfl | rfl
    · exact ⟨_, h1.1⟩
    · exact ⟨_, h2.1⟩
    · exact ⟨_, h3.1⟩
    · exact ⟨_, h4.1⟩
    · exact ⟨_, h5.1⟩
    · exact ⟨_, h6.1⟩
  · rw [hd]
    intro ns gs hl
    exact h m' _ a sub rfl ⟨_, _, _, _, _, rfl⟩
theorem r__law_very_right : ∀ ds m Qd Qx, F_law_very_right ds m Qd Qx → w__law_very_right { nx := fun _ m' => Qd .non m', rt := Qd } (ds.map some ++ List.replicate (3 - ds.length) none) m := by
  rintro ds m Qd Qx ⟨rfl, h⟩
  unfold w__law_very_right
  walk_at "wg"
  refine ⟨small_line (by decide), fun p hp => ?_⟩
  refine ⟨small_line (by decide), fun q hq => ?_⟩
  refine ⟨_, _, rfl, ?_⟩
  have hpq : p ≠ q := fun z => by subst z; rw [Mem.up_same] at hq; cases hq
  have mp : ((m.up p []).up q [.str (Str.ofString "ab")]) p = some [] := by rw [Mem.up_ne hpq, Mem.up_same]
  have mq : ((m.up p []).up q [.str (Str.ofString "ab")]) q = some [.str (Str.ofString "ab")] := Mem.up_same
  generalize ((m.up p []).up q [.str (Str.ofString "ab")]) = m1 at mp mq ⊢
  walk_at "wg"
  refine ⟨small_line (by decide), small_line (by decide), ?_⟩
  refine ⟨_, _, _, _, _, _, _, rfl, rfl, Or.inr (Or.inl ⟨p, rfl, mp, ?_⟩)⟩
  refine ix_list rfl rfl ?_
  refine ⟨small_line (by decide), small_line (by decide), small_line (by decide), ?_⟩
  refine ⟨_, _, _, _, _, _, _, rfl, rfl, Or.inr (Or.inr ⟨q, _, rfl, rfl, rfl, rfl, rfl, mq, by decide, fun m2 sub => ?_⟩)⟩
  refine ix_list rfl rfl ?_
  refine ⟨small_line (by decide), ?_⟩
  have mp2 := sub p _ mp
  have mq2 := sub q _ mq
  walk_at "wg"
  refine ⟨by rw [mp2]; rfl, _, _, rfl, mp2, small_line (by decide), ?_⟩
  walk_at "wg"
  have mq3 : (m2.up p [.int 7]) q = some [.str (Str.ofString "ab")] := by rw [Mem.up_ne (Ne.symm hpq)]; exact mq2
  refine ⟨by rw [mq3]; rfl, _, _, rfl, mq3, small_line (by decide), ?_⟩
  have mp4 : ((m2.up p [.int 7]).up q [.str (Str.ofString "ab"), .int 8]) p = some [.int 7] := by rw [Mem.up_ne hpq, Mem.up_same]
  have mq4 : ((m2.up p [.int 7]).up q [.str (Str.ofString "ab"), .int 8]) q = some [.str (Str.ofString "ab"), .int 8] := Mem.up_same
  walk_at "wg"
  refine ⟨small_line (by decide), small_line (by decide), small_line (by decide), ?_⟩
  exact very_eq mp4 mq4 (h _)

end DL
namespace DL
open PySem L2 XO
local macro_rules | `(tactic| walk_at "wg") => `(tactic| ((try dsimp only); (try rw [a_hold]); (try simp only [List.map_cons, List.map_nil, List.length_cons, List.length_nil, List.cons_append, List.nil_append, List.replicate_succ, List.replicate_zero, Nat.reduceAdd, Nat.reduceSub]); (try simp only [↓a_test, ↓a_v0, ↓a_s0, ↓a_g0, ↓a_v1, ↓a_s1, ↓a_g1, ↓a_v2, ↓a_s2, ↓a_g2, ↓a_v3, ↓a_s3, ↓a_g3, ↓a_v4, ↓a_s4, ↓a_g4, ↓a_v5, ↓a_s5, ↓a_g5, ↓a_v6, ↓a_s6, ↓a_g6, ↓a_v7, ↓a_s7, ↓a_g7, ↓a_v8, ↓a_s8, ↓a_g8, ↓a_v9, ↓a_s9, ↓a_g9, ↓a_v10, ↓a_s10, ↓a_g10, ↓a_v11, ↓a_s11, ↓a_g11, ↓a_v12, ↓a_s12, ↓a_g12, ↓a_v13, ↓a_s13, ↓a_g13, ↓a_op, ↓a_c, ↓a_call, ↓a_callX, ↓a_call0, ↓a_nil, ↓a_cons, ↓a_bi, ↓a_tnot, ↓a_tor, ↓a_tand, ↓a_tru, ↓a_yes, ↓a_if, ↓a_and, ↓a_or, ↓a_not, ↓a_chain, ↓a_sl, ↓a_noPart, ↓a_part, ↓a_lst, ↓a_tup, ↓a_dct0, ↓a_own, ↓a_isT, ↓a_next, ↓a_seqH, ↓a_ret, ↓a_drop, ↓a_sif, ↓a_raise, ↓a_for, ↓a_iVar, ↓a_fld, ↓a_lc, ↓a_iEnumB, ↓a_iEnumS, ↓a_iSg, ↓a_iLst, ↓a_iTp, ↓a_join, ↓a_lenSet, ↓a_append, ↓a_put, ↓a_par, ↓a_unp, ↓a_meth, ↓a_make, ↓a_rg1, ↓a_gTup, ↓a_gNil, ↓a_gCons, ↓a_loopN, wipeD, List.map_cons, List.map_nil, List.length_cons, List.length_nil, List.cons_append, List.nil_append, List.replicate_succ, List.replicate_zero, List.append_nil, List.getElem?_cons_zero, List.getElem?_cons_succ, List.set_cons_zero, List.set_cons_succ, Nat.reduceAdd, Nat.reduceSub, Bool.not_true, Bool.not_false, reduceIte, Bool.false_eq_true, true_and])))
theorem isNon_ok {x : D} {m : Mem} {Q : D → Mem → Prop} (q : Q (.bl (isNonD x)) m) : dIsB false x .non m Q := by
  show Q (.bl (isNonD x ^^ false)) m
  rw [Bool.xor_false]
  exact q
theorem loop_ind {g : WG} {body : WS} {E : De} {P : List D → En0 → Mem → Prop} (hnil : ∀ ρ m, P [] ρ m → E.nx ρ m)
    (hcons : ∀ d ds ρ m, P (d :: ds) ρ m → (∀ ρ' m', P ds ρ' m' → wLoop g body E ds ρ' m') → g d ρ fun ρ1 => body { E with nx := wLoop g body E ds, ct := wLoop g body E ds, bk := E.nx } ρ1 m) :
    ∀ ds ρ m, P ds ρ m → wLoop g body E ds ρ m
  | [], ρ, m, h => by rw [a_loopN]; exact hnil ρ m h
  | d :: ds, ρ, m, h => by
    rw [a_loopC]
    exact hcons d ds ρ m h fun ρ' m' h' => loop_ind hnil hcons ds ρ' m' h'
theorem dNe_str {a b : Str} {m : Mem} {Q : D → Mem → Prop} (q : Q (.bl (!decide (a = b))) m) : dNe (.str a) (.str b) m Q := by
  show Q (.bl (decide (a = b) ^^ true)) m
  rw [Bool.xor_true]; exact q
/-- an odd thing -/
structure Odd (x : D) : Prop where
  lt : isLetter x = false
  fl : flatL x = true
  st : stepB x = false
  ok : okD x 2 = true
  wt : wtD x ≤ 2000
  ne : ∀ (m : Mem) (Q : D → Mem → Prop), Q (.bl true) m → dNeS x (.str (Str.ofString "a")) m Q
theorem ne_other {x : D} (h1 : SeqAt.shaped (py x) = true) (h2 : PyData.eqv (py x) (py (.str (Str.ofString "a"))) = false)
    (h3 : ∀ (m : Mem) (Q : D → Mem → Prop), (SeqAt.shaped (py x) = true ∧ SeqAt.shaped (py (.str (Str.ofString "a"))) = true ∧ Q (.bl (PyData.eqv (py x) (py (.str (Str.ofString "a"))) ^^ true)) m) → dNeS x (.str (Str.ofString "a")) m Q) :
    ∀ (m : Mem) (Q : D → Mem → Prop), Q (.bl true) m → dNeS x (.str (Str.ofString "a")) m Q := fun m Q q => h3 m Q ⟨h1, by decide +kernel, by rw [h2]; exact q⟩
theorem ne_s {z : Str} (h : z ≠ Str.ofString "a") : ∀ (m : Mem) (Q : D → Mem → Prop), Q (.bl true) m → dNeS (.str z) (.str (Str.ofString "a")) m Q := fun m Q q => by
  refine dNe_str ?_
  rw [decide_eq_false h]
  exact q
abbrev oddL : List D := [.non, .int 3, .bl true, .str (Str.ofString ""), .str (Str.ofString "ab"), .str (Str.ofString "A"), .lst [.str (Str.ofString "a")], .dct [] [], .tup [.str (Str.ofString "keep"), .str (Str.ofString "a")], .tup [.str (Str.ofString "add")], .tup [.str (Str.ofString "swap"), .str (Str.ofString "A")], .tup [.str (Str.ofString "swop"), .str (Str.ofString "a")], .tup []]
theorem odd_all : ∀ x ∈ oddL, Odd x := by
  intro x hx
  simp only [oddL, List.mem_cons, List.not_mem_nil, or_false] at hx
  rcases hx with rfl | rfl | rfl | rfl | rfl | rfl | rfl | rfl | rfl | rfl | rfl | rfl | rfl
  · exact ⟨by decide +kernel, by decide +kernel, by decide +kernel, by decide +kernel, by decide +kernel, ne_other (by decide +kernel) (by decide +kernel) fun m Q q => q⟩
  · exact ⟨by decide +kernel, by decide +kernel, by decide +kernel, by decide +kernel, by decide +kernel, ne_other (by decide +kernel) (by decide +kernel) fun m Q q => q⟩
  · exact ⟨by decide +kernel, by decide +kernel, by decide +kernel, by decide +kernel, by decide +kernel, ne_other (by decide +kernel) (by decide +kernel) fun m Q q => q⟩
  · exact ⟨by decide +kernel, by decide +kernel, by decide +kernel, by decide +kernel, by decide +kernel, ne_s (by decide +kernel)⟩
  · exact ⟨by decide +kernel, by decide +kernel, by decide +kernel, by decide +kernel, by decide +kernel, ne_s (by decide +kernel)⟩
  · exact ⟨by decide +kernel, by decide +kernel, by decide +kernel, by decide +kernel, by decide +kernel, ne_s (by decide +kernel)⟩
  · exact ⟨by decide +kernel, by decide +kernel, by decide +kernel, by decide +kernel, by decide +kernel, ne_other (by decide +kernel) (by decide +kernel) fun m Q q => q⟩
  · exact ⟨by decide +kernel, by decide +kernel, by decide +kernel, by decide +kernel, by decide +kernel, fun m Q q => q⟩
  · exact ⟨by decide +kernel, by decide +kernel, by decide +kernel, by decide +kernel, by decide +kernel, ne_other (by decide +kernel) (by decide +kernel) fun m Q q => q⟩
  · exact ⟨by decide +kernel, by decide +kernel, by decide +kernel, by decide +kernel, by decide +kernel, ne_other (by decide +kernel) (by decide +kernel) fun m Q q => q⟩
  · exact ⟨by decide +kernel, by decide +kernel, by decide +kernel, by decide +kernel, by decide +kernel, ne_other (by decide +kernel) (by decide +kernel) fun m Q q => q⟩
  · exact ⟨by decide +kernel, by decide +kernel, by decide +kernel, by decide +kernel, by decide +kernel, ne_other (by decide +kernel) (by decide +kernel) fun m Q q => q⟩
  · exact ⟨by decide +kernel, by decide +kernel, by decide +kernel, by decide +kernel, by decide +kernel, ne_other (by decide +kernel) (by decide +kernel) fun m Q q => q⟩
/-- repr of data that is good -/
theorem repr_ok {m : Mem} {x : D} {l : List D} {n : Nat} {Q : D → Mem → Prop} (hr : res m x = .lst l) (ok : okD (.lst l) n = true) (hn : n ≤ 50) (hw : wtD (.lst l) ≤ 1000000) (q : Q (.str (py (.lst l)).shown) m) : dReprM [x] m Q := ⟨l, hr, showsU ok hn hw, q⟩
theorem res_ok {m : Mem} {x : D} {n : Nat} (h : okD x n = true) : res m x = x := res_plain m x (shw x n h).plain
theorem two_ok {z : String} {x : D} (hz : okD (S z) 0 = true) (hx : okD x 2 = true) (hw : wtD x ≤ 2000) : okD (.lst [S z, x]) 3 = true ∧ wtD (.lst [S z, x]) ≤ 3000 := by
  refine ⟨?_, ?_⟩
  · simp only [okD, okA, Bool.and_eq_true, decide_eq_true_eq]
    have := okD.str hz
    exact ⟨by simp, ⟨this.1, this.2⟩, hx, trivial⟩
  · simp only [wtD, wtA]; omega
theorem c_letter1 {o a x y : D} {m : Mem} {Q : D → Mem → Prop} {Qx : XQ} (hp : Plan o a) (hx : ∃ n, okD x n = true) (hy : ∃ n, okD y n = true) (h : isLetter x = false) (q : Q (.lst [.str (Str.ofString "letter"), x]) m) : F_law_caught [o, .int 0, x, y] m Q Qx :=
  ⟨o, x, y, a, 0, rfl, hp, Or.inl ⟨rfl, o, x, y, rfl, hx, hy, Or.inl ⟨h, rfl, rfl, q⟩⟩⟩
theorem c_letter2 {o a x y : D} {m : Mem} {Q : D → Mem → Prop} {Qx : XQ} (hp : Plan o a) (hx : ∃ n, okD x n = true) (hy : ∃ n, okD y n = true) (h : isLetter x = true) (h2 : isLetter y = false) (q : Q (.lst [.str (Str.ofString "letter"), y]) m) : F_law_caught [o, .int 0, x, y] m Q Qx :=
  ⟨o, x, y, a, 0, rfl, hp, Or.inl ⟨rfl, o, x, y, rfl, hx, hy, Or.inr (Or.inl ⟨h, h2, rfl, rfl, q⟩)⟩⟩
theorem c_letter3 {o a : D} {m : Mem} {Q : D → Mem → Prop} {Qx : XQ} (hp : Plan o a) (q : Q (.lst [.str (Str.ofString "letter"), .str (Str.ofString "a")]) m) : F_law_caught [o, .int 0, .str (Str.ofString "a"), .str (Str.ofString "a")] m Q Qx :=
  ⟨o, _, _, a, 0, rfl, hp, Or.inl ⟨rfl, o, _, _, rfl, ⟨0, by decide +kernel⟩, ⟨0, by decide +kernel⟩, Or.inr (Or.inr ⟨_, rfl, rfl, by decide +kernel, rfl, rfl, q⟩)⟩⟩
theorem c_step1 {o a x y : D} {m : Mem} {Q : D → Mem → Prop} {Qx : XQ} (hp : Plan o a) (hx : ∃ n, okD x n = true) (hy : ∃ n, okD y n = true) (hf : flatL x = true) (h : stepB x = false) (q : Q (.lst [.str (Str.ofString "step"), x]) m) : F_law_caught [o, .int 1, x, y] m Q Qx :=
  ⟨o, x, y, a, 1, rfl, hp, Or.inr ⟨rfl, o, x, y, a, rfl, hp, hx, hy, hf, Or.inl ⟨h, Or.inr ⟨rfl, rfl, q⟩⟩⟩⟩
theorem c_step2 {o y : D} {m : Mem} {Q : D → Mem → Prop} {Qx : XQ} (hp : Plan o .non) (hy : ∃ n, okD y n = true) (q : Q (.lst [.str (Str.ofString "step"), .tup [.str (Str.ofString "turn")]]) m) : F_law_caught [o, .int 1, .tup [.str (Str.ofString "turn")], y] m Q Qx :=
  ⟨o, _, y, .non, 1, rfl, hp, Or.inr ⟨rfl, o, _, y, .non, rfl, hp, ⟨1, by decide +kernel⟩, hy, by decide +kernel, Or.inr (Or.inl ⟨rfl, rfl, Or.inr ⟨rfl, rfl, q⟩⟩)⟩⟩
theorem c_step3 {o a y : D} {m : Mem} {Q : D → Mem → Prop} {Qx : XQ} (hp : Plan o a) (hy : ∃ n, okD y n = true) (h : isLetter y = false ∨ y = .str (Str.ofString "a")) (q : Q (.lst [.str (Str.ofString "letter"), y]) m) : F_law_caught [o, .int 1, .tup [.str (Str.ofString "swap"), .str (Str.ofString "a")], y] m Q Qx :=
  ⟨o, _, y, a, 1, rfl, hp, Or.inr ⟨rfl, o, _, y, a, rfl, hp, ⟨1, by decide +kernel⟩, hy, by decide +kernel, Or.inr (Or.inr ⟨rfl, h, Or.inl ⟨rfl, rfl, q⟩⟩)⟩⟩
theorem r__law_odd_right : ∀ ds m Qd Qx, F_law_odd_right ds m Qd Qx → w__law_odd_right { nx := fun _ m' => Qd .non m', rt := Qd } (ds.map some ++ List.replicate (5 - ds.length) none) m := by
  rintro ds m Qd Qx ⟨o, a, rfl, hp, oka, h⟩
  unfold w__law_odd_right
  walk_at "wg"
  have okS : ∃ n, okD (.str (Str.ofString "a")) n = true := ⟨0, by decide +kernel⟩
  refine ⟨small_line (by decide), small_line (by decide), small_line (by decide), small_line (by decide), small_line (by decide), small_line (by decide), small_line (by decide), ?_⟩
  refine loop_ind (P := fun ds ρ m' => (∀ d ∈ ds, Odd d) ∧ m' = m ∧ ∃ r2 r3 r4, ρ = [some o, some a, r2, r3, r4]) ?_ ?_ _ _ _ ⟨odd_all, rfl, _, _, _, rfl⟩
  · rintro ρ m' ⟨_, rfl, r2, r3, r4, rfl⟩
    have fin : ∀ r3 : Option D, Hold (sSeq (sSet 3 (wLst (wCons (wCall F_law_caught (wCons (wVar 0) (wCons (wC (.int 0)) (wCons (wC (.str (Str.ofString "a"))) (wCons (wC (.str (Str.ofString "a"))) wNil))))) (wCons (wCall F_law_caught (wCons (wVar 0) (wCons (wC (.int 1)) (wCons (wTup (wCons (wC (.str (Str.ofString "swap"))) (wCons (wC (.str (Str.ofString "a"))) wNil))) (wCons (wC (.str (Str.ofString "a"))) wNil))))) wNil)))) (sRet (wOp dEq (wVar 3) (wLst (wCons (wLst (wCons (wC (.str (Str.ofString "letter"))) (wCons (wC (.str (Str.ofString "a"))) wNil))) (wCons (wLst (wCons (wC (.str (Str.ofString "letter"))) (wCons (wC (.str (Str.ofString "a"))) wNil))) wNil)))))) { nx := fun _ m' => Qd .non m', rt := Qd } [some o, some a, r2, r3, r4] m' := by
      intro r3
      walk_at "wg"
      refine c_letter3 hp ?_
      refine ⟨small_line (by decide), ?_⟩
      refine c_step3 hp okS (Or.inr rfl) ?_
      refine ⟨small_line (by decide), ?_⟩
      walk_at "wg"
      refine ⟨small_line (by decide), small_line (by decide), small_line (by decide), ?_⟩
      refine ⟨by decide +kernel, by decide +kernel, ?_⟩
      have e : PyData.eqv (py (.lst [.lst [.str (Str.ofString "letter"), .str (Str.ofString "a")], .lst [.str (Str.ofString "letter"), .str (Str.ofString "a")]])) (py (.lst [.lst [.str (Str.ofString "letter"), .str (Str.ofString "a")], .lst [.str (Str.ofString "letter"), .str (Str.ofString "a")]])) = true := by decide +kernel
      rw [e]
      exact h
    walk_at "wg"
    refine isNon_ok ?_
    cases e : isNonD a with
    | false =>
      walk_at "wg"
      exact fin r3
    | true =>
      have ea : a = .non := by cases a <;> first | rfl | cases e
      subst ea
      walk_at "wg"
      refine ⟨small_line (by decide), c_step2 hp okS ?_⟩
      refine ⟨small_line (by decide), small_line (by decide), by decide +kernel, by decide +kernel, ?_⟩
      have e : PyData.eqv (py (.lst [.str (Str.ofString "step"), .tup [.str (Str.ofString "turn")]])) (py (.lst [.str (Str.ofString "step"), .tup [.str (Str.ofString "turn")]])) = true := by decide +kernel
      rw [e]
      exact fin r3
  · rintro x ds ρ m' ⟨hall, rfl, r2, r3, r4, rfl⟩ ih
    have ox := hall x List.mem_cons_self
    have okx : ∃ n, okD x n = true := ⟨_, ox.ok⟩
    have nxt : ∀ r2 r3 r4, wLoop _ _ _ ds [some o, some a, r2, r3, r4] m' := fun r2 r3 r4 => ih _ _ ⟨fun d hd => hall d (List.mem_cons_of_mem _ hd), rfl, r2, r3, r4, rfl⟩
    clear ih
    generalize wLoop _ _ _ ds = NX at nxt ⊢
    have l1 := two_ok (z := "letter") (x := x) (by decide +kernel) ox.ok ox.wt
    walk_at "wg"
    refine ox.ne _ _ ?_
    walk_at "wg"
    refine c_letter1 hp okx okS ox.lt ?_
    refine repr_ok (res_ok l1.1) l1.1 (by omega) (Nat.le_trans l1.2 (by decide)) ?_
    refine ⟨small_line (by decide), ?_⟩
    refine repr_ok (res_ok l1.1) l1.1 (by omega) (Nat.le_trans l1.2 (by decide)) ?_
    refine dNe_str ?_
    rw [decide_eq_true rfl]
    walk_at "wg"
    refine c_letter1 hp okx okx ox.lt ?_
    refine c_letter2 hp okS okx (by decide +kernel) ox.lt ?_
    refine ⟨small_line (by decide), ?_⟩
    walk_at "wg"
    refine c_step1 hp okx ⟨0, by decide +kernel⟩ ox.fl ox.st ?_
    refine ⟨small_line (by decide), ?_⟩
    refine c_step3 hp okx (Or.inl ox.lt) ?_
    refine ⟨small_line (by decide), ?_⟩
    refine add_lst (by show 2 + 2 ≤ 1000000; decide) ?_
    walk_at "wg"
    refine ⟨small_line (by decide), small_line (by decide), small_line (by decide), small_line (by decide), small_line (by decide), ?_⟩
    have l2 := two_ok (z := "step") (x := x) (by decide +kernel) ox.ok ox.wt
    have okl : okD (.lst [.lst [.str (Str.ofString "letter"), x], .lst [.str (Str.ofString "letter"), x], .lst [.str (Str.ofString "step"), x], .lst [.str (Str.ofString "letter"), x]]) 4 = true := by
      have q1 := l1.1
      have q2 := l2.1
      simp only [okD, okA, Bool.and_eq_true, decide_eq_true_eq] at q1 q2 ⊢
      exact ⟨by simp, q1, q1, q2, q1, trivial⟩
    have wtl : wtD (.lst [.lst [.str (Str.ofString "letter"), x], .lst [.str (Str.ofString "letter"), x], .lst [.str (Str.ofString "step"), x], .lst [.str (Str.ofString "letter"), x]]) ≤ 1000000 := by
      have q1 := l1.2
      have q2 := l2.2
      simp only [wtD, wtA] at q1 q2 ⊢
      omega
    walk_at "wg"
    refine repr_ok (res_ok okl) okl (by omega) wtl ?_
    refine repr_ok (res_ok okl) okl (by omega) wtl ?_
    refine dNe_str ?_
    rw [decide_eq_true rfl]
    walk_at "wg"
    exact nxt _ _ _

end DL
namespace DL
open PySem L2 XO
local macro_rules | `(tactic| walk_at "wg") => `(tactic| ((try dsimp only); (try rw [a_hold]); (try simp only [List.map_cons, List.map_nil, List.length_cons, List.length_nil, List.cons_append, List.nil_append, List.replicate_succ, List.replicate_zero, Nat.reduceAdd, Nat.reduceSub]); (try simp only [↓a_test, ↓a_v0, ↓a_s0, ↓a_g0, ↓a_v1, ↓a_s1, ↓a_g1, ↓a_v2, ↓a_s2, ↓a_g2, ↓a_v3, ↓a_s3, ↓a_g3, ↓a_v4, ↓a_s4, ↓a_g4, ↓a_v5, ↓a_s5, ↓a_g5, ↓a_v6, ↓a_s6, ↓a_g6, ↓a_v7, ↓a_s7, ↓a_g7, ↓a_v8, ↓a_s8, ↓a_g8, ↓a_v9, ↓a_s9, ↓a_g9, ↓a_v10, ↓a_s10, ↓a_g10, ↓a_v11, ↓a_s11, ↓a_g11, ↓a_v12, ↓a_s12, ↓a_g12, ↓a_v13, ↓a_s13, ↓a_g13, ↓a_op, ↓a_c, ↓a_call, ↓a_callX, ↓a_call0, ↓a_nil, ↓a_cons, ↓a_bi, ↓a_tnot, ↓a_tor, ↓a_tand, ↓a_tru, ↓a_yes, ↓a_if, ↓a_and, ↓a_or, ↓a_not, ↓a_chain, ↓a_sl, ↓a_noPart, ↓a_part, ↓a_lst, ↓a_tup, ↓a_dct0, ↓a_own, ↓a_isT, ↓a_next, ↓a_seqH, ↓a_ret, ↓a_drop, ↓a_sif, ↓a_raise, ↓a_for, ↓a_iVar, ↓a_fld, ↓a_lc, ↓a_iEnumB, ↓a_iEnumS, ↓a_iSg, ↓a_iLst, ↓a_iTp, ↓a_join, ↓a_lenSet, ↓a_append, ↓a_put, ↓a_par, ↓a_unp, ↓a_meth, ↓a_make, ↓a_rg1, ↓a_gTup, ↓a_gNil, ↓a_gCons, ↓a_loopN, wipeD, List.map_cons, List.map_nil, List.length_cons, List.length_nil, List.cons_append, List.nil_append, List.replicate_succ, List.replicate_zero, List.append_nil, List.getElem?_cons_zero, List.getElem?_cons_succ, List.set_cons_zero, List.set_cons_succ, Nat.reduceAdd, Nat.reduceSub, Bool.not_true, Bool.not_false, reduceIte, Bool.false_eq_true, true_and])))
theorem l_is_list : ∀ ds m Q Qx, F_is_list ds m Q Qx → ds.length = 1 := by
  intro ds m Q Qx h
  unfold F_is_list at h
  (try unfold fun1 at h)
  repeat (rcases h with ⟨_, h⟩)
  all_goals (subst_vars; rfl)
theorem l_is_letter : ∀ ds m Q Qx, F_is_letter ds m Q Qx → ds.length = 1 := by
  intro ds m Q Qx h
  unfold F_is_letter at h
  (try unfold fun1 at h)
  repeat (rcases h with ⟨_, h⟩)
  all_goals (subst_vars; rfl)
theorem l_check_cost : ∀ ds m Q Qx, F_check_cost ds m Q Qx → ds.length = 2 := by
  intro ds m Q Qx h
  unfold F_check_cost at h
  (try unfold fun1 at h)
  repeat (rcases h with ⟨_, h⟩)
  all_goals (subst_vars; rfl)
theorem l__law_cell : ∀ ds m Q Qx, F_law_cell ds m Q Qx → ds.length = 2 := by
  intro ds m Q Qx h
  unfold F_law_cell at h
  (try unfold fun1 at h)
  repeat (rcases h with ⟨_, h⟩)
  all_goals (subst_vars; rfl)
theorem l__law_box : ∀ ds m Q Qx, F_law_box ds m Q Qx → ds.length = 1 := by
  intro ds m Q Qx h
  unfold F_law_box at h
  (try unfold fun1 at h)
  repeat (rcases h with ⟨_, h⟩)
  all_goals (subst_vars; rfl)
theorem l__law_take : ∀ ds m Q Qx, F_law_take ds m Q Qx → ds.length = 2 := by
  intro ds m Q Qx h
  unfold F_law_take at h
  (try unfold fun1 at h)
  repeat (rcases h with ⟨_, h⟩)
  all_goals (subst_vars; rfl)
theorem l__law_is_small : ∀ ds m Q Qx, F_law_is_small ds m Q Qx → ds.length = 3 := by
  intro ds m Q Qx h
  unfold F_law_is_small at h
  (try unfold fun1 at h)
  repeat (rcases h with ⟨_, h⟩)
  all_goals (subst_vars; rfl)
theorem l__law_is_cost : ∀ ds m Q Qx, F_law_is_cost ds m Q Qx → ds.length = 2 := by
  intro ds m Q Qx h
  unfold F_law_is_cost at h
  (try unfold fun1 at h)
  repeat (rcases h with ⟨_, h⟩)
  all_goals (subst_vars; rfl)
theorem l_is_lettered : ∀ ds m Q Qx, F_is_lettered ds m Q Qx → ds.length = 1 := by
  intro ds m Q Qx h
  unfold F_is_lettered at h
  (try unfold fun1 at h)
  repeat (rcases h with ⟨_, h⟩)
  all_goals (subst_vars; rfl)
theorem l_is_step : ∀ ds m Q Qx, F_is_step ds m Q Qx → ds.length = 1 := by
  intro ds m Q Qx h
  unfold F_is_step at h
  (try unfold fun1 at h)
  repeat (rcases h with ⟨_, h⟩)
  all_goals (subst_vars; rfl)
theorem l__law_model : ∀ ds m Q Qx, F_law_model ds m Q Qx → ds.length = 1 := by
  intro ds m Q Qx h
  unfold F_law_model at h
  (try unfold fun1 at h)
  repeat (rcases h with ⟨_, h⟩)
  all_goals (subst_vars; rfl)
theorem l__law_due_costs : ∀ ds m Q Qx, F_law_due_costs ds m Q Qx → ds.length = 1 := by
  intro ds m Q Qx h
  unfold F_law_due_costs at h
  (try unfold fun1 at h)
  repeat (rcases h with ⟨_, h⟩)
  all_goals (subst_vars; rfl)
theorem l__law_due_groups : ∀ ds m Q Qx, F_law_due_groups ds m Q Qx → ds.length = 2 := by
  intro ds m Q Qx h
  unfold F_law_due_groups at h
  (try unfold fun1 at h)
  repeat (rcases h with ⟨_, h⟩)
  all_goals (subst_vars; rfl)
theorem l__law_bent : ∀ ds m Q Qx, F_law_bent ds m Q Qx → ds.length = 2 := by
  intro ds m Q Qx h
  unfold F_law_bent at h
  (try unfold fun1 at h)
  repeat (rcases h with ⟨_, h⟩)
  all_goals (subst_vars; rfl)
theorem l_Scheme_swap_cost : ∀ ds m Q Qx, F_Scheme_swap_cost ds m Q Qx → ds.length = 3 := by
  intro ds m Q Qx h
  unfold F_Scheme_swap_cost at h
  (try unfold fun1 at h)
  repeat (rcases h with ⟨_, h⟩)
  all_goals (subst_vars; rfl)
theorem l_is_name : ∀ ds m Q Qx, F_is_name ds m Q Qx → ds.length = 1 := by
  intro ds m Q Qx h
  unfold F_is_name at h
  (try unfold fun1 at h)
  repeat (rcases h with ⟨_, h⟩)
  all_goals (subst_vars; rfl)
theorem l_is_group : ∀ ds m Q Qx, F_is_group ds m Q Qx → ds.length = 1 := by
  intro ds m Q Qx h
  unfold F_is_group at h
  (try unfold fun1 at h)
  repeat (rcases h with ⟨_, h⟩)
  all_goals (subst_vars; rfl)
theorem l__law_due : ∀ ds m Q Qx, F_law_due ds m Q Qx → ds.length = 1 := by
  intro ds m Q Qx h
  unfold F_law_due at h
  (try unfold fun1 at h)
  repeat (rcases h with ⟨_, h⟩)
  all_goals (subst_vars; rfl)
theorem l_Scheme_step_cost : ∀ ds m Q Qx, F_Scheme_step_cost ds m Q Qx → ds.length = 3 := by
  intro ds m Q Qx h
  unfold F_Scheme_step_cost at h
  (try unfold fun1 at h)
  repeat (rcases h with ⟨_, h⟩)
  all_goals (subst_vars; rfl)
theorem l_check_names : ∀ ds m Q Qx, F_check_names ds m Q Qx → ds.length = 1 := by
  intro ds m Q Qx h
  unfold F_check_names at h
  (try unfold fun1 at h)
  repeat (rcases h with ⟨_, h⟩)
  all_goals (subst_vars; rfl)
theorem l_checked_groups : ∀ ds m Q Qx, F_checked_groups ds m Q Qx → ds.length = 2 := by
  intro ds m Q Qx h
  unfold F_checked_groups at h
  (try unfold fun1 at h)
  repeat (rcases h with ⟨_, h⟩)
  all_goals (subst_vars; rfl)
theorem l__law_caught : ∀ ds m Q Qx, F_law_caught ds m Q Qx → ds.length = 4 := by
  intro ds m Q Qx h
  unfold F_law_caught at h
  (try unfold fun1 at h)
  repeat (rcases h with ⟨_, h⟩)
  all_goals (subst_vars; rfl)
theorem l__law_odd_right : ∀ ds m Q Qx, F_law_odd_right ds m Q Qx → ds.length = 2 := by
  intro ds m Q Qx h
  unfold F_law_odd_right at h
  (try unfold fun1 at h)
  repeat (rcases h with ⟨_, h⟩)
  all_goals (subst_vars; rfl)
theorem l__law_scheme : ∀ ds m Q Qx, F_law_scheme ds m Q Qx → ds.length = 1 := by
  intro ds m Q Qx h
  unfold F_law_scheme at h
  (try unfold fun1 at h)
  repeat (rcases h with ⟨_, h⟩)
  all_goals (subst_vars; rfl)
theorem l__law_told : ∀ ds m Q Qx, F_law_told ds m Q Qx → ds.length = 1 := by
  intro ds m Q Qx h
  unfold F_law_told at h
  (try unfold fun1 at h)
  repeat (rcases h with ⟨_, h⟩)
  all_goals (subst_vars; rfl)
theorem l__law_very_right : ∀ ds m Q Qx, F_law_very_right ds m Q Qx → ds.length = 0 := by
  intro ds m Q Qx h
  unfold F_law_very_right at h
  (try unfold fun1 at h)
  repeat (rcases h with ⟨_, h⟩)
  all_goals (subst_vars; rfl)
theorem l_law : ∀ ds m Q Qx, F_law ds m Q Qx → ds.length = 1 := lawFn_len
/-! what is told has a bound -/
def Fl.val : Fl → D
  | .part x => x
  | .name x => x
  | .twice x => x
  | .cost x => x
  | .group x => x
def KW (W : Nat) (x : D) : Prop := okD x 3 = true ∧ wtD x ≤ W
theorem kw_item {W : Nat} {x : D} {ds : List D} (h : KW W x) (hl : listB x = some ds) : ∀ d ∈ ds, KW W d := by
  intro d hd
  obtain ⟨h1, h2⟩ := h
  have w := wtD_mem hd
  rcases listB_cases hl with rfl | rfl
  · simp only [okD, Bool.and_eq_true] at h1
    simp only [wtD] at h2
    exact ⟨okD.up (okA.mem h1.2 d hd) (by omega), by omega⟩
  · simp only [okD, Bool.and_eq_true] at h1
    simp only [wtD] at h2
    exact ⟨okD.up (okA.mem h1.2 d hd) (by omega), by omega⟩
theorem dueNames_kw {W : Nat} {f : Fl} : ∀ (xs pre : List D), (∀ d ∈ xs, KW W d) → dueNames pre xs = some f → KW W f.val
  | [], _, _, h => by cases h
  | x :: xs, pre, hx, h => by
    unfold dueNames at h
    split at h
    · split at h
      · cases h; exact hx x List.mem_cons_self
      · exact dueNames_kw xs _ (fun d hd => hx d (List.mem_cons_of_mem _ hd)) h
    · cases h; exact hx x List.mem_cons_self
theorem dueCosts_kw {W : Nat} {f : Fl} {c : D} (hc : KW W c) (h : dueCosts c = some f) : KW W f.val := by
  unfold dueCosts at h
  split at h
  · cases h; exact hc
  · rename_i ds hl
    split at h
    · exact dueNames_kw ds [] (kw_item hc hl) h
    · cases h; exact hc
theorem dueFirst_kw {W : Nat} {f : Fl} {ns : List D} : ∀ (xs : List D), (∀ d ∈ xs, KW W d) → dueFirst ns xs = some f → KW W f.val
  | [], _, h => by cases h
  | x :: xs, hx, h => by
    unfold dueFirst at h
    split at h
    · exact dueFirst_kw xs (fun d hd => hx d (List.mem_cons_of_mem _ hd)) h
    · cases h; exact hx x List.mem_cons_self
theorem grp_kw {W : Nat} {g c : D} {z : Str} (hg : KW W g) (h : grpB g = some (z, c)) : KW W c := by
  unfold grpB at h
  split at h
  · rename_i ds hl
    have hi := kw_item hg hl
    unfold grpL at h
    split at h
    · split at h
      · cases h; exact hi _ (by simp)
      · cases h
    · cases h
  · cases h
theorem dueGroups_kw {W : Nat} {f : Fl} {ns : List D} : ∀ (gs : List D) (tk : List Nat), (∀ d ∈ gs, KW W d) → dueGroups ns tk gs = some f → KW W f.val
  | [], _, _, h => by cases h
  | g :: gs, tk, hx, h => by
    have hg := hx g List.mem_cons_self
    unfold dueGroups at h
    split at h
    · cases h; exact hg
    · rename_i z c e
      split at h
      · cases h; exact hg
      · split at h
        · exact dueGroups_kw gs _ (fun d hd => hx d (List.mem_cons_of_mem _ hd)) h
        · cases h; exact grp_kw hg e
theorem due_kw {W : Nat} {f : Fl} {c p mi ch s a : D} (h1 : KW W c) (h2 : KW W p) (h3 : KW W mi) (h4 : KW W ch) (h5 : KW W s) (h6 : KW W a) (h : due c p mi ch s a = some f) : KW W f.val := by
  unfold due at h
  cases e1 : dueCosts c with
  | some f1 => rw [e1] at h; cases h; exact dueCosts_kw h1 e1
  | none =>
    rw [e1] at h
    have h : andThen (dueFirst (itemsOr c) [p, mi, ch]) (andThen (dueSets (itemsOr c) s) (dueTurn (itemsOr c) a)) = some f := h
    cases e2 : dueFirst (itemsOr c) [p, mi, ch] with
    | some f1 =>
      rw [e2] at h; cases h
      refine dueFirst_kw _ ?_ e2
      intro d hd
      simp only [List.mem_cons, List.not_mem_nil, or_false] at hd
      rcases hd with rfl | rfl | rfl <;> assumption
    | none =>
      rw [e2] at h
      have h : andThen (dueSets (itemsOr c) s) (dueTurn (itemsOr c) a) = some f := h
      cases e3 : dueSets (itemsOr c) s with
      | some f1 =>
        rw [e3] at h; cases h
        unfold dueSets at e3
        split at e3
        · cases e3; exact h5
        · rename_i gs hl
          exact dueGroups_kw _ _ (kw_item h5 hl) e3
      | none =>
        rw [e3] at h
        have h : dueTurn (itemsOr c) a = some f := h
        unfold dueTurn at h
        split at h
        · cases h
        · cases h; exact h6
theorem told_ok {W : Nat} {o : Option Fl} (hW : W ≤ 100000) (h : ∀ f, o = some f → KW W f.val) : okD (.lst (told o)) 4 = true ∧ wtD (.lst (told o)) ≤ 1000000 := by
  have two : ∀ (z : String) (x : D), okD (S z) 0 = true → KW W x → okD (.lst [S z, x]) 4 = true ∧ wtD (.lst [S z, x]) ≤ 1000000 := by
    intro z x hz hx
    refine ⟨?_, ?_⟩
    · simp only [okD, okA, Bool.and_eq_true, decide_eq_true_eq]
      have := okD.str hz
      exact ⟨by simp, ⟨this.1, this.2⟩, hx.1, trivial⟩
    · have := hx.2
      simp only [wtD, wtA]; omega
  cases o with
  | none => exact ⟨by decide +kernel, by decide +kernel⟩
  | some f =>
    have hf := h f rfl
    cases f with
    | part x => exact two "part" x (by decide +kernel) hf
    | name x => exact two "name" x (by decide +kernel) hf
    | twice x => exact two "twice" x (by decide +kernel) hf
    | cost x => exact two "cost" x (by decide +kernel) hf
    | group x => exact two "group" x (by decide +kernel) hf
/-! the law -/
def At (p : Addr) (c : Int) (m : Mem) : Prop := ∃ l, m p = some l ∧ Box l c
theorem At.sub {p : Addr} {c : Int} {m m' : Mem} (h : At p c m) (s : Sub m m') : At p c m' := by
  obtain ⟨l, e, b⟩ := h
  exact ⟨l, s _ _ e, b⟩
def Itm (m : Mem) (x : D) (l : List D) : Prop := x = .lst l ∨ ∃ q, x = .box q ∧ m q = some l
theorem Itm.items {m : Mem} {x : D} {l : List D} (h : Itm m x l) : itemsD m x = some l := by
  rcases h with rfl | ⟨q, rfl, e⟩
  · rfl
  · exact e
theorem Itm.sub {m m' : Mem} {x : D} {l : List D} (h : Itm m x l) (s : Sub m m') : Itm m' x l := by
  rcases h with rfl | ⟨q, rfl, e⟩
  · exact Or.inl rfl
  · exact Or.inr ⟨q, rfl, s _ _ e⟩
theorem Itm.res {m : Mem} {x : D} {l : List D} {n : Nat} (h : Itm m x l) (ok : okD (.lst l) n = true) : res m x = .lst l := by
  rcases h with rfl | ⟨q, rfl, e⟩
  · exact res_ok ok
  · unfold DL.res
    rw [e]
theorem mdl_ok {w : Nat} {l : List D} (h : Mdl w l) (hw : w ≤ 30000) : okD (.lst l) 4 = true ∧ wtD (.lst l) ≤ 1000000 := by
  obtain ⟨c, p, mi, ch, s, a, rfl, h1, h2, h3, h4, h5, h6⟩ := h
  refine ⟨?_, ?_⟩
  · simp only [okD, okA, Bool.and_eq_true, decide_eq_true_eq]
    exact ⟨by simp, okD.up h1.1 (by omega), okD.up h2.1 (by omega), okD.up h3.1 (by omega), okD.up h4.1 (by omega), h5.1, okD.up h6.1 (by omega), trivial⟩
  · have := h1.2.1; have := h2.2; have := h3.2; have := h4.2; have := h5.2; have := h6.2
    simp only [wtD, wtA]; omega
theorem turn_ok {ns : List D} {a : D} (h : dueTurn ns a = none) (ha : MO a) : okD a 0 = true := by
  unfold dueTurn at h
  split at h
  · rename_i e
    rw [Bool.or_eq_true] at e
    rcases e with e | e
    · cases a <;> first | (cases e; done) | rfl
    · unfold costB at e
      rw [Bool.and_eq_true] at e
      have e := e.1
      cases a <;> first | (cases e; done) | skip
      have := okD.str ha.1
      simp only [okD, Bool.and_eq_true, decide_eq_true_eq]
      exact this
  · cases h
theorem due_turn {c p mi ch s a : D} (h : due c p mi ch s a = none) : dueTurn (itemsOr c) a = none := by
  unfold due at h
  cases e1 : dueCosts c with
  | some f1 => rw [e1] at h; cases h
  | none =>
    rw [e1] at h
    have h : andThen (dueFirst (itemsOr c) [p, mi, ch]) (andThen (dueSets (itemsOr c) s) (dueTurn (itemsOr c) a)) = none := h
    cases e2 : dueFirst (itemsOr c) [p, mi, ch] with
    | some f1 => rw [e2] at h; cases h
    | none =>
      rw [e2] at h
      have h : andThen (dueSets (itemsOr c) s) (dueTurn (itemsOr c) a) = none := h
      cases e3 : dueSets (itemsOr c) s with
      | some f1 => rw [e3] at h; cases h
      | none => rw [e3] at h; exact h
theorem r_law : ∀ ds m Qd Qx, F_law ds m Qd Qx → w_law { nx := fun _ m' => Qd .non m', rt := Qd } (ds.map some ++ List.replicate (8 - ds.length) none) m := by
  rintro ds m Qd Qx ⟨ns, rfl, hl, h⟩
  have hb : ∃ n : Int, (if (if (ns.length : Int) < 6 then (ns.length : Int) else 6) > 2 then (if (ns.length : Int) < 6 then (ns.length : Int) else 6) else 2) = n ∧ 0 ≤ n ∧ n ≤ 6 := by
    refine ⟨_, rfl, ?_, ?_⟩
    · split <;> split <;> omega
    · split <;> split <;> omega
  obtain ⟨n, en, hn0, hn6⟩ := hb
  unfold w_law
  walk_at "wg"
  refine ⟨?_, ?_⟩
  · show -(2 ^ 62) ≤ (if (if (ns.length : Int) < 6 then (ns.length : Int) else 6) > 2 then (if (ns.length : Int) < 6 then (ns.length : Int) else 6) else 2) ∧ (if (if (ns.length : Int) < 6 then (ns.length : Int) else 6) > 2 then (if (ns.length : Int) < 6 then (ns.length : Int) else 6) else 2) < 2 ^ 62
    rw [en]
    omega
  refine loop_ind (P := fun ds ρ m' => (∀ d ∈ ds, ∃ k : Int, d = .int k ∧ 0 ≤ k ∧ k < 1000) ∧ ∃ r1 r2 r3 r4 r5 r6 r7, ρ = [some (.scr ns), r1, r2, r3, r4, r5, r6, r7]) ?_ ?_ _ _ _ ⟨?_, none, none, none, none, none, none, none, rfl⟩
  · rintro ρ m' ⟨_, r1, r2, r3, r4, r5, r6, r7, rfl⟩
    walk_at "wg"
    exact ⟨rfl, h⟩
  · rintro d ds ρ m1 ⟨hd, r1, r2, r3, r4, r5, r6, r7, rfl⟩ ih
    obtain ⟨k, rfl, k0, k1⟩ := hd d List.mem_cons_self
    have nxt : ∀ m2 r1 r2 r3 r4 r5 r6 r7, wLoop _ _ _ ds [some (.scr ns), r1, r2, r3, r4, r5, r6, r7] m2 := fun m2 r1 r2 r3 r4 r5 r6 r7 => ih _ _ ⟨fun d hd' => hd d (List.mem_cons_of_mem _ hd'), r1, r2, r3, r4, r5, r6, r7, rfl⟩
    clear ih
    generalize wLoop _ _ _ ds = NX at nxt ⊢
    walk_at "wg"
    refine ⟨ns, k, rfl, k0, k1, fun i => ?_⟩
    refine ⟨i, rfl, fun p l hp hbx => ?_⟩
    walk_at "wg"
    refine ⟨p, 0, l, rfl, Mem.up_same, hbx, by decide, fun m2 l' hn hg => ?_⟩
    walk_at "wg"
    refine ⟨⟨by decide, by decide⟩, ?_⟩
    refine loop_ind (P := fun ds ρ m3 => (∃ c : Int, At p c m3 ∧ c + 70 * ds.length ≤ 600) ∧ ∃ r4 r5 r6 r7, ρ = [some (.scr ns), some (.int k), some (.box p), some (.lst l'), r4, r5, r6, r7]) ?_ ?_ _ _ _ ⟨⟨0 + 20, hn.2, by simp⟩, _, _, _, _, rfl⟩
    · rintro ρ m3 ⟨_, r4, r5, r6, r7, rfl⟩
      walk_at "wg"
      refine ⟨l', rfl, hg, fun m4 o a sub h5 hpl => ?_⟩
      obtain ⟨hM, c, q1, q2, q3, q4, a', rfl, hdue, _, _⟩ := hg
      have ea : a' = a := by simpa using h5
      subst ea
      obtain ⟨_, _, _, _, _, _, e, _, _, _, _, _, h6⟩ := hM
      cases e
      refine ix_list rfl rfl ?_
      refine ⟨o, a', rfl, hpl, turn_ok (due_turn hdue) h6, ?_⟩
      walk_at "wg"
      exact nxt _ _ _ _ _ _ _ _
    · rintro d2 ds2 ρ m3 ⟨⟨c, hAt, hc⟩, r4, r5, r6, r7, rfl⟩ ih
      have nxt2 : ∀ m4, (∃ c : Int, At p c m4 ∧ c + 70 * ds2.length ≤ 600) → ∀ r4 r5 r6 r7, wLoop _ _ _ ds2 [some (.scr ns), some (.int k), some (.box p), some (.lst l'), r4, r5, r6, r7] m4 := fun m4 hc r4 r5 r6 r7 => ih _ _ ⟨hc, r4, r5, r6, r7, rfl⟩
      clear ih nxt
      generalize wLoop _ _ _ ds2 = NX2 at nxt2 ⊢
      have hc : c + 70 * ((ds2.length : Int) + 1) ≤ 600 := by simpa using hc
      have hlen : (0 : Int) ≤ (ds2.length : Int) := Int.natCast_nonneg _
      walk_at "wg"
      obtain ⟨lb, hpb, hbx2⟩ := hAt
      walk_at "wg"
      refine ⟨p, 3, c, lb, rfl, hpb, hbx2, by omega, by decide, by decide, fun d3 m4 d0 d1 n4 => ?_⟩
      refine ⟨⟨by omega, by omega⟩, ?_⟩
      refine loop_ind (P := fun ds ρ m5 => ∃ (c' : Int) (w : Nat) (x : D) (l0 : List D) (r4 : Option D), At p c' m5 ∧ c' + 20 * ds.length ≤ c + 41 ∧ Itm m5 x l0 ∧ Mdl w l0 ∧ (w + 5000) * 2 ^ ds.length ≤ 32000 ∧ ρ = [some (.scr ns), some (.int k), some (.box p), some (.lst l'), r4, some x, r6, r7]) ?_ ?_ _ _ _ ⟨c + 1, 3000, _, l', _, n4.2, ?_, Or.inl rfl, hg.1, ?_, rfl⟩
      · rintro ρ m5 ⟨c', w, x, l0, r4, hAt5, hc5, hx, hM, hw, rfl⟩
        have hw : w + 5000 ≤ 32000 := by simpa using hw
        have hc5 : c' ≤ c + 41 := by simpa using hc5
        obtain ⟨okl, wtl⟩ := mdl_ok hM (by omega)
        walk_at "wg"
        refine repr_ok (hx.res okl) okl (by omega) wtl ?_
        obtain ⟨c1, p1, mi, ch, s, a, rfl, h1, h2, h3, h4, h5, h6⟩ := hM
        have hok : ∀ y ∈ [c1, p1, mi, ch, s, a], ∃ n, okD y n = true := by
          intro y hy
          simp only [List.mem_cons, List.not_mem_nil, or_false] at hy
          rcases hy with rfl | rfl | rfl | rfl | rfl | rfl
          · exact ⟨_, h1.1⟩
          · exact ⟨_, h2.1⟩
          · exact ⟨_, h3.1⟩
          · exact ⟨_, h4.1⟩
          · exact ⟨_, h5.1⟩
          · exact ⟨_, h6.1⟩
        have mo : ∀ {y : D}, MO y → KW 30000 y := fun hy => ⟨okD.up hy.1 (by omega), by have := hy.2; omega⟩
        obtain ⟨okt, wtt⟩ := told_ok (W := 30000) (o := due c1 p1 mi ch s a) (by decide) fun f hf => due_kw ⟨okD.up h1.1 (by omega), by have := h1.2.1; omega⟩ (mo h2) (mo h3) (mo h4) ⟨h5.1, by have := h5.2; omega⟩ (mo h6) hf
        refine ⟨x, c1, p1, mi, ch, s, a, rfl, hx.items, Or.inl ⟨hok, fun m6 sub => ?_⟩⟩
        refine ⟨_, _, rfl, ?_⟩
        walk_at "wg"
        refine repr_ok (res_ok okt) okt (by omega) wtt ?_
        refine ⟨x, c1, p1, mi, ch, s, a, rfl, (hx.sub sub).items, hok, ?_⟩
        refine repr_ok (res_ok okt) okt (by omega) wtt ?_
        refine dNe_str ?_
        rw [decide_eq_true rfl]
        walk_at "wg"
        refine repr_ok ((hx.sub sub).res okl) okl (by omega) wtl ?_
        refine dNe_str ?_
        rw [decide_eq_true rfl]
        walk_at "wg"
        exact nxt2 m6 ⟨c', hAt5.sub sub, by omega⟩ _ _ _ _
      · rintro d5 ds5 ρ m5 ⟨c', w, x, l0, r4, hAt5, hc5, hx, hM, hw, rfl⟩ ih
        have nxt3 : ∀ m6 (c' : Int) (w : Nat) (x : D) (l0 : List D) (r4 : Option D), At p c' m6 → c' + 20 * ds5.length ≤ c + 41 → Itm m6 x l0 → Mdl w l0 → (w + 5000) * 2 ^ ds5.length ≤ 32000 → wLoop _ _ _ ds5 [some (.scr ns), some (.int k), some (.box p), some (.lst l'), r4, some x, r6, r7] m6 := fun m6 c' w x l0 r4 h1 h2 h3 h4 h5 => ih _ _ ⟨c', w, x, l0, r4, h1, h2, h3, h4, h5, rfl⟩
        clear ih nxt2
        generalize wLoop _ _ _ ds5 = NX3 at nxt3 ⊢
        have hc5 : c' + 20 * ((ds5.length : Int) + 1) ≤ c + 41 := by simpa using hc5
        have hw : (w + 5000) * (2 ^ ds5.length * 2) ≤ 32000 := by rw [List.length_cons, Nat.pow_succ] at hw; exact hw
        have hpos : 0 < 2 ^ ds5.length * 2 := Nat.mul_pos (Nat.two_pow_pos _) (by decide)
        have hw3 : w + 5000 ≤ (w + 5000) * (2 ^ ds5.length * 2) := Nat.le_mul_of_pos_right _ hpos
        have hlen5 : (0 : Int) ≤ (ds5.length : Int) := Int.natCast_nonneg _
        walk_at "wg"
        obtain ⟨lb5, hpb5, hbx5⟩ := hAt5
        refine ⟨p, x, c', lb5, l0, w, rfl, hpb5, hbx5, by omega, hx.items, hM, by omega, fun m6 q l6 n6 hne hq hM6 => ?_⟩
        refine nxt3 m6 (c' + 20) (2 * w + 5000) _ l6 _ n6.2 (by omega) (Or.inr ⟨q, rfl, hq⟩) hM6 ?_
        rw [show 2 * w + 5000 + 5000 = (w + 5000) * 2 by omega, Nat.mul_assoc, Nat.mul_comm 2]
        exact hw
      · simp only [List.length_map, List.length_range]; omega
      · have e : d3.toNat = 0 ∨ d3.toNat = 1 ∨ d3.toNat = 2 := by omega
        simp only [List.length_map, List.length_range]
        rcases e with e | e | e <;> rw [e] <;> decide
  · intro d hd
    obtain ⟨i, hi, rfl⟩ := List.mem_map.mp hd
    have hi : i < (if (if (ns.length : Int) < 6 then (ns.length : Int) else 6) > 2 then (if (ns.length : Int) < 6 then (ns.length : Int) else 6) else 2).toNat := List.mem_range.mp hi
    rw [en] at hi
    exact ⟨_, rfl, by omega, by omega⟩

end DL
namespace DL
open PySem L2 XO
def top (i : Nat) : Stmt := PySem.Challenge.pw_seenchoices_k05_schemes_refused.main.body.getD i (.Pass ⟨0, 0, 0, 0⟩)
def inCls (s : Stmt) (j : Nat) : Stmt := match s with
  | .ClassDef _ _ _ body _ _ _ _ _ _ _ => body.getD j (.Pass ⟨0, 0, 0, 0⟩)
  | _ => .Pass ⟨0, 0, 0, 0⟩
theorem bt_all : bootBuiltins "all" = some (.builtin "all") := by decide +kernel
theorem bt_any : bootBuiltins "any" = some (.builtin "any") := by decide +kernel
theorem bt_enumerate : bootBuiltins "enumerate" = some (.type "enumerate") := by decide +kernel
theorem bt_isinstance : bootBuiltins "isinstance" = some (.builtin "isinstance") := by decide +kernel
theorem bt_len : bootBuiltins "len" = some (.builtin "len") := by decide +kernel
theorem bt_list : bootBuiltins "list" = some (.type "list") := by decide +kernel
theorem bt_max : bootBuiltins "max" = some (.builtin "max") := by decide +kernel
theorem bt_min : bootBuiltins "min" = some (.builtin "min") := by decide +kernel
theorem bt_range : bootBuiltins "range" = some (.type "range") := by decide +kernel
theorem bt_repr : bootBuiltins "repr" = some (.builtin "repr") := by decide +kernel
theorem bt_set : bootBuiltins "set" = some (.type "set") := by decide +kernel
theorem bt_sorted : bootBuiltins "sorted" = some (.builtin "sorted") := by decide +kernel
theorem bt_str : bootBuiltins "str" = some (.type "str") := by decide +kernel
theorem bt_tuple : bootBuiltins "tuple" = some (.type "tuple") := by decide +kernel
abbrev s_is_list : Stmt := top 13
theorem sc_is_list : FnScope ["value"] ["value"] (defScope s_is_list) := ⟨rfl, rfl, rfl, by decide +kernel, rfl, by decide +kernel, by decide +kernel⟩
abbrev s_is_letter : Stmt := top 14
theorem sc_is_letter : FnScope ["value"] ["value"] (defScope s_is_letter) := ⟨rfl, rfl, rfl, by decide +kernel, rfl, by decide +kernel, by decide +kernel⟩
abbrev s_check_cost : Stmt := top 22
theorem sc_check_cost : FnScope ["names", "cost"] ["names", "cost"] (defScope s_check_cost) := ⟨rfl, rfl, rfl, by decide +kernel, rfl, by decide +kernel, by decide +kernel⟩
abbrev s__law_cell : Stmt := top 28
theorem sc__law_cell : FnScope ["_law_script", "_law_k"] ["_law_script", "_law_k"] (defScope s__law_cell) := ⟨rfl, rfl, rfl, by decide +kernel, rfl, by decide +kernel, by decide +kernel⟩
abbrev s__law_box : Stmt := top 29
theorem sc__law_box : FnScope ["_law_cell_here"] ["_law_cell_here"] (defScope s__law_box) := ⟨rfl, rfl, rfl, by decide +kernel, rfl, by decide +kernel, by decide +kernel⟩
abbrev s__law_take : Stmt := top 30
theorem sc__law_take : FnScope ["_law_box_here", "_law_many", "_law_mixed", "_law_digit"] ["_law_box_here", "_law_many"] (defScope s__law_take) := ⟨rfl, rfl, rfl, by decide +kernel, rfl, by decide +kernel, by decide +kernel⟩
abbrev s__law_is_small : Stmt := top 33
theorem sc__law_is_small : FnScope ["_law_line", "_law_low", "_law_high", "_law_sign"] ["_law_line", "_law_low", "_law_high"] (defScope s__law_is_small) := ⟨rfl, rfl, rfl, by decide +kernel, rfl, by decide +kernel, by decide +kernel⟩
abbrev s__law_is_cost : Stmt := top 36
theorem sc__law_is_cost : FnScope ["_law_costs", "_law_name"] ["_law_costs", "_law_name"] (defScope s__law_is_cost) := ⟨rfl, rfl, rfl, by decide +kernel, rfl, by decide +kernel, by decide +kernel⟩
abbrev s_is_lettered : Stmt := top 15
theorem sc_is_lettered : FnScope ["value"] ["value"] (defScope s_is_lettered) := ⟨rfl, rfl, rfl, by decide +kernel, rfl, by decide +kernel, by decide +kernel⟩
abbrev s_is_step : Stmt := top 25
theorem sc_is_step : FnScope ["value"] ["value"] (defScope s_is_step) := ⟨rfl, rfl, rfl, by decide +kernel, rfl, by decide +kernel, by decide +kernel⟩
abbrev s__law_model : Stmt := top 31
theorem sc__law_model : FnScope ["_law_box_here", "_law_names", "_law_costs", "_law_edits", "_law_sets", "_law_k"] ["_law_box_here"] (defScope s__law_model) := ⟨rfl, rfl, rfl, by decide +kernel, rfl, by decide +kernel, by decide +kernel⟩
abbrev s__law_due_costs : Stmt := top 34
theorem sc__law_due_costs : FnScope ["_law_costs", "_law_at", "_law_item"] ["_law_costs"] (defScope s__law_due_costs) := ⟨rfl, rfl, rfl, by decide +kernel, rfl, by decide +kernel, by decide +kernel⟩
abbrev s__law_due_groups : Stmt := top 35
theorem sc__law_due_groups : FnScope ["_law_costs", "_law_sets", "_law_taken", "_law_item", "_law_at", "_law_sign"] ["_law_costs", "_law_sets"] (defScope s__law_due_groups) := ⟨rfl, rfl, rfl, by decide +kernel, rfl, by decide +kernel, by decide +kernel⟩
abbrev s__law_bent : Stmt := top 39
theorem sc__law_bent : FnScope ["_law_box_here", "_law_model_here", "_law_found", "_law_costs", "_law_odd", "_law_way", "_law_at", "_law_some", "_law_name", "_law_group", "_law_rows", "_law_spot"] ["_law_box_here", "_law_model_here"] (defScope s__law_bent) := ⟨rfl, rfl, rfl, by decide +kernel, rfl, by decide +kernel, by decide +kernel⟩
abbrev s_Scheme_swap_cost : Stmt := inCls (top 26) 10
theorem sc_Scheme_swap_cost : FnScope ["self", "one", "other", "letter", "letters", "cost"] ["self", "one", "other"] (defScope s_Scheme_swap_cost) := ⟨rfl, rfl, rfl, by decide +kernel, rfl, by decide +kernel, by decide +kernel⟩
abbrev s_is_name : Stmt := top 16
theorem sc_is_name : FnScope ["value"] ["value"] (defScope s_is_name) := ⟨rfl, rfl, rfl, by decide +kernel, rfl, by decide +kernel, by decide +kernel⟩
abbrev s_is_group : Stmt := top 23
theorem sc_is_group : FnScope ["value"] ["value"] (defScope s_is_group) := ⟨rfl, rfl, rfl, by decide +kernel, rfl, by decide +kernel, by decide +kernel⟩
abbrev s__law_due : Stmt := top 37
theorem sc__law_due : FnScope ["_law_model_here", "_law_costs", "_law_plus", "_law_minus", "_law_change", "_law_sets", "_law_about", "_law_found", "_law_name"] ["_law_model_here"] (defScope s__law_due) := ⟨rfl, rfl, rfl, by decide +kernel, rfl, by decide +kernel, by decide +kernel⟩
abbrev s_Scheme_step_cost : Stmt := inCls (top 26) 11
theorem sc_Scheme_step_cost : FnScope ["self", "step", "letter", "table"] ["self", "step", "letter"] (defScope s_Scheme_step_cost) := ⟨rfl, rfl, rfl, by decide +kernel, rfl, by decide +kernel, by decide +kernel⟩
abbrev s_check_names : Stmt := top 21
theorem sc_check_names : FnScope ["costs", "position", "cost"] ["costs"] (defScope s_check_names) := ⟨rfl, rfl, rfl, by decide +kernel, rfl, by decide +kernel, by decide +kernel⟩
abbrev s_checked_groups : Stmt := top 24
theorem sc_checked_groups : FnScope ["names", "groups", "found", "taken", "group", "letter"] ["names", "groups"] (defScope s_checked_groups) := ⟨rfl, rfl, rfl, by decide +kernel, rfl, by decide +kernel, by decide +kernel⟩
abbrev s__law_caught : Stmt := top 40
theorem sc__law_caught : FnScope ["_law_plan", "_law_way", "_law_one", "_law_other", "e"] ["_law_plan", "_law_way", "_law_one", "_law_other"] (defScope s__law_caught) := ⟨rfl, rfl, rfl, by decide +kernel, rfl, by decide +kernel, by decide +kernel⟩
abbrev s__law_odd_right : Stmt := top 42
theorem sc__law_odd_right : FnScope ["_law_plan", "_law_about", "_law_thing", "_law_found", "_law_due_here"] ["_law_plan", "_law_about"] (defScope s__law_odd_right) := ⟨rfl, rfl, rfl, by decide +kernel, rfl, by decide +kernel, by decide +kernel⟩
abbrev s_Scheme_init : Stmt := inCls (top 26) 0
theorem sc_Scheme_init : FnScope ["self", "costs", "add", "drop", "swap", "groups", "turn", "cost", "ordered"] ["self", "costs", "add", "drop", "swap", "groups", "turn"] (defScope s_Scheme_init) := ⟨rfl, rfl, rfl, by decide +kernel, rfl, by decide +kernel, by decide +kernel⟩
abbrev s__law_scheme : Stmt := top 32
theorem sc__law_scheme : FnScope ["_law_model_here", "_law_costs", "_law_plus", "_law_minus", "_law_change", "_law_sets", "_law_about"] ["_law_model_here"] (defScope s__law_scheme) := ⟨rfl, rfl, rfl, by decide +kernel, rfl, by decide +kernel, by decide +kernel⟩
abbrev s__law_told : Stmt := top 38
theorem sc__law_told : FnScope ["_law_model_here", "_law_costs", "_law_plus", "_law_minus", "_law_change", "_law_sets", "_law_about", "e"] ["_law_model_here"] (defScope s__law_told) := ⟨rfl, rfl, rfl, by decide +kernel, rfl, by decide +kernel, by decide +kernel⟩
abbrev s__law_very_right : Stmt := top 41
theorem sc__law_very_right : FnScope ["_law_bad", "_law_late", "_law_found"] [] (defScope s__law_very_right) := ⟨rfl, rfl, rfl, by decide +kernel, rfl, by decide +kernel, by decide +kernel⟩
abbrev s_law : Stmt := top 43
theorem sc_law : FnScope ["_law_script", "_law_k", "_law_box_here", "_law_model_here", "_law_lap", "_law_bent_here", "_law_held", "_law_found"] ["_law_script"] (defScope s_law) := ⟨rfl, rfl, rfl, by decide +kernel, rfl, by decide +kernel, by decide +kernel⟩
structure Txt (K : Fg) (mg : Str → Option Value) : Prop where
  z_all : mg "all" = none
  z_any : mg "any" = none
  z_enumerate : mg "enumerate" = none
  z_isinstance : mg "isinstance" = none
  z_len : mg "len" = none
  z_list : mg "list" = none
  z_max : mg "max" = none
  z_min : mg "min" = none
  z_range : mg "range" = none
  z_repr : mg "repr" = none
  z_set : mg "set" = none
  z_sorted : mg "sorted" = none
  z_str : mg "str" = none
  z_tuple : mg "tuple" = none
  c_LONGEST_NAME : ∃ t, mg "LONGEST_NAME" = some (.int 8 t)
  c_MOST_COSTS : ∃ t, mg "MOST_COSTS" = some (.int 4 t)
  c_STEPS_ALONE : ∃ a, mg "STEPS_ALONE" = some (.ref a) ∧ ∀ G, Rp K G (.ref a) (.tup ((["keep", "drop", "turn"] : List Str).map D.str))
  c_STEPS_WITH_LETTER : ∃ a, mg "STEPS_WITH_LETTER" = some (.ref a) ∧ ∀ G, Rp K G (.ref a) (.tup ((["add", "swap"] : List Str).map D.str))
structure ClsF (K : Fg) (mg : Str → Option Value) (C : Addr) : Prop where
  kl : Kl K mg "Scheme" C
  na_costs : NoAttr K C "_costs"
  na_add : NoAttr K C "_add"
  na_drop : NoAttr K C "_drop"
  na_swap : NoAttr K C "_swap"
  na_groups : NoAttr K C "_groups"
  na_turn : NoAttr K C "_turn"
def apart (K : Fg) (mg : Str → Option Value) : Prop := ApartAll K mg ["Duplicate", "InvalidGroup", "InvalidLetter", "InvalidName", "InvalidPart", "InvalidStep", "UnknownCost"]
section
variable {P : Program} {w : World} {K : Fg} {mg : Str → Option Value} {base : Heap}
theorem ok_is_list (T : Txt K mg) (FA : FunAt K mg "is_list" "is_list" s_is_list ["value"]) : Has P w K mg base 1 "is_list" ["value"] F_is_list :=
  has_of (W := fun _ _ _ _ => False) FA sc_is_list l_is_list (wb := w_is_list) (fun f cdv A oe s H E hX => (pb_one (ps_ret (pd_isiT2 hX.K hX.mg T.z_isinstance bt_isinstance T.z_list bt_list T.z_tuple bt_tuple (pd_var 0 hX.hN))))) r_is_list
theorem ok_is_letter (T : Txt K mg) (FA : FunAt K mg "is_letter" "is_letter" s_is_letter ["value"]) : Has P w K mg base 1 "is_letter" ["value"] F_is_letter :=
  has_of (W := fun _ _ _ _ => False) FA sc_is_letter l_is_letter (wb := w_is_letter) (fun f cdv A oe s H E hX => (pb_one (ps_ret (pd_and (pd_bi (b_isi hX.K) hX.mg T.z_isinstance bt_isinstance (pa_cons (pd_var 0 hX.hN) (pa_cons (pd_ty hX.mg T.z_str bt_str) pa_nil))) (pd_and (pd_cmp (c_eq hX.toFam) (pd_bi (b_len hX.K) hX.mg T.z_len bt_len (pa_cons (pd_var 0 hX.hN) pa_nil)) pd_int) (pd_one (pd_chain (c_le) (c_le) pd_str (pd_var 0 hX.hN) pd_str))))))) r_is_letter
theorem ok_check_cost (T : Txt K mg) (FA : FunAt K mg "check_cost" "check_cost" s_check_cost ["names", "cost"]) (SU : Sup P mg) (XC_UnknownCost : XC P K mg "UnknownCost" "label") : HasX P w K mg base 1 "check_cost" ["names", "cost"] F_check_cost :=
  has_ofX FA sc_check_cost l_check_cost (wb := w_check_cost) (fun f cdv A oe s H E hX tk => (pb_one (ps_if (pw_pt (pw_or (pt_not (pt_val (pd_bi (b_isi hX.K) hX.mg T.z_isinstance bt_isinstance (pa_cons (pd_var 1 hX.hN) (pa_cons (pd_ty hX.mg T.z_str bt_str) pa_nil))))) (pw_or1 (pt_cmp (c_notIn hX.K) (pd_var 1 hX.hN) (pd_var 0 hX.hN))))) (pb_one (ps_raiseX hX tk SU XC_UnknownCost (pd_var 1 hX.hN))) pb_nil))) r_check_cost
theorem ok__law_cell (T : Txt K mg) (FA : FunAt K mg "_law_cell" "_law_cell" s__law_cell ["_law_script", "_law_k"]) : Has P w K mg base 1 "_law_cell" ["_law_script", "_law_k"] F_law_cell :=
  has_of (W := fun _ _ _ _ => False) FA sc__law_cell l__law_cell (wb := w__law_cell) (fun f cdv A oe s H E hX => (pb_cons (ps_if (pt_cmp (c_lt) (pd_var 1 hX.hN) (pd_bi (b_len hX.K) hX.mg T.z_len bt_len (pa_cons (pd_var 0 hX.hN) pa_nil))) (pb_one (ps_ret (pd_ix hX.K (pd_var 0 hX.hN) (pd_var 1 hX.hN)))) pb_nil) (pb_one (ps_ret (pd_add hX.K (pd_mul pd_int (pd_var 1 hX.hN)) pd_int))))) r__law_cell
theorem ok__law_box (T : Txt K mg) (FA : FunAt K mg "_law_box" "_law_box" s__law_box ["_law_cell_here"]) : Has P w K mg base 1 "_law_box" ["_law_cell_here"] F_law_box :=
  has_of (W := fun _ _ _ _ => False) FA sc__law_box l__law_box (wb := w__law_box) (fun f cdv A oe s H E hX => (pb_one (ps_ret (pd_own (pa_cons (pd_bi (b_max hX.calm) hX.mg T.z_max bt_max (pa_cons pd_int (pa_cons (pd_sub (pd_var 0 hX.hN) (pd_pow pd_int pd_int)) pa_nil))) (pa_cons (pd_mod (pd_var 0 hX.hN) pd_int) (pa_cons pd_int pa_nil))))))) r__law_box
theorem ok__law_take (T : Txt K mg) (FA : FunAt K mg "_law_take" "_law_take" s__law_take ["_law_box_here", "_law_many"]) : Has P w K mg base 1 "_law_take" ["_law_box_here", "_law_many"] F_law_take :=
  has_of (W := fun _ _ _ _ => False) FA sc__law_take l__law_take (wb := w__law_take) (fun f cdv A oe s H E hX => (pb_cons (ps_if (pt_cmp (c_gt) (pd_ix hX.K (pd_var 0 hX.hN) pd_int) pd_int) (pb_cons (ps_set 3 hX.hN hX.nd (pd_mod (pd_ix hX.K (pd_var 0 hX.hN) pd_int) (pd_var 1 hX.hN))) (pb_cons (ps_put (pd_div (pd_ix hX.K (pd_var 0 hX.hN) pd_int) (pd_var 1 hX.hN)) (pd_var 0 hX.hN) pd_int) (pb_one (ps_ret (pd_var 3 hX.hN))))) pb_nil) (pb_cons (ps_put (pd_add hX.K (pd_ix hX.K (pd_var 0 hX.hN) pd_int) pd_int) (pd_var 0 hX.hN) pd_int) (pb_cons (ps_set 2 hX.hN hX.nd (pd_mod (pd_pow (pd_add hX.K (pd_add hX.K (pd_ix hX.K (pd_var 0 hX.hN) pd_int) (pd_mul pd_int (pd_ix hX.K (pd_var 0 hX.hN) pd_int))) pd_int) pd_int) pd_int)) (pb_cons (ps_set 2 hX.hN hX.nd (pd_mod (pd_pow (pd_add hX.K (pd_var 2 hX.hN) (pd_mul pd_int (pd_ix hX.K (pd_var 0 hX.hN) pd_int))) pd_int) pd_int)) (pb_one (ps_ret (pd_mod (pd_div (pd_var 2 hX.hN) pd_int) (pd_var 1 hX.hN))))))))) r__law_take
theorem ok__law_is_small (T : Txt K mg) (FA : FunAt K mg "_law_is_small" "_law_is_small" s__law_is_small ["_law_line", "_law_low", "_law_high"]) : Has P w K mg base 1 "_law_is_small" ["_law_line", "_law_low", "_law_high"] F_law_is_small :=
  has_of (W := fun _ _ _ _ => False) FA sc__law_is_small l__law_is_small (wb := w__law_is_small) (fun f cdv A oe s H E hX => (pb_cons (ps_if (pw_pt (pw_or (pt_not (pt_val (pd_bi (b_isi hX.K) hX.mg T.z_isinstance bt_isinstance (pa_cons (pd_var 0 hX.hN) (pa_cons (pd_ty hX.mg T.z_str bt_str) pa_nil))))) (pw_or1 (pt_not (pt_chainD (c_le) (c_le) (pd_var 1 hX.hN) (pd_bi (b_len hX.K) hX.mg T.z_len bt_len (pa_cons (pd_var 0 hX.hN) pa_nil)) (pd_var 2 hX.hN)))))) (pb_one (ps_ret pd_bl)) pb_nil) (pb_one (ps_ret (pd_cmp (c_eqNil hX.toFam) (pd_lc (own := [(("_law_sign" : Str), 3)]) hX.hN hX.calm hX.nd (pi_sg (pd_var 0 hX.hN)) (fun _ => blkOk_by (sc := defScope s__law_is_small) (by decide +kernel)) (pg_name 3 (hX.blk _).hN hX.nd) (pts_one (pt_cmp (c_notIn (hX.blk _).K) (pd_var 3 (hX.blk _).hN) pd_str)) (pd_var 3 (hX.blk _).hN)) (pd_lst pa_nil)))))) r__law_is_small
theorem ok__law_is_cost (T : Txt K mg) (FA : FunAt K mg "_law_is_cost" "_law_is_cost" s__law_is_cost ["_law_costs", "_law_name"]) : Has P w K mg base 1 "_law_is_cost" ["_law_costs", "_law_name"] F_law_is_cost :=
  has_of (W := fun _ _ _ _ => False) FA sc__law_is_cost l__law_is_cost (wb := w__law_is_cost) (fun f cdv A oe s H E hX => (pb_one (ps_ret (pd_and (pd_bi (b_isi hX.K) hX.mg T.z_isinstance bt_isinstance (pa_cons (pd_var 1 hX.hN) (pa_cons (pd_ty hX.mg T.z_str bt_str) pa_nil))) (pd_one (pd_cmp (c_in hX.K) (pd_var 1 hX.hN) (pd_var 0 hX.hN))))))) r__law_is_cost
theorem ok_is_lettered (T : Txt K mg) (FA : FunAt K mg "is_lettered" "is_lettered" s_is_lettered ["value"]) (h_is_letter : Has P w K mg base 1 "is_letter" ["value"] F_is_letter) : Has P w K mg base 2 "is_lettered" ["value"] F_is_lettered :=
  has_of (W := fun _ _ _ _ => False) FA sc_is_lettered l_is_lettered (wb := w_is_lettered) (fun f cdv A oe s H E hX => (pb_cons (ps_if (pt_not (pt_val (pd_bi (b_isi hX.K) hX.mg T.z_isinstance bt_isinstance (pa_cons (pd_var 0 hX.hN) (pa_cons (pd_ty hX.mg T.z_str bt_str) pa_nil))))) (pb_one (ps_ret pd_bl)) pb_nil) (pb_one (ps_ret (pd_or (pd_cmp (c_eq hX.toFam) (pd_var 0 hX.hN) pd_str) (pd_one (pd_and (pd_m0 m_isascii PySem.F.slot_str_isascii PySem.F.type_str_isascii (pd_var 0 hX.hN)) (pd_and (pd_m0 m_isalpha PySem.F.slot_str_isalpha PySem.F.type_str_isalpha (pd_var 0 hX.hN)) (pd_one (pd_m0 m_islower PySem.F.slot_str_islower PySem.F.type_str_islower (pd_var 0 hX.hN))))))))))) r_is_lettered
theorem ok_is_step (T : Txt K mg) (FA : FunAt K mg "is_step" "is_step" s_is_step ["value"]) (h_is_list : Has P w K mg base 1 "is_list" ["value"] F_is_list) (h_is_letter : Has P w K mg base 1 "is_letter" ["value"] F_is_letter) : Has P w K mg base 2 "is_step" ["value"] F_is_step :=
  has_of (W := fun _ _ _ _ => False) FA sc_is_step l_is_step (wb := w_is_step) (fun f cdv A oe s H E hX => (pb_cons (ps_if (pw_pt (pw_or (pt_not (pt_val (pd_own_call hX h_is_list (pa_cons (pd_var 0 hX.hN) pa_nil)))) (pw_or1 (pt_not (pt_tru hX.K (pd_var 0 hX.hN)))))) (pb_one (ps_ret pd_bl)) pb_nil) (pb_cons (ps_if (pt_cmp (c_in hX.K) (pd_ix hX.K (pd_var 0 hX.hN) pd_int) (pd_globR hX.mg T.c_STEPS_ALONE)) (pb_one (ps_ret (pd_cmp (c_eq hX.toFam) (pd_bi (b_len hX.K) hX.mg T.z_len bt_len (pa_cons (pd_var 0 hX.hN) pa_nil)) pd_int))) pb_nil) (pb_one (ps_ret (pd_and (pd_cmp (c_in hX.K) (pd_ix hX.K (pd_var 0 hX.hN) pd_int) (pd_globR hX.mg T.c_STEPS_WITH_LETTER)) (pd_and (pd_cmp (c_eq hX.toFam) (pd_bi (b_len hX.K) hX.mg T.z_len bt_len (pa_cons (pd_var 0 hX.hN) pa_nil)) pd_int) (pd_one (pd_own_call hX h_is_letter (pa_cons (pd_ix hX.K (pd_var 0 hX.hN) pd_int) pa_nil)))))))))) r_is_step
theorem ok__law_model (T : Txt K mg) (FA : FunAt K mg "_law_model" "_law_model" s__law_model ["_law_box_here"]) (h__law_take : Has P w K mg base 1 "_law_take" ["_law_box_here", "_law_many"] F_law_take) : Has P w K mg base 2 "_law_model" ["_law_box_here"] F_law_model :=
  has_of (W := fun _ _ _ _ => False) FA sc__law_model l__law_model (wb := w__law_model) (fun f cdv A oe s H E hX => (pb_cons (ps_set 1 hX.hN hX.nd (pd_lst (pa_cons (pd_lst (pa_cons pd_str (pa_cons pd_str (pa_cons pd_str (pa_cons pd_str pa_nil))))) (pa_cons (pd_lst (pa_cons pd_str (pa_cons pd_str (pa_cons pd_str (pa_cons pd_str pa_nil))))) (pa_cons (pd_lst (pa_cons pd_str (pa_cons pd_str (pa_cons pd_str (pa_cons pd_str pa_nil))))) pa_nil))))) (pb_cons (ps_set 2 hX.hN hX.nd (pd_ix hX.K (pd_var 1 hX.hN) (pd_own_call hX h__law_take (pa_cons (pd_var 0 hX.hN) (pa_cons pd_int pa_nil))))) (pb_cons (ps_set 2 hX.hN hX.nd (pd_sl hX.K (pd_var 2 hX.hN) po_none (po_some (pd_add hX.K pd_int (pd_own_call hX h__law_take (pa_cons (pd_var 0 hX.hN) (pa_cons pd_int pa_nil))))))) (pb_cons (ps_setLc (i := 3) (own := [(("_law_k" : Str), 5)]) hX.hN hX.calm hX.nd rfl (fun _ => rfl) (fun _ => sw_true rfl rfl rfl (by decide +kernel)) (pi_rg1 hX.mg T.z_range (pa_cons pd_int pa_nil)) (fun _ => blkOk_by (sc := defScope s__law_model) (by decide +kernel)) (pg_name 5 (hX.blk _).hN hX.nd) pts_nil (pd_ix (hX.blk _).K (pd_var 2 (hX.blk _).hN) (pd_own_call (hX.blk _) h__law_take (pa_cons (pd_var 0 (hX.blk _).hN) (pa_cons (pd_bi (b_len (hX.blk _).K) (hX.blk _).mg T.z_len bt_len (pa_cons (pd_var 2 (hX.blk _).hN) pa_nil)) pa_nil))))) (pb_cons (ps_set 4 hX.hN hX.nd (pd_own (pa_cons (pd_lst pa_nil) (pa_cons (pd_lst (pa_cons (pd_tup (pa_cons pd_str (pa_cons (pd_ix hX.K (pd_var 3 hX.hN) pd_int) pa_nil))) pa_nil)) (pa_cons (pd_lst (pa_cons (pd_tup (pa_cons pd_str (pa_cons (pd_ix hX.K (pd_var 3 hX.hN) pd_int) pa_nil))) pa_nil)) (pa_cons (pd_lst (pa_cons (pd_tup (pa_cons pd_str (pa_cons (pd_ix hX.K (pd_var 3 hX.hN) pd_int) pa_nil))) (pa_cons (pd_tup (pa_cons pd_str (pa_cons (pd_ix hX.K (pd_var 3 hX.hN) pd_int) pa_nil))) pa_nil))) pa_nil)))))) (pb_cons (ps_appendD hX.K (pd_var 4 hX.hN) (pa_cons (pd_lst (pa_cons (pd_tup (pa_cons pd_str (pa_cons (pd_ix hX.K (pd_var 3 hX.hN) pd_int) pa_nil))) (pa_cons (pd_tup (pa_cons pd_str (pa_cons (pd_ix hX.K (pd_var 3 hX.hN) pd_int) pa_nil))) (pa_cons (pd_tup (pa_cons pd_str (pa_cons (pd_ix hX.K (pd_var 3 hX.hN) pd_int) pa_nil))) (pa_cons (pd_tup (pa_cons pd_str (pa_cons (pd_ix hX.K (pd_var 3 hX.hN) pd_int) pa_nil))) pa_nil))))) pa_nil)) (pb_cons (ps_appendD hX.K (pd_var 4 hX.hN) (pa_cons (pd_lst (pa_cons (pd_tup (pa_cons pd_str (pa_cons (pd_ix hX.K (pd_var 3 hX.hN) pd_int) pa_nil))) (pa_cons (pd_tup (pa_cons pd_str (pa_cons (pd_ix hX.K (pd_var 3 hX.hN) pd_int) pa_nil))) pa_nil))) pa_nil)) (pb_cons (ps_set 4 hX.hN hX.nd (pd_ix hX.K (pd_var 4 hX.hN) (pd_own_call hX h__law_take (pa_cons (pd_var 0 hX.hN) (pa_cons pd_int pa_nil))))) (pb_one (ps_ret (pd_lst (pa_cons (pd_var 2 hX.hN) (pa_cons (pd_ix hX.K (pd_var 3 hX.hN) pd_int) (pa_cons (pd_ix hX.K (pd_var 3 hX.hN) pd_int) (pa_cons (pd_ix hX.K (pd_var 3 hX.hN) pd_int) (pa_cons (pd_var 4 hX.hN) (pa_cons (pd_ix hX.K (pd_lst (pa_cons pd_non (pa_cons (pd_ix hX.K (pd_var 3 hX.hN) pd_int) pa_nil))) (pd_own_call hX h__law_take (pa_cons (pd_var 0 hX.hN) (pa_cons pd_int pa_nil)))) pa_nil)))))))))))))))))) r__law_model
theorem ok__law_due_costs (T : Txt K mg) (FA : FunAt K mg "_law_due_costs" "_law_due_costs" s__law_due_costs ["_law_costs"]) (h__law_is_small : Has P w K mg base 1 "_law_is_small" ["_law_line", "_law_low", "_law_high"] F_law_is_small) : Has P w K mg base 2 "_law_due_costs" ["_law_costs"] F_law_due_costs :=
  has_of (W := fun _ _ _ _ => False) FA sc__law_due_costs l__law_due_costs (wb := w__law_due_costs) (fun f cdv A oe s H E hX => (pb_cons (ps_if (pw_pt (pw_or (pt_not (pt_val (pd_isiT2 hX.K hX.mg T.z_isinstance bt_isinstance T.z_list bt_list T.z_tuple bt_tuple (pd_var 0 hX.hN)))) (pw_or1 (pt_not (pt_chainD (c_le) (c_le) pd_int (pd_bi (b_len hX.K) hX.mg T.z_len bt_len (pa_cons (pd_var 0 hX.hN) pa_nil)) pd_int))))) (pb_one (ps_ret (pd_lst (pa_cons pd_str (pa_cons (pd_var 0 hX.hN) pa_nil))))) pb_nil) (pb_cons (ps_for (fun _ => PassesOwn.never) hX.calm (pi_enumB hX.K hX.mg T.z_enumerate (pa_cons (pd_var 0 hX.hN) pa_nil)) (pg_tup hX.K hX.calm (pgs_cons (pg_name 1 hX.hN hX.nd) (pgs_cons (pg_name 2 hX.hN hX.nd) pgs_nil))) (pb_cons (ps_if (pt_not (pt_val (pd_own_call hX h__law_is_small (pa_cons (pd_var 2 hX.hN) (pa_cons pd_int (pa_cons pd_int pa_nil)))))) (pb_one (ps_ret (pd_lst (pa_cons pd_str (pa_cons (pd_var 2 hX.hN) pa_nil))))) pb_nil) (pb_one (ps_if (pt_cmp (c_in hX.K) (pd_var 2 hX.hN) (pd_sl hX.K (pd_var 0 hX.hN) po_none (po_some (pd_var 1 hX.hN)))) (pb_one (ps_ret (pd_lst (pa_cons pd_str (pa_cons (pd_var 2 hX.hN) pa_nil))))) pb_nil)))) (pb_one (ps_ret (pd_lst pa_nil)))))) r__law_due_costs
theorem ok__law_due_groups (T : Txt K mg) (FA : FunAt K mg "_law_due_groups" "_law_due_groups" s__law_due_groups ["_law_costs", "_law_sets"]) (h__law_is_small : Has P w K mg base 1 "_law_is_small" ["_law_line", "_law_low", "_law_high"] F_law_is_small) (h__law_is_cost : Has P w K mg base 1 "_law_is_cost" ["_law_costs", "_law_name"] F_law_is_cost) : Has P w K mg base 2 "_law_due_groups" ["_law_costs", "_law_sets"] F_law_due_groups :=
  has_of (W := fun _ _ _ _ => False) FA sc__law_due_groups l__law_due_groups (wb := w__law_due_groups) (fun f cdv A oe s H E hX => (pb_cons (ps_if (pt_not (pt_val (pd_isiT2 hX.K hX.mg T.z_isinstance bt_isinstance T.z_list bt_list T.z_tuple bt_tuple (pd_var 1 hX.hN)))) (pb_one (ps_ret (pd_lst (pa_cons pd_str (pa_cons (pd_var 1 hX.hN) pa_nil))))) pb_nil) (pb_cons (ps_set 2 hX.hN hX.nd pd_str) (pb_cons (ps_for (fun _ => PassesOwn.never) hX.calm (pi_var hX.K 1 hX.hN) (pg_name 3 hX.hN hX.nd) (pb_cons (ps_if (pw_pt (pw_or (pt_not (pt_val (pd_isiT2 hX.K hX.mg T.z_isinstance bt_isinstance T.z_list bt_list T.z_tuple bt_tuple (pd_var 3 hX.hN)))) (pw_or (pt_cmp (c_ne hX.toFam) (pd_bi (b_len hX.K) hX.mg T.z_len bt_len (pa_cons (pd_var 3 hX.hN) pa_nil)) pd_int) (pw_or1 (pt_not (pt_val (pd_own_call hX h__law_is_small (pa_cons (pd_ix hX.K (pd_var 3 hX.hN) pd_int) (pa_cons pd_int (pa_cons pd_int pa_nil)))))))))) (pb_one (ps_ret (pd_lst (pa_cons pd_str (pa_cons (pd_var 3 hX.hN) pa_nil))))) pb_nil) (pb_cons (ps_for (fun _ => PassesOwn.never) hX.calm (pi_enumS hX.mg T.z_enumerate (pa_cons (pd_ix hX.K (pd_var 3 hX.hN) pd_int) pa_nil)) (pg_tup hX.K hX.calm (pgs_cons (pg_name 4 hX.hN hX.nd) (pgs_cons (pg_name 5 hX.hN hX.nd) pgs_nil))) (pb_one (ps_if (pw_pt (pw_or (pt_cmp (c_in hX.K) (pd_var 5 hX.hN) (pd_var 2 hX.hN)) (pw_or1 (pt_cmp (c_in hX.K) (pd_var 5 hX.hN) (pd_sl hX.K (pd_ix hX.K (pd_var 3 hX.hN) pd_int) po_none (po_some (pd_var 4 hX.hN))))))) (pb_one (ps_ret (pd_lst (pa_cons pd_str (pa_cons (pd_var 3 hX.hN) pa_nil))))) pb_nil))) (pb_cons (ps_if (pt_not (pt_val (pd_own_call hX h__law_is_cost (pa_cons (pd_var 0 hX.hN) (pa_cons (pd_ix hX.K (pd_var 3 hX.hN) pd_int) pa_nil))))) (pb_one (ps_ret (pd_lst (pa_cons pd_str (pa_cons (pd_ix hX.K (pd_var 3 hX.hN) pd_int) pa_nil))))) pb_nil) (pb_one (ps_set 2 hX.hN hX.nd (pd_add hX.K (pd_var 2 hX.hN) (pd_ix hX.K (pd_var 3 hX.hN) pd_int)))))))) (pb_one (ps_ret (pd_lst pa_nil))))))) r__law_due_groups
theorem ok__law_bent (T : Txt K mg) (FA : FunAt K mg "_law_bent" "_law_bent" s__law_bent ["_law_box_here", "_law_model_here"]) (h__law_take : Has P w K mg base 1 "_law_take" ["_law_box_here", "_law_many"] F_law_take) : Has P w K mg base 2 "_law_bent" ["_law_box_here", "_law_model_here"] F_law_bent :=
  has_of (W := fun _ _ _ _ => False) FA sc__law_bent l__law_bent (wb := w__law_bent) (fun f cdv A oe s H E hX => (pb_cons (ps_set 2 hX.hN hX.nd (pd_bt (b_listO hX.K) hX.mg T.z_list bt_list (pa_cons (pd_var 1 hX.hN) pa_nil))) (pb_cons (ps_set 3 hX.hN hX.nd (pd_if (pt_val (pd_bi (b_isi hX.K) hX.mg T.z_isinstance bt_isinstance (pa_cons (pd_ix hX.K (pd_var 2 hX.hN) pd_int) (pa_cons (pd_ty hX.mg T.z_list bt_list) pa_nil)))) (pd_bt (b_listM hX.K) hX.mg T.z_list bt_list (pa_cons (pd_ix hX.K (pd_var 2 hX.hN) pd_int) pa_nil)) (pd_lst (pa_cons pd_str pa_nil)))) (pb_cons (ps_set 4 hX.hN hX.nd (pd_ix hX.K (pd_lst (pa_cons pd_non (pa_cons pd_int (pa_cons pd_bl (pa_cons pd_str (pa_cons pd_str (pa_cons pd_str (pa_cons (pd_lst (pa_cons pd_str pa_nil)) (pa_cons pd_dct0 (pa_cons pd_str (pa_cons pd_str pa_nil))))))))))) (pd_own_call hX h__law_take (pa_cons (pd_var 0 hX.hN) (pa_cons pd_int pa_nil))))) (pb_cons (ps_parD 5 6 hX.hN hX.calm hX.nd (pa_cons (pd_own_call hX h__law_take (pa_cons (pd_var 0 hX.hN) (pa_cons pd_int pa_nil))) (pa_cons (pd_if (pt_cmp (c_neNil hX.toFam) (pd_var 3 hX.hN) (pd_lst pa_nil)) (pd_own_call hX h__law_take (pa_cons (pd_var 0 hX.hN) (pa_cons (pd_bi (b_len hX.K) hX.mg T.z_len bt_len (pa_cons (pd_var 3 hX.hN) pa_nil)) pa_nil))) pd_int) pa_nil))) (pb_cons (ps_if (pt_cmp (c_eq hX.toFam) (pd_var 5 hX.hN) pd_int) (pb_cons (ps_set 7 hX.hN hX.nd (pd_lst (pa_cons (pd_var 4 hX.hN) (pa_cons (pd_lst pa_nil) (pa_cons (pd_add hX.K (pd_var 3 hX.hN) (pd_lst (pa_cons pd_str pa_nil))) (pa_cons (pd_add hX.K (pd_var 3 hX.hN) (pd_sl hX.K (pd_var 3 hX.hN) po_none (po_some pd_int))) (pa_cons (pd_bt (b_tupleM hX.K) hX.mg T.z_tuple bt_tuple (pa_cons (pd_var 3 hX.hN) pa_nil)) (pa_cons (pd_add hX.K (pd_var 3 hX.hN) (pd_lst (pa_cons pd_str (pa_cons pd_str (pa_cons pd_str (pa_cons pd_str pa_nil)))))) pa_nil)))))))) (pb_one (ps_put (pd_ix hX.K (pd_var 7 hX.hN) (pd_own_call hX h__law_take (pa_cons (pd_var 0 hX.hN) (pa_cons pd_int pa_nil)))) (pd_var 2 hX.hN) pd_int))) (pb_one (ps_if (pt_cmp (c_eq hX.toFam) (pd_var 5 hX.hN) pd_int) (pb_one (ps_put (pd_add hX.K (pd_add hX.K (pd_sl hX.K (pd_var 3 hX.hN) po_none (po_some (pd_var 6 hX.hN))) (pd_lst (pa_cons (pd_var 4 hX.hN) pa_nil))) (pd_sl hX.K (pd_var 3 hX.hN) (po_some (pd_add hX.K (pd_var 6 hX.hN) pd_int)) po_none)) (pd_var 2 hX.hN) pd_int)) (pb_one (ps_if (pt_cmp (c_lt) (pd_var 5 hX.hN) pd_int) (pb_one (ps_put (pd_var 4 hX.hN) (pd_var 2 hX.hN) (pd_sub (pd_var 5 hX.hN) pd_int))) (pb_one (ps_if (pt_cmp (c_eq hX.toFam) (pd_var 5 hX.hN) pd_int) (pb_one (ps_put (pd_var 4 hX.hN) (pd_var 2 hX.hN) pd_int)) (pb_one (ps_if (pt_cmp (c_eq hX.toFam) (pd_var 5 hX.hN) pd_int) (pb_one (ps_put (pd_ix hX.K (pd_lst (pa_cons (pd_var 4 hX.hN) (pa_cons (pd_if (pt_val (pd_bi (b_isi hX.K) hX.mg T.z_isinstance bt_isinstance (pa_cons (pd_ix hX.K (pd_var 2 hX.hN) pd_int) (pa_cons (pd_ty hX.mg T.z_list bt_list) pa_nil)))) (pd_bt (b_tupleM hX.K) hX.mg T.z_tuple bt_tuple (pa_cons (pd_ix hX.K (pd_var 2 hX.hN) pd_int) pa_nil)) (pd_tup pa_nil)) (pa_cons (pd_lst (pa_cons (pd_var 4 hX.hN) pa_nil)) pa_nil)))) (pd_own_call hX h__law_take (pa_cons (pd_var 0 hX.hN) (pa_cons pd_int pa_nil)))) (pd_var 2 hX.hN) pd_int)) (pb_cons (ps_set 8 hX.hN hX.nd (pd_if (pt_cmp (c_neNil hX.toFam) (pd_var 3 hX.hN) (pd_lst pa_nil)) (pd_ix hX.K (pd_var 3 hX.hN) (pd_var 6 hX.hN)) pd_str)) (pb_cons (ps_set 7 hX.hN hX.nd (pd_lst (pa_cons (pd_tup (pa_cons pd_str (pa_cons (pd_var 8 hX.hN) pa_nil))) (pa_cons (pd_tup (pa_cons pd_str (pa_cons (pd_var 8 hX.hN) pa_nil))) (pa_cons (pd_tup (pa_cons pd_str (pa_cons (pd_var 4 hX.hN) pa_nil))) (pa_cons (pd_lst (pa_cons pd_str (pa_cons (pd_var 8 hX.hN) pa_nil))) (pa_cons (pd_tup (pa_cons pd_str (pa_cons (pd_var 8 hX.hN) pa_nil))) (pa_cons (pd_tup (pa_cons pd_str (pa_cons (pd_var 8 hX.hN) pa_nil))) pa_nil)))))))) (pb_cons (ps_set 9 hX.hN hX.nd (pd_ix hX.K (pd_add hX.K (pd_var 7 hX.hN) (pd_lst (pa_cons (pd_tup (pa_cons pd_str (pa_cons (pd_var 8 hX.hN) (pa_cons (pd_var 8 hX.hN) pa_nil)))) (pa_cons (pd_var 4 hX.hN) pa_nil)))) (pd_own_call hX h__law_take (pa_cons (pd_var 0 hX.hN) (pa_cons pd_int pa_nil))))) (pb_cons (ps_set 10 hX.hN hX.nd (pd_if (pt_val (pd_isiT2 hX.K hX.mg T.z_isinstance bt_isinstance T.z_list bt_list T.z_tuple bt_tuple (pd_ix hX.K (pd_var 2 hX.hN) pd_int))) (pd_bt (b_listM hX.K) hX.mg T.z_list bt_list (pa_cons (pd_ix hX.K (pd_var 2 hX.hN) pd_int) pa_nil)) (pd_lst pa_nil))) (pb_cons (ps_set 11 hX.hN hX.nd (pd_own_call hX h__law_take (pa_cons (pd_var 0 hX.hN) (pa_cons (pd_add hX.K (pd_bi (b_len hX.K) hX.mg T.z_len bt_len (pa_cons (pd_var 10 hX.hN) pa_nil)) pd_int) pa_nil)))) (pb_one (ps_put (pd_add hX.K (pd_add hX.K (pd_sl hX.K (pd_var 10 hX.hN) po_none (po_some (pd_var 11 hX.hN))) (pd_lst (pa_cons (pd_var 9 hX.hN) pa_nil))) (pd_sl hX.K (pd_var 10 hX.hN) (po_some (pd_var 11 hX.hN)) po_none)) (pd_var 2 hX.hN) pd_int)))))))))))))))) (pb_one (ps_ret (pd_var 2 hX.hN))))))))) r__law_bent
theorem ok_Scheme_swap_cost (T : Txt K mg) {C : Addr} (CF : ClsF K mg C) (SU : Sup P mg) (XC_InvalidLetter : XC P K mg "InvalidLetter" "value") (h_is_letter : Has P w K mg base 1 "is_letter" ["value"] F_is_letter) {f : Addr} {fd : FuncData} (FA : FunV K "swap_cost" "Scheme.swap_cost" s_Scheme_swap_cost f fd) : FnG P w K mg base (L2.CX P w) 2 f fd ["self", "one", "other"] (spD K mg F_Scheme_swap_cost) :=
  fn_okV FA sc_Scheme_swap_cost l_Scheme_swap_cost (wb := w_Scheme_swap_cost) (fun cdv A oe s H E hX tk => (pb_cons (ps_for (fun _ => passes_of rfl) hX.calm (pi_tp hX.K (pd_tup (pa_cons (pd_var 1 hX.hN) (pa_cons (pd_var 2 hX.hN) pa_nil)))) (pg_name 3 hX.hN hX.nd) (pb_one (ps_if (pt_not (pt_val (pd_own_call hX h_is_letter (pa_cons (pd_var 3 hX.hN) pa_nil)))) (pb_one (ps_raiseX hX tk SU XC_InvalidLetter (pd_var 3 hX.hN))) pb_nil))) (pb_cons (ps_if (pt_cmp (c_eq hX.toFam) (pd_var 1 hX.hN) (pd_var 2 hX.hN)) (pb_one (ps_raiseX hX tk SU XC_InvalidLetter (pd_var 2 hX.hN))) pb_nil) (pb_cons (ps_for (fun _ => passes_of rfl) hX.calm (pi_tp hX.K (pd_fld hX.K CF.kl CF.na_groups (pd_var 0 hX.hN))) (pg_tup hX.K hX.calm (pgs_cons (pg_name 4 hX.hN hX.nd) (pgs_cons (pg_name 5 hX.hN hX.nd) pgs_nil))) (pb_one (ps_if (pw_pt (pw_and (pt_cmp (c_in hX.K) (pd_var 1 hX.hN) (pd_var 4 hX.hN)) (pw_and1 (pt_cmp (c_in hX.K) (pd_var 2 hX.hN) (pd_var 4 hX.hN))))) (pb_one (ps_ret (pd_var 5 hX.hN))) pb_nil))) (pb_one (ps_ret (pd_fld hX.K CF.kl CF.na_swap (pd_var 0 hX.hN)))))))) r_Scheme_swap_cost
theorem ok_is_name (T : Txt K mg) (FA : FunAt K mg "is_name" "is_name" s_is_name ["value"]) (h_is_lettered : Has P w K mg base 2 "is_lettered" ["value"] F_is_lettered) : Has P w K mg base 3 "is_name" ["value"] F_is_name :=
  has_of (W := fun _ _ _ _ => False) FA sc_is_name l_is_name (wb := w_is_name) (fun f cdv A oe s H E hX => (pb_one (ps_ret (pd_and (pd_own_call hX h_is_lettered (pa_cons (pd_var 0 hX.hN) pa_nil)) (pd_one (pd_chain (c_le) (c_le) pd_int (pd_bi (b_len hX.K) hX.mg T.z_len bt_len (pa_cons (pd_var 0 hX.hN) pa_nil)) (pd_globI hX.mg T.c_LONGEST_NAME))))))) r_is_name
theorem ok_is_group (T : Txt K mg) (FA : FunAt K mg "is_group" "is_group" s_is_group ["value"]) (h_is_list : Has P w K mg base 1 "is_list" ["value"] F_is_list) (h_is_lettered : Has P w K mg base 2 "is_lettered" ["value"] F_is_lettered) : Has P w K mg base 3 "is_group" ["value"] F_is_group :=
  has_of (W := fun _ _ _ _ => False) FA sc_is_group l_is_group (wb := w_is_group) (fun f cdv A oe s H E hX => (pb_cons (ps_if (pw_pt (pw_or (pt_not (pt_val (pd_own_call hX h_is_list (pa_cons (pd_var 0 hX.hN) pa_nil)))) (pw_or (pt_cmp (c_ne hX.toFam) (pd_bi (b_len hX.K) hX.mg T.z_len bt_len (pa_cons (pd_var 0 hX.hN) pa_nil)) pd_int) (pw_or1 (pt_not (pt_val (pd_own_call hX h_is_lettered (pa_cons (pd_ix hX.K (pd_var 0 hX.hN) pd_int) pa_nil)))))))) (pb_one (ps_ret pd_bl)) pb_nil) (pb_one (ps_ret (pd_and (pd_cmp (c_ge) (pd_bi (b_len hX.K) hX.mg T.z_len bt_len (pa_cons (pd_ix hX.K (pd_var 0 hX.hN) pd_int) pa_nil)) pd_int) (pd_one (pd_cmp (c_eq hX.toFam) (pd_lenSet hX.calm hX.mg T.z_len T.z_set (pd_ix hX.K (pd_var 0 hX.hN) pd_int)) (pd_bi (b_len hX.K) hX.mg T.z_len bt_len (pa_cons (pd_ix hX.K (pd_var 0 hX.hN) pd_int) pa_nil))))))))) r_is_group
theorem ok__law_due (T : Txt K mg) (FA : FunAt K mg "_law_due" "_law_due" s__law_due ["_law_model_here"]) (h__law_due_costs : Has P w K mg base 2 "_law_due_costs" ["_law_costs"] F_law_due_costs) (h__law_is_cost : Has P w K mg base 1 "_law_is_cost" ["_law_costs", "_law_name"] F_law_is_cost) (h__law_due_groups : Has P w K mg base 2 "_law_due_groups" ["_law_costs", "_law_sets"] F_law_due_groups) : Has P w K mg base 3 "_law_due" ["_law_model_here"] F_law_due :=
  has_of (W := fun _ _ _ _ => False) FA sc__law_due l__law_due (wb := w__law_due) (fun f cdv A oe s H E hX => (pb_cons (ps_unp hX.K hX.calm (pd_var 0 hX.hN) (pgs_cons (pg_name 1 hX.hN hX.nd) (pgs_cons (pg_name 2 hX.hN hX.nd) (pgs_cons (pg_name 3 hX.hN hX.nd) (pgs_cons (pg_name 4 hX.hN hX.nd) (pgs_cons (pg_name 5 hX.hN hX.nd) (pgs_cons (pg_name 6 hX.hN hX.nd) pgs_nil))))))) (pb_cons (ps_set 7 hX.hN hX.nd (pd_own_call hX h__law_due_costs (pa_cons (pd_var 1 hX.hN) pa_nil))) (pb_cons (ps_if (pt_cmp (c_neNil hX.toFam) (pd_var 7 hX.hN) (pd_lst pa_nil)) (pb_one (ps_ret (pd_var 7 hX.hN))) pb_nil) (pb_cons (ps_for (fun _ => PassesOwn.never) hX.calm (pi_lst hX.K (pd_lst (pa_cons (pd_var 2 hX.hN) (pa_cons (pd_var 3 hX.hN) (pa_cons (pd_var 4 hX.hN) pa_nil))))) (pg_name 8 hX.hN hX.nd) (pb_one (ps_if (pt_not (pt_val (pd_own_call hX h__law_is_cost (pa_cons (pd_var 1 hX.hN) (pa_cons (pd_var 8 hX.hN) pa_nil))))) (pb_one (ps_ret (pd_lst (pa_cons pd_str (pa_cons (pd_var 8 hX.hN) pa_nil))))) pb_nil))) (pb_cons (ps_set 7 hX.hN hX.nd (pd_own_call hX h__law_due_groups (pa_cons (pd_var 1 hX.hN) (pa_cons (pd_var 5 hX.hN) pa_nil)))) (pb_cons (ps_if (pt_cmp (c_neNil hX.toFam) (pd_var 7 hX.hN) (pd_lst pa_nil)) (pb_one (ps_ret (pd_var 7 hX.hN))) pb_nil) (pb_one (ps_ret (pd_if (pw_pt (pw_or (pt_cmp (c_is) (pd_var 6 hX.hN) pd_non) (pw_or1 (pt_val (pd_own_call hX h__law_is_cost (pa_cons (pd_var 1 hX.hN) (pa_cons (pd_var 6 hX.hN) pa_nil))))))) (pd_lst (pa_cons pd_str pa_nil)) (pd_lst (pa_cons pd_str (pa_cons (pd_var 6 hX.hN) pa_nil))))))))))))) r__law_due
theorem ok_Scheme_step_cost (T : Txt K mg) {C : Addr} (CF : ClsF K mg C) (SU : Sup P mg) (XC_InvalidStep : XC P K mg "InvalidStep" "value") (XC_InvalidLetter : XC P K mg "InvalidLetter" "value") (h_is_step : Has P w K mg base 2 "is_step" ["value"] F_is_step) (h_is_letter : Has P w K mg base 1 "is_letter" ["value"] F_is_letter) (h_Scheme_swap_cost : HasM P w K mg base 2 "Scheme" "swap_cost" ["self", "one", "other"] [] F_Scheme_swap_cost) {f : Addr} {fd : FuncData} (FA : FunV K "step_cost" "Scheme.step_cost" s_Scheme_step_cost f fd) : FnG P w K mg base (L2.CX P w) 3 f fd ["self", "step", "letter"] (spD K mg F_Scheme_step_cost) :=
  fn_okV FA sc_Scheme_step_cost l_Scheme_step_cost (wb := w_Scheme_step_cost) (fun cdv A oe s H E hX tk => (pb_cons (ps_if (pw_pt (pw_or (pt_not (pt_val (pd_own_call hX h_is_step (pa_cons (pd_var 1 hX.hN) pa_nil)))) (pw_or1 (pw_pt (pw_and (pt_cmp (c_eq hX.toFam) (pd_ix hX.K (pd_var 1 hX.hN) pd_int) pd_str) (pw_and1 (pt_cmp (c_is) (pd_fld hX.K CF.kl CF.na_turn (pd_var 0 hX.hN)) pd_non))))))) (pb_one (ps_raiseX hX tk SU XC_InvalidStep (pd_var 1 hX.hN))) pb_nil) (pb_cons (ps_if (pt_cmp (c_eq hX.toFam) (pd_ix hX.K (pd_var 1 hX.hN) pd_int) pd_str) (pb_cons (ps_if (pw_pt (pw_or (pt_not (pt_val (pd_own_call hX h_is_letter (pa_cons (pd_var 2 hX.hN) pa_nil)))) (pw_or1 (pt_cmp (c_eq hX.toFam) (pd_var 2 hX.hN) (pd_ix hX.K (pd_var 1 hX.hN) pd_int))))) (pb_one (ps_raiseX hX tk SU XC_InvalidLetter (pd_var 2 hX.hN))) pb_nil) (pb_one (ps_ret (pd_meth hX tk h_Scheme_swap_cost (pd_var 0 hX.hN) (pa_cons (pd_var 2 hX.hN) (pa_cons (pd_ix hX.K (pd_var 1 hX.hN) pd_int) pa_nil)))))) pb_nil) (pb_cons (ps_set 3 hX.hN hX.nd (pd_dctN (ppd_cons pd_non (ppd_cons (pd_fld hX.K CF.kl CF.na_add (pd_var 0 hX.hN)) (ppd_cons (pd_fld hX.K CF.kl CF.na_drop (pd_var 0 hX.hN)) (ppd_cons (pd_fld hX.K CF.kl CF.na_turn (pd_var 0 hX.hN)) ppd_nil)))))) (pb_one (ps_ret (pd_dget hX.toFam (pd_var 3 hX.hN) (pd_ix hX.K (pd_var 1 hX.hN) pd_int)))))))) r_Scheme_step_cost
theorem ok_check_names (T : Txt K mg) (FA : FunAt K mg "check_names" "check_names" s_check_names ["costs"]) (SU : Sup P mg) (XC_InvalidPart : XC P K mg "InvalidPart" "value") (XC_InvalidName : XC P K mg "InvalidName" "value") (XC_Duplicate : XC P K mg "Duplicate" "label") (h_is_list : Has P w K mg base 1 "is_list" ["value"] F_is_list) (h_is_name : Has P w K mg base 3 "is_name" ["value"] F_is_name) : HasX P w K mg base 4 "check_names" ["costs"] F_check_names :=
  has_ofX FA sc_check_names l_check_names (wb := w_check_names) (fun f cdv A oe s H E hX tk => (pb_cons (ps_if (pw_pt (pw_or (pt_not (pt_val (pd_own_call hX h_is_list (pa_cons (pd_var 0 hX.hN) pa_nil)))) (pw_or1 (pt_not (pt_chainD (c_le) (c_le) pd_int (pd_bi (b_len hX.K) hX.mg T.z_len bt_len (pa_cons (pd_var 0 hX.hN) pa_nil)) (pd_globI hX.mg T.c_MOST_COSTS)))))) (pb_one (ps_raiseX hX tk SU XC_InvalidPart (pd_var 0 hX.hN))) pb_nil) (pb_one (ps_for (fun _ => passes_of rfl) hX.calm (pi_enumB hX.K hX.mg T.z_enumerate (pa_cons (pd_var 0 hX.hN) pa_nil)) (pg_tup hX.K hX.calm (pgs_cons (pg_name 1 hX.hN hX.nd) (pgs_cons (pg_name 2 hX.hN hX.nd) pgs_nil))) (pb_cons (ps_if (pt_not (pt_val (pd_own_call hX h_is_name (pa_cons (pd_var 2 hX.hN) pa_nil)))) (pb_one (ps_raiseX hX tk SU XC_InvalidName (pd_var 2 hX.hN))) pb_nil) (pb_one (ps_if (pt_cmp (c_in hX.K) (pd_var 2 hX.hN) (pd_sl hX.K (pd_var 0 hX.hN) po_none (po_some (pd_var 1 hX.hN)))) (pb_one (ps_raiseX hX tk SU XC_Duplicate (pd_var 2 hX.hN))) pb_nil))))))) r_check_names
theorem ok_checked_groups (T : Txt K mg) (FA : FunAt K mg "checked_groups" "checked_groups" s_checked_groups ["names", "groups"]) (SU : Sup P mg) (XC_InvalidPart : XC P K mg "InvalidPart" "value") (XC_InvalidGroup : XC P K mg "InvalidGroup" "value") (h_is_list : Has P w K mg base 1 "is_list" ["value"] F_is_list) (h_is_group : Has P w K mg base 3 "is_group" ["value"] F_is_group) (h_check_cost : HasX P w K mg base 1 "check_cost" ["names", "cost"] F_check_cost) : HasX P w K mg base 4 "checked_groups" ["names", "groups"] F_checked_groups :=
  has_ofX FA sc_checked_groups l_checked_groups (wb := w_checked_groups) (fun f cdv A oe s H E hX tk => (pb_cons (ps_if (pt_not (pt_val (pd_own_call hX h_is_list (pa_cons (pd_var 1 hX.hN) pa_nil)))) (pb_one (ps_raiseX hX tk SU XC_InvalidPart (pd_var 1 hX.hN))) pb_nil) (pb_cons (ps_set 2 hX.hN hX.nd (pd_own pa_nil)) (pb_cons (ps_set 3 hX.hN hX.nd pd_str) (pb_cons (ps_for (fun _ => passes_of rfl) hX.calm (pi_var hX.K 1 hX.hN) (pg_name 4 hX.hN hX.nd) (pb_cons (ps_if (pw_pt (pw_or (pt_not (pt_val (pd_own_call hX h_is_group (pa_cons (pd_var 4 hX.hN) pa_nil)))) (pw_or1 (pt_val (pd_bi (b_any hX.K hX.calm) hX.mg T.z_any bt_any (pa_cons (pd_lc (own := [(("letter" : Str), 5)]) hX.hN hX.calm hX.nd (pi_sg (pd_ix hX.K (pd_var 4 hX.hN) pd_int)) (fun _ => blkOk_by (sc := defScope s_checked_groups) (by decide +kernel)) (pg_name 5 (hX.blk _).hN hX.nd) pts_nil (pd_cmp (c_in (hX.blk _).K) (pd_var 5 (hX.blk _).hN) (pd_var 3 (hX.blk _).hN))) pa_nil)))))) (pb_one (ps_raiseX hX tk SU XC_InvalidGroup (pd_var 4 hX.hN))) pb_nil) (pb_cons (ps_expr (pd_own_callX hX tk h_check_cost (pa_cons (pd_var 0 hX.hN) (pa_cons (pd_ix hX.K (pd_var 4 hX.hN) pd_int) pa_nil)))) (pb_cons (ps_appendD hX.K (pd_var 2 hX.hN) (pa_cons (pd_tup (pa_cons (pd_join hX.K pd_str (pd_bi (b_sortedTx hX.calm) hX.mg T.z_sorted bt_sorted (pa_cons (pd_ix hX.K (pd_var 4 hX.hN) pd_int) pa_nil))) (pa_cons (pd_ix hX.K (pd_var 4 hX.hN) pd_int) pa_nil))) pa_nil)) (pb_one (ps_set 3 hX.hN hX.nd (pd_add hX.K (pd_var 3 hX.hN) (pd_ix hX.K (pd_var 4 hX.hN) pd_int)))))))) (pb_one (ps_ret (pd_bt (b_tupleM hX.K) hX.mg T.z_tuple bt_tuple (pa_cons (pd_var 2 hX.hN) pa_nil))))))))) r_checked_groups
theorem ok__law_caught (T : Txt K mg) (FA : FunAt K mg "_law_caught" "_law_caught" s__law_caught ["_law_plan", "_law_way", "_law_one", "_law_other"]) (AP : apart K mg) (XC_InvalidStep : XC P K mg "InvalidStep" "value") (XC_InvalidLetter : XC P K mg "InvalidLetter" "value") (h_Scheme_swap_cost : HasM P w K mg base 2 "Scheme" "swap_cost" ["self", "one", "other"] [] F_Scheme_swap_cost) (h_Scheme_step_cost : HasM P w K mg base 3 "Scheme" "step_cost" ["self", "step", "letter"] [] F_Scheme_step_cost) : Has P w K mg base 4 "_law_caught" ["_law_plan", "_law_way", "_law_one", "_law_other"] F_law_caught :=
  has_of (W := fun _ _ _ _ => False) FA sc__law_caught l__law_caught (wb := w__law_caught) (fun f cdv A oe s H E hX => (pb_one (ps_tryRs (cs := [("InvalidLetter", "value", "letter"), ("InvalidStep", "value", "step")]) hX nox_takes 4 (.cons XC_InvalidLetter (.cons XC_InvalidStep .nil)) (pw_of AP (by decide) (by decide)) (fun W0 => (pb_one (ps_ret (pd_lst (pa_cons pd_str (pa_cons (pd_if (pt_cmp (c_eq (hX.tr W0).toFam) (pd_var 1 (hX.tr W0).hN) pd_int) (pd_meth (hX.tr W0) (tr_takes hX W0) h_Scheme_swap_cost (pd_var 0 (hX.tr W0).hN) (pa_cons (pd_var 2 (hX.tr W0).hN) (pa_cons (pd_var 3 (hX.tr W0).hN) pa_nil))) (pd_meth (hX.tr W0) (tr_takes hX W0) h_Scheme_step_cost (pd_var 0 (hX.tr W0).hN) (pa_cons (pd_var 2 (hX.tr W0).hN) (pa_cons (pd_var 3 (hX.tr W0).hN) pa_nil)))) pa_nil))))))))) r__law_caught
theorem ok__law_odd_right (T : Txt K mg) (FA : FunAt K mg "_law_odd_right" "_law_odd_right" s__law_odd_right ["_law_plan", "_law_about"]) (h__law_caught : Has P w K mg base 4 "_law_caught" ["_law_plan", "_law_way", "_law_one", "_law_other"] F_law_caught) : Has P w K mg base 5 "_law_odd_right" ["_law_plan", "_law_about"] F_law_odd_right :=
  has_of (W := fun _ _ _ _ => False) FA sc__law_odd_right l__law_odd_right (wb := w__law_odd_right) (fun f cdv A oe s H E hX => (pb_cons (ps_for (fun _ => PassesOwn.never) hX.calm (pi_lst hX.K (pd_lst (pa_cons pd_non (pa_cons pd_int (pa_cons pd_bl (pa_cons pd_str (pa_cons pd_str (pa_cons pd_str (pa_cons (pd_lst (pa_cons pd_str pa_nil)) (pa_cons pd_dct0 (pa_cons (pd_tup (pa_cons pd_str (pa_cons pd_str pa_nil))) (pa_cons (pd_tup (pa_cons pd_str pa_nil)) (pa_cons (pd_tup (pa_cons pd_str (pa_cons pd_str pa_nil))) (pa_cons (pd_tup (pa_cons pd_str (pa_cons pd_str pa_nil))) (pa_cons (pd_tup pa_nil) pa_nil))))))))))))))) (pg_name 2 hX.hN hX.nd) (pb_cons (ps_if (pw_pt (pw_and (pt_cmp (c_neS hX.toFam) (pd_var 2 hX.hN) pd_str) (pw_and1 (pt_cmp (c_ne hX.toFam) (pd_bi (b_reprM hX) hX.mg T.z_repr bt_repr (pa_cons (pd_own_call hX h__law_caught (pa_cons (pd_var 0 hX.hN) (pa_cons pd_int (pa_cons (pd_var 2 hX.hN) (pa_cons pd_str pa_nil))))) pa_nil)) (pd_bi (b_reprM hX) hX.mg T.z_repr bt_repr (pa_cons (pd_lst (pa_cons pd_str (pa_cons (pd_var 2 hX.hN) pa_nil))) pa_nil)))))) (pb_one (ps_ret pd_bl)) pb_nil) (pb_cons (ps_set 3 hX.hN hX.nd (pd_lst (pa_cons (pd_own_call hX h__law_caught (pa_cons (pd_var 0 hX.hN) (pa_cons pd_int (pa_cons (pd_var 2 hX.hN) (pa_cons (pd_var 2 hX.hN) pa_nil))))) (pa_cons (pd_own_call hX h__law_caught (pa_cons (pd_var 0 hX.hN) (pa_cons pd_int (pa_cons pd_str (pa_cons (pd_var 2 hX.hN) pa_nil))))) pa_nil)))) (pb_cons (ps_set 3 hX.hN hX.nd (pd_add hX.K (pd_var 3 hX.hN) (pd_lst (pa_cons (pd_own_call hX h__law_caught (pa_cons (pd_var 0 hX.hN) (pa_cons pd_int (pa_cons (pd_var 2 hX.hN) (pa_cons pd_non pa_nil))))) (pa_cons (pd_own_call hX h__law_caught (pa_cons (pd_var 0 hX.hN) (pa_cons pd_int (pa_cons (pd_tup (pa_cons pd_str (pa_cons pd_str pa_nil))) (pa_cons (pd_var 2 hX.hN) pa_nil))))) pa_nil))))) (pb_cons (ps_set 4 hX.hN hX.nd (pd_lst (pa_cons (pd_lst (pa_cons pd_str (pa_cons (pd_var 2 hX.hN) pa_nil))) (pa_cons (pd_lst (pa_cons pd_str (pa_cons (pd_var 2 hX.hN) pa_nil))) (pa_cons (pd_lst (pa_cons pd_str (pa_cons (pd_var 2 hX.hN) pa_nil))) (pa_cons (pd_lst (pa_cons pd_str (pa_cons (pd_var 2 hX.hN) pa_nil))) pa_nil)))))) (pb_one (ps_if (pt_cmp (c_ne hX.toFam) (pd_bi (b_reprM hX) hX.mg T.z_repr bt_repr (pa_cons (pd_var 3 hX.hN) pa_nil)) (pd_bi (b_reprM hX) hX.mg T.z_repr bt_repr (pa_cons (pd_var 4 hX.hN) pa_nil))) (pb_one (ps_ret pd_bl)) pb_nil))))))) (pb_cons (ps_if (pw_pt (pw_and (pt_cmp (c_is) (pd_var 1 hX.hN) pd_non) (pw_and1 (pt_cmp (c_ne hX.toFam) (pd_own_call hX h__law_caught (pa_cons (pd_var 0 hX.hN) (pa_cons pd_int (pa_cons (pd_tup (pa_cons pd_str pa_nil)) (pa_cons pd_str pa_nil))))) (pd_lst (pa_cons pd_str (pa_cons (pd_tup (pa_cons pd_str pa_nil)) pa_nil))))))) (pb_one (ps_ret pd_bl)) pb_nil) (pb_cons (ps_set 3 hX.hN hX.nd (pd_lst (pa_cons (pd_own_call hX h__law_caught (pa_cons (pd_var 0 hX.hN) (pa_cons pd_int (pa_cons pd_str (pa_cons pd_str pa_nil))))) (pa_cons (pd_own_call hX h__law_caught (pa_cons (pd_var 0 hX.hN) (pa_cons pd_int (pa_cons (pd_tup (pa_cons pd_str (pa_cons pd_str pa_nil))) (pa_cons pd_str pa_nil))))) pa_nil)))) (pb_one (ps_ret (pd_cmp (c_eq hX.toFam) (pd_var 3 hX.hN) (pd_lst (pa_cons (pd_lst (pa_cons pd_str (pa_cons pd_str pa_nil))) (pa_cons (pd_lst (pa_cons pd_str (pa_cons pd_str pa_nil))) pa_nil)))))))))) r__law_odd_right
theorem ok_Scheme_init (T : Txt K mg) {C : Addr} (CF : ClsF K mg C) (h_check_names : HasX P w K mg base 4 "check_names" ["costs"] F_check_names) (h_check_cost : HasX P w K mg base 1 "check_cost" ["names", "cost"] F_check_cost) (h_checked_groups : HasX P w K mg base 4 "checked_groups" ["names", "groups"] F_checked_groups) {f : Addr} {fd : FuncData} (FA : Fun K "__init__" "Scheme.__init__" s_Scheme_init f fd) : FnG P w K mg base (L2.CX P w) 5 f fd ["self", "costs", "add", "drop", "swap", "groups", "turn"] (spInit K mg C F_Scheme) :=
  init_ok (ks := ["_costs", "_add", "_drop", "_swap", "_groups", "_turn"]) FA sc_Scheme_init CF.kl l_Scheme_init (z := w_Scheme_init) (fun cdv A oe s H E hX tk => (pz_cons (ps_expr (pd_own_callX hX tk h_check_names (pa_cons (pd_var 1 hX.hN) pa_nil))) (pz_cons (ps_for (fun _ => passes_of rfl) hX.calm (pi_tp hX.K (pd_tup (pa_cons (pd_var 2 hX.hN) (pa_cons (pd_var 3 hX.hN) (pa_cons (pd_var 4 hX.hN) pa_nil))))) (pg_name 7 hX.hN hX.nd) (pb_one (ps_expr (pd_own_callX hX tk h_check_cost (pa_cons (pd_var 1 hX.hN) (pa_cons (pd_var 7 hX.hN) pa_nil)))))) (pz_cons (ps_set 8 hX.hN hX.nd (pd_own_callX hX tk h_checked_groups (pa_cons (pd_var 1 hX.hN) (pa_cons (pd_var 5 hX.hN) pa_nil)))) (pz_cons (ps_if (pt_cmp (c_isNot) (pd_var 6 hX.hN) pd_non) (pb_one (ps_expr (pd_own_callX hX tk h_check_cost (pa_cons (pd_var 1 hX.hN) (pa_cons (pd_var 6 hX.hN) pa_nil))))) pb_nil) (pz_set hX.K CF.kl.cls CF.na_costs hX.hN (pd_bt (b_tupleM hX.K) hX.mg T.z_tuple bt_tuple (pa_cons (pd_var 1 hX.hN) pa_nil)) (pz_set hX.K CF.kl.cls CF.na_add hX.hN (pd_var 2 hX.hN) (pz_set hX.K CF.kl.cls CF.na_drop hX.hN (pd_var 3 hX.hN) (pz_set hX.K CF.kl.cls CF.na_swap hX.hN (pd_var 4 hX.hN) (pz_set hX.K CF.kl.cls CF.na_groups hX.hN (pd_var 8 hX.hN) (pz_set hX.K CF.kl.cls CF.na_turn hX.hN (pd_var 6 hX.hN) pz_nil))))))))))) r_Scheme_init
theorem ok__law_scheme (T : Txt K mg) (FA : FunAt K mg "_law_scheme" "_law_scheme" s__law_scheme ["_law_model_here"]) (hC_Scheme : HasC P w K mg base 5 "Scheme" ["self", "costs", "add", "drop", "swap", "groups", "turn"] 1 ["add", "drop", "swap", "groups", "turn"] gApp F_Scheme) : Has P w K mg base 7 "_law_scheme" ["_law_model_here"] F_law_scheme :=
  has_of (W := fun _ _ _ _ => False) FA sc__law_scheme l__law_scheme (wb := w__law_scheme) (fun f cdv A oe s H E hX => (pb_cons (ps_unp hX.K hX.calm (pd_var 0 hX.hN) (pgs_cons (pg_name 1 hX.hN hX.nd) (pgs_cons (pg_name 2 hX.hN hX.nd) (pgs_cons (pg_name 3 hX.hN hX.nd) (pgs_cons (pg_name 4 hX.hN hX.nd) (pgs_cons (pg_name 5 hX.hN hX.nd) (pgs_cons (pg_name 6 hX.hN hX.nd) pgs_nil))))))) (pb_one (ps_ret (pd_make hX nox_takes hC_Scheme (pa_cons (pd_bt (b_listM hX.K) hX.mg T.z_list bt_list (pa_cons (pd_var 1 hX.hN) pa_nil)) pa_nil) (pdk_cons (pd_var 2 hX.hN) (pdk_cons (pd_var 3 hX.hN) (pdk_cons (pd_var 4 hX.hN) (pdk_cons (pd_bt (b_listM hX.K) hX.mg T.z_list bt_list (pa_cons (pd_var 5 hX.hN) pa_nil)) (pdk_cons (pd_var 6 hX.hN) pdk_nil)))))))))) r__law_scheme
theorem ok__law_told (T : Txt K mg) (FA : FunAt K mg "_law_told" "_law_told" s__law_told ["_law_model_here"]) (AP : apart K mg) (XC_InvalidGroup : XC P K mg "InvalidGroup" "value") (XC_UnknownCost : XC P K mg "UnknownCost" "label") (XC_Duplicate : XC P K mg "Duplicate" "label") (XC_InvalidName : XC P K mg "InvalidName" "value") (XC_InvalidPart : XC P K mg "InvalidPart" "value") (hC_Scheme : HasC P w K mg base 5 "Scheme" ["self", "costs", "add", "drop", "swap", "groups", "turn"] 1 ["add", "drop", "swap", "groups", "turn"] gApp F_Scheme) : Has P w K mg base 7 "_law_told" ["_law_model_here"] F_law_told :=
  has_of (W := fun _ _ _ _ => False) FA sc__law_told l__law_told (wb := w__law_told) (fun f cdv A oe s H E hX => (pb_cons (ps_unp hX.K hX.calm (pd_var 0 hX.hN) (pgs_cons (pg_name 1 hX.hN hX.nd) (pgs_cons (pg_name 2 hX.hN hX.nd) (pgs_cons (pg_name 3 hX.hN hX.nd) (pgs_cons (pg_name 4 hX.hN hX.nd) (pgs_cons (pg_name 5 hX.hN hX.nd) (pgs_cons (pg_name 6 hX.hN hX.nd) pgs_nil))))))) (pb_cons (ps_tryRs (cs := [("InvalidPart", "value", "part"), ("InvalidName", "value", "name"), ("Duplicate", "label", "twice"), ("UnknownCost", "label", "cost"), ("InvalidGroup", "value", "group")]) hX nox_takes 7 (.cons XC_InvalidPart (.cons XC_InvalidName (.cons XC_Duplicate (.cons XC_UnknownCost (.cons XC_InvalidGroup .nil))))) (pw_of AP (by decide) (by decide)) (fun W0 => (pb_one (ps_expr (pd_make (hX.tr W0) (tr_takes hX W0) hC_Scheme (pa_cons (pd_var 1 (hX.tr W0).hN) pa_nil) (pdk_cons (pd_var 2 (hX.tr W0).hN) (pdk_cons (pd_var 3 (hX.tr W0).hN) (pdk_cons (pd_var 4 (hX.tr W0).hN) (pdk_cons (pd_var 5 (hX.tr W0).hN) (pdk_cons (pd_var 6 (hX.tr W0).hN) pdk_nil)))))))))) (pb_one (ps_ret (pd_lst (pa_cons pd_str pa_nil))))))) r__law_told
theorem ok__law_very_right (T : Txt K mg) (FA : FunAt K mg "_law_very_right" "_law_very_right" s__law_very_right []) (h__law_told : Has P w K mg base 7 "_law_told" ["_law_model_here"] F_law_told) : Has P w K mg base 8 "_law_very_right" [] F_law_very_right :=
  has_of (W := fun _ _ _ _ => False) FA sc__law_very_right l__law_very_right (wb := w__law_very_right) (fun f cdv A oe s H E hX => (pb_cons (ps_parD 0 1 hX.hN hX.calm hX.nd (pa_cons (pd_own pa_nil) (pa_cons (pd_own (pa_cons pd_str pa_nil)) pa_nil))) (pb_cons (ps_set 2 hX.hN hX.nd (pd_lst (pa_cons (pd_ix hX.K (pd_own_call hX h__law_told (pa_cons (pd_lst (pa_cons (pd_var 0 hX.hN) (pa_cons pd_int (pa_cons pd_int (pa_cons pd_int (pa_cons (pd_lst pa_nil) (pa_cons pd_non pa_nil))))))) pa_nil)) pd_int) (pa_cons (pd_ix hX.K (pd_own_call hX h__law_told (pa_cons (pd_lst (pa_cons (pd_lst (pa_cons pd_str pa_nil)) (pa_cons pd_str (pa_cons pd_str (pa_cons pd_str (pa_cons (pd_lst (pa_cons (pd_var 1 hX.hN) pa_nil)) (pa_cons pd_non pa_nil))))))) pa_nil)) pd_int) pa_nil)))) (pb_cons (ps_appendD hX.K (pd_var 0 hX.hN) (pa_cons pd_int pa_nil)) (pb_cons (ps_appendD hX.K (pd_var 1 hX.hN) (pa_cons pd_int pa_nil)) (pb_one (ps_ret (pd_cmp (c_eqM hX.toFam) (pd_var 2 hX.hN) (pd_lst (pa_cons (pd_lst (pa_cons pd_int pa_nil)) (pa_cons (pd_lst (pa_cons pd_str (pa_cons pd_int pa_nil))) pa_nil))))))))))) r__law_very_right
theorem law_fn {fa : Addr} {fd : FuncData} (T : Txt K mg) (FA : Fun K "law" "law" s_law fa fd) (h__law_cell : Has P w K mg base 1 "_law_cell" ["_law_script", "_law_k"] F_law_cell) (h__law_box : Has P w K mg base 1 "_law_box" ["_law_cell_here"] F_law_box) (h__law_model : Has P w K mg base 2 "_law_model" ["_law_box_here"] F_law_model) (h__law_take : Has P w K mg base 1 "_law_take" ["_law_box_here", "_law_many"] F_law_take) (h__law_bent : Has P w K mg base 2 "_law_bent" ["_law_box_here", "_law_model_here"] F_law_bent) (h__law_told : Has P w K mg base 7 "_law_told" ["_law_model_here"] F_law_told) (h__law_due : Has P w K mg base 3 "_law_due" ["_law_model_here"] F_law_due) (h__law_scheme : Has P w K mg base 7 "_law_scheme" ["_law_model_here"] F_law_scheme) (h__law_odd_right : Has P w K mg base 5 "_law_odd_right" ["_law_plan", "_law_about"] F_law_odd_right) (h__law_very_right : Has P w K mg base 8 "_law_very_right" [] F_law_very_right) : FnG P w K mg base CX0 9 fa fd ["_law_script"] (spD K mg (lawFn 63)) :=
  fn_ok (W := fun _ _ _ _ => False) FA sc_law l_law (wb := w_law) (fun cdv A oe s H E hX => (pb_cons (ps_for (fun _ => PassesOwn.never) hX.calm (pi_rg1 hX.mg T.z_range (pa_cons (pd_bi (b_max hX.calm) hX.mg T.z_max bt_max (pa_cons pd_int (pa_cons (pd_bi (b_min hX.calm) hX.mg T.z_min bt_min (pa_cons pd_int (pa_cons (pd_bi (b_len hX.K) hX.mg T.z_len bt_len (pa_cons (pd_var 0 hX.hN) pa_nil)) pa_nil))) pa_nil))) pa_nil)) (pg_name 1 hX.hN hX.nd) (pb_cons (ps_set 2 hX.hN hX.nd (pd_own_call hX h__law_box (pa_cons (pd_own_call hX h__law_cell (pa_cons (pd_var 0 hX.hN) (pa_cons (pd_var 1 hX.hN) pa_nil))) pa_nil))) (pb_cons (ps_set 3 hX.hN hX.nd (pd_own_call hX h__law_model (pa_cons (pd_var 2 hX.hN) pa_nil))) (pb_cons (ps_for (fun _ => PassesOwn.never) hX.calm (pi_rg1 hX.mg T.z_range (pa_cons pd_int pa_nil)) (pg_name 4 hX.hN hX.nd) (pb_cons (ps_set 5 hX.hN hX.nd (pd_var 3 hX.hN)) (pb_cons (ps_for (fun _ => PassesOwn.never) hX.calm (pi_rg1 hX.mg T.z_range (pa_cons (pd_own_call hX h__law_take (pa_cons (pd_var 2 hX.hN) (pa_cons pd_int pa_nil))) pa_nil)) (pg_name 4 hX.hN hX.nd) (pb_one (ps_set 5 hX.hN hX.nd (pd_own_call hX h__law_bent (pa_cons (pd_var 2 hX.hN) (pa_cons (pd_var 5 hX.hN) pa_nil)))))) (pb_cons (ps_parD 6 7 hX.hN hX.calm hX.nd (pa_cons (pd_bi (b_reprM hX) hX.mg T.z_repr bt_repr (pa_cons (pd_var 5 hX.hN) pa_nil)) (pa_cons (pd_own_call hX h__law_told (pa_cons (pd_var 5 hX.hN) pa_nil)) pa_nil))) (pb_one (ps_if (pw_pt (pw_or (pt_cmp (c_ne hX.toFam) (pd_bi (b_reprM hX) hX.mg T.z_repr bt_repr (pa_cons (pd_var 7 hX.hN) pa_nil)) (pd_bi (b_reprM hX) hX.mg T.z_repr bt_repr (pa_cons (pd_own_call hX h__law_due (pa_cons (pd_var 5 hX.hN) pa_nil)) pa_nil))) (pw_or1 (pt_cmp (c_ne hX.toFam) (pd_bi (b_reprM hX) hX.mg T.z_repr bt_repr (pa_cons (pd_var 5 hX.hN) pa_nil)) (pd_var 6 hX.hN))))) (pb_one (ps_ret pd_bl)) pb_nil)))))) (pb_one (ps_if (pt_not (pt_val (pd_own_call hX h__law_odd_right (pa_cons (pd_own_call hX h__law_scheme (pa_cons (pd_var 3 hX.hN) pa_nil)) (pa_cons (pd_ix hX.K (pd_var 3 hX.hN) pd_int) pa_nil))))) (pb_one (ps_ret pd_bl)) pb_nil)))))) (pb_one (ps_ret (pd_own_call0 hX h__law_very_right))))) r_law
end
theorem all_mk {P : Program} {w : World} {K : Fg} {mg : Str → Option Value} {h : Heap} {fa : Addr} (X : K.In h) (G : h.Ns mainGlobals mg) (hfa : mg "law" = some (.ref fa))
    {a_is_list : Addr} {oc_is_list kV_is_list dc_is_list pm_is_list cd_is_list ct_is_list : Value} {od_is_list an_is_list : Option Addr} {sl_is_list : Array (Option Value)}
    {a_is_letter : Addr} {oc_is_letter kV_is_letter dc_is_letter pm_is_letter cd_is_letter ct_is_letter : Value} {od_is_letter an_is_letter : Option Addr} {sl_is_letter : Array (Option Value)}
    {a_check_cost : Addr} {oc_check_cost kV_check_cost dc_check_cost pm_check_cost cd_check_cost ct_check_cost : Value} {od_check_cost an_check_cost : Option Addr} {sl_check_cost : Array (Option Value)}
    {a__law_cell : Addr} {oc__law_cell kV__law_cell dc__law_cell pm__law_cell cd__law_cell ct__law_cell : Value} {od__law_cell an__law_cell : Option Addr} {sl__law_cell : Array (Option Value)}
    {a__law_box : Addr} {oc__law_box kV__law_box dc__law_box pm__law_box cd__law_box ct__law_box : Value} {od__law_box an__law_box : Option Addr} {sl__law_box : Array (Option Value)}
    {a__law_take : Addr} {oc__law_take kV__law_take dc__law_take pm__law_take cd__law_take ct__law_take : Value} {od__law_take an__law_take : Option Addr} {sl__law_take : Array (Option Value)}
    {a__law_is_small : Addr} {oc__law_is_small kV__law_is_small dc__law_is_small pm__law_is_small cd__law_is_small ct__law_is_small : Value} {od__law_is_small an__law_is_small : Option Addr} {sl__law_is_small : Array (Option Value)}
    {a__law_is_cost : Addr} {oc__law_is_cost kV__law_is_cost dc__law_is_cost pm__law_is_cost cd__law_is_cost ct__law_is_cost : Value} {od__law_is_cost an__law_is_cost : Option Addr} {sl__law_is_cost : Array (Option Value)}
    {a_is_lettered : Addr} {oc_is_lettered kV_is_lettered dc_is_lettered pm_is_lettered cd_is_lettered ct_is_lettered : Value} {od_is_lettered an_is_lettered : Option Addr} {sl_is_lettered : Array (Option Value)}
    {a_is_step : Addr} {oc_is_step kV_is_step dc_is_step pm_is_step cd_is_step ct_is_step : Value} {od_is_step an_is_step : Option Addr} {sl_is_step : Array (Option Value)}
    {a__law_model : Addr} {oc__law_model kV__law_model dc__law_model pm__law_model cd__law_model ct__law_model : Value} {od__law_model an__law_model : Option Addr} {sl__law_model : Array (Option Value)}
    {a__law_due_costs : Addr} {oc__law_due_costs kV__law_due_costs dc__law_due_costs pm__law_due_costs cd__law_due_costs ct__law_due_costs : Value} {od__law_due_costs an__law_due_costs : Option Addr} {sl__law_due_costs : Array (Option Value)}
    {a__law_due_groups : Addr} {oc__law_due_groups kV__law_due_groups dc__law_due_groups pm__law_due_groups cd__law_due_groups ct__law_due_groups : Value} {od__law_due_groups an__law_due_groups : Option Addr} {sl__law_due_groups : Array (Option Value)}
    {a__law_bent : Addr} {oc__law_bent kV__law_bent dc__law_bent pm__law_bent cd__law_bent ct__law_bent : Value} {od__law_bent an__law_bent : Option Addr} {sl__law_bent : Array (Option Value)}
    {a_is_name : Addr} {oc_is_name kV_is_name dc_is_name pm_is_name cd_is_name ct_is_name : Value} {od_is_name an_is_name : Option Addr} {sl_is_name : Array (Option Value)}
    {a_is_group : Addr} {oc_is_group kV_is_group dc_is_group pm_is_group cd_is_group ct_is_group : Value} {od_is_group an_is_group : Option Addr} {sl_is_group : Array (Option Value)}
    {a__law_due : Addr} {oc__law_due kV__law_due dc__law_due pm__law_due cd__law_due ct__law_due : Value} {od__law_due an__law_due : Option Addr} {sl__law_due : Array (Option Value)}
    {a_check_names : Addr} {oc_check_names kV_check_names dc_check_names pm_check_names cd_check_names ct_check_names : Value} {od_check_names an_check_names : Option Addr} {sl_check_names : Array (Option Value)}
    {a_checked_groups : Addr} {oc_checked_groups kV_checked_groups dc_checked_groups pm_checked_groups cd_checked_groups ct_checked_groups : Value} {od_checked_groups an_checked_groups : Option Addr} {sl_checked_groups : Array (Option Value)}
    {a__law_caught : Addr} {oc__law_caught kV__law_caught dc__law_caught pm__law_caught cd__law_caught ct__law_caught : Value} {od__law_caught an__law_caught : Option Addr} {sl__law_caught : Array (Option Value)}
    {a__law_odd_right : Addr} {oc__law_odd_right kV__law_odd_right dc__law_odd_right pm__law_odd_right cd__law_odd_right ct__law_odd_right : Value} {od__law_odd_right an__law_odd_right : Option Addr} {sl__law_odd_right : Array (Option Value)}
    {a__law_scheme : Addr} {oc__law_scheme kV__law_scheme dc__law_scheme pm__law_scheme cd__law_scheme ct__law_scheme : Value} {od__law_scheme an__law_scheme : Option Addr} {sl__law_scheme : Array (Option Value)}
    {a__law_told : Addr} {oc__law_told kV__law_told dc__law_told pm__law_told cd__law_told ct__law_told : Value} {od__law_told an__law_told : Option Addr} {sl__law_told : Array (Option Value)}
    {a__law_very_right : Addr} {oc__law_very_right kV__law_very_right dc__law_very_right pm__law_very_right cd__law_very_right ct__law_very_right : Value} {od__law_very_right an__law_very_right : Option Addr} {sl__law_very_right : Array (Option Value)}
    {a_law : Addr} {oc_law kV_law dc_law pm_law cd_law ct_law : Value} {od_law an_law : Option Addr} {sl_law : Array (Option Value)}
    {C_Duplicate f_Duplicate N_Duplicate cda_Duplicate cc_Duplicate : Addr} {nm_Duplicate q_Duplicate qual_Duplicate msg_Duplicate file_Duplicate : Str} {bs_Duplicate bm_Duplicate sub_Duplicate : List Value} {sn_Duplicate : List Str} {ab_Duplicate : Bool} {col_Duplicate : Option Bool} {dd_Duplicate od_Duplicate an_Duplicate cld_Duplicate cdd_Duplicate : Option Addr} {k0_Duplicate k1_Duplicate k2_Duplicate k3_Duplicate k5_Duplicate : Option Value} {oc_Duplicate doc_Duplicate pm_Duplicate ct_Duplicate cl_Duplicate ccl_Duplicate : Value} {osl_Duplicate csl_Duplicate ccs_Duplicate : Array (Option Value)} {vs_Duplicate : Array Value} {tf_Duplicate : Tok} {j_Duplicate : Nat} {p1_Duplicate p2_Duplicate d1_Duplicate d2_Duplicate d3_Duplicate d4_Duplicate d5_Duplicate d6_Duplicate q1_Duplicate q2_Duplicate q3_Duplicate q4_Duplicate : Pos}
    {C_InvalidGroup f_InvalidGroup N_InvalidGroup cda_InvalidGroup cc_InvalidGroup : Addr} {nm_InvalidGroup q_InvalidGroup qual_InvalidGroup msg_InvalidGroup file_InvalidGroup : Str} {bs_InvalidGroup bm_InvalidGroup sub_InvalidGroup : List Value} {sn_InvalidGroup : List Str} {ab_InvalidGroup : Bool} {col_InvalidGroup : Option Bool} {dd_InvalidGroup od_InvalidGroup an_InvalidGroup cld_InvalidGroup cdd_InvalidGroup : Option Addr} {k0_InvalidGroup k1_InvalidGroup k2_InvalidGroup k3_InvalidGroup k5_InvalidGroup : Option Value} {oc_InvalidGroup doc_InvalidGroup pm_InvalidGroup ct_InvalidGroup cl_InvalidGroup ccl_InvalidGroup : Value} {osl_InvalidGroup csl_InvalidGroup ccs_InvalidGroup : Array (Option Value)} {vs_InvalidGroup : Array Value} {tf_InvalidGroup : Tok} {j_InvalidGroup : Nat} {p1_InvalidGroup p2_InvalidGroup d1_InvalidGroup d2_InvalidGroup d3_InvalidGroup d4_InvalidGroup d5_InvalidGroup d6_InvalidGroup q1_InvalidGroup q2_InvalidGroup q3_InvalidGroup q4_InvalidGroup : Pos}
    {C_InvalidLetter f_InvalidLetter N_InvalidLetter cda_InvalidLetter cc_InvalidLetter : Addr} {nm_InvalidLetter q_InvalidLetter qual_InvalidLetter msg_InvalidLetter file_InvalidLetter : Str} {bs_InvalidLetter bm_InvalidLetter sub_InvalidLetter : List Value} {sn_InvalidLetter : List Str} {ab_InvalidLetter : Bool} {col_InvalidLetter : Option Bool} {dd_InvalidLetter od_InvalidLetter an_InvalidLetter cld_InvalidLetter cdd_InvalidLetter : Option Addr} {k0_InvalidLetter k1_InvalidLetter k2_InvalidLetter k3_InvalidLetter k5_InvalidLetter : Option Value} {oc_InvalidLetter doc_InvalidLetter pm_InvalidLetter ct_InvalidLetter cl_InvalidLetter ccl_InvalidLetter : Value} {osl_InvalidLetter csl_InvalidLetter ccs_InvalidLetter : Array (Option Value)} {vs_InvalidLetter : Array Value} {tf_InvalidLetter : Tok} {j_InvalidLetter : Nat} {p1_InvalidLetter p2_InvalidLetter d1_InvalidLetter d2_InvalidLetter d3_InvalidLetter d4_InvalidLetter d5_InvalidLetter d6_InvalidLetter q1_InvalidLetter q2_InvalidLetter q3_InvalidLetter q4_InvalidLetter : Pos}
    {C_InvalidName f_InvalidName N_InvalidName cda_InvalidName cc_InvalidName : Addr} {nm_InvalidName q_InvalidName qual_InvalidName msg_InvalidName file_InvalidName : Str} {bs_InvalidName bm_InvalidName sub_InvalidName : List Value} {sn_InvalidName : List Str} {ab_InvalidName : Bool} {col_InvalidName : Option Bool} {dd_InvalidName od_InvalidName an_InvalidName cld_InvalidName cdd_InvalidName : Option Addr} {k0_InvalidName k1_InvalidName k2_InvalidName k3_InvalidName k5_InvalidName : Option Value} {oc_InvalidName doc_InvalidName pm_InvalidName ct_InvalidName cl_InvalidName ccl_InvalidName : Value} {osl_InvalidName csl_InvalidName ccs_InvalidName : Array (Option Value)} {vs_InvalidName : Array Value} {tf_InvalidName : Tok} {j_InvalidName : Nat} {p1_InvalidName p2_InvalidName d1_InvalidName d2_InvalidName d3_InvalidName d4_InvalidName d5_InvalidName d6_InvalidName q1_InvalidName q2_InvalidName q3_InvalidName q4_InvalidName : Pos}
    {C_InvalidPart f_InvalidPart N_InvalidPart cda_InvalidPart cc_InvalidPart : Addr} {nm_InvalidPart q_InvalidPart qual_InvalidPart msg_InvalidPart file_InvalidPart : Str} {bs_InvalidPart bm_InvalidPart sub_InvalidPart : List Value} {sn_InvalidPart : List Str} {ab_InvalidPart : Bool} {col_InvalidPart : Option Bool} {dd_InvalidPart od_InvalidPart an_InvalidPart cld_InvalidPart cdd_InvalidPart : Option Addr} {k0_InvalidPart k1_InvalidPart k2_InvalidPart k3_InvalidPart k5_InvalidPart : Option Value} {oc_InvalidPart doc_InvalidPart pm_InvalidPart ct_InvalidPart cl_InvalidPart ccl_InvalidPart : Value} {osl_InvalidPart csl_InvalidPart ccs_InvalidPart : Array (Option Value)} {vs_InvalidPart : Array Value} {tf_InvalidPart : Tok} {j_InvalidPart : Nat} {p1_InvalidPart p2_InvalidPart d1_InvalidPart d2_InvalidPart d3_InvalidPart d4_InvalidPart d5_InvalidPart d6_InvalidPart q1_InvalidPart q2_InvalidPart q3_InvalidPart q4_InvalidPart : Pos}
    {C_InvalidStep f_InvalidStep N_InvalidStep cda_InvalidStep cc_InvalidStep : Addr} {nm_InvalidStep q_InvalidStep qual_InvalidStep msg_InvalidStep file_InvalidStep : Str} {bs_InvalidStep bm_InvalidStep sub_InvalidStep : List Value} {sn_InvalidStep : List Str} {ab_InvalidStep : Bool} {col_InvalidStep : Option Bool} {dd_InvalidStep od_InvalidStep an_InvalidStep cld_InvalidStep cdd_InvalidStep : Option Addr} {k0_InvalidStep k1_InvalidStep k2_InvalidStep k3_InvalidStep k5_InvalidStep : Option Value} {oc_InvalidStep doc_InvalidStep pm_InvalidStep ct_InvalidStep cl_InvalidStep ccl_InvalidStep : Value} {osl_InvalidStep csl_InvalidStep ccs_InvalidStep : Array (Option Value)} {vs_InvalidStep : Array Value} {tf_InvalidStep : Tok} {j_InvalidStep : Nat} {p1_InvalidStep p2_InvalidStep d1_InvalidStep d2_InvalidStep d3_InvalidStep d4_InvalidStep d5_InvalidStep d6_InvalidStep q1_InvalidStep q2_InvalidStep q3_InvalidStep q4_InvalidStep : Pos}
    {C_UnknownCost f_UnknownCost N_UnknownCost cda_UnknownCost cc_UnknownCost : Addr} {nm_UnknownCost q_UnknownCost qual_UnknownCost msg_UnknownCost file_UnknownCost : Str} {bs_UnknownCost bm_UnknownCost sub_UnknownCost : List Value} {sn_UnknownCost : List Str} {ab_UnknownCost : Bool} {col_UnknownCost : Option Bool} {dd_UnknownCost od_UnknownCost an_UnknownCost cld_UnknownCost cdd_UnknownCost : Option Addr} {k0_UnknownCost k1_UnknownCost k2_UnknownCost k3_UnknownCost k5_UnknownCost : Option Value} {oc_UnknownCost doc_UnknownCost pm_UnknownCost ct_UnknownCost cl_UnknownCost ccl_UnknownCost : Value} {osl_UnknownCost csl_UnknownCost ccs_UnknownCost : Array (Option Value)} {vs_UnknownCost : Array Value} {tf_UnknownCost : Tok} {j_UnknownCost : Nat} {p1_UnknownCost p2_UnknownCost d1_UnknownCost d2_UnknownCost d3_UnknownCost d4_UnknownCost d5_UnknownCost d6_UnknownCost q1_UnknownCost q2_UnknownCost q3_UnknownCost q4_UnknownCost : Pos}
    {a_STEPS_ALONE : Addr} {od_STEPS_ALONE : Option Addr} {sl_STEPS_ALONE : Array (Option Value)} {n_STEPS_ALONE : Nat} {t0_STEPS_ALONE t1_STEPS_ALONE t2_STEPS_ALONE : Tok}
    {a_STEPS_WITH_LETTER : Addr} {od_STEPS_WITH_LETTER : Option Addr} {sl_STEPS_WITH_LETTER : Array (Option Value)} {n_STEPS_WITH_LETTER : Nat} {t0_STEPS_WITH_LETTER t1_STEPS_WITH_LETTER : Tok}
    {C_Scheme fi_Scheme : Addr} {oc_Scheme kV_Scheme dc_Scheme pm_Scheme cd_Scheme ct_Scheme : Value} {od_Scheme an_Scheme : Option Addr} {sl_Scheme : Array (Option Value)}
    {fm_Scheme_swap_cost : Addr} {oc_Scheme_swap_cost kV_Scheme_swap_cost dc_Scheme_swap_cost pm_Scheme_swap_cost cd_Scheme_swap_cost ct_Scheme_swap_cost : Value} {od_Scheme_swap_cost an_Scheme_swap_cost : Option Addr} {sl_Scheme_swap_cost : Array (Option Value)}
    {fm_Scheme_step_cost : Addr} {oc_Scheme_step_cost kV_Scheme_step_cost dc_Scheme_step_cost pm_Scheme_step_cost cd_Scheme_step_cost ct_Scheme_step_cost : Value} {od_Scheme_step_cost an_Scheme_step_cost : Option Addr} {sl_Scheme_step_cost : Array (Option Value)}
    {dT_Scheme_step_cost : Addr} {odT_Scheme_step_cost : Option Addr} {nT_Scheme_step_cost : Nat} {slT_Scheme_step_cost : Array (Option Value)}
    (x_is_list : PySem.W.nsIn K mainGlobals "is_list" = some (some (.ref a_is_list))) (l_is_list : K.lookup a_is_list = some ⟨oc_is_list, od_is_list, .func (PySem.W.fnOf "is_list" "is_list" (defArgs s_is_list) (defBody s_is_list) (defScope s_is_list) .none kV_is_list dc_is_list pm_is_list an_is_list cd_is_list ct_is_list), sl_is_list⟩) (c_is_list : PySem.W.codeIn K cd_is_list "is_list" = true) (k_is_list : PySem.W.keepIn K (.ref a_is_list) = true)
    (x_is_letter : PySem.W.nsIn K mainGlobals "is_letter" = some (some (.ref a_is_letter))) (l_is_letter : K.lookup a_is_letter = some ⟨oc_is_letter, od_is_letter, .func (PySem.W.fnOf "is_letter" "is_letter" (defArgs s_is_letter) (defBody s_is_letter) (defScope s_is_letter) .none kV_is_letter dc_is_letter pm_is_letter an_is_letter cd_is_letter ct_is_letter), sl_is_letter⟩) (c_is_letter : PySem.W.codeIn K cd_is_letter "is_letter" = true) (k_is_letter : PySem.W.keepIn K (.ref a_is_letter) = true)
    (x_check_cost : PySem.W.nsIn K mainGlobals "check_cost" = some (some (.ref a_check_cost))) (l_check_cost : K.lookup a_check_cost = some ⟨oc_check_cost, od_check_cost, .func (PySem.W.fnOf "check_cost" "check_cost" (defArgs s_check_cost) (defBody s_check_cost) (defScope s_check_cost) .none kV_check_cost dc_check_cost pm_check_cost an_check_cost cd_check_cost ct_check_cost), sl_check_cost⟩) (c_check_cost : PySem.W.codeIn K cd_check_cost "check_cost" = true) (k_check_cost : PySem.W.keepIn K (.ref a_check_cost) = true)
    (x__law_cell : PySem.W.nsIn K mainGlobals "_law_cell" = some (some (.ref a__law_cell))) (l__law_cell : K.lookup a__law_cell = some ⟨oc__law_cell, od__law_cell, .func (PySem.W.fnOf "_law_cell" "_law_cell" (defArgs s__law_cell) (defBody s__law_cell) (defScope s__law_cell) .none kV__law_cell dc__law_cell pm__law_cell an__law_cell cd__law_cell ct__law_cell), sl__law_cell⟩) (c__law_cell : PySem.W.codeIn K cd__law_cell "_law_cell" = true) (k__law_cell : PySem.W.keepIn K (.ref a__law_cell) = true)
    (x__law_box : PySem.W.nsIn K mainGlobals "_law_box" = some (some (.ref a__law_box))) (l__law_box : K.lookup a__law_box = some ⟨oc__law_box, od__law_box, .func (PySem.W.fnOf "_law_box" "_law_box" (defArgs s__law_box) (defBody s__law_box) (defScope s__law_box) .none kV__law_box dc__law_box pm__law_box an__law_box cd__law_box ct__law_box), sl__law_box⟩) (c__law_box : PySem.W.codeIn K cd__law_box "_law_box" = true) (k__law_box : PySem.W.keepIn K (.ref a__law_box) = true)
    (x__law_take : PySem.W.nsIn K mainGlobals "_law_take" = some (some (.ref a__law_take))) (l__law_take : K.lookup a__law_take = some ⟨oc__law_take, od__law_take, .func (PySem.W.fnOf "_law_take" "_law_take" (defArgs s__law_take) (defBody s__law_take) (defScope s__law_take) .none kV__law_take dc__law_take pm__law_take an__law_take cd__law_take ct__law_take), sl__law_take⟩) (c__law_take : PySem.W.codeIn K cd__law_take "_law_take" = true) (k__law_take : PySem.W.keepIn K (.ref a__law_take) = true)
    (x__law_is_small : PySem.W.nsIn K mainGlobals "_law_is_small" = some (some (.ref a__law_is_small))) (l__law_is_small : K.lookup a__law_is_small = some ⟨oc__law_is_small, od__law_is_small, .func (PySem.W.fnOf "_law_is_small" "_law_is_small" (defArgs s__law_is_small) (defBody s__law_is_small) (defScope s__law_is_small) .none kV__law_is_small dc__law_is_small pm__law_is_small an__law_is_small cd__law_is_small ct__law_is_small), sl__law_is_small⟩) (c__law_is_small : PySem.W.codeIn K cd__law_is_small "_law_is_small" = true) (k__law_is_small : PySem.W.keepIn K (.ref a__law_is_small) = true)
    (x__law_is_cost : PySem.W.nsIn K mainGlobals "_law_is_cost" = some (some (.ref a__law_is_cost))) (l__law_is_cost : K.lookup a__law_is_cost = some ⟨oc__law_is_cost, od__law_is_cost, .func (PySem.W.fnOf "_law_is_cost" "_law_is_cost" (defArgs s__law_is_cost) (defBody s__law_is_cost) (defScope s__law_is_cost) .none kV__law_is_cost dc__law_is_cost pm__law_is_cost an__law_is_cost cd__law_is_cost ct__law_is_cost), sl__law_is_cost⟩) (c__law_is_cost : PySem.W.codeIn K cd__law_is_cost "_law_is_cost" = true) (k__law_is_cost : PySem.W.keepIn K (.ref a__law_is_cost) = true)
    (x_is_lettered : PySem.W.nsIn K mainGlobals "is_lettered" = some (some (.ref a_is_lettered))) (l_is_lettered : K.lookup a_is_lettered = some ⟨oc_is_lettered, od_is_lettered, .func (PySem.W.fnOf "is_lettered" "is_lettered" (defArgs s_is_lettered) (defBody s_is_lettered) (defScope s_is_lettered) .none kV_is_lettered dc_is_lettered pm_is_lettered an_is_lettered cd_is_lettered ct_is_lettered), sl_is_lettered⟩) (c_is_lettered : PySem.W.codeIn K cd_is_lettered "is_lettered" = true) (k_is_lettered : PySem.W.keepIn K (.ref a_is_lettered) = true)
    (x_is_step : PySem.W.nsIn K mainGlobals "is_step" = some (some (.ref a_is_step))) (l_is_step : K.lookup a_is_step = some ⟨oc_is_step, od_is_step, .func (PySem.W.fnOf "is_step" "is_step" (defArgs s_is_step) (defBody s_is_step) (defScope s_is_step) .none kV_is_step dc_is_step pm_is_step an_is_step cd_is_step ct_is_step), sl_is_step⟩) (c_is_step : PySem.W.codeIn K cd_is_step "is_step" = true) (k_is_step : PySem.W.keepIn K (.ref a_is_step) = true)
    (x__law_model : PySem.W.nsIn K mainGlobals "_law_model" = some (some (.ref a__law_model))) (l__law_model : K.lookup a__law_model = some ⟨oc__law_model, od__law_model, .func (PySem.W.fnOf "_law_model" "_law_model" (defArgs s__law_model) (defBody s__law_model) (defScope s__law_model) .none kV__law_model dc__law_model pm__law_model an__law_model cd__law_model ct__law_model), sl__law_model⟩) (c__law_model : PySem.W.codeIn K cd__law_model "_law_model" = true) (k__law_model : PySem.W.keepIn K (.ref a__law_model) = true)
    (x__law_due_costs : PySem.W.nsIn K mainGlobals "_law_due_costs" = some (some (.ref a__law_due_costs))) (l__law_due_costs : K.lookup a__law_due_costs = some ⟨oc__law_due_costs, od__law_due_costs, .func (PySem.W.fnOf "_law_due_costs" "_law_due_costs" (defArgs s__law_due_costs) (defBody s__law_due_costs) (defScope s__law_due_costs) .none kV__law_due_costs dc__law_due_costs pm__law_due_costs an__law_due_costs cd__law_due_costs ct__law_due_costs), sl__law_due_costs⟩) (c__law_due_costs : PySem.W.codeIn K cd__law_due_costs "_law_due_costs" = true) (k__law_due_costs : PySem.W.keepIn K (.ref a__law_due_costs) = true)
    (x__law_due_groups : PySem.W.nsIn K mainGlobals "_law_due_groups" = some (some (.ref a__law_due_groups))) (l__law_due_groups : K.lookup a__law_due_groups = some ⟨oc__law_due_groups, od__law_due_groups, .func (PySem.W.fnOf "_law_due_groups" "_law_due_groups" (defArgs s__law_due_groups) (defBody s__law_due_groups) (defScope s__law_due_groups) .none kV__law_due_groups dc__law_due_groups pm__law_due_groups an__law_due_groups cd__law_due_groups ct__law_due_groups), sl__law_due_groups⟩) (c__law_due_groups : PySem.W.codeIn K cd__law_due_groups "_law_due_groups" = true) (k__law_due_groups : PySem.W.keepIn K (.ref a__law_due_groups) = true)
    (x__law_bent : PySem.W.nsIn K mainGlobals "_law_bent" = some (some (.ref a__law_bent))) (l__law_bent : K.lookup a__law_bent = some ⟨oc__law_bent, od__law_bent, .func (PySem.W.fnOf "_law_bent" "_law_bent" (defArgs s__law_bent) (defBody s__law_bent) (defScope s__law_bent) .none kV__law_bent dc__law_bent pm__law_bent an__law_bent cd__law_bent ct__law_bent), sl__law_bent⟩) (c__law_bent : PySem.W.codeIn K cd__law_bent "_law_bent" = true) (k__law_bent : PySem.W.keepIn K (.ref a__law_bent) = true)
    (x_is_name : PySem.W.nsIn K mainGlobals "is_name" = some (some (.ref a_is_name))) (l_is_name : K.lookup a_is_name = some ⟨oc_is_name, od_is_name, .func (PySem.W.fnOf "is_name" "is_name" (defArgs s_is_name) (defBody s_is_name) (defScope s_is_name) .none kV_is_name dc_is_name pm_is_name an_is_name cd_is_name ct_is_name), sl_is_name⟩) (c_is_name : PySem.W.codeIn K cd_is_name "is_name" = true) (k_is_name : PySem.W.keepIn K (.ref a_is_name) = true)
    (x_is_group : PySem.W.nsIn K mainGlobals "is_group" = some (some (.ref a_is_group))) (l_is_group : K.lookup a_is_group = some ⟨oc_is_group, od_is_group, .func (PySem.W.fnOf "is_group" "is_group" (defArgs s_is_group) (defBody s_is_group) (defScope s_is_group) .none kV_is_group dc_is_group pm_is_group an_is_group cd_is_group ct_is_group), sl_is_group⟩) (c_is_group : PySem.W.codeIn K cd_is_group "is_group" = true) (k_is_group : PySem.W.keepIn K (.ref a_is_group) = true)
    (x__law_due : PySem.W.nsIn K mainGlobals "_law_due" = some (some (.ref a__law_due))) (l__law_due : K.lookup a__law_due = some ⟨oc__law_due, od__law_due, .func (PySem.W.fnOf "_law_due" "_law_due" (defArgs s__law_due) (defBody s__law_due) (defScope s__law_due) .none kV__law_due dc__law_due pm__law_due an__law_due cd__law_due ct__law_due), sl__law_due⟩) (c__law_due : PySem.W.codeIn K cd__law_due "_law_due" = true) (k__law_due : PySem.W.keepIn K (.ref a__law_due) = true)
    (x_check_names : PySem.W.nsIn K mainGlobals "check_names" = some (some (.ref a_check_names))) (l_check_names : K.lookup a_check_names = some ⟨oc_check_names, od_check_names, .func (PySem.W.fnOf "check_names" "check_names" (defArgs s_check_names) (defBody s_check_names) (defScope s_check_names) .none kV_check_names dc_check_names pm_check_names an_check_names cd_check_names ct_check_names), sl_check_names⟩) (c_check_names : PySem.W.codeIn K cd_check_names "check_names" = true) (k_check_names : PySem.W.keepIn K (.ref a_check_names) = true)
    (x_checked_groups : PySem.W.nsIn K mainGlobals "checked_groups" = some (some (.ref a_checked_groups))) (l_checked_groups : K.lookup a_checked_groups = some ⟨oc_checked_groups, od_checked_groups, .func (PySem.W.fnOf "checked_groups" "checked_groups" (defArgs s_checked_groups) (defBody s_checked_groups) (defScope s_checked_groups) .none kV_checked_groups dc_checked_groups pm_checked_groups an_checked_groups cd_checked_groups ct_checked_groups), sl_checked_groups⟩) (c_checked_groups : PySem.W.codeIn K cd_checked_groups "checked_groups" = true) (k_checked_groups : PySem.W.keepIn K (.ref a_checked_groups) = true)
    (x__law_caught : PySem.W.nsIn K mainGlobals "_law_caught" = some (some (.ref a__law_caught))) (l__law_caught : K.lookup a__law_caught = some ⟨oc__law_caught, od__law_caught, .func (PySem.W.fnOf "_law_caught" "_law_caught" (defArgs s__law_caught) (defBody s__law_caught) (defScope s__law_caught) .none kV__law_caught dc__law_caught pm__law_caught an__law_caught cd__law_caught ct__law_caught), sl__law_caught⟩) (c__law_caught : PySem.W.codeIn K cd__law_caught "_law_caught" = true) (k__law_caught : PySem.W.keepIn K (.ref a__law_caught) = true)
    (x__law_odd_right : PySem.W.nsIn K mainGlobals "_law_odd_right" = some (some (.ref a__law_odd_right))) (l__law_odd_right : K.lookup a__law_odd_right = some ⟨oc__law_odd_right, od__law_odd_right, .func (PySem.W.fnOf "_law_odd_right" "_law_odd_right" (defArgs s__law_odd_right) (defBody s__law_odd_right) (defScope s__law_odd_right) .none kV__law_odd_right dc__law_odd_right pm__law_odd_right an__law_odd_right cd__law_odd_right ct__law_odd_right), sl__law_odd_right⟩) (c__law_odd_right : PySem.W.codeIn K cd__law_odd_right "_law_odd_right" = true) (k__law_odd_right : PySem.W.keepIn K (.ref a__law_odd_right) = true)
    (x__law_scheme : PySem.W.nsIn K mainGlobals "_law_scheme" = some (some (.ref a__law_scheme))) (l__law_scheme : K.lookup a__law_scheme = some ⟨oc__law_scheme, od__law_scheme, .func (PySem.W.fnOf "_law_scheme" "_law_scheme" (defArgs s__law_scheme) (defBody s__law_scheme) (defScope s__law_scheme) .none kV__law_scheme dc__law_scheme pm__law_scheme an__law_scheme cd__law_scheme ct__law_scheme), sl__law_scheme⟩) (c__law_scheme : PySem.W.codeIn K cd__law_scheme "_law_scheme" = true) (k__law_scheme : PySem.W.keepIn K (.ref a__law_scheme) = true)
    (x__law_told : PySem.W.nsIn K mainGlobals "_law_told" = some (some (.ref a__law_told))) (l__law_told : K.lookup a__law_told = some ⟨oc__law_told, od__law_told, .func (PySem.W.fnOf "_law_told" "_law_told" (defArgs s__law_told) (defBody s__law_told) (defScope s__law_told) .none kV__law_told dc__law_told pm__law_told an__law_told cd__law_told ct__law_told), sl__law_told⟩) (c__law_told : PySem.W.codeIn K cd__law_told "_law_told" = true) (k__law_told : PySem.W.keepIn K (.ref a__law_told) = true)
    (x__law_very_right : PySem.W.nsIn K mainGlobals "_law_very_right" = some (some (.ref a__law_very_right))) (l__law_very_right : K.lookup a__law_very_right = some ⟨oc__law_very_right, od__law_very_right, .func (PySem.W.fnOf "_law_very_right" "_law_very_right" (defArgs s__law_very_right) (defBody s__law_very_right) (defScope s__law_very_right) .none kV__law_very_right dc__law_very_right pm__law_very_right an__law_very_right cd__law_very_right ct__law_very_right), sl__law_very_right⟩) (c__law_very_right : PySem.W.codeIn K cd__law_very_right "_law_very_right" = true) (k__law_very_right : PySem.W.keepIn K (.ref a__law_very_right) = true)
    (x_law : PySem.W.nsIn K mainGlobals "law" = some (some (.ref a_law))) (l_law : K.lookup a_law = some ⟨oc_law, od_law, .func (PySem.W.fnOf "law" "law" (defArgs s_law) (defBody s_law) (defScope s_law) .none kV_law dc_law pm_law an_law cd_law ct_law), sl_law⟩) (c_law : PySem.W.codeIn K cd_law "law" = true) (k_law : PySem.W.keepIn K (.ref a_law) = true)
    (a1_Duplicate : PySem.W.nsIn K mainGlobals "Duplicate" = some (some (.ref C_Duplicate)))
    (a2_Duplicate : PySem.W.findIn K (.ref C_Duplicate) "__init__" = some (some (.ref f_Duplicate)))
    (b1_Duplicate : K.lookup C_Duplicate = some (PySem.excClassObj nm_Duplicate q_Duplicate C_Duplicate N_Duplicate bs_Duplicate bm_Duplicate true sn_Duplicate sub_Duplicate ab_Duplicate col_Duplicate dd_Duplicate k0_Duplicate k1_Duplicate k2_Duplicate k3_Duplicate k5_Duplicate "ValueError.__new__"))
    (b2_Duplicate : PySem.W.excTail [.type "ValueError", .type "Exception", .type "BaseException", .type "object"] bm_Duplicate = true)
    (b3_Duplicate : PySem.W.findIn K (.ref C_Duplicate) "__setattr__" = some (some (.builtin "object.__setattr__")))
    (b4_Duplicate : PySem.W.findIn K (.ref C_Duplicate) "__getattribute__" = some (some (.builtin "BaseException.__getattribute__")))
    (b5_Duplicate : PySem.W.findIn K (.ref C_Duplicate) "__getattr__" = some none)
    (b6_Duplicate : PySem.W.findIn K (.ref C_Duplicate) "label" = some none)
    (b7_Duplicate : PySem.W.typeIn K (.ref f_Duplicate) = some (.type "function"))
    (b8_Duplicate : PySem.W.keepIn K (.ref C_Duplicate) = true)
    (b9_Duplicate : PySem.W.subIn K (.ref C_Duplicate) (.type "BaseException") = some true)
    (c1_Duplicate : PySem.W.typeIn K (.ref C_Duplicate) = some (.type "type"))
    (c2_Duplicate : PySem.W.hasDictIn K C_Duplicate = true)
    (c3_Duplicate : PySem.W.subIn K (.ref C_Duplicate) (.type "ValueError") = some true)
    (c4_Duplicate : PySem.W.mroIn K C_Duplicate (.ref C_Duplicate) = some true)
    (c5_Duplicate : PySem.W.nsIn K cStatics "thirdparty.any" = some none)
    (c6_Duplicate : PySem.W.ks_superIn K C_Duplicate C_Duplicate "__init__" = some (some (.builtin "ValueError.__init__")))
    (c7_Duplicate : PySem.W.isClsIn K C_Duplicate = true)
    (c8_Duplicate : PySem.W.subIn K (.ref C_Duplicate) (.ref C_Duplicate) = some true)
    (e1_Duplicate : K.lookup f_Duplicate = some ⟨oc_Duplicate, od_Duplicate, .func (PySem.W.ksFn "__init__" qual_Duplicate (XO.iA "label" p1_Duplicate p2_Duplicate) (XO.iB "label" msg_Duplicate j_Duplicate d1_Duplicate d2_Duplicate d3_Duplicate d4_Duplicate d5_Duplicate d6_Duplicate q1_Duplicate q2_Duplicate q3_Duplicate q4_Duplicate) (XO.iS "label") .none .none doc_Duplicate pm_Duplicate an_Duplicate (.ref cda_Duplicate) ct_Duplicate cc_Duplicate), osl_Duplicate⟩)
    (e2_Duplicate : PySem.W.codeIn K (.ref cda_Duplicate) qual_Duplicate = true)
    (e3_Duplicate : K.lookup cc_Duplicate = some ⟨cl_Duplicate, cld_Duplicate, .cell (some (.ref C_Duplicate)), csl_Duplicate⟩)
    (e4_Duplicate : K.lookup cda_Duplicate = some ⟨ccl_Duplicate, cdd_Duplicate, .fields vs_Duplicate, ccs_Duplicate⟩)
    (e5_Duplicate : vs_Duplicate[2]? = some (.str file_Duplicate tf_Duplicate))
    (e6_Duplicate : (P.main.file == file_Duplicate) = true)
    (e7_Duplicate : (d3_Duplicate.endLine == d5_Duplicate.line) = true)
    (a1_InvalidGroup : PySem.W.nsIn K mainGlobals "InvalidGroup" = some (some (.ref C_InvalidGroup)))
    (a2_InvalidGroup : PySem.W.findIn K (.ref C_InvalidGroup) "__init__" = some (some (.ref f_InvalidGroup)))
    (b1_InvalidGroup : K.lookup C_InvalidGroup = some (PySem.excClassObj nm_InvalidGroup q_InvalidGroup C_InvalidGroup N_InvalidGroup bs_InvalidGroup bm_InvalidGroup true sn_InvalidGroup sub_InvalidGroup ab_InvalidGroup col_InvalidGroup dd_InvalidGroup k0_InvalidGroup k1_InvalidGroup k2_InvalidGroup k3_InvalidGroup k5_InvalidGroup "ValueError.__new__"))
    (b2_InvalidGroup : PySem.W.excTail [.type "ValueError", .type "Exception", .type "BaseException", .type "object"] bm_InvalidGroup = true)
    (b3_InvalidGroup : PySem.W.findIn K (.ref C_InvalidGroup) "__setattr__" = some (some (.builtin "object.__setattr__")))
    (b4_InvalidGroup : PySem.W.findIn K (.ref C_InvalidGroup) "__getattribute__" = some (some (.builtin "BaseException.__getattribute__")))
    (b5_InvalidGroup : PySem.W.findIn K (.ref C_InvalidGroup) "__getattr__" = some none)
    (b6_InvalidGroup : PySem.W.findIn K (.ref C_InvalidGroup) "value" = some none)
    (b7_InvalidGroup : PySem.W.typeIn K (.ref f_InvalidGroup) = some (.type "function"))
    (b8_InvalidGroup : PySem.W.keepIn K (.ref C_InvalidGroup) = true)
    (b9_InvalidGroup : PySem.W.subIn K (.ref C_InvalidGroup) (.type "BaseException") = some true)
    (c1_InvalidGroup : PySem.W.typeIn K (.ref C_InvalidGroup) = some (.type "type"))
    (c2_InvalidGroup : PySem.W.hasDictIn K C_InvalidGroup = true)
    (c3_InvalidGroup : PySem.W.subIn K (.ref C_InvalidGroup) (.type "ValueError") = some true)
    (c4_InvalidGroup : PySem.W.mroIn K C_InvalidGroup (.ref C_InvalidGroup) = some true)
    (c5_InvalidGroup : PySem.W.nsIn K cStatics "thirdparty.any" = some none)
    (c6_InvalidGroup : PySem.W.ks_superIn K C_InvalidGroup C_InvalidGroup "__init__" = some (some (.builtin "ValueError.__init__")))
    (c7_InvalidGroup : PySem.W.isClsIn K C_InvalidGroup = true)
    (c8_InvalidGroup : PySem.W.subIn K (.ref C_InvalidGroup) (.ref C_InvalidGroup) = some true)
    (e1_InvalidGroup : K.lookup f_InvalidGroup = some ⟨oc_InvalidGroup, od_InvalidGroup, .func (PySem.W.ksFn "__init__" qual_InvalidGroup (XO.iA "value" p1_InvalidGroup p2_InvalidGroup) (XO.iB "value" msg_InvalidGroup j_InvalidGroup d1_InvalidGroup d2_InvalidGroup d3_InvalidGroup d4_InvalidGroup d5_InvalidGroup d6_InvalidGroup q1_InvalidGroup q2_InvalidGroup q3_InvalidGroup q4_InvalidGroup) (XO.iS "value") .none .none doc_InvalidGroup pm_InvalidGroup an_InvalidGroup (.ref cda_InvalidGroup) ct_InvalidGroup cc_InvalidGroup), osl_InvalidGroup⟩)
    (e2_InvalidGroup : PySem.W.codeIn K (.ref cda_InvalidGroup) qual_InvalidGroup = true)
    (e3_InvalidGroup : K.lookup cc_InvalidGroup = some ⟨cl_InvalidGroup, cld_InvalidGroup, .cell (some (.ref C_InvalidGroup)), csl_InvalidGroup⟩)
    (e4_InvalidGroup : K.lookup cda_InvalidGroup = some ⟨ccl_InvalidGroup, cdd_InvalidGroup, .fields vs_InvalidGroup, ccs_InvalidGroup⟩)
    (e5_InvalidGroup : vs_InvalidGroup[2]? = some (.str file_InvalidGroup tf_InvalidGroup))
    (e6_InvalidGroup : (P.main.file == file_InvalidGroup) = true)
    (e7_InvalidGroup : (d3_InvalidGroup.endLine == d5_InvalidGroup.line) = true)
    (a1_InvalidLetter : PySem.W.nsIn K mainGlobals "InvalidLetter" = some (some (.ref C_InvalidLetter)))
    (a2_InvalidLetter : PySem.W.findIn K (.ref C_InvalidLetter) "__init__" = some (some (.ref f_InvalidLetter)))
    (b1_InvalidLetter : K.lookup C_InvalidLetter = some (PySem.excClassObj nm_InvalidLetter q_InvalidLetter C_InvalidLetter N_InvalidLetter bs_InvalidLetter bm_InvalidLetter true sn_InvalidLetter sub_InvalidLetter ab_InvalidLetter col_InvalidLetter dd_InvalidLetter k0_InvalidLetter k1_InvalidLetter k2_InvalidLetter k3_InvalidLetter k5_InvalidLetter "ValueError.__new__"))
    (b2_InvalidLetter : PySem.W.excTail [.type "ValueError", .type "Exception", .type "BaseException", .type "object"] bm_InvalidLetter = true)
    (b3_InvalidLetter : PySem.W.findIn K (.ref C_InvalidLetter) "__setattr__" = some (some (.builtin "object.__setattr__")))
    (b4_InvalidLetter : PySem.W.findIn K (.ref C_InvalidLetter) "__getattribute__" = some (some (.builtin "BaseException.__getattribute__")))
    (b5_InvalidLetter : PySem.W.findIn K (.ref C_InvalidLetter) "__getattr__" = some none)
    (b6_InvalidLetter : PySem.W.findIn K (.ref C_InvalidLetter) "value" = some none)
    (b7_InvalidLetter : PySem.W.typeIn K (.ref f_InvalidLetter) = some (.type "function"))
    (b8_InvalidLetter : PySem.W.keepIn K (.ref C_InvalidLetter) = true)
    (b9_InvalidLetter : PySem.W.subIn K (.ref C_InvalidLetter) (.type "BaseException") = some true)
    (c1_InvalidLetter : PySem.W.typeIn K (.ref C_InvalidLetter) = some (.type "type"))
    (c2_InvalidLetter : PySem.W.hasDictIn K C_InvalidLetter = true)
    (c3_InvalidLetter : PySem.W.subIn K (.ref C_InvalidLetter) (.type "ValueError") = some true)
    (c4_InvalidLetter : PySem.W.mroIn K C_InvalidLetter (.ref C_InvalidLetter) = some true)
    (c5_InvalidLetter : PySem.W.nsIn K cStatics "thirdparty.any" = some none)
    (c6_InvalidLetter : PySem.W.ks_superIn K C_InvalidLetter C_InvalidLetter "__init__" = some (some (.builtin "ValueError.__init__")))
    (c7_InvalidLetter : PySem.W.isClsIn K C_InvalidLetter = true)
    (c8_InvalidLetter : PySem.W.subIn K (.ref C_InvalidLetter) (.ref C_InvalidLetter) = some true)
    (e1_InvalidLetter : K.lookup f_InvalidLetter = some ⟨oc_InvalidLetter, od_InvalidLetter, .func (PySem.W.ksFn "__init__" qual_InvalidLetter (XO.iA "value" p1_InvalidLetter p2_InvalidLetter) (XO.iB "value" msg_InvalidLetter j_InvalidLetter d1_InvalidLetter d2_InvalidLetter d3_InvalidLetter d4_InvalidLetter d5_InvalidLetter d6_InvalidLetter q1_InvalidLetter q2_InvalidLetter q3_InvalidLetter q4_InvalidLetter) (XO.iS "value") .none .none doc_InvalidLetter pm_InvalidLetter an_InvalidLetter (.ref cda_InvalidLetter) ct_InvalidLetter cc_InvalidLetter), osl_InvalidLetter⟩)
    (e2_InvalidLetter : PySem.W.codeIn K (.ref cda_InvalidLetter) qual_InvalidLetter = true)
    (e3_InvalidLetter : K.lookup cc_InvalidLetter = some ⟨cl_InvalidLetter, cld_InvalidLetter, .cell (some (.ref C_InvalidLetter)), csl_InvalidLetter⟩)
    (e4_InvalidLetter : K.lookup cda_InvalidLetter = some ⟨ccl_InvalidLetter, cdd_InvalidLetter, .fields vs_InvalidLetter, ccs_InvalidLetter⟩)
    (e5_InvalidLetter : vs_InvalidLetter[2]? = some (.str file_InvalidLetter tf_InvalidLetter))
    (e6_InvalidLetter : (P.main.file == file_InvalidLetter) = true)
    (e7_InvalidLetter : (d3_InvalidLetter.endLine == d5_InvalidLetter.line) = true)
    (a1_InvalidName : PySem.W.nsIn K mainGlobals "InvalidName" = some (some (.ref C_InvalidName)))
    (a2_InvalidName : PySem.W.findIn K (.ref C_InvalidName) "__init__" = some (some (.ref f_InvalidName)))
    (b1_InvalidName : K.lookup C_InvalidName = some (PySem.excClassObj nm_InvalidName q_InvalidName C_InvalidName N_InvalidName bs_InvalidName bm_InvalidName true sn_InvalidName sub_InvalidName ab_InvalidName col_InvalidName dd_InvalidName k0_InvalidName k1_InvalidName k2_InvalidName k3_InvalidName k5_InvalidName "ValueError.__new__"))
    (b2_InvalidName : PySem.W.excTail [.type "ValueError", .type "Exception", .type "BaseException", .type "object"] bm_InvalidName = true)
    (b3_InvalidName : PySem.W.findIn K (.ref C_InvalidName) "__setattr__" = some (some (.builtin "object.__setattr__")))
    (b4_InvalidName : PySem.W.findIn K (.ref C_InvalidName) "__getattribute__" = some (some (.builtin "BaseException.__getattribute__")))
    (b5_InvalidName : PySem.W.findIn K (.ref C_InvalidName) "__getattr__" = some none)
    (b6_InvalidName : PySem.W.findIn K (.ref C_InvalidName) "value" = some none)
    (b7_InvalidName : PySem.W.typeIn K (.ref f_InvalidName) = some (.type "function"))
    (b8_InvalidName : PySem.W.keepIn K (.ref C_InvalidName) = true)
    (b9_InvalidName : PySem.W.subIn K (.ref C_InvalidName) (.type "BaseException") = some true)
    (c1_InvalidName : PySem.W.typeIn K (.ref C_InvalidName) = some (.type "type"))
    (c2_InvalidName : PySem.W.hasDictIn K C_InvalidName = true)
    (c3_InvalidName : PySem.W.subIn K (.ref C_InvalidName) (.type "ValueError") = some true)
    (c4_InvalidName : PySem.W.mroIn K C_InvalidName (.ref C_InvalidName) = some true)
    (c5_InvalidName : PySem.W.nsIn K cStatics "thirdparty.any" = some none)
    (c6_InvalidName : PySem.W.ks_superIn K C_InvalidName C_InvalidName "__init__" = some (some (.builtin "ValueError.__init__")))
    (c7_InvalidName : PySem.W.isClsIn K C_InvalidName = true)
    (c8_InvalidName : PySem.W.subIn K (.ref C_InvalidName) (.ref C_InvalidName) = some true)
    (e1_InvalidName : K.lookup f_InvalidName = some ⟨oc_InvalidName, od_InvalidName, .func (PySem.W.ksFn "__init__" qual_InvalidName (XO.iA "value" p1_InvalidName p2_InvalidName) (XO.iB "value" msg_InvalidName j_InvalidName d1_InvalidName d2_InvalidName d3_InvalidName d4_InvalidName d5_InvalidName d6_InvalidName q1_InvalidName q2_InvalidName q3_InvalidName q4_InvalidName) (XO.iS "value") .none .none doc_InvalidName pm_InvalidName an_InvalidName (.ref cda_InvalidName) ct_InvalidName cc_InvalidName), osl_InvalidName⟩)
    (e2_InvalidName : PySem.W.codeIn K (.ref cda_InvalidName) qual_InvalidName = true)
    (e3_InvalidName : K.lookup cc_InvalidName = some ⟨cl_InvalidName, cld_InvalidName, .cell (some (.ref C_InvalidName)), csl_InvalidName⟩)
    (e4_InvalidName : K.lookup cda_InvalidName = some ⟨ccl_InvalidName, cdd_InvalidName, .fields vs_InvalidName, ccs_InvalidName⟩)
    (e5_InvalidName : vs_InvalidName[2]? = some (.str file_InvalidName tf_InvalidName))
    (e6_InvalidName : (P.main.file == file_InvalidName) = true)
    (e7_InvalidName : (d3_InvalidName.endLine == d5_InvalidName.line) = true)
    (a1_InvalidPart : PySem.W.nsIn K mainGlobals "InvalidPart" = some (some (.ref C_InvalidPart)))
    (a2_InvalidPart : PySem.W.findIn K (.ref C_InvalidPart) "__init__" = some (some (.ref f_InvalidPart)))
    (b1_InvalidPart : K.lookup C_InvalidPart = some (PySem.excClassObj nm_InvalidPart q_InvalidPart C_InvalidPart N_InvalidPart bs_InvalidPart bm_InvalidPart true sn_InvalidPart sub_InvalidPart ab_InvalidPart col_InvalidPart dd_InvalidPart k0_InvalidPart k1_InvalidPart k2_InvalidPart k3_InvalidPart k5_InvalidPart "ValueError.__new__"))
    (b2_InvalidPart : PySem.W.excTail [.type "ValueError", .type "Exception", .type "BaseException", .type "object"] bm_InvalidPart = true)
    (b3_InvalidPart : PySem.W.findIn K (.ref C_InvalidPart) "__setattr__" = some (some (.builtin "object.__setattr__")))
    (b4_InvalidPart : PySem.W.findIn K (.ref C_InvalidPart) "__getattribute__" = some (some (.builtin "BaseException.__getattribute__")))
    (b5_InvalidPart : PySem.W.findIn K (.ref C_InvalidPart) "__getattr__" = some none)
    (b6_InvalidPart : PySem.W.findIn K (.ref C_InvalidPart) "value" = some none)
    (b7_InvalidPart : PySem.W.typeIn K (.ref f_InvalidPart) = some (.type "function"))
    (b8_InvalidPart : PySem.W.keepIn K (.ref C_InvalidPart) = true)
    (b9_InvalidPart : PySem.W.subIn K (.ref C_InvalidPart) (.type "BaseException") = some true)
    (c1_InvalidPart : PySem.W.typeIn K (.ref C_InvalidPart) = some (.type "type"))
    (c2_InvalidPart : PySem.W.hasDictIn K C_InvalidPart = true)
    (c3_InvalidPart : PySem.W.subIn K (.ref C_InvalidPart) (.type "ValueError") = some true)
    (c4_InvalidPart : PySem.W.mroIn K C_InvalidPart (.ref C_InvalidPart) = some true)
    (c5_InvalidPart : PySem.W.nsIn K cStatics "thirdparty.any" = some none)
    (c6_InvalidPart : PySem.W.ks_superIn K C_InvalidPart C_InvalidPart "__init__" = some (some (.builtin "ValueError.__init__")))
    (c7_InvalidPart : PySem.W.isClsIn K C_InvalidPart = true)
    (c8_InvalidPart : PySem.W.subIn K (.ref C_InvalidPart) (.ref C_InvalidPart) = some true)
    (e1_InvalidPart : K.lookup f_InvalidPart = some ⟨oc_InvalidPart, od_InvalidPart, .func (PySem.W.ksFn "__init__" qual_InvalidPart (XO.iA "value" p1_InvalidPart p2_InvalidPart) (XO.iB "value" msg_InvalidPart j_InvalidPart d1_InvalidPart d2_InvalidPart d3_InvalidPart d4_InvalidPart d5_InvalidPart d6_InvalidPart q1_InvalidPart q2_InvalidPart q3_InvalidPart q4_InvalidPart) (XO.iS "value") .none .none doc_InvalidPart pm_InvalidPart an_InvalidPart (.ref cda_InvalidPart) ct_InvalidPart cc_InvalidPart), osl_InvalidPart⟩)
    (e2_InvalidPart : PySem.W.codeIn K (.ref cda_InvalidPart) qual_InvalidPart = true)
    (e3_InvalidPart : K.lookup cc_InvalidPart = some ⟨cl_InvalidPart, cld_InvalidPart, .cell (some (.ref C_InvalidPart)), csl_InvalidPart⟩)
    (e4_InvalidPart : K.lookup cda_InvalidPart = some ⟨ccl_InvalidPart, cdd_InvalidPart, .fields vs_InvalidPart, ccs_InvalidPart⟩)
    (e5_InvalidPart : vs_InvalidPart[2]? = some (.str file_InvalidPart tf_InvalidPart))
    (e6_InvalidPart : (P.main.file == file_InvalidPart) = true)
    (e7_InvalidPart : (d3_InvalidPart.endLine == d5_InvalidPart.line) = true)
    (a1_InvalidStep : PySem.W.nsIn K mainGlobals "InvalidStep" = some (some (.ref C_InvalidStep)))
    (a2_InvalidStep : PySem.W.findIn K (.ref C_InvalidStep) "__init__" = some (some (.ref f_InvalidStep)))
    (b1_InvalidStep : K.lookup C_InvalidStep = some (PySem.excClassObj nm_InvalidStep q_InvalidStep C_InvalidStep N_InvalidStep bs_InvalidStep bm_InvalidStep true sn_InvalidStep sub_InvalidStep ab_InvalidStep col_InvalidStep dd_InvalidStep k0_InvalidStep k1_InvalidStep k2_InvalidStep k3_InvalidStep k5_InvalidStep "ValueError.__new__"))
    (b2_InvalidStep : PySem.W.excTail [.type "ValueError", .type "Exception", .type "BaseException", .type "object"] bm_InvalidStep = true)
    (b3_InvalidStep : PySem.W.findIn K (.ref C_InvalidStep) "__setattr__" = some (some (.builtin "object.__setattr__")))
    (b4_InvalidStep : PySem.W.findIn K (.ref C_InvalidStep) "__getattribute__" = some (some (.builtin "BaseException.__getattribute__")))
    (b5_InvalidStep : PySem.W.findIn K (.ref C_InvalidStep) "__getattr__" = some none)
    (b6_InvalidStep : PySem.W.findIn K (.ref C_InvalidStep) "value" = some none)
    (b7_InvalidStep : PySem.W.typeIn K (.ref f_InvalidStep) = some (.type "function"))
    (b8_InvalidStep : PySem.W.keepIn K (.ref C_InvalidStep) = true)
    (b9_InvalidStep : PySem.W.subIn K (.ref C_InvalidStep) (.type "BaseException") = some true)
    (c1_InvalidStep : PySem.W.typeIn K (.ref C_InvalidStep) = some (.type "type"))
    (c2_InvalidStep : PySem.W.hasDictIn K C_InvalidStep = true)
    (c3_InvalidStep : PySem.W.subIn K (.ref C_InvalidStep) (.type "ValueError") = some true)
    (c4_InvalidStep : PySem.W.mroIn K C_InvalidStep (.ref C_InvalidStep) = some true)
    (c5_InvalidStep : PySem.W.nsIn K cStatics "thirdparty.any" = some none)
    (c6_InvalidStep : PySem.W.ks_superIn K C_InvalidStep C_InvalidStep "__init__" = some (some (.builtin "ValueError.__init__")))
    (c7_InvalidStep : PySem.W.isClsIn K C_InvalidStep = true)
    (c8_InvalidStep : PySem.W.subIn K (.ref C_InvalidStep) (.ref C_InvalidStep) = some true)
    (e1_InvalidStep : K.lookup f_InvalidStep = some ⟨oc_InvalidStep, od_InvalidStep, .func (PySem.W.ksFn "__init__" qual_InvalidStep (XO.iA "value" p1_InvalidStep p2_InvalidStep) (XO.iB "value" msg_InvalidStep j_InvalidStep d1_InvalidStep d2_InvalidStep d3_InvalidStep d4_InvalidStep d5_InvalidStep d6_InvalidStep q1_InvalidStep q2_InvalidStep q3_InvalidStep q4_InvalidStep) (XO.iS "value") .none .none doc_InvalidStep pm_InvalidStep an_InvalidStep (.ref cda_InvalidStep) ct_InvalidStep cc_InvalidStep), osl_InvalidStep⟩)
    (e2_InvalidStep : PySem.W.codeIn K (.ref cda_InvalidStep) qual_InvalidStep = true)
    (e3_InvalidStep : K.lookup cc_InvalidStep = some ⟨cl_InvalidStep, cld_InvalidStep, .cell (some (.ref C_InvalidStep)), csl_InvalidStep⟩)
    (e4_InvalidStep : K.lookup cda_InvalidStep = some ⟨ccl_InvalidStep, cdd_InvalidStep, .fields vs_InvalidStep, ccs_InvalidStep⟩)
    (e5_InvalidStep : vs_InvalidStep[2]? = some (.str file_InvalidStep tf_InvalidStep))
    (e6_InvalidStep : (P.main.file == file_InvalidStep) = true)
    (e7_InvalidStep : (d3_InvalidStep.endLine == d5_InvalidStep.line) = true)
    (a1_UnknownCost : PySem.W.nsIn K mainGlobals "UnknownCost" = some (some (.ref C_UnknownCost)))
    (a2_UnknownCost : PySem.W.findIn K (.ref C_UnknownCost) "__init__" = some (some (.ref f_UnknownCost)))
    (b1_UnknownCost : K.lookup C_UnknownCost = some (PySem.excClassObj nm_UnknownCost q_UnknownCost C_UnknownCost N_UnknownCost bs_UnknownCost bm_UnknownCost true sn_UnknownCost sub_UnknownCost ab_UnknownCost col_UnknownCost dd_UnknownCost k0_UnknownCost k1_UnknownCost k2_UnknownCost k3_UnknownCost k5_UnknownCost "LookupError.__new__"))
    (b2_UnknownCost : PySem.W.excTail [.type "KeyError", .type "LookupError", .type "Exception", .type "BaseException", .type "object"] bm_UnknownCost = true)
    (b3_UnknownCost : PySem.W.findIn K (.ref C_UnknownCost) "__setattr__" = some (some (.builtin "object.__setattr__")))
    (b4_UnknownCost : PySem.W.findIn K (.ref C_UnknownCost) "__getattribute__" = some (some (.builtin "BaseException.__getattribute__")))
    (b5_UnknownCost : PySem.W.findIn K (.ref C_UnknownCost) "__getattr__" = some none)
    (b6_UnknownCost : PySem.W.findIn K (.ref C_UnknownCost) "label" = some none)
    (b7_UnknownCost : PySem.W.typeIn K (.ref f_UnknownCost) = some (.type "function"))
    (b8_UnknownCost : PySem.W.keepIn K (.ref C_UnknownCost) = true)
    (b9_UnknownCost : PySem.W.subIn K (.ref C_UnknownCost) (.type "BaseException") = some true)
    (c1_UnknownCost : PySem.W.typeIn K (.ref C_UnknownCost) = some (.type "type"))
    (c2_UnknownCost : PySem.W.hasDictIn K C_UnknownCost = true)
    (c3_UnknownCost : PySem.W.subIn K (.ref C_UnknownCost) (.type "KeyError") = some true)
    (c4_UnknownCost : PySem.W.mroIn K C_UnknownCost (.ref C_UnknownCost) = some true)
    (c5_UnknownCost : PySem.W.nsIn K cStatics "thirdparty.any" = some none)
    (c6_UnknownCost : PySem.W.ks_superIn K C_UnknownCost C_UnknownCost "__init__" = some (some (.builtin "KeyError.__init__")))
    (c7_UnknownCost : PySem.W.isClsIn K C_UnknownCost = true)
    (c8_UnknownCost : PySem.W.subIn K (.ref C_UnknownCost) (.ref C_UnknownCost) = some true)
    (e1_UnknownCost : K.lookup f_UnknownCost = some ⟨oc_UnknownCost, od_UnknownCost, .func (PySem.W.ksFn "__init__" qual_UnknownCost (XO.iA "label" p1_UnknownCost p2_UnknownCost) (XO.iB "label" msg_UnknownCost j_UnknownCost d1_UnknownCost d2_UnknownCost d3_UnknownCost d4_UnknownCost d5_UnknownCost d6_UnknownCost q1_UnknownCost q2_UnknownCost q3_UnknownCost q4_UnknownCost) (XO.iS "label") .none .none doc_UnknownCost pm_UnknownCost an_UnknownCost (.ref cda_UnknownCost) ct_UnknownCost cc_UnknownCost), osl_UnknownCost⟩)
    (e2_UnknownCost : PySem.W.codeIn K (.ref cda_UnknownCost) qual_UnknownCost = true)
    (e3_UnknownCost : K.lookup cc_UnknownCost = some ⟨cl_UnknownCost, cld_UnknownCost, .cell (some (.ref C_UnknownCost)), csl_UnknownCost⟩)
    (e4_UnknownCost : K.lookup cda_UnknownCost = some ⟨ccl_UnknownCost, cdd_UnknownCost, .fields vs_UnknownCost, ccs_UnknownCost⟩)
    (e5_UnknownCost : vs_UnknownCost[2]? = some (.str file_UnknownCost tf_UnknownCost))
    (e6_UnknownCost : (P.main.file == file_UnknownCost) = true)
    (e7_UnknownCost : (d3_UnknownCost.endLine == d5_UnknownCost.line) = true)
    (sup_top : (P.main.scope.names.lookup ("super" : Str)).isSome = false)
    (z_super : PySem.W.nsIn K mainGlobals "super" = some none)
    (x_STEPS_ALONE : PySem.W.nsIn K mainGlobals "STEPS_ALONE" = some (some (.ref a_STEPS_ALONE))) (l_STEPS_ALONE : K.lookup a_STEPS_ALONE = some ⟨.type "tuple", od_STEPS_ALONE, .seq #[.str "keep" t0_STEPS_ALONE, .str "drop" t1_STEPS_ALONE, .str "turn" t2_STEPS_ALONE] n_STEPS_ALONE, sl_STEPS_ALONE⟩)
    (x_STEPS_WITH_LETTER : PySem.W.nsIn K mainGlobals "STEPS_WITH_LETTER" = some (some (.ref a_STEPS_WITH_LETTER))) (l_STEPS_WITH_LETTER : K.lookup a_STEPS_WITH_LETTER = some ⟨.type "tuple", od_STEPS_WITH_LETTER, .seq #[.str "add" t0_STEPS_WITH_LETTER, .str "swap" t1_STEPS_WITH_LETTER] n_STEPS_WITH_LETTER, sl_STEPS_WITH_LETTER⟩)
    (k1_Scheme : PySem.W.nsIn K mainGlobals "Scheme" = some (some (.ref C_Scheme)))
    (k2_Scheme : PySem.W.findIn K (.ref C_Scheme) "__init__" = some (some (.ref fi_Scheme)))
    (k3_Scheme : PySem.W.plainGet K C_Scheme Str.empty = true)
    (k4_Scheme : PySem.W.hasDictIn K C_Scheme = true)
    (k5_Scheme : PySem.W.plainOver K C_Scheme = true)
    (k6_Scheme : PySem.W.findIn K (.ref C_Scheme) "__setattr__" = some (some (.builtin "object.__setattr__")))
    (k7_Scheme : PySem.W.makesIn K C_Scheme = true)
    (k8_Scheme : PySem.W.isFn K (.ref fi_Scheme) = true)
    (k9_Scheme : PySem.W.keepIn K (.ref C_Scheme) = true)
    (k0_Scheme : PySem.W.keepIn K (.ref fi_Scheme) = true)
    (na_costs_Scheme : PySem.W.findIn K (.ref C_Scheme) "_costs" = some none)
    (na_add_Scheme : PySem.W.findIn K (.ref C_Scheme) "_add" = some none)
    (na_drop_Scheme : PySem.W.findIn K (.ref C_Scheme) "_drop" = some none)
    (na_swap_Scheme : PySem.W.findIn K (.ref C_Scheme) "_swap" = some none)
    (na_groups_Scheme : PySem.W.findIn K (.ref C_Scheme) "_groups" = some none)
    (na_turn_Scheme : PySem.W.findIn K (.ref C_Scheme) "_turn" = some none)
    (li_Scheme : K.lookup fi_Scheme = some ⟨oc_Scheme, od_Scheme, .func (PySem.W.fnOf "__init__" "Scheme.__init__" (defArgs s_Scheme_init) (defBody s_Scheme_init) (defScope s_Scheme_init) .none kV_Scheme dc_Scheme pm_Scheme an_Scheme cd_Scheme ct_Scheme), sl_Scheme⟩)
    (ci_Scheme : PySem.W.codeIn K cd_Scheme "Scheme.__init__" = true)
    (m1swap_cost_Scheme : PySem.W.findIn K (.ref C_Scheme) "swap_cost" = some (some (.ref fm_Scheme_swap_cost)))
    (m2swap_cost_Scheme : PySem.W.isFn K (.ref fm_Scheme_swap_cost) = true)
    (m3swap_cost_Scheme : PySem.W.keepIn K (.ref fm_Scheme_swap_cost) = true)
    (m4swap_cost_Scheme : K.lookup fm_Scheme_swap_cost = some ⟨oc_Scheme_swap_cost, od_Scheme_swap_cost, .func (PySem.W.fnOf "swap_cost" "Scheme.swap_cost" (defArgs s_Scheme_swap_cost) (defBody s_Scheme_swap_cost) (defScope s_Scheme_swap_cost) .none kV_Scheme_swap_cost dc_Scheme_swap_cost pm_Scheme_swap_cost an_Scheme_swap_cost cd_Scheme_swap_cost ct_Scheme_swap_cost), sl_Scheme_swap_cost⟩)
    (m5swap_cost_Scheme : PySem.W.codeIn K cd_Scheme_swap_cost "Scheme.swap_cost" = true)
    (m1step_cost_Scheme : PySem.W.findIn K (.ref C_Scheme) "step_cost" = some (some (.ref fm_Scheme_step_cost)))
    (m2step_cost_Scheme : PySem.W.isFn K (.ref fm_Scheme_step_cost) = true)
    (m3step_cost_Scheme : PySem.W.keepIn K (.ref fm_Scheme_step_cost) = true)
    (m4step_cost_Scheme : K.lookup fm_Scheme_step_cost = some ⟨oc_Scheme_step_cost, od_Scheme_step_cost, .func (PySem.W.fnOf "step_cost" "Scheme.step_cost" (defArgs s_Scheme_step_cost) (defBody s_Scheme_step_cost) (defScope s_Scheme_step_cost) (.ref dT_Scheme_step_cost) kV_Scheme_step_cost dc_Scheme_step_cost pm_Scheme_step_cost an_Scheme_step_cost cd_Scheme_step_cost ct_Scheme_step_cost), sl_Scheme_step_cost⟩)
    (m5step_cost_Scheme : PySem.W.codeIn K cd_Scheme_step_cost "Scheme.step_cost" = true)
    (mTstep_cost_Scheme : K.lookup dT_Scheme_step_cost = some ⟨.type "tuple", odT_Scheme_step_cost, .seq #[.none] nT_Scheme_step_cost, slT_Scheme_step_cost⟩)
    (e_Duplicate_InvalidGroup : PySem.W.subIn K (.ref C_InvalidGroup) (.ref C_Duplicate) = some false)
    (e_Duplicate_InvalidLetter : PySem.W.subIn K (.ref C_InvalidLetter) (.ref C_Duplicate) = some false)
    (e_Duplicate_InvalidName : PySem.W.subIn K (.ref C_InvalidName) (.ref C_Duplicate) = some false)
    (e_Duplicate_InvalidPart : PySem.W.subIn K (.ref C_InvalidPart) (.ref C_Duplicate) = some false)
    (e_Duplicate_InvalidStep : PySem.W.subIn K (.ref C_InvalidStep) (.ref C_Duplicate) = some false)
    (e_Duplicate_UnknownCost : PySem.W.subIn K (.ref C_UnknownCost) (.ref C_Duplicate) = some false)
    (e_InvalidGroup_Duplicate : PySem.W.subIn K (.ref C_Duplicate) (.ref C_InvalidGroup) = some false)
    (e_InvalidGroup_InvalidLetter : PySem.W.subIn K (.ref C_InvalidLetter) (.ref C_InvalidGroup) = some false)
    (e_InvalidGroup_InvalidName : PySem.W.subIn K (.ref C_InvalidName) (.ref C_InvalidGroup) = some false)
    (e_InvalidGroup_InvalidPart : PySem.W.subIn K (.ref C_InvalidPart) (.ref C_InvalidGroup) = some false)
    (e_InvalidGroup_InvalidStep : PySem.W.subIn K (.ref C_InvalidStep) (.ref C_InvalidGroup) = some false)
    (e_InvalidGroup_UnknownCost : PySem.W.subIn K (.ref C_UnknownCost) (.ref C_InvalidGroup) = some false)
    (e_InvalidLetter_Duplicate : PySem.W.subIn K (.ref C_Duplicate) (.ref C_InvalidLetter) = some false)
    (e_InvalidLetter_InvalidGroup : PySem.W.subIn K (.ref C_InvalidGroup) (.ref C_InvalidLetter) = some false)
    (e_InvalidLetter_InvalidName : PySem.W.subIn K (.ref C_InvalidName) (.ref C_InvalidLetter) = some false)
    (e_InvalidLetter_InvalidPart : PySem.W.subIn K (.ref C_InvalidPart) (.ref C_InvalidLetter) = some false)
    (e_InvalidLetter_InvalidStep : PySem.W.subIn K (.ref C_InvalidStep) (.ref C_InvalidLetter) = some false)
    (e_InvalidLetter_UnknownCost : PySem.W.subIn K (.ref C_UnknownCost) (.ref C_InvalidLetter) = some false)
    (e_InvalidName_Duplicate : PySem.W.subIn K (.ref C_Duplicate) (.ref C_InvalidName) = some false)
    (e_InvalidName_InvalidGroup : PySem.W.subIn K (.ref C_InvalidGroup) (.ref C_InvalidName) = some false)
    (e_InvalidName_InvalidLetter : PySem.W.subIn K (.ref C_InvalidLetter) (.ref C_InvalidName) = some false)
    (e_InvalidName_InvalidPart : PySem.W.subIn K (.ref C_InvalidPart) (.ref C_InvalidName) = some false)
    (e_InvalidName_InvalidStep : PySem.W.subIn K (.ref C_InvalidStep) (.ref C_InvalidName) = some false)
    (e_InvalidName_UnknownCost : PySem.W.subIn K (.ref C_UnknownCost) (.ref C_InvalidName) = some false)
    (e_InvalidPart_Duplicate : PySem.W.subIn K (.ref C_Duplicate) (.ref C_InvalidPart) = some false)
    (e_InvalidPart_InvalidGroup : PySem.W.subIn K (.ref C_InvalidGroup) (.ref C_InvalidPart) = some false)
    (e_InvalidPart_InvalidLetter : PySem.W.subIn K (.ref C_InvalidLetter) (.ref C_InvalidPart) = some false)
    (e_InvalidPart_InvalidName : PySem.W.subIn K (.ref C_InvalidName) (.ref C_InvalidPart) = some false)
    (e_InvalidPart_InvalidStep : PySem.W.subIn K (.ref C_InvalidStep) (.ref C_InvalidPart) = some false)
    (e_InvalidPart_UnknownCost : PySem.W.subIn K (.ref C_UnknownCost) (.ref C_InvalidPart) = some false)
    (e_InvalidStep_Duplicate : PySem.W.subIn K (.ref C_Duplicate) (.ref C_InvalidStep) = some false)
    (e_InvalidStep_InvalidGroup : PySem.W.subIn K (.ref C_InvalidGroup) (.ref C_InvalidStep) = some false)
    (e_InvalidStep_InvalidLetter : PySem.W.subIn K (.ref C_InvalidLetter) (.ref C_InvalidStep) = some false)
    (e_InvalidStep_InvalidName : PySem.W.subIn K (.ref C_InvalidName) (.ref C_InvalidStep) = some false)
    (e_InvalidStep_InvalidPart : PySem.W.subIn K (.ref C_InvalidPart) (.ref C_InvalidStep) = some false)
    (e_InvalidStep_UnknownCost : PySem.W.subIn K (.ref C_UnknownCost) (.ref C_InvalidStep) = some false)
    (e_UnknownCost_Duplicate : PySem.W.subIn K (.ref C_Duplicate) (.ref C_UnknownCost) = some false)
    (e_UnknownCost_InvalidGroup : PySem.W.subIn K (.ref C_InvalidGroup) (.ref C_UnknownCost) = some false)
    (e_UnknownCost_InvalidLetter : PySem.W.subIn K (.ref C_InvalidLetter) (.ref C_UnknownCost) = some false)
    (e_UnknownCost_InvalidName : PySem.W.subIn K (.ref C_InvalidName) (.ref C_UnknownCost) = some false)
    (e_UnknownCost_InvalidPart : PySem.W.subIn K (.ref C_InvalidPart) (.ref C_UnknownCost) = some false)
    (e_UnknownCost_InvalidStep : PySem.W.subIn K (.ref C_InvalidStep) (.ref C_UnknownCost) = some false)
    (z_all : PySem.W.nsIn K mainGlobals "all" = some none) (z_any : PySem.W.nsIn K mainGlobals "any" = some none) (z_enumerate : PySem.W.nsIn K mainGlobals "enumerate" = some none) (z_isinstance : PySem.W.nsIn K mainGlobals "isinstance" = some none) (z_len : PySem.W.nsIn K mainGlobals "len" = some none) (z_list : PySem.W.nsIn K mainGlobals "list" = some none) (z_max : PySem.W.nsIn K mainGlobals "max" = some none) (z_min : PySem.W.nsIn K mainGlobals "min" = some none) (z_range : PySem.W.nsIn K mainGlobals "range" = some none) (z_repr : PySem.W.nsIn K mainGlobals "repr" = some none) (z_set : PySem.W.nsIn K mainGlobals "set" = some none) (z_sorted : PySem.W.nsIn K mainGlobals "sorted" = some none) (z_str : PySem.W.nsIn K mainGlobals "str" = some none) (z_tuple : PySem.W.nsIn K mainGlobals "tuple" = some none) {t_LONGEST_NAME : Tok} (c_LONGEST_NAME : PySem.W.nsIn K mainGlobals "LONGEST_NAME" = some (some (.int 8 t_LONGEST_NAME))) {t_MOST_COSTS : Tok} (c_MOST_COSTS : PySem.W.nsIn K mainGlobals "MOST_COSTS" = some (some (.int 4 t_MOST_COSTS))) :
    ∃ fd : FuncData, (∀ (s : Shared) (u : Value), BindsTo s fd ⟨[u], []⟩ [("_law_script", u)]) ∧ ∀ base : Heap, K.In base → base.Ns mainGlobals mg → FnG P w K mg base CX0 9 fa fd ["_law_script"] (spD K mg (lawFn 63)) := by
  have e := hfa.symm.trans (PySem.W.mg_of X G x_law)
  cases e
  have T : Txt K mg := { z_all := PySem.W.mg_none_of X G z_all, z_any := PySem.W.mg_none_of X G z_any, z_enumerate := PySem.W.mg_none_of X G z_enumerate, z_isinstance := PySem.W.mg_none_of X G z_isinstance, z_len := PySem.W.mg_none_of X G z_len, z_list := PySem.W.mg_none_of X G z_list, z_max := PySem.W.mg_none_of X G z_max, z_min := PySem.W.mg_none_of X G z_min, z_range := PySem.W.mg_none_of X G z_range, z_repr := PySem.W.mg_none_of X G z_repr, z_set := PySem.W.mg_none_of X G z_set, z_sorted := PySem.W.mg_none_of X G z_sorted, z_str := PySem.W.mg_none_of X G z_str, z_tuple := PySem.W.mg_none_of X G z_tuple, c_LONGEST_NAME := ⟨_, PySem.W.mg_of X G c_LONGEST_NAME⟩, c_MOST_COSTS := ⟨_, PySem.W.mg_of X G c_MOST_COSTS⟩, c_STEPS_ALONE := ⟨_, PySem.W.mg_of X G x_STEPS_ALONE, rp_globT l_STEPS_ALONE rfl rfl (Nat.le_trans (show 3 ≤ 100 by decide) (by rw [sizeLine_eq]; decide)) (.cons ⟨_, rfl⟩ (.cons ⟨_, rfl⟩ (.cons ⟨_, rfl⟩ .nil)))⟩, c_STEPS_WITH_LETTER := ⟨_, PySem.W.mg_of X G x_STEPS_WITH_LETTER, rp_globT l_STEPS_WITH_LETTER rfl rfl (Nat.le_trans (show 2 ≤ 100 by decide) (by rw [sizeLine_eq]; decide)) (.cons ⟨_, rfl⟩ (.cons ⟨_, rfl⟩ .nil))⟩ }
  have XC_Duplicate : XC P K mg "Duplicate" "label" := xc_mk X G XO.base_ValueError XO.bind_label ⟨by decide, by decide, by decide, by decide, by decide⟩ a1_Duplicate a2_Duplicate b1_Duplicate b2_Duplicate b3_Duplicate b4_Duplicate b5_Duplicate b6_Duplicate b7_Duplicate b8_Duplicate b9_Duplicate c1_Duplicate c2_Duplicate c3_Duplicate c4_Duplicate c5_Duplicate c6_Duplicate c7_Duplicate c8_Duplicate e1_Duplicate e2_Duplicate e3_Duplicate e4_Duplicate e5_Duplicate e6_Duplicate e7_Duplicate
  have XC_InvalidGroup : XC P K mg "InvalidGroup" "value" := xc_mk X G XO.base_ValueError XO.bind_value ⟨by decide, by decide, by decide, by decide, by decide⟩ a1_InvalidGroup a2_InvalidGroup b1_InvalidGroup b2_InvalidGroup b3_InvalidGroup b4_InvalidGroup b5_InvalidGroup b6_InvalidGroup b7_InvalidGroup b8_InvalidGroup b9_InvalidGroup c1_InvalidGroup c2_InvalidGroup c3_InvalidGroup c4_InvalidGroup c5_InvalidGroup c6_InvalidGroup c7_InvalidGroup c8_InvalidGroup e1_InvalidGroup e2_InvalidGroup e3_InvalidGroup e4_InvalidGroup e5_InvalidGroup e6_InvalidGroup e7_InvalidGroup
  have XC_InvalidLetter : XC P K mg "InvalidLetter" "value" := xc_mk X G XO.base_ValueError XO.bind_value ⟨by decide, by decide, by decide, by decide, by decide⟩ a1_InvalidLetter a2_InvalidLetter b1_InvalidLetter b2_InvalidLetter b3_InvalidLetter b4_InvalidLetter b5_InvalidLetter b6_InvalidLetter b7_InvalidLetter b8_InvalidLetter b9_InvalidLetter c1_InvalidLetter c2_InvalidLetter c3_InvalidLetter c4_InvalidLetter c5_InvalidLetter c6_InvalidLetter c7_InvalidLetter c8_InvalidLetter e1_InvalidLetter e2_InvalidLetter e3_InvalidLetter e4_InvalidLetter e5_InvalidLetter e6_InvalidLetter e7_InvalidLetter
  have XC_InvalidName : XC P K mg "InvalidName" "value" := xc_mk X G XO.base_ValueError XO.bind_value ⟨by decide, by decide, by decide, by decide, by decide⟩ a1_InvalidName a2_InvalidName b1_InvalidName b2_InvalidName b3_InvalidName b4_InvalidName b5_InvalidName b6_InvalidName b7_InvalidName b8_InvalidName b9_InvalidName c1_InvalidName c2_InvalidName c3_InvalidName c4_InvalidName c5_InvalidName c6_InvalidName c7_InvalidName c8_InvalidName e1_InvalidName e2_InvalidName e3_InvalidName e4_InvalidName e5_InvalidName e6_InvalidName e7_InvalidName
  have XC_InvalidPart : XC P K mg "InvalidPart" "value" := xc_mk X G XO.base_ValueError XO.bind_value ⟨by decide, by decide, by decide, by decide, by decide⟩ a1_InvalidPart a2_InvalidPart b1_InvalidPart b2_InvalidPart b3_InvalidPart b4_InvalidPart b5_InvalidPart b6_InvalidPart b7_InvalidPart b8_InvalidPart b9_InvalidPart c1_InvalidPart c2_InvalidPart c3_InvalidPart c4_InvalidPart c5_InvalidPart c6_InvalidPart c7_InvalidPart c8_InvalidPart e1_InvalidPart e2_InvalidPart e3_InvalidPart e4_InvalidPart e5_InvalidPart e6_InvalidPart e7_InvalidPart
  have XC_InvalidStep : XC P K mg "InvalidStep" "value" := xc_mk X G XO.base_ValueError XO.bind_value ⟨by decide, by decide, by decide, by decide, by decide⟩ a1_InvalidStep a2_InvalidStep b1_InvalidStep b2_InvalidStep b3_InvalidStep b4_InvalidStep b5_InvalidStep b6_InvalidStep b7_InvalidStep b8_InvalidStep b9_InvalidStep c1_InvalidStep c2_InvalidStep c3_InvalidStep c4_InvalidStep c5_InvalidStep c6_InvalidStep c7_InvalidStep c8_InvalidStep e1_InvalidStep e2_InvalidStep e3_InvalidStep e4_InvalidStep e5_InvalidStep e6_InvalidStep e7_InvalidStep
  have XC_UnknownCost : XC P K mg "UnknownCost" "label" := xc_mk X G XO.base_KeyError XO.bind_label ⟨by decide, by decide, by decide, by decide, by decide⟩ a1_UnknownCost a2_UnknownCost b1_UnknownCost b2_UnknownCost b3_UnknownCost b4_UnknownCost b5_UnknownCost b6_UnknownCost b7_UnknownCost b8_UnknownCost b9_UnknownCost c1_UnknownCost c2_UnknownCost c3_UnknownCost c4_UnknownCost c5_UnknownCost c6_UnknownCost c7_UnknownCost c8_UnknownCost e1_UnknownCost e2_UnknownCost e3_UnknownCost e4_UnknownCost e5_UnknownCost e6_UnknownCost e7_UnknownCost
  have SU : Sup P mg := ⟨PySem.W.mg_none_of X G z_super, sup_top⟩
  have FA_is_list : FunAt K mg "is_list" "is_list" s_is_list ["value"] := at_mk X G x_is_list l_is_list c_is_list k_is_list fun _ _ _ _ _ _ us hl => match us, hl with | [_], _ => rfl
  have FA_is_letter : FunAt K mg "is_letter" "is_letter" s_is_letter ["value"] := at_mk X G x_is_letter l_is_letter c_is_letter k_is_letter fun _ _ _ _ _ _ us hl => match us, hl with | [_], _ => rfl
  have FA_check_cost : FunAt K mg "check_cost" "check_cost" s_check_cost ["names", "cost"] := at_mk X G x_check_cost l_check_cost c_check_cost k_check_cost fun _ _ _ _ _ _ us hl => match us, hl with | [_, _], _ => rfl
  have FA__law_cell : FunAt K mg "_law_cell" "_law_cell" s__law_cell ["_law_script", "_law_k"] := at_mk X G x__law_cell l__law_cell c__law_cell k__law_cell fun _ _ _ _ _ _ us hl => match us, hl with | [_, _], _ => rfl
  have FA__law_box : FunAt K mg "_law_box" "_law_box" s__law_box ["_law_cell_here"] := at_mk X G x__law_box l__law_box c__law_box k__law_box fun _ _ _ _ _ _ us hl => match us, hl with | [_], _ => rfl
  have FA__law_take : FunAt K mg "_law_take" "_law_take" s__law_take ["_law_box_here", "_law_many"] := at_mk X G x__law_take l__law_take c__law_take k__law_take fun _ _ _ _ _ _ us hl => match us, hl with | [_, _], _ => rfl
  have FA__law_is_small : FunAt K mg "_law_is_small" "_law_is_small" s__law_is_small ["_law_line", "_law_low", "_law_high"] := at_mk X G x__law_is_small l__law_is_small c__law_is_small k__law_is_small fun _ _ _ _ _ _ us hl => match us, hl with | [_, _, _], _ => rfl
  have FA__law_is_cost : FunAt K mg "_law_is_cost" "_law_is_cost" s__law_is_cost ["_law_costs", "_law_name"] := at_mk X G x__law_is_cost l__law_is_cost c__law_is_cost k__law_is_cost fun _ _ _ _ _ _ us hl => match us, hl with | [_, _], _ => rfl
  have FA_is_lettered : FunAt K mg "is_lettered" "is_lettered" s_is_lettered ["value"] := at_mk X G x_is_lettered l_is_lettered c_is_lettered k_is_lettered fun _ _ _ _ _ _ us hl => match us, hl with | [_], _ => rfl
  have FA_is_step : FunAt K mg "is_step" "is_step" s_is_step ["value"] := at_mk X G x_is_step l_is_step c_is_step k_is_step fun _ _ _ _ _ _ us hl => match us, hl with | [_], _ => rfl
  have FA__law_model : FunAt K mg "_law_model" "_law_model" s__law_model ["_law_box_here"] := at_mk X G x__law_model l__law_model c__law_model k__law_model fun _ _ _ _ _ _ us hl => match us, hl with | [_], _ => rfl
  have FA__law_due_costs : FunAt K mg "_law_due_costs" "_law_due_costs" s__law_due_costs ["_law_costs"] := at_mk X G x__law_due_costs l__law_due_costs c__law_due_costs k__law_due_costs fun _ _ _ _ _ _ us hl => match us, hl with | [_], _ => rfl
  have FA__law_due_groups : FunAt K mg "_law_due_groups" "_law_due_groups" s__law_due_groups ["_law_costs", "_law_sets"] := at_mk X G x__law_due_groups l__law_due_groups c__law_due_groups k__law_due_groups fun _ _ _ _ _ _ us hl => match us, hl with | [_, _], _ => rfl
  have FA__law_bent : FunAt K mg "_law_bent" "_law_bent" s__law_bent ["_law_box_here", "_law_model_here"] := at_mk X G x__law_bent l__law_bent c__law_bent k__law_bent fun _ _ _ _ _ _ us hl => match us, hl with | [_, _], _ => rfl
  have FA_is_name : FunAt K mg "is_name" "is_name" s_is_name ["value"] := at_mk X G x_is_name l_is_name c_is_name k_is_name fun _ _ _ _ _ _ us hl => match us, hl with | [_], _ => rfl
  have FA_is_group : FunAt K mg "is_group" "is_group" s_is_group ["value"] := at_mk X G x_is_group l_is_group c_is_group k_is_group fun _ _ _ _ _ _ us hl => match us, hl with | [_], _ => rfl
  have FA__law_due : FunAt K mg "_law_due" "_law_due" s__law_due ["_law_model_here"] := at_mk X G x__law_due l__law_due c__law_due k__law_due fun _ _ _ _ _ _ us hl => match us, hl with | [_], _ => rfl
  have FA_check_names : FunAt K mg "check_names" "check_names" s_check_names ["costs"] := at_mk X G x_check_names l_check_names c_check_names k_check_names fun _ _ _ _ _ _ us hl => match us, hl with | [_], _ => rfl
  have FA_checked_groups : FunAt K mg "checked_groups" "checked_groups" s_checked_groups ["names", "groups"] := at_mk X G x_checked_groups l_checked_groups c_checked_groups k_checked_groups fun _ _ _ _ _ _ us hl => match us, hl with | [_, _], _ => rfl
  have FA__law_caught : FunAt K mg "_law_caught" "_law_caught" s__law_caught ["_law_plan", "_law_way", "_law_one", "_law_other"] := at_mk X G x__law_caught l__law_caught c__law_caught k__law_caught fun _ _ _ _ _ _ us hl => match us, hl with | [_, _, _, _], _ => rfl
  have FA__law_odd_right : FunAt K mg "_law_odd_right" "_law_odd_right" s__law_odd_right ["_law_plan", "_law_about"] := at_mk X G x__law_odd_right l__law_odd_right c__law_odd_right k__law_odd_right fun _ _ _ _ _ _ us hl => match us, hl with | [_, _], _ => rfl
  have FA__law_scheme : FunAt K mg "_law_scheme" "_law_scheme" s__law_scheme ["_law_model_here"] := at_mk X G x__law_scheme l__law_scheme c__law_scheme k__law_scheme fun _ _ _ _ _ _ us hl => match us, hl with | [_], _ => rfl
  have FA__law_told : FunAt K mg "_law_told" "_law_told" s__law_told ["_law_model_here"] := at_mk X G x__law_told l__law_told c__law_told k__law_told fun _ _ _ _ _ _ us hl => match us, hl with | [_], _ => rfl
  have FA__law_very_right : FunAt K mg "_law_very_right" "_law_very_right" s__law_very_right [] := at_mk X G x__law_very_right l__law_very_right c__law_very_right k__law_very_right fun _ _ _ _ _ _ us hl => match us, hl with | [], _ => rfl
  have KL_Scheme : Kl K mg "Scheme" C_Scheme := ⟨k1_Scheme, PySem.W.mg_of X G k1_Scheme, ⟨k3_Scheme, k4_Scheme, k5_Scheme, k6_Scheme⟩⟩
  have CF : ClsF K mg C_Scheme := ⟨KL_Scheme, na_costs_Scheme, na_add_Scheme, na_drop_Scheme, na_swap_Scheme, na_groups_Scheme, na_turn_Scheme⟩
  have MK_Scheme : Mk K C_Scheme fi_Scheme := ⟨k7_Scheme, k2_Scheme, k8_Scheme, k9_Scheme⟩
  have FI_Scheme : Fun K "__init__" "Scheme.__init__" s_Scheme_init fi_Scheme _ := fun_mk (st := s_Scheme_init) li_Scheme ci_Scheme k0_Scheme
  have KB_Scheme : KBn K (PySem.W.fnOf "__init__" "Scheme.__init__" (defArgs s_Scheme_init) (defBody s_Scheme_init) (defScope s_Scheme_init) .none kV_Scheme dc_Scheme pm_Scheme an_Scheme cd_Scheme ct_Scheme) ["self", "costs", "add", "drop", "swap", "groups", "turn"] 2 ["add", "drop", "swap", "groups", "turn"] (fun us ws => us ++ ws) (fun vs zs => vs ++ zs) := ⟨fun s us ws _ l1 l2 => match us, ws, l1, l2 with | [_, _], [_, _, _, _, _], _, _ => .of_eq rfl, fun r1 r2 => r1.append r2⟩
  have ME_Scheme_swap_cost : Meth K C_Scheme "swap_cost" fm_Scheme_swap_cost := ⟨m1swap_cost_Scheme, m2swap_cost_Scheme, m3swap_cost_Scheme⟩
  have FV_Scheme_swap_cost : FunV K "swap_cost" "Scheme.swap_cost" s_Scheme_swap_cost fm_Scheme_swap_cost _ := ⟨_, _, _, _, _, _, _, _, _, _, rfl, m4swap_cost_Scheme, m5swap_cost_Scheme⟩
  have BM_Scheme_swap_cost : Binds K (PySem.W.fnOf "swap_cost" "Scheme.swap_cost" (defArgs s_Scheme_swap_cost) (defBody s_Scheme_swap_cost) (defScope s_Scheme_swap_cost) .none kV_Scheme_swap_cost dc_Scheme_swap_cost pm_Scheme_swap_cost an_Scheme_swap_cost cd_Scheme_swap_cost ct_Scheme_swap_cost) ["self", "one", "other"] [] := .all fun us hl => match us, hl with | [_, _, _], _ => rfl
  have ME_Scheme_step_cost : Meth K C_Scheme "step_cost" fm_Scheme_step_cost := ⟨m1step_cost_Scheme, m2step_cost_Scheme, m3step_cost_Scheme⟩
  have FV_Scheme_step_cost : FunV K "step_cost" "Scheme.step_cost" s_Scheme_step_cost fm_Scheme_step_cost _ := ⟨_, _, _, _, _, _, _, _, _, _, rfl, m4step_cost_Scheme, m5step_cost_Scheme⟩
  have FD_Scheme_step_cost : FunD K "step_cost" "Scheme.step_cost" (defArgs s_Scheme_step_cost) (defBody s_Scheme_step_cost) (defScope s_Scheme_step_cost) [V.non] [] fm_Scheme_step_cost _ := ⟨⟨_, _, _, _, _, _, _, _, _, _, rfl, m4step_cost_Scheme, m5step_cost_Scheme, Or.inr ⟨(fun z => nomatch z), _, _, [Value.none], _, rfl, mTstep_cost_Scheme, rfl, (.cons rfl .nil)⟩, Or.inl rfl⟩, m3step_cost_Scheme⟩
  have BM_Scheme_step_cost : Binds K (PySem.W.fnOf "step_cost" "Scheme.step_cost" (defArgs s_Scheme_step_cost) (defBody s_Scheme_step_cost) (defScope s_Scheme_step_cost) (.ref dT_Scheme_step_cost) kV_Scheme_step_cost dc_Scheme_step_cost pm_Scheme_step_cost an_Scheme_step_cost cd_Scheme_step_cost ct_Scheme_step_cost) ["self", "step", "letter"] [] := binds_full (FD_Scheme_step_cost.binds1 3 1 (fun z => nomatch z) rfl fun _ _ _ _ _ _ _ us its h1 h2 => match us, its, h1, h2 with | [_, _, _], [_], _, _ => ⟨_, rfl, rfl⟩)
  have ap_all : apartB K [("Duplicate", C_Duplicate), ("InvalidGroup", C_InvalidGroup), ("InvalidLetter", C_InvalidLetter), ("InvalidName", C_InvalidName), ("InvalidPart", C_InvalidPart), ("InvalidStep", C_InvalidStep), ("UnknownCost", C_UnknownCost)] = true := by simp only [apartB, List.all_cons, List.all_nil, exm_other b9_Duplicate c7_Duplicate c1_Duplicate e_Duplicate_InvalidGroup, exm_other b9_Duplicate c7_Duplicate c1_Duplicate e_Duplicate_InvalidLetter, exm_other b9_Duplicate c7_Duplicate c1_Duplicate e_Duplicate_InvalidName, exm_other b9_Duplicate c7_Duplicate c1_Duplicate e_Duplicate_InvalidPart, exm_other b9_Duplicate c7_Duplicate c1_Duplicate e_Duplicate_InvalidStep, exm_other b9_Duplicate c7_Duplicate c1_Duplicate e_Duplicate_UnknownCost, exm_other b9_InvalidGroup c7_InvalidGroup c1_InvalidGroup e_InvalidGroup_Duplicate, exm_other b9_InvalidGroup c7_InvalidGroup c1_InvalidGroup e_InvalidGroup_InvalidLetter, exm_other b9_InvalidGroup c7_InvalidGroup c1_InvalidGroup e_InvalidGroup_InvalidName, exm_other b9_InvalidGroup c7_InvalidGroup c1_InvalidGroup e_InvalidGroup_InvalidPart, exm_other b9_InvalidGroup c7_InvalidGroup c1_InvalidGroup e_InvalidGroup_InvalidStep, exm_other b9_InvalidGroup c7_InvalidGroup c1_InvalidGroup e_InvalidGroup_UnknownCost, exm_other b9_InvalidLetter c7_InvalidLetter c1_InvalidLetter e_InvalidLetter_Duplicate, exm_other b9_InvalidLetter c7_InvalidLetter c1_InvalidLetter e_InvalidLetter_InvalidGroup, exm_other b9_InvalidLetter c7_InvalidLetter c1_InvalidLetter e_InvalidLetter_InvalidName, exm_other b9_InvalidLetter c7_InvalidLetter c1_InvalidLetter e_InvalidLetter_InvalidPart, exm_other b9_InvalidLetter c7_InvalidLetter c1_InvalidLetter e_InvalidLetter_InvalidStep, exm_other b9_InvalidLetter c7_InvalidLetter c1_InvalidLetter e_InvalidLetter_UnknownCost, exm_other b9_InvalidName c7_InvalidName c1_InvalidName e_InvalidName_Duplicate, exm_other b9_InvalidName c7_InvalidName c1_InvalidName e_InvalidName_InvalidGroup, exm_other b9_InvalidName c7_InvalidName c1_InvalidName e_InvalidName_InvalidLetter, exm_other b9_InvalidName c7_InvalidName c1_InvalidName e_InvalidName_InvalidPart, exm_other b9_InvalidName c7_InvalidName c1_InvalidName e_InvalidName_InvalidStep, exm_other b9_InvalidName c7_InvalidName c1_InvalidName e_InvalidName_UnknownCost, exm_other b9_InvalidPart c7_InvalidPart c1_InvalidPart e_InvalidPart_Duplicate, exm_other b9_InvalidPart c7_InvalidPart c1_InvalidPart e_InvalidPart_InvalidGroup, exm_other b9_InvalidPart c7_InvalidPart c1_InvalidPart e_InvalidPart_InvalidLetter, exm_other b9_InvalidPart c7_InvalidPart c1_InvalidPart e_InvalidPart_InvalidName, exm_other b9_InvalidPart c7_InvalidPart c1_InvalidPart e_InvalidPart_InvalidStep, exm_other b9_InvalidPart c7_InvalidPart c1_InvalidPart e_InvalidPart_UnknownCost, exm_other b9_InvalidStep c7_InvalidStep c1_InvalidStep e_InvalidStep_Duplicate, exm_other b9_InvalidStep c7_InvalidStep c1_InvalidStep e_InvalidStep_InvalidGroup, exm_other b9_InvalidStep c7_InvalidStep c1_InvalidStep e_InvalidStep_InvalidLetter, exm_other b9_InvalidStep c7_InvalidStep c1_InvalidStep e_InvalidStep_InvalidName, exm_other b9_InvalidStep c7_InvalidStep c1_InvalidStep e_InvalidStep_InvalidPart, exm_other b9_InvalidStep c7_InvalidStep c1_InvalidStep e_InvalidStep_UnknownCost, exm_other b9_UnknownCost c7_UnknownCost c1_UnknownCost e_UnknownCost_Duplicate, exm_other b9_UnknownCost c7_UnknownCost c1_UnknownCost e_UnknownCost_InvalidGroup, exm_other b9_UnknownCost c7_UnknownCost c1_UnknownCost e_UnknownCost_InvalidLetter, exm_other b9_UnknownCost c7_UnknownCost c1_UnknownCost e_UnknownCost_InvalidName, exm_other b9_UnknownCost c7_UnknownCost c1_UnknownCost e_UnknownCost_InvalidPart, exm_other b9_UnknownCost c7_UnknownCost c1_UnknownCost e_UnknownCost_InvalidStep, beq_self_eq_true, Bool.or_true, Bool.true_or, Bool.and_true, Bool.and_self]
  have AP : apart K mg := apart_mk (cs := [("Duplicate", C_Duplicate), ("InvalidGroup", C_InvalidGroup), ("InvalidLetter", C_InvalidLetter), ("InvalidName", C_InvalidName), ("InvalidPart", C_InvalidPart), ("InvalidStep", C_InvalidStep), ("UnknownCost", C_UnknownCost)]) (List.forall_mem_cons.mpr ⟨PySem.W.mg_of X G a1_Duplicate, List.forall_mem_cons.mpr ⟨PySem.W.mg_of X G a1_InvalidGroup, List.forall_mem_cons.mpr ⟨PySem.W.mg_of X G a1_InvalidLetter, List.forall_mem_cons.mpr ⟨PySem.W.mg_of X G a1_InvalidName, List.forall_mem_cons.mpr ⟨PySem.W.mg_of X G a1_InvalidPart, List.forall_mem_cons.mpr ⟨PySem.W.mg_of X G a1_InvalidStep, List.forall_mem_cons.mpr ⟨PySem.W.mg_of X G a1_UnknownCost, (fun _ h => nomatch h)⟩⟩⟩⟩⟩⟩⟩) ap_all
  refine ⟨PySem.W.fnOf "law" "law" (defArgs s_law) (defBody s_law) (defScope s_law) .none kV_law dc_law pm_law an_law cd_law ct_law, fun s u => .of_eq rfl, fun base _ _ => ?_⟩
  have h_is_list := ok_is_list (P := P) (w := w) (base := base) T FA_is_list 
  have h_is_letter := ok_is_letter (P := P) (w := w) (base := base) T FA_is_letter 
  have h_check_cost := ok_check_cost (P := P) (w := w) (base := base) T FA_check_cost SU XC_UnknownCost
  have h__law_cell := ok__law_cell (P := P) (w := w) (base := base) T FA__law_cell 
  have h__law_box := ok__law_box (P := P) (w := w) (base := base) T FA__law_box 
  have h__law_take := ok__law_take (P := P) (w := w) (base := base) T FA__law_take 
  have h__law_is_small := ok__law_is_small (P := P) (w := w) (base := base) T FA__law_is_small 
  have h__law_is_cost := ok__law_is_cost (P := P) (w := w) (base := base) T FA__law_is_cost 
  have h_is_lettered := ok_is_lettered (P := P) (w := w) (base := base) T FA_is_lettered h_is_letter
  have h_is_step := ok_is_step (P := P) (w := w) (base := base) T FA_is_step h_is_list h_is_letter
  have h__law_model := ok__law_model (P := P) (w := w) (base := base) T FA__law_model h__law_take
  have h__law_due_costs := ok__law_due_costs (P := P) (w := w) (base := base) T FA__law_due_costs h__law_is_small
  have h__law_due_groups := ok__law_due_groups (P := P) (w := w) (base := base) T FA__law_due_groups h__law_is_small h__law_is_cost
  have h__law_bent := ok__law_bent (P := P) (w := w) (base := base) T FA__law_bent h__law_take
  have h_Scheme_swap_cost : HasM P w K mg base 2 "Scheme" "swap_cost" ["self", "one", "other"] [] F_Scheme_swap_cost := ⟨C_Scheme, fm_Scheme_swap_cost, _, [], [], KL_Scheme, ME_Scheme_swap_cost, ok_Scheme_swap_cost (P := P) (w := w) (base := base) T CF SU XC_InvalidLetter h_is_letter FV_Scheme_swap_cost, BM_Scheme_swap_cost, .nil, fun _ => .nil⟩
  have h_is_name := ok_is_name (P := P) (w := w) (base := base) T FA_is_name h_is_lettered
  have h_is_group := ok_is_group (P := P) (w := w) (base := base) T FA_is_group h_is_list h_is_lettered
  have h__law_due := ok__law_due (P := P) (w := w) (base := base) T FA__law_due h__law_due_costs h__law_is_cost h__law_due_groups
  have h_Scheme_step_cost : HasM P w K mg base 3 "Scheme" "step_cost" ["self", "step", "letter"] [] F_Scheme_step_cost := ⟨C_Scheme, fm_Scheme_step_cost, _, [], [], KL_Scheme, ME_Scheme_step_cost, ok_Scheme_step_cost (P := P) (w := w) (base := base) T CF SU XC_InvalidStep XC_InvalidLetter h_is_step h_is_letter h_Scheme_swap_cost FV_Scheme_step_cost, BM_Scheme_step_cost, .nil, fun _ => .nil⟩
  have h_check_names := ok_check_names (P := P) (w := w) (base := base) T FA_check_names SU XC_InvalidPart XC_InvalidName XC_Duplicate h_is_list h_is_name
  have h_checked_groups := ok_checked_groups (P := P) (w := w) (base := base) T FA_checked_groups SU XC_InvalidPart XC_InvalidGroup h_is_list h_is_group h_check_cost
  have h__law_caught := ok__law_caught (P := P) (w := w) (base := base) T FA__law_caught AP XC_InvalidStep XC_InvalidLetter h_Scheme_swap_cost h_Scheme_step_cost
  have h__law_odd_right := ok__law_odd_right (P := P) (w := w) (base := base) T FA__law_odd_right h__law_caught
  have hC_Scheme : HasC P w K mg base 5 "Scheme" ["self", "costs", "add", "drop", "swap", "groups", "turn"] 1 ["add", "drop", "swap", "groups", "turn"] gApp F_Scheme := ⟨C_Scheme, fi_Scheme, _, _, _, KL_Scheme, MK_Scheme, ok_Scheme_init (P := P) (w := w) (base := base) T CF h_check_names h_check_cost h_checked_groups FI_Scheme, KB_Scheme, fun G x vs zs ds es r1 r2 _ _ => ⟨vs ++ zs, rfl, r1.app r2⟩⟩
  have h__law_scheme := ok__law_scheme (P := P) (w := w) (base := base) T FA__law_scheme hC_Scheme
  have h__law_told := ok__law_told (P := P) (w := w) (base := base) T FA__law_told AP XC_InvalidGroup XC_UnknownCost XC_Duplicate XC_InvalidName XC_InvalidPart hC_Scheme
  have h__law_very_right := ok__law_very_right (P := P) (w := w) (base := base) T FA__law_very_right h__law_told
  exact law_fn T (fun_mk (st := s_law) l_law c_law k_law) h__law_cell h__law_box h__law_model h__law_take h__law_bent h__law_told h__law_due h__law_scheme h__law_odd_right h__law_very_right
end DL
open PySem PySem.W PyProof.Rows in
set_option maxRecDepth 100000 in
set_option maxHeartbeats 0 in
theorem PySem.Challenge.cw_seenchoices_k05_schemes_refused_holds : PySem.Challenge.rw_seenchoices_k05_schemes_refused.Holds := by
  w_on; o_law; k_head; (case hw => w_witness2)
  k_fill
  refine DL.the_end (l := PySem.Challenge.rw_seenchoices_k05_schemes_refused) (n := 63) (k := 9) (x := "_law_script") rfl (by decide) rfl ⟨rfl, by decide, by decide⟩ (fun w h Y => PySem.W.kIn_of Y) ?F
  case F =>
    intro w mg fa h KX G hmg
    refine' DL.all_mk KX G hmg ?x_is_list ?l_is_list ?c_is_list ?k_is_list ?x_is_letter ?l_is_letter ?c_is_letter ?k_is_letter ?x_check_cost ?l_check_cost ?c_check_cost ?k_check_cost ?x__law_cell ?l__law_cell ?c__law_cell ?k__law_cell ?x__law_box ?l__law_box ?c__law_box ?k__law_box ?x__law_take ?l__law_take ?c__law_take ?k__law_take ?x__law_is_small ?l__law_is_small ?c__law_is_small ?k__law_is_small ?x__law_is_cost ?l__law_is_cost ?c__law_is_cost ?k__law_is_cost ?x_is_lettered ?l_is_lettered ?c_is_lettered ?k_is_lettered ?x_is_step ?l_is_step ?c_is_step ?k_is_step ?x__law_model ?l__law_model ?c__law_model ?k__law_model ?x__law_due_costs ?l__law_due_costs ?c__law_due_costs ?k__law_due_costs ?x__law_due_groups ?l__law_due_groups ?c__law_due_groups ?k__law_due_groups ?x__law_bent ?l__law_bent ?c__law_bent ?k__law_bent ?x_is_name ?l_is_name ?c_is_name ?k_is_name ?x_is_group ?l_is_group ?c_is_group ?k_is_group ?x__law_due ?l__law_due ?c__law_due ?k__law_due ?x_check_names ?l_check_names ?c_check_names ?k_check_names ?x_checked_groups ?l_checked_groups ?c_checked_groups ?k_checked_groups ?x__law_caught ?l__law_caught ?c__law_caught ?k__law_caught ?x__law_odd_right ?l__law_odd_right ?c__law_odd_right ?k__law_odd_right ?x__law_scheme ?l__law_scheme ?c__law_scheme ?k__law_scheme ?x__law_told ?l__law_told ?c__law_told ?k__law_told ?x__law_very_right ?l__law_very_right ?c__law_very_right ?k__law_very_right ?x_law ?l_law ?c_law ?k_law ?a1_Duplicate ?a2_Duplicate ?b1_Duplicate ?b2_Duplicate ?b3_Duplicate ?b4_Duplicate ?b5_Duplicate ?b6_Duplicate ?b7_Duplicate ?b8_Duplicate ?b9_Duplicate ?c1_Duplicate ?c2_Duplicate ?c3_Duplicate ?c4_Duplicate ?c5_Duplicate ?c6_Duplicate ?c7_Duplicate ?c8_Duplicate ?e1_Duplicate ?e2_Duplicate ?e3_Duplicate ?e4_Duplicate ?e5_Duplicate ?e6_Duplicate ?e7_Duplicate ?a1_InvalidGroup ?a2_InvalidGroup ?b1_InvalidGroup ?b2_InvalidGroup ?b3_InvalidGroup ?b4_InvalidGroup ?b5_InvalidGroup ?b6_InvalidGroup ?b7_InvalidGroup ?b8_InvalidGroup ?b9_InvalidGroup ?c1_InvalidGroup ?c2_InvalidGroup ?c3_InvalidGroup ?c4_InvalidGroup ?c5_InvalidGroup ?c6_InvalidGroup ?c7_InvalidGroup ?c8_InvalidGroup ?e1_InvalidGroup ?e2_InvalidGroup ?e3_InvalidGroup ?e4_InvalidGroup ?e5_InvalidGroup ?e6_InvalidGroup ?e7_InvalidGroup ?a1_InvalidLetter ?a2_InvalidLetter ?b1_InvalidLetter ?b2_InvalidLetter ?b3_InvalidLetter ?b4_InvalidLetter ?b5_InvalidLetter ?b6_InvalidLetter ?b7_InvalidLetter ?b8_InvalidLetter ?b9_InvalidLetter ?c1_InvalidLetter ?c2_InvalidLetter ?c3_InvalidLetter ?c4_InvalidLetter ?c5_InvalidLetter ?c6_InvalidLetter ?c7_InvalidLetter ?c8_InvalidLetter ?e1_InvalidLetter ?e2_InvalidLetter ?e3_InvalidLetter ?e4_InvalidLetter ?e5_InvalidLetter ?e6_InvalidLetter ?e7_InvalidLetter ?a1_InvalidName ?a2_InvalidName ?b1_InvalidName ?b2_InvalidName ?b3_InvalidName ?b4_InvalidName ?b5_InvalidName ?b6_InvalidName ?b7_InvalidName ?b8_InvalidName ?b9_InvalidName ?c1_InvalidName ?c2_InvalidName ?c3_InvalidName ?c4_InvalidName ?c5_InvalidName ?c6_InvalidName ?c7_InvalidName ?c8_InvalidName ?e1_InvalidName ?e2_InvalidName ?e3_InvalidName ?e4_InvalidName ?e5_InvalidName ?e6_InvalidName ?e7_InvalidName ?a1_InvalidPart ?a2_InvalidPart ?b1_InvalidPart ?b2_InvalidPart ?b3_InvalidPart ?b4_InvalidPart ?b5_InvalidPart ?b6_InvalidPart ?b7_InvalidPart ?b8_InvalidPart ?b9_InvalidPart ?c1_InvalidPart ?c2_InvalidPart ?c3_InvalidPart ?c4_InvalidPart ?c5_InvalidPart ?c6_InvalidPart ?c7_InvalidPart ?c8_InvalidPart ?e1_InvalidPart ?e2_InvalidPart ?e3_InvalidPart ?e4_InvalidPart ?e5_InvalidPart ?e6_InvalidPart ?e7_InvalidPart ?a1_InvalidStep ?a2_InvalidStep ?b1_InvalidStep ?b2_InvalidStep ?b3_InvalidStep ?b4_InvalidStep ?b5_InvalidStep ?b6_InvalidStep ?b7_InvalidStep ?b8_InvalidStep ?b9_InvalidStep ?c1_InvalidStep ?c2_InvalidStep ?c3_InvalidStep ?c4_InvalidStep ?c5_InvalidStep ?c6_InvalidStep ?c7_InvalidStep ?c8_InvalidStep ?e1_InvalidStep ?e2_InvalidStep ?e3_InvalidStep ?e4_InvalidStep ?e5_InvalidStep ?e6_InvalidStep ?e7_InvalidStep ?a1_UnknownCost ?a2_UnknownCost ?b1_UnknownCost ?b2_UnknownCost ?b3_UnknownCost ?b4_UnknownCost ?b5_UnknownCost ?b6_UnknownCost ?b7_UnknownCost ?b8_UnknownCost ?b9_UnknownCost ?c1_UnknownCost ?c2_UnknownCost ?c3_UnknownCost ?c4_UnknownCost ?c5_UnknownCost ?c6_UnknownCost ?c7_UnknownCost ?c8_UnknownCost ?e1_UnknownCost ?e2_UnknownCost ?e3_UnknownCost ?e4_UnknownCost ?e5_UnknownCost ?e6_UnknownCost ?e7_UnknownCost ?sup_top ?z_super ?x_STEPS_ALONE ?l_STEPS_ALONE ?x_STEPS_WITH_LETTER ?l_STEPS_WITH_LETTER ?k1_Scheme ?k2_Scheme ?k3_Scheme ?k4_Scheme ?k5_Scheme ?k6_Scheme ?k7_Scheme ?k8_Scheme ?k9_Scheme ?k0_Scheme ?na_costs_Scheme ?na_add_Scheme ?na_drop_Scheme ?na_swap_Scheme ?na_groups_Scheme ?na_turn_Scheme ?li_Scheme ?ci_Scheme ?m1swap_cost_Scheme ?m2swap_cost_Scheme ?m3swap_cost_Scheme ?m4swap_cost_Scheme ?m5swap_cost_Scheme ?m1step_cost_Scheme ?m2step_cost_Scheme ?m3step_cost_Scheme ?m4step_cost_Scheme ?m5step_cost_Scheme ?mTstep_cost_Scheme ?e_Duplicate_InvalidGroup ?e_Duplicate_InvalidLetter ?e_Duplicate_InvalidName ?e_Duplicate_InvalidPart ?e_Duplicate_InvalidStep ?e_Duplicate_UnknownCost ?e_InvalidGroup_Duplicate ?e_InvalidGroup_InvalidLetter ?e_InvalidGroup_InvalidName ?e_InvalidGroup_InvalidPart ?e_InvalidGroup_InvalidStep ?e_InvalidGroup_UnknownCost ?e_InvalidLetter_Duplicate ?e_InvalidLetter_InvalidGroup ?e_InvalidLetter_InvalidName ?e_InvalidLetter_InvalidPart ?e_InvalidLetter_InvalidStep ?e_InvalidLetter_UnknownCost ?e_InvalidName_Duplicate ?e_InvalidName_InvalidGroup ?e_InvalidName_InvalidLetter ?e_InvalidName_InvalidPart ?e_InvalidName_InvalidStep ?e_InvalidName_UnknownCost ?e_InvalidPart_Duplicate ?e_InvalidPart_InvalidGroup ?e_InvalidPart_InvalidLetter ?e_InvalidPart_InvalidName ?e_InvalidPart_InvalidStep ?e_InvalidPart_UnknownCost ?e_InvalidStep_Duplicate ?e_InvalidStep_InvalidGroup ?e_InvalidStep_InvalidLetter ?e_InvalidStep_InvalidName ?e_InvalidStep_InvalidPart ?e_InvalidStep_UnknownCost ?e_UnknownCost_Duplicate ?e_UnknownCost_InvalidGroup ?e_UnknownCost_InvalidLetter ?e_UnknownCost_InvalidName ?e_UnknownCost_InvalidPart ?e_UnknownCost_InvalidStep ?z_all ?z_any ?z_enumerate ?z_isinstance ?z_len ?z_list ?z_max ?z_min ?z_range ?z_repr ?z_set ?z_sorted ?z_str ?z_tuple ?c_LONGEST_NAME ?c_MOST_COSTS
    (case x_is_list => k_is); (case l_is_list => k_is); (case c_is_list => k_is); (case k_is_list => k_is)
    (case x_is_letter => k_is); (case l_is_letter => k_is); (case c_is_letter => k_is); (case k_is_letter => k_is)
    (case x_check_cost => k_is); (case l_check_cost => k_is); (case c_check_cost => k_is); (case k_check_cost => k_is)
    (case x__law_cell => k_is); (case l__law_cell => k_is); (case c__law_cell => k_is); (case k__law_cell => k_is)
    (case x__law_box => k_is); (case l__law_box => k_is); (case c__law_box => k_is); (case k__law_box => k_is)
    (case x__law_take => k_is); (case l__law_take => k_is); (case c__law_take => k_is); (case k__law_take => k_is)
    (case x__law_is_small => k_is); (case l__law_is_small => k_is); (case c__law_is_small => k_is); (case k__law_is_small => k_is)
    (case x__law_is_cost => k_is); (case l__law_is_cost => k_is); (case c__law_is_cost => k_is); (case k__law_is_cost => k_is)
    (case x_is_lettered => k_is); (case l_is_lettered => k_is); (case c_is_lettered => k_is); (case k_is_lettered => k_is)
    (case x_is_step => k_is); (case l_is_step => k_is); (case c_is_step => k_is); (case k_is_step => k_is)
    (case x__law_model => k_is); (case l__law_model => k_is); (case c__law_model => k_is); (case k__law_model => k_is)
    (case x__law_due_costs => k_is); (case l__law_due_costs => k_is); (case c__law_due_costs => k_is); (case k__law_due_costs => k_is)
    (case x__law_due_groups => k_is); (case l__law_due_groups => k_is); (case c__law_due_groups => k_is); (case k__law_due_groups => k_is)
    (case x__law_bent => k_is); (case l__law_bent => k_is); (case c__law_bent => k_is); (case k__law_bent => k_is)
    (case x_is_name => k_is); (case l_is_name => k_is); (case c_is_name => k_is); (case k_is_name => k_is)
    (case x_is_group => k_is); (case l_is_group => k_is); (case c_is_group => k_is); (case k_is_group => k_is)
    (case x__law_due => k_is); (case l__law_due => k_is); (case c__law_due => k_is); (case k__law_due => k_is)
    (case x_check_names => k_is); (case l_check_names => k_is); (case c_check_names => k_is); (case k_check_names => k_is)
    (case x_checked_groups => k_is); (case l_checked_groups => k_is); (case c_checked_groups => k_is); (case k_checked_groups => k_is)
    (case x__law_caught => k_is); (case l__law_caught => k_is); (case c__law_caught => k_is); (case k__law_caught => k_is)
    (case x__law_odd_right => k_is); (case l__law_odd_right => k_is); (case c__law_odd_right => k_is); (case k__law_odd_right => k_is)
    (case x__law_scheme => k_is); (case l__law_scheme => k_is); (case c__law_scheme => k_is); (case k__law_scheme => k_is)
    (case x__law_told => k_is); (case l__law_told => k_is); (case c__law_told => k_is); (case k__law_told => k_is)
    (case x__law_very_right => k_is); (case l__law_very_right => k_is); (case c__law_very_right => k_is); (case k__law_very_right => k_is)
    (case x_law => k_is); (case l_law => k_is); (case c_law => k_is); (case k_law => k_is)
    (case a1_Duplicate => k_is)
    (case a2_Duplicate => k_is)
    (case b1_Duplicate => k_is)
    (case b2_Duplicate => decide +kernel)
    (case b3_Duplicate => k_is)
    (case b4_Duplicate => k_is)
    (case b5_Duplicate => k_is)
    (case b6_Duplicate => k_is)
    (case b7_Duplicate => k_is)
    (case b8_Duplicate => k_is)
    (case b9_Duplicate => k_is)
    (case c1_Duplicate => k_is)
    (case c2_Duplicate => k_is)
    (case c3_Duplicate => k_is)
    (case c4_Duplicate => k_is)
    (case c5_Duplicate => k_is)
    (case c6_Duplicate => ks_is)
    (case c7_Duplicate => k_is)
    (case c8_Duplicate => k_is)
    (case e1_Duplicate => k_is)
    (case e2_Duplicate => k_is)
    (case e3_Duplicate => k_is)
    (case e4_Duplicate => k_is)
    (case e5_Duplicate => rfl)
    (case e6_Duplicate => first | rfl | decide +kernel)
    (case e7_Duplicate => rfl)
    (case a1_InvalidGroup => k_is)
    (case a2_InvalidGroup => k_is)
    (case b1_InvalidGroup => k_is)
    (case b2_InvalidGroup => decide +kernel)
    (case b3_InvalidGroup => k_is)
    (case b4_InvalidGroup => k_is)
    (case b5_InvalidGroup => k_is)
    (case b6_InvalidGroup => k_is)
    (case b7_InvalidGroup => k_is)
    (case b8_InvalidGroup => k_is)
    (case b9_InvalidGroup => k_is)
    (case c1_InvalidGroup => k_is)
    (case c2_InvalidGroup => k_is)
    (case c3_InvalidGroup => k_is)
    (case c4_InvalidGroup => k_is)
    (case c5_InvalidGroup => k_is)
    (case c6_InvalidGroup => ks_is)
    (case c7_InvalidGroup => k_is)
    (case c8_InvalidGroup => k_is)
    (case e1_InvalidGroup => k_is)
    (case e2_InvalidGroup => k_is)
    (case e3_InvalidGroup => k_is)
    (case e4_InvalidGroup => k_is)
    (case e5_InvalidGroup => rfl)
    (case e6_InvalidGroup => first | rfl | decide +kernel)
    (case e7_InvalidGroup => rfl)
    (case a1_InvalidLetter => k_is)
    (case a2_InvalidLetter => k_is)
    (case b1_InvalidLetter => k_is)
    (case b2_InvalidLetter => decide +kernel)
    (case b3_InvalidLetter => k_is)
    (case b4_InvalidLetter => k_is)
    (case b5_InvalidLetter => k_is)
    (case b6_InvalidLetter => k_is)
    (case b7_InvalidLetter => k_is)
    (case b8_InvalidLetter => k_is)
    (case b9_InvalidLetter => k_is)
    (case c1_InvalidLetter => k_is)
    (case c2_InvalidLetter => k_is)
    (case c3_InvalidLetter => k_is)
    (case c4_InvalidLetter => k_is)
    (case c5_InvalidLetter => k_is)
    (case c6_InvalidLetter => ks_is)
    (case c7_InvalidLetter => k_is)
    (case c8_InvalidLetter => k_is)
    (case e1_InvalidLetter => k_is)
    (case e2_InvalidLetter => k_is)
    (case e3_InvalidLetter => k_is)
    (case e4_InvalidLetter => k_is)
    (case e5_InvalidLetter => rfl)
    (case e6_InvalidLetter => first | rfl | decide +kernel)
    (case e7_InvalidLetter => rfl)
    (case a1_InvalidName => k_is)
    (case a2_InvalidName => k_is)
    (case b1_InvalidName => k_is)
    (case b2_InvalidName => decide +kernel)
    (case b3_InvalidName => k_is)
    (case b4_InvalidName => k_is)
    (case b5_InvalidName => k_is)
    (case b6_InvalidName => k_is)
    (case b7_InvalidName => k_is)
    (case b8_InvalidName => k_is)
    (case b9_InvalidName => k_is)
    (case c1_InvalidName => k_is)
    (case c2_InvalidName => k_is)
    (case c3_InvalidName => k_is)
    (case c4_InvalidName => k_is)
    (case c5_InvalidName => k_is)
    (case c6_InvalidName => ks_is)
    (case c7_InvalidName => k_is)
    (case c8_InvalidName => k_is)
    (case e1_InvalidName => k_is)
    (case e2_InvalidName => k_is)
    (case e3_InvalidName => k_is)
    (case e4_InvalidName => k_is)
    (case e5_InvalidName => rfl)
    (case e6_InvalidName => first | rfl | decide +kernel)
    (case e7_InvalidName => rfl)
    (case a1_InvalidPart => k_is)
    (case a2_InvalidPart => k_is)
    (case b1_InvalidPart => k_is)
    (case b2_InvalidPart => decide +kernel)
    (case b3_InvalidPart => k_is)
    (case b4_InvalidPart => k_is)
    (case b5_InvalidPart => k_is)
    (case b6_InvalidPart => k_is)
    (case b7_InvalidPart => k_is)
    (case b8_InvalidPart => k_is)
    (case b9_InvalidPart => k_is)
    (case c1_InvalidPart => k_is)
    (case c2_InvalidPart => k_is)
    (case c3_InvalidPart => k_is)
    (case c4_InvalidPart => k_is)
    (case c5_InvalidPart => k_is)
    (case c6_InvalidPart => ks_is)
    (case c7_InvalidPart => k_is)
    (case c8_InvalidPart => k_is)
    (case e1_InvalidPart => k_is)
    (case e2_InvalidPart => k_is)
    (case e3_InvalidPart => k_is)
    (case e4_InvalidPart => k_is)
    (case e5_InvalidPart => rfl)
    (case e6_InvalidPart => first | rfl | decide +kernel)
    (case e7_InvalidPart => rfl)
    (case a1_InvalidStep => k_is)
    (case a2_InvalidStep => k_is)
    (case b1_InvalidStep => k_is)
    (case b2_InvalidStep => decide +kernel)
    (case b3_InvalidStep => k_is)
    (case b4_InvalidStep => k_is)
    (case b5_InvalidStep => k_is)
    (case b6_InvalidStep => k_is)
    (case b7_InvalidStep => k_is)
    (case b8_InvalidStep => k_is)
    (case b9_InvalidStep => k_is)
    (case c1_InvalidStep => k_is)
    (case c2_InvalidStep => k_is)
    (case c3_InvalidStep => k_is)
    (case c4_InvalidStep => k_is)
    (case c5_InvalidStep => k_is)
    (case c6_InvalidStep => ks_is)
    (case c7_InvalidStep => k_is)
    (case c8_InvalidStep => k_is)
    (case e1_InvalidStep => k_is)
    (case e2_InvalidStep => k_is)
    (case e3_InvalidStep => k_is)
    (case e4_InvalidStep => k_is)
    (case e5_InvalidStep => rfl)
    (case e6_InvalidStep => first | rfl | decide +kernel)
    (case e7_InvalidStep => rfl)
    (case a1_UnknownCost => k_is)
    (case a2_UnknownCost => k_is)
    (case b1_UnknownCost => k_is)
    (case b2_UnknownCost => decide +kernel)
    (case b3_UnknownCost => k_is)
    (case b4_UnknownCost => k_is)
    (case b5_UnknownCost => k_is)
    (case b6_UnknownCost => k_is)
    (case b7_UnknownCost => k_is)
    (case b8_UnknownCost => k_is)
    (case b9_UnknownCost => k_is)
    (case c1_UnknownCost => k_is)
    (case c2_UnknownCost => k_is)
    (case c3_UnknownCost => k_is)
    (case c4_UnknownCost => k_is)
    (case c5_UnknownCost => k_is)
    (case c6_UnknownCost => ks_is)
    (case c7_UnknownCost => k_is)
    (case c8_UnknownCost => k_is)
    (case e1_UnknownCost => k_is)
    (case e2_UnknownCost => k_is)
    (case e3_UnknownCost => k_is)
    (case e4_UnknownCost => k_is)
    (case e5_UnknownCost => rfl)
    (case e6_UnknownCost => first | rfl | decide +kernel)
    (case e7_UnknownCost => rfl)
    (case sup_top => first | rfl | decide +kernel)
    (case z_super => k_is)
    (case x_STEPS_ALONE => k_is); (case l_STEPS_ALONE => k_is)
    (case x_STEPS_WITH_LETTER => k_is); (case l_STEPS_WITH_LETTER => k_is)
    (case k1_Scheme => k_is)
    (case k2_Scheme => k_is)
    (case k3_Scheme => k_is)
    (case k4_Scheme => k_is)
    (case k5_Scheme => k_is)
    (case k6_Scheme => k_is)
    (case k7_Scheme => k_is)
    (case k8_Scheme => k_is)
    (case k9_Scheme => k_is)
    (case k0_Scheme => k_is)
    (case na_costs_Scheme => k_is)
    (case na_add_Scheme => k_is)
    (case na_drop_Scheme => k_is)
    (case na_swap_Scheme => k_is)
    (case na_groups_Scheme => k_is)
    (case na_turn_Scheme => k_is)
    (case li_Scheme => k_is)
    (case ci_Scheme => k_is)
    (case m1swap_cost_Scheme => k_is)
    (case m2swap_cost_Scheme => k_is)
    (case m3swap_cost_Scheme => k_is)
    (case m4swap_cost_Scheme => k_is)
    (case m5swap_cost_Scheme => k_is)
    (case m1step_cost_Scheme => k_is)
    (case m2step_cost_Scheme => k_is)
    (case m3step_cost_Scheme => k_is)
    (case m4step_cost_Scheme => k_is)
    (case m5step_cost_Scheme => k_is)
    (case mTstep_cost_Scheme => k_is)
    (case e_Duplicate_InvalidGroup => k_is)
    (case e_Duplicate_InvalidLetter => k_is)
    (case e_Duplicate_InvalidName => k_is)
    (case e_Duplicate_InvalidPart => k_is)
    (case e_Duplicate_InvalidStep => k_is)
    (case e_Duplicate_UnknownCost => k_is)
    (case e_InvalidGroup_Duplicate => k_is)
    (case e_InvalidGroup_InvalidLetter => k_is)
    (case e_InvalidGroup_InvalidName => k_is)
    (case e_InvalidGroup_InvalidPart => k_is)
    (case e_InvalidGroup_InvalidStep => k_is)
    (case e_InvalidGroup_UnknownCost => k_is)
    (case e_InvalidLetter_Duplicate => k_is)
    (case e_InvalidLetter_InvalidGroup => k_is)
    (case e_InvalidLetter_InvalidName => k_is)
    (case e_InvalidLetter_InvalidPart => k_is)
    (case e_InvalidLetter_InvalidStep => k_is)
    (case e_InvalidLetter_UnknownCost => k_is)
    (case e_InvalidName_Duplicate => k_is)
    (case e_InvalidName_InvalidGroup => k_is)
    (case e_InvalidName_InvalidLetter => k_is)
    (case e_InvalidName_InvalidPart => k_is)
    (case e_InvalidName_InvalidStep => k_is)
    (case e_InvalidName_UnknownCost => k_is)
    (case e_InvalidPart_Duplicate => k_is)
    (case e_InvalidPart_InvalidGroup => k_is)
    (case e_InvalidPart_InvalidLetter => k_is)
    (case e_InvalidPart_InvalidName => k_is)
    (case e_InvalidPart_InvalidStep => k_is)
    (case e_InvalidPart_UnknownCost => k_is)
    (case e_InvalidStep_Duplicate => k_is)
    (case e_InvalidStep_InvalidGroup => k_is)
    (case e_InvalidStep_InvalidLetter => k_is)
    (case e_InvalidStep_InvalidName => k_is)
    (case e_InvalidStep_InvalidPart => k_is)
    (case e_InvalidStep_UnknownCost => k_is)
    (case e_UnknownCost_Duplicate => k_is)
    (case e_UnknownCost_InvalidGroup => k_is)
    (case e_UnknownCost_InvalidLetter => k_is)
    (case e_UnknownCost_InvalidName => k_is)
    (case e_UnknownCost_InvalidPart => k_is)
    (case e_UnknownCost_InvalidStep => k_is)
    (case z_all => k_is)
    (case z_any => k_is)
    (case z_enumerate => k_is)
    (case z_isinstance => k_is)
    (case z_len => k_is)
    (case z_list => k_is)
    (case z_max => k_is)
    (case z_min => k_is)
    (case z_range => k_is)
    (case z_repr => k_is)
    (case z_set => k_is)
    (case z_sorted => k_is)
    (case z_str => k_is)
    (case z_tuple => k_is)
    (case c_LONGEST_NAME => k_is)
    (case c_MOST_COSTS => k_is)
#print axioms PySem.Challenge.cw_seenchoices_k05_schemes_refused_holds
