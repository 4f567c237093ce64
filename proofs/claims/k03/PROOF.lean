import PyProof.Rows.All
import Wide.All
import OpenK.AllK
import Wide.FinOn
import PyProof.ReprRoads
import HandS.ForMost
import HandS.Walk
import HandS.IsInst
import HandS.Wide
import HandS.WideBits
import HandS.TupAny
import HandS.Evl
import KE.KExcSuper
import HandS.Exc
import HandS.TryOnly
import HandS.ExcOwn
import HandS.WordsExc
import HandS.ExcField
import PyProof.ReprReads
import PyProof.StrHeap
import PyProof.FactsAll.list
import PyProof.FactsAll.tuple
import HandS.Gcd
import HandS.Zip
import PySem.Challenge.RW_seenchoices_k03_integers_scaled
set_option Elab.async false
set_option linter.all false
set_option maxRecDepth 100000
set_option maxHeartbeats 4000000
/-! DL: readings at the level of data. A value of the heap bears a datum (Rp); an expression's rule tells, of data alone, what must hold so that what follows holds. -/
namespace DL
open PySem L2
open Evl (Ex)

/-- data -/
inductive D where
  | non | bl (b : Bool) | int (i : Int) | str (x : Str) | ty (n : String)
  | lst (ds : List D) | tup (ds : List D) | dct (ks : List Key) (ds : List D)
  | scr (ns : List Int) | box (a : Addr) | obj (n : Str) (ks : List Str) (ds : List D)

abbrev Fg := PySem.W.Frag
mutual
/-- at the heap G the value bears the datum -/
inductive Rp (K : Fg) (G : Hp) : V → D → Prop
  | non : Rp K G .non .non
  | bl (b : Bool) : Rp K G (.bl b) (.bl b)
  | int (i : Int) : Rp K G (.int i) (.int i)
  | str (x : Str) : Rp K G (.str x) (.str x)
  | ty (n : String) : Rp K G (.ty n) (.ty n)
  | lst {a : Addr} {xs : List V} {ds : List D} : G a = some (.lst xs) → RpA K G xs ds → Rp K G (.ref a) (.lst ds)
  | tup {a : Addr} {xs : List V} {ds : List D} : SqT K G a xs → RpA K G xs ds → Rp K G (.ref a) (.tup ds)
  | dct {a : Addr} {kvs : List (Key × V)} {ks : List Key} {vs : List V} {ds : List D} : G a = some (.dK kvs) → kvs.map (·.1) = ks → kvs.map (·.2) = vs → RpA K G vs ds → Rp K G (.ref a) (.dct ks ds)
  | scr {a : Addr} {ns : List Int} : SqL K G a (ns.map V.int) → Rp K G (.ref a) (.scr ns)
  | box (a : Addr) : Rp K G (.ref a) (.box a)
  | obj {a C dx : Addr} {fs : List (Str × V)} {n : Str} {ks : List Str} {vs : List V} {ds : List D} : PySem.W.nsIn K mainGlobals n = some (some (.ref C)) → G a = some (.ins C dx fs) → fs.map (·.1) = ks → fs.map (·.2) = vs → RpA K G vs ds → Rp K G (.ref a) (.obj n ks ds)
inductive RpA (K : Fg) (G : Hp) : List V → List D → Prop
  | nil : RpA K G [] []
  | cons {v : V} {d : D} {vs : List V} {ds : List D} : Rp K G v d → RpA K G vs ds → RpA K G (v :: vs) (d :: ds)
end
section
variable {K : Fg} {G G' : Hp}
mutual
theorem Rp.mono (e : Ex G G') : ∀ {v : V} {d : D}, Rp K G v d → Rp K G' v d
  | _, _, .non => .non
  | _, _, .bl b => .bl b
  | _, _, .int i => .int i
  | _, _, .str x => .str x
  | _, _, .ty n => .ty n
  | _, _, .lst h r => .lst (e _ _ h) (RpA.mono e r)
  | _, _, .tup h r => .tup (Evl.ex_t e h) (RpA.mono e r)
  | _, _, .dct h a b r => .dct (e _ _ h) a b (RpA.mono e r)
  | _, _, .scr h => .scr (Evl.ex_l e h)
  | _, _, .box a => .box a
  | _, _, .obj k h a b r => .obj k (e _ _ h) a b (RpA.mono e r)
theorem RpA.mono (e : Ex G G') : ∀ {vs : List V} {ds : List D}, RpA K G vs ds → RpA K G' vs ds
  | _, _, .nil => .nil
  | _, _, .cons r t => .cons (Rp.mono e r) (RpA.mono e t)
end
theorem RpA.len : ∀ {vs : List V} {ds : List D}, RpA K G vs ds → vs.length = ds.length
  | _, _, .nil => rfl
  | _, _, .cons _ t => by rw [List.length_cons, List.length_cons, RpA.len t]
theorem RpA.at : ∀ {vs : List V} {ds : List D} {i : Nat} {d : D}, RpA K G vs ds → ds[i]? = some d → ∃ v, vs[i]? = some v ∧ Rp K G v d
  | _, _, _, _, .nil, e => by simp at e
  | _, _, 0, _, .cons r _, e => by simp at e; subst e; exact ⟨_, rfl, r⟩
  | _, _, i + 1, d, .cons _ t, e => by
    obtain ⟨v, h1, h2⟩ := RpA.at (i := i) (d := d) t (by simpa using e)
    exact ⟨v, by simpa using h1, h2⟩
theorem RpA.app : ∀ {vs ws : List V} {ds es : List D}, RpA K G vs ds → RpA K G ws es → RpA K G (vs ++ ws) (ds ++ es)
  | _, _, _, _, .nil, s => s
  | _, _, _, _, .cons r t, s => .cons r (RpA.app t s)
theorem RpA.set {v : V} {d : D} (r : Rp K G v d) : ∀ {vs : List V} {ds : List D} (i : Nat), RpA K G vs ds → RpA K G (vs.set i v) (ds.set i d)
  | _, _, _, .nil => .nil
  | _, _, 0, .cons _ t => .cons r t
  | _, _, i + 1, .cons q t => .cons q (RpA.set r i t)
theorem RpA.drop : ∀ {vs : List V} {ds : List D} (n : Nat), RpA K G vs ds → RpA K G (vs.drop n) (ds.drop n)
  | _, _, 0, r => r
  | _, _, _ + 1, .nil => .nil
  | _, _, n + 1, .cons _ t => RpA.drop n t
theorem RpA.take : ∀ {vs : List V} {ds : List D} (n : Nat), RpA K G vs ds → RpA K G (vs.take n) (ds.take n)
  | _, _, 0, _ => .nil
  | _, _, _ + 1, .nil => .nil
  | _, _, n + 1, .cons r t => .cons r (RpA.take n t)
theorem RpA.rep : ∀ {vs : List V} {ds : List D} (n : Nat), RpA K G vs ds → RpA K G (List.replicate n vs).flatten (List.replicate n ds).flatten
  | _, _, 0, _ => .nil
  | vs, ds, n + 1, r => by
    rw [List.replicate_succ, List.replicate_succ, List.flatten_cons, List.flatten_cons]
    exact r.app (RpA.rep n r)
end

/-! ### the world: G stands for good, mu is owned (lists that may change), F is the frame -/
abbrev Mem := Addr → Option (List D)
def Mem.up (m : Mem) (a : Addr) (ds : List D) : Mem := fun b => if b = a then some ds else m b
theorem Mem.up_same {m : Mem} {a : Addr} {ds : List D} : m.up a ds a = some ds := if_pos rfl
theorem Mem.up_ne {m : Mem} {a b : Addr} {ds : List D} (h : b ≠ a) : m.up a ds b = m b := if_neg h
theorem Mem.up_up {m : Mem} {a : Addr} {ds es : List D} : (m.up a ds).up a es = m.up a es := by
  funext b; unfold Mem.up; split <;> rfl
structure Wd (K : Fg) (G : Hp) (m : Mem) (F : Hp) (H : Hp) : Prop where
  ex : Ex G H
  own : ∀ a ds, m a = some ds → G a = none ∧ F a = none ∧ ∃ xs, H a = some (.lst xs) ∧ RpA K G xs ds
  fr : ∀ a o, F a = some o → H a = some o
  frG : ∀ a o, F a = some o → G a = none
section
variable {K : Fg} {G G' : Hp} {m : Mem} {F H : Hp}
theorem Wd.fresh (W : Wd K G m F H) {p : Addr} (hp : H p = none) : G p = none ∧ m p = none ∧ F p = none := by
  refine ⟨?_, ?_, ?_⟩
  · cases e : G p with
    | none => rfl
    | some o => rw [W.ex p o e] at hp; cases hp
  · cases e : m p with
    | none => rfl
    | some ds =>
      obtain ⟨_, _, xs, h, _⟩ := W.own p ds e
      rw [h] at hp; cases hp
  · cases e : F p with
    | none => rfl
    | some o => rw [W.fr p o e] at hp; cases hp
/-- a new object that stands for good -/
theorem Wd.new (W : Wd K G m F H) {p : Addr} (hp : H p = none) (o : HO) : Ex G (upd G p o) ∧ Wd K (upd G p o) m F (upd H p o) := by
  obtain ⟨hG, hm, hF⟩ := W.fresh hp
  have e : Ex G (upd G p o) := Ex.new hG
  refine ⟨e, fun a u h => ?_, fun a ds h => ?_, fun a u h => ?_, fun a u h => ?_⟩
  · by_cases q : a = p
    · subst q; rw [upd_same] at h ⊢; exact h
    · rw [upd_ne q] at h ⊢; exact W.ex a u h
  · have q : a ≠ p := fun z => by subst z; rw [hm] at h; cases h
    obtain ⟨h1, h2, xs, h3, h4⟩ := W.own a ds h
    exact ⟨by rw [upd_ne q]; exact h1, h2, xs, by rw [upd_ne q]; exact h3, h4.mono e⟩
  · have q : a ≠ p := fun z => by subst z; rw [hF] at h; cases h
    rw [upd_ne q]; exact W.fr a u h
  · have q : a ≠ p := fun z => by subst z; rw [hF] at h; cases h
    rw [upd_ne q]; exact W.frG a u h
/-- a new owned list -/
theorem Wd.newOwn (W : Wd K G m F H) {p : Addr} (hp : H p = none) {xs : List V} {ds : List D} (r : RpA K G xs ds) : m p = none ∧ Wd K G (m.up p ds) F (upd H p (.lst xs)) := by
  obtain ⟨hG, hm, hF⟩ := W.fresh hp
  refine ⟨hm, fun a u h => ?_, fun a es h => ?_, fun a u h => ?_, W.frG⟩
  · have q : a ≠ p := fun z => by subst z; rw [hG] at h; cases h
    rw [upd_ne q]; exact W.ex a u h
  · by_cases q : a = p
    · subst q
      rw [Mem.up_same] at h
      cases h
      exact ⟨hG, hF, xs, upd_same, r⟩
    · rw [Mem.up_ne q] at h
      obtain ⟨h1, h2, ys, h3, h4⟩ := W.own a es h
      exact ⟨h1, h2, ys, by rw [upd_ne q]; exact h3, h4⟩
  · have q : a ≠ p := fun z => by subst z; rw [hF] at h; cases h
    rw [upd_ne q]; exact W.fr a u h
/-- an owned list is changed -/
theorem Wd.put (W : Wd K G m F H) {p : Addr} {ds0 : List D} (hp : m p = some ds0) {xs : List V} {ds : List D} (r : RpA K G xs ds) : Wd K G (m.up p ds) F (upd H p (.lst xs)) := by
  obtain ⟨hG, hF, _⟩ := W.own p ds0 hp
  refine ⟨fun a u h => ?_, fun a es h => ?_, fun a u h => ?_, W.frG⟩
  · have q : a ≠ p := fun z => by subst z; rw [hG] at h; cases h
    rw [upd_ne q]; exact W.ex a u h
  · by_cases q : a = p
    · subst q
      rw [Mem.up_same] at h
      cases h
      exact ⟨hG, hF, xs, upd_same, r⟩
    · rw [Mem.up_ne q] at h
      obtain ⟨h1, h2, ys, h3, h4⟩ := W.own a es h
      exact ⟨h1, h2, ys, by rw [upd_ne q]; exact h3, h4⟩
  · have q : a ≠ p := fun z => by subst z; rw [hF] at h; cases h
    rw [upd_ne q]; exact W.fr a u h
/-- a frame more: one new object -/
theorem Wd.frame (W : Wd K G m F H) {p : Addr} (hp : H p = none) (o : HO) : Wd K G m (upd F p o) (upd H p o) := by
  obtain ⟨hG, hm, hF⟩ := W.fresh hp
  refine ⟨fun a u h => ?_, fun a ds e => ?_, fun a u e => ?_, fun a u e => ?_⟩
  · have q : a ≠ p := fun z => by subst z; rw [hG] at h; cases h
    rw [upd_ne q]; exact W.ex a u h
  · have q : a ≠ p := fun z => by subst z; rw [hm] at e; cases e
    obtain ⟨h1, h2, xs, h3, h4⟩ := W.own a ds e
    exact ⟨h1, by rw [upd_ne q]; exact h2, xs, by rw [upd_ne q]; exact h3, h4⟩
  · by_cases q : a = p
    · subst q; rw [upd_same] at e ⊢; exact e
    · rw [upd_ne q] at e ⊢; exact W.fr a u e
  · by_cases q : a = p
    · subst q; exact hG
    · rw [upd_ne q] at e; exact W.frG a u e
/-- the frame's object is changed -/
theorem Wd.reframe {p : Addr} {o : HO} (W : Wd K G m (upd F p o) H) (o' : HO) : Wd K G m (upd F p o') (upd H p o') := by
  have hG : G p = none := W.frG p o upd_same
  have hm : m p = none := by
    cases e : m p with
    | none => rfl
    | some ds =>
      obtain ⟨_, h, _⟩ := W.own p ds e
      rw [upd_same] at h; cases h
  refine ⟨fun a u h => ?_, fun a ds e => ?_, fun a u e => ?_, fun a u e => ?_⟩
  · have q : a ≠ p := fun z => by subst z; rw [hG] at h; cases h
    rw [upd_ne q]; exact W.ex a u h
  · have q : a ≠ p := fun z => by subst z; rw [hm] at e; cases e
    obtain ⟨h1, h2, xs, h3, h4⟩ := W.own a ds e
    rw [upd_ne q] at h2
    exact ⟨h1, by rw [upd_ne q]; exact h2, xs, by rw [upd_ne q]; exact h3, h4⟩
  · by_cases q : a = p
    · subst q; rw [upd_same] at e ⊢; exact e
    · rw [upd_ne q] at e ⊢
      exact W.fr a u (by rw [upd_ne q]; exact e)
  · by_cases q : a = p
    · subst q; exact hG
    · rw [upd_ne q] at e
      exact W.frG a u (by rw [upd_ne q]; exact e)
/-- the frame's object stands for good from here on -/
theorem Wd.adopt {p : Addr} {o : HO} (W : Wd K G m (upd F p o) H) (hF : F p = none) : Ex G (upd G p o) ∧ Wd K (upd G p o) m F H := by
  have hG : G p = none := W.frG p o upd_same
  have e : Ex G (upd G p o) := Ex.new hG
  refine ⟨e, fun a u h => ?_, fun a ds h => ?_, fun a u h => ?_, fun a u h => ?_⟩
  · by_cases q : a = p
    · subst q; rw [upd_same] at h; cases h; exact W.fr _ _ upd_same
    · rw [upd_ne q] at h; exact W.ex a u h
  · obtain ⟨h1, h2, xs, h3, h4⟩ := W.own a ds h
    have q : a ≠ p := fun z => by subst z; rw [upd_same] at h2; cases h2
    rw [upd_ne q] at h2
    exact ⟨by rw [upd_ne q]; exact h1, h2, xs, h3, h4.mono e⟩
  · have q : a ≠ p := fun z => by subst z; rw [hF] at h; cases h
    exact W.fr a u (by rw [upd_ne q]; exact h)
  · have q : a ≠ p := fun z => by subst z; rw [hF] at h; cases h
    rw [upd_ne q]
    exact W.frG a u (by rw [upd_ne q]; exact h)
end

/-! ### slots -/
abbrev En0 := List (Option D)
inductive En (K : Fg) (G : Hp) : L2.St → En0 → Prop
  | nil : En K G [] []
  | skip {o : Option V} {σ : L2.St} {ρ : En0} : En K G σ ρ → En K G (o :: σ) (none :: ρ)
  | has {v : V} {d : D} {σ : L2.St} {ρ : En0} : Rp K G v d → En K G σ ρ → En K G (some v :: σ) (some d :: ρ)
section
variable {K : Fg} {G G' : Hp}
theorem En.mono (e : Ex G G') : ∀ {σ : L2.St} {ρ : En0}, En K G σ ρ → En K G' σ ρ
  | _, _, .nil => .nil
  | _, _, .skip t => .skip (En.mono e t)
  | _, _, .has r t => .has (r.mono e) (En.mono e t)
theorem En.get : ∀ {σ : L2.St} {ρ : En0} {i : Nat} {d : D}, En K G σ ρ → ρ[i]? = some (some d) → ∃ v, σ[i]? = some (some v) ∧ Rp K G v d
  | _, _, _, _, .nil, e => by simp at e
  | _, _, 0, _, .skip _, e => by simp at e
  | _, _, 0, _, .has r _, e => by simp at e; subst e; exact ⟨_, rfl, r⟩
  | _, _, i + 1, d, .skip t, e => by
    obtain ⟨v, h1, h2⟩ := En.get (i := i) (d := d) t (by simpa using e)
    exact ⟨v, by simpa using h1, h2⟩
  | _, _, i + 1, d, .has _ t, e => by
    obtain ⟨v, h1, h2⟩ := En.get (i := i) (d := d) t (by simpa using e)
    exact ⟨v, by simpa using h1, h2⟩
theorem En.put {v : V} {d : D} (r : Rp K G v d) : ∀ {σ : L2.St} {ρ : En0} (i : Nat), En K G σ ρ → En K G (σ.set i (some v)) (ρ.set i (some d))
  | _, _, _, .nil => .nil
  | _, _, 0, .skip t => .has r t
  | _, _, 0, .has _ t => .has r t
  | _, _, i + 1, .skip t => .skip (En.put r i t)
  | _, _, i + 1, .has q t => .has q (En.put r i t)
theorem En.del : ∀ {σ : L2.St} {ρ : En0} (i : Nat), En K G σ ρ → En K G (σ.set i none) (ρ.set i none)
  | _, _, _, .nil => .nil
  | _, _, 0, .skip t => .skip t
  | _, _, 0, .has _ t => .skip t
  | _, _, i + 1, .skip t => .skip (En.del i t)
  | _, _, i + 1, .has q t => .has q (En.del i t)
def wipeD (ρ : En0) : List Nat → En0
  | [] => ρ
  | v :: vs => (wipeD ρ vs).set v none
theorem En.wipe {σ : L2.St} {ρ : En0} (e : En K G σ ρ) : ∀ vs : List Nat, En K G (L2.wipe σ vs) (wipeD ρ vs)
  | [] => e
  | v :: vs => (En.wipe e vs).del v
theorem En.blank : ∀ (σ : L2.St), En K G σ (List.replicate σ.length Option.none)
  | [] => .nil
  | o :: σ => .skip (En.blank σ)
theorem En.start : ∀ {vs : List V} {ds : List D} (n : Nat), RpA K G vs ds → En K G (vs.map some ++ List.replicate n none) (ds.map some ++ List.replicate n none)
  | _, _, n, .nil => by
    have q := En.blank (K := K) (G := G) (List.replicate n Option.none)
    rw [List.length_replicate] at q
    exact q
  | _, _, n, .cons r t => .has r (En.start n t)
end

/-! ### readings by data -/
/-- an exception: its class's name, its field -/
structure Xn where
  cls : Str
  fld : Str
  val : D
abbrev XQ := Xn → Mem → Prop
abbrev WE := En0 → Mem → (D → Mem → Prop) → XQ → Prop
abbrev WT := En0 → Mem → (Bool → Mem → Prop) → XQ → Prop
abbrev WA := En0 → Mem → (List D → Mem → Prop) → XQ → Prop
abbrev WO := En0 → Mem → (Option Int → Mem → Prop) → XQ → Prop
structure De where
  nx : En0 → Mem → Prop
  rt : D → Mem → Prop
  bk : En0 → Mem → Prop := fun _ _ => False
  ct : En0 → Mem → Prop := fun _ _ => False
  ex : XQ := fun _ _ => False
abbrev WS := De → En0 → Mem → Prop
/-- the exception's own dict bears its field -/
def Xr (K : Fg) (G : Hp) (x : Xn) (d : Option Addr) : Prop := ∃ dd v, d = some dd ∧ G dd = some (.xd [(x.fld, v)]) ∧ Rp K G v x.val
theorem Xr.mono {K : Fg} {G G' : Hp} {x : Xn} {d : Option Addr} (e : Ex G G') (h : Xr K G x d) : Xr K G' x d := by
  obtain ⟨dd, v, h1, h2, h3⟩ := h
  exact ⟨dd, v, h1, e _ _ h2, h3.mono e⟩
/-- a wish about exceptions, by the class's name -/
abbrev Wx := Str → Option Addr → L2.St → Hp → Prop
/-- what is raised is what W wishes -/
def FitX (K : Fg) (W : Wx) (G : Hp) (F : Hp) (Qx : XQ) : Prop := ∀ x m' d σ' G' H', Qx x m' → Ex G G' → Wd K G' m' F H' → Xr K G' x d → W x.cls d σ' H'
theorem FitX.mono {K : Fg} {W : Wx} {G G' : Hp} {F : Hp} {Qx : XQ} (f : FitX K W G F Qx) (e : Ex G G') : FitX K W G' F Qx := fun x m' d σ' G2 H' q e2 => f x m' d σ' G2 H' q (e.trans e2)
def FitE (K : Fg) (G : Hp) (F : Hp) (Q : VK) (Qd : D → Mem → Prop) : Prop := ∀ d m' v G' H', Qd d m' → Ex G G' → Wd K G' m' F H' → Rp K G' v d → Q v H'
def LiftE (K : Fg) (W : Wx) (t : TE) (w : WE) : Prop := ∀ G m F H σ ρ (Q : VK) (Qd : D → Mem → Prop) (Qx : XQ), Wd K G m F H → En K G σ ρ → w ρ m Qd Qx → FitX K W G F Qx → FitE K G F Q Qd → t σ H Q
def LiftT (K : Fg) (W : Wx) (t : TT) (w : WT) : Prop := ∀ G m F H σ ρ (Q : Bool → Hp → Prop) (Qd : Bool → Mem → Prop) (Qx : XQ), Wd K G m F H → En K G σ ρ → w ρ m Qd Qx → FitX K W G F Qx →
  (∀ b m' G' H', Qd b m' → Ex G G' → Wd K G' m' F H' → Q b H') → t σ H Q
def LiftO (K : Fg) (W : Wx) (t : TO) (w : WO) : Prop := ∀ G m F H σ ρ (Q : Option Int → Hp → Prop) (Qd : Option Int → Mem → Prop) (Qx : XQ), Wd K G m F H → En K G σ ρ → w ρ m Qd Qx → FitX K W G F Qx →
  (∀ b m' G' H', Qd b m' → Ex G G' → Wd K G' m' F H' → Q b H') → t σ H Q
def LiftA (K : Fg) (W : Wx) (t : TA) (w : WA) : Prop := ∀ G m F H σ ρ (Q : List V → Hp → Prop) (Qd : List D → Mem → Prop) (Qx : XQ), Wd K G m F H → En K G σ ρ → w ρ m Qd Qx → FitX K W G F Qx →
  (∀ ds m' vs G' H', Qd ds m' → Ex G G' → Wd K G' m' F H' → RpA K G' vs ds → Q vs H') → t σ H Q
structure FitS (K : Fg) (W : Wx) (G : Hp) (F : Hp) (E : De) (S : Ends) : Prop where
  nx : ∀ ρ' m' σ' G' H', E.nx ρ' m' → Ex G G' → Wd K G' m' F H' → En K G' σ' ρ' → S.nx σ' H'
  rt : ∀ d m' v G' H', E.rt d m' → Ex G G' → Wd K G' m' F H' → Rp K G' v d → S.rt v H'
  bk : ∀ ρ' m' σ' G' H', E.bk ρ' m' → Ex G G' → Wd K G' m' F H' → En K G' σ' ρ' → S.bk σ' H'
  ct : ∀ ρ' m' σ' G' H', E.ct ρ' m' → Ex G G' → Wd K G' m' F H' → En K G' σ' ρ' → S.ct σ' H'
  ex : FitX K W G F E.ex
theorem FitS.mono {K : Fg} {W : Wx} {G G' : Hp} {F : Hp} {E : De} {S : Ends} (f : FitS K W G F E S) (e : Ex G G') : FitS K W G' F E S :=
  ⟨fun a b c G2 H' q e2 => f.nx a b c G2 H' q (e.trans e2), fun a b c G2 H' q e2 => f.rt a b c G2 H' q (e.trans e2), fun a b c G2 H' q e2 => f.bk a b c G2 H' q (e.trans e2), fun a b c G2 H' q e2 => f.ct a b c G2 H' q (e.trans e2), f.ex.mono e⟩
def LiftS (K : Fg) (W : Wx) (t : TS) (w : WS) : Prop := ∀ G m F H σ ρ (S : Ends) (E : De), Wd K G m F H → En K G σ ρ → w E ρ m → FitS K W G F E S → t S σ H

/-- a family of contexts of one def -/
structure Fam (P : Program) (w : World) (K : Fg) (mg : Str → Option Value) (base : Heap) (k : Nat) (N : List Str) {ι : Type} (X : ι → Cx) : Prop where
  prog : ∀ i, (X i).prog = P
  w : ∀ i, (X i).w = w
  K : ∀ i, (X i).K = K
  mg : ∀ i, (X i).mg = mg
  base : ∀ i, (X i).base = base
  hN : ∀ i, (X i).N = N
  calm : ∀ i, (X i).calm = true
  room : ∀ i, Room k (X i).A
  nd : N.Nodup

def PD (K : Fg) (W : Wx) {ι : Type} (X : ι → Cx) (e : Expr) (w : WE) : Prop := ∃ t, (∀ i, PE (X i) e t) ∧ LiftE K W t w
def PDT (K : Fg) (W : Wx) {ι : Type} (X : ι → Cx) (e : Expr) (w : WT) : Prop := ∃ t, (∀ i, PT (X i) e t) ∧ LiftT K W t w
def PDW (K : Fg) (W : Wx) {ι : Type} (X : ι → Cx) (e : Expr) (w : WT) : Prop := ∃ t, (∀ i, PW (X i) e t) ∧ LiftT K W t w
def PDO (K : Fg) (W : Wx) {ι : Type} (X : ι → Cx) (e : Option Expr) (w : WO) : Prop := ∃ t, (∀ i, PO (X i) e t) ∧ LiftO K W t w
def PDA (K : Fg) (W : Wx) {ι : Type} (X : ι → Cx) (es : List Expr) (w : WA) : Prop := ∃ t, (∀ i, PA (X i) es t) ∧ LiftA K W t w
def PDS (K : Fg) (W : Wx) {ι : Type} (X : ι → Cx) (s : Stmt) (w : WS) : Prop := ∃ t, (∀ i, PS (X i) s t) ∧ LiftS K W t w
def PDB (K : Fg) (W : Wx) {ι : Type} (X : ι → Cx) (s : List Stmt) (w : WS) : Prop := ∃ t, (∀ i, PSs (X i) s t) ∧ LiftS K W t w

/-! ### names, constants -/
def wVar (i : Nat) : WE := fun ρ m Q _ => match ρ[i]? with
  | some (some d) => Q d m
  | _ => False
def wC (d : D) : WE := fun _ m Q _ => Q d m
section
variable {K : Fg} {W : Wx} {ι : Type} {X : ι → Cx} {pos : Pos}
theorem lift_var {i : Nat} : LiftE K W (tVar i) (wVar i) := by
  intro G m F H σ ρ Q Qd Qx hW hE h hX hQ
  unfold wVar at h
  split at h
  · rename_i d e
    obtain ⟨v, h1, h2⟩ := hE.get e
    exact ⟨v, h1, hQ d m v G H h (Ex.refl G) hW h2⟩
  · cases h
theorem pd_var (i : Nat) {N : List Str} {x : Str} (hX : ∀ j, (X j).N = N) (hN : N[i]? = some x := by rfl) (hv : ∀ j, Vis (X j).env.scope x := by intro _; first | exact Or.inl rfl | exact Or.inr (Or.inl rfl) | exact Or.inr (Or.inr rfl)) (hd : (x == ("__debug__" : Str)) = false := by decide) (hc : (x == ("__classdict__" : Str)) = false := by decide) : PD K W X (.Name x pos) (wVar i) :=
  ⟨tVar i, fun j => pe_var (by rw [hX j]; exact hN) (hv j) hd hc, lift_var⟩
theorem lift_c {v : V} {d : D} (r : ∀ G, Rp K G v d) : LiftE K W (tC v) (wC d) := fun G m F H σ ρ Q Qd Qx hW hE h hX hQ => hQ d m v G H h (Ex.refl G) hW (r G)
theorem pd_int {i : Int} {j : Nat} : PD K W X (.Constant (.int i) j pos) (wC (.int i)) := ⟨_, fun _ => pe_int, lift_c fun _ => .int i⟩
theorem pd_bl {b : Bool} {j : Nat} : PD K W X (.Constant (.bool b) j pos) (wC (.bl b)) := ⟨_, fun _ => pe_bl, lift_c fun _ => .bl b⟩
theorem pd_non {j : Nat} : PD K W X (.Constant .none j pos) (wC .non) := ⟨_, fun _ => pe_non, lift_c fun _ => .non⟩
theorem pd_str {x : Str} {j : Nat} : PD K W X (.Constant (.str x) j pos) (wC (.str x)) := ⟨_, fun _ => pe_str, lift_c fun _ => .str x⟩
/-- a built-in type's name as a value -/
theorem pd_ty {mg : Str → Option Value} {x : Str} {n : String} (hX : ∀ j, (X j).mg = mg) (hm : mg x = none) (hv : bootBuiltins x = some (.type n)) (hg : ∀ j, Gl (X j) x := by intro _; rfl) (hn : x ≠ "__name__" := by decide) (hd : (x == ("__debug__" : Str)) = false := by decide) :
    PD K W X (.Name x pos) (wC (.ty n)) := ⟨tC (.ty n), fun j => pe_bltn (hg j) (by rw [hX j]; exact hm) hv rfl hn hd, lift_c fun _ => .ty n⟩
/-- a constant of the module -/
theorem pd_glob {mg : Str → Option Value} {x : Str} {v : V} {u : Value} {d : D} (hX : ∀ j, (X j).mg = mg) (hm : mg x = some u) (r : RelV v u) (rp : ∀ G, Rp K G v d) (hg : ∀ j, Gl (X j) x := by intro _; rfl) (hd : (x == ("__debug__" : Str)) = false := by decide) :
    PD K W X (.Name x pos) (wC d) := ⟨_, fun j => pe_glob (hg j) (by rw [hX j]; exact hm) r hd, lift_c rp⟩
theorem pd_globI {mg : Str → Option Value} {x : Str} {i : Int} (hX : ∀ j, (X j).mg = mg) (hm : ∃ t, mg x = some (.int i t)) (hg : ∀ j, Gl (X j) x := by intro _; rfl) (hd : (x == ("__debug__" : Str)) = false := by decide) : PD K W X (.Name x pos) (wC (.int i)) := by
  obtain ⟨t, hm⟩ := hm
  exact pd_glob (v := V.int i) hX hm ⟨t, rfl⟩ (fun _ => .int i) hg hd
end

/-! ### operators -/
abbrev WR := D → D → Mem → (D → Mem → Prop) → Prop
def LiftR (K : Fg) (r : R2) (w : WR) : Prop := ∀ G m F H x y dx dy (Q : VK) (Qd : D → Mem → Prop), Wd K G m F H → Rp K G x dx → Rp K G y dy → w dx dy m Qd → FitE K G F Q Qd → r x y H Q
def wOp (r : WR) (a b : WE) : WE := fun ρ m Q Qx => a ρ m (fun x m1 => b ρ m1 (fun y m2 => r x y m2 Q) Qx) Qx
theorem lift_op {K : Fg} {W : Wx} {r : R2} {w : WR} {ta tb : TE} {a b : WE} (hr : LiftR K r w) (ha : LiftE K W ta a) (hb : LiftE K W tb b) : LiftE K W (tOp r ta tb) (wOp w a b) := by
  intro G m F H σ ρ Q Qd Qx hW hE h hX hQ
  refine ha G m F H σ ρ _ _ Qx hW hE h hX ?_
  intro dx m1 x G1 H1 h1 e1 W1 r1
  refine hb G1 m1 F H1 σ ρ _ _ Qx W1 (hE.mono e1) h1 (hX.mono e1) ?_
  intro dy m2 y G2 H2 h2 e2 W2 r2
  exact hr G2 m2 F H2 x y dx dy Q Qd W2 (r1.mono e2) r2 h2 fun d m' v G' H' q e => hQ d m' v G' H' q ((e1.trans e2).trans e)
theorem LiftR.or {K : Fg} {r r' : R2} {w w' : WR} (h : LiftR K r w) (h' : LiftR K r' w') : LiftR K (fun x y H Q => r x y H Q ∨ r' x y H Q) (fun x y m Q => w x y m Q ∨ w' x y m Q) := by
  intro G m F H x y dx dy Q Qd hW rx ry h0 hQ
  rcases h0 with h0 | h0
  · exact Or.inl (h G m F H x y dx dy Q Qd hW rx ry h0 hQ)
  · exact Or.inr (h' G m F H x y dx dy Q Qd hW rx ry h0 hQ)
theorem LiftR.imp {K : Fg} {r : R2} {w w' : WR} (h : LiftR K r w) (hi : ∀ x y m Q, w' x y m Q → w x y m Q) : LiftR K r w' := fun G m F H x y dx dy Q Qd hW rx ry h0 hQ => h G m F H x y dx dy Q Qd hW rx ry (hi dx dy m Qd h0) hQ

theorem FitE.here {K : Fg} {G F H : Hp} {m : Mem} {Q : VK} {Qd : D → Mem → Prop} (hQ : FitE K G F Q Qd) (hW : Wd K G m F H) {d : D} {v : V} (q : Qd d m) (r : Rp K G v d) : Q v H := hQ d m v G H q (Ex.refl G) hW r
/-- a new list, a new tuple -/
theorem FitE.lst {K : Fg} {G F H : Hp} {m : Mem} {Q : VK} {Qd : D → Mem → Prop} (hQ : FitE K G F Q Qd) (hW : Wd K G m F H) {ds : List D} {xs : List V} (q : Qd (.lst ds) m) (r : RpA K G xs ds) : ∀ p, H p = none → Q (.ref p) (upd H p (.lst xs)) := fun p hp => by
  obtain ⟨e, W'⟩ := hW.new hp (.lst xs)
  exact hQ _ m _ _ _ q e W' (.lst upd_same (r.mono e))
theorem FitE.tup {K : Fg} {G F H : Hp} {m : Mem} {Q : VK} {Qd : D → Mem → Prop} (hQ : FitE K G F Q Qd) (hW : Wd K G m F H) {ds : List D} {xs : List V} (q : Qd (.tup ds) m) (r : RpA K G xs ds) : ∀ p, H p = none → Q (.ref p) (upd H p (.tup xs)) := fun p hp => by
  obtain ⟨e, W'⟩ := hW.new hp (.tup xs)
  exact hQ _ m _ _ _ q e W' (.tup (SqT.of upd_same) (r.mono e))
theorem Rp.seqT {K : Fg} {G H : Hp} {a : Addr} {ds : List D} (e : Ex G H) (r : Rp K G (.ref a) (.tup ds)) : ∃ xs, SqT K H a xs ∧ RpA K G xs ds := by
  cases r with
  | tup h q => exact ⟨_, Evl.ex_t e h, q⟩

/-! ### + - * // % ** -/
def dAdd : WR := fun x y m Q => match x, y with
  | .int i, .int j => Q (.int (i + j)) m
  | .str a, .str b => a.length + b.length ≤ sizeLine ∧ Q (.str (a ++ b)) m
  | .lst a, .lst b => a.length + b.length ≤ sizeLine ∧ Q (.lst (a ++ b)) m
  | .tup a, .tup b => a.length + b.length ≤ sizeLine ∧ Q (.tup (a ++ b)) m
  | _, _ => False
def rAdd (K : Fg) : R2 := fun x y H Q => (rI0 (fun i j => .int (i + j)) x y H Q ∨ (∃ i j, x = .str i ∧ y = .str j ∧ i.length + j.length ≤ sizeLine ∧ Q (.str (i ++ j)) H)) ∨ (rCat x y H Q ∨ rCatA K x y H Q)
theorem op_addU {X : Cx} : OpR X (binaryOp .Add) (rAdd X.K) := (op_add.or op_add_str).or (op_cat.or op_catA)
theorem lift_add {K : Fg} : LiftR K (rAdd K) dAdd := by
  intro G m F H x y dx dy Q Qd hW rx ry h hQ
  cases rx <;> cases ry <;> first | exact (show False from h).elim | skip
  case int.int i j => exact Or.inl (Or.inl ⟨i, j, rfl, rfl, hQ.here hW h (.int _)⟩)
  case str.str a b => exact Or.inl (Or.inr ⟨a, b, rfl, rfl, h.1, hQ.here hW h.2 (.str _)⟩)
  case lst.lst a xs ds h1 r1 b ys es h2 r2 =>
    refine Or.inr (Or.inl ⟨a, b, xs, ys, rfl, rfl, hW.ex _ _ h1, hW.ex _ _ h2, by rw [r1.len, r2.len]; exact h.1, ?_⟩)
    exact hQ.lst hW h.2 (r1.app r2)
  case tup.tup a xs ds h1 r1 b ys es h2 r2 =>
    refine Or.inr (Or.inr ⟨a, b, xs, ys, rfl, rfl, Evl.ex_t hW.ex h1, Evl.ex_t hW.ex h2, by rw [r1.len, r2.len]; exact h.1, fun e => ?_, fun _ e => ?_, fun _ _ => hQ.tup hW h.2 (r1.app r2)⟩)
    · subst e
      cases r1
      exact hQ.here hW h.2 (.tup h2 r2)
    · subst e
      cases r2
      have q := h.2
      rw [List.append_nil] at q
      exact hQ.here hW q (.tup h1 r1)
def dSub : WR := fun x y m Q => match x, y with
  | .int i, .int j => Q (.int (i - j)) m
  | _, _ => False
theorem lift_sub {K : Fg} : LiftR K (rI0 fun i j => .int (i - j)) dSub := by
  intro G m F H x y dx dy Q Qd hW rx ry h hQ
  cases rx <;> cases ry <;> first | exact (show False from h).elim | skip
  case int.int i j => exact ⟨i, j, rfl, rfl, hQ.here hW h (.int _)⟩
def dMul : WR := fun x y m Q => match x, y with
  | .int i, .int j => (CMul i j ∨ CMulW i j) ∧ Q (.int (i * j)) m
  | .lst a, .int k => (-(2 ^ 63) ≤ k ∧ k < 2 ^ 63 ∧ a.length * k.toNat ≤ sizeLine) ∧ Q (.lst (List.replicate k.toNat a).flatten) m
  | _, _ => False
def rMul : R2 := fun x y H Q => (rI CMul (fun i j => .int (i * j)) x y H Q ∨ rI CMulW (fun i j => .int (i * j)) x y H Q) ∨ rRep x y H Q
theorem op_mulU {X : Cx} : OpR X (binaryOp .Mult) rMul := (op_mul.or op_mulW).or op_rep
theorem lift_mul {K : Fg} : LiftR K rMul dMul := by
  intro G m F H x y dx dy Q Qd hW rx ry h hQ
  cases rx <;> cases ry <;> first | exact (show False from h).elim | skip
  case int.int i j =>
    rcases h.1 with c | c
    · exact Or.inl (Or.inl ⟨i, j, rfl, rfl, c, hQ.here hW h.2 (.int _)⟩)
    · exact Or.inl (Or.inr ⟨i, j, rfl, rfl, c, hQ.here hW h.2 (.int _)⟩)
  case lst.int a xs ds h1 r1 k =>
    exact Or.inr ⟨a, k, xs, rfl, rfl, hW.ex _ _ h1, h.1.1, h.1.2.1, by rw [r1.len]; exact h.1.2.2, hQ.lst hW h.2 (r1.rep _)⟩
def dDiv : WR := fun x y m Q => match x, y with
  | .int i, .int j => CDivW i j ∧ Q (.int (i / j)) m
  | _, _ => False
theorem lift_div {K : Fg} : LiftR K (rI CDivW fun i j => .int (i / j)) dDiv := by
  intro G m F H x y dx dy Q Qd hW rx ry h hQ
  cases rx <;> cases ry <;> first | exact (show False from h).elim | skip
  case int.int i j => exact ⟨i, j, rfl, rfl, h.1, hQ.here hW h.2 (.int _)⟩
def dMod : WR := fun x y m Q => match x, y with
  | .int i, .int j => 0 < j ∧ Q (.int (i % j)) m
  | _, _ => False
theorem lift_mod {K : Fg} : LiftR K (rI (fun _ j => 0 < j) fun i j => .int (i % j)) dMod := by
  intro G m F H x y dx dy Q Qd hW rx ry h hQ
  cases rx <;> cases ry <;> first | exact (show False from h).elim | skip
  case int.int i j => exact ⟨i, j, rfl, rfl, h.1, hQ.here hW h.2 (.int _)⟩
def dPow : WR := fun x y m Q => match x, y with
  | .int i, .int j => CPow i j ∧ Q (.int (i ^ j.toNat)) m
  | _, _ => False
theorem lift_pow {K : Fg} : LiftR K (rI CPow fun i j => .int (i ^ j.toNat)) dPow := by
  intro G m F H x y dx dy Q Qd hW rx ry h hQ
  cases rx <;> cases ry <;> first | exact (show False from h).elim | skip
  case int.int i j => exact ⟨i, j, rfl, rfl, h.1, hQ.here hW h.2 (.int _)⟩

/-! ### comparisons -/
mutual
/-- data as the library's plain data; what is no list, tuple or flat thing becomes a dict (which no rule takes) -/
def py : D → PyData
  | .non => .none
  | .bl b => .bool b
  | .int i => .int i
  | .str x => .str x
  | .lst ds => .list (pyA ds)
  | .tup ds => .tuple (pyA ds)
  | .scr ns => .list (ns.map .int)
  | .ty _ => .dict [] | .dct _ _ => .dict [] | .box _ => .dict [] | .obj _ _ _ => .dict []
def pyA : List D → List PyData
  | [] => []
  | d :: ds => py d :: pyA ds
end
theorem dp_ints {K : Fg} {H : Hp} : ∀ ns : List Int, DpAll K H (ns.map V.int) (ns.map PyData.int)
  | [] => .nil
  | n :: ns => .cons (.int n) (dp_ints ns)
mutual
theorem dp_of {K : Fg} {G H : Hp} (e : Ex G H) : ∀ (d : D) {v : V}, Rp K G v d → (py d).canLay0 = true → Dp K H v (py d)
  | .non, _, r, _ => by cases r; exact .non
  | .bl b, _, r, _ => by cases r; exact .bl b
  | .int i, _, r, _ => by cases r; exact .int i
  | .str x, _, r, _ => by cases r; exact .str x
  | .lst ds, _, r, c => by
    cases r with
    | lst h q => exact .lst (SqL.of (e _ _ h)) (dpa_of e ds q (by simpa [py, PyData.canLay0] using c))
  | .tup ds, _, r, c => by
    cases r with
    | tup h q => exact .tup (Evl.ex_t e h) (dpa_of e ds q (by simpa [py, PyData.canLay0] using c))
  | .scr ns, _, r, c => by
    cases r with
    | scr h => exact .lst (Evl.ex_l e h) (dp_ints ns)
  | .ty _, _, _, c => by simp [py, PyData.canLay0] at c
  | .dct _ _, _, _, c => by simp [py, PyData.canLay0] at c
  | .box _, _, _, c => by simp [py, PyData.canLay0] at c
  | .obj _ _ _, _, _, c => by simp [py, PyData.canLay0] at c
theorem dpa_of {K : Fg} {G H : Hp} (e : Ex G H) : ∀ (ds : List D) {vs : List V}, RpA K G vs ds → PyData.canLayAll0 (pyA ds) = true → DpAll K H vs (pyA ds)
  | [], _, r, _ => by cases r; exact .nil
  | d :: ds, _, r, c => by
    cases r with
    | cons r t =>
      have c' : (py d).canLay0 = true ∧ PyData.canLayAll0 (pyA ds) = true := by simpa [pyA, PyData.canLayAll0] using c
      exact .cons (dp_of e d r c'.1) (dpa_of e ds t c'.2)
end
def dEqB (b : Bool) : WR := fun x y m Q => match x, y with
  | .int i, .int j => Q (.bl (decide (i = j) ^^ b)) m
  | .str i, .str j => Q (.bl (decide (i = j) ^^ b)) m
  | .bl i, .bl j => Q (.bl (decide (i = j) ^^ b)) m
  | x, y => SeqAt.shaped (py x) = true ∧ SeqAt.shaped (py y) = true ∧ Q (.bl (PyData.eqv (py x) (py y) ^^ b)) m
abbrev dEq : WR := dEqB false
abbrev dNe : WR := dEqB true
def rEqU (K : Fg) : R2 := fun x y H Q => rEq x y H Q ∨ rEqD K x y H Q
def rNeU (K : Fg) : R2 := fun x y H Q => rNe x y H Q ∨ rNeD K x y H Q
theorem op_eqU {X : Cx} (hu : X.A.units + 64 < cLine) : OpR X (compareOp .Eq) (rEqU X.K) := op_eq.or (op_eqD hu)
theorem op_neU {X : Cx} (hu : X.A.units + 64 < cLine) : OpR X (compareOp .NotEq) (rNeU X.K) := op_ne.or (op_neD hu)
theorem shaped_lay {d : PyData} (h : SeqAt.shaped d = true) : d.canLay0 = true := SeqAt.canLay_of_shaped h
theorem eq_gen {K : Fg} {G H : Hp} {x y : V} {dx dy : D} (e : Ex G H) (rx : Rp K G x dx) (ry : Rp K G y dy) (h1 : SeqAt.shaped (py dx) = true) (h2 : SeqAt.shaped (py dy) = true) :
    Dp K H x (py dx) ∧ Dp K H y (py dy) := ⟨dp_of e dx rx (shaped_lay h1), dp_of e dy ry (shaped_lay h2)⟩
theorem lift_eq {K : Fg} : LiftR K (rEqU K) dEq := by
  intro G m F H x y dx dy Q Qd hW rx ry h hQ
  unfold dEq dEqB at h
  split at h
  · cases rx; cases ry
    refine Or.inl ⟨rfl, ?_⟩
    rename_i i j
    have e : decide (V.int i = V.int j) = (decide (i = j) ^^ false) := by simp
    rw [e]; exact hQ.here hW h (.bl _)
  · cases rx; cases ry
    refine Or.inl ⟨rfl, ?_⟩
    rename_i i j
    have e : decide (V.str i = V.str j) = (decide (i = j) ^^ false) := by simp
    rw [e]; exact hQ.here hW h (.bl _)
  · cases rx; cases ry
    refine Or.inl ⟨rfl, ?_⟩
    rename_i i j
    have e : decide (V.bl i = V.bl j) = (decide (i = j) ^^ false) := by simp
    rw [e]; exact hQ.here hW h (.bl _)
  · obtain ⟨h1, h2, h3⟩ := h
    obtain ⟨p1, p2⟩ := eq_gen hW.ex rx ry h1 h2
    rw [Bool.xor_false] at h3
    exact Or.inr ⟨_, _, p1, p2, h1, h2, hQ.here hW h3 (.bl _)⟩
theorem lift_ne {K : Fg} : LiftR K (rNeU K) dNe := by
  intro G m F H x y dx dy Q Qd hW rx ry h hQ
  unfold dNe dEqB at h
  split at h
  · cases rx; cases ry
    refine Or.inl ⟨rfl, ?_⟩
    rename_i i j
    have e : (!decide (V.int i = V.int j)) = (decide (i = j) ^^ true) := by simp
    rw [e]; exact hQ.here hW h (.bl _)
  · cases rx; cases ry
    refine Or.inl ⟨rfl, ?_⟩
    rename_i i j
    have e : (!decide (V.str i = V.str j)) = (decide (i = j) ^^ true) := by simp
    rw [e]; exact hQ.here hW h (.bl _)
  · cases rx; cases ry
    refine Or.inl ⟨rfl, ?_⟩
    rename_i i j
    have e : (!decide (V.bl i = V.bl j)) = (decide (i = j) ^^ true) := by simp
    rw [e]; exact hQ.here hW h (.bl _)
  · obtain ⟨h1, h2, h3⟩ := h
    obtain ⟨p1, p2⟩ := eq_gen hW.ex rx ry h1 h2
    rw [Bool.xor_true] at h3
    exact Or.inr ⟨_, _, p1, p2, h1, h2, hQ.here hW h3 (.bl _)⟩
def dCmp (fi : Int → Int → Bool) (fs : List Nat → List Nat → Bool) : WR := fun x y m Q => match x, y with
  | .int i, .int j => Q (.bl (fi i j)) m
  | .str a, .str b => Q (.bl (fs a.cps.toList b.cps.toList)) m
  | _, _ => False
def rCmp (fi : Int → Int → Bool) (fs : List Nat → List Nat → Bool) : R2 := fun x y H Q => rI0 (fun i j => .bl (fi i j)) x y H Q ∨ (∃ i j, x = .str i ∧ y = .str j ∧ Q (.bl (fs i.cps.toList j.cps.toList)) H)
theorem lift_cmp {K : Fg} {fi : Int → Int → Bool} {fs : List Nat → List Nat → Bool} : LiftR K (rCmp fi fs) (dCmp fi fs) := by
  intro G m F H x y dx dy Q Qd hW rx ry h hQ
  cases rx <;> cases ry <;> first | exact (show False from h).elim | skip
  case int.int i j => exact Or.inl ⟨i, j, rfl, rfl, hQ.here hW h (.bl _)⟩
  case str.str i j => exact Or.inr ⟨i, j, rfl, rfl, hQ.here hW h (.bl _)⟩
abbrev dLt : WR := dCmp (fun i j => decide (i < j)) (fun a b => decide (a < b))
abbrev dLe : WR := dCmp (fun i j => decide (i ≤ j)) (fun a b => !decide (b < a))
abbrev dGt : WR := dCmp (fun i j => decide (j < i)) (fun a b => decide (b < a))
abbrev dGe : WR := dCmp (fun i j => decide (j ≤ i)) (fun a b => !decide (a < b))
theorem op_ltU {X : Cx} : OpR X (compareOp .Lt) (rCmp (fun i j => decide (i < j)) (fun a b => decide (a < b))) := op_lt.or op_lt_str
theorem op_leU {X : Cx} : OpR X (compareOp .LtE) (rCmp (fun i j => decide (i ≤ j)) (fun a b => !decide (b < a))) := op_le.or op_le_str
theorem op_gtU {X : Cx} : OpR X (compareOp .Gt) (rCmp (fun i j => decide (j < i)) (fun a b => decide (b < a))) := op_gt.or op_gt_str
theorem op_geU {X : Cx} : OpR X (compareOp .GtE) (rCmp (fun i j => decide (j ≤ i)) (fun a b => !decide (a < b))) := op_ge.or op_ge_str
/-- flat data, their equality -/
def flatD : D → Bool
  | .non => true | .bl _ => true | .int _ => true | .str _ => true | _ => false
def eqD : D → D → Bool
  | .non, .non => true
  | .bl a, .bl b => a == b
  | .bl a, .int b => (if a then 1 else 0) == b
  | .int a, .bl b => a == (if b then 1 else 0)
  | .int a, .int b => a == b
  | .str a, .str b => a == b
  | _, _ => false
def inD (x : D) (ds : List D) : Bool := ds.any fun y => eqD y x
theorem flat_of {K : Fg} {G : Hp} {v : V} {d : D} (r : Rp K G v d) (h : flatD d = true) : flatV v = true := by
  cases r <;> first | rfl | cases h
theorem flats_of {K : Fg} {G : Hp} : ∀ {vs : List V} {ds : List D}, RpA K G vs ds → ds.all flatD = true → vs.all flatV = true
  | _, _, .nil, _ => rfl
  | _, _, .cons r t, h => by
    rw [List.all_cons, Bool.and_eq_true] at h
    rw [List.all_cons, flat_of r h.1, flats_of t h.2]
    rfl
theorem eqv_of {K : Fg} {G : Hp} {v w : V} {d e : D} (r : Rp K G v d) (q : Rp K G w e) (h : flatD d = true) (h' : flatD e = true) : eqV v w = eqD d e := by
  cases r <;> first | (cases h; done) | (cases q <;> first | (cases h'; done) | rfl)
theorem inv_of {K : Fg} {G : Hp} {x : V} {dx : D} (rx : Rp K G x dx) (hx : flatD dx = true) : ∀ {vs : List V} {ds : List D}, RpA K G vs ds → ds.all flatD = true → inV x vs = inD dx ds
  | _, _, .nil, _ => rfl
  | _, _, .cons r t, h => by
    rw [List.all_cons, Bool.and_eq_true] at h
    have ih := inv_of rx hx t h.2
    unfold inV inD at ih ⊢
    rw [List.any_cons, List.any_cons, eqv_of r rx h.1 hx, ih]
def dInB (neg : Bool) : WR := fun x y m Q => match x, y with
  | .str a, .str z => (∃ c, a = ⟨#[c]⟩ ∧ Q (.bl (decide (c ∈ z.cps.toList) ^^ neg)) m)
  | x, .lst ds => flatD x = true ∧ ds.all flatD = true ∧ Q (.bl (inD x ds ^^ neg)) m
  | x, .tup ds => flatD x = true ∧ ds.all flatD = true ∧ Q (.bl (inD x ds ^^ neg)) m
  | _, _ => False
abbrev dIn : WR := dInB false
abbrev dNotIn : WR := dInB true
def rInU (K : Fg) (neg : Bool) : R2 := fun x y H Q => (∃ (c : Nat) (z : Str), x = .str ⟨#[c]⟩ ∧ y = .str z ∧ Q (.bl (decide (c ∈ z.cps.toList) ^^ neg)) H) ∨ rIn K neg x y H Q
theorem op_inU {X : Cx} : OpR X (compareOp .In) (rInU X.K false) := by
  have h := (op_in_sign (X := X)).or op_in_seq
  intro pins s σ H x y v u Q I rx ry q
  refine h pins s σ H x y v u Q I rx ry ?_
  rcases q with ⟨c, z, e1, e2, q⟩ | q
  · rw [Bool.xor_false] at q; exact Or.inl ⟨c, z, e1, e2, q⟩
  · exact Or.inr q
theorem op_notInU {X : Cx} : OpR X (compareOp .NotIn) (rInU X.K true) := by
  have h := (op_notIn_sign (X := X)).or op_notIn_seq
  intro pins s σ H x y v u Q I rx ry q
  refine h pins s σ H x y v u Q I rx ry ?_
  rcases q with ⟨c, z, e1, e2, q⟩ | q
  · rw [Bool.xor_true] at q; exact Or.inl ⟨c, z, e1, e2, q⟩
  · exact Or.inr q
theorem lift_in {K : Fg} {neg : Bool} : LiftR K (rInU K neg) (dInB neg) := by
  intro G m F H x y dx dy Q Qd hW rx ry h hQ
  have neg_if : ∀ b : Bool, (if neg = true then !b else b) = (b ^^ neg) := by intro b; cases neg <;> cases b <;> rfl
  unfold dInB at h
  split at h
  · cases rx; cases ry
    obtain ⟨c, rfl, q⟩ := h
    exact Or.inl ⟨c, _, rfl, rfl, hQ.here hW q (.bl _)⟩
  · obtain ⟨h1, h2, q⟩ := h
    cases ry with
    | lst hy r =>
      refine Or.inr ⟨_, _, rfl, Or.inl (SqL.of (hW.ex _ _ hy)), flat_of rx h1, flats_of r h2, ?_⟩
      rw [neg_if, inv_of rx h1 r h2]
      exact hQ.here hW q (.bl _)
  · obtain ⟨h1, h2, q⟩ := h
    cases ry with
    | tup hy r =>
      refine Or.inr ⟨_, _, rfl, Or.inr (Evl.ex_t hW.ex hy), flat_of rx h1, flats_of r h2, ?_⟩
      rw [neg_if, inv_of rx h1 r h2]
      exact hQ.here hW q (.bl _)
  · cases h
def isNonD : D → Bool
  | .non => true
  | _ => false
/-- x is None, x is not None -/
def dIsB (neg : Bool) : WR := fun x y m Q => match y with
  | .non => Q (.bl (isNonD x ^^ neg)) m
  | _ => False
theorem non_of {K : Fg} {G : Hp} {v : V} {d : D} (r : Rp K G v d) : decide (v = V.non) = isNonD d := by
  cases r <;> simp [isNonD]
theorem lift_is {K : Fg} : LiftR K (fun x y H Q => y = .non ∧ Q (.bl (decide (x = .non))) H) (dIsB false) := by
  intro G m F H x y dx dy Q Qd hW rx ry h hQ
  cases ry <;> first | exact (show False from h).elim | skip
  refine ⟨rfl, ?_⟩
  rw [non_of rx]
  have h : Qd (.bl (isNonD dx ^^ false)) m := h
  rw [Bool.xor_false] at h
  exact hQ.here hW h (.bl _)
theorem lift_isnot {K : Fg} : LiftR K (fun x y H Q => y = .non ∧ Q (.bl (!decide (x = .non))) H) (dIsB true) := by
  intro G m F H x y dx dy Q Qd hW rx ry h hQ
  cases ry <;> first | exact (show False from h).elim | skip
  refine ⟨rfl, ?_⟩
  rw [non_of rx]
  have h : Qd (.bl (isNonD dx ^^ true)) m := h
  rw [Bool.xor_true] at h
  exact hQ.here hW h (.bl _)

section
variable {K : Fg} {W : Wx} {ι : Type} {X : ι → Cx} {pos : Pos} {a b c : Expr} {wa wb wc : WE}
theorem bin_of {op : Operator} {r : R2} {w : WR} (ho : ∀ i, OpR (X i) (binaryOp op) r) (hr : LiftR K r w) (ha : PD K W X a wa) (hb : PD K W X b wb) : PD K W X (.BinOp a op b pos) (wOp w wa wb) := by
  obtain ⟨ta, h1, h2⟩ := ha
  obtain ⟨tb, h3, h4⟩ := hb
  exact ⟨_, fun i => pe_op (ho i) (h1 i) (h3 i), lift_op hr h2 h4⟩
theorem pd_add (hK : ∀ i, (X i).K = K) (ha : PD K W X a wa) (hb : PD K W X b wb) : PD K W X (.BinOp a .Add b pos) (wOp dAdd wa wb) := bin_of (fun i => hK i ▸ op_addU) lift_add ha hb
theorem pd_sub (ha : PD K W X a wa) (hb : PD K W X b wb) : PD K W X (.BinOp a .Sub b pos) (wOp dSub wa wb) := bin_of (fun _ => op_sub) lift_sub ha hb
theorem pd_mul (ha : PD K W X a wa) (hb : PD K W X b wb) : PD K W X (.BinOp a .Mult b pos) (wOp dMul wa wb) := bin_of (fun _ => op_mulU) lift_mul ha hb
theorem pd_div (ha : PD K W X a wa) (hb : PD K W X b wb) : PD K W X (.BinOp a .FloorDiv b pos) (wOp dDiv wa wb) := bin_of (fun _ => op_fdivW) lift_div ha hb
theorem pd_mod (ha : PD K W X a wa) (hb : PD K W X b wb) : PD K W X (.BinOp a .Mod b pos) (wOp dMod wa wb) := bin_of (fun _ => op_mod) lift_mod ha hb
theorem pd_pow (ha : PD K W X a wa) (hb : PD K W X b wb) : PD K W X (.BinOp a .Pow b pos) (wOp dPow wa wb) := bin_of (fun _ => op_pow) lift_pow ha hb
/-- a comparison's operator -/
def CmpU (K : Fg) {ι : Type} (X : ι → Cx) (op : CmpOp) (w : WR) : Prop := ∃ r, (∀ i, OpR (X i) (compareOp op) r) ∧ LiftR K r w
theorem c_eq {P : Program} {wo : World} {mg : Str → Option Value} {base : Heap} {k : Nat} {N : List Str} (hX : Fam P wo K mg base k N X) : CmpU K X .Eq dEq :=
  ⟨_, fun i => hX.K i ▸ op_eqU (by have := (hX.room i).un; omega), lift_eq⟩
theorem c_ne {P : Program} {wo : World} {mg : Str → Option Value} {base : Heap} {k : Nat} {N : List Str} (hX : Fam P wo K mg base k N X) : CmpU K X .NotEq dNe :=
  ⟨_, fun i => hX.K i ▸ op_neU (by have := (hX.room i).un; omega), lift_ne⟩
theorem c_lt : CmpU K X .Lt dLt := ⟨_, fun _ => op_ltU, lift_cmp⟩
theorem c_le : CmpU K X .LtE dLe := ⟨_, fun _ => op_leU, lift_cmp⟩
theorem c_gt : CmpU K X .Gt dGt := ⟨_, fun _ => op_gtU, lift_cmp⟩
theorem c_ge : CmpU K X .GtE dGe := ⟨_, fun _ => op_geU, lift_cmp⟩
theorem c_in (hK : ∀ i, (X i).K = K) : CmpU K X .In dIn := ⟨_, fun i => hK i ▸ op_inU, lift_in⟩
theorem c_notIn (hK : ∀ i, (X i).K = K) : CmpU K X .NotIn dNotIn := ⟨_, fun i => hK i ▸ op_notInU, lift_in⟩
theorem c_is : CmpU K X .Is (dIsB false) := ⟨_, fun _ => op_isN, lift_is⟩
theorem c_isNot : CmpU K X .IsNot (dIsB true) := ⟨_, fun _ => op_notN, lift_isnot⟩
theorem pd_cmp {op : CmpOp} {w : WR} (ho : CmpU K X op w) (ha : PD K W X a wa) (hb : PD K W X b wb) (hm : behindInMarks op b = false := by first | exact nomark _ | rfl) : PD K W X (.Compare a [op] [b] pos) (wOp w wa wb) := by
  obtain ⟨r, o1, o2⟩ := ho
  obtain ⟨ta, h1, h2⟩ := ha
  obtain ⟨tb, h3, h4⟩ := hb
  exact ⟨_, fun i => pe_cmpR (o1 i) (h1 i) (h3 i) hm, lift_op o2 h2 h4⟩
def wTest (w : WE) : WT := fun ρ m Q Qx => w ρ m (fun d m' => match d with
  | .bl b => Q b m'
  | _ => False) Qx
theorem lift_test {t : TE} {w : WE} (h : LiftE K W t w) : LiftT K W (tTest t) (wTest w) := by
  intro G m F H σ ρ Q Qd Qx hW hE h0 hX hQ
  refine h G m F H σ ρ _ _ Qx hW hE h0 hX ?_
  intro d m' v G' H' q e W' r
  cases r <;> first | exact (show False from q).elim | skip
  exact ⟨_, rfl, hQ _ m' G' H' q e W'⟩
theorem lift_tB {t : TE} {w : WE} (h : LiftE K W t w) : LiftT K W (tB t) (wTest w) := by
  intro G m F H σ ρ Q Qd Qx hW hE h0 hX hQ
  refine h G m F H σ ρ _ _ Qx hW hE h0 hX ?_
  intro d m' v G' H' q e W' r
  cases r <;> first | exact (show False from q).elim | skip
  exact ⟨_, rfl, hQ _ m' G' H' q e W'⟩
theorem pt_cmp {op : CmpOp} {w : WR} (ho : CmpU K X op w) (ha : PD K W X a wa) (hb : PD K W X b wb) (hm : behindInMarks op b = false := by first | exact nomark _ | rfl) : PDT K W X (.Compare a [op] [b] pos) (wTest (wOp w wa wb)) := by
  obtain ⟨r, o1, o2⟩ := ho
  obtain ⟨ta, h1, h2⟩ := ha
  obtain ⟨tb, h3, h4⟩ := hb
  exact ⟨_, fun i => pt_cmpR (o1 i) (h1 i) (h3 i) hm, lift_test (lift_op o2 h2 h4)⟩
/-- a < b < c -/
def wChain (r r' : WR) (a b c : WE) : WE := fun ρ m Q Qx => a ρ m (fun x m1 => b ρ m1 (fun y m2 => r x y m2 fun z m3 => match z with
  | .bl k => if k = true then c ρ m3 (fun u m4 => r' y u m4 Q) Qx else Q (.bl false) m3
  | _ => False) Qx) Qx
theorem lift_chain {r r' : R2} {w w' : WR} {ta tb tc : TE} (hr : LiftR K r w) (hr' : LiftR K r' w') (ha : LiftE K W ta wa) (hb : LiftE K W tb wb) (hc : LiftE K W tc wc) : LiftE K W (tChain r r' ta tb tc) (wChain w w' wa wb wc) := by
  intro G m F H σ ρ Q Qd Qx hW hE h hX hQ
  refine ha G m F H σ ρ _ _ Qx hW hE h hX ?_
  intro dx m1 x G1 H1 h1 e1 W1 r1
  refine hb G1 m1 F H1 σ ρ _ _ Qx W1 (hE.mono e1) h1 (hX.mono e1) ?_
  intro dy m2 y G2 H2 h2 e2 W2 r2
  refine hr G2 m2 F H2 x y dx dy _ _ W2 (r1.mono e2) r2 h2 ?_
  intro dz m3 z G3 H3 h3 e3 W3 r3
  cases r3 <;> first | exact (show False from h3).elim | skip
  rename_i k
  refine ⟨k, rfl, ?_⟩
  have e12 := e1.trans e2
  cases k with
  | true =>
    refine hc G3 m3 F H3 σ ρ _ _ Qx W3 (hE.mono (e12.trans e3)) h3 (hX.mono (e12.trans e3)) ?_
    intro du m4 u G4 H4 h4 e4 W4 r4
    exact hr' G4 m4 F H4 y u dy du Q Qd W4 (r2.mono (e3.trans e4)) r4 h4 fun d m' v G' H' q e => hQ d m' v G' H' q (((e12.trans e3).trans e4).trans e)
  | false =>
    have h3 : Qd (.bl false) m3 := h3
    exact hQ _ m3 _ G3 H3 h3 (e12.trans e3) W3 (.bl false)
theorem pd_chain {op op' : CmpOp} {w w' : WR} (ho : CmpU K X op w) (ho' : CmpU K X op' w') (ha : PD K W X a wa) (hb : PD K W X b wb) (hc : PD K W X c wc) (hm : lastMarks [op, op'] [b, c] = false := by with_unfolding_all rfl) : PD K W X (.Compare a [op, op'] [b, c] pos) (wChain w w' wa wb wc) := by
  obtain ⟨r, o1, o2⟩ := ho
  obtain ⟨r', o3, o4⟩ := ho'
  obtain ⟨ta, h1, h2⟩ := ha
  obtain ⟨tb, h3, h4⟩ := hb
  obtain ⟨tc, h5, h6⟩ := hc
  exact ⟨_, fun i => pe_chain (o1 i) (o3 i) (h1 i) (h3 i) (h5 i) hm, lift_chain o2 o4 h2 h4 h6⟩
theorem pt_chainD {op op' : CmpOp} {w w' : WR} (ho : CmpU K X op w) (ho' : CmpU K X op' w') (ha : PD K W X a wa) (hb : PD K W X b wb) (hc : PD K W X c wc) (hm : lastMarks [op, op'] [b, c] = false := by with_unfolding_all rfl) : PDT K W X (.Compare a [op, op'] [b, c] pos) (wTest (wChain w w' wa wb wc)) := by
  obtain ⟨r, o1, o2⟩ := ho
  obtain ⟨r', o3, o4⟩ := ho'
  obtain ⟨ta, h1, h2⟩ := ha
  obtain ⟨tb, h3, h4⟩ := hb
  obtain ⟨tc, h5, h6⟩ := hc
  exact ⟨_, fun i => pt_chain (o1 i) (o3 i) (h1 i) (h3 i) (h5 i) hm, lift_test (lift_chain o2 o4 h2 h4 h6)⟩
end
end DL
namespace DL
open PySem L2
open Evl (Ex)
theorem Wd.unframe {K : Fg} {G : Hp} {m : Mem} {F H : Hp} {p : Addr} {o : HO} (W : Wd K G m (upd F p o) H) (hF : F p = none) : Wd K G m F H := by
  refine ⟨W.ex, fun a ds e => ?_, fun a u e => ?_, fun a u e => ?_⟩
  · obtain ⟨h1, h2, h3⟩ := W.own a ds e
    refine ⟨h1, ?_, h3⟩
    by_cases q : a = p
    · subst q; exact hF
    · rw [upd_ne q] at h2; exact h2
  · have q : a ≠ p := fun z => by subst z; rw [hF] at e; cases e
    exact W.fr a u (by rw [upd_ne q]; exact e)
  · have q : a ≠ p := fun z => by subst z; rw [hF] at e; cases e
    exact W.frG a u (by rw [upd_ne q]; exact e)
theorem FitX.frame {K : Fg} {W : Wx} {G F : Hp} {Qx : XQ} {p : Addr} {o : HO} (f : FitX K W G F Qx) (hF : F p = none) : FitX K W G (upd F p o) Qx :=
  fun x m' d σ' G' H' q e W' r => f x m' d σ' G' H' q e (W'.unframe hF) r
section
variable {K : Fg} {W : Wx} {ι : Type} {X : ι → Cx} {pos : Pos} {a b c e : Expr} {es : List Expr} {wa wb wc w : WE}
/-! ### and, or, not, if-else -/
def wAnd (a b : WE) : WE := fun ρ m Q Qx => a ρ m (fun x m1 => match x with
  | .bl c => if c = true then b ρ m1 Q Qx else Q (.bl false) m1
  | _ => False) Qx
def wOr (a b : WE) : WE := fun ρ m Q Qx => a ρ m (fun x m1 => match x with
  | .bl c => if c = true then Q (.bl true) m1 else b ρ m1 Q Qx
  | _ => False) Qx
def wNot (a : WE) : WE := fun ρ m Q Qx => a ρ m (fun x m1 => match x with
  | .bl c => Q (.bl (!c)) m1
  | _ => False) Qx
theorem pd_and {rest : List Expr} (ha : PD K W X a wa) (hb : PD K W X (.BoolOp .And (b :: rest) pos) wb) : PD K W X (.BoolOp .And (a :: b :: rest) pos) (wAnd wa wb) := by
  obtain ⟨ta, h1, h2⟩ := ha
  obtain ⟨tb, h3, h4⟩ := hb
  refine ⟨_, fun i => pe_and (h1 i) (h3 i), ?_⟩
  intro G m F H σ ρ Q Qd Qx hW hE h hX hQ
  refine h2 G m F H σ ρ _ _ Qx hW hE h hX ?_
  intro dx m1 x G1 H1 q e1 W1 r1
  cases r1 <;> first | exact (show False from q).elim | skip
  rename_i k
  refine ⟨k, rfl, ?_⟩
  cases k with
  | true => exact h4 G1 m1 F H1 σ ρ Q Qd Qx W1 (hE.mono e1) q (hX.mono e1) fun d m' v G' H' z e => hQ d m' v G' H' z (e1.trans e)
  | false =>
    have q : Qd (.bl false) m1 := q
    exact hQ _ m1 _ G1 H1 q e1 W1 (.bl false)
theorem pd_or {rest : List Expr} (ha : PD K W X a wa) (hb : PD K W X (.BoolOp .Or (b :: rest) pos) wb) : PD K W X (.BoolOp .Or (a :: b :: rest) pos) (wOr wa wb) := by
  obtain ⟨ta, h1, h2⟩ := ha
  obtain ⟨tb, h3, h4⟩ := hb
  refine ⟨_, fun i => pe_or (h1 i) (h3 i), ?_⟩
  intro G m F H σ ρ Q Qd Qx hW hE h hX hQ
  refine h2 G m F H σ ρ _ _ Qx hW hE h hX ?_
  intro dx m1 x G1 H1 q e1 W1 r1
  cases r1 <;> first | exact (show False from q).elim | skip
  rename_i k
  refine ⟨k, rfl, ?_⟩
  cases k with
  | false => exact h4 G1 m1 F H1 σ ρ Q Qd Qx W1 (hE.mono e1) q (hX.mono e1) fun d m' v G' H' z e => hQ d m' v G' H' z (e1.trans e)
  | true =>
    have q : Qd (.bl true) m1 := q
    exact hQ _ m1 _ G1 H1 q e1 W1 (.bl true)
theorem pd_one {op : BoolOp} (ha : PD K W X a wa) : PD K W X (.BoolOp op [a] pos) wa := by
  obtain ⟨ta, h1, h2⟩ := ha
  exact ⟨ta, fun i => pe_one (h1 i), h2⟩
theorem pd_not (ha : PD K W X a wa) : PD K W X (.UnaryOp .Not a pos) (wNot wa) := by
  obtain ⟨ta, h1, h2⟩ := ha
  refine ⟨_, fun i => pe_not (h1 i), ?_⟩
  intro G m F H σ ρ Q Qd Qx hW hE h hX hQ
  refine h2 G m F H σ ρ _ _ Qx hW hE h hX ?_
  intro dx m1 x G1 H1 q e1 W1 r1
  cases r1 <;> first | exact (show False from q).elim | skip
  exact ⟨_, rfl, hQ _ m1 _ G1 H1 q e1 W1 (.bl _)⟩
/-! tests -/
def tvAnd (a b : WT) : WT := fun ρ m Q Qx => a ρ m (fun c m1 => if c = true then b ρ m1 Q Qx else Q false m1) Qx
def tvOr (a b : WT) : WT := fun ρ m Q Qx => a ρ m (fun c m1 => if c = true then Q true m1 else b ρ m1 Q Qx) Qx
def tvNot (a : WT) : WT := fun ρ m Q Qx => a ρ m (fun c m1 => Q (!c) m1) Qx
variable {ua ub : WT}
theorem pt_val (ha : PD K W X a wa) (he : ∀ i whole, isTrue a (X i).env whole = (do let v ← whole; standAt a.pos; holding [v] (truthy v)) := by intro _ _; rfl) : PDT K W X a (wTest wa) := by
  obtain ⟨ta, h1, h2⟩ := ha
  exact ⟨_, fun i => L2.pt_val (h1 i) (he i), lift_tB h2⟩
theorem pw_and1 (ha : PDT K W X a ua) : PDW K W X (.BoolOp .And [a] pos) ua := by
  obtain ⟨ta, h1, h2⟩ := ha
  exact ⟨_, fun i => L2.pw_and1 (h1 i), h2⟩
theorem pw_or1 (ha : PDT K W X a ua) : PDW K W X (.BoolOp .Or [a] pos) ua := by
  obtain ⟨ta, h1, h2⟩ := ha
  exact ⟨_, fun i => L2.pw_or1 (h1 i), h2⟩
theorem pw_and {rest : List Expr} (ha : PDT K W X a ua) (hb : PDW K W X (.BoolOp .And (b :: rest) pos) ub) : PDW K W X (.BoolOp .And (a :: b :: rest) pos) (tvAnd ua ub) := by
  obtain ⟨ta, h1, h2⟩ := ha
  obtain ⟨tb, h3, h4⟩ := hb
  refine ⟨_, fun i => L2.pw_and (h1 i) (h3 i), ?_⟩
  intro G m F H σ ρ Q Qd Qx hW hE h hX hQ
  refine h2 G m F H σ ρ _ _ Qx hW hE h hX ?_
  intro k m1 G1 H1 q e1 W1
  cases k with
  | true => exact h4 G1 m1 F H1 σ ρ Q Qd Qx W1 (hE.mono e1) q (hX.mono e1) fun d m' G' H' z e => hQ d m' G' H' z (e1.trans e)
  | false => exact hQ false m1 G1 H1 q e1 W1
theorem pw_or {rest : List Expr} (ha : PDT K W X a ua) (hb : PDW K W X (.BoolOp .Or (b :: rest) pos) ub) : PDW K W X (.BoolOp .Or (a :: b :: rest) pos) (tvOr ua ub) := by
  obtain ⟨ta, h1, h2⟩ := ha
  obtain ⟨tb, h3, h4⟩ := hb
  refine ⟨_, fun i => L2.pw_or (h1 i) (h3 i), ?_⟩
  intro G m F H σ ρ Q Qd Qx hW hE h hX hQ
  refine h2 G m F H σ ρ _ _ Qx hW hE h hX ?_
  intro k m1 G1 H1 q e1 W1
  cases k with
  | false => exact h4 G1 m1 F H1 σ ρ Q Qd Qx W1 (hE.mono e1) q (hX.mono e1) fun d m' G' H' z e => hQ d m' G' H' z (e1.trans e)
  | true => exact hQ true m1 G1 H1 q e1 W1
theorem pw_pt (h : PDW K W X a ua) : PDT K W X a ua := by
  obtain ⟨t, h1, h2⟩ := h
  exact ⟨t, fun i => (h1 i).pt, h2⟩
theorem pt_not (ha : PDT K W X a ua) : PDT K W X (.UnaryOp .Not a pos) (tvNot ua) := by
  obtain ⟨ta, h1, h2⟩ := ha
  refine ⟨_, fun i => L2.pt_not (h1 i), ?_⟩
  intro G m F H σ ρ Q Qd Qx hW hE h hX hQ
  exact h2 G m F H σ ρ _ _ Qx hW hE h hX fun k m1 G1 H1 q e1 W1 => hQ _ m1 G1 H1 q e1 W1
def wIf (t : WT) (a b : WE) : WE := fun ρ m Q Qx => t ρ m (fun c m1 => if c = true then a ρ m1 Q Qx else b ρ m1 Q Qx) Qx
theorem pd_if (hc : PDT K W X c ua) (ha : PD K W X a wa) (hb : PD K W X b wb) : PD K W X (.IfExp c a b pos) (wIf ua wa wb) := by
  obtain ⟨tc, h5, h6⟩ := hc
  obtain ⟨ta, h1, h2⟩ := ha
  obtain ⟨tb, h3, h4⟩ := hb
  refine ⟨_, fun i => pe_ifExp (h5 i) (h1 i) (h3 i), ?_⟩
  intro G m F H σ ρ Q Qd Qx hW hE h hX hQ
  refine h6 G m F H σ ρ _ _ Qx hW hE h hX ?_
  intro k m1 G1 H1 q e1 W1
  cases k with
  | true => exact h2 G1 m1 F H1 σ ρ Q Qd Qx W1 (hE.mono e1) q (hX.mono e1) fun d m' v G' H' z e => hQ d m' v G' H' z (e1.trans e)
  | false => exact h4 G1 m1 F H1 σ ρ Q Qd Qx W1 (hE.mono e1) q (hX.mono e1) fun d m' v G' H' z e => hQ d m' v G' H' z (e1.trans e)

/-! ### arguments, displays -/
def wNil : WA := fun _ m Q _ => Q [] m
def wCons (a : WE) (r : WA) : WA := fun ρ m Q Qx => a ρ m (fun x m1 => r ρ m1 (fun xs m2 => Q (x :: xs) m2) Qx) Qx
variable {wr : WA}
theorem pa_nil : PDA K W X [] wNil := ⟨_, fun _ => L2.pa_nil, fun G m F H σ ρ Q Qd Qx hW hE h hX hQ => hQ [] m [] G H h (Ex.refl G) hW .nil⟩
theorem pa_cons (ha : PD K W X e wa) (hr : PDA K W X es wr) (hs : ∀ i, starEach (e :: es) (X i).env = (false, eval e (X i).env) :: starEach es (X i).env := by intro _; rfl) : PDA K W X (e :: es) (wCons wa wr) := by
  obtain ⟨ta, h1, h2⟩ := ha
  obtain ⟨tr, h3, h4⟩ := hr
  refine ⟨_, fun i => L2.pa_cons (h1 i) (h3 i) (hs i), ?_⟩
  intro G m F H σ ρ Q Qd Qx hW hE h hX hQ
  refine h2 G m F H σ ρ _ _ Qx hW hE h hX ?_
  intro dx m1 x G1 H1 q e1 W1 r1
  refine h4 G1 m1 F H1 σ ρ _ _ Qx W1 (hE.mono e1) q (hX.mono e1) ?_
  intro ds m2 vs G2 H2 q2 e2 W2 r2
  exact hQ _ m2 _ G2 H2 q2 (e1.trans e2) W2 (.cons (r1.mono e2) r2)
def wLst (r : WA) : WE := fun ρ m Q Qx => r ρ m (fun ds m1 => ds.length ≤ sizeLine ∧ Q (.lst ds) m1) Qx
def wTup (r : WA) : WE := fun ρ m Q Qx => r ρ m (fun ds m1 => ds.length ≤ sizeLine ∧ Q (.tup ds) m1) Qx
/-- a new list that is owned: it may change -/
def wOwn (r : WA) : WE := fun ρ m Q Qx => r ρ m (fun ds m1 => ds.length ≤ sizeLine ∧ ∀ p, m1 p = none → Q (.box p) (m1.up p ds)) Qx
theorem pd_lst (h : PDA K W X es wr) : PD K W X (.List es pos) (wLst wr) := by
  obtain ⟨t, h1, h2⟩ := h
  refine ⟨_, fun i => pe_lst (h1 i), ?_⟩
  intro G m F H σ ρ Q Qd Qx hW hE h hX hQ
  refine h2 G m F H σ ρ _ _ Qx hW hE h hX ?_
  intro ds m1 vs G1 H1 q e1 W1 r1
  refine ⟨by rw [r1.len]; exact q.1, fun p hp => ?_⟩
  obtain ⟨e, W'⟩ := W1.new hp (.lst vs)
  exact hQ _ m1 _ _ _ q.2 (e1.trans e) W' (.lst upd_same (r1.mono e))
theorem pd_tup {x1 : Nat} (h : PDA K W X es wr) : PD K W X (.Tuple es x1 pos) (wTup wr) := by
  obtain ⟨t, h1, h2⟩ := h
  refine ⟨_, fun i => pe_tup (h1 i), ?_⟩
  intro G m F H σ ρ Q Qd Qx hW hE h hX hQ
  refine h2 G m F H σ ρ _ _ Qx hW hE h hX ?_
  intro ds m1 vs G1 H1 q e1 W1 r1
  refine ⟨by rw [r1.len]; exact q.1, fun p hp => ?_⟩
  obtain ⟨e, W'⟩ := W1.new hp (.tup vs)
  exact hQ _ m1 _ _ _ q.2 (e1.trans e) W' (.tup (SqT.of upd_same) (r1.mono e))
theorem pd_own (h : PDA K W X es wr) : PD K W X (.List es pos) (wOwn wr) := by
  obtain ⟨t, h1, h2⟩ := h
  refine ⟨_, fun i => pe_lst (h1 i), ?_⟩
  intro G m F H σ ρ Q Qd Qx hW hE h hX hQ
  refine h2 G m F H σ ρ _ _ Qx hW hE h hX ?_
  intro ds m1 vs G1 H1 q e1 W1 r1
  refine ⟨by rw [r1.len]; exact q.1, fun p hp => ?_⟩
  obtain ⟨e, W'⟩ := W1.newOwn hp r1
  exact hQ _ _ _ _ _ (q.2 p e) e1 W' (.box p)
/-- {} -/
def wDct0 : WE := fun _ m Q _ => Q (.dct [] []) m
theorem pd_dct0 : PD K W X (.Dict [] [] pos) wDct0 := by
  refine ⟨_, fun i => pe_dnewK, ?_⟩
  intro G m F H σ ρ Q Qd Qx hW hE h hX hQ
  intro p hp
  obtain ⟨e, W'⟩ := hW.new hp (.dK [])
  exact hQ _ m _ _ _ h e W' (.dct (kvs := []) (vs := []) upd_same rfl rfl .nil)
/-- {'k': v}: one written text as the key -/
def wDct1 (k : Str) (v : WE) : WE := fun ρ m Q Qx => v ρ m (fun d m1 => Q (.dct [.inr k] [d]) m1) Qx
theorem pd_dct1 {k : Str} {j : Nat} {pk : Pos} {v : Expr} {wv : WE} (hv : PD K W X v wv) : PD K W X (.Dict [some (.Constant (.str k) j pk)] [v] pos) (wDct1 k wv) := by
  obtain ⟨tv, h1, h2⟩ := hv
  refine ⟨_, fun i => pe_disp (pps_cons pe_str (h1 i) pps_nil) (by rfl) (by rfl) (fun z => by cases z) (by show 1 ≤ 15; decide), ?_⟩
  intro G m F H σ ρ Q Qd Qx hW hE h hX hQ
  intro p hp
  obtain ⟨hG, hm, hF⟩ := hW.fresh hp
  have W0 := hW.frame hp (.dK [])
  show tv σ (upd H p (.dK [])) _
  refine h2 G m (upd F p (.dK [])) _ σ ρ _ (fun d m1 => Qd (.dct [.inr k] [d]) m1) Qx W0 hE h (hX.frame hF) ?_
  intro d m1 v G1 H1 q e1 W1 r1
  refine ⟨W1.fr p _ upd_same, [(.inr k, v)], rfl, (by show 1 ≤ 15; decide), ?_⟩
  have W2 := W1.reframe (.dK (mergeK [] [((.inr k : Key), v)]))
  obtain ⟨e3, W3⟩ := W2.adopt hF
  exact hQ _ m1 _ _ _ q (e1.trans e3) W3 (.dct upd_same rfl rfl (.cons (r1.mono e3) .nil))

/-! ### a[i], a[lo:hi], a[i] = v -/
def dIx : WR := fun x y m Q => match x, y with
  | .lst ds, .int i => ∃ d, atI ds i = some d ∧ Q d m
  | .tup ds, .int i => ∃ d, atI ds i = some d ∧ Q d m
  | .scr ns, .int i => ∃ d, atI ns i = some d ∧ Q (.int d) m
  | .box a, .int i => ∃ ds d, m a = some ds ∧ atI ds i = some d ∧ Q d m
  | .str z, .int i => z.length ≤ sizeLine ∧ ∃ c, atI z.cps.toList i = some c ∧ Q (.str ⟨#[c]⟩) m
  | _, _ => False
theorem RpA.atI {K : Fg} {G : Hp} {vs : List V} {ds : List D} {i : Int} {d : D} (r : RpA K G vs ds) (h : L2.atI ds i = some d) : ∃ v, L2.atI vs i = some v ∧ Rp K G v d := by
  unfold L2.atI at h ⊢
  rw [r.len]
  cases e : ixN ds.length i with
  | none => rw [e] at h; cases h
  | some j =>
    rw [e] at h
    exact r.at h
theorem atI_map {α β : Type} {f : α → β} {xs : List α} {i : Int} {x : α} (h : L2.atI xs i = some x) : L2.atI (xs.map f) i = some (f x) := by
  unfold L2.atI at h ⊢
  rw [List.length_map]
  cases e : ixN xs.length i with
  | none => rw [e] at h; cases h
  | some j =>
    rw [e] at h
    have h : xs[j]? = some x := h
    show (xs.map f)[j]? = some (f x)
    rw [List.getElem?_map, h]
    rfl
theorem lift_ix {K : Fg} : LiftR K (rIx K) dIx := by
  intro G m F H x y dx dy Q Qd hW rx ry h hQ
  cases rx <;> cases ry <;> first | exact (show False from h).elim | skip
  case lst.int a xs ds h1 r1 i =>
    obtain ⟨d, hd, q⟩ := h
    obtain ⟨v, hv, rv⟩ := r1.atI hd
    exact Or.inl ⟨a, xs, i, v, rfl, rfl, SqL.of (hW.ex _ _ h1), hv, hQ.here hW q rv⟩
  case tup.int a xs ds h1 r1 i =>
    obtain ⟨d, hd, q⟩ := h
    obtain ⟨v, hv, rv⟩ := r1.atI hd
    exact Or.inr (Or.inl ⟨a, xs, i, v, rfl, rfl, Evl.ex_t hW.ex h1, hv, hQ.here hW q rv⟩)
  case scr.int a ns h1 i =>
    obtain ⟨d, hd, q⟩ := h
    exact Or.inl ⟨a, _, i, _, rfl, rfl, Evl.ex_l hW.ex h1, atI_map hd, hQ.here hW q (.int d)⟩
  case box.int a i =>
    obtain ⟨ds, d, hm, hd, q⟩ := h
    obtain ⟨_, _, xs, hx, r1⟩ := hW.own a ds hm
    obtain ⟨v, hv, rv⟩ := r1.atI hd
    exact Or.inl ⟨a, xs, i, v, rfl, rfl, SqL.of hx, hv, hQ.here hW q rv⟩
  case str.int z i =>
    obtain ⟨hz, c, hc, q⟩ := h
    exact Or.inr (Or.inr ⟨z, i, c, rfl, rfl, hz, hc, hQ.here hW q (.str _)⟩)
theorem pd_ix (hK : ∀ i, (X i).K = K) (ha : PD K W X a wa) (hb : PD K W X b wb) (hs : PlainIx b := by exact fun _ _ => rfl) : PD K W X (.Subscript a b pos) (wOp dIx wa wb) := by
  obtain ⟨ta, h1, h2⟩ := ha
  obtain ⟨tb, h3, h4⟩ := hb
  exact ⟨_, fun i => pe_ix (hK i ▸ ix_seq) (h1 i) (h3 i) hs, lift_op lift_ix h2 h4⟩
def wNoPart : WO := fun _ m Q _ => Q none m
def wPart (a : WE) : WO := fun ρ m Q Qx => a ρ m (fun d m1 => match d with
  | .int i => Q (some i) m1
  | _ => False) Qx
theorem po_none : PDO K W X none wNoPart := ⟨_, fun _ => L2.po_none, fun G m F H σ ρ Q Qd Qx hW hE h hX hQ => hQ none m G H h (Ex.refl G) hW⟩
theorem po_some (ha : PD K W X a wa) : PDO K W X (some a) (wPart wa) := by
  obtain ⟨ta, h1, h2⟩ := ha
  refine ⟨_, fun i => L2.po_some (h1 i), ?_⟩
  intro G m F H σ ρ Q Qd Qx hW hE h hX hQ
  refine h2 G m F H σ ρ _ _ Qx hW hE h hX ?_
  intro d m1 x G1 H1 q e1 W1 r1
  cases r1 <;> first | exact (show False from q).elim | skip
  exact ⟨_, rfl, hQ _ m1 G1 H1 q e1 W1⟩
def cutD (ds : List D) (lo hi : Option Int) : List D := (ds.drop (HT.sIx ds.length 0 lo)).take (HT.sIx ds.length ds.length hi - HT.sIx ds.length 0 lo)
def dSl (x : D) (lo hi : Option Int) (m : Mem) (Q : D → Mem → Prop) : Prop := match x with
  | .lst ds => Q (.lst (cutD ds lo hi)) m
  | .tup ds => Q (.tup (cutD ds lo hi)) m
  | .str z => z.length ≤ sizeLine ∧ Q (.str (cutS z lo hi)) m
  | _ => False
theorem RpA.cut {K : Fg} {G : Hp} {vs : List V} {ds : List D} (r : RpA K G vs ds) (lo hi : Option Int) : RpA K G (cutV vs lo hi) (cutD ds lo hi) := by
  unfold cutV cutD
  rw [r.len]
  exact (r.drop _).take _
def rSlU (K : Fg) : V → Option Int → Option Int → Hp → VK → Prop := fun x lo hi H Q => rSlL K x lo hi H Q ∨ rSlA K x lo hi H Q ∨ rSlS x lo hi H Q
def wSl (a : WE) (l h : WO) : WE := fun ρ m Q Qx => a ρ m (fun x m1 => l ρ m1 (fun lo m2 => h ρ m2 (fun hi m3 => dSl x lo hi m3 Q) Qx) Qx) Qx
variable {wl wh : WO} {lo hi : Option Expr} {p2 : Pos}
theorem pd_sl (hK : ∀ i, (X i).K = K) (ha : PD K W X a wa) (hl : PDO K W X lo wl) (hh : PDO K W X hi wh) : PD K W X (.Subscript a (.Slice lo hi none p2) pos) (wSl wa wl wh) := by
  obtain ⟨ta, h1, h2⟩ := ha
  obtain ⟨tl, h3, h4⟩ := hl
  obtain ⟨th, h5, h6⟩ := hh
  refine ⟨_, fun i => pe_slice (r := rSlU K) (hK i ▸ (sl_list.or (sl_tupA.or sl_str))) (h1 i) (h3 i) (h5 i), ?_⟩
  intro G m F H σ ρ Q Qd Qx hW hE h hX hQ
  refine h2 G m F H σ ρ _ _ Qx hW hE h hX ?_
  intro dx m1 x G1 H1 q1 e1 W1 r1
  refine h4 G1 m1 F H1 σ ρ _ _ Qx W1 (hE.mono e1) q1 (hX.mono e1) ?_
  intro l m2 G2 H2 q2 e2 W2
  refine h6 G2 m2 F H2 σ ρ _ _ Qx W2 (hE.mono (e1.trans e2)) q2 (hX.mono (e1.trans e2)) ?_
  intro u m3 G3 H3 q3 e3 W3
  have e13 := (e1.trans e2).trans e3
  have r3 := r1.mono (e2.trans e3)
  cases r3 <;> first | exact (show False from q3).elim | skip
  case lst a0 xs ds hx rr =>
    refine Or.inl ⟨_, _, rfl, SqL.of (W3.ex _ _ hx), fun p hp => ?_⟩
    obtain ⟨e, W'⟩ := W3.new hp (.lst (cutV xs l u))
    exact hQ _ m3 _ _ _ q3 (e13.trans e) W' (.lst upd_same ((rr.cut l u).mono e))
  case tup a0 xs ds hx rr =>
    refine Or.inr (Or.inl ⟨_, _, rfl, Evl.ex_t W3.ex hx, fun hw => ?_, fun hw p hp => ?_⟩)
    · have ec : cutD ds l u = ds := by
        unfold cutD
        rw [← rr.len, hw.1, hw.2, List.drop_zero, Nat.sub_zero, rr.len, List.take_length]
      have q3 : Qd (.tup (cutD ds l u)) m3 := q3
      rw [ec] at q3
      exact hQ _ m3 _ _ _ q3 e13 W3 (.tup hx rr)
    · obtain ⟨e, W'⟩ := W3.new hp (.tup (cutV xs l u))
      exact hQ _ m3 _ _ _ q3 (e13.trans e) W' (.tup (SqT.of upd_same) ((rr.cut l u).mono e))
  case str z => exact Or.inr (Or.inr ⟨z, rfl, q3.1, hQ _ m3 _ _ _ q3.2 e13 W3 (.str _)⟩)

/-! ### calls -/
abbrev WC := List D → Mem → (D → Mem → Prop) → Prop
def LiftC (K : Fg) (r : List V → Hp → VK → Prop) (w : WC) : Prop := ∀ G m F H xs ds (Q : VK) (Qd : D → Mem → Prop), Wd K G m F H → RpA K G xs ds → w ds m Qd → FitE K G F Q Qd → r xs H Q
def wBi (w : WC) (a : WA) : WE := fun ρ m Q Qx => a ρ m (fun ds m1 => w ds m1 Q) Qx
theorem lift_cb {r : List V → Hp → VK → Prop} {w : WC} {ta : TA} {wa : WA} (hr : LiftC K r w) (ha : LiftA K W ta wa) : LiftE K W (tCB r ta) (wBi w wa) := by
  intro G m F H σ ρ Q Qd Qx hW hE h hX hQ
  refine ha G m F H σ ρ _ _ Qx hW hE h hX ?_
  intro ds m1 vs G1 H1 q e1 W1 r1
  exact hr G1 m1 F H1 vs ds Q Qd W1 r1 q fun d m' v G' H' z e => hQ d m' v G' H' z (e1.trans e)
/-- a built-in function, a built-in type, called -/
def BiU (K : Fg) {ι : Type} (X : ι → Cx) (f : Value) (w : WC) : Prop := ∃ r, (∀ i, CallR (X i) f r) ∧ LiftC K r w
theorem pd_bi {mg : Str → Option Value} {x : Str} {p : Pos} {id : String} {w : WC} {wr : WA} (hc : BiU K X (.builtin id) w) (hX : ∀ i, (X i).mg = mg) (hm : mg x = none) (hv : bootBuiltins x = some (.builtin id)) (ha : PDA K W X (e :: es) wr) (hg : ∀ i, Gl (X i) x := by intro _; rfl)
    (he : ∀ i, starEach (e :: es) (X i).env = (false, eval e (X i).env) :: starEach es (X i).env := by intro _; rfl) (hpl : ∀ i, (backTo pos (starEach es (X i).env)).any (·.1) = false := by intro _; rfl) (hn : x ≠ "__name__" := by decide) (hd : (x == ("__debug__" : Str)) = false := by decide) :
    PD K W X (.Call (.Name x p) (e :: es) [] pos) (wBi w wr) := by
  obtain ⟨r, c1, c2⟩ := hc
  obtain ⟨t, h1, h2⟩ := ha
  exact ⟨_, fun i => pe_callB (c1 i) (hg i) (by rw [hX i]; exact hm) hv (h1 i) hn hd (he i) (hpl i), lift_cb c2 h2⟩
theorem pd_bt {mg : Str → Option Value} {x : Str} {p : Pos} {id : String} {w : WC} {wr : WA} (hc : BiU K X (.type id) w) (hX : ∀ i, (X i).mg = mg) (hm : mg x = none) (hv : bootBuiltins x = some (.type id)) (ha : PDA K W X (e :: es) wr) (hg : ∀ i, Gl (X i) x := by intro _; rfl)
    (he : ∀ i, starEach (e :: es) (X i).env = (false, eval e (X i).env) :: starEach es (X i).env := by intro _; rfl) (hpl : ∀ i, (backTo pos (starEach es (X i).env)).any (·.1) = false := by intro _; rfl) (hn : x ≠ "__name__" := by decide) (hd : (x == ("__debug__" : Str)) = false := by decide) :
    PD K W X (.Call (.Name x p) (e :: es) [] pos) (wBi w wr) := by
  obtain ⟨r, c1, c2⟩ := hc
  obtain ⟨t, h1, h2⟩ := ha
  exact ⟨_, fun i => pe_callTy (c1 i) (hg i) (by rw [hX i]; exact hm) hv (h1 i) hn hd (he i) (hpl i), lift_cb c2 h2⟩
def dLen : WC := fun xs m Q => match xs with
  | [.lst ds] => Q (.int ds.length) m
  | [.tup ds] => Q (.int ds.length) m
  | [.scr ns] => Q (.int ns.length) m
  | [.box a] => ∃ ds, m a = some ds ∧ Q (.int ds.length) m
  | [.str z] => z.length ≤ sizeLine ∧ Q (.int z.length) m
  | _ => False
theorem b_len (hK : ∀ i, (X i).K = K) : BiU K X (.builtin "len") dLen := by
  refine ⟨_, fun i => hK i ▸ call_len, ?_⟩
  intro G m F H xs ds Q Qd hW r h hQ
  cases r with
  | nil => cases h
  | cons r1 t =>
    cases t with
    | cons _ _ => cases r1 <;> cases h
    | nil =>
      cases r1 <;> first | exact (show False from h).elim | skip
      case lst a xs ds hx rr => exact ⟨_, _, rfl, Or.inl ⟨_, SqL.of (hW.ex _ _ hx), rr.len.symm⟩, hQ.here hW h (.int _)⟩
      case tup a xs ds hx rr => exact ⟨_, _, rfl, Or.inr ⟨_, Evl.ex_t hW.ex hx, rr.len.symm⟩, hQ.here hW h (.int _)⟩
      case scr a ns hx => exact ⟨_, _, rfl, Or.inl ⟨_, Evl.ex_l hW.ex hx, (List.length_map _).symm⟩, hQ.here hW h (.int _)⟩
      case box a =>
        obtain ⟨ds, hm, q⟩ := h
        obtain ⟨_, _, xs, hx, rr⟩ := hW.own a ds hm
        exact ⟨_, _, rfl, Or.inl ⟨_, SqL.of hx, rr.len.symm⟩, hQ.here hW q (.int _)⟩
      case str z => exact ⟨_, _, rfl, ⟨h.1, rfl⟩, hQ.here hW h.2 (.int _)⟩
def dInt2 (f : Int → Int → Int) : WC := fun xs m Q => match xs with
  | [.int i, .int j] => Q (.int (f i j)) m
  | _ => False
theorem lift_int2 {f : Int → Int → Int} : LiftC K (fun xs H Q => ∃ i j, xs = [.int i, .int j] ∧ Q (.int (f i j)) H) (dInt2 f) := by
  intro G m F H xs ds Q Qd hW r h hQ
  unfold dInt2 at h
  split at h
  · cases r with
    | cons r1 t =>
      cases r1
      cases t with
      | cons r2 t =>
        cases r2
        cases t
        exact ⟨_, _, rfl, hQ.here hW h (.int _)⟩
  · cases h
abbrev dMax : WC := dInt2 fun i j => if j > i then j else i
abbrev dMin : WC := dInt2 fun i j => if j < i then j else i
theorem b_max (hc : ∀ i, (X i).calm = true) : BiU K X (.builtin "max") dMax := ⟨_, fun i => call_max2 (hc i), lift_int2⟩
theorem b_min (hc : ∀ i, (X i).calm = true) : BiU K X (.builtin "min") dMin := ⟨_, fun i => call_min2 (hc i), lift_int2⟩
/-! isinstance against a built-in type -/
def tyD : D → String
  | .non => "NoneType" | .bl _ => "bool" | .int _ => "int" | .str _ => "str" | .ty _ => "type" | .lst _ => "list" | .tup _ => "tuple" | .dct _ _ => "dict" | .scr _ => "list" | .box _ => "list" | .obj _ _ _ => "object"
def isTyped : D → Bool
  | .ty _ => false | .box _ => false | .obj _ _ _ => false | _ => true
theorem ty_of {K : Fg} {G H : Hp} {v : V} {d : D} (e : Ex G H) (r : Rp K G v d) (ht : isTyped d = true) : TyX K H v (.type (tyD d)) := by
  cases r with
  | non => exact .base .non
  | bl b => exact .base (.bl b)
  | int i => exact .base (.int i)
  | str x => exact .base (.str x)
  | ty n => cases ht
  | box a => cases ht
  | obj _ _ _ _ _ => cases ht
  | lst h r => exact .base (.lst (e _ _ h))
  | dct h _ _ _ => exact .base (.dK (e _ _ h))
  | tup h r =>
    rcases Evl.ex_t e h with (h | ⟨o, h⟩) | ⟨o, its, n, hk, hc, _⟩
    · exact .base (.tup h)
    · exact .fTuple h
    · exact .kTuple hk hc
  | scr h =>
    rcases Evl.ex_l e h with (h | ⟨o, h⟩) | ⟨o, its, n, hk, hc, _⟩
    · exact .base (.lst h)
    · exact .base (.frz h)
    · exact .kList hk hc
def intB : D → Bool
  | .int _ => true | .bl _ => true | _ => false
def blB : D → Bool
  | .bl _ => true | _ => false
def strB : D → Bool
  | .str _ => true | _ => false
def lstB : D → Bool
  | .lst _ => true | .scr _ => true | .box _ => true | _ => false
def tupB : D → Bool
  | .tup _ => true | _ => false
def dctB : D → Bool
  | .dct _ _ => true | _ => false
/-- isinstance of a datum against a built-in type -/
def isaB (n : String) (x : D) : Option Bool := if n = "int" then some (intB x) else if n = "bool" then some (blB x) else if n = "str" then some (strB x) else if n = "list" then some (lstB x) else if n = "tuple" then some (tupB x) else if n = "dict" then some (dctB x) else none
theorem isa_int {x : D} : isaB "int" x = some (intB x) := if_pos rfl
theorem isa_bool {x : D} : isaB "bool" x = some (blB x) := (if_neg (by decide)).trans (if_pos rfl)
theorem isa_str {x : D} : isaB "str" x = some (strB x) := (if_neg (by decide)).trans ((if_neg (by decide)).trans (if_pos rfl))
theorem isa_list {x : D} : isaB "list" x = some (lstB x) := (if_neg (by decide)).trans ((if_neg (by decide)).trans ((if_neg (by decide)).trans (if_pos rfl)))
theorem isa_tuple {x : D} : isaB "tuple" x = some (tupB x) := (if_neg (by decide)).trans ((if_neg (by decide)).trans ((if_neg (by decide)).trans ((if_neg (by decide)).trans (if_pos rfl))))
theorem isa_dict {x : D} : isaB "dict" x = some (dctB x) := (if_neg (by decide)).trans ((if_neg (by decide)).trans ((if_neg (by decide)).trans ((if_neg (by decide)).trans ((if_neg (by decide)).trans (if_pos rfl)))))
theorem kit_isa {n : String} {x : D} {b : Bool} (hx : isTyped x = true) (h : isaB n x = some b) : kitB (tyD x) n = some b := by
  unfold isaB at h
  by_cases c : n = "int"
  · subst c; rw [if_pos rfl] at h; cases h
    cases x <;> first | (cases hx; done) | (simp only [tyD, intB]; decide +kernel)
  rw [if_neg c] at h
  by_cases c : n = "bool"
  · subst c; rw [if_pos rfl] at h; cases h
    cases x <;> first | (cases hx; done) | (simp only [tyD, blB]; decide +kernel)
  rw [if_neg c] at h
  by_cases c : n = "str"
  · subst c; rw [if_pos rfl] at h; cases h
    cases x <;> first | (cases hx; done) | (simp only [tyD, strB]; decide +kernel)
  rw [if_neg c] at h
  by_cases c : n = "list"
  · subst c; rw [if_pos rfl] at h; cases h
    cases x <;> first | (cases hx; done) | (simp only [tyD, lstB]; decide +kernel)
  rw [if_neg c] at h
  by_cases c : n = "tuple"
  · subst c; rw [if_pos rfl] at h; cases h
    cases x <;> first | (cases hx; done) | (simp only [tyD, tupB]; decide +kernel)
  rw [if_neg c] at h
  by_cases c : n = "dict"
  · subst c; rw [if_pos rfl] at h; cases h
    cases x <;> first | (cases hx; done) | (simp only [tyD, dctB]; decide +kernel)
  rw [if_neg c] at h
  cases h
def dIsi : WC := fun xs m Q => match xs with
  | [x, .ty n] => isTyped x = true ∧ ∃ b, isaB n x = some b ∧ Q (.bl b) m
  | _ => False
theorem b_isi (hK : ∀ i, (X i).K = K) : BiU K X (.builtin "isinstance") dIsi := by
  refine ⟨_, fun i => hK i ▸ call_isi, ?_⟩
  intro G m F H xs ds Q Qd hW r h hQ
  unfold dIsi at h
  split at h
  · obtain ⟨h1, b, hb, q⟩ := h
    cases r with
    | cons r1 t =>
      cases t with
      | cons r2 t =>
        cases r2
        cases t
        exact ⟨_, _, _, _, b, rfl, .ty _, ty_of hW.ex r1 h1, kit_ty (kit_isa h1 hb), hQ.here hW q (.bl b)⟩
  · cases h
/-! all, any, sum -/
def blsD : List D → Option (List Bool)
  | [] => some []
  | .bl b :: ds => (blsD ds).map (b :: ·)
  | _ => none
theorem bls_of {K : Fg} {G : Hp} : ∀ {vs : List V} {ds : List D} {bs : List Bool}, RpA K G vs ds → blsD ds = some bs → vs = bs.map V.bl
  | _, _, bs, .nil, h => by cases h; rfl
  | _, _, bs, .cons r t, h => by
    cases r <;> first | (cases h; done) | skip
    rename_i ds b
    unfold blsD at h
    cases e : blsD ds with
    | none => rw [e] at h; cases h
    | some cs =>
      rw [e] at h
      cases h
      rw [bls_of t e]
      rfl
def intsD : List D → Option (List Int)
  | [] => some []
  | .int b :: ds => (intsD ds).map (b :: ·)
  | _ => none
theorem ints_of {K : Fg} {G : Hp} : ∀ {vs : List V} {ds : List D} {bs : List Int}, RpA K G vs ds → intsD ds = some bs → vs = bs.map V.int
  | _, _, bs, .nil, h => by cases h; rfl
  | _, _, bs, .cons r t, h => by
    cases r <;> first | (cases h; done) | skip
    rename_i ds b
    unfold intsD at h
    cases e : intsD ds with
    | none => rw [e] at h; cases h
    | some cs =>
      rw [e] at h
      cases h
      rw [ints_of t e]
      rfl
def strsD : List D → Option (List Str)
  | [] => some []
  | .str b :: ds => (strsD ds).map (b :: ·)
  | _ => none
theorem strs_of {K : Fg} {G : Hp} : ∀ {vs : List V} {ds : List D} {bs : List Str}, RpA K G vs ds → strsD ds = some bs → vs = bs.map V.str
  | _, _, bs, .nil, h => by cases h; rfl
  | _, _, bs, .cons r t, h => by
    cases r <;> first | (cases h; done) | skip
    rename_i ds b
    unfold strsD at h
    cases e : strsD ds with
    | none => rw [e] at h; cases h
    | some cs =>
      rw [e] at h
      cases h
      rw [strs_of t e]
      rfl
def dBls (f : List Bool → Bool) : WC := fun xs m Q => match xs with
  | [.lst ds] => ∃ bs, blsD ds = some bs ∧ Q (.bl (f bs)) m
  | _ => False
theorem lift_bls {f : List Bool → Bool} : LiftC K (fun vs H Q => ∃ (a : Addr) (bs : List Bool), vs = [V.ref a] ∧ SqL K H a (bs.map V.bl) ∧ Q (.bl (f bs)) H) (dBls f) := by
  intro G m F H xs ds Q Qd hW r h hQ
  unfold dBls at h
  split at h
  · obtain ⟨bs, hb, q⟩ := h
    cases r with
    | cons r1 t =>
      cases t
      cases r1 with
      | lst hx rr =>
        rw [bls_of rr hb] at hx
        exact ⟨_, bs, rfl, SqL.of (hW.ex _ _ hx), hQ.here hW q (.bl _)⟩
  · cases h
theorem b_all (hK : ∀ i, (X i).K = K) (hc : ∀ i, (X i).calm = true) : BiU K X (.builtin "all") (dBls fun bs => bs.all id) := ⟨_, fun i => hK i ▸ cr_all (hc i), lift_bls⟩
theorem b_any (hK : ∀ i, (X i).K = K) (hc : ∀ i, (X i).calm = true) : BiU K X (.builtin "any") (dBls fun bs => bs.any id) := ⟨_, fun i => hK i ▸ cr_any (hc i), lift_bls⟩
def dSum : WC := fun xs m Q => match xs with
  | [.lst ds] => ∃ bs, intsD ds = some bs ∧ Q (.int bs.sum) m
  | _ => False
theorem b_sum (hK : ∀ i, (X i).K = K) (hc : ∀ i, (X i).calm = true) : BiU K X (.builtin "sum") dSum := by
  refine ⟨_, fun i => hK i ▸ cr_sum (hc i), ?_⟩
  intro G m F H xs ds Q Qd hW r h hQ
  unfold dSum at h
  split at h
  · obtain ⟨bs, hb, q⟩ := h
    cases r with
    | cons r1 t =>
      cases t
      cases r1 with
      | lst hx rr =>
        rw [ints_of rr hb] at hx
        exact ⟨_, bs, rfl, SqL.of (hW.ex _ _ hx), hQ.here hW q (.int _)⟩
  · cases h
/-- tuple(xs), list(xs) -/
def dTuple : WC := fun xs m Q => match xs with
  | [.lst ds] => Q (.tup ds) m
  | [.tup ds] => Q (.tup ds) m
  | _ => False
theorem b_tuple (hK : ∀ i, (X i).K = K) : BiU K X (.type "tuple") dTuple := by
  refine ⟨_, fun i => hK i ▸ call_tuple_of, ?_⟩
  intro G m F H xs ds Q Qd hW r h hQ
  unfold dTuple at h
  split at h
  · cases r with
    | cons r1 t =>
      cases t
      cases r1 with
      | lst hx rr => exact ⟨_, _, rfl, Or.inl ⟨SqL.of (hW.ex _ _ hx), hQ.tup hW h rr⟩⟩
  · cases r with
    | cons r1 t =>
      cases t
      cases r1 with
      | tup hx rr => exact ⟨_, _, rfl, Or.inr ⟨Evl.ex_t hW.ex hx, hQ.here hW h (.tup hx rr)⟩⟩
  · cases h
def dList : WC := fun xs m Q => match xs with
  | [.lst ds] => Q (.lst ds) m
  | [.tup ds] => Q (.lst ds) m
  | _ => False
theorem b_list (hK : ∀ i, (X i).K = K) : BiU K X (.type "list") dList := by
  refine ⟨_, fun i => hK i ▸ call_list_of, ?_⟩
  intro G m F H xs ds Q Qd hW r h hQ
  unfold dList at h
  split at h
  · cases r with
    | cons r1 t =>
      cases t
      cases r1 with
      | lst hx rr => exact ⟨_, _, rfl, Or.inl (SqL.of (hW.ex _ _ hx)), hQ.lst hW h rr⟩
  · cases r with
    | cons r1 t =>
      cases t
      cases r1 with
      | tup hx rr => exact ⟨_, _, rfl, Or.inr (Evl.ex_t hW.ex hx), hQ.lst hW h rr⟩
  · cases h
/-! repr -/
structure Shows (d : PyData) : Prop where
  lay : d.canLay0 = true
  show1 : d.showable = true
  nod : d.hasDict = false
  deep : d.depth ≤ 60
  size : d.shown.length ≤ sizeLine
def dRepr : WC := fun xs m Q => match xs with
  | [.bl b] => Q (.str (if b then "True" else "False")) m
  | [.int i] => i.natAbs.log2 < 1920 ∧ Q (.str (toString i)) m
  | [.lst ds] => Shows (py (.lst ds)) ∧ Q (.str (py (.lst ds)).shown) m
  | [.tup ds] => Shows (py (.tup ds)) ∧ Q (.str (py (.tup ds)).shown) m
  | _ => False
def rReprB : List V → Hp → VK → Prop := fun xs H Q => ∃ b, xs = [.bl b] ∧ Q (.str (if b then "True" else "False")) H
theorem call_reprB {X : Cx} : CallR X (.builtin "repr") rReprB := by
  intro pins s σ H xs us Q I r h
  obtain ⟨b, rfl, q⟩ := h
  cases r with
  | cons r1 t =>
    cases t
    cases r1
    exact PySem.P.repr_of_bool ⟨.str _, H, I.tok _, ⟨_, rfl⟩, q⟩
def rReprI : List V → Hp → VK → Prop := fun xs H Q => ∃ i, xs = [.int i] ∧ i.natAbs.log2 < 1920 ∧ Q (.str (toString i)) H
theorem call_reprI {X : Cx} : CallR X (.builtin "repr") rReprI := by
  intro pins s σ H xs us Q I r h
  obtain ⟨i, rfl, hz, q⟩ := h
  cases r with
  | cons r1 t =>
    cases t
    obtain ⟨t, rfl⟩ := r1
    exact PySem.P.repr_of_int hz ⟨.str _, H, I.tok _, ⟨_, rfl⟩, q⟩
def rReprL (K : Fg) : List V → Hp → VK → Prop := fun xs H Q => ∃ a d, xs = [.ref a] ∧ Dp K H (.ref a) d ∧ d.showable = true ∧ d.hasDict = false ∧ d.depth ≤ 60 ∧ d.shown.length ≤ sizeLine ∧ Q (.str d.shown) H
theorem call_reprL {X : Cx} (hc : X.A.guards = some []) (hu : X.A.units + 64 < cLine) : CallR X (.builtin "repr") (rReprL X.K) := by
  intro pins s σ H xs us Q I r h
  obtain ⟨a, d, rfl, hd, hs, hh, hdp, hl, q⟩ := h
  cases r with
  | cons r1 t =>
    cases t
    cases r1
    obtain ⟨as, hr⟩ := Dp.reads I d _ _ hd rfl
    refine repr_of_reads' hr hs (fun z => by rw [hh] at z; cases z) hc (by omega) (fun _ _ q => q) (fun h' u tk k => ?_) hl
    exact ⟨.str d.shown, H, I.kept k, ⟨u, rfl⟩, q⟩
end
end DL
namespace DL
open PySem L2
open Evl (Ex)
/-! ### families: the guards too -/
structure FamG (P : Program) (w : World) (K : Fg) (mg : Str → Option Value) (base : Heap) (k : Nat) (N : List Str) {ι : Type} (X : ι → Cx) : Prop extends Fam P w K mg base k N X where
  guards : ∀ i, (X i).A.guards = some []
theorem call_or {X : Cx} {f : Value} {r r' : List V → Hp → VK → Prop} (h : CallR X f r) (h' : CallR X f r') : CallR X f (fun xs H Q => r xs H Q ∨ r' xs H Q) := by
  intro pins s σ H xs us Q I rv q
  rcases q with q | q
  · exact h pins s σ H xs us Q I rv q
  · exact h' pins s σ H xs us Q I rv q
theorem b_repr {P : Program} {w : World} {K : Fg} {mg : Str → Option Value} {base : Heap} {k : Nat} {N : List Str} {ι : Type} {X : ι → Cx} (hX : FamG P w K mg base k N X) : BiU K X (.builtin "repr") dRepr := by
  refine ⟨_, fun i => call_or (call_or call_reprB call_reprI) (hX.K i ▸ call_reprL (hX.guards i) (by have := (hX.room i).un; omega)), ?_⟩
  intro G m F H xs ds Q Qd hW r h hQ
  unfold dRepr at h
  split at h
  · cases r with
    | cons r1 t =>
      cases t
      cases r1
      exact Or.inl (Or.inl ⟨_, rfl, hQ.here hW h (.str _)⟩)
  · cases r with
    | cons r1 t =>
      cases t
      cases r1
      exact Or.inl (Or.inr ⟨_, rfl, h.1, hQ.here hW h.2 (.str _)⟩)
  · obtain ⟨h0, q⟩ := h
    cases r with
    | cons r1 t =>
      cases t
      have hd := dp_of hW.ex (D.lst _) r1 h0.lay
      cases r1 with
      | lst hx rr => exact Or.inr ⟨_, _, rfl, hd, h0.show1, h0.nod, h0.deep, h0.size, hQ.here hW q (.str _)⟩
  · obtain ⟨h0, q⟩ := h
    cases r with
    | cons r1 t =>
      cases t
      have hd := dp_of hW.ex (D.tup _) r1 h0.lay
      cases r1 with
      | tup hx rr => exact Or.inr ⟨_, _, rfl, hd, h0.show1, h0.nod, h0.deep, h0.size, hQ.here hW q (.str _)⟩
  · cases h
/-- the contexts of a comprehension's blocks -/
abbrev BI (ι : Type) := ι × Shared × Hp × Addr × List (Str × Addr) × List Addr
def Blk {ι : Type} (X : ι → Cx) (scope : Scope) : BI ι → Cx := fun j => (X j.1).blk j.2.1 j.2.2.1 scope (compEnvC scope j.2.2.2.2.1 j.2.2.2.1 (X j.1).env) j.2.2.2.2.2
theorem FamG.blk {P : Program} {w : World} {K : Fg} {mg : Str → Option Value} {base : Heap} {k : Nat} {N : List Str} {ι : Type} {X : ι → Cx} (hX : FamG P w K mg base k N X) (scope : Scope) : FamG P w K mg base k N (Blk X scope) where
  prog := fun j => hX.prog j.1
  w := fun j => hX.w j.1
  K := fun j => hX.K j.1
  mg := fun j => hX.mg j.1
  base := fun j => hX.base j.1
  hN := fun j => hX.hN j.1
  calm := fun j => hX.calm j.1
  room := fun j => hX.room j.1
  nd := hX.nd
  guards := fun j => hX.guards j.1

/-! ### targets -/
theorem wipe_ix (σ : L2.St) : ∀ (vs : List Nat) (i : Nat), (L2.wipe σ vs)[i]? = if i ∈ vs then (σ[i]?).map (fun _ => none) else σ[i]?
  | [], i => by simp [L2.wipe]
  | v :: vs, i => by
    unfold L2.wipe
    rw [List.getElem?_set]
    by_cases h : v = i
    · subst h
      rw [if_pos rfl, if_pos List.mem_cons_self, wipe_length]
      by_cases hl : v < σ.length
      · rw [if_pos hl, List.getElem?_eq_getElem hl]; rfl
      · rw [if_neg hl, List.getElem?_eq_none (Nat.le_of_not_lt hl)]; rfl
    · rw [if_neg h, wipe_ix σ vs i]
      by_cases hm : i ∈ vs
      · rw [if_pos hm, if_pos (List.mem_cons_of_mem _ hm)]
      · rw [if_neg hm, if_neg (by intro z; rcases List.mem_cons.mp z with z | z; exact h z.symm; exact hm z)]
theorem wipe_put {σ : L2.St} {vs : List Nat} {j : Nat} {o : Option V} (h : j ∈ vs) : L2.wipe (σ.set j o) vs = L2.wipe σ vs := by
  apply List.ext_getElem?
  intro i
  rw [wipe_ix, wipe_ix]
  by_cases hm : i ∈ vs
  · rw [if_pos hm, if_pos hm, List.getElem?_set]
    by_cases e : j = i
    · subst e
      rw [if_pos rfl]
      by_cases hl : j < σ.length
      · rw [if_pos hl, List.getElem?_eq_getElem hl]; rfl
      · rw [if_neg hl, List.getElem?_eq_none (Nat.le_of_not_lt hl)]
    · rw [if_neg e]
  · rw [if_neg hm, if_neg hm, List.getElem?_set, if_neg (fun e2 => hm (by rw [← e2]; exact h))]
theorem wipe_wipe {σ : L2.St} {vs : List Nat} : L2.wipe (L2.wipe σ vs) vs = L2.wipe σ vs := by
  apply List.ext_getElem?
  intro i
  rw [wipe_ix, wipe_ix]
  by_cases hm : i ∈ vs
  · rw [if_pos hm, if_pos hm]
    cases σ[i]? <;> rfl
  · rw [if_neg hm, if_neg hm]
abbrev WG := D → En0 → (En0 → Prop) → Prop
abbrev WGs := List D → En0 → (En0 → Prop) → Prop
def LiftG (K : Fg) (js : List Nat) (t : TG) (g : WG) : Prop := ∀ G m F H v d σ ρ (Q : L2.St → Hp → Prop) (Qd : En0 → Prop), Wd K G m F H → En K G σ ρ → Rp K G v d → g d ρ Qd →
  (∀ ρ' σ', Qd ρ' → En K G σ' ρ' → (∀ vs, (∀ j ∈ js, j ∈ vs) → L2.wipe σ' vs = L2.wipe σ vs) → Q σ' H) → t v σ H Q
def LiftGs (K : Fg) (js : List Nat) (t : TGs) (g : WGs) : Prop := ∀ G m F H vs ds σ ρ (Q : L2.St → Hp → Prop) (Qd : En0 → Prop), Wd K G m F H → En K G σ ρ → RpA K G vs ds → g ds ρ Qd →
  (∀ ρ' σ', Qd ρ' → En K G σ' ρ' → (∀ vs, (∀ j ∈ js, j ∈ vs) → L2.wipe σ' vs = L2.wipe σ vs) → Q σ' H) → t vs σ H Q
def PDG (K : Fg) {ι : Type} (X : ι → Cx) (tg : Expr) (js : List Nat) (g : WG) : Prop := ∃ t, (∀ i, PG (X i) tg t) ∧ LiftG K js t g
def PDGs (K : Fg) {ι : Type} (X : ι → Cx) (tgs : List Expr) (js : List Nat) (g : WGs) : Prop := ∃ t, (∀ i, PGs (X i) tgs t) ∧ LiftGs K js t g
def gvName (i : Nat) : WG := fun d ρ Q => Q (ρ.set i (some d))
def gvNil : WGs := fun ds ρ Q => ds = [] ∧ Q ρ
def gvCons (g : WG) (r : WGs) : WGs := fun ds ρ Q => ∃ d t, ds = d :: t ∧ g d ρ fun ρ1 => r t ρ1 Q
def gvTup (n : Nat) (g : WGs) : WG := fun d ρ Q => match d with
  | .tup ds => ds.length = n ∧ g ds ρ Q
  | _ => False
section
variable {K : Fg} {W : Wx} {ι : Type} {X : ι → Cx} {pos : Pos} {a b c e : Expr} {es : List Expr} {wa wb wc w : WE} {wr : WA}
theorem pg_name (i : Nat) {N : List Str} {x : Str} (hX : ∀ j, (X j).N = N) (hN : N.Nodup) (hi : N[i]? = some x := by rfl) (hx : ∀ j, Loc (X j).env.scope x := by intro _; first | exact Or.inl rfl | exact Or.inr rfl) (hf : ∀ j, (X j).fn x = true ∨ (X j).env.scope.names.lookup x = some .local := by intro _; first | exact Or.inl rfl | exact Or.inr rfl) : PDG K X (.Name x pos) [i] (gvName i) := by
  refine ⟨_, fun j => L2.pg_name (i := i) (by rw [hX j]; exact hN) (by rw [hX j]; exact hi) (hx j) (hf j), ?_⟩
  intro G m F H v d σ ρ Q Qd hW hE r h hQ
  exact hQ _ _ h (hE.put r i) fun vs hv => wipe_put (hv i List.mem_cons_self)
theorem pgs_nil : PDGs K X [] [] gvNil := by
  refine ⟨_, fun j => L2.pgs_nil, ?_⟩
  intro G m F H vs ds σ ρ Q Qd hW hE r h hQ
  obtain ⟨rfl, h⟩ := h
  cases r
  exact ⟨rfl, hQ _ _ h hE fun _ _ => rfl⟩
theorem pgs_cons {js js' : List Nat} {g : WG} {gs : WGs} (h1 : PDG K X e js g) (h2 : PDGs K X es js' gs) (hs : ∀ i, (assignEach (e :: es) (X i).env).map (·.2) = assign e (X i).env :: (assignEach es (X i).env).map (·.2) := by intro _; rfl) : PDGs K X (e :: es) (js ++ js') (gvCons g gs) := by
  obtain ⟨t, a1, a2⟩ := h1
  obtain ⟨u, b1, b2⟩ := h2
  refine ⟨_, fun j => L2.pgs_cons (a1 j) (b1 j) (hs j), ?_⟩
  intro G m F H vs ds σ ρ Q Qd hW hE r h hQ
  obtain ⟨d, t', rfl, h⟩ := h
  cases r with
  | cons r1 r2 =>
    refine ⟨_, _, rfl, a2 G m F H _ d σ ρ _ _ hW hE r1 h ?_⟩
    intro ρ1 σ1 h1 hE1 w1
    refine b2 G m F H _ t' σ1 ρ1 _ _ hW hE1 r2 h1 ?_
    intro ρ2 σ2 h2 hE2 w2
    exact hQ ρ2 σ2 h2 hE2 fun vs hv => (w2 vs fun j hj => hv j (List.mem_append_right _ hj)).trans (w1 vs fun j hj => hv j (List.mem_append_left _ hj))
theorem pg_tup {n : Nat} {js : List Nat} {g : WGs} {kx : Nat} (hK : ∀ i, (X i).K = K) (hc : ∀ i, (X i).calm = true) (h : PDGs K X es js g) (hn : ∀ i, (assignEach es (X i).env).length = n := by intro _; rfl) (hst : ∀ i, (assignEach es (X i).env).findIdx? (·.1) = none := by intro _; rfl) : PDG K X (.Tuple es kx pos) js (gvTup n g) := by
  obtain ⟨t, a1, a2⟩ := h
  refine ⟨gTup K n t, fun j => hK j ▸ L2.pg_tup (hc j) (a1 j) (hn j) (hst j), ?_⟩
  intro G m F H v d σ ρ Q Qd hW hE r h hQ
  cases r <;> first | exact (show False from h).elim | skip
  case tup a0 xs ds hx rr => exact ⟨_, _, rfl, Evl.ex_t hW.ex hx, by rw [rr.len]; exact h.1, a2 G m F H xs ds σ ρ Q Qd hW hE rr h.2 hQ⟩

/-! ### what is walked -/
def DW (K : Fg) (J : It) (ds : List D) (G0 : Hp) : Prop := ∃ Gd Y, Walk J ds.length Gd Y ∧ ∀ G m F H, Ex G0 G → Wd K G m F H → Gd H ∧
  ∀ i H' x d, ds[i]? = some d → Y i H x H' → ∃ G', Ex G G' ∧ Wd K G' m F H' ∧ Rp K G' x d
theorem DW.mono {J : It} {ds : List D} {G G' : Hp} (h : DW K J ds G) (e : Ex G G') : DW K J ds G' := by
  obtain ⟨Gd, Y, w, k⟩ := h
  exact ⟨Gd, Y, w, fun G2 m F H e2 W => k G2 m F H (e.trans e2) W⟩
def LiftI (K : Fg) (W : Wx) (t : TI) (w : WA) : Prop := ∀ G m F H σ ρ (R : It → Hp → Prop) (Qd : List D → Mem → Prop) (Qx : XQ), Wd K G m F H → En K G σ ρ → w ρ m Qd Qx → FitX K W G F Qx →
  (∀ ds m' J G' H', Qd ds m' → Ex G G' → Wd K G' m' F H' → DW K J ds G' → R J H') → t σ H R
def PDI (K : Fg) (W : Wx) {ι : Type} (X : ι → Cx) (tg iter : Expr) (w : WA) : Prop := ∃ t, (∀ i, PI (X i) tg iter t) ∧ LiftI K W t w
/-- a list's items -/
def iLst (w : WE) : WA := fun ρ m Q Qx => w ρ m (fun d m1 => match d with
  | .lst ds => Q ds m1
  | .scr ns => Q (ns.map D.int) m1
  | _ => False) Qx
theorem dw_list {a : Addr} {xs : List V} {ds : List D} {G : Hp} (h : G a = some (.lst xs)) (r : RpA K G xs ds) : DW K (Itl K a) ds G := by
  refine ⟨_, _, r.len ▸ walk_list (xs := xs), fun G2 m F H e W => ⟨SqL.of (W.ex _ _ (e _ _ h)), ?_⟩⟩
  rintro i H' x d hd ⟨rfl, hx⟩
  obtain ⟨v, hv, rv⟩ := r.at hd
  rw [hv] at hx
  cases hx
  exact ⟨G2, Ex.refl _, W, rv.mono e⟩
theorem dw_scr {a : Addr} {ns : List Int} {G : Hp} (h : SqL K G a (ns.map V.int)) : DW K (Itl K a) (ns.map D.int) G := by
  have hl : (ns.map D.int).length = (ns.map V.int).length := by rw [List.length_map, List.length_map]
  refine ⟨_, _, hl ▸ walk_list (xs := ns.map V.int), fun G2 m F H e W => ⟨Evl.ex_l W.ex (Evl.ex_l e h), ?_⟩⟩
  rintro i H' x d hd ⟨rfl, hx⟩
  rw [List.getElem?_map] at hd hx
  cases e2 : ns[i]? with
  | none => rw [e2] at hd; cases hd
  | some n =>
    rw [e2] at hd hx
    cases hd; cases hx
    exact ⟨G2, Ex.refl _, W, .int n⟩
theorem pi_lst (hK : ∀ i, (X i).K = K) (ha : PD K W X a wa) {tg : Expr} : PDI K W X tg a (iLst wa) := by
  obtain ⟨t, h1, h2⟩ := ha
  refine ⟨iList K t, fun i => hK i ▸ pi_list (h1 i), ?_⟩
  intro G m F H σ ρ R Qd Qx hW hE h hX hR
  refine h2 G m F H σ ρ _ _ Qx hW hE h hX ?_
  intro d m1 x G1 H1 q e1 W1 r1
  cases r1 <;> first | exact (show False from q).elim | skip
  case lst a0 xs ds hx rr => exact ⟨a0, rfl, ⟨xs, SqL.of (W1.ex _ _ hx)⟩, hR _ _ _ _ _ q e1 W1 (dw_list hx rr)⟩
  case scr a0 ns hx => exact ⟨a0, rfl, ⟨_, Evl.ex_l W1.ex hx⟩, hR _ _ _ _ _ q e1 W1 (dw_scr hx)⟩
/-- a tuple's items -/
def iTp (w : WE) : WA := fun ρ m Q Qx => w ρ m (fun d m1 => match d with
  | .tup ds => Q ds m1
  | _ => False) Qx
theorem pi_tp (hK : ∀ i, (X i).K = K) (ha : PD K W X a wa) {tg : Expr} : PDI K W X tg a (iTp wa) := by
  obtain ⟨t, h1, h2⟩ := ha
  refine ⟨iTup K t, fun i => hK i ▸ pi_tup (h1 i), ?_⟩
  intro G m F H σ ρ R Qd Qx hW hE h hX hR
  refine h2 G m F H σ ρ _ _ Qx hW hE h hX ?_
  intro d m1 x G1 H1 q e1 W1 r1
  cases r1 <;> first | exact (show False from q).elim | skip
  case tup a0 xs ds hx rr =>
    refine ⟨a0, rfl, ⟨xs, Evl.ex_t W1.ex hx⟩, hR _ _ _ _ _ q e1 W1 ?_⟩
    refine ⟨_, _, rr.len ▸ walk_tup (xs := xs), fun G2 m F H e W => ⟨Evl.ex_t W.ex (Evl.ex_t e hx), ?_⟩⟩
    rintro i H' x d hd ⟨rfl, hx⟩
    obtain ⟨v, hv, rv⟩ := rr.at hd
    rw [hv] at hx
    cases hx
    exact ⟨G2, Ex.refl _, W, rv.mono e⟩
/-- a text's signs -/
def signs (z : Str) : List D := z.cps.toList.map fun c => D.str ⟨#[c]⟩
def iSg (w : WE) : WA := fun ρ m Q Qx => w ρ m (fun d m1 => match d with
  | .str z => Q (signs z) m1
  | _ => False) Qx
theorem pi_sg (ha : PD K W X a wa) {tg : Expr} : PDI K W X tg a (iSg wa) := by
  obtain ⟨t, h1, h2⟩ := ha
  refine ⟨_, fun i => L2.pi_str (h1 i), ?_⟩
  intro G m F H σ ρ R Qd Qx hW hE h hX hR
  refine h2 G m F H σ ρ _ _ Qx hW hE h hX ?_
  intro d m1 x G1 H1 q e1 W1 r1
  cases r1 <;> first | exact (show False from q).elim | skip
  rename_i z
  refine ⟨z, rfl, hR _ _ _ _ _ q e1 W1 ?_⟩
  have hl : (signs z).length = z.cps.size := by unfold signs; rw [List.length_map, Array.length_toList]
  refine ⟨_, _, hl ▸ walk_str (z := z), fun G2 m F H e W => ⟨trivial, ?_⟩⟩
  rintro i H' x d hd ⟨rfl, c, hc, rfl⟩
  unfold signs at hd
  rw [List.getElem?_map, Array.getElem?_toList, hc] at hd
  cases hd
  exact ⟨G2, Ex.refl _, W, .str _⟩
/-- range(n) -/
def iRg1 (w : WA) : WA := fun ρ m Q Qx => w ρ m (fun ds m1 => match ds with
  | [.int n] => (-(2 ^ 62) ≤ n ∧ n < 2 ^ 62) ∧ Q ((List.range n.toNat).map fun i => D.int (0 + (i : Nat))) m1
  | _ => False) Qx
theorem pi_rg1 {mg : Str → Option Value} {p : Pos} (hX : ∀ i, (X i).mg = mg) (hm : mg "range" = none) (ha : PDA K W X [a] wr) (hg : ∀ i, Gl (X i) "range" := by intro _; rfl) (hs : ∀ i, starEach [a] (X i).env = [(false, eval a (X i).env)] := by intro _; rfl) {tg : Expr} : PDI K W X tg (.Call (.Name "range" p) [a] [] pos) (iRg1 wr) := by
  obtain ⟨t, h1, h2⟩ := ha
  refine ⟨_, fun i => pi_range1 (hg i) (by rw [hX i]; exact hm) (h1 i) (hs i), ?_⟩
  intro G m F H σ ρ R Qd Qx hW hE h hX hR
  refine h2 G m F H σ ρ _ _ Qx hW hE h hX ?_
  intro ds m1 xs G1 H1 q e1 W1 r1
  split at q
  · cases r1 with
    | cons r1 t =>
      cases t
      cases r1
      rename_i n
      refine ⟨n, rfl, q.1.1, q.1.2, hR _ _ _ _ _ q.2 e1 W1 ?_⟩
      have hl : ((List.range n.toNat).map fun i => D.int (0 + (i : Nat))).length = n.toNat := by rw [List.length_map, List.length_range]
      refine ⟨_, _, (by rw [hl]; exact walk_range (lo := 0) (n := n.toNat)), fun G2 m F H e W => ⟨trivial, ?_⟩⟩
      rintro i H' x d hd ⟨rfl, rfl⟩
      rw [List.getElem?_map] at hd
      cases e2 : (List.range n.toNat)[i]? with
      | none => rw [e2] at hd; cases hd
      | some j =>
        rw [e2] at hd
        cases hd
        obtain ⟨_, rfl⟩ := List.getElem?_eq_some_iff.mp e2
        rw [List.getElem_range]
        exact ⟨G2, Ex.refl _, W, .int _⟩
  · cases q

/-! ### statements -/
def sNext : WS := fun E ρ m => E.nx ρ m
def sSeq (t u : WS) : WS := fun E ρ m => t { E with nx := fun ρ' m' => u E ρ' m' } ρ m
def sRet (w : WE) : WS := fun E ρ m => w ρ m E.rt E.ex
def sDrop (w : WE) : WS := fun E ρ m => w ρ m (fun _ m' => E.nx ρ m') E.ex
def sIf (c : WT) (t u : WS) : WS := fun E ρ m => c ρ m (fun k m' => if k = true then t E ρ m' else u E ρ m') E.ex
def sSet (i : Nat) (w : WE) : WS := fun E ρ m => w ρ m (fun d m' => E.nx (ρ.set i (some d)) m') E.ex
def sNever : WS := fun _ _ _ => False
variable {st : Stmt} {sts sts' : List Stmt} {t u : WS} {ua : WT}
theorem pb_nil : PDB K W X [] sNext := ⟨_, fun _ => pss_nil, fun G m F H σ ρ S E hW hE h f => f.nx ρ m σ G H h (Ex.refl G) hW hE⟩
theorem pb_cons (h1 : PDS K W X st t) (h2 : PDB K W X sts u) : PDB K W X (st :: sts) (sSeq t u) := by
  obtain ⟨t', a1, a2⟩ := h1
  obtain ⟨u', b1, b2⟩ := h2
  refine ⟨_, fun i => pss_cons (a1 i) (b1 i), ?_⟩
  intro G m F H σ ρ S E hW hE h f
  refine a2 G m F H σ ρ _ _ hW hE h ⟨?_, f.rt, f.bk, f.ct, f.ex⟩
  intro ρ' m' σ' G' H' q e W' E'
  exact b2 G' m' F H' σ' ρ' S E W' E' q (f.mono e)
theorem pb_one (h1 : PDS K W X st t) : PDB K W X [st] t := by
  obtain ⟨t', a1, a2⟩ := h1
  exact ⟨_, fun i => pss_one (a1 i), a2⟩
theorem pb_never : PDB K W X sts sNever := ⟨_, fun _ => pss_never, fun G m F H σ ρ S E hW hE h f => h.elim⟩
theorem ps_never : PDS K W X st sNever := ⟨_, fun _ => L2.ps_never, fun G m F H σ ρ S E hW hE h f => h.elim⟩
theorem ps_ret (h : PD K W X e w) : PDS K W X (.Return (some e) pos) (sRet w) := by
  obtain ⟨t, h1, h2⟩ := h
  refine ⟨_, fun i => L2.ps_ret (h1 i), ?_⟩
  intro G m F H σ ρ S E hW hE h f
  exact h2 G m F H σ ρ _ _ E.ex hW hE h f.ex f.rt
theorem ps_expr (h : PD K W X e w) (hs : ∀ i, swapsWith e none pos.line (X i).env = pure false := by intro _; rfl) : PDS K W X (.Expr e pos) (sDrop w) := by
  obtain ⟨t, h1, h2⟩ := h
  refine ⟨_, fun i => L2.ps_expr (h1 i) (hs i), ?_⟩
  intro G m F H σ ρ S E hW hE h f
  refine h2 G m F H σ ρ _ _ E.ex hW hE h f.ex ?_
  intro d m' v G' H' q e W' r
  exact f.nx ρ m' σ G' H' q e W' (hE.mono e)
theorem ps_if (hc : PDT K W X c ua) (h1 : PDB K W X sts t) (h2 : PDB K W X sts' u) : PDS K W X (.If c sts sts' pos) (sIf ua t u) := by
  obtain ⟨tc, c1, c2⟩ := hc
  obtain ⟨t', a1, a2⟩ := h1
  obtain ⟨u', b1, b2⟩ := h2
  refine ⟨_, fun i => L2.ps_if (c1 i) (a1 i) (b1 i), ?_⟩
  intro G m F H σ ρ S E hW hE h f
  refine c2 G m F H σ ρ _ _ E.ex hW hE h f.ex ?_
  intro k m' G' H' q e W'
  cases k with
  | true => exact a2 G' m' F H' σ ρ S E W' (hE.mono e) q (f.mono e)
  | false => exact b2 G' m' F H' σ ρ S E W' (hE.mono e) q (f.mono e)
theorem ps_set (i : Nat) {N : List Str} {x : Str} {p' : Pos} (hX : ∀ j, (X j).N = N) (hN : N.Nodup) (h : PD K W X e w) (hi : N[i]? = some x := by rfl) (hx : ∀ j, Loc (X j).env.scope x := by intro _; first | exact Or.inl rfl | exact Or.inr rfl) (hs : ∀ j, swapsWith e (some (.Name x p')) pos.line (X j).env = pure false := by intro _; rfl)
    (hf : ∀ j, (X j).fn x = true ∨ (X j).env.scope.names.lookup x = some .local := by intro _; first | exact Or.inl rfl | exact Or.inr rfl) : PDS K W X (.Assign [.Name x p'] e pos) (sSet i w) := by
  obtain ⟨t, h1, h2⟩ := h
  refine ⟨_, fun j => L2.ps_set (i := i) (by rw [hX j]; exact hN) (by rw [hX j]; exact hi) (hx j) (h1 j) (hs j) (hf j), ?_⟩
  intro G m F H σ ρ S E hW hE h f
  refine h2 G m F H σ ρ _ _ E.ex hW hE h f.ex ?_
  intro d m' v G' H' q e W' r
  exact f.nx _ m' _ G' H' q e W' ((hE.mono e).put r i)
/-- xs[i] = e, xs owned -/
def sPut (o i v : WE) : WS := fun E ρ m => v ρ m (fun d m1 => o ρ m1 (fun x m2 => i ρ m2 (fun k m3 => match x, k with
  | .box a, .int j => ∃ ds n, m3 a = some ds ∧ ixN ds.length j = some n ∧ E.nx ρ (m3.up a (ds.set n d))
  | _, _ => False) E.ex) E.ex) E.ex
theorem ps_put {o i : Expr} {wo wi wv : WE} {p' : Pos} (hv : PD K W X e wv) (ho : PD K W X o wo) (hi : PD K W X i wi) (hs : ∀ j, swapsWithSole [.Subscript o i p'] e pos.line (X j).env = pure false := by intro _; rfl) (hw : ∀ j, swappedStores [.Subscript o i p'] e (X j).env = pure none := by intro _; rfl)
    (h1 : ∀ j, (assignEach [.Subscript o i p'] (X j).env).map (·.2) = [assign (.Subscript o i p') (X j).env] := by intro _; rfl)
    (ha : ∀ j v, assign (.Subscript o i p') (X j).env v = (do
      let ov ← holding [v] (eval o (X j).env)
      let iv ← holding [v, ov] (eval i (X j).env)
      standAt p'
      holding [v, ov, iv] (setItem ov iv v)
      release [v, ov, iv] []) := by intro _ _; rfl) : PDS K W X (.Assign [.Subscript o i p'] e pos) (sPut wo wi wv) := by
  obtain ⟨tv, v1, v2⟩ := hv
  obtain ⟨to, o1, o2⟩ := ho
  obtain ⟨ti, i1, i2⟩ := hi
  refine ⟨_, fun j => ps_asg (v1 j) (pg_sub (o1 j) (i1 j) set_list (ha j)) (hs j) (hw j) (h1 j), ?_⟩
  intro G m F H σ ρ S E hW hE h f
  refine v2 G m F H σ ρ _ _ E.ex hW hE h f.ex ?_
  intro d m1 v G1 H1 q1 e1 W1 r1
  refine o2 G1 m1 F H1 σ ρ _ _ E.ex W1 (hE.mono e1) q1 (f.ex.mono e1) ?_
  intro x m2 xv G2 H2 q2 e2 W2 r2
  refine i2 G2 m2 F H2 σ ρ _ _ E.ex W2 (hE.mono (e1.trans e2)) q2 (f.ex.mono (e1.trans e2)) ?_
  intro k m3 kv G3 H3 q3 e3 W3 r3
  have r2 := r2.mono e3
  have r1 := r1.mono (e2.trans e3)
  have e13 := (e1.trans e2).trans e3
  cases r2 <;> cases r3 <;> first | exact (show False from q3).elim | skip
  rename_i a j
  obtain ⟨ds, n, hm, hn, q⟩ := q3
  obtain ⟨_, _, xs, hx, rr⟩ := W3.own a ds hm
  refine ⟨a, xs, j, n, rfl, rfl, hx, by rw [rr.len]; exact hn, ?_⟩
  exact f.nx ρ _ σ G3 _ q e13 (W3.put hm (rr.set r1 n)) (hE.mono e13)
/-! ### for -/
def wLoop (g : WG) (body : WS) (E : De) : List D → En0 → Mem → Prop
  | [], ρ, m => E.nx ρ m
  | d :: ds, ρ, m => g d ρ fun ρ1 => body { E with nx := wLoop g body E ds, ct := wLoop g body E ds, bk := E.nx } ρ1 m
def sFor (wi : WA) (g : WG) (body : WS) : WS := fun E ρ m => wi ρ m (fun ds m1 => wLoop g body E ds ρ m1) E.ex
theorem drop_cons {α : Type} {l : List α} {i : Nat} (h : i < l.length) : l.drop i = l[i] :: l.drop (i + 1) := List.drop_eq_getElem_cons h
theorem ps_for {tg iter : Expr} {wi : WA} {js : List Nat} {g : WG} (hp : ∀ i, PassesOwn (model (X i).prog (X i).w) (X i).A (X i).env (X i).xe) (hc : ∀ i, (X i).calm = true) (hi : PDI K W X tg iter wi) (hg : PDG K X tg js g) (hb : PDB K W X sts t)
    (hs : ∀ i x, foldedSetIterable iter (X i).env x = pure x := by intro _ _; rfl) : PDS K W X (.For tg iter sts [] pos) (sFor wi g t) := by
  obtain ⟨ti, i1, i2⟩ := hi
  obtain ⟨tg', g1, g2⟩ := hg
  obtain ⟨tb, b1, b2⟩ := hb
  refine ⟨_, fun i => L2.ps_for (hp i) (hc i) (i1 i) (g1 i) (b1 i) (hs i), ?_⟩
  intro G m F H σ ρ S E hW hE h f
  refine i2 G m F H σ ρ _ _ E.ex hW hE h f.ex ?_
  intro ds m1 J G1 H1 h1 e1 W1 dw
  obtain ⟨Gd, Y, wk, st⟩ := dw
  refine for_it wk (fun i σ H => ∃ G' m' ρ', Ex G1 G' ∧ Wd K G' m' F H ∧ En K G' σ ρ' ∧ wLoop g t E (ds.drop i) ρ' m') ⟨G1, m1, ρ, Ex.refl _, W1, hE.mono e1, h1⟩ ?_ ?_ ?_
  · rintro i σ H _ ⟨G', m', ρ', e', W', _, _⟩
    exact (st G' m' F H e' W').1
  · rintro i x σ H H' hi ⟨G', m', ρ', e', W', E', l⟩ y
    rw [drop_cons hi] at l
    obtain ⟨G2, e2, W2, r⟩ := (st G' m' F H e' W').2 i H' x ds[i] (List.getElem?_eq_getElem hi) y
    have e12 := e1.trans (e'.trans e2)
    refine g2 G2 m' F H' x _ σ ρ' _ _ W2 (E'.mono e2) r l ?_
    intro ρ1 σ1 q E1 _
    refine b2 G2 m' F H' σ1 ρ1 _ _ W2 E1 q ⟨?_, (f.mono e12).rt, ?_, ?_, (f.mono e12).ex⟩
    · intro ρ2 m2 σ2 G3 H3 q3 e3 W3 E3
      exact ⟨G3, m2, ρ2, (e'.trans e2).trans e3, W3, E3, q3⟩
    · exact (f.mono e12).nx
    · intro ρ2 m2 σ2 G3 H3 q3 e3 W3 E3
      exact ⟨G3, m2, ρ2, (e'.trans e2).trans e3, W3, E3, q3⟩
  · rintro σ H ⟨G', m', ρ', e', W', E', l⟩
    rw [List.drop_length] at l
    exact f.nx ρ' m' σ G' H l (e1.trans e') W' E'
/-! ### comprehensions -/
def wLcGo (g : WG) (tt : WT) (te : WE) (ρ : En0) (Qx : XQ) : List D → List D → Mem → (D → Mem → Prop) → Prop
  | [], acc, m, Q => Q (.lst acc) m
  | d :: ds, acc, m, Q => g d ρ fun ρ1 => tt ρ1 m (fun b m1 => if b = true then te ρ1 m1 (fun y m2 => wLcGo g tt te ρ Qx ds (acc ++ [y]) m2 Q) Qx else wLcGo g tt te ρ Qx ds acc m1 Q) Qx
def wLc (wi : WA) (g : WG) (tt : WT) (te : WE) (vs : List Nat) : WE := fun ρ m Q Qx => wi ρ m (fun ds m1 => ds.length ≤ 1000000 ∧ wLcGo g tt te (wipeD ρ vs) Qx ds [] m1 Q) Qx
def tvYes : WT := fun _ m Q _ => Q true m
def PDTs (K : Fg) (W : Wx) {ι : Type} (X : ι → Cx) (es : List Expr) (w : WT) : Prop := ∃ t, (∀ i, PTs (X i) es t) ∧ LiftT K W t w
theorem pts_nil : PDTs K W X [] tvYes := ⟨_, fun _ => L2.pts_nil, fun G m F H σ ρ Q Qd Qx hW hE h hX hQ => hQ true m G H h (Ex.refl G) hW⟩
theorem pts_one (h : PDT K W X c ua) : PDTs K W X [c] ua := by
  obtain ⟨t, h1, h2⟩ := h
  exact ⟨t, fun i => L2.pts_one (h1 i), h2⟩
theorem line_big : (1000000 : Nat) < sizeLine := by rw [sizeLine_eq]; decide
theorem lift_lc {ti : TI} {wi : WA} {tG : TG} {js : List Nat} {g : WG} {tT : TT} {tt : WT} {tE : TE} {te : WE} {vs : List Nat} (hi : LiftI K W ti wi) (hg : LiftG K js tG g) (ht : LiftT K W tT tt) (he : LiftE K W tE te) (hj : ∀ j ∈ js, j ∈ vs) :
    LiftE K W (tLc ti tG tT tE vs) (wLc wi g tt te vs) := by
  intro G m F H σ ρ Q Qd Qx hW hE h hX hQ
  refine hi G m F H σ ρ _ _ Qx hW hE h hX ?_
  intro ds m1 J G1 H1 h1 e1 W1 dw
  intro Dl hD
  obtain ⟨Gd, Y, wk, st⟩ := dw
  obtain ⟨hG, hm, hF⟩ := W1.fresh hD
  obtain ⟨hz, h1⟩ := h1
  refine lc_it wk (fun i H => ∃ G' m' acc xs, Ex G1 G' ∧ Wd K G' m' (upd F Dl (.lst xs)) H ∧ RpA K G' xs acc ∧ acc.length ≤ i ∧ wLcGo g tt te (wipeD ρ vs) Qx (ds.drop i) acc m' Qd)
    ⟨G1, m1, [], [], Ex.refl _, W1.frame hD (.lst []), .nil, Nat.le_refl _, h1⟩ ?_ ?_ ?_
  · rintro i H _ ⟨G', m', acc, xs, e', W', _⟩
    exact (st G' m' _ H e' W').1
  · rintro i x H H' hi' ⟨G', m', acc, xs, e', W', ra, hl, l⟩ y
    rw [drop_cons hi'] at l
    obtain ⟨G2, e2, W2, r⟩ := (st G' m' _ H e' W').2 i H' x ds[i] (List.getElem?_eq_getElem hi') y
    have e12 := (e1.trans e').trans e2
    refine hg G2 m' _ H' x _ (L2.wipe σ vs) (wipeD ρ vs) _ _ W2 ((hE.mono e12).wipe vs) r l ?_
    intro ρ1 σ1 q E1 w1
    refine ⟨(w1 vs hj).trans wipe_wipe, ?_⟩
    refine ht G2 m' _ H' σ1 ρ1 _ _ Qx W2 E1 q ((hX.mono e12).frame hF) ?_
    intro b m2 G3 H3 q3 e3 W3
    have e13 := e12.trans e3
    cases b with
    | true =>
      refine he G3 m2 _ H3 σ1 ρ1 _ _ Qx W3 (E1.mono e3) q3 ((hX.mono e13).frame hF) ?_
      intro d m3 v G4 H4 q4 e4 W4 r4
      have rx := (ra.mono e2).mono (e3.trans e4)
      refine ⟨xs, W4.fr _ _ upd_same, ?_, G4, m3, acc ++ [d], xs ++ [v], ((e'.trans e2).trans e3).trans e4, W4.reframe _, rx.app (.cons r4 .nil), ?_, q4⟩
      · rw [ra.len]
        have := line_big
        omega
      · rw [List.length_append, List.length_singleton]; omega
    | false =>
      exact ⟨G3, m2, acc, xs, (e'.trans e2).trans e3, W3, (ra.mono e2).mono e3, by omega, q3⟩
  · rintro H ⟨G', m', acc, xs, e', W', ra, hl, l⟩
    rw [List.drop_length] at l
    obtain ⟨e3, W3⟩ := W'.adopt hF
    exact hQ _ m' _ _ _ l ((e1.trans e').trans e3) W3 (.lst upd_same (ra.mono e3))
theorem pd_lc {elt tg iter : Expr} {ifs : List Expr} {scope : Scope} {own : List (Str × Nat)} {wi : WA} {js : List Nat} {g : WG} {tt : WT} {te : WE} {N : List Str} (hX : ∀ j, (X j).N = N) (hc : ∀ i, (X i).calm = true) (hN : N.Nodup) (hi : PDI K W X tg iter wi)
    (ok : ∀ i, BlkOk N (X i).env.scope scope own) (hg : PDG K (Blk X scope) tg js g) (ht : PDTs K W (Blk X scope) ifs tt) (he : PD K W (Blk X scope) elt te) (hj : ∀ j ∈ js, j ∈ own.map (·.2) := by decide) (hs : ∀ i x, foldedSetIterable iter (X i).env x = pure x := by intro _ _; rfl) :
    PD K W X (.ListComp elt [⟨tg, iter, ifs, 0⟩] scope pos) (wLc wi g tt te (own.map (·.2))) := by
  obtain ⟨ti, i1, i2⟩ := hi
  obtain ⟨tG, g1, g2⟩ := hg
  obtain ⟨tT, t1, t2⟩ := ht
  obtain ⟨tE, e1, e2⟩ := he
  exact ⟨_, fun i => pe_lc (hc i) (by rw [hX i]; exact hN) (i1 i) (by rw [hX i]; exact ok i) (fun s H C cl fp => g1 (i, s, H, C, cl, fp)) (fun s H C cl fp => t1 (i, s, H, C, cl, fp)) (fun s H C cl fp => e1 (i, s, H, C, cl, fp)) (hs i), lift_lc i2 g2 t2 e2 hj⟩
theorem ps_setLc {i : Nat} {y : Str} {py : Pos} {elt tg iter : Expr} {ifs : List Expr} {scope : Scope} {own : List (Str × Nat)} {wi : WA} {js : List Nat} {g : WG} {tt : WT} {te : WE} {N : List Str} {spos : Pos} (hX : ∀ j, (X j).N = N) (hc : ∀ i, (X i).calm = true) (hN : N.Nodup) (hy : N[i]? = some y)
    (hyl : ∀ j, (X j).env.scope.names.lookup y = some .local) (hsw : ∀ j, swapsWith (.ListComp elt [⟨tg, iter, ifs, 0⟩] scope pos) (some (.Name y py)) spos.line (X j).env = pure true) (hi : PDI K W X tg iter wi)
    (ok : ∀ i, BlkOk N (X i).env.scope scope own) (hg : PDG K (Blk X scope) tg js g) (ht : PDTs K W (Blk X scope) ifs tt) (he : PD K W (Blk X scope) elt te) (hj : ∀ j ∈ js, j ∈ own.map (·.2) := by decide) (hs : ∀ i x, foldedSetIterable iter (X i).env x = pure x := by intro _ _; rfl) :
    PDS K W X (.Assign [.Name y py] (.ListComp elt [⟨tg, iter, ifs, 0⟩] scope pos) spos) (sSet i (wLc wi g tt te (own.map (·.2)))) := by
  obtain ⟨ti, i1, i2⟩ := hi
  obtain ⟨tG, g1, g2⟩ := hg
  obtain ⟨tT, t1, t2⟩ := ht
  obtain ⟨tE, e1, e2⟩ := he
  refine ⟨_, fun j => L2.ps_setLc (i := i) (hc j) (by rw [hX j]; exact hN) (by rw [hX j]; exact hy) (hyl j) (hsw j) (i1 j) (by rw [hX j]; exact ok j) (fun s H C cl fp => g1 (j, s, H, C, cl, fp)) (fun s H C cl fp => t1 (j, s, H, C, cl, fp)) (fun s H C cl fp => e1 (j, s, H, C, cl, fp)) (hs j), ?_⟩
  intro G m F H σ ρ S E hW hE h f
  refine lift_lc i2 g2 t2 e2 hj G m F H σ ρ _ _ E.ex hW hE h f.ex ?_
  intro d m' v G' H' q e W' r
  exact f.nx _ m' _ G' H' q e W' ((hE.mono e).put r i)
/-! ### join -/
def wJoin (o e : WE) : WE := fun ρ m Q Qx => o ρ m (fun x m1 => match x with
  | .str a => e ρ m1 (fun y m2 => match y with
    | .lst ds => ∃ ys, strsD ds = some ys ∧ (ys.map (·.length)).sum + ys.length * a.length ≤ 16777216 ∧ Q (.str (Txt.join a ys)) m2
    | _ => False) Qx
  | _ => False) Qx
theorem pd_join {o : Expr} {wo : WE} {apos : Pos} (hK : ∀ i, (X i).K = K) (ho : PD K W X o wo) (he : PD K W X e w) (hs : ∀ i, starEach [e] (X i).env = [(false, eval e (X i).env)] := by intro _; rfl) (hb : ∀ i, attributeBase o "join" (X i).env (eval o (X i).env) = eval o (X i).env := by intro _; rfl) (hl : (apos.endLine == pos.line) = true := by rfl) :
    PD K W X (.Call (.Attribute o "join" apos) [e] [] pos) (wJoin wo w) := by
  obtain ⟨to, o1, o2⟩ := ho
  obtain ⟨te, e1, e2⟩ := he
  refine ⟨_, fun i => hK i ▸ pe_join (o1 i) (e1 i) (hs i) (hb i) hl, ?_⟩
  intro G m F H σ ρ Q Qd Qx hW hE h hX hQ
  refine o2 G m F H σ ρ _ _ Qx hW hE h hX ?_
  intro x m1 xv G1 H1 q1 f1 W1 r1
  cases r1 <;> first | exact (show False from q1).elim | skip
  rename_i a
  refine ⟨⟨a, rfl⟩, ?_⟩
  refine e2 G1 m1 F H1 σ ρ _ _ Qx W1 (hE.mono f1) q1 (hX.mono f1) ?_
  intro y m2 yv G2 H2 q2 f2 W2 r2
  cases r2 <;> first | exact (show False from q2).elim | skip
  rename_i l xs ds hx rr
  obtain ⟨ys, hy, hz, q⟩ := q2
  rw [strs_of rr hy] at hx
  exact ⟨a, l, ys, rfl, rfl, Or.inl (SqL.of (W2.ex _ _ hx)), hz, hQ _ m2 _ _ _ q (f1.trans f2) W2 (.str _)⟩
end

/-! ### loops and comprehensions over data -/
theorem lc_pure {j : Nat} {tt : WT} {te : WE} {ρ : En0} {Qx : XQ} {m : Mem} (p : D → Bool) (f : D → D) : ∀ (ds acc : List D) (Q : D → Mem → Prop),
    (∀ d ∈ ds, ∀ Q : Bool → Mem → Prop, Q (p d) m → tt (ρ.set j (some d)) m Q Qx) → (∀ d ∈ ds, p d = true → ∀ Q : D → Mem → Prop, Q (f d) m → te (ρ.set j (some d)) m Q Qx) →
    Q (.lst (acc ++ (ds.filter p).map f)) m → wLcGo (gvName j) tt te ρ Qx ds acc m Q
  | [], acc, Q, _, _, h => by
    rw [List.filter_nil, List.map_nil, List.append_nil] at h
    exact h
  | d :: ds, acc, Q, h1, h2, h => by
    refine h1 d List.mem_cons_self _ ?_
    by_cases hp : p d = true
    · rw [if_pos hp]
      refine h2 d List.mem_cons_self hp _ ?_
      refine lc_pure p f ds (acc ++ [f d]) Q (fun e he => h1 e (List.mem_cons_of_mem _ he)) (fun e he => h2 e (List.mem_cons_of_mem _ he)) ?_
      rw [List.filter_cons_of_pos hp, List.map_cons] at h
      rw [List.append_assoc]
      exact h
    · rw [if_neg hp]
      refine lc_pure p f ds acc Q (fun e he => h1 e (List.mem_cons_of_mem _ he)) (fun e he => h2 e (List.mem_cons_of_mem _ he)) ?_
      rw [List.filter_cons_of_neg hp] at h
      exact h
theorem lc_map {j : Nat} {te : WE} {ρ : En0} {Qx : XQ} {m : Mem} (f : D → D) (ds acc : List D) (Q : D → Mem → Prop) (h2 : ∀ d ∈ ds, ∀ Q : D → Mem → Prop, Q (f d) m → te (ρ.set j (some d)) m Q Qx)
    (h : Q (.lst (acc ++ ds.map f)) m) : wLcGo (gvName j) tvYes te ρ Qx ds acc m Q := by
  refine lc_pure (fun _ => true) f ds acc Q (fun _ _ _ q => q) (fun d hd _ => h2 d hd) ?_
  rw [List.filter_eq_self.mpr (fun _ _ => rfl)]
  exact h
/-- a comprehension whose items change what is owned: I by the items so far -/
theorem lc_inv {j : Nat} {te : WE} {ρ : En0} {Qx : XQ} (I : List D → Mem → Prop) (n : Nat) : ∀ (ds acc : List D) (m : Mem) (Q : D → Mem → Prop), acc.length + ds.length = n → I acc m →
    (∀ d ∈ ds, ∀ acc m, acc.length < n → I acc m → ∀ Q : D → Mem → Prop, (∀ y m', I (acc ++ [y]) m' → Q y m') → te (ρ.set j (some d)) m Q Qx) →
    (∀ acc' m', acc'.length = n → I acc' m' → Q (.lst acc') m') → wLcGo (gvName j) tvYes te ρ Qx ds acc m Q
  | [], acc, m, Q, hn, h0, _, h => h acc m hn h0
  | d :: ds, acc, m, Q, hn, h0, h1, h => by
    rw [List.length_cons] at hn
    refine h1 d List.mem_cons_self acc m (by omega) h0 _ fun y m' h' => ?_
    refine lc_inv I n ds (acc ++ [y]) m' Q ?_ h' (fun e he => h1 e (List.mem_cons_of_mem _ he)) h
    rw [List.length_append, List.length_singleton]
    omega
/-- a for whose turns each end in a next one: I between the turns -/
theorem loop_inv {g : WG} {body : WS} {E : De} (I : En0 → Mem → Prop) : ∀ (ds : List D) (ρ : En0) (m : Mem), I ρ m →
    (∀ d ∈ ds, ∀ ρ m, I ρ m → ∀ E' : De, E'.rt = E.rt → E'.ex = E.ex → (∀ ρ' m', I ρ' m' → E'.nx ρ' m') → (∀ ρ' m', I ρ' m' → E'.ct ρ' m') → g d ρ fun ρ1 => body E' ρ1 m) → (∀ ρ m, I ρ m → E.nx ρ m) → wLoop g body E ds ρ m
  | [], ρ, m, h0, _, h => h ρ m h0
  | d :: ds, ρ, m, h0, h1, h => by
    refine h1 d List.mem_cons_self ρ m h0 _ rfl rfl ?_ ?_
    · intro ρ' m' h'
      exact loop_inv I ds ρ' m' h' (fun e he => h1 e (List.mem_cons_of_mem _ he)) h
    · intro ρ' m' h'
      exact loop_inv I ds ρ' m' h' (fun e he => h1 e (List.mem_cons_of_mem _ he)) h

/-! ### defs, by data -/
abbrev DFn := List D → Mem → (D → Mem → Prop) → XQ → Prop
def FitXc (K : Fg) (mg : Str → Option Value) (G : Hp) (F : Hp) (Qx : XQ) (E : XK) : Prop := ∀ x m' cls d G' H', Qx x m' → mg x.cls = some cls → Ex G G' → Wd K G' m' F H' → Xr K G' x d → E cls d H'
def spD (K : Fg) (mg : Str → Option Value) (f : DFn) : Sp := fun vs H Q E => ∃ G m F ds Qd Qx, Wd K G m F H ∧ RpA K G vs ds ∧ f ds m Qd Qx ∧ FitE K G F Q Qd ∧ FitXc K mg G F Qx E
/-- a def's promise, where no repr is under way -/
structure FnG (P : Program) (w : World) (K : Fg) (mg : Str → Option Value) (base : Heap) (CX : CXT) (k : Nat) (f : Addr) (fd : FuncData) (ps : List Str) (sp : Sp) : Prop where
  size : ∀ vs H Q E, sp vs H Q E → vs.length = ps.length
  runs : ∀ (A : Around) (oe : List Env) (s : Shared) (H : Hp) (ar : Args) (us : List Value) (vs : List V) (Q : VK) (E : XK), A.guards = some [] → Room k A → Env0 P w K mg base A oe s H → BindsTo s fd ar (ps.zip us) →
    Vals vs us → sp vs H Q E → codeAny (model P w) A (.call (.ref f) ar) (CR CX oe P w H s Q E) s
section
variable {P : Program} {w : World} {K : Fg} {mg : Str → Option Value} {base : Heap} {k : Nat} {N : List Str} {W : Wx} {ι : Type} {X : ι → Cx} {f : Addr} {fd : FuncData} {ps : List Str} {pos : Pos}
theorem FnG.goes {X : Cx} {CX : CXT} {sp : Sp} {dvs : List V} {ds : List Value} {E : XK} {pins : List (Addr × Obj)} {σ : L2.St} {H : Hp} {s : Shared} {Q : VK} {us : List Value} {vs : List V} (Fn : FnG X.prog X.w X.K X.mg X.base CX k f fd ps sp)
    (hg : X.A.guards = some []) (hr : Room k X.A) (hb : Binds X.K fd ps ds) (hd : Vals dvs ds) (hx : Passes CX X E) (I : Inv X pins σ H s) (r : Vals vs us) (h : sp (vs ++ dvs) H Q E) :
    wpAny (model X.prog X.w) X.A (call (.ref f) us) (EP X pins σ Q) X.xe s := by
  have rr : Vals (vs ++ dvs) (us ++ ds) := r.append hd
  have hlen : (us ++ ds).length = ps.length := rr.length.symm.trans (Fn.size _ _ _ _ h)
  have goal := Fn.runs X.A X.stack s H ⟨us, []⟩ (us ++ ds) (vs ++ dvs) Q E hg hr I.env0 (hb s us I.kIn hlen) rr h
  refine wpAny_call (codeAny_mono goal ?_)
  rintro (e | fl) s' hq
  · exact hx pins σ H s e s' I hq
  · cases fl <;> first | exact I.after hq | exact (hq : False).elim
/-- f(e, ..) of the text, nothing raised -/
def wCall (fn : DFn) (a : WA) : WE := fun ρ m Q Qx => a ρ m (fun ds m1 => fn ds m1 Q (fun _ _ => False)) Qx
theorem pd_call {fn : DFn} {j : Nat} {x : Str} {p : Pos} {e : Expr} {es : List Expr} {wr : WA} (hX : FamG P w K mg base k N X) (Fn : FnG P w K mg base CX0 j f fd ps (spD K mg fn)) (hj : j ≤ k) (hg : ∀ i, Gl (X i) x) (hm : mg x = some (.ref f)) (hk : PySem.W.keepIn K (.ref f) = true)
    (hb : Binds K fd ps []) (ha : PDA K W X (e :: es) wr) (hd : (x == ("__debug__" : Str)) = false) (he : ∀ i, starEach (e :: es) (X i).env = (false, eval e (X i).env) :: starEach es (X i).env)
    (hpl : ∀ i, (backTo pos (starEach es (X i).env)).any (·.1) = false) : PD K W X (.Call (.Name x p) (e :: es) [] pos) (wCall fn wr) := by
  obtain ⟨t, a1, a2⟩ := ha
  refine ⟨fun σ H Q => t σ H fun vs H1 => spD K mg fn (vs ++ []) H1 Q E0, fun i => ⟨fun pins s σ H Q I h => ?_⟩, ?_⟩
  · have hmi : (X i).mg x = some (.ref f) := by rw [hX.mg i]; exact hm
    have Fi : FnG (X i).prog (X i).w (X i).K (X i).mg (X i).base CX0 j f fd ps (spD K mg fn) := by rw [hX.prog i, hX.w i, hX.K i, hX.mg i, hX.base i]; exact Fn
    refine wpAny_Call_Name_kw (ld_glob I (hg i) hmi ?_ hd)
    refine PySem.W.callWith_K (h₀ := (X i).base) I.ok.mod.kin (by rw [hX.K i]; exact hk) (thn ((a1 i).run pos pins s σ H _ I h) ?_) (he i) (hpl i)
    rintro us s1 ⟨vs, H1, I1, r, q⟩
    exact ⟨I1.kIn, Fi.goes (hX.guards i) ((hX.room i).mono hj) (by rw [hX.K i]; exact hb) .nil pass0 I1 r q⟩
  · intro G m F H σ ρ Q Qd Qx hW hE h hXx hQ
    refine a2 G m F H σ ρ _ _ Qx hW hE h hXx ?_
    intro ds m1 vs G1 H1 q e1 W1 r1
    refine ⟨G1, m1, F, ds, Qd, fun _ _ => False, W1, by rw [List.append_nil]; exact r1, q, ?_, fun _ _ _ _ _ _ z => z.elim⟩
    intro d m' v G' H' z e
    exact hQ d m' v G' H' z (e1.trans e)
/-- the def x of the text stands and keeps the promise fn -/
def Has (P : Program) (w : World) (K : Fg) (mg : Str → Option Value) (base : Heap) (j : Nat) (x : Str) (ps : List Str) (fn : DFn) : Prop :=
  ∃ f fd, FnG P w K mg base CX0 j f fd ps (spD K mg fn) ∧ mg x = some (.ref f) ∧ PySem.W.keepIn K (.ref f) = true ∧ Binds K fd ps []
theorem pd_own_call {fn : DFn} {j : Nat} {x : Str} {p : Pos} {e : Expr} {es : List Expr} {wr : WA} (hX : FamG P w K mg base k N X) (h : Has P w K mg base j x ps fn) (ha : PDA K W X (e :: es) wr) (hj : j ≤ k := by decide) (hg : ∀ i, Gl (X i) x := by intro _; rfl) (hd : (x == ("__debug__" : Str)) = false := by decide)
    (he : ∀ i, starEach (e :: es) (X i).env = (false, eval e (X i).env) :: starEach es (X i).env := by intro _; rfl) (hpl : ∀ i, (backTo pos (starEach es (X i).env)).any (·.1) = false := by intro _; rfl) : PD K W X (.Call (.Name x p) (e :: es) [] pos) (wCall fn wr) := by
  obtain ⟨f, fd, Fn, hm, hk, hb⟩ := h
  exact pd_call hX Fn hj hg hm hk hb ha hd he hpl
/-- a def of the text keeps its promise: its body's reading, by data -/
theorem fn_ok {x qual : Str} {st : Stmt} {fn : DFn} {wb : WS} (Fu : Fun K x qual st f fd) (S : FnScope N ps (defScope st)) (hlen : ∀ ds m Q Qx, fn ds m Q Qx → ds.length = ps.length)
    (hb : ∀ (cdv : Value) (A : Around) (oe : List Env) (s : Shared) (H : Hp) (E : XK), FamG P w K mg base k N (fun _ : Unit => (cxOf CX0 P w K mg base N qual (defScope st) f cdv A oe s H E).nox) →
      PDB K W (fun _ : Unit => (cxOf CX0 P w K mg base N qual (defScope st) f cdv A oe s H E).nox) (defBody st) wb)
    (hr : ∀ ds m Qd Qx, fn ds m Qd Qx → wb { nx := fun _ m' => Qd .non m', rt := Qd } (ds.map some ++ List.replicate (N.length - ds.length) none) m) :
    FnG P w K mg base CX0 (k + 1) f fd ps (spD K mg fn) := by
  obtain ⟨oc, od, kV, doc, pm, an, cdv, ct, osl, rfl, lk, hcd⟩ := Fu.ex
  have size : ∀ vs H Q E, spD K mg fn vs H Q E → vs.length = ps.length := by
    rintro vs H Q E ⟨G, m, F, ds, Qd, Qx, _, r, hf, _⟩
    exact r.len.trans (hlen _ _ _ _ hf)
  refine ⟨size, ?_⟩
  intro A oe s H ar us vs Q E hgd hrm e0 hbind r hsp
  have hl := size _ _ _ _ hsp
  have old : ∀ b o, base.get? b = some o → s.heap.get? b = some o := fun b o e => (e0.bs b o e).1
  have KX : K.In s.heap := e0.mod.kin.keeps old
  have lim : s.heap.NoLimit := e0.mod.nolimit.keeps old
  have kinds : ∀ y ∈ ps.zip us, (defScope st).names.lookup y.1 = some .local ∨ ((defScope st).names.lookup y.1 = some .cell ∧ ((cellsFrom (s.heap.objs.size + 1) (defScope st).names []).lookup y.1).isSome = true) := by
    rintro ⟨n, v⟩ hy
    rcases S.par n (List.of_mem_zip hy).1 with q | q
    · exact Or.inl q
    · exact Or.inr ⟨q, PySem.W.cellsFrom_some _ _ _ (Or.inl q)⟩
  refine codeAny_call_function hrm.depth (KX _ _ lk) rfl S.co S.gen rfl (PySem.W.codeRec_of KX hcd) (hbind _ _ _ _ ?_)
  refine wpAny_newFunctionEnv_cells S.kind kinds ?_
  rintro env rfl s1 nx
  refine ⟨lim.keeps nx.toInCall.keep, codeAny_func ?_⟩
  have fam : FamG P w K mg base k N (fun _ : Unit => (cxOf CX0 P w K mg base N qual (defScope st) f cdv A oe s H E).nox) :=
    { prog := fun _ => rfl, w := fun _ => rfl, K := fun _ => rfl, mg := fun _ => rfl, base := fun _ => rfl, hN := fun _ => rfl, calm := fun _ => rfl, room := fun _ => hrm.deeper _, nd := S.nd, guards := fun _ => hgd }
  obtain ⟨t, h1, h2⟩ := hb cdv A oe s H E fam
  have I : Inv (cxOf CX0 P w K mg base N qual (defScope st) f cdv A oe s H E) [] (start N vs) H s1 := inv_start S hrm.hd e0 hl r nx
  obtain ⟨G, m, F, ds, Qd, Qx, hW, rr, hf, hQ, _⟩ := hsp
  have reading : t { nx := fun _ H' => Q .non H', rt := Q } (start N vs) H := by
    refine h2 G m F H _ _ _ { nx := fun _ m' => Qd .non m', rt := Qd } hW ?_ (hr ds m Qd Qx hf) ⟨?_, ?_, ?_, ?_, ?_⟩
    · unfold L2.start
      rw [rr.len]
      exact En.start _ rr
    · intro ρ' m' σ' G' H' q e W' _
      exact hQ _ m' _ G' H' q e W' .non
    · exact hQ
    · intro _ _ _ _ _ z; exact z.elim
    · intro _ _ _ _ _ z; exact z.elim
    · intro _ _ _ _ _ _ z; exact z.elim
  refine wpAny_mono (((h1 ()).nox).run [] s1 (start N vs) H _ I reading) ?_ fun e s' z => z
  have fin : ∀ {s' : Shared} {σ' : L2.St} {H' : Hp} {v : V} {u : Value}, Inv (cxOf CX0 P w K mg base N qual (defScope st) f cdv A oe s H E) [] σ' H' s' → RelV v u → Q v H' → CE oe P w H s Q u s' := by
    intro s' σ' H' v u J rv q
    exact ⟨v, H', J.os, J.bare, J.base, J.hok, rv, q⟩
  intro fl s' hs
  cases fl
  case ret u =>
    obtain ⟨v, σ', H', J, rv, q⟩ := hs
    exact fin J rv q
  case next =>
    obtain ⟨σ', H', J, q⟩ := hs
    exact fin (v := V.non) (u := Value.none) J rfl q
  case brk =>
    obtain ⟨_, _, _, q⟩ := hs
    exact (q : False).elim
  case cont =>
    obtain ⟨_, _, _, q⟩ := hs
    exact (q : False).elim
/-- a def of the text as it stands behind the top -/
def FunAt (K : Fg) (mg : Str → Option Value) (x qual : Str) (st : Stmt) (ps : List Str) : Prop := ∃ f fd, mg x = some (.ref f) ∧ Fun K x qual st f fd ∧ Binds K fd ps []
theorem has_of {x qual : Str} {st : Stmt} {fn : DFn} {wb : WS} (Fu : FunAt K mg x qual st ps) (S : FnScope N ps (defScope st)) (hlen : ∀ ds m Q Qx, fn ds m Q Qx → ds.length = ps.length)
    (hb : ∀ (f : Addr) (cdv : Value) (A : Around) (oe : List Env) (s : Shared) (H : Hp) (E : XK), FamG P w K mg base k N (fun _ : Unit => (cxOf CX0 P w K mg base N qual (defScope st) f cdv A oe s H E).nox) →
      PDB K W (fun _ : Unit => (cxOf CX0 P w K mg base N qual (defScope st) f cdv A oe s H E).nox) (defBody st) wb)
    (hr : ∀ ds m Qd Qx, fn ds m Qd Qx → wb { nx := fun _ m' => Qd .non m', rt := Qd } (ds.map some ++ List.replicate (N.length - ds.length) none) m) : Has P w K mg base (k + 1) x ps fn := by
  obtain ⟨f, fd, hm, F, hbi⟩ := Fu
  exact ⟨f, fd, fn_ok F S hlen (hb f) hr, hm, F.kp, hbi⟩
theorem at_mk {h : Heap} {x qual : Str} {st : Stmt} {f : Addr} {oc : Value} {od an : Option Addr} {osl : Array (Option Value)} {kV doc pm cdv ct : Value} (X : K.In h) (G : h.Ns mainGlobals mg) (a : PySem.W.nsIn K mainGlobals x = some (some (.ref f)))
    (l : K.lookup f = some ⟨oc, od, .func (PySem.W.fnOf x qual (defArgs st) (defBody st) (defScope st) .none kV doc pm an cdv ct), osl⟩) (c : PySem.W.codeIn K cdv qual = true) (kp : PySem.W.keepIn K (.ref f) = true)
    (hb : ∀ (kV doc pm : Value) (an : Option Addr) (cdv ct : Value) (us : List Value), us.length = ps.length → bindArgs (PySem.W.fnOf x qual (defArgs st) (defBody st) (defScope st) .none kV doc pm an cdv ct) ⟨us, []⟩ = pure (ps.zip us)) : FunAt K mg x qual st ps :=
  ⟨f, _, PySem.W.mg_of X G a, fun_mk l c kp, (fun_mk l c kp).binds hb⟩
end

/-! ### the end -/
open PyProof.Rows (AllBare IntsAre)
/-- what is asked of the law's def: handed the script it gives True -/
def lawFn (n : Nat) : DFn := fun ds m Q _ => ∃ ns : List Int, ds = [.scr ns] ∧ ns.length ≤ n ∧ ∀ m', Q (.bl true) m'
theorem lawFn_len {n : Nat} : ∀ ds m Q Qx, lawFn n ds m Q Qx → ds.length = (["_law_script"] : List Str).length := by
  rintro ds m Q Qx ⟨ns, rfl, _⟩
  rfl
section
variable {P : Program} {w : World} {K : Fg} {mg mb : Str → Option Value} {k n : Nat} {fa a : Addr} {fd : FuncData} {x : Str} {s1 : Shared} {vs : List Value} {ns : List Int}
theorem from_only (H : Hp) (hO : Only H) (hS : SqL K H a (ns.map V.int)) (hok : HOk P w H s1.heap) (hA : ∀ b, H b ≠ none → b = a) (hK : H a ≠ none → K.lookup a = none) (KX : K.In s1.heap) (hns : s1.heap.Ns mainGlobals mg) (hb : s1.heap.Ns builtinsNs mb)
    (hbb : ∀ y : Str, y ≠ "__name__" → mb y = bootBuiltins y) (hlim : s1.heap.NoLimit) (hg : s1.gens = #[]) (ha : s1.heap.get? a = some { cls := .type "list", data := .seq vs.toArray }) (hl : ns.length ≤ n) (hr : Room k callerA)
    (F : ∀ base : Heap, K.In base → base.Ns mainGlobals mg → FnG P w K mg base CX0 k fa fd [x] (spD K mg (lawFn n))) (hbind : ∀ (s : Shared) (u : Value), BindsTo s fd ⟨[u], []⟩ [(x, u)]) :
    codeAny (model P w) callerA (.call (.ref fa) ⟨[.ref a], []⟩) (fun r s' => r = .ok (.ret (.bool true)) ∧ OldK s1.heap s'.heap ∧ s'.os = s1.os ∧ AllBare s'.gens) s1 := by
  have only_a : ∀ {b : Addr} {u : HO}, H b = some u → b = a := by
    intro b u q
    exact hA b (by rw [q]; exact fun z => by cases z)
  have bare : ∀ {b : Addr} {o : Obj} {es : Array DictEntry} {ep : Nat}, s1.heap.get? b = some o → o.data = .dict es ep → H b = none := by
    intro b o es ep e d
    cases q : H b with
    | none => rfl
    | some u =>
      have e' := only_a q
      subst e'
      rw [ha] at e
      cases e
      cases (d : Data.seq vs.toArray _ = Data.dict es ep)
  have nsOf : ∀ {b : Addr} {m : Str → Option Value}, s1.heap.Ns b m → (hidT s1.heap H).Ns b m := by
    rintro b m ⟨o, es, ep, e, d, r⟩
    exact ⟨o, es, ep, hidT_get e (bare e d), d, r⟩
  have kin : K.In (hidT s1.heap H) := by
    intro b o e
    refine hidT_get (KX b o e) ?_
    cases q : H b with
    | none => rfl
    | some u =>
      have e' := only_a q
      subst e'
      have := hK (by rw [q]; exact fun z => by cases z)
      rw [this] at e
      cases e
  have lim2 : (hidT s1.heap H).NoLimit := by
    obtain ⟨mc, h1, h2⟩ := hlim
    exact ⟨mc, nsOf h1, h2⟩
  have md : Mod K mg (hidT s1.heap H) := ⟨kin, nsOf hns, ⟨mb, nsOf hb, hbb⟩, lim2⟩
  have e0 : Env0 P w K mg (hidT s1.heap H) callerA [] s1 H := ⟨rfl, md, fun _ _ e => of_hidT e, Nat.le_of_eq (hidT_size _ _), trivial, (fun b hb => nomatch hb), hok, PyProof.Rows.AllBare.of_eq hg⟩
  have W0 : Wd K H (fun _ => none) (fun _ => none) H := ⟨fun _ _ h => h, (fun _ _ h => nomatch h), (fun _ _ h => nomatch h), (fun _ _ h => nomatch h)⟩
  have sp : spD K mg (lawFn n) [.ref a] H (fun v _ => v = .bl true) (fun _ _ _ => False) := by
    refine ⟨H, fun _ => none, fun _ => none, [.scr ns], fun d _ => d = .bl true, fun _ _ => False, W0, .cons (.scr hS) .nil, ⟨ns, rfl, hl, fun _ => rfl⟩, ?_, fun _ _ _ _ _ _ z => z.elim⟩
    rintro d m' v G' H' rfl _ _ r
    cases r
    rfl
  refine codeAny_mono ((F _ kin (nsOf hns)).runs callerA [] s1 H ⟨[.ref a], []⟩ [.ref a] [.ref a] _ _ rfl hr e0 (hbind s1 (.ref a)) (.cons rfl .nil) sp) ?_
  rintro (e | fl) s' h
  · exact (h : False).elim
  cases fl <;> first | exact (h : False).elim | skip
  rename_i u
  obtain ⟨v, H', os, br, un, hok', r', q⟩ := h
  have q : v = .bl true := q
  subst q
  have r' : u = Value.bool true := r'
  subst r'
  refine ⟨rfl, OldK.of_keep ?_, os, br⟩
  intro b o e
  cases q : H b with
  | none => exact un.keep b o e q (by intro z; cases z) (by intro z; cases z)
  | some u =>
    rcases hO b with z | ⟨ob, xs, z⟩
    · rw [q] at z; cases z
    · have t1 := (hok b _ z).1
      have t2 := (hok' b _ (un.frzs b ob _ z)).1
      rw [e] at t1
      cases t1
      exact t2
theorem law_runs (KX : K.In s1.heap) (hns : s1.heap.Ns mainGlobals mg) (hb : s1.heap.Ns builtinsNs mb) (hbb : ∀ y : Str, y ≠ "__name__" → mb y = bootBuiltins y) (hlim : s1.heap.NoLimit) (hg : s1.gens = #[])
    (ha : s1.heap.get? a = some { cls := .type "list", data := .seq vs.toArray }) (hi : IntsAre vs ns) (hl : ns.length ≤ n) (hn : n ≤ sizeLine) (hr : Room k callerA)
    (F : ∀ base : Heap, K.In base → base.Ns mainGlobals mg → FnG P w K mg base CX0 k fa fd [x] (spD K mg (lawFn n))) (hbind : ∀ (s : Shared) (u : Value), BindsTo s fd ⟨[u], []⟩ [(x, u)]) :
    codeAny (model P w) callerA (.call (.ref fa) ⟨[.ref a], []⟩) (fun r s' => r = .ok (.ret (.bool true)) ∧ OldK s1.heap s'.heap ∧ s'.os = s1.os ∧ AllBare s'.gens) s1 := by
  have rv := vals_ints hi
  have lz : ns.length ≤ sizeLine := Nat.le_trans hl hn
  have sz : (ns.map V.int).length ≤ sizeLine := by rw [List.length_map]; exact lz
  have vz : vs.length ≤ sizeLine := by rw [← rv.length]; exact sz
  cases hk : K.lookup a with
  | some o =>
    have e := KX a o hk
    rw [ha] at e
    cases e
    refine from_only (fun _ => none) (fun _ => Or.inl rfl) (Or.inr ⟨_, vs.toArray, _, hk, rfl, rfl, rfl, by rw [List.size_toArray]; exact vz, by simpa using rv⟩) (by intro b u z; cases z) (by intro b z; exact absurd rfl z) (by intro z; exact absurd rfl z) KX hns hb hbb hlim hg ha hl hr F hbind
  | none =>
    have at_a : ∀ {b : Addr} {u : HO}, (if b = a then some (HO.frz { cls := .type "list", data := .seq vs.toArray } (.lst (ns.map V.int))) else none) = some u → b = a ∧ u = HO.frz { cls := .type "list", data := .seq vs.toArray } (.lst (ns.map V.int)) := by
      intro b u z
      by_cases hba : b = a
      · rw [if_pos hba] at z; cases z; exact ⟨hba, rfl⟩
      · rw [if_neg hba] at z; cases z
    refine from_only (fun b => if b = a then some (.frz { cls := .type "list", data := .seq vs.toArray } (.lst (ns.map V.int))) else none) ?_ (Or.inl (Or.inr ⟨_, if_pos rfl⟩)) ?_ ?_ (fun _ => hk) KX hns hb hbb hlim hg ha hl hr F hbind
    · intro b
      by_cases hba : b = a
      · exact Or.inr ⟨_, _, if_pos hba⟩
      · exact Or.inl (if_neg hba)
    · intro b u z
      obtain ⟨rfl, rfl⟩ := at_a z
      exact ⟨ha, sz, vs, _, rv, ha⟩
    · intro b z
      by_cases hba : b = a
      · exact hba
      · exact absurd (if_neg hba) z
end
/-- the goal that the head leaves -/
theorem the_end {l : PySem.W.OpenLaw} {n k : Nat} {q : Program} {loose : List Str} {XP : (Str → Option Value) → Heap → Prop} {YP : World → Heap → Prop} {d : DefRec} {K : Params → Fg} {x : Str}
    (hn : l.most = some n) (hz : n ≤ sizeLine) (hdf : d.params.defaults = []) (hr : Room k callerA) (hY : ∀ (w : World) (h : Heap), YP w h → (K w.params).In h)
    (F : ∀ (w : World) (mg : Str → Option Value) (fa : Addr) (h : Heap), (K w.params).In h → h.Ns mainGlobals mg → mg d.name = some (.ref fa) →
      ∃ fd : FuncData, (∀ (s : Shared) (u : Value), BindsTo s fd ⟨[u], []⟩ [(x, u)]) ∧ ∀ base : Heap, (K w.params).In base → base.Ns mainGlobals mg → FnG l.prog w (K w.params) mg base CX0 k fa fd [x] (spD (K w.params) mg (lawFn n))) :
    PySem.W.WalkO q loose XP YP l.row.toRowW d [] (fun f vs => PySem.call f vs) := by
  refine Att.attach_call hn hdf ?_
  intro w s0 s1 mg mb fa o pm cd doc a vs ns G Y ho hd hcd hmg hobj hints hlen hg
  obtain ⟨fd, hb, hF⟩ := F w mg fa _ (hY w _ Y) G.T.g hmg
  exact law_runs (hY w _ Y) G.T.g G.T.b G.T.builtins G.T.nolimit hg hobj hints hlen hz hr hF hb
end DL
/-! XO: exception classes «def __init__(self, f): super().__init__('..'); self.f = f», made, raised, caught. -/
namespace XO
open PySem PySem.W PySem.Calls PyProof.Rows PySem.HandSPX
def iA (fld : Str) (p1 p2 : Pos) : Arguments := { posonlyargs := [], args := [{ arg := "self", annotation := none, pos := p1 }, { arg := fld, annotation := none, pos := p2 }], vararg := none, kwonlyargs := [], kw_defaults := [], kwarg := none, defaults := [] }
def iB (fld msg : Str) (j : Nat) (a1 a2 a3 a4 a5 a6 q1 q2 q3 q4 : Pos) : List Stmt :=
  [.Expr (.Call (.Attribute (.Call (.Name "super" a1) [] [] a2) "__init__" a3) [.Constant (.str msg) j a4] [] a5) a6, .Assign [.Attribute (.Name "self" q1) fld q2] (.Name fld q3) q4]
def iS (fld : Str) : Scope := { kind := .function, names := [(PySem.Str.ofString "self", .local), (fld, .local), (PySem.Str.ofString "__class__", .free), (PySem.Str.ofString "super", .globalImplicit)], isGenerator := false, isCoroutine := false, more := [] }
/-- what makes an own exception: the maker bears the name of some built-in BN -/
structure NewF (BN newId : String) (bmB : List Value) : Prop where
  quiet : newId.startsWith "lifetime." = false
  kind : builtinKind newId = some .builtinFn
  split : splitId newId = some (BN, "__new__")
  row : Manifest.signature? newId = some ⟨.any, BN, BN, .cls, [⟨"args", .varPos, false⟩, ⟨"kwargs", .varKw, false⟩]⟩
  ends : newId.endsWith ".__new__" = true
  owner : newId.dropRight 8 = BN
  entry : entryFor table newId = some Builtin.«BaseException.__new__»
  canon : Manifest.canonical newId = Manifest.canonical "BaseException.__new__"
  noStar : (BN != "*") = true
  has : bmB.contains (.type BN) = true
  noAttr : bmB.contains (.type "AttributeError") = false
  noName : bmB.contains (.type "NameError") = false
/-- what the built-in __init__ of the base B asks -/
structure InitF (B initId : String) : Prop where
  plain : plainId initId = true
  entry : entryFor table initId = some Builtin.«BaseException.__init__»
  kind : builtinKind initId = some .slot
  row : Manifest.signature? initId = some ⟨.positional, "*", B, .self, [⟨"args", .varPos, false⟩]⟩
  noStar : (B != "*") = true
theorem NewF.of {B newId initId : String} {bm : List Value} (F : ExcBaseFacts B newId initId bm) : NewF B newId bm :=
  ⟨F.quiet, F.newKind, F.newSplit, F.newRow, F.ends, F.owner, F.entry, F.canon, F.noStar, F.hasB, F.noAttr, F.noName⟩
theorem InitF.of {B newId initId : String} {bm : List Value} (F : ExcBaseFacts B newId initId bm) : InitF B initId :=
  ⟨F.init.plain, F.initEntry, F.initKind, F.initRow, F.noStar⟩
/-- a built-in base: its facts -/
structure Base (B newId initId : String) (bmB : List Value) : Prop where
  new : ∃ BN, NewF BN newId bmB
  ini : InitF B initId
  KF : KxsFacts B initId
  pass : ∀ self, refuseLoop self "__setattr__" bmB = pure ()
  obj : bmB.contains (.type "object") = true
theorem base_ValueError : Base "ValueError" "ValueError.__new__" "ValueError.__init__" [.type "ValueError", .type "Exception", .type "BaseException", .type "object"] :=
  ⟨⟨_, .of F.excBase_ValueError⟩, .of F.excBase_ValueError, kxs_ValueError, fun s => F.store_ValueError.passes s, by decide +kernel⟩
theorem base_LookupError : Base "LookupError" "LookupError.__new__" "LookupError.__init__" [.type "LookupError", .type "Exception", .type "BaseException", .type "object"] :=
  ⟨⟨_, .of F.excBase_LookupError⟩, .of F.excBase_LookupError, kxs_LookupError, fun s => F.store_LookupError.passes s, by decide +kernel⟩
theorem new_KeyError : NewF "LookupError" "LookupError.__new__" [.type "KeyError", .type "LookupError", .type "Exception", .type "BaseException", .type "object"] :=
  have F := NewF.of F.excBase_LookupError
  ⟨F.quiet, F.kind, F.split, F.row, F.ends, F.owner, F.entry, F.canon, F.noStar, by decide +kernel, by decide +kernel, by decide +kernel⟩
theorem init_KeyError : InitF "KeyError" "KeyError.__init__" :=
  ⟨excClass_KeyError.init.plain, excClass_KeyError.initEntry, excClass_KeyError.initKind, by kernel_rfl, by decide +kernel⟩
theorem kxs_KeyErr : KxsFacts "KeyError" "KeyError.__init__" := ⟨by show builtinType _ = _; rw [builtinType_eq_fast]; kernel_rfl, by first | kernel_rfl | rfl⟩
theorem pass_KeyError (s : Value) : refuseLoop s "__setattr__" [.type "KeyError", .type "LookupError", .type "Exception", .type "BaseException", .type "object"] = pure () := by
  have h := F.store_LookupError.passes s
  kernel_rfl
theorem base_KeyError : Base "KeyError" "LookupError.__new__" "KeyError.__init__" [.type "KeyError", .type "LookupError", .type "Exception", .type "BaseException", .type "object"] :=
  ⟨⟨_, new_KeyError⟩, init_KeyError, kxs_KeyErr, pass_KeyError, by decide +kernel⟩
section
variable {prog : Program} {w : World} {M : Model} {A : Around} {E : Value → Shared → Prop} {R : Result → Shared → Prop} {h : Heap} {g : Array GenState} {d : Drawn} {t : Nat} {os : OsState}
variable {nm q : Str} {C N : Addr} {bs bm bmB : List Value} {hdct : Bool} {sn : List Str} {sub : List Value} {ab : Bool} {col : Option Bool} {dd : Option Addr} {k0 k1 k2 k3 k5 : Option Value} {BN newId : String}
/-- the maker of the base, called on an own class -/
theorem nf_check (F : NewF BN newId bmB) (hT : ∀ X : String, bm.contains (.type X) = bmB.contains (.type X)) {rest : List Value} {Q : Unit → Shared → Prop}
    (hC : h.get? C = some (excClassObj nm q C N bs bm hdct sn sub ab col dd k0 k1 k2 k3 k5 newId)) (hq : Q () ⟨h, g, d, t, os⟩) :
    wpAny M A (checkBuiltinCall newId ⟨.ref C :: rest, []⟩) Q E ⟨h, g, d, t, os⟩ := by
  have yes : (Value.ref C :: bm).contains (.type BN) = true := by
    rw [List.contains_cons, hT, F.has, Bool.or_true]
  have star := F.noStar
  simp only [checkBuiltinCall, F.kind, F.split, F.row]
  repeat (first | refine wpAny_loadPart_at hC ?_
                | (refine wpAny_isSubtype_exc hC ?_; rw [yes])
                | refine wpAny_staticBase_exc hC ?_
                | refine wpAny_madeBy_exc hC ?_
                | simp only [bne_self_eq_false, Bool.false_eq_true, if_false]
                | wp_step)
  exact hq
theorem nf_new (F : NewF BN newId bmB) (hT : ∀ X : String, bm.contains (.type X) = bmB.contains (.type X)) {rest : List Value}
    (hC : h.get? C = some (excClassObj nm q C N bs bm hdct sn sub ab col dd k0 k1 k2 k3 k5 newId))
    (hq : R (.ok (.ret (.ref (h.objs.size + 1)))) ⟨(h.push (kdv_tup rest)).push (excO C h.objs.size), g, d, t, os⟩) (hz : rest.length ≤ sizeLine) :
    codeAny (model prog w) A (.builtin newId ⟨.ref C :: rest, []⟩) R ⟨h, g, d, t, os⟩ := by
  have hends := F.ends
  have y1 : (Value.ref C :: bm).contains (.type BN) = true := by
    rw [List.contains_cons, hT, F.has, Bool.or_true]
  have y2 : (Value.ref C :: bm).contains (.type "AttributeError") = false := by
    rw [List.contains_cons, hT, F.noAttr]; rfl
  have y3 : (Value.ref C :: bm).contains (.type "NameError") = false := by
    rw [List.contains_cons, hT, F.noName]; rfl
  refine codeAny_builtinAt F.entry ?_
  unfold Builtin.«BaseException.__new__»
  refine PySem.wpAt_bind ?_
  show PySem.wpAt _ _ _ (stack >>= _) _ _ _
  refine PySem.wpAt_bind (PySem.wpAt_stack fun p below => PySem.wpAt_of_wpAny ?_)
  wp_walk
  refine PySem.wpAt_of_wpAny ?_
  rw [F.owner]
  repeat (first | with_reducible refine wpAny_madeHere_exc F.canon hC ?_
                | with_reducible refine wpAny_loadPart_at hC ?_
                | (with_reducible refine wpAny_isSubtype_exc hC ?_; first | rw [y1] | rw [y2] | rw [y3])
                | wp_step)
  show R _ _
  rw [Heap.size_push]
  exact hq
theorem nf_make (F : NewF BN newId bmB) (hT : ∀ X : String, bm.contains (.type X) = bmB.contains (.type X)) {rest : List Value} {fI : Addr} {Q : Fin → Shared → Prop}
    (hC : h.get? C = some (excClassObj nm q C N bs bm hdct sn sub ab col dd k0 k1 k2 k3 k5 newId))
    (hi : W.Looks (model prog w) h (typeLookup (.ref C) "__init__") (some (.ref fI))) (hb : ∀ self, W.Looks (model prog w) h (bindSpecial (.ref fI) self) (.ref fI, [self])) (hz : rest.length ≤ sizeLine)
    (hq : codeAny (model prog w) A (.call (.ref fI) ⟨.ref (h.objs.size + 1) :: rest, []⟩)
      (fun r s' => match r with
        | .ok (.ret v) => v = .none ∧ Q (.done (.ret (.ref (h.objs.size + 1)))) s'
        | .ok _ => False
        | .error e => E e s')
      ⟨(h.push (kdv_tup rest)).push (excO C h.objs.size), g, d, t, os⟩) :
    wpAny (model prog w) A (Builtin.«type.__call__» ⟨.ref C :: rest, []⟩) Q E ⟨h, g, d, t, os⟩ := by
  repeat (first | with_reducible refine wpAny_loadPart_at hC ?_ | with_reducible refine wpAny_madeBy_exc hC ?_ | wp_step)
  refine codeAny_call_builtin_code (Code.quiet_builtin _ F.quiet) (nf_check F hT hC ?_)
  refine nf_new F hT hC ?_ hz
  show wpAny _ _ _ _ _ _
  have kk : ∀ b o, h.get? b = some o → ((h.push (kdv_tup rest)).push (excO C h.objs.size)).get? b = some o :=
    fun b o e => Heap.get?_push_of_some _ (Heap.get?_push_of_some _ e)
  have c1 := kk _ _ hC
  have there : ((h.push (kdv_tup rest)).push (excO C h.objs.size)).get? (h.objs.size + 1) = some (excO C h.objs.size) := by heap_get
  have mine : (Value.ref C :: bm).contains (.ref C) = true := by simp
  have i1 := hi.keeps kk
  have b1 := (hb (.ref (h.objs.size + 1))).keeps kk
  unfold isInstance
  repeat (first | with_reducible refine wpAny_loadPart_at there ?_ | (with_reducible refine wpAny_isSubtype_exc c1 ?_; rw [mine]) | wp_step)
  show wpAny _ _ (typeLookup (.ref C) _) _ _ _
  refine i1.at ?_
  refine wpAny_holding (wpAny_bind (b1.at ?_))
  refine wpAny_bind (wpAny_call (codeAny_mono hq fun r s' z => ?_))
  rcases r with e | (v | _ | _ | _) <;> first | exact z | exact z.elim | skip
  obtain ⟨rfl, z⟩ := z
  first
    | exact wpAny_pure (wpAny_pure z)
    | (wp_walk; exact z)
theorem nf_call (F : NewF BN newId bmB) (hT : ∀ X : String, bm.contains (.type X) = bmB.contains (.type X)) {rest : List Value} {fI : Addr}
    (hC : h.get? C = some (excClassObj nm q C N bs bm hdct sn sub ab col dd k0 k1 k2 k3 k5 newId))
    (hi : W.Looks (model prog w) h (typeLookup (.ref C) "__init__") (some (.ref fI))) (hb : ∀ self, W.Looks (model prog w) h (bindSpecial (.ref fI) self) (.ref fI, [self])) (hz : rest.length ≤ sizeLine)
    (hq : codeAny (model prog w) (A.under (.builtin "type.__call__" ⟨.ref C :: rest, []⟩)) (.call (.ref fI) ⟨.ref (h.objs.size + 1) :: rest, []⟩) (W.InitBack (h.objs.size + 1) R)
      ⟨(h.push (kdv_tup rest)).push (excO C h.objs.size), g, d, t, os⟩) :
    codeAny (model prog w) A (.call (.ref C) ⟨rest, []⟩) R ⟨h, g, d, t, os⟩ := by
  have f1 := tc_lookup
  have f2 := tc_bind (.ref C)
  have ty : (⟨h, g, d, t, os⟩ : Shared).TypeIs (.ref C) "type" := ⟨_, hC, rfl⟩
  refine codeAny_of_tree ?_
  show wpAny _ _ (callAny (.ref C) _) _ _ _
  repeat (any_goals (first | assumption | with_reducible refine wpAny_loadPart_at hC ?_ | wp_step))
  refine ⟨rfl, ?_⟩
  have en := entry_typeCall
  refine codeAny_call_builtin_at (Code.quiet_builtin _ (by decide +kernel)) en (wpAny_check_type_call_sub hC (nf_make F hT hC hi hb hz ?_))
  refine codeAny_mono hq fun r s' z => ?_
  rcases r with e | (v | _ | _ | _) <;> exact z
theorem nf_bound {cls initId : String} (F : InitF cls initId) {e : Addr} {oe : Obj} {rest : List Value} {Q : Unit → Shared → Prop}
    (hC : h.get? C = some (excClassObj nm q C N bs bm hdct sn sub ab col dd k0 k1 k2 k3 k5 newId)) (he : h.get? e = some oe) (hc : oe.cls = .ref C) (hq : Q () ⟨h, g, d, t, os⟩) :
    wpAny M A (checkBoundCall initId ⟨.ref e :: rest, []⟩) Q E ⟨h, g, d, t, os⟩ := by
  have star := F.noStar
  simp only [checkBoundCall, F.kind, F.row]
  repeat (first | (with_reducible refine wpAny_loadPart_at he ?_; rw [hc]) | with_reducible refine wpAny_loadPart_at hC ?_ | wp_step)
  refine wpAny_onRaise ?_
  have sa : ∀ (a b : String) (n : Nat), Bind.check ⟨.positional, "*", cls, .self, [⟨"args", .varPos, false⟩]⟩ a b n (List.map (fun x => x.fst) ({ pos := Value.ref e :: rest } : Args).kw) = pure () :=
    fun _ _ _ => check_star_args _ _ _ _ _ _
  rw [sa]
  exact wpAny_pure hq
end
/-- how the two arguments bind -/
def BindOk (fld : Str) : Prop := ∀ (qual : Str) (body : List Stmt) (p1 p2 : Pos) (doc pm cdv ct : Value) (an : Option Addr) (cc : Addr) (u v : Value),
  bindArgs (ksFn "__init__" qual (iA fld p1 p2) body (iS fld) .none .none doc pm an cdv ct cc) ⟨[u, v], []⟩ = pure ([((PySem.Str.ofString "self"), u), (fld, v)] : List (Str × Value))
theorem bind_value : BindOk "value" := fun _ _ _ _ _ _ _ _ _ _ _ _ => rfl
theorem bind_label : BindOk "label" := fun _ _ _ _ _ _ _ _ _ _ _ _ => rfl
theorem bind_index : BindOk "index" := fun _ _ _ _ _ _ _ _ _ _ _ _ => rfl
theorem bind_most : BindOk "most" := fun _ _ _ _ _ _ _ _ _ _ _ _ => rfl
theorem bind_parts : BindOk "parts" := fun _ _ _ _ _ _ _ _ _ _ _ _ => rfl
/-- what the written part says of the class at C and of its __init__ at fI -/
structure XT (main : Str) (K : Frag) (C fI : Addr) (fld : Str) (B newId initId : String) (bmB : List Value) : Prop where
  cls : ∃ nm q N bs bm sn sub ab col dd k0 k1 k2 k3 k5, K.lookup C = some (excClassObj nm q C N bs bm true sn sub ab col dd k0 k1 k2 k3 k5 newId) ∧ excTail bmB bm = true
  sa : findIn K (.ref C) "__setattr__" = some (some (.builtin "object.__setattr__"))
  ga : findIn K (.ref C) "__getattribute__" = some (some (.builtin "BaseException.__getattribute__"))
  gg : findIn K (.ref C) "__getattr__" = some none
  noN : findIn K (.ref C) fld = some none
  iC : findIn K (.ref C) "__init__" = some (some (.ref fI))
  tC : typeIn K (.ref fI) = some (.type "function")
  kC : keepIn K (.ref C) = true
  exC : subIn K (.ref C) (.type "BaseException") = some true
  tyC : typeIn K (.ref C) = some (.type "type")
  hdC : hasDictIn K C = true
  subB : subIn K (.ref C) (.type B) = some true
  mroC : mroIn K C (.ref C) = some true
  statics : nsIn K cStatics "thirdparty.any" = some none
  along : ks_superIn K C C "__init__" = some (some (.builtin initId))
  fn : ∃ (oc : Value) (od : Option Addr) (qual : Str) (doc pm : Value) (an : Option Addr) (cda cc : Addr) (ct : Value) (osl : Array (Option Value)) (msg : Str) (j : Nat) (p1 p2 a1 a2 a3 a4 a5 a6 q1 q2 q3 q4 : Pos),
    K.lookup fI = some ⟨oc, od, .func (ksFn "__init__" qual (iA fld p1 p2) (iB fld msg j a1 a2 a3 a4 a5 a6 q1 q2 q3 q4) (iS fld) .none .none doc pm an (.ref cda) ct cc), osl⟩ ∧ codeIn K (.ref cda) qual = true ∧
    (∃ cl cld csl, K.lookup cc = some ⟨cl, cld, .cell (some (.ref C)), csl⟩) ∧ ∃ ccl cdd vs ccs file tf, K.lookup cda = some ⟨ccl, cdd, .fields vs, ccs⟩ ∧ vs[2]? = some (.str file tf) ∧ (main == file) = true ∧ (a3.endLine == a5.line) = true
  bind : BindOk fld
  names : (fld == ("self" : Str)) = false ∧ (fld == ("__debug__" : Str)) = false ∧ (("self" : Str) == fld) = false ∧ (("super" : Str) == fld) = false ∧ (("__class__" : Str) == fld) = false
theorem ldL {M : Model} {A : Around} {E : Value → Shared → Prop} {s : Shared} {env : Env} {m : Str → Option Value} {x : Str} {pos : Pos} {v : Value} {Q : Value → Shared → Prop} (hn : s.heap.Ns env.locals m) (hv : m x = some v) (h : Q v s)
    (hk : env.scope.kind = .function) (hl : env.kindOf x = some .local) (hd : (x == ("__debug__" : Str)) = false) : wpAny M A (eval (.Name x pos) env) Q E s := wpAny_Name (wpAny_loadName_local hk hl hn hv h) hd
theorem ev_sup {o : Expr} {name msg : Str} {apos pos a4 : Pos} {j : Nat} {env : Env} (hl : (apos.endLine == pos.line) = true) : eval (.Call (.Attribute o name apos) [.Constant (.str msg) j a4] [] pos) env = (do
      let ov ← attributeBase o name env (eval o env)
      standAt apos.atName
      let (f, first) ← holding [ov] (getMethod ov name (do return (← importBound o env).getD true))
      callWith pos f first (backTo pos (starEach [.Constant (.str msg) j a4] env)) []) := by
  have hp : methodCallPos true o env apos pos = pure pos := by unfold methodCallPos; simp [hl]
  have hf : methodCallForm ([Expr.Constant (.str msg) j a4].length + ([] : List Keyword).length) (backTo pos (starEach [.Constant (.str msg) j a4] env)) (backToKw pos (keywordEach [] env)) = true := by rfl
  rw [arm_eval_Call]
  unfold methodCall
  rw [hf, hp]
  simp only [pure_bind]
  rfl
/-- self.f = v on an exception that has no dict yet -/
theorem xo_store {prog : Program} {w : World} {A : Around} {R : Result → Shared → Prop} {hp : Heap} {g : Array GenState} {d : Drawn} {t : Nat} {os : OsState} {K : Frag} {name : Str} {tk : Tok} {v : Value} {x C : Addr} {fv : Array Value} {cd : ClassData}
    (X : K.In hp) (hx : hp.get? x = some { cls := .ref C, data := .fields fv }) (hcd : clsIn K C = some cd) (ne : cd.mro.isEmpty = false) (hpass : refuseLoop (.ref x) "__setattr__" cd.mro = pure ()) (hob : cd.mro.contains (.type "object") = true) (hh : cd.hasDict = true)
    (ha : findIn K (.ref C) name = some none)
    (hq : ∀ h' tk' dx, (∀ b o, b ≠ x → hp.get? b = some o → h'.get? b = some o) → hp.objs.size ≤ dx → dx ≠ x → h'.get? x = some { cls := .ref C, dict := some dx, data := .fields fv } →
      h'.Ns1 dx (fun y => if y = name then some v else none) → R (.ok (.ret .none)) ⟨h', g, d, tk', os⟩) :
    codeAny (model prog w) A (.call (.builtin "object.__setattr__") ⟨[.ref x, .str name tk, v], []⟩) R ⟨hp, g, d, t, os⟩ := by
  have IA : InstAt hp x { cls := .ref C, data := .fields fv } C none := ⟨hx, rfl, rfl, trivial⟩
  have SF := F.store_object
  have xs : x ≠ hp.objs.size := Nat.ne_of_lt (Heap.lt_size hx)
  have isObj : Looks (model prog w) hp (isInstance (.ref x) (.type "object")) true := IA.type.andThen (looks_mroIn X (by unfold mroIn; rw [hcd, Option.bind_some, if_neg (by rw [ne]; decide), hob]))
  refine codeAny_call_builtin SF.slot.plain SF.entry (@check_slot (model prog w) _ _ ⟨hp, g, d, t, os⟩ "object.__setattr__" "object" "__setattr__" (.ref x) [.str name tk, v] [] _ SF.kind SF.split isObj (SF.args (.ref x) (.str name tk) v) ?_)
  have mroL : Looks (model prog w) hp (mroOf (.ref C)) cd.mro := (looks_clsIn X hcd).andThen .now
  have nowL : Looks (model prog w) hp (Builtin.ObjectAttr.storeTaker? none) none := .now
  have clsL : Looks (model prog w) hp (classData C) cd := looks_clsIn X hcd
  rw [osa_eq, refuse_eq]
  refine wpAny_bind (wpAny_bind (IA.type.at (wpAny_bind (mroL.at ?_))))
  rw [hpass]
  refine wpAny_pure (wpAny_bind (IA.type.at (wpAny_bind ((looks_findIn X ha).at (wpAny_bind (nowL.at ?_))))))
  show wpAny _ _ (Builtin.ObjectAttr.storeInOwnDict (.ref x) (.ref C) (.str name tk) name v false) _ _ _
  obtain ⟨nm, bs, mro, ns, qn, hd, sn, sb, ab, col, del⟩ := cd
  dsimp only at hh
  subst hh
  unfold Builtin.ObjectAttr.storeInOwnDict Builtin.ObjectAttr.ownDictForStores
  repeat (first | with_reducible refine HandSPX.store_in_new ?_ ?_ | with_reducible refine wpAny_loadPart_at hx ?_ | with_reducible refine clsL.at ?_ | wp_step)
  · exact ⟨_, #[], _, (Heap.get?_update_ne _ _ _ _ xs.symm).trans (Heap.get?_push_at rfl rfl), rfl, fun e he => absurd he (by simp), fun _ => rfl⟩
  · intro h' tk' hn' same
    have hx1 : (hp.push { cls := .type "dict", data := .dict #[] }).get? x = some { cls := .ref C, data := .fields fv } := Heap.get?_push_of_some _ hx
    refine hq h' tk' hp.objs.size (fun b o hb ho => ?_) (Nat.le_refl _) xs.symm ?_ hn'
    · exact (same.2 b (Nat.ne_of_lt (Heap.lt_size ho))).trans ((Heap.get?_update_ne _ _ _ _ hb).trans (Heap.get?_push_of_some _ ho))
    · exact (same.2 x xs).trans (Heap.get?_update_self _ hx1 rfl)
/-- the wrapper of the built-in __init__, called -/
theorem mw_call {prog : Program} {w : World} {A : Around} {E : Value → Shared → Prop} {h : Heap} {g : Array GenState} {d : Drawn} {t : Nat} {os : OsState} {B newId i : String} {u x C t0 : Addr} {rest : List Value} {Q : Value → Shared → Prop}
    {nm q : Str} {N : Addr} {bs bm : List Value} {hdct : Bool} {sn : List Str} {sub : List Value} {ab : Bool} {col : Option Bool} {dd : Option Addr} {k0 k1 k2 k3 k5 : Option Value}
    (FB : InitF B i) (hC : h.get? C = some (excClassObj nm q C N bs bm hdct sn sub ab col dd k0 k1 k2 k3 k5 newId)) (he : h.get? x = some (excO C t0)) (hu : h.get? u = some (kxs_mw i x)) (hz : rest.length ≤ sizeLine)
    (hq : ∀ h' t1, (∀ b o, b ≠ x → h.get? b = some o → h'.get? b = some o) → h'.get? x = some (excO C t1) → Q .none ⟨h', g, d, t, os⟩) :
    wpAny (model prog w) A (call (.ref u) rest) Q E ⟨h, g, d, t, os⟩ := by
  refine wpAny_call (codeAny_of_tree ?_)
  show wpAny _ A.in1 (callAny (.ref u) ⟨rest, []⟩) _ _ _
  simp only [callAny]
  refine wpAny_bind (wpAny_load hu ?_)
  simp only [kxs_mw, show (Value.type "method-wrapper" == Value.type "method" || Value.type "method-wrapper" == Value.type "builtin_function_or_method" || Value.type "method-wrapper" == Value.type "method-wrapper") = true by decide, if_true]
  refine KFB.if_so (by decide) ?_
  refine wpAny_bind (nf_bound FB hC he rfl ?_)
  refine wpAny_bind (wpAny_pure (wpAny_pure ?_))
  refine ⟨plainId_quiet FB.plain _, codeAny_builtin FB.entry ?_⟩
  exact exc_init_tree (cls := .ref C) (t0 := t0) (dv := none) (c2 := .none) (c3 := .none) (b4 := .bool false) he hz fun h' k e _ => hq h' _ k e
/-- what __init__ leaves of a fresh exception at x -/
structure Inited (h h' : Heap) (x C dx t1 : Addr) (fld : Str) (v : Value) : Prop where
  keep : ∀ b o, b ≠ x → h.get? b = some o → h'.get? b = some o
  obj : h'.get? x = some { cls := .ref C, dict := some dx, data := .fields #[.ref t1, .none, .none, .none, .bool false, .none] }
  big : h.objs.size ≤ dx
  ne : dx ≠ x
  ns : h'.Ns1 dx (fun y => if y = fld then some v else none)
section
variable {prog : Program} {w : World} {A : Around} {E : Value → Shared → Prop} {R : Result → Shared → Prop} {s : Shared} {K : Frag} {mg mb : Str → Option Value} {C fI : Addr} {fld : Str} {B newId initId : String} {bmB : List Value}
theorem xo_init (D : Base B newId initId bmB) (T : XT prog.main.file K C fI fld B newId initId bmB) {x t0 : Addr} {v : Value} (X : K.In s.heap) (hlim : s.heap.NoLimit) (hx : s.heap.get? x = some (excO C t0)) (hnx : K.lookup x = none) (hroom : A.depth < recursionLimit)
    (hg : s.heap.Ns mainGlobals mg) (hm : mg "super" = none) (hb : s.heap.Ns builtinsNs mb) (hbs : mb "super" = some (.type "super")) (htop : (prog.main.scope.names.lookup ("super" : Str)).isSome = false)
    (hq : ∀ h' tk t1 dx, Inited s.heap h' x C dx t1 fld v → R (.ok (.ret .none)) { s with heap := h', toks := tk }) :
    codeAny (model prog w) A (.call (.ref fI) ⟨[.ref x, v], []⟩) R s := by
  obtain ⟨oc, od, qual, doc, pm, an, cda, cc, ct, osl, msg, j, p1, p2, a1, a2, a3, a4, a5, a6, q1, q2, q3, q4, ho, hcd, ⟨cl, cld, csl, hcell⟩, ccl, cdd, vs, ccs, file, tf, hcode, hvs, hfile, hline⟩ := T.fn
  obtain ⟨nm, q, N, bs, bm, sn, sub, ab, col, dd, k0, k1, k2, k3, k5, hC, hbm⟩ := T.cls
  obtain ⟨n1, n2, n3, n4, n5⟩ := T.names
  have hcl : clsIn K C = some { name := nm, bases := bs, mro := .ref C :: bm, ns := N, qualname := q, hasDict := true, slotNames := sn, subclasses := sub, abstract := ab, collection := col, hasDel := false } := by unfold clsIn; rw [hC] <;> rfl
  have k1 : (iS fld).names.lookup ("self" : Str) = some .local := rfl
  have ks : (iS fld).names.lookup ("super" : Str) = some .globalImplicit := by
    unfold iS
    rw [List.lookup_cons, show (("super" : Str) == PySem.Str.ofString "self") = false by decide, List.lookup_cons, n4]
    rfl
  have kc : (iS fld).names.lookup ("__class__" : Str) = some .free := by
    unfold iS
    rw [List.lookup_cons, show (("__class__" : Str) == PySem.Str.ofString "self") = false by decide, List.lookup_cons, n5]
    rfl
  have k2' : (iS fld).names.lookup fld = some .local := by
    unfold iS
    rw [List.lookup_cons, n1, List.lookup_cons, beq_self_eq_true]
  have lookN : ∀ y : Str, ([("self", Value.ref x), (fld, v)] : List (Str × Value)).reverse.lookup y = if y = fld then some v else if y = ("self" : Str) then some (Value.ref x) else none := by
    intro y
    show ([(fld, v), (("self" : Str), Value.ref x)] : List (Str × Value)).lookup y = _
    rw [List.lookup_cons, List.lookup_cons]
    by_cases h1 : y = fld
    · subst h1
      rw [beq_self_eq_true, if_pos rfl]
    · have h1' : (y == fld) = false := by simpa using h1
      rw [h1', if_neg h1]
      by_cases h2 : y = ("self" : Str)
      · subst h2
        rw [if_pos rfl]
        rfl
      · have h2' : (y == ("self" : Str)) = false := by simpa using h2
        rw [h2', if_neg h2]
        rfl
  have selfN : (if ("self" : Str) = fld then some v else if ("self" : Str) = ("self" : Str) then some (Value.ref x) else none) = some (.ref x) := by
    rw [if_neg (fun e => by rw [← e, beq_self_eq_true] at n1; cases n1), if_pos rfl]
  refine ks_codeAny_call_defAt (fd := ksFn "__init__" qual (iA fld p1 p2) (iB fld msg j a1 a2 a3 a4 a5 a6 q1 q2 q3 q4) (iS fld) .none .none doc pm an (.ref cda) ct cc) (body := iB fld msg j a1 a2 a3 a4 a5 a6 q1 q2 q3 q4) (binds := [("self", .ref x), (fld, v)])
    hroom (X _ _ ho) rfl hlim (codeRec_of X hcd) rfl (BindsTo.of_eq (T.bind _ _ _ _ _ _ _ _ _ _ _ _)) ?_ ?_ ?_ rfl rfl rfl
  · intro y hy
    simp only [iS, List.mem_cons, List.not_mem_nil, or_false] at hy
    rcases hy with rfl | rfl | rfl | rfl <;> intro z <;> cases z
  · intro y hy
    simp only [List.mem_cons, List.not_mem_nil, or_false] at hy
    rcases hy with rfl | rfl
    · exact k1
    · exact k2'
  intro h1 hns k
  have X1 : K.In h1 := X.keeps k
  have hx1 := k _ _ hx
  have xL : s.heap.objs.size ≠ x := Nat.ne_of_gt (Heap.lt_size hx)
  -- super().__init__('..')
  refine ks_wpAt_execs_cons (ks_wpAt_Expr_any (ks_wpAt_MethodCall (ks_wpAt_super_base (of := ⟨oc, od, .func (ksFn "__init__" qual (iA fld p1 p2) (iB fld msg j a1 a2 a3 a4 a5 a6 q1 q2 q3 q4) (iS fld) .none .none doc pm an (.ref cda) ct cc), osl⟩) (oc := ⟨ccl, cdd, .fields vs, ccs⟩) (ar := { arg := "self", annotation := none, pos := p1 })
    ks kc (by decide) rfl (X1 _ _ ho) rfl rfl rfl (X1 _ _ hcode) rfl hvs hfile htop ?_) (ev_sup hline)))
  refine ks_loadName_global rfl ks (loadGlobal_builtin (hg.keeps k) hm (hb.keeps k) hbs ⟨rfl, ?_⟩)
  refine wpAny_loadName_free rfl kc rfl ⟨_, X1 _ _ hcell, rfl⟩ ?_
  refine wpAny_loadName_local rfl k1 hns (v := .ref x) ((lookN _).trans ?_) ?_
  · exact selfN
  refine ks_wpAny_isType_cls (X1 _ _ hC) rfl ⟨rfl, ?_⟩
  refine ks_wpAny_call_super (X1 _ _ hC) rfl hx1 rfl (fun c e => by cases e) (looks_mroIn X1 T.mroC) (fun h2 e2 k2 => ?_)
  have X2 : K.In h2 := X1.keeps k2
  have hx2 := k2 _ _ hx1
  have IA : InstAt h2 x (excO C t0) C none := ⟨hx2, rfl, rfl, trivial⟩
  have al := T.along
  unfold ks_superIn at al
  rw [hcl] at al
  refine kxs_getMethod D.KF (l₀ := .ref C :: bm) e2 (looks_opaque X2 T.statics) (fun A Q E s k q => wpAny_bind ((looks_clsIn X2 hcl) A _ E s k (wpAny_pure q))) rfl X2 al (IA.type.andThen (looks_subIn X2 T.subB)) (ks_ne X2 IA hcl) (by decide) ?_
  have hC2 := X2 _ _ hC
  have hu : (h2.push (kxs_mw initId x)).get? h2.objs.size = some (kxs_mw initId x) := Heap.get?_push_at rfl rfl
  have k3 : ∀ b o, h2.get? b = some o → (h2.push (kxs_mw initId x)).get? b = some o := fun b o e => Heap.get?_push_of_some _ e
  refine kxs_callWith (i := initId) (x := x) rfl (evalArgs_plain (spliced_cons ?_))
  show wpAny _ _ (eval (.Constant (.str msg) j a4) _) _ _ _
  refine Constant_str (spliced_nil ⟨hu, ?_⟩)
  refine mw_call D.ini (k3 _ _ hC2) (k3 _ _ hx2) hu (show 1 ≤ sizeLine by rw [sizeLine_eq]; decide) ?_
  intro h4 t1 k4 hx4
  -- self.f = f
  have old : ∀ b o, b ≠ x → h1.get? b = some o → h4.get? b = some o := fun b o hb e => k4 b o hb (k3 b o (k2 b o e))
  have X4 : K.In h4 := by
    intro b o e
    refine old b o ?_ (X1 b o e)
    rintro rfl
    rw [hnx] at e
    cases e
  have hns4 : h4.Ns s.heap.objs.size (fun y => ([("self", Value.ref x), (fld, v)] : List (Str × Value)).reverse.lookup y) := by
    obtain ⟨o, es, ep, e1, e2, e3⟩ := hns
    exact ⟨o, es, ep, old _ _ xL e1, e2, e3⟩
  refine wpAt_of_wpAny ?_
  refine wpAny_execs_cons (plainObj_wpAny_Assign_Attribute ?_)
  refine ldL hns4 ((lookN fld).trans (if_pos rfl)) ?_ rfl k2' n2
  refine ldL hns4 (v := .ref x) ((lookN _).trans ?_) ?_ rfl k1 (by decide)
  · exact selfN
  refine set_plain X4 (ox := excO C t1) (od := none) ⟨hx4, rfl, rfl, trivial⟩ T.sa ?_
  refine xo_store X4 hx4 hcl rfl (by show refuseLoop _ _ (.ref C :: bm) = _; rw [refuseLoop_ref]; exact excTail_pass _ (D.pass _) _ hbm) ?_ rfl T.noN ?_
  · show (Value.ref C :: bm).contains (.type "object") = true
    rw [List.contains_cons, excTail_contains "object" _ hbm, D.obj, Bool.or_true]
  intro h5 tk5 dx k5 big ne hx5 hn5
  show wpAny _ _ (execs _ _) _ _ _
  have z : s.heap.objs.size ≤ h4.objs.size := Nat.le_of_lt hns4.lt
  refine wpAny_execs_nil (hq h5 tk5 t1 dx ⟨?_, hx5, Nat.le_trans z big, ne, hn5⟩)
  intro b o hb e
  exact k5 b o hb (old b o hb (k b o e))
/-- a made exception: e, its own dict at d -/
structure Made (h h' : Heap) (e C d : Addr) (fld : Str) (v : Value) : Prop where
  keep : ∀ b o, h.get? b = some o → h'.get? b = some o
  new : h.objs.size ≤ e
  obj : ∃ oe vs, h'.get? e = some oe ∧ oe.cls = .ref C ∧ oe.dict = some d ∧ oe.data = .fields vs ∧ vs[1]? = some .none
  big : h.objs.size ≤ d
  ne : d ≠ e
  ns : h'.Ns1 d (fun y => if y = fld then some v else none)
theorem size_one (v : Value) : [v].length ≤ sizeLine := by
  rw [sizeLine_eq]
  exact (by decide : 1 ≤ 16777216)
theorem xo_made (D : Base B newId initId bmB) (T : XT prog.main.file K C fI fld B newId initId bmB) {v : Value} (X : K.In s.heap) (hlim : s.heap.NoLimit) (hroom : A.depth + 1 < recursionLimit)
    (hg : s.heap.Ns mainGlobals mg) (hm : mg "super" = none) (hb : s.heap.Ns builtinsNs mb) (hbs : mb "super" = some (.type "super")) (htop : (prog.main.scope.names.lookup ("super" : Str)).isSome = false)
    (hq : ∀ h' tk e d, Made s.heap h' e C d fld v → R (.ok (.ret (.ref e))) { s with heap := h', toks := tk }) : codeAny (model prog w) A (.call (.ref C) ⟨[v], []⟩) R s := by
  obtain ⟨nm, q, N, bs, bm, sn, sub, ab, col, dd, k0, k1, k2, k3, k5, hC, hbm⟩ := T.cls
  obtain ⟨hp, g, dr, tk, os⟩ := s
  have k : ∀ b o, hp.get? b = some o → ((hp.push (kdv_tup [v])).push (excO C hp.objs.size)).get? b = some o := fun b o e => Heap.get?_push_of_some _ (Heap.get?_push_of_some _ e)
  have got : ((hp.push (kdv_tup [v])).push (excO C hp.objs.size)).get? (hp.objs.size + 1) = some (excO C hp.objs.size) := by heap_get
  have fresh : K.lookup (hp.objs.size + 1) = none := by
    cases e : K.lookup (hp.objs.size + 1) with
    | none => rfl
    | some o => exact absurd (Nat.lt_of_succ_lt (Heap.lt_size (X _ _ e : hp.get? (hp.objs.size + 1) = some o))) (Nat.lt_irrefl _)
  obtain ⟨BN, DN⟩ := D.new
  refine nf_call DN (fun Y => excTail_contains Y bm hbm) (X _ _ hC) (looks_findIn X T.iC) (fun self => bind_fn X self T.tC) (size_one v) ?_
  refine xo_init (s := ⟨(hp.push (kdv_tup [v])).push (excO C hp.objs.size), g, dr, tk, os⟩) D T (X.keeps k) (hlim.keeps k) got fresh ?_ (hg.keeps k) hm (hb.keeps k) hbs htop ?_
  · show A.depth + 1 < recursionLimit
    exact hroom
  rintro h' tk' t1 dx ⟨k', hx, big, ne, ns⟩
  have z : hp.objs.size + 1 + 1 ≤ dx := by
    have zz := big
    rw [Heap.size_push, Heap.size_push] at zz
    exact zz
  refine ⟨rfl, hq h' tk' (hp.objs.size + 1) dx ⟨?_, Nat.le_succ _, ⟨_, _, hx, rfl, rfl, rfl, rfl⟩, Nat.le_trans (Nat.le_trans (Nat.le_succ _) (Nat.le_succ _)) z, ne, ns⟩⟩
  intro b o e
  exact k' b o (Nat.ne_of_lt (Nat.lt_succ_of_lt (Heap.lt_size e))) (k b o e)
end
end XO
namespace DL
open PySem L2 XO
theorem relO_one {fld : Str} {v : V} {u : Value} (r : RelV v u) (f : Str) : RelO (List.lookup f [(fld, v)]) (if f = fld then some u else none) := by
  by_cases h : f = fld
  · subst h
    rw [if_pos rfl, List.lookup_cons, beq_self_eq_true]
    exact r
  · have hb : (f == fld) = false := by simpa using h
    rw [if_neg h, List.lookup_cons, hb]
    trivial
theorem boot_super : bootBuiltins "super" = some (.type "super") := by decide +kernel
/-- C(e), C such a class -/
def tMkX (C : Addr) (fld : Str) (ta : TA) : L2.St → Hp → XK → Prop := fun σ H Q => ta σ H fun vs H1 => ∃ v, vs = [v] ∧ ∀ d, H1 d = none → Q (.ref C) (some d) (upd H1 d (.xd [(fld, v)]))
theorem pmk_x {X : Cx} {C fI : Addr} {x fld : Str} {B newId initId : String} {bmB : List Value} {a : Expr} {ta : TA} {p pos : Pos} {k : Nat} (D : Base B newId initId bmB) (T : XT X.prog.main.file X.K C fI fld B newId initId bmB) (hm : X.mg x = some (.ref C)) (hsup : X.mg "super" = none)
    (htop : (X.prog.main.scope.names.lookup ("super" : Str)).isSome = false) (hr : Room k X.A) (ha : PA X [a] ta) (hg : Gl X x) (hd : (x == ("__debug__" : Str)) = false)
    (he : starEach (a :: []) X.env = (false, eval a X.env) :: starEach [] X.env) (hpl : (backTo pos (starEach [] X.env)).any (·.1) = false) : PMk X (.Call (.Name x p) [a] [] pos) (tMkX C fld ta) := by
  intro pins s σ H Q I h
  refine wpAny_Call_Name_kw (ld_glob I hg hm ?_ hd)
  refine PySem.W.callWith_K (h₀ := X.base) I.ok.mod.kin T.kC (thn (ha.run pos pins s σ H _ I h) ?_) he hpl
  rintro us s1 ⟨vs, H1, I1, r1, v, ev, q1⟩
  subst ev
  refine ⟨I1.kIn, ?_⟩
  cases r1 with
  | cons rv rn =>
    rename_i v' us'
    cases rn
    show wpAny _ _ (call (.ref C) [v']) _ _ _
    have lim := I1.nolimit
    obtain ⟨mb, hb1, hb2⟩ := I1.ok.mod.blt
    have hglob := I1.ok.mod.glob
    have bk := I1.bk
    obtain ⟨hp, g, dr, tk, os⟩ := s1
    refine wpAny_call (xo_made D T I1.kIn lim (by have := hr.dp; omega) (hglob.keeps bk) hsup (hb1.keeps bk) ((hb2 _ (by decide)).trans boot_super) htop ?_)
    intro h' tk' e d M
    show MkP X pins σ Q (.ref e) ⟨h', g, dr, tk', os⟩
    obtain ⟨oe, fv, hoe, hc, hdct, hdat, h1⟩ := M.obj
    have hns := M.ns
    obtain ⟨G', g1, g2⟩ := restrict h' fun b => decide (b ≠ e)
    have gk : ∀ b, b ≠ e → G'.get? b = h'.get? b := fun b hb => g1 b (decide_eq_true hb)
    have ge : G'.get? e = none := g2 e (by simp)
    have old : ∀ b o, hp.get? b = some o → G'.get? b = some o := fun b o q => (gk b (Nat.ne_of_lt (Nat.lt_of_lt_of_le (Heap.lt_size q) M.new))).trans (M.keep b o q)
    have ob : ObjOk X.prog X.w (upd H1 d (.xd [(fld, v)])) G' d (.xd [(fld, v)]) := ⟨_, hns.at (fun o q => (gk d M.ne).trans q), fun f => relO_one rv f⟩
    have J : Inv X pins σ (upd H1 d (.xd [(fld, v)])) ⟨G', g, dr, tk', os⟩ := I1.laid (t' := tk') old M.big ob
    refine ⟨e, oe, fv, ⟨G', g, dr, tk', os⟩, _, .ref C, some d, rfl, J, ?_, ge, hoe, ⟨hc, hdct⟩, hdat, h1, ?_, rfl, I1.bare, raises_own T.exC T.tyC, q1 d (I1.hok.fresh M.big)⟩
    · intro b o q
      by_cases hb : b = e
      · subst hb
        have q : G'.get? b = some o := q
        rw [ge] at q
        cases q
      · exact (gk b hb).symm.trans q
    · rw [upd_ne (Ne.symm M.ne)]
      exact I1.hok.fresh M.new
end DL
namespace DL
open PySem L2 XO
open Evl (Ex)
/-! ### wishes by the class's name -/
def byName (mg : Str → Option Value) (W0 : WX) : Wx := fun n d σ H => ∀ cls, mg n = some cls → W0 cls d σ H
def toWX (mg : Str → Option Value) (W : Wx) : WX := fun cls d σ H => ∃ n, mg n = some cls ∧ W n d σ H
theorem takes_by {mg : Str → Option Value} {X : Cx} {W0 : WX} (t : Takes X W0) : Takes X (toWX mg (byName mg W0)) := t.imp fun cls d σ H h => by
  obtain ⟨n, hm, q⟩ := h
  exact q cls hm
/-- an exception class of the text: its name, its field -/
def XC (P : Program) (K : Fg) (mg : Str → Option Value) (n fld : Str) : Prop := ∃ C fI B newId initId bmB, Base B newId initId bmB ∧ XT P.main.file K C fI fld B newId initId bmB ∧ mg n = some (.ref C) ∧ PySem.W.exmOne K (.ref C) (.ref C) = some true
structure Sup (P : Program) (mg : Str → Option Value) : Prop where
  mg : mg "super" = none
  top : (P.main.scope.names.lookup ("super" : Str)).isSome = false
section
variable {P : Program} {w : World} {K : Fg} {mg : Str → Option Value} {base : Heap} {k : Nat} {N : List Str} {W : Wx} {ι : Type} {X : ι → Cx} {f : Addr} {fd : FuncData} {ps : List Str} {pos : Pos}
/-! ### raise C(e) -/
def sRaise (n fld : Str) (w : WE) : WS := fun E ρ m => w ρ m (fun v m1 => E.ex ⟨n, fld, v⟩ m1) E.ex
theorem ps_raiseX {n fld : Str} {a : Expr} {wa : WE} {p cpos : Pos} (hX : FamG P w K mg base k N X) (tk : ∀ i, Takes (X i) (toWX mg W)) (S : Sup P mg) (c : XC P K mg n fld) (ha : PD K W X a wa) (hg : ∀ i, Gl (X i) n := by intro _; rfl) (hd : (n == ("__debug__" : Str)) = false := by decide)
    (he : ∀ i, starEach (a :: []) (X i).env = (false, eval a (X i).env) :: starEach [] (X i).env := by intro _; rfl) (hpl : ∀ i, (backTo cpos (starEach [] (X i).env)).any (·.1) = false := by intro _; rfl) :
    PDS K W X (.Raise (some (.Call (.Name n p) [a] [] cpos)) none pos) (sRaise n fld wa) := by
  obtain ⟨C, fI, B, newId, initId, bmB, D, T, hm, _⟩ := c
  obtain ⟨ta, a1, a2⟩ := DL.pa_cons ha (DL.pa_nil (K := K) (W := W) (X := X)) he
  refine ⟨_, fun i => ps_raise (hX.calm i) (tk i) (pmk_x (fld := fld) D (by rw [hX.prog i, hX.K i]; exact T) (by rw [hX.mg i]; exact hm) (by rw [hX.mg i]; exact S.mg) (by rw [hX.prog i]; exact S.top) (hX.room i) (a1 i) (hg i) hd (he i) (hpl i)), ?_⟩
  intro G m F H σ ρ Sd E hW hE h ft
  refine a2 G m F H σ ρ _ (fun ds m1 => match ds with
    | [v] => E.ex ⟨n, fld, v⟩ m1
    | _ => False) E.ex hW hE h ft.ex ?_
  rintro ds m1 vs G1 H1 q e1 W1 r1
  cases r1 with
  | nil => exact q.elim
  | cons r1 t =>
    cases t with
    | cons _ _ => exact q.elim
    | nil =>
      refine ⟨_, rfl, fun d hd => ?_⟩
      obtain ⟨e, W'⟩ := W1.new hd (.xd [(fld, _)])
      exact ⟨n, hm, ft.ex _ m1 (some d) σ _ _ q (e1.trans e) W' ⟨d, _, rfl, upd_same, r1.mono e⟩⟩
/-! ### calls that may raise -/
theorem FnG.goesAt {X : Cx} {sp : Sp} {E : XK} {pins : List (Addr × Obj)} {σ : L2.St} {H : Hp} {s : Shared} {Q : VK} {us : List Value} {vs : List V} (Fn : FnG X.prog X.w X.K X.mg X.base (L2.CX X.prog X.w) k f fd ps sp)
    (hg : X.A.guards = some []) (hr : Room k X.A) (hb : Binds X.K fd ps []) (hx : PassesAt (L2.CX X.prog X.w) X σ E) (I : Inv X pins σ H s) (r : Vals vs us) (h : sp vs H Q E) :
    wpAny (model X.prog X.w) X.A (call (.ref f) us) (EP X pins σ Q) X.xe s := by
  have hlen : us.length = ps.length := r.length.symm.trans (Fn.size _ _ _ _ h)
  have b := hb s us I.kIn (by rw [List.append_nil]; exact hlen)
  rw [List.append_nil] at b
  have goal := Fn.runs X.A X.stack s H ⟨us, []⟩ us vs Q E hg hr I.env0 b r h
  refine wpAny_call (codeAny_mono goal ?_)
  rintro (e | fl) s' hq
  · exact hx pins H s e s' I hq
  · cases fl <;> first | exact I.after hq | exact (hq : False).elim
def HasX (P : Program) (w : World) (K : Fg) (mg : Str → Option Value) (base : Heap) (j : Nat) (x : Str) (ps : List Str) (fn : DFn) : Prop :=
  ∃ f fd, FnG P w K mg base (L2.CX P w) j f fd ps (spD K mg fn) ∧ mg x = some (.ref f) ∧ PySem.W.keepIn K (.ref f) = true ∧ Binds K fd ps []
def wCallX (fn : DFn) (a : WA) : WE := fun ρ m Q Qx => a ρ m (fun ds m1 => fn ds m1 Q Qx) Qx
theorem pd_own_callX {fn : DFn} {j : Nat} {x : Str} {p : Pos} {e : Expr} {es : List Expr} {wr : WA} (hX : FamG P w K mg base k N X) (tk : ∀ i, Takes (X i) (toWX mg W)) (hh : HasX P w K mg base j x ps fn) (ha : PDA K W X (e :: es) wr) (hj : j ≤ k := by decide) (hg : ∀ i, Gl (X i) x := by intro _; rfl) (hd : (x == ("__debug__" : Str)) = false := by decide)
    (he : ∀ i, starEach (e :: es) (X i).env = (false, eval e (X i).env) :: starEach es (X i).env := by intro _; rfl) (hpl : ∀ i, (backTo pos (starEach es (X i).env)).any (·.1) = false := by intro _; rfl) : PD K W X (.Call (.Name x p) (e :: es) [] pos) (wCallX fn wr) := by
  obtain ⟨f, fd, Fn, hm, hk, hb⟩ := hh
  obtain ⟨t, a1, a2⟩ := ha
  refine ⟨fun σ H Q => t σ H fun vs H1 => spD K mg fn vs H1 Q (fun cls d H' => toWX mg W cls d σ H'), fun i => ⟨fun pins s σ H Q I h => ?_⟩, ?_⟩
  · have hmi : (X i).mg x = some (.ref f) := by rw [hX.mg i]; exact hm
    have Fi : FnG (X i).prog (X i).w (X i).K (X i).mg (X i).base (L2.CX (X i).prog (X i).w) j f fd ps (spD K mg fn) := by rw [hX.prog i, hX.w i, hX.K i, hX.mg i, hX.base i]; exact Fn
    refine wpAny_Call_Name_kw (ld_glob I (hg i) hmi ?_ hd)
    refine PySem.W.callWith_K (h₀ := (X i).base) I.ok.mod.kin (by rw [hX.K i]; exact hk) (thn ((a1 i).run pos pins s σ H _ I h) ?_) (he i) (hpl i)
    rintro us s1 ⟨vs, H1, I1, r, q⟩
    exact ⟨I1.kIn, Fi.goesAt (hX.guards i) ((hX.room i).mono hj) (by rw [hX.K i]; exact hb) (passAt (tk i) σ) I1 r q⟩
  · intro G m F H σ ρ Q Qd Qx hW hE h hXx hQ
    refine a2 G m F H σ ρ _ _ Qx hW hE h hXx ?_
    intro ds m1 vs G1 H1 q e1 W1 r1
    refine ⟨G1, m1, F, ds, Qd, Qx, W1, r1, q, ?_, ?_⟩
    · intro d m' v G' H' z e
      exact hQ d m' v G' H' z (e1.trans e)
    · intro x m' cls d G' H' z hmx e W' r
      exact ⟨x.cls, hmx, hXx x m' d σ G' H' z (e1.trans e) W' r⟩
/-- a def that may raise keeps its promise -/
theorem fn_okX {x qual : Str} {st : Stmt} {fn : DFn} {wb : WS} (Fu : Fun K x qual st f fd) (S : FnScope N ps (defScope st)) (hlen : ∀ ds m Q Qx, fn ds m Q Qx → ds.length = ps.length)
    (hb : ∀ (cdv : Value) (A : Around) (oe : List Env) (s : Shared) (H : Hp) (E : XK), FamG P w K mg base k N (fun _ : Unit => cxOf (L2.CX P w) P w K mg base N qual (defScope st) f cdv A oe s H E) →
      (∀ i, Takes ((fun _ : Unit => cxOf (L2.CX P w) P w K mg base N qual (defScope st) f cdv A oe s H E) i) (toWX mg (byName mg fun cls d _ H => E cls d H))) →
      PDB K (byName mg fun cls d _ H => E cls d H) (fun _ : Unit => cxOf (L2.CX P w) P w K mg base N qual (defScope st) f cdv A oe s H E) (defBody st) wb)
    (hr : ∀ ds m Qd Qx, fn ds m Qd Qx → wb { nx := fun _ m' => Qd .non m', rt := Qd, ex := Qx } (ds.map some ++ List.replicate (N.length - ds.length) none) m) :
    FnG P w K mg base (L2.CX P w) (k + 1) f fd ps (spD K mg fn) := by
  obtain ⟨oc, od, kV, doc, pm, an, cdv, ct, osl, rfl, lk, hcd⟩ := Fu.ex
  have size : ∀ vs H Q E, spD K mg fn vs H Q E → vs.length = ps.length := by
    rintro vs H Q E ⟨G, m, F, ds, Qd, Qx, _, r, hf, _⟩
    exact r.len.trans (hlen _ _ _ _ hf)
  refine ⟨size, ?_⟩
  intro A oe s H ar us vs Q E hgd hrm e0 hbind r hsp
  have hl := size _ _ _ _ hsp
  have old : ∀ b o, base.get? b = some o → s.heap.get? b = some o := fun b o e => (e0.bs b o e).1
  have KX : K.In s.heap := e0.mod.kin.keeps old
  have lim : s.heap.NoLimit := e0.mod.nolimit.keeps old
  have kinds : ∀ y ∈ ps.zip us, (defScope st).names.lookup y.1 = some .local ∨ ((defScope st).names.lookup y.1 = some .cell ∧ ((cellsFrom (s.heap.objs.size + 1) (defScope st).names []).lookup y.1).isSome = true) := by
    rintro ⟨n, v⟩ hy
    rcases S.par n (List.of_mem_zip hy).1 with q | q
    · exact Or.inl q
    · exact Or.inr ⟨q, PySem.W.cellsFrom_some _ _ _ (Or.inl q)⟩
  refine codeAny_call_function hrm.depth (KX _ _ lk) rfl S.co S.gen rfl (PySem.W.codeRec_of KX hcd) (hbind _ _ _ _ ?_)
  refine wpAny_newFunctionEnv_cells S.kind kinds ?_
  rintro env rfl s1 nx
  refine ⟨lim.keeps nx.toInCall.keep, codeAny_func ?_⟩
  have fam : FamG P w K mg base k N (fun _ : Unit => cxOf (L2.CX P w) P w K mg base N qual (defScope st) f cdv A oe s H E) :=
    { prog := fun _ => rfl, w := fun _ => rfl, K := fun _ => rfl, mg := fun _ => rfl, base := fun _ => rfl, hN := fun _ => rfl, calm := fun _ => rfl, room := fun _ => hrm.deeper _, nd := S.nd, guards := fun _ => hgd }
  obtain ⟨t, h1, h2⟩ := hb cdv A oe s H E fam (fun _ => takes_by (takes_of rfl rfl rfl rfl))
  have I : Inv (cxOf (L2.CX P w) P w K mg base N qual (defScope st) f cdv A oe s H E) [] (start N vs) H s1 := inv_start S hrm.hd e0 hl r nx
  obtain ⟨G, m, F, ds, Qd, Qx, hW, rr, hf, hQ, hQx⟩ := hsp
  have reading : t { nx := fun _ H' => Q .non H', rt := Q } (start N vs) H := by
    refine h2 G m F H _ _ _ { nx := fun _ m' => Qd .non m', rt := Qd, ex := Qx } hW ?_ (hr ds m Qd Qx hf) ⟨?_, ?_, ?_, ?_, ?_⟩
    · unfold L2.start
      rw [rr.len]
      exact En.start _ rr
    · intro ρ' m' σ' G' H' q e W' _
      exact hQ _ m' _ G' H' q e W' .non
    · exact hQ
    · intro _ _ _ _ _ z; exact z.elim
    · intro _ _ _ _ _ z; exact z.elim
    · intro x m' d σ' G' H' z e W' r cls hc
      exact hQx x m' cls d G' H' z hc e W' r
  refine wpAny_mono ((h1 ()).run [] s1 (start N vs) H _ I reading) ?_ fun e s' z => z
  have fin : ∀ {s' : Shared} {σ' : L2.St} {H' : Hp} {v : V} {u : Value}, Inv (cxOf (L2.CX P w) P w K mg base N qual (defScope st) f cdv A oe s H E) [] σ' H' s' → RelV v u → Q v H' → CE oe P w H s Q u s' := by
    intro s' σ' H' v u J rv q
    exact ⟨v, H', J.os, J.bare, J.base, J.hok, rv, q⟩
  intro fl s' hs
  cases fl
  case ret u =>
    obtain ⟨v, σ', H', J, rv, q⟩ := hs
    exact fin J rv q
  case next =>
    obtain ⟨σ', H', J, q⟩ := hs
    exact fin (v := V.non) (u := Value.none) J rfl q
  case brk =>
    obtain ⟨_, _, _, q⟩ := hs
    exact (q : False).elim
  case cont =>
    obtain ⟨_, _, _, q⟩ := hs
    exact (q : False).elim
theorem has_ofX {x qual : Str} {st : Stmt} {fn : DFn} {wb : WS} (Fu : FunAt K mg x qual st ps) (S : FnScope N ps (defScope st)) (hlen : ∀ ds m Q Qx, fn ds m Q Qx → ds.length = ps.length)
    (hb : ∀ (f : Addr) (cdv : Value) (A : Around) (oe : List Env) (s : Shared) (H : Hp) (E : XK), FamG P w K mg base k N (fun _ : Unit => cxOf (L2.CX P w) P w K mg base N qual (defScope st) f cdv A oe s H E) →
      (∀ i, Takes ((fun _ : Unit => cxOf (L2.CX P w) P w K mg base N qual (defScope st) f cdv A oe s H E) i) (toWX mg (byName mg fun cls d _ H => E cls d H))) →
      PDB K (byName mg fun cls d _ H => E cls d H) (fun _ : Unit => cxOf (L2.CX P w) P w K mg base N qual (defScope st) f cdv A oe s H E) (defBody st) wb)
    (hr : ∀ ds m Qd Qx, fn ds m Qd Qx → wb { nx := fun _ m' => Qd .non m', rt := Qd, ex := Qx } (ds.map some ++ List.replicate (N.length - ds.length) none) m) : HasX P w K mg base (k + 1) x ps fn := by
  obtain ⟨f, fd, hm, F, hbi⟩ := Fu
  exact ⟨f, fd, fn_okX F S hlen (hb f) hr, hm, F.kp, hbi⟩
/-! ### try: body, except C as n: return [.., n.f] -/
/-- the contexts of a try's body that take W0 -/
def TrI {ι : Type} (X : ι → Cx) (W0 : WX) : Type := { j : ι × List (Addr × Obj) × (Value → Shared → Prop) // Takes ((X j.1).tr j.2.1 j.2.2) W0 ∧ PassesOwn (model (X j.1).prog (X j.1).w) (X j.1).A (X j.1).env j.2.2 }
def TrF {ι : Type} (X : ι → Cx) (W0 : WX) : TrI X W0 → Cx := fun j => (X j.1.1).tr j.1.2.1 j.1.2.2
theorem FamG.tr (hX : FamG P w K mg base k N X) (W0 : WX) : FamG P w K mg base k N (TrF X W0) where
  prog := fun j => hX.prog j.1.1
  w := fun j => hX.w j.1.1
  K := fun j => hX.K j.1.1
  mg := fun j => hX.mg j.1.1
  base := fun j => hX.base j.1.1
  hN := fun j => hX.hN j.1.1
  calm := fun j => hX.calm j.1.1
  room := fun j => hX.room j.1.1
  nd := hX.nd
  guards := fun j => hX.guards j.1.1
def byLen (mg : Str → Option Value) (N : List Str) (W0 : WX) : Wx := fun n d σ H => σ.length = N.length → ∀ cls, mg n = some cls → W0 cls d σ H
theorem takes_len {Y : Cx} {W0 : WX} (t : Takes Y W0) (hN : Y.N = N) : Takes Y (toWX mg (byLen mg N W0)) := by
  rintro u s' ⟨a, B, sI, pins, σ, H, cls, d, e, I, nb, up, sky, na, os, ag, n, hm, q⟩
  exact t u s' ⟨a, B, sI, pins, σ, H, cls, d, e, I, nb, up, sky, na, os, ag, q (by rw [I.len, hN]) cls hm⟩
theorem tr_takes (hX : FamG P w K mg base k N X) (W0 : WX) : ∀ j, Takes (TrF X W0 j) (toWX mg (byLen mg N W0)) := fun j => takes_len j.2.1 (hX.hN j.1.1)
def sTry (x fld tag : Str) (wb : WS) : WS := fun E ρ m => wb { nx := E.nx, rt := E.rt, bk := E.bk, ct := E.ct, ex := fun xx m' => xx.cls = x ∧ xx.fld = fld ∧ E.rt (.lst [.str tag, xx.val]) m' } ρ m
theorem xfc_of {main : Str} {C fI : Addr} {fld : Str} {B newId initId : String} {bmB : List Value} (T : XT main K C fI fld B newId initId bmB) : XfC K C := ⟨T.ga, T.gg, T.exC, T.hdC⟩
theorem ps_tryR {x fld tag n : Str} {body : List Stmt} {wb : WS} {np p1 p2 p3 p4 p5 pos' : Pos} {j1 : Nat} (hX : FamG P w K mg base k N X) (tk : ∀ i, Takes (X i) (toWX mg W)) (c : XC P K mg x fld) (v : Nat)
    (hb : ∀ W0 : WX, PDB K (byLen mg N W0) (TrF X W0) body wb) (hi : N[v]? = some n := by rfl)
    (hs : ∀ i, (X i).stack = (X i).env :: (X i).outer := by intro _; rfl) (hf : ∀ i, (X i).env.frame = some (X i).env.locals := by intro _; rfl) (hln : ∀ i, (X i).env.kindOf n = some .local := by intro _; rfl)
    (hg : ∀ i, Gl (X i) x := by intro _; rfl) (hd : (x == ("__debug__" : Str)) = false := by decide) (hv : ∀ j, Vis (X j).env.scope n := by intro _; first | exact Or.inl rfl | exact Or.inr (Or.inl rfl) | exact Or.inr (Or.inr rfl)) (hdn : (n == ("__debug__" : Str)) = false := by decide) (hcn : (n == ("__classdict__" : Str)) = false := by decide)
    (hab : ∀ i, attributeBase (.Name n p2) fld (X i).env (eval (.Name n p2) (X i).env) = eval (.Name n p2) (X i).env := by intro _; rfl) :
    PDS K W X (.Try body [.ExceptHandler (some (.Name x np)) (some n) [.Return (some (.List [.Constant (.str tag) j1 p1, .Attribute (.Name n p2) fld p3] p4)) p5] pos'] [] [] pos) (sTry x fld tag wb) := by
  obtain ⟨C, fI, B, newId, initId, bmB, D, T, hm, hex⟩ := c
  obtain ⟨ts, hts⟩ : ∃ ts : Addr → Value → Option Addr → TS, ts = fun a cls d => tRet (tLst (tCons (tC (.str tag)) (tCons (tXf a cls d C fld (tVar v)) tNil))) := ⟨_, rfl⟩
  refine ⟨fun D σ H => Classical.choose (hb (wAs K (.ref C) v ts (toWX mg W) D)) D σ H, fun i => ?_, ?_⟩
  · have q := L2.ps_try_as (X := X i) (x := x) (n := n) (np := np) (pos := pos) (pos' := pos') (body := body) (b₀ := .Return (some (.List [.Constant (.str tag) j1 p1, .Attribute (.Name n p2) fld p3] p4)) p5) (suite := []) (i := v) (c := .ref C) (ts := ts) (tb := fun W0 => Classical.choose (hb W0)) (Wout := toWX mg W) (hs i) (hf i) (by rw [hX.hN i]; exact hX.nd) (by rw [hX.hN i]; exact hi) (hln i)
      ⟨hg i, hd, Or.inl (by rw [hX.mg i]; exact hm)⟩ (tk i) (fun W0 pn xe t po => (Classical.choose_spec (hb W0)).1 ⟨(i, pn, xe), t, po⟩) (fun a oe cls d pn hz hfl => ?_)
    · rw [hX.K i] at q; exact q
    · subst hts
      refine pss_one (L2.ps_ret (pe_lst (L2.pa_cons pe_str (L2.pa_cons (pe_xf ?_ ?_ hz hfl (pe_var (by exact (hX.hN i) ▸ hi) (hv i) hdn hcn) (hab i)) L2.pa_nil))))
      · show XfC (X i).K C; rw [hX.K i]; exact xfc_of T
      · show PySem.W.findIn (X i).K (.ref C) fld = some none; rw [hX.K i]; exact T.noN
  · intro G m F H σ ρ S E hW hE h ft
    refine (Classical.choose_spec (hb (wAs K (.ref C) v ts (toWX mg W) S))).2 G m F H σ ρ S _ hW hE h ⟨ft.nx, ft.rt, ft.bk, ft.ct, ?_⟩
    rintro xx m' d σ' G' H' ⟨q1, q2, q3⟩ e W' ⟨dd, u, ed, eg, ru⟩ hlen cls hcls
    rw [q1, hm] at hcls
    cases hcls
    refine ⟨true, hex, fun _ a ha => ?_, fun z => nomatch z⟩
    subst hts
    have hvl : v < σ'.length := by
      rw [hlen]
      exact (List.getElem?_eq_some_iff.mp hi).1
    have hH : H' dd = some (.xd [(xx.fld, u)]) := W'.ex _ _ eg
    refine ⟨.ref a, by rw [List.getElem?_set_self hvl], rfl, rfl, dd, [(xx.fld, u)], u, ed, hH, by rw [q2]; simp [List.lookup], ?_, fun p hp => ?_⟩
    · show 2 ≤ sizeLine
      rw [sizeLine_eq]; decide
    · obtain ⟨e2, W2⟩ := W'.new hp (.lst [.str tag, u])
      exact ft.rt _ m' _ _ _ q3 (e.trans e2) W2 (.lst upd_same (.cons (.str tag) (.cons (ru.mono e2) .nil)))
end
end DL
/-! XR: repr of data, empty dicts among them -/
namespace DL
open PySem L2 XO
open Evl (Ex)
mutual
def plainD : D → Bool
  | .non => true | .bl _ => true | .int _ => true | .str _ => true
  | .lst ds => plainA ds | .tup ds => plainA ds
  | .dct [] [] => true
  | _ => false
def plainA : List D → Bool
  | [] => true
  | d :: ds => plainD d && plainA ds
end
section
variable {X : Cx} {pins : List (Addr × Obj)} {σ : L2.St} {G H : Hp} {s : Shared}
mutual
theorem rk_of (I : Inv X pins σ H s) (e : Ex G H) : ∀ (d : D) (v : V) (u : Value), Rp X.K G v d → RelV v u → plainD d = true → (py d).showable = true → (py d).shown.length ≤ sizeLine →
    ∃ as bs, Reads s.heap u (py d) as ∧ ReadAtMost s.heap (py d).depth bs ∧ ReprK X.prog X.w bs s.heap (py d).depth u (py d).shown
  | .non, _, _, r, ru, _, _, _ => by
    cases r; cases ru
    exact ⟨_, [], Reads.none, (fun _ h => nomatch h), by simp only [py, PyData.shown]; exact .of_is ReprIs.none _ _ _⟩
  | .bl b, _, _, r, ru, _, _, _ => by
    cases r; cases ru
    exact ⟨_, [], Reads.bool b, (fun _ h => nomatch h), by simp only [py, PyData.shown]; exact .of_is (ReprIs.bool b) _ _ _⟩
  | .int i, _, _, r, ru, _, hs, _ => by
    cases r
    obtain ⟨t, rfl⟩ := ru
    exact ⟨_, [], Reads.int i t, (fun _ h => nomatch h), by simp only [py, PyData.shown]; exact .of_is (ReprIs.int t (by simpa [py, PyData.showable] using hs)) _ _ _⟩
  | .str x, _, _, r, ru, _, _, hz => by
    cases r
    obtain ⟨t, rfl⟩ := ru
    exact ⟨_, [], Reads.str x t, (fun _ h => nomatch h), by simp only [py, PyData.shown]; exact .of_is (ReprIs.str x t (by simpa only [py, PyData.shown] using hz)) _ _ _⟩
  | .lst ds, _, _, r, ru, hp, hs, hz => by
    cases r with
    | @lst a0 xs0 _ hx rr =>
      cases ru
      obtain ⟨its, rv, ⟨o, n, ho, hc, _, hd⟩, _⟩ := I.list (SqL.of (e _ _ hx))
      have hz' : (listText (PyData.shownAll (pyA ds))).length ≤ sizeLine := by simpa only [py, PyData.shown] using hz
      obtain ⟨as, bs, hr, hb, hk⟩ := rks_of I e ds _ its rr rv (by simpa only [plainD] using hp) (by simpa only [py, PyData.showable] using hs) (fun t ht => Nat.le_trans (listText_mem_le ht) hz')
      have r : Reads s.heap (.ref a0) (.list (pyA ds)) _ := .list ho hc hd hr
      have hna : a0 ∉ bs := not_mem_of_deeper r (by simp only [PyData.depth]; omega) hb
      rw [show py (D.lst ds) = PyData.list (pyA ds) from by simp only [py]]
      refine ⟨_, _ :: bs, r, ReadAtMost.cons r (by simp only [PyData.depth]; omega) hb, ?_⟩
      simp only [PyData.depth, PyData.shown]
      cases its with
      | nil =>
        have h4' : ReadsAll s.heap [] (pyA ds) _ := hr
        cases ds with
        | nil =>
          simp only [pyA, PyData.shownAll, listText_nil]
          exact ReprK.listEmpty ho hc hd
        | cons d ds => simp only [pyA] at h4'; cases h4'
      | cons x l => exact ReprK.list ho hc hd hna (by simpa using hk.length_eq) (fun i y e => hk.item i y (by simpa using e))
  | .tup ds, _, _, r, ru, hp, hs, hz => by
    cases r with
    | @tup a0 xs0 _ hx rr =>
      cases ru
      obtain ⟨its, rv, ⟨o, ho, hc, n, hd⟩, _⟩ := I.tuple (Evl.ex_t e hx)
      have hz' : (tupleText (PyData.shownAll (pyA ds))).length ≤ sizeLine := by simpa only [py, PyData.shown] using hz
      obtain ⟨as, bs, hr, hb, hk⟩ := rks_of I e ds _ its rr rv (by simpa only [plainD] using hp) (by simpa only [py, PyData.showable] using hs) (fun t ht => Nat.le_trans (tupleText_mem_le ht) hz')
      have r : Reads s.heap (.ref a0) (.tuple (pyA ds)) _ := .tuple ho hc hd hr
      have hna : a0 ∉ bs := not_mem_of_deeper r (by simp only [PyData.depth]; omega) hb
      rw [show py (D.tup ds) = PyData.tuple (pyA ds) from by simp only [py]]
      refine ⟨_, _ :: bs, r, ReadAtMost.cons r (by simp only [PyData.depth]; omega) hb, ?_⟩
      simp only [PyData.depth, PyData.shown]
      exact ReprK.tuple ho hc hd hna hk
  | .dct [] [], _, _, r, ru, _, _, _ => by
    cases r with
    | @dct a0 kvs0 _ _ _ hx h1 h2 rr =>
      cases ru
      have hk0 : kvs0 = [] := List.map_eq_nil_iff.mp h1
      subst hk0
      obtain ⟨_, hsys, vs, kv, o, es, ep, ho, hex, hd, _, hp, _⟩ := dk_of I.hok (e _ _ hx)
      cases kv
      have hes : es.toList = [] := by
        cases hh : es.toList with
        | nil => rfl
        | cons x l => rw [hh] at hp; cases hp
      have r : Reads s.heap (.ref a0) (.dict []) _ := .dict ho hex.1 hd (by rw [hes]; exact ReadsAll.nil) (by rw [hes]; exact ReadsAll.nil)
      refine ⟨_, [a0], r, ReadAtMost.cons (n := 0) r (Nat.zero_le _) (fun _ h => nomatch h), ?_⟩
      simp only [py, PyData.depth, PyData.shown, PyData.shownKv_eq]
      exact ReprK.dict ho hex.1 hd hsys (fun h => nomatch h) (by rw [hes]; exact .nil)
  | .dct (_ :: _) _, _, _, _, _, h, _, _ => by simp [plainD] at h
  | .dct [] (_ :: _), _, _, _, _, h, _, _ => by simp [plainD] at h
  | .ty _, _, _, _, _, h, _, _ => by simp [plainD] at h
  | .scr _, _, _, _, _, h, _, _ => by simp [plainD] at h
  | .box _, _, _, _, _, h, _, _ => by simp [plainD] at h
  | .obj _ _ _, _, _, _, _, h, _, _ => by simp [plainD] at h
theorem rks_of (I : Inv X pins σ H s) (e : Ex G H) : ∀ (ds : List D) (vs : List V) (us : List Value), RpA X.K G vs ds → Vals vs us → plainA ds = true → PyData.showableAll (pyA ds) = true → (∀ t ∈ PyData.shownAll (pyA ds), t.length ≤ sizeLine) →
    ∃ as bs, ReadsAll s.heap us (pyA ds) as ∧ ReadAtMost s.heap (PyData.depthAll (pyA ds)) bs ∧ ReprAllK X.prog X.w bs s.heap (PyData.depthAll (pyA ds)) us (PyData.shownAll (pyA ds))
  | [], _, _, r, rv, _, _, _ => by
    cases r; cases rv
    exact ⟨_, [], ReadsAll.nil, (fun _ h => nomatch h), by simp only [pyA, PyData.shownAll]; exact .nil⟩
  | d :: ds, _, _, r, rv, hp, hs, hz => by
    cases r with
    | cons r1 r2 =>
      cases rv with
      | cons v1 v2 =>
        have hp' : plainD d = true ∧ plainA ds = true := by simpa [plainA] using hp
        have hs' : (py d).showable = true ∧ PyData.showableAll (pyA ds) = true := by simpa [pyA, PyData.showableAll] using hs
        obtain ⟨as1, b1, q1, hb1, k1⟩ := rk_of I e d _ _ r1 v1 hp'.1 hs'.1 (hz _ (by simp only [pyA, PyData.shownAll]; exact List.mem_cons_self ..))
        obtain ⟨as2, b2, q2, hb2, k2⟩ := rks_of I e ds _ _ r2 v2 hp'.2 hs'.2 (fun t ht => hz t (by simp only [pyA, PyData.shownAll]; exact List.mem_cons_of_mem _ ht))
        refine ⟨_, b1 ++ b2, ReadsAll.cons q1 q2, ?_, ?_⟩
        · intro b hm
          simp only [pyA, PyData.depthAll]
          rcases List.mem_append.mp hm with hm | hm
          · obtain ⟨d', as', r', hd'⟩ := hb1 b hm
            exact ⟨d', as', r', Nat.le_trans hd' (Nat.le_max_left _ _)⟩
          · obtain ⟨d', as', r', hd'⟩ := hb2 b hm
            exact ⟨d', as', r', Nat.le_trans hd' (Nat.le_max_right _ _)⟩
        · simp only [pyA, PyData.depthAll, PyData.shownAll]
          exact .cons ((k1.more fun b hb => List.mem_append_left _ hb).level_le (Nat.le_max_left _ _)) (k2.more_le (fun b hb => List.mem_append_right _ hb) (Nat.le_max_right _ _))
end
theorem py_lst {ds : List D} : (py (.lst ds)).depth = PyData.depthAll (pyA ds) + 1 ∧ (py (.lst ds)).shown = listText (PyData.shownAll (pyA ds)) := ⟨by simp only [py, PyData.depth], by simp only [py, PyData.shown]⟩
end
structure ShowsU (d : D) : Prop where
  plain : plainD d = true
  show1 : (py d).showable = true
  deep : (py d).depth ≤ 60
  size : (py d).shown.length ≤ sizeLine
def dReprU : WC := fun xs m Q => match xs with
  | [.lst ds] => ShowsU (.lst ds) ∧ Q (.str (py (.lst ds)).shown) m
  | _ => False
def rReprU (K : Fg) : List V → Hp → VK → Prop := fun xs H Q => ∃ a G ds, xs = [.ref a] ∧ Ex G H ∧ Rp K G (.ref a) (.lst ds) ∧ ShowsU (.lst ds) ∧ Q (.str (py (.lst ds)).shown) H
theorem call_reprU {X : Cx} (hc : X.A.guards = some []) (hu : X.A.units + 64 < cLine) : CallR X (.builtin "repr") (rReprU X.K) := by
  intro pins s σ H xs us Q I r h
  obtain ⟨a, G, ds, rfl, e, rp, S, q⟩ := h
  cases r with
  | cons r1 t =>
    cases t
    cases r1
    have hz := S.size
    have hdp := S.deep
    cases rp with
    | @lst a0 xs0 _ hx rr =>
      obtain ⟨its, rv, ⟨o, n, ho, hcl, _, hd⟩, _⟩ := I.list (SqL.of (e _ _ hx))
      have hz' : (listText (PyData.shownAll (pyA ds))).length ≤ sizeLine := by simpa only [py, PyData.shown] using hz
      obtain ⟨as, bs, hr, hb, hk⟩ := rks_of I e ds _ its rr rv (by simpa only [plainD] using S.plain) (by simpa only [py, PyData.showable] using S.show1) (fun t ht => Nat.le_trans (listText_mem_le ht) hz')
      have r : Reads s.heap (.ref a) (.list (pyA ds)) _ := .list ho hcl hd hr
      have hna : a ∉ bs := not_mem_of_deeper r (by simp only [PyData.depth]; omega) hb
      refine call_repr_slot (by omega) ⟨o, ho, hcl⟩ F.slot_list_repr.toG ?_
      simp only [py, PyData.depth] at hdp
      have fin : ∀ h' u tk, (∀ b o, s.heap.get? b = some o → h'.get? b = some o) → ∃ v H1, Inv X pins σ H1 { s with heap := h', toks := tk } ∧ RelV v (.str (listText (PyData.shownAll (pyA ds))) u) ∧ Q v H1 := fun h' u tk k => by
        have e2 : (py (.lst ds)).shown = listText (PyData.shownAll (pyA ds)) := py_lst.2
        rw [e2] at q
        exact ⟨.str _, H, I.kept k, ⟨u, rfl⟩, q⟩
      cases its with
      | nil =>
        have h4' : ReadsAll s.heap [] (pyA ds) _ := hr
        cases ds with
        | nil =>
          refine call_list_repr_empty ⟨o, ho, hcl⟩ ho hd ⟨_, _, rfl, ?_⟩
          have := fin s.heap s.toks (s.toks + 1) fun _ _ e => e
          simp only [pyA, PyData.shownAll, listText_nil] at this
          exact this
        | cons d ds => simp only [pyA] at h4'; cases h4'
      | cons x l =>
        exact call_list_reprK ho hcl hd hna (by simpa using hk.length_eq) (fun i y e => hk.item i y (by simpa using e)) hc (fun b _ => Clear.nil b) (by show X.A.units + 1 + (PyData.depthAll (pyA ds) + 1) < cLine; omega) (fun _ _ e => e) (fun h' u tk k => ⟨_, _, rfl, fin h' u tk k⟩) hz'
theorem b_reprU {P : Program} {w : World} {K : Fg} {mg : Str → Option Value} {base : Heap} {k : Nat} {N : List Str} {ι : Type} {X : ι → Cx} (hX : FamG P w K mg base k N X) : BiU K X (.builtin "repr") dReprU := by
  refine ⟨_, fun i => hX.K i ▸ call_reprU (hX.guards i) (by have := (hX.room i).un; omega), ?_⟩
  intro G m F H xs ds Q Qd hW r h hQ
  unfold dReprU at h
  split at h
  · obtain ⟨S, q⟩ := h
    cases r with
    | cons r1 t =>
      cases t
      have r2 := r1
      cases r1 with
      | lst hx rr => exact ⟨_, G, _, rfl, hW.ex, r2, S, hQ.here hW q (.str _)⟩
  · cases h
end DL
/-! XE: further rules at the level of data -/
namespace DL
open PySem L2 XO
open Evl (Ex)
section
variable {K : Fg} {W : Wx} {ι : Type} {X : ι → Cx} {pos : Pos} {a b c e : Expr} {es : List Expr} {wa wb wc w : WE} {wr : WA} {sts : List Stmt} {t : WS} {ua : WT}
/-! a built-in function under a name of the text -/
theorem pd_bg {mg : Str → Option Value} {x : Str} {p : Pos} {id : String} {w : WC} (hc : BiU K X (.builtin id) w) (hX : ∀ i, (X i).mg = mg) (hm : mg x = some (.builtin id)) (ha : PDA K W X (e :: es) wr) (hg : ∀ i, Gl (X i) x := by intro _; rfl)
    (he : ∀ i, starEach (e :: es) (X i).env = (false, eval e (X i).env) :: starEach es (X i).env := by intro _; rfl) (hpl : ∀ i, (backTo pos (starEach es (X i).env)).any (·.1) = false := by intro _; rfl) (hd : (x == ("__debug__" : Str)) = false := by decide) :
    PD K W X (.Call (.Name x p) (e :: es) [] pos) (wBi w wr) := by
  obtain ⟨r, c1, c2⟩ := hc
  obtain ⟨t, h1, h2⟩ := ha
  exact ⟨_, fun i => pe_callBfun (c1 i) (hg i) (by rw [hX i]; exact hm) (h1 i) hd (he i) (hpl i), lift_cb c2 h2⟩
abbrev dGcd : WC := dInt2 fun i j => ((Nat.gcd i.natAbs j.natAbs : Nat) : Int)
theorem b_gcd : BiU K X (.builtin "math.gcd") dGcd := ⟨_, fun _ => cr_gcd, lift_int2⟩
def dAbs : WC := fun xs m Q => match xs with
  | [.int i] => Q (.int (if i < 0 then -i else i)) m
  | _ => False
theorem b_abs : BiU K X (.builtin "abs") dAbs := by
  refine ⟨_, fun _ => call_abs, ?_⟩
  intro G m F H xs ds Q Qd hW r h hQ
  unfold dAbs at h
  split at h
  · cases r with
    | cons r1 t =>
      cases r1
      cases t
      exact ⟨_, rfl, hQ.here hW h (.int _)⟩
  · cases h
/-! isinstance(x, (c1, ..)) -/
/-- boxes too: they are lists -/
def typedM (m : Mem) : D → Bool
  | .box a => (m a).isSome
  | d => isTyped d
def isaL (x : D) : List String → Option Bool
  | [] => some false
  | n :: r => match isaB n x with
    | some true => some true
    | some false => isaL x r
    | none => none
theorem isaL_box {a : Addr} : ∀ ns, isaL (.box a) ns = isaL (.lst []) ns
  | [] => rfl
  | n :: r => by unfold isaL; rw [show isaB n (.box a) = isaB n (.lst []) from rfl, isaL_box r]
theorem kits {x : D} (hx : isTyped x = true) : ∀ {ns : List String} {b : Bool}, isaL x ns = some b → PySem.W.kitAny K (.type (tyD x)) (ns.map Value.type) = some b
  | [], _, h => by cases h; rfl
  | n :: r, b, h => by
    unfold isaL at h
    split at h
    · rename_i e
      cases h
      exact kitAny_cons (r := true) (kit_ty (kit_isa hx e)) (fun z => nomatch z) (fun _ => rfl)
    · rename_i e
      exact kitAny_cons (kit_ty (kit_isa hx e)) (fun _ => kits hx h) (fun z => nomatch z)
    · cases h
/-- isinstance(e, (c1, c2)) -/
def wIsiT (we : WE) (ns : List String) : WE := fun ρ m Q Qx => we ρ m (fun x m1 => typedM m1 x = true ∧ ∃ b, isaL x ns = some b ∧ Q (.bl b) m1) Qx
theorem tyM_of {G F H : Hp} {m : Mem} {v : V} {d : D} {ns : List String} {b : Bool} (hW : Wd K G m F H) (r : Rp K G v d) (ht : typedM m d = true) (h : isaL d ns = some b) : ∃ t, TyX K H v t ∧ PySem.W.kitAny K t (ns.map Value.type) = some b := by
  cases d with
  | box a =>
    cases r
    obtain ⟨ds, hm⟩ := Option.isSome_iff_exists.mp ht
    obtain ⟨_, _, xs, hx, _⟩ := hW.own a ds hm
    rw [isaL_box] at h
    exact ⟨_, .base (.lst hx), kits (x := .lst []) rfl h⟩
  | _ => exact ⟨_, ty_of hW.ex r (by exact ht), kits (by exact ht) h⟩
theorem pd_isiT2 {mg : Str → Option Value} {x1 x2 : Str} {n1 n2 : String} {p p1 p2 p3 : Pos} {kx : Nat} {we : WE} (hK : ∀ i, (X i).K = K) (hX : ∀ i, (X i).mg = mg) (hm : mg "isinstance" = none) (hi : bootBuiltins "isinstance" = some (.builtin "isinstance")) (m1 : mg x1 = none) (v1 : bootBuiltins x1 = some (.type n1)) (m2 : mg x2 = none) (v2 : bootBuiltins x2 = some (.type n2))
    (he : PD K W X e we) (hg : ∀ i, Gl (X i) "isinstance" := by intro _; rfl) (g1 : ∀ i, Gl (X i) x1 := by intro _; rfl) (g2 : ∀ i, Gl (X i) x2 := by intro _; rfl) (hn1 : x1 ≠ "__name__" := by decide) (hd1 : (x1 == ("__debug__" : Str)) = false := by decide) (hn2 : x2 ≠ "__name__" := by decide) (hd2 : (x2 == ("__debug__" : Str)) = false := by decide)
    (hs : ∀ i, starEach [e, .Tuple [.Name x1 p1, .Name x2 p2] kx p3] (X i).env = (false, eval e (X i).env) :: starEach [.Tuple [.Name x1 p1, .Name x2 p2] kx p3] (X i).env := by intro _; rfl)
    (hpl : ∀ i, (backTo pos (starEach [.Tuple [.Name x1 p1, .Name x2 p2] kx p3] (X i).env)).any (·.1) = false := by intro _; rfl) :
    PD K W X (.Call (.Name "isinstance" p) [e, .Tuple [.Name x1 p1, .Name x2 p2] kx p3] [] pos) (wIsiT we [n1, n2]) := by
  obtain ⟨t, h1, h2⟩ := he
  refine ⟨tCB (rIsiT K) (tCons t (tCons (tTup (tCons (tC (.ty n1)) (tCons (tC (.ty n2)) tNil))) tNil)), fun i => pe_callB (by have q := call_isiT (X := X i); rw [hK i] at q; exact q) (hg i) (by rw [hX i]; exact hm) hi
    (L2.pa_cons (h1 i) (L2.pa_cons (pe_tup (L2.pa_cons (pe_bltn (g1 i) (by rw [hX i]; exact m1) v1 rfl hn1 hd1) (L2.pa_cons (pe_bltn (g2 i) (by rw [hX i]; exact m2) v2 rfl hn2 hd2) L2.pa_nil))) L2.pa_nil) (hs i)) (by decide) (by decide) (hs i) (hpl i), ?_⟩
  intro G m F H σ ρ Q Qd Qx hW hE h hX hQ
  refine h2 G m F H σ ρ _ _ Qx hW hE h hX ?_
  intro d m1 x G1 H1 q e1 W1 r1
  obtain ⟨ht, b, hb, q⟩ := q
  refine ⟨by show 2 ≤ sizeLine; rw [sizeLine_eq]; decide, fun p hp => ?_⟩
  obtain ⟨e2, W2⟩ := W1.new hp (.tup [V.ty n1, V.ty n2])
  obtain ⟨t, ht2, hk⟩ := tyM_of W2 (r1.mono e2) ht hb
  exact ⟨x, p, _, t, _, b, rfl, upd_same, .cons (.ty n1) (.cons (.ty n2) .nil), ht2, hk, hQ _ _ _ _ _ q (e1.trans e2) W2 (.bl b)⟩
/-! what a variable holds, walked: a list or a tuple -/
def iVar (i : Nat) : WA := fun ρ m Q _ => match ρ[i]? with
  | some (some (.lst ds)) => Q ds m
  | some (some (.tup ds)) => Q ds m
  | some (some (.scr ns)) => Q (ns.map D.int) m
  | _ => False
theorem pi_or {Y : Cx} {tg iter : Expr} {t t' : TI} (h : PI Y tg iter t) (h' : PI Y tg iter t') : PI Y tg iter (fun σ H R => t σ H R ∨ t' σ H R) := by
  refine ⟨fun pins s σ H R I q => ?_⟩
  rcases q with q | q
  · exact h.run pins s σ H R I q
  · exact h'.run pins s σ H R I q
theorem pi_var (hK : ∀ i, (X i).K = K) (i : Nat) {N : List Str} {x : Str} (hX : ∀ j, (X j).N = N) (hN : N[i]? = some x := by rfl) (hv : ∀ j, Vis (X j).env.scope x := by intro _; first | exact Or.inl rfl | exact Or.inr (Or.inl rfl) | exact Or.inr (Or.inr rfl)) (hd : (x == ("__debug__" : Str)) = false := by decide) (hc : (x == ("__classdict__" : Str)) = false := by decide) {tg : Expr} : PDI K W X tg (.Name x pos) (iVar i) := by
  refine ⟨fun σ H R => iList K (tVar i) σ H R ∨ iTup K (tVar i) σ H R, fun j => ?_, ?_⟩
  · have pv : PE (X j) (.Name x pos) (tVar i) := pe_var (by rw [hX j]; exact hN) (hv j) hd hc
    have q := pi_or (pi_list (tg := tg) pv) (pi_tup (tg := tg) pv)
    rw [hK j] at q
    exact q
  · intro G m F H σ ρ R Qd Qx hW hE h hX hR
    unfold iVar at h
    split at h
    · rename_i ds e
      obtain ⟨v, h1, h2⟩ := hE.get e
      cases h2 with
      | lst hx rr => exact Or.inl ⟨_, h1, _, rfl, ⟨_, SqL.of (hW.ex _ _ hx)⟩, hR _ _ _ _ _ h (Ex.refl G) hW (dw_list hx rr)⟩
    · rename_i ds e
      obtain ⟨v, h1, h2⟩ := hE.get e
      cases h2 with
      | tup hx rr =>
        refine Or.inr ⟨_, h1, _, rfl, ⟨_, Evl.ex_t hW.ex hx⟩, hR _ _ _ _ _ h (Ex.refl G) hW ?_⟩
        refine ⟨_, _, rr.len ▸ walk_tup, fun G2 m F H e W => ⟨Evl.ex_t W.ex (Evl.ex_t e hx), ?_⟩⟩
        rintro i H' x d hd ⟨rfl, hx⟩
        obtain ⟨v, hv, rv⟩ := rr.at hd
        rw [hv] at hx
        cases hx
        exact ⟨G2, Ex.refl _, W, rv.mono e⟩
    · rename_i ns e
      obtain ⟨v, h1, h2⟩ := hE.get e
      cases h2 with
      | scr hx => exact Or.inl ⟨_, h1, _, rfl, ⟨_, Evl.ex_l hW.ex hx⟩, hR _ _ _ _ _ h (Ex.refl G) hW (dw_scr hx)⟩
    · cases h
/-! while -/
/-- a while of a measured state -/
def sWhile (c : WT) (body : WS) : WS := fun E ρ m => ∃ J : Nat → En0 → Mem → Prop, (∃ n, J n ρ m) ∧ ∀ n ρ m, J n ρ m → c ρ m (fun b m1 => if b = true then body { E with nx := fun ρ' m' => ∃ n', n' < n ∧ J n' ρ' m', ct := fun ρ' m' => ∃ n', n' < n ∧ J n' ρ' m', bk := E.nx } ρ m1 else E.nx ρ m1) E.ex
theorem ps_whileD (hp : ∀ i, PassesOwn (model (X i).prog (X i).w) (X i).A (X i).env (X i).xe) (hc : PDT K W X c ua) (hb : PDB K W X sts t) : PDS K W X (.While c sts [] pos) (sWhile ua t) := by
  obtain ⟨tc, c1, c2⟩ := hc
  obtain ⟨tb, b1, b2⟩ := hb
  refine ⟨_, fun i => ps_while (hp i) (c1 i) (b1 i), ?_⟩
  intro G m F H σ ρ S E hW hE ⟨J, ⟨n0, j0⟩, turn⟩ f
  refine ⟨fun n σ H => ∃ G' m' ρ', Ex G G' ∧ Wd K G' m' F H ∧ En K G' σ ρ' ∧ J n ρ' m', ⟨n0, G, m, ρ, Ex.refl G, hW, hE, j0⟩, ?_⟩
  rintro n σ H ⟨G1, m1, ρ1, e1, W1, E1, j1⟩
  refine c2 G1 m1 F H σ ρ1 _ _ E.ex W1 E1 (turn n ρ1 m1 j1) (f.ex.mono e1) ?_
  intro b m2 G2 H2 q e2 W2
  have e12 := e1.trans e2
  cases b with
  | true =>
    rw [if_pos rfl] at q
    refine ⟨fun σ' H' => ∃ m', m' < n ∧ ∃ G' mm ρ', Ex G G' ∧ Wd K G' mm F H' ∧ En K G' σ' ρ' ∧ J m' ρ' mm, fun _ _ h => h, ?_⟩
    refine b2 G2 m2 F H2 σ ρ1 _ _ W2 (E1.mono e2) q ⟨?_, (f.mono e12).rt, ?_, ?_, (f.mono e12).ex⟩
    · rintro ρ3 m3 σ3 G3 H3 ⟨n', hn, j⟩ e3 W3 E3
      exact ⟨n', hn, G3, m3, ρ3, e12.trans e3, W3, E3, j⟩
    · exact (f.mono e12).nx
    · rintro ρ3 m3 σ3 G3 H3 ⟨n', hn, j⟩ e3 W3 E3
      exact ⟨n', hn, G3, m3, ρ3, e12.trans e3, W3, E3, j⟩
  | false => exact f.nx ρ1 m2 σ G2 H2 q e12 W2 (E1.mono e2)
/-! a, b = e, f -/
def sPar (i j : Nat) (wr : WA) : WS := fun E ρ m => wr ρ m (fun ds m1 => ∃ d1 d2, ds = [d1, d2] ∧ E.nx ((ρ.set i (some d1)).set j (some d2)) m1) E.ex
theorem ps_parD (i j : Nat) {N : List Str} {x y : Str} {px py pt pt2 : Pos} {kt k2 : Nat} (hX : ∀ j, (X j).N = N) (hc : ∀ i, (X i).calm = true) (hN : N.Nodup) (h : PDA K W X [a, b] wr) (hij : i ≠ j := by decide) (hi : N[i]? = some x := by rfl) (hj : N[j]? = some y := by rfl)
    (hx : ∀ j, (X j).env.scope.names.lookup x = some .local := by intro _; rfl) (hy : ∀ j, (X j).env.scope.names.lookup y = some .local := by intro _; rfl)
    (hw : ∀ i, swappedStores [.Tuple [.Name x px, .Name y py] kt pt] (.Tuple [a, b] k2 pt2) (X i).env = pure (some [x, y]) := by intro _; rfl)
    (hs : ∀ i, swapsWithSole [.Tuple [.Name x px, .Name y py] kt pt] (.Tuple [a, b] k2 pt2) pos.line (X i).env = pure false := by intro _; rfl) :
    PDS K W X (.Assign [.Tuple [.Name x px, .Name y py] kt pt] (.Tuple [a, b] k2 pt2) pos) (sPar i j wr) := by
  obtain ⟨t, a1, a2⟩ := h
  refine ⟨_, fun l => ps_par (i := i) (j := j) (hc l) (by rw [hX l]; exact hN) (by rw [hX l]; exact hi) (by rw [hX l]; exact hj) hij (hx l) (hy l) (a1 l) (hw l) (hs l), ?_⟩
  intro G m F H σ ρ S E hW hE h f
  refine a2 G m F H σ ρ _ _ E.ex hW hE h f.ex ?_
  rintro ds m1 vs G1 H1 ⟨d1, d2, rfl, q⟩ e1 W1 r1
  cases r1 with
  | cons r1 t =>
    cases t with
    | cons r2 t =>
      cases t
      exact ⟨_, _, rfl, f.nx _ m1 _ G1 H1 q e1 W1 (((hE.mono e1).put r1 i).put r2 j)⟩
end
end DL
/-! XF: zip, append, boxes compared, calls that borrow boxes -/
namespace DL
open PySem L2 XO RZ
open Evl (Ex)
section
variable {K : Fg} {W : Wx} {ι : Type} {X : ι → Cx} {pos : Pos} {a b c e : Expr} {es : List Expr} {wa wb wc w : WE} {wr : WA} {sts : List Stmt} {t : WS} {ua : WT}
def zipD (xs ys : List D) : List D := (xs.zip ys).map fun p => .tup [p.1, p.2]
def iZipD (wr : WA) : WA := fun ρ m Q Qx => wr ρ m (fun ds m1 => match ds with
  | [.lst xs, .lst ys] => Q (zipD xs ys) m1
  | [.tup xs, .tup ys] => Q (zipD xs ys) m1
  | _ => False) Qx
theorem walk_zipT {K : Fg} {a b : Addr} {xs ys : List V} {n : Nat} (hn : n = min xs.length ys.length) : Walk (ItzT K a b) n (fun H => SqT K H a xs ∧ SqT K H b ys) (YPair (fun i => xs[i]?) (fun i => ys[i]?)) where
  goes := by
    rintro i H hi ⟨qa, qb⟩
    have la : i < xs.length := Nat.lt_of_lt_of_le (hn ▸ hi) (Nat.min_le_left _ _)
    have lb : i < ys.length := Nat.lt_of_lt_of_le (hn ▸ hi) (Nat.min_le_right _ _)
    exact ⟨xs, ys, _, _, qa, qb, List.getElem?_eq_getElem la, List.getElem?_eq_getElem lb⟩
  stops := by
    rintro H ⟨qa, qb⟩
    refine ⟨xs, ys, qa, qb, ?_⟩
    rcases Nat.le_total xs.length ys.length with c | c
    · exact Or.inl (by rw [hn, Nat.min_eq_left c]; exact Nat.le_refl _)
    · exact Or.inr (by rw [hn, Nat.min_eq_right c]; exact Nat.le_refl _)
  yields := by
    rintro i H v H' hi ⟨qa, qb⟩ ⟨T, u, u', ev, fresh, eH, ku, ku'⟩
    exact ⟨T, u, u', ev, fresh, eH, ku xs qa, ku' ys qb⟩
theorem zip_turn {G : Hp} {xs ys : List V} {ds es : List D} (r1 : RpA K G xs ds) (r2 : RpA K G ys es) {G2 : Hp} {m : Mem} {F H : Hp} (e : Ex G G2) (hW : Wd K G2 m F H) :
    ∀ i H' x d, (zipD ds es)[i]? = some d → YPair (fun i => xs[i]?) (fun i => ys[i]?) i H x H' → ∃ G', Ex G2 G' ∧ Wd K G' m F H' ∧ Rp K G' x d := by
  rintro i H' x d hd ⟨T, u, v, rfl, hT, rfl, hu, hv⟩
  unfold zipD at hd
  rw [List.getElem?_map] at hd
  cases hz : (ds.zip es)[i]? with
  | none => rw [hz] at hd; cases hd
  | some p =>
    rw [hz] at hd
    cases hd
    obtain ⟨h1, h2⟩ := List.getElem?_zip_eq_some.mp hz
    obtain ⟨u', hu', ru⟩ := r1.at h1
    obtain ⟨v', hv', rv⟩ := r2.at h2
    have hu : xs[i]? = some u := hu
    have hv : ys[i]? = some v := hv
    rw [hu] at hu'; cases hu'
    rw [hv] at hv'; cases hv'
    obtain ⟨e2, W2⟩ := hW.new hT (.tup [u, v])
    exact ⟨_, e2, W2, .tup (SqT.of upd_same) (.cons (ru.mono (e.trans e2)) (.cons (rv.mono (e.trans e2)) .nil))⟩
theorem zip_len {xs ys : List V} {ds es : List D} {G : Hp} (r1 : RpA K G xs ds) (r2 : RpA K G ys es) : (zipD ds es).length = min xs.length ys.length := by
  unfold zipD
  rw [List.length_map, List.length_zip, r1.len, r2.len]
theorem pi_zipD {mg : Str → Option Value} {p tpos : Pos} {elts : List Expr} {kk : Nat} (hK : ∀ i, (X i).K = K) (hX : ∀ i, (X i).mg = mg) (hm : mg "zip" = none) (ha : PDA K W X [a, b] wr) (hg : ∀ i, Gl (X i) "zip" := by intro _; rfl)
    (hs : ∀ i, starEach [a, b] (X i).env = (false, eval a (X i).env) :: starEach [b] (X i).env := by intro _; rfl) (hpl : ∀ i, (backTo pos (starEach [b] (X i).env)).any (·.1) = false := by intro _; rfl) :
    PDI K W X (.Tuple elts kk tpos) (.Call (.Name "zip" p) [a, b] [] pos) (iZipD wr) := by
  obtain ⟨t, h1, h2⟩ := ha
  refine ⟨iZipA K t, fun i => hK i ▸ pi_zipA (hg i) (by rw [hX i]; exact hm) (h1 i) (hs i) (hpl i), ?_⟩
  intro G m F H σ ρ R Qd Qx hW hE h hX hR
  refine h2 G m F H σ ρ _ _ Qx hW hE h hX ?_
  intro ds m1 vs G1 H1 q e1 W1 r1
  split at q
  · rename_i ds es
    cases r1 with
    | cons r1 t =>
      cases t with
      | cons r2 t =>
        cases t
        cases r1 with
        | lst hx rx =>
          cases r2 with
          | lst hy ry =>
            refine ⟨_, _, _, _, rfl, Or.inl ⟨SqL.of (W1.ex _ _ hx), SqL.of (W1.ex _ _ hy), hR _ _ _ _ _ q e1 W1 ?_⟩⟩
            exact ⟨_, _, walk_zip (zip_len rx ry), fun G2 m F H e W => ⟨⟨SqL.of (W.ex _ _ (e _ _ hx)), SqL.of (W.ex _ _ (e _ _ hy))⟩, zip_turn (G := G1) rx ry e W⟩⟩
  · rename_i ds es
    cases r1 with
    | cons r1 t =>
      cases t with
      | cons r2 t =>
        cases t
        cases r1 with
        | tup hx rx =>
          cases r2 with
          | tup hy ry =>
            refine ⟨_, _, _, _, rfl, Or.inr ⟨Evl.ex_t W1.ex hx, Evl.ex_t W1.ex hy, hR _ _ _ _ _ q e1 W1 ?_⟩⟩
            exact ⟨_, _, walk_zipT (zip_len rx ry), fun G2 m F H e W => ⟨⟨Evl.ex_t W.ex (Evl.ex_t e hx), Evl.ex_t W.ex (Evl.ex_t e hy)⟩, zip_turn (G := G1) rx ry e W⟩⟩
  · cases q
/-! xs.append(e), xs a box -/
def sAppend (o : WE) (wr : WA) : WS := fun E ρ m => o ρ m (fun x m1 => match x with
  | .box p => (m1 p).isSome = true ∧ wr ρ m1 (fun ds m2 => ∃ d xs, ds = [d] ∧ m2 p = some xs ∧ xs.length < sizeLine ∧ E.nx ρ (m2.up p (xs ++ [d]))) E.ex
  | _ => False) E.ex
theorem ps_appendD {o : Expr} {wo : WE} {apos cpos : Pos} (hK : ∀ i, (X i).K = K) (ho : PD K W X o wo) (ha : PDA K W X [e] wr)
    (hbase : ∀ i, attributeBase o "append" (X i).env (eval o (X i).env) = eval o (X i).env := by intro _; rfl)
    (hfew : ∀ i, ((backTo cpos (starEach [e] (X i).env)).all (fun x => !x.1) && (backToKw cpos (keywordEach [] (X i).env)).all (fun x => x.1.isSome)
      && decide ([e].length + ([] : List Keyword).length + (if ([] : List Keyword).isEmpty then 0 else 1) < 30)) = true := by intro _; rfl)
    (hline : (apos.endLine == cpos.line) = true := by rfl) (hs : ∀ i, starEach [e] (X i).env = (false, eval e (X i).env) :: starEach [] (X i).env := by intro _; rfl) (hplain : ∀ i, (backTo cpos (starEach [] (X i).env)).any (·.1) = false := by intro _; rfl)
    (hsw : ∀ i, swapsWith (.Call (.Attribute o "append" apos) [e] [] cpos) none pos.line (X i).env = pure false := by intro _; rfl) :
    PDS K W X (.Expr (.Call (.Attribute o "append" apos) [e] [] cpos) pos) (sAppend wo wr) := by
  obtain ⟨to, o1, o2⟩ := ho
  obtain ⟨ta, a1, a2⟩ := ha
  refine ⟨_, fun i => L2.ps_expr (te := tBM K "list" rAppend to ta) (by have q := pe_bm PySem.F.plainAttrs_list PySem.F.slot_list_append PySem.F.type_list_append (mt_append (X := X i)) (o1 i) (a1 i) (hbase i) (hfew i) hline (hs i) (hplain i); rw [hK i] at q; exact q) (hsw i), ?_⟩
  intro G m F H σ ρ S E hW hE h f
  refine o2 G m F H σ ρ _ _ E.ex hW hE h f.ex ?_
  intro x m1 xv G1 H1 q1 e1 W1 r1
  cases r1 <;> first | exact (show False from q1).elim | skip
  rename_i p
  obtain ⟨hp, q1⟩ := q1
  obtain ⟨ds0, hp⟩ := Option.isSome_iff_exists.mp hp
  obtain ⟨_, _, xs0, hx0, _⟩ := W1.own p ds0 hp
  refine ⟨Or.inl ⟨rfl, _, SqL.of hx0⟩, ?_⟩
  refine a2 G1 m1 F H1 σ ρ _ _ E.ex W1 (hE.mono e1) q1 (f.ex.mono e1) ?_
  rintro ds m2 vs G2 H2 ⟨d, xs, rfl, hm, hl, q2⟩ e2 W2 r2
  cases r2 with
  | cons r2 t =>
    cases t
    obtain ⟨_, _, ys, hy, ry⟩ := W2.own p xs hm
    refine ⟨p, ys, _, rfl, rfl, hy, by rw [ry.len]; exact hl, ?_⟩
    exact f.nx ρ _ σ G2 _ q2 (e1.trans e2) (W2.put hm (ry.app (.cons r2 .nil))) (hE.mono (e1.trans e2))
/-! data with its boxes looked up -/
mutual
def res (m : Mem) : D → D
  | .box a => match m a with
    | some ds => .lst ds
    | none => .box a
  | .lst ds => .lst (resA m ds)
  | .tup ds => .tup (resA m ds)
  | .dct ks ds => .dct ks (resA m ds)
  | .obj n ks ds => .obj n ks (resA m ds)
  | .non => .non | .bl b => .bl b | .int i => .int i | .str x => .str x | .ty n => .ty n | .scr ns => .scr ns
def resA (m : Mem) : List D → List D
  | [] => []
  | d :: ds => res m d :: resA m ds
end
/-- G2: what is good, the boxes of m among it -/
structure Adopt (K : Fg) (G : Hp) (m : Mem) (G2 : Hp) : Prop where
  ex : Ex G G2
  box : ∀ a ds, m a = some ds → ∃ xs, G2 a = some (.lst xs) ∧ RpA K G xs ds
mutual
theorem rp_res {G G2 : Hp} {m : Mem} (A : Adopt K G m G2) : ∀ {v : V} {d : D}, Rp K G v d → Rp K G2 v (res m d)
  | _, _, .non => by simp only [res]; exact .non
  | _, _, .bl b => by simp only [res]; exact .bl b
  | _, _, .int i => by simp only [res]; exact .int i
  | _, _, .str x => by simp only [res]; exact .str x
  | _, _, .ty n => by simp only [res]; exact .ty n
  | _, _, .scr h => by simp only [res]; exact .scr (Evl.ex_l A.ex h)
  | _, _, .lst h r => by simp only [res]; exact .lst (A.ex _ _ h) (rps_res A r)
  | _, _, .tup h r => by simp only [res]; exact .tup (Evl.ex_t A.ex h) (rps_res A r)
  | _, _, .dct h a b r => by simp only [res]; exact .dct (A.ex _ _ h) a b (rps_res A r)
  | _, _, .obj k h a b r => by simp only [res]; exact .obj k (A.ex _ _ h) a b (rps_res A r)
  | _, _, .box a => by
    unfold res
    split
    · rename_i ds hm
      obtain ⟨xs, hx, rr⟩ := A.box a ds hm
      exact .lst hx (rr.mono A.ex)
    · exact .box a
theorem rps_res {G G2 : Hp} {m : Mem} (A : Adopt K G m G2) : ∀ {vs : List V} {ds : List D}, RpA K G vs ds → RpA K G2 vs (resA m ds)
  | _, _, .nil => by simp only [resA]; exact .nil
  | _, _, .cons r t => by simp only [resA]; exact .cons (rp_res A r) (rps_res A t)
end
theorem Wd.adoptH {G F H : Hp} {m : Mem} (W : Wd K G m F H) : Adopt K G m H := ⟨W.ex, fun a ds h => by
  obtain ⟨_, _, xs, hx, rr⟩ := W.own a ds h
  exact ⟨xs, hx, rr⟩⟩
def dEqM : WR := fun x y m Q => SeqAt.shaped (py (res m x)) = true ∧ SeqAt.shaped (py (res m y)) = true ∧ Q (.bl (PyData.eqv (py (res m x)) (py (res m y)))) m
def dNeM : WR := fun x y m Q => SeqAt.shaped (py (res m x)) = true ∧ SeqAt.shaped (py (res m y)) = true ∧ Q (.bl (!PyData.eqv (py (res m x)) (py (res m y)))) m
theorem c_eqM {P : Program} {wo : World} {mg : Str → Option Value} {base : Heap} {k : Nat} {N : List Str} (hX : Fam P wo K mg base k N X) : CmpU K X .Eq dEqM := by
  refine ⟨rEqD K, fun i => hX.K i ▸ op_eqD (by have := (hX.room i).un; omega), ?_⟩
  rintro G m F H x y dx dy Q Qd hW rx ry ⟨h1, h2, q⟩ hQ
  exact ⟨_, _, dp_of (Ex.refl H) _ (rp_res hW.adoptH rx) (shaped_lay h1), dp_of (Ex.refl H) _ (rp_res hW.adoptH ry) (shaped_lay h2), h1, h2, hQ.here hW q (.bl _)⟩
theorem c_neM {P : Program} {wo : World} {mg : Str → Option Value} {base : Heap} {k : Nat} {N : List Str} (hX : Fam P wo K mg base k N X) : CmpU K X .NotEq dNeM := by
  refine ⟨rNeD K, fun i => hX.K i ▸ op_neD (by have := (hX.room i).un; omega), ?_⟩
  rintro G m F H x y dx dy Q Qd hW rx ry ⟨h1, h2, q⟩ hQ
  exact ⟨_, _, dp_of (Ex.refl H) _ (rp_res hW.adoptH rx) (shaped_lay h1), dp_of (Ex.refl H) _ (rp_res hW.adoptH ry) (shaped_lay h2), h1, h2, hQ.here hW q (.bl _)⟩
/-! calls that borrow the boxes: what comes back is flat -/
theorem rp_flat {G G2 : Hp} {v : V} {d : D} (h : flatD d = true) (r : Rp K G v d) : Rp K G2 v d := by
  cases r <;> first | exact .non | exact .bl _ | exact .int _ | exact .str _ | exact nomatch h
/-- G with the boxes of m -/
def withBoxes (m : Mem) (G H : Hp) : Hp := fun a => if (m a).isSome = true then H a else G a
/-- G without the boxes of m -/
def noBoxes (m : Mem) (G : Hp) : Hp := fun a => if (m a).isSome = true then none else G a
theorem Wd.lend {G F H : Hp} {m : Mem} (W : Wd K G m F H) : Adopt K G m (withBoxes m G H) ∧ Wd K (withBoxes m G H) (fun _ => none) F H := by
  have ex : Ex G (withBoxes m G H) := by
    intro a o h
    unfold withBoxes
    by_cases c : (m a).isSome = true
    · obtain ⟨ds, hm⟩ := Option.isSome_iff_exists.mp c
      rw [(W.own a ds hm).1] at h; cases h
    · rw [if_neg c]; exact h
  refine ⟨⟨ex, fun a ds h => ?_⟩, ⟨?_, fun _ _ z => (nomatch z), W.fr, ?_⟩⟩
  · obtain ⟨_, _, xs, hx, rr⟩ := W.own a ds h
    exact ⟨xs, by unfold withBoxes; rw [if_pos (by rw [h]; rfl)]; exact hx, rr⟩
  · intro a o h
    unfold withBoxes at h
    by_cases c : (m a).isSome = true
    · rw [if_pos c] at h; exact h
    · rw [if_neg c] at h; exact W.ex _ _ h
  · intro a o h
    unfold withBoxes
    by_cases c : (m a).isSome = true
    · obtain ⟨ds, hm⟩ := Option.isSome_iff_exists.mp c
      rw [(W.own a ds hm).2.1] at h; cases h
    · rw [if_neg c]; exact W.frG _ _ h
theorem Wd.back {G F H G2 H2 : Hp} {m m2 : Mem} (W : Wd K G m F H) (e : Ex (withBoxes m G H) G2) (W2 : Wd K G2 m2 F H2) : Ex G (noBoxes m G2) ∧ Wd K (noBoxes m G2) m F H2 := by
  have ex : Ex G (noBoxes m G2) := by
    intro a o h
    unfold noBoxes
    by_cases c : (m a).isSome = true
    · obtain ⟨ds, hm⟩ := Option.isSome_iff_exists.mp c
      rw [(W.own a ds hm).1] at h; cases h
    · rw [if_neg c]
      exact e _ _ (W.lend.1.ex _ _ h)
  refine ⟨ex, ⟨?_, ?_, W2.fr, ?_⟩⟩
  · intro a o h
    unfold noBoxes at h
    by_cases c : (m a).isSome = true
    · rw [if_pos c] at h; cases h
    · rw [if_neg c] at h; exact W2.ex _ _ h
  · intro a ds h
    obtain ⟨_, hF, xs, hx, rr⟩ := W.own a ds h
    refine ⟨by unfold noBoxes; rw [if_pos (by rw [h]; rfl)], hF, xs, W2.ex _ _ (e _ _ ?_), rr.mono ex⟩
    unfold withBoxes; rw [if_pos (by rw [h]; rfl)]; exact hx
  · intro a o h
    unfold noBoxes
    by_cases c : (m a).isSome = true
    · rw [if_pos c]
    · rw [if_neg c]; exact W2.frG _ _ h
theorem Wd.backX {G F H G2 : Hp} {m : Mem} {x : Xn} {d : Option Addr} (W : Wd K G m F H) (e : Ex (withBoxes m G H) G2) (hf : flatD x.val = true) (r : Xr K G2 x d) : Xr K (noBoxes m G2) x d := by
  obtain ⟨dd, v, h1, h2, h3⟩ := r
  refine ⟨dd, v, h1, ?_, rp_flat hf h3⟩
  unfold noBoxes
  by_cases c : (m dd).isSome = true
  · obtain ⟨ds, hm⟩ := Option.isSome_iff_exists.mp c
    obtain ⟨_, _, xs, hx, _⟩ := W.own dd ds hm
    have : G2 dd = some (.lst xs) := e _ _ (by unfold withBoxes; rw [if_pos c]; exact hx)
    rw [this] at h2; cases h2
  · rw [if_neg c]; exact h2
/-- a promise, the boxes lent or not -/
def lent (fn : DFn) : DFn := fun ds m Q Qx => fn ds m Q Qx ∨ fn (resA m ds) (fun _ => none) (fun d _ => flatD d = true ∧ Q d m) (fun x _ => flatD x.val = true ∧ Qx x m)
theorem spD_lent {mg : Str → Option Value} {fn : DFn} {vs : List V} {H : Hp} {Q : VK} {E : XK} (h : spD K mg (lent fn) vs H Q E) : spD K mg fn vs H Q E := by
  obtain ⟨G, m, F, ds, Qd, Qx, W, r, h, hQ, hX⟩ := h
  rcases h with h | h
  · exact ⟨G, m, F, ds, Qd, Qx, W, r, h, hQ, hX⟩
  · obtain ⟨A, W1⟩ := W.lend
    refine ⟨_, _, F, _, _, _, W1, rps_res A r, h, ?_, ?_⟩
    · rintro d m' v G' H' ⟨hf, q⟩ e W' rv
      obtain ⟨e2, W2⟩ := W.back e W'
      exact hQ d m v _ H' q e2 W2 (rp_flat hf rv)
    · rintro x m' cls d G' H' ⟨hf, q⟩ hm e W' rx
      obtain ⟨e2, W2⟩ := W.back e W'
      exact hX x m cls d _ H' q hm e2 W2 (W.backX e hf rx)
theorem FnG.lent {P : Program} {w : World} {mg : Str → Option Value} {base : Heap} {CX : CXT} {k : Nat} {f : Addr} {fd : FuncData} {ps : List Str} {fn : DFn} (Fn : FnG P w K mg base CX k f fd ps (spD K mg fn)) : FnG P w K mg base CX k f fd ps (spD K mg (lent fn)) :=
  ⟨fun vs H Q E h => Fn.size vs H Q E (spD_lent h), fun A oe s H ar us vs Q E hg hr e0 hb r h => Fn.runs A oe s H ar us vs Q E hg hr e0 hb r (spD_lent h)⟩
theorem Has.lent {P : Program} {w : World} {mg : Str → Option Value} {base : Heap} {j : Nat} {x : Str} {ps : List Str} {fn : DFn} (h : Has P w K mg base j x ps fn) : Has P w K mg base j x ps (DL.lent fn) := by
  obtain ⟨f, fd, Fn, r⟩ := h
  exact ⟨f, fd, Fn.lent, r⟩
theorem HasX.lent {P : Program} {w : World} {mg : Str → Option Value} {base : Heap} {j : Nat} {x : Str} {ps : List Str} {fn : DFn} (h : HasX P w K mg base j x ps fn) : HasX P w K mg base j x ps (DL.lent fn) := by
  obtain ⟨f, fd, Fn, r⟩ := h
  exact ⟨f, fd, Fn.lent, r⟩
end
end DL
/-! XG: the facts of an exception class, one by one -/
namespace DL
open PySem L2 XO PySem.HandSPX PySem.Calls PyProof.Rows
theorem exm_self {K : Fg} {S : Addr} (h1 : PySem.W.subIn K (.ref S) (.type "BaseException") = some true) (h2 : PySem.W.isClsIn K S = true) (h3 : PySem.W.typeIn K (.ref S) = some (.type "type")) (h4 : PySem.W.subIn K (.ref S) (.ref S) = some true) : PySem.W.exmOne K (.ref S) (.ref S) = some true := by
  unfold PySem.W.exmOne PySem.W.kitCls
  rw [if_pos (by rw [h1]; rfl)]
  show (if ((PySem.W.clsIn K S).isSome && PySem.W.typeIn K (.ref S) == some (.type "type")) = true then PySem.W.subIn K (.ref S) (.ref S) else none) = some true
  rw [if_pos (by rw [show (PySem.W.clsIn K S).isSome = true from h2, h3]; rfl)]
  exact h4
theorem xc_mk {P : Program} {K : Fg} {mg : Str → Option Value} {h : Heap} (X : K.In h) (G : h.Ns mainGlobals mg) {n fld : Str} {B newId initId : String} {bmB : List Value} (D : Base B newId initId bmB) (bind : BindOk fld)
  (names : (fld == ("self" : Str)) = false ∧ (fld == ("__debug__" : Str)) = false ∧ (("self" : Str) == fld) = false ∧ (("super" : Str) == fld) = false ∧ (("__class__" : Str) == fld) = false)
  {C fI : Addr} (a1 : PySem.W.nsIn K mainGlobals n = some (some (.ref C))) (a2 : PySem.W.findIn K (.ref C) "__init__" = some (some (.ref fI)))
  {nm q : Str} {N : Addr} {bs bm : List Value} {sn : List Str} {sub : List Value} {ab : Bool} {col : Option Bool} {dd : Option Addr} {k0 k1 k2 k3 k5 : Option Value}
  (b1 : K.lookup C = some (excClassObj nm q C N bs bm true sn sub ab col dd k0 k1 k2 k3 k5 newId)) (b2 : PySem.W.excTail bmB bm = true)
  (b3 : PySem.W.findIn K (.ref C) "__setattr__" = some (some (.builtin "object.__setattr__"))) (b4 : PySem.W.findIn K (.ref C) "__getattribute__" = some (some (.builtin "BaseException.__getattribute__"))) (b5 : PySem.W.findIn K (.ref C) "__getattr__" = some none) (b6 : PySem.W.findIn K (.ref C) fld = some none)
  (b7 : PySem.W.typeIn K (.ref fI) = some (.type "function")) (b8 : PySem.W.keepIn K (.ref C) = true) (b9 : PySem.W.subIn K (.ref C) (.type "BaseException") = some true) (c1 : PySem.W.typeIn K (.ref C) = some (.type "type")) (c2 : PySem.W.hasDictIn K C = true)
  (c3 : PySem.W.subIn K (.ref C) (.type B) = some true) (c4 : PySem.W.mroIn K C (.ref C) = some true) (c5 : PySem.W.nsIn K cStatics "thirdparty.any" = some none) (c6 : PySem.W.ks_superIn K C C "__init__" = some (some (.builtin initId)))
  (c7 : PySem.W.isClsIn K C = true) (c8 : PySem.W.subIn K (.ref C) (.ref C) = some true)
  {oc : Value} {od : Option Addr} {qual : Str} {doc pm : Value} {an : Option Addr} {cda cc : Addr} {ct : Value} {osl : Array (Option Value)} {msg : Str} {j : Nat} {p1 p2 d1 d2 d3 d4 d5 d6 q1 q2 q3 q4 : Pos}
  (e1 : K.lookup fI = some ⟨oc, od, .func (PySem.W.ksFn "__init__" qual (iA fld p1 p2) (iB fld msg j d1 d2 d3 d4 d5 d6 q1 q2 q3 q4) (iS fld) .none .none doc pm an (.ref cda) ct cc), osl⟩) (e2 : PySem.W.codeIn K (.ref cda) qual = true)
  {cl : Value} {cld : Option Addr} {csl : Array (Option Value)} (e3 : K.lookup cc = some ⟨cl, cld, .cell (some (.ref C)), csl⟩) {ccl : Value} {cdd : Option Addr} {vs : Array Value} {ccs : Array (Option Value)} {file : Str} {tf : Tok} (e4 : K.lookup cda = some ⟨ccl, cdd, .fields vs, ccs⟩) (e5 : vs[2]? = some (.str file tf)) (e6 : (P.main.file == file) = true) (e7 : (d3.endLine == d5.line) = true) :
  XC P K mg n fld :=
  ⟨C, fI, B, newId, initId, bmB, D, { cls := ⟨_, _, _, _, _, _, _, _, _, _, _, _, _, _, _, b1, b2⟩, sa := b3, ga := b4, gg := b5, noN := b6, iC := a2, tC := b7, kC := b8, exC := b9, tyC := c1, hdC := c2, subB := c3, mroC := c4, statics := c5, along := c6, fn := ⟨_, _, _, _, _, _, _, _, _, _, _, _, _, _, _, _, _, _, _, _, _, _, _, _, e1, e2, ⟨_, _, _, e3⟩, _, _, _, _, _, _, e4, e5, e6, e7⟩, bind := bind, names := names }, PySem.W.mg_of X G a1, exm_self b9 c7 c1 c8⟩
theorem nox_takes {ι : Type} {Y : ι → Cx} {mg : Str → Option Value} : ∀ i, Takes (Y i) (toWX mg fun _ _ _ _ => False) := by
  rintro i u s' ⟨a, B, sI, pins, σ, H, cls, d, e, I, nb, up, sky, na, os, ag, n, hm, q⟩
  exact q.elim
/-! f() -/
def wCall0 (fn : DFn) : WE := fun ρ m Q Qx => fn [] m Q (fun _ _ => False)
theorem pd_own_call0 {P : Program} {w : World} {K : Fg} {mg : Str → Option Value} {base : Heap} {k : Nat} {N : List Str} {W : Wx} {ι : Type} {X : ι → Cx} {pos : Pos} {fn : DFn} {j : Nat} {x : Str} {p : Pos} (hX : FamG P w K mg base k N X) (h : Has P w K mg base j x [] fn) (hj : j ≤ k := by decide) (hg : ∀ i, Gl (X i) x := by intro _; rfl) (hd : (x == ("__debug__" : Str)) = false := by decide) :
    PD K W X (.Call (.Name x p) [] [] pos) (wCall0 fn) := by
  obtain ⟨f, fd, Fn, hm, hk, hb⟩ := h
  refine ⟨fun σ H Q => spD K mg fn ([] ++ []) H Q E0, fun i => ⟨fun pins s σ H Q I h => ?_⟩, ?_⟩
  · have hmi : (X i).mg x = some (.ref f) := by rw [hX.mg i]; exact hm
    have Fi : FnG (X i).prog (X i).w (X i).K (X i).mg (X i).base CX0 j f fd [] (spD K mg fn) := by rw [hX.prog i, hX.w i, hX.K i, hX.mg i, hX.base i]; exact Fn
    refine wpAny_Call_Name_kw (ld_glob I (hg i) hmi ?_ hd)
    refine PySem.W.callWith_K0 (I.kIn) (by rw [hX.K i]; exact hk) ?_
    exact Fi.goes (hX.guards i) ((hX.room i).mono hj) (by rw [hX.K i]; exact hb) .nil pass0 I .nil h
  · intro G m F H σ ρ Q Qd Qx hW hE h hXx hQ
    exact ⟨G, m, F, [], Qd, fun _ _ => False, hW, .nil, h, hQ, fun _ _ _ _ _ _ z => z.elim⟩
end DL
namespace DL
open PySem L2
/-! ### k03: what each def is worth -/
def isWhole : D → Bool
  | .int _ => true
  | _ => false
def wholeL : D → Bool
  | .lst ds => ds.all isWhole
  | .tup ds => ds.all isWhole
  | _ => false
/-- things that the rules take -/
def okL : D → Bool
  | .lst ds => decide (ds.length ≤ 1000) && ds.all isTyped
  | .tup ds => decide (ds.length ≤ 1000) && ds.all isTyped
  | .non => true | .bl _ => true | .int _ => true | .str _ => true | .dct _ _ => true
  | _ => false
def F_is_list : DFn := fun ds m Q _ => ∃ x, ds = [x] ∧ isTyped x = true ∧ Q (.bl (lstB x || tupB x)) m
def F_is_whole : DFn := fun ds m Q _ => ∃ x, ds = [x] ∧ isTyped x = true ∧ Q (.bl (isWhole x)) m
def F_is_whole_list : DFn := fun ds m Q _ => ∃ x, ds = [x] ∧ okL x = true ∧ Q (.bl (wholeL x)) m
/-- a row of intD -/
def intD (ns : List Int) : List D := ns.map D.int
def Row (x : D) (ns : List Int) : Prop := x = .lst (intD ns) ∨ x = .tup (intD ns)
def Fits (ns : List Int) : Prop := ns.length ≤ 100 ∧ ∀ n ∈ ns, n.natAbs < 2 ^ 150
def gcdF (g : Nat) (ns : List Int) : Nat := ns.foldl (fun g n => Nat.gcd g n.natAbs) g
def scaledI (ns : List Int) : List Int := if gcdF 0 ns = 0 then ns else ns.map fun n => n / ((gcdF 0 ns : Nat) : Int)
abbrev part (x : D) : Xn := ⟨"InvalidPart", "value", x⟩
/-- what is no row of intD -/
def Odd (m : Mem) (x : D) : Prop := okL (res m x) = true ∧ wholeL (res m x) = false
def F_scaled : DFn := fun ds m Q Qx => ∃ x, ds = [x] ∧ ((∃ ns, Row x ns ∧ Fits ns ∧ Q (.tup (intD (scaledI ns))) m) ∨ (Odd m x ∧ Qx (part x) m))
def dot (ns ks : List Int) : Int := ((ns.zip ks).map fun p => p.1 * p.2).sum
def F_weighed : DFn := fun ds m Q _ => ∃ x y ns ks, ds = [x, y] ∧ (x = .lst (intD ns) ∧ y = .lst (intD ks) ∨ x = .tup (intD ns) ∧ y = .tup (intD ks)) ∧ Fits ns ∧ Fits ks ∧ ns.length = ks.length ∧ Q (.int (dot ns ks)) m
def F_price : DFn := fun ds m Q Qx => ∃ x y, ds = [x, y] ∧
  ((∃ ns ks, (x = .lst (intD ns) ∧ y = .lst (intD ks) ∨ x = .tup (intD ns) ∧ y = .tup (intD ks)) ∧ Fits ns ∧ Fits ks ∧ ns.length = ks.length ∧ Q (.int (dot ns ks)) m) ∨
   (Odd m x ∧ Qx (part x) m) ∨ (∃ ns, Row x ns ∧ Fits ns ∧ Odd m y ∧ Qx (part y) m) ∨
   (∃ ns ks, Row x ns ∧ Row y ks ∧ Fits ns ∧ Fits ks ∧ ks.length ≠ ns.length ∧ Qx (part y) m))
def F_law_cell : DFn := fun ds m Q _ => ∃ (ns : List Int) (k : Int), ds = [.scr ns, .int k] ∧ 0 ≤ k ∧ k < 1000 ∧ ∀ i : Int, Q (.int i) m
/-- the box: three intD; the third counts -/
def Box (l : List D) (c : Int) : Prop := ∃ x y z : Int, l = [.int x, .int y, .int z] ∧ 0 ≤ x ∧ 0 ≤ y ∧ y < 2147483648 ∧ 0 ≤ z ∧ z ≤ c
def F_law_box : DFn := fun ds m Q _ => ∃ i : Int, ds = [.int i] ∧ ∀ p l, m p = none → Box l 0 → Q (.box p) (m.up p l)
def F_law_take : DFn := fun ds m Q _ => ∃ (a : Addr) (n c : Int) (l : List D), ds = [.box a, .int n] ∧ m a = some l ∧ Box l c ∧ c ≤ 1000000 ∧ 0 < n ∧ n < 2 ^ 200 ∧ ∀ (d : Int) (l' : List D), 0 ≤ d → d < n → Box l' (c + 1) → Q (.int d) (m.up a l')
def F_law_row : DFn := fun ds m Q _ => ∃ (a : Addr) (n c : Int) (l : List D), ds = [.box a, .int n] ∧ m a = some l ∧ Box l c ∧ c ≤ 1000 ∧ 0 ≤ n ∧ n ≤ 10 ∧ ∀ (ns : List Int) (l' : List D), ns.length = n.toNat → (∀ z ∈ ns, z.natAbs < 2 ^ 150) → Box l' (c + 20) → Q (.lst (intD ns)) (m.up a l')
def F_law_shared : DFn := fun ds m Q _ => ∃ ns, ds = [.lst (intD ns)] ∧ Q (.int ((gcdF 0 ns : Nat) : Int)) m
def told (Q : D → Mem → Prop) : D → Mem → Prop := fun d m => 2 ≤ sizeLine ∧ Q (.lst [.str (Str.ofString "told"), d]) m
def refused (Q : D → Mem → Prop) : XQ := fun x m => x.cls = "InvalidPart" ∧ x.fld = "value" ∧ Q (.lst [.str (Str.ofString "part"), x.val]) m
def F_law_caught : DFn := fun ds m Q _ => ∃ (w : Int) (x y : D), ds = [.int w, x, y] ∧ ((w = 0 ∧ F_scaled [x] m (told Q) (refused Q)) ∨ (w = 1 ∧ F_price [x, y] m (told Q) (refused Q)))
def F_law_odd_right : DFn := fun ds m Q _ => ds = [] ∧ ∀ m', Q (.bl true) m'
def F_law : DFn := lawFn 63
def w_is_list : WS := (sRet (wIsiT (wVar 0) ["list", "tuple"]))
def w_is_whole : WS := (sRet (wAnd (wBi dIsi (wCons (wVar 0) (wCons (wC (.ty "int")) wNil))) (wNot (wBi dIsi (wCons (wVar 0) (wCons (wC (.ty "bool")) wNil))))))
def w_is_whole_list : WS := (sRet (wAnd (wCall F_is_list (wCons (wVar 0) wNil)) (wBi (dBls fun bs => bs.all id) (wCons (wLc (iVar 0) (gvName 1) tvYes (wCall F_is_whole (wCons (wVar 1) wNil)) [1]) wNil))))
def w_scaled : WS := (sSeq (sIf (tvNot (wTest (wCall (lent F_is_whole_list) (wCons (wVar 0) wNil)))) (sRaise "InvalidPart" "value" (wVar 0)) sNext) (sSeq (sSet 1 (wC (.int 0))) (sSeq (sFor (iVar 0) (gvName 2) (sSet 1 (wBi dGcd (wCons (wVar 1) (wCons (wVar 2) wNil))))) (sSeq (sIf (wTest (wOp dEq (wVar 1) (wC (.int 0)))) (sRet (wBi dTuple (wCons (wVar 0) wNil))) sNext) (sRet (wBi dTuple (wCons (wLc (iVar 0) (gvName 2) tvYes (wOp dDiv (wVar 2) (wVar 1)) [2]) wNil)))))))
def w_weighed : WS := (sRet (wBi dSum (wCons (wLc (iZipD (wCons (wVar 0) (wCons (wVar 1) wNil))) (gvTup 2 (gvCons (gvName 2) (gvCons (gvName 3) gvNil))) tvYes (wOp dMul (wVar 2) (wVar 3)) [2, 3]) wNil)))
def w_price : WS := (sSeq (sIf (tvNot (wTest (wCall (lent F_is_whole_list) (wCons (wVar 0) wNil)))) (sRaise "InvalidPart" "value" (wVar 0)) sNext) (sSeq (sIf (tvOr (tvNot (wTest (wCall (lent F_is_whole_list) (wCons (wVar 1) wNil)))) (wTest (wOp dNe (wBi dLen (wCons (wVar 1) wNil)) (wBi dLen (wCons (wVar 0) wNil))))) (sRaise "InvalidPart" "value" (wVar 1)) sNext) (sRet (wCall F_weighed (wCons (wVar 0) (wCons (wVar 1) wNil))))))
def w__law_cell : WS := (sSeq (sIf (wTest (wOp dLt (wVar 1) (wBi dLen (wCons (wVar 0) wNil)))) (sRet (wOp dIx (wVar 0) (wVar 1))) sNext) (sRet (wOp dAdd (wOp dMul (wC (.int 15489793)) (wVar 1)) (wC (.int 1787)))))
def w__law_box : WS := (sRet (wOwn (wCons (wBi dMax (wCons (wC (.int 0)) (wCons (wOp dSub (wVar 0) (wOp dPow (wC (.int 10)) (wC (.int 18)))) wNil))) (wCons (wOp dMod (wVar 0) (wC (.int 2147483629))) (wCons (wC (.int 0)) wNil)))))
def w__law_take : WS := (sSeq (sIf (wTest (wOp dGt (wOp dIx (wVar 0) (wC (.int 0))) (wC (.int 0)))) (sSeq (sSet 3 (wOp dMod (wOp dIx (wVar 0) (wC (.int 0))) (wVar 1))) (sSeq (sPut (wVar 0) (wC (.int 0)) (wOp dDiv (wOp dIx (wVar 0) (wC (.int 0))) (wVar 1))) (sRet (wVar 3)))) sNext) (sSeq (sPut (wVar 0) (wC (.int 2)) (wOp dAdd (wOp dIx (wVar 0) (wC (.int 2))) (wC (.int 1)))) (sSeq (sSet 2 (wOp dMod (wOp dPow (wOp dAdd (wOp dAdd (wOp dIx (wVar 0) (wC (.int 1))) (wOp dMul (wC (.int 15489793)) (wOp dIx (wVar 0) (wC (.int 2))))) (wC (.int 1787))) (wC (.int 5))) (wC (.int 2147483647)))) (sSeq (sSet 2 (wOp dMod (wOp dPow (wOp dAdd (wVar 2) (wOp dMul (wC (.int 104711)) (wOp dIx (wVar 0) (wC (.int 2))))) (wC (.int 3))) (wC (.int 2147483587)))) (sRet (wOp dMod (wOp dDiv (wVar 2) (wC (.int 32))) (wVar 1)))))))
def w__law_row : WS := (sSeq (sSet 2 (wOp dAdd (wC (.int 1)) (wCall F_law_take (wCons (wVar 0) (wCons (wC (.int 12)) wNil))))) (sSeq (sSet 3 (wOp dIx (wLst (wCons (wC (.int 4)) (wCons (wC (.int 100)) (wCons (wOp dPow (wC (.int 10)) (wC (.int 12))) (wCons (wOp dPow (wC (.int 10)) (wC (.int 28))) wNil))))) (wCall F_law_take (wCons (wVar 0) (wCons (wC (.int 4)) wNil))))) (sRet (wLc (iRg1 (wCons (wVar 1) wNil)) (gvName 4) tvYes (wOp dMul (wOp dSub (wCall F_law_take (wCons (wVar 0) (wCons (wVar 3) wNil))) (wOp dDiv (wVar 3) (wC (.int 2)))) (wVar 2)) [4]))))
def w__law_shared : WS := (sSeq (sSet 1 (wC (.int 0))) (sSeq (sFor (iLst (wVar 0)) (gvName 2) (sSeq (sSet 3 (wBi dAbs (wCons (wVar 2) wNil))) (sWhile (wTest (wOp dNe (wVar 3) (wC (.int 0)))) (sPar 1 3 (wCons (wVar 3) (wCons (wOp dMod (wVar 1) (wVar 3)) wNil)))))) (sRet (wVar 1))))
def w__law_caught : WS := (sTry "InvalidPart" "value" "part" (sRet (wLst (wCons (wC (.str (Str.ofString "told"))) (wCons (wIf (wTest (wOp dEq (wVar 0) (wC (.int 0)))) (wCallX F_scaled (wCons (wVar 1) wNil)) (wCallX F_price (wCons (wVar 1) (wCons (wVar 2) wNil)))) wNil)))))
def w__law_odd_right : WS := (sSeq (sFor (iLst (wLst (wCons (wC .non) (wCons (wC (.int 3)) (wCons (wC (.bl true)) (wCons (wC (.str (Str.ofString "12"))) (wCons wDct0 (wCons (wTup (wCons (wC (.int 1)) (wCons (wC (.bl true)) wNil))) (wCons (wTup (wCons (wC (.int 1)) (wCons (wC (.str (Str.ofString "2"))) wNil))) (wCons (wLst (wCons (wC .non) wNil)) (wCons (wTup (wCons (wC (.int 1)) (wCons (wLst (wCons (wC (.int 2)) wNil)) wNil))) wNil))))))))))) (gvName 0) (sSeq (sSet 2 (wLst (wCons (wCall F_law_caught (wCons (wC (.int 0)) (wCons (wVar 0) (wCons (wC (.int 0)) wNil)))) (wCons (wCall F_law_caught (wCons (wC (.int 1)) (wCons (wVar 0) (wCons (wVar 0) wNil)))) (wCons (wCall F_law_caught (wCons (wC (.int 1)) (wCons (wTup (wCons (wC (.int 1)) (wCons (wC (.int 2)) wNil))) (wCons (wVar 0) wNil)))) wNil))))) (sIf (wTest (wOp dNe (wBi dReprU (wCons (wVar 2) wNil)) (wBi dReprU (wCons (wOp dMul (wLst (wCons (wLst (wCons (wC (.str (Str.ofString "part"))) (wCons (wVar 0) wNil))) wNil)) (wC (.int 3))) wNil)))) (sRet (wC (.bl false))) sNext))) (sSeq (sSet 1 (wOwn (wCons (wC .non) wNil))) (sSeq (sSet 2 (wLst (wCons (wOp dIx (wCall F_law_caught (wCons (wC (.int 0)) (wCons (wVar 1) (wCons (wC (.int 0)) wNil)))) (wC (.int 1))) (wCons (wOp dIx (wCall F_law_caught (wCons (wC (.int 1)) (wCons (wVar 1) (wCons (wC (.int 0)) wNil)))) (wC (.int 1))) (wCons (wOp dIx (wCall F_law_caught (wCons (wC (.int 1)) (wCons (wTup (wCons (wC (.int 1)) wNil)) (wCons (wVar 1) wNil)))) (wC (.int 1))) wNil))))) (sSeq (sAppend (wVar 1) (wCons (wC (.int 7)) wNil)) (sSeq (sIf (wTest (wOp dNeM (wVar 2) (wOp dMul (wLst (wCons (wLst (wCons (wC .non) (wCons (wC (.int 7)) wNil))) wNil)) (wC (.int 3))))) (sRet (wC (.bl false))) sNext) (sRet (wAnd (wOp dEq (wCall F_law_caught (wCons (wC (.int 1)) (wCons (wTup (wCons (wC (.int 1)) (wCons (wC (.int 2)) wNil))) (wCons (wTup (wCons (wC (.int 3)) wNil)) wNil)))) (wLst (wCons (wC (.str (Str.ofString "part"))) (wCons (wTup (wCons (wC (.int 3)) wNil)) wNil)))) (wOp dEq (wCall F_law_caught (wCons (wC (.int 1)) (wCons (wTup wNil) (wCons (wTup (wCons (wC (.int 3)) wNil)) wNil)))) (wLst (wCons (wC (.str (Str.ofString "part"))) (wCons (wTup (wCons (wC (.int 3)) wNil)) wNil)))))))))))
def w_law : WS := (sSeq (sFor (iRg1 (wCons (wBi dMax (wCons (wC (.int 2)) (wCons (wBi dMin (wCons (wC (.int 8)) (wCons (wBi dLen (wCons (wVar 0) wNil)) wNil))) wNil))) wNil)) (gvName 1) (sSeq (sSet 2 (wCall F_law_box (wCons (wCall F_law_cell (wCons (wVar 0) (wCons (wVar 1) wNil))) wNil))) (sSeq (sSet 3 (wCall F_law_row (wCons (wVar 2) (wCons (wCall F_law_take (wCons (wVar 2) (wCons (wC (.int 7)) wNil))) wNil)))) (sSeq (sSet 4 (wCall F_law_row (wCons (wVar 2) (wCons (wBi dLen (wCons (wVar 3) wNil)) wNil)))) (sSeq (sSet 5 (wBi dMax (wCons (wC (.int 1)) (wCons (wCall F_law_shared (wCons (wVar 3) wNil)) wNil)))) (sSeq (sSet 6 (wBi dTuple (wCons (wLc (iLst (wVar 3)) (gvName 10) tvYes (wOp dDiv (wVar 10) (wVar 5)) [10]) wNil))) (sSeq (sFor (iLst (wLst (wCons (wBi dTuple (wCons (wVar 3) wNil)) (wCons (wBi dList (wCons (wVar 3) wNil)) (wCons (wVar 6) wNil))))) (gvName 7) (sSeq (sSet 9 (wCallX F_scaled (wCons (wVar 7) wNil))) (sIf (tvOr (wTest (wOp dNe (wVar 9) (wVar 6))) (tvNot (wTest (wBi dIsi (wCons (wVar 9) (wCons (wC (.ty "tuple")) wNil)))))) (sRet (wC (.bl false))) sNext))) (sSeq (sSet 8 (wBi dSum (wCons (wLc (iZipD (wCons (wVar 3) (wCons (wVar 4) wNil))) (gvTup 2 (gvCons (gvName 11) (gvCons (gvName 12) gvNil))) tvYes (wOp dMul (wVar 11) (wVar 12)) [11, 12]) wNil))) (sSeq (sIf (tvOr (wTest (wOp dNe (wCallX F_price (wCons (wBi dTuple (wCons (wVar 3) wNil)) (wCons (wBi dTuple (wCons (wVar 4) wNil)) wNil))) (wVar 8))) (wTest (wOp dNe (wCallX F_price (wCons (wVar 4) (wCons (wVar 3) wNil))) (wVar 8)))) (sRet (wC (.bl false))) sNext) (sIf (wTest (wOp dNe (wCall F_law_caught (wCons (wC (.int 1)) (wCons (wBi dTuple (wCons (wVar 3) wNil)) (wCons (wBi dTuple (wCons (wOp dAdd (wVar 4) (wLst (wCons (wC (.int 1)) wNil))) wNil)) wNil)))) (wLst (wCons (wC (.str (Str.ofString "part"))) (wCons (wBi dTuple (wCons (wOp dAdd (wVar 4) (wLst (wCons (wC (.int 1)) wNil))) wNil)) wNil))))) (sRet (wC (.bl false))) sNext)))))))))) (sRet (wAnd (wCall0 F_law_odd_right) (wAnd (wOp dEq (wCallX F_scaled (wCons (wTup wNil) wNil)) (wTup wNil)) (wOp dEq (wCallX F_price (wCons (wTup wNil) (wCons (wTup wNil) wNil))) (wC (.int 0)))))))
end DL
namespace DL
open PySem L2
theorem ifb {c : Bool} {A B : Prop} (h1 : c = true → A) (h2 : c = false → B) : if c = true then A else B := by
  cases c
  · exact h2 rfl
  · exact h1 rfl
theorem dec_eq {a b : Nat} {i j : Int} (ha : i = a) (hb : j = b) : decide (i = j) = decide (a = b) := by
  subst ha hb
  by_cases c : a = b
  · rw [decide_eq_true c, decide_eq_true (by omega)]
  · rw [decide_eq_false c, decide_eq_false (by omega)]
theorem small_line {n : Nat} (h : n ≤ 1000) : n ≤ sizeLine := Nat.le_trans h (by rw [sizeLine_eq]; decide)
theorem bls_map (f : D → Bool) : ∀ ds : List D, blsD (ds.map fun d => .bl (f d)) = some (ds.map f)
  | [] => rfl
  | d :: ds => by
    rw [List.map_cons, List.map_cons]
    unfold blsD
    rw [bls_map f ds]
    rfl
theorem ixN_lt {n : Nat} {i : Int} (h0 : 0 ≤ i) (h1 : i < n) : ixN n i = some i.toNat := by
  unfold ixN
  rw [if_pos h0, if_pos (by omega)]
theorem typedM_of {m : Mem} {x : D} (h : isTyped x = true) : typedM m x = true := by
  cases x <;> first | exact h | cases h
theorem isaLT (x : D) : isaL x ["list", "tuple"] = some (lstB x || tupB x) := by
  unfold isaL
  rw [isa_list]
  cases lstB x
  · show isaL x ["tuple"] = _
    unfold isaL
    rw [isa_tuple]
    cases tupB x <;> rfl
  · rfl
theorem r_is_list : ∀ ds m Qd Qx, F_is_list ds m Qd Qx → w_is_list { nx := fun _ m' => Qd .non m', rt := Qd } (ds.map some ++ List.replicate (1 - ds.length) none) m := by
  rintro ds m Qd Qx ⟨x, rfl, hx, h⟩
  exact ⟨typedM_of hx, _, isaLT x, h⟩
theorem r_is_whole : ∀ ds m Qd Qx, F_is_whole ds m Qd Qx → w_is_whole { nx := fun _ m' => Qd .non m', rt := Qd } (ds.map some ++ List.replicate (1 - ds.length) none) m := by
  rintro ds m Qd Qx ⟨x, rfl, hx, h⟩
  refine ⟨hx, _, isa_int, ifb (fun e => ?_) (fun e => ?_)⟩
  · refine ⟨hx, _, isa_bool, ?_⟩
    cases x <;> first | (cases e; done) | exact h
  · cases x <;> first | (cases e; done) | exact h
theorem okL_typed {x : D} (h : okL x = true) : isTyped x = true := by
  cases x <;> first | rfl | cases h
theorem r_is_whole_list : ∀ ds m Qd Qx, F_is_whole_list ds m Qd Qx → w_is_whole_list { nx := fun _ m' => Qd .non m', rt := Qd } (ds.map some ++ List.replicate (2 - ds.length) none) m := by
  rintro ds m Qd Qx ⟨x, rfl, hx, h⟩
  refine ⟨x, rfl, okL_typed hx, ?_⟩
  have go : ∀ ds : List D, (decide (ds.length ≤ 1000) && ds.all isTyped) = true → Qd (.bl (ds.all isWhole)) m → ∀ ρ : En0, ρ = [some x, none] →
      ds.length ≤ 1000000 ∧ wLcGo (gvName 1) tvYes (wCall F_is_whole (wCons (wVar 1) wNil)) ρ (fun _ _ => False) ds [] m (fun d m1 => dBls (fun bs => bs.all id) [d] m1 Qd) := by
    rintro ds hd q ρ rfl
    obtain ⟨h1, h2⟩ := Bool.and_eq_true_iff.mp hd
    have h1 := of_decide_eq_true h1
    refine ⟨by omega, lc_map (fun d => .bl (isWhole d)) _ _ _ (fun d hd Q q => ?_) ?_⟩
    · exact ⟨d, rfl, List.all_eq_true.mp h2 d hd, q⟩
    · rw [List.nil_append]
      refine ⟨_, bls_map isWhole _, ?_⟩
      show Qd (.bl ((ds.map isWhole).all id)) m
      rw [List.all_map]
      exact q
  cases x <;> first | exact h | (cases hx; done) | skip
  · exact go _ hx h _ rfl
  · exact go _ hx h _ rfl
/-! rows of ints -/
theorem whole_ints (ns : List Int) : (intD ns).all isWhole = true := by
  unfold intD
  rw [List.all_map, List.all_eq_true]
  intro x _; rfl
theorem typed_ints (ns : List Int) : (intD ns).all isTyped = true := by
  unfold intD
  rw [List.all_map, List.all_eq_true]
  intro x _; rfl
theorem len_ints (ns : List Int) : (intD ns).length = ns.length := List.length_map _
theorem Row.ok {x : D} {ns : List Int} (h : Row x ns) (hf : Fits ns) : okL x = true ∧ wholeL x = true := by
  have h1 : ns.length ≤ 1000 := Nat.le_trans hf.1 (by decide)
  have e : (decide ((intD ns).length ≤ 1000) && (intD ns).all isTyped) = true := by
    rw [len_ints, decide_eq_true h1, typed_ints]; rfl
  rcases h with rfl | rfl
  · exact ⟨e, whole_ints ns⟩
  · exact ⟨e, whole_ints ns⟩
theorem row_call {x : D} {ns : List Int} {m : Mem} {Q : D → Mem → Prop} {Qx : XQ} (h : Row x ns) (hf : Fits ns) (q : Q (.bl true) m) : lent F_is_whole_list [x] m Q Qx := by
  refine Or.inl ⟨x, rfl, (h.ok hf).1, ?_⟩
  rw [(h.ok hf).2]
  exact q
theorem odd_call {x : D} {m : Mem} {Q : D → Mem → Prop} {Qx : XQ} (h : Odd m x) (q : Q (.bl false) m) : lent F_is_whole_list [x] m Q Qx := by
  refine Or.inr ⟨res m x, by simp only [resA], h.1, rfl, ?_⟩
  rw [h.2]
  exact q
/-! gcd -/
theorem gcd_small {a b : Nat} {k : Nat} (ha : a < k) (hb : b < k) : Nat.gcd a b < k := by
  by_cases h : a = 0
  · subst h; rw [Nat.gcd_zero_left]; exact hb
  · exact Nat.lt_of_le_of_lt (Nat.gcd_le_left b (Nat.pos_of_ne_zero h)) ha
theorem gcdF_small {k : Nat} : ∀ (ns : List Int) (g : Nat), g < k → (∀ n ∈ ns, n.natAbs < k) → gcdF g ns < k
  | [], g, h, _ => h
  | n :: ns, g, h, hn => gcdF_small ns (Nat.gcd g n.natAbs) (gcd_small h (hn n List.mem_cons_self)) fun k hk => hn k (List.mem_cons_of_mem _ hk)
theorem gcdF_dvd : ∀ (ns : List Int) (g : Nat), gcdF g ns ∣ g ∧ ∀ n ∈ ns, gcdF g ns ∣ n.natAbs
  | [], g => ⟨Nat.dvd_refl g, fun _ h => nomatch h⟩
  | n :: ns, g => by
    obtain ⟨h1, h2⟩ := gcdF_dvd ns (Nat.gcd g n.natAbs)
    refine ⟨Nat.dvd_trans h1 (Nat.gcd_dvd_left _ _), fun k hk => ?_⟩
    rcases List.mem_cons.mp hk with rfl | hk
    · exact Nat.dvd_trans h1 (Nat.gcd_dvd_right _ _)
    · exact h2 k hk
theorem gcdF_mul (f : Nat) : ∀ (ks : List Int) (g : Nat), gcdF (g * f) (ks.map fun k => k * (f : Int)) = gcdF g ks * f
  | [], g => rfl
  | k :: ks, g => by
    show gcdF (Nat.gcd (g * f) (k * (f : Int)).natAbs) (ks.map fun k => k * (f : Int)) = gcdF (Nat.gcd g k.natAbs) ks * f
    rw [Int.natAbs_mul, Int.natAbs_natCast, Nat.gcd_mul_right]
    exact gcdF_mul f ks _
theorem scaled_ne {ns : List Int} (h : gcdF 0 ns ≠ 0) : gcdF 0 (ns.map fun n => n / ((gcdF 0 ns : Nat) : Int)) = 1 := by
  have e := gcdF_mul (gcdF 0 ns) (ns.map fun n => n / ((gcdF 0 ns : Nat) : Int)) 0
  have e2 : (ns.map fun n => n / ((gcdF 0 ns : Nat) : Int)).map (fun k => k * ((gcdF 0 ns : Nat) : Int)) = ns := by
    rw [List.map_map]
    conv => rhs; rw [← List.map_id ns]
    refine List.map_congr_left fun n hn => ?_
    have hd : ((gcdF 0 ns : Nat) : Int) ∣ n := Int.ofNat_dvd_left.mpr ((gcdF_dvd ns 0).2 n hn)
    exact Int.ediv_mul_cancel hd
  rw [e2, Nat.zero_mul] at e
  have : 1 * gcdF 0 ns = gcdF 0 (ns.map fun n => n / ((gcdF 0 ns : Nat) : Int)) * gcdF 0 ns := by rw [Nat.one_mul]; exact e
  exact (Nat.eq_of_mul_eq_mul_right (Nat.pos_of_ne_zero h) this).symm
theorem scaled_twice (ns : List Int) : scaledI (scaledI ns) = scaledI ns := by
  by_cases h : gcdF 0 ns = 0
  · have : scaledI ns = ns := if_pos h
    rw [this, this]
  · have e : scaledI ns = ns.map fun n => n / ((gcdF 0 ns : Nat) : Int) := if_neg h
    have h1 : gcdF 0 (scaledI ns) = 1 := by rw [e]; exact scaled_ne h
    have e2 : scaledI (scaledI ns) = (scaledI ns).map fun n => n / ((gcdF 0 (scaledI ns) : Nat) : Int) := if_neg (by rw [h1]; decide)
    rw [e2, h1]
    conv => rhs; rw [← List.map_id (scaledI ns)]
    exact List.map_congr_left fun n _ => Int.ediv_one n
theorem div_small {n : Int} {g k : Nat} (h : n.natAbs < k) : (n / (g : Int)).natAbs < k := by
  have := Int.natAbs_ediv_le_natAbs n g
  omega
theorem Fits.scaled {ns : List Int} (h : Fits ns) : Fits (scaledI ns) := by
  unfold scaledI
  split
  · exact h
  · refine ⟨by rw [List.length_map]; exact h.1, fun k hk => ?_⟩
    obtain ⟨n, hn, rfl⟩ := List.mem_map.mp hk
    exact div_small (h.2 n hn)
theorem div_big {g : Nat} (h0 : g ≠ 0) (h1 : g < 2 ^ 150) (i : Int) : CDivW i (g : Int) :=
  wide_div (b := 150) (by omega) (by rw [Int.natAbs_natCast]; exact h1) (by decide) (by decide)
/-! scaled -/
theorem gcd_loop (E : De) (x : D) (m : Mem) : ∀ (ns : List Int) (g : Nat) (o : Option D), (∀ o', E.nx [some x, some (.int ((gcdF g ns : Nat) : Int)), o'] m) → wLoop (gvName 2) (sSet 1 (wBi dGcd (wCons (wVar 1) (wCons (wVar 2) wNil)))) E (intD ns) [some x, some (.int (g : Int)), o] m
  | [], g, o, h => h o
  | n :: ns, g, o, h => gcd_loop E x m ns (Nat.gcd g n.natAbs) (some (.int n)) h
theorem r_scaled : ∀ ds m Qd Qx, F_scaled ds m Qd Qx → w_scaled { nx := fun _ m' => Qd .non m', rt := Qd, ex := Qx } (ds.map some ++ List.replicate (3 - ds.length) none) m := by
  rintro ds m Qd Qx ⟨x, rfl, h | h⟩
  · obtain ⟨ns, hr, hf, h⟩ := h
    refine row_call hr hf ?_
    have fin : ∀ o' : Option D, (if (decide (((gcdF 0 ns : Nat) : Int) = 0) ^^ false) = true then dTuple [x] m Qd else (iVar 0) (wipeD [some x, some (.int ((gcdF 0 ns : Nat) : Int)), o'] [2]) m (fun ds m1 => ds.length ≤ 1000000 ∧ wLcGo (gvName 2) tvYes (wOp dDiv (wVar 2) (wVar 1)) (wipeD [some x, some (.int ((gcdF 0 ns : Nat) : Int)), o'] [2]) Qx ds [] m1 (fun d m2 => dTuple [d] m2 Qd)) Qx) := by
      intro o'
      have en : decide (((gcdF 0 ns : Nat) : Int) = 0) = decide (gcdF 0 ns = 0) := dec_eq rfl rfl
      rw [en, Bool.xor_false]
      refine ifb (fun e => ?_) (fun e => ?_)
      · have e := of_decide_eq_true e
        have es : scaledI ns = ns := if_pos e
        rw [es] at h
        rcases hr with rfl | rfl <;> exact h
      · have e := of_decide_eq_false e
        have es : scaledI ns = ns.map fun n => n / ((gcdF 0 ns : Nat) : Int) := if_neg e
        rw [es] at h
        have go : (intD ns).length ≤ 1000000 ∧ wLcGo (gvName 2) tvYes (wOp dDiv (wVar 2) (wVar 1)) [some x, some (.int ((gcdF 0 ns : Nat) : Int)), none] Qx (intD ns) [] m (fun d m2 => dTuple [d] m2 Qd) := by
          refine ⟨by rw [len_ints]; have := hf.1; omega, lc_map (fun d => match d with | .int n => .int (n / ((gcdF 0 ns : Nat) : Int)) | d => d) _ _ _ (fun d hd Q q => ?_) ?_⟩
          · obtain ⟨n, hn, rfl⟩ := List.mem_map.mp hd
            exact ⟨div_big e (gcdF_small ns 0 (by decide) hf.2) n, q⟩
          · rw [List.nil_append]
            unfold intD at h ⊢
            rw [List.map_map] at h ⊢
            exact h
        rcases hr with rfl | rfl <;> exact go
    rcases hr with rfl | rfl
    · exact gcd_loop _ _ m ns 0 none fin
    · exact gcd_loop _ _ m ns 0 none fin
  · obtain ⟨ho, h⟩ := h
    exact odd_call ho h
/-! price -/
def pairs (ps : List (Int × Int)) : List D := ps.map fun p => .tup [.int p.1, .int p.2]
theorem zip_ints (ns ks : List Int) : zipD (intD ns) (intD ks) = pairs (ns.zip ks) := by
  unfold zipD pairs intD
  rw [List.zip_map, List.map_map]
  rfl
theorem lc_pairs {i j : Nat} {te : WE} {ρ : En0} {Qx : XQ} {m : Mem} : ∀ (ps : List (Int × Int)) (acc : List D) (Q : D → Mem → Prop), (∀ p ∈ ps, ∀ Q : D → Mem → Prop, Q (.int (p.1 * p.2)) m → te ((ρ.set i (some (.int p.1))).set j (some (.int p.2))) m Q Qx) →
    Q (.lst (acc ++ intD (ps.map fun p => p.1 * p.2))) m → wLcGo (gvTup 2 (gvCons (gvName i) (gvCons (gvName j) gvNil))) tvYes te ρ Qx (pairs ps) acc m Q
  | [], acc, Q, _, h => by
    have e : acc ++ intD (([] : List (Int × Int)).map fun p => p.1 * p.2) = acc := List.append_nil acc
    rw [e] at h
    exact h
  | p :: ps, acc, Q, h1, h => by
    refine ⟨rfl, _, _, rfl, _, _, rfl, rfl, ?_⟩
    refine h1 p List.mem_cons_self _ ?_
    refine lc_pairs ps (acc ++ [.int (p.1 * p.2)]) Q (fun q hq => h1 q (List.mem_cons_of_mem _ hq)) ?_
    have e : acc ++ [D.int (p.1 * p.2)] ++ intD (ps.map fun p => p.1 * p.2) = acc ++ intD ((p :: ps).map fun p => p.1 * p.2) := by
      rw [List.append_assoc]; rfl
    rw [e]
    exact h
theorem ints_map : ∀ ns : List Int, intsD (intD ns) = some ns
  | [] => rfl
  | n :: ns => by
    show (intsD (intD ns)).map (n :: ·) = some (n :: ns)
    rw [ints_map ns]
    rfl
theorem mul_ok {a b : Int} (ha : a.natAbs < 2 ^ 150) (hb : b.natAbs < 2 ^ 150) : CMul a b ∨ CMulW a b := Or.inr (wide_mul (a := 150) (b := 150) ha hb (by decide) (by decide) (by decide))
theorem zip_le (ns ks : List Int) : (ns.zip ks).length ≤ ns.length := by rw [List.length_zip]; omega
theorem sum_go {i j : Nat} {ρ : En0} {Qx : XQ} {m : Mem} {ns ks : List Int} {Q : D → Mem → Prop} (hi : i < ρ.length) (hj : j < ρ.length) (hij : i ≠ j) (h1 : Fits ns) (h2 : Fits ks) (h : Q (.int (dot ns ks)) m) :
    (zipD (intD ns) (intD ks)).length ≤ 1000000 ∧ wLcGo (gvTup 2 (gvCons (gvName i) (gvCons (gvName j) gvNil))) tvYes (wOp dMul (wVar i) (wVar j)) ρ Qx (zipD (intD ns) (intD ks)) [] m (fun d m1 => dSum [d] m1 Q) := by
  rw [zip_ints]
  refine ⟨?_, lc_pairs _ _ _ (fun p hp Q q => ?_) ?_⟩
  · unfold pairs
    rw [List.length_map]
    have := zip_le ns ks
    have := h1.1
    omega
  · obtain ⟨p1, p2⟩ := List.of_mem_zip hp
    have e1 : ((ρ.set i (some (D.int p.1))).set j (some (D.int p.2)))[i]? = some (some (D.int p.1)) := by
      rw [List.getElem?_set_ne (Ne.symm hij), List.getElem?_set_self hi]
    have e2 : ((ρ.set i (some (D.int p.1))).set j (some (D.int p.2)))[j]? = some (some (D.int p.2)) := by
      rw [List.getElem?_set_self (by rw [List.length_set]; exact hj)]
    show wVar i _ m (fun x m1 => wVar j _ m1 (fun y m2 => dMul x y m2 Q) Qx) Qx
    unfold wVar
    rw [e1, e2]
    exact ⟨mul_ok (h1.2 _ p1) (h2.2 _ p2), q⟩
  · rw [List.nil_append]
    exact ⟨_, ints_map _, h⟩
theorem sum_lc {i j : Nat} {ρ : En0} {Qx : XQ} {m : Mem} {ns ks : List Int} {Q : D → Mem → Prop} (hi : i < ρ.length) (hj : j < ρ.length) (hij : i ≠ j) (h1 : Fits ns) (h2 : Fits ks) (h : Q (.lst (intD ((ns.zip ks).map fun p => p.1 * p.2))) m) :
    wLcGo (gvTup 2 (gvCons (gvName i) (gvCons (gvName j) gvNil))) tvYes (wOp dMul (wVar i) (wVar j)) ρ Qx (zipD (intD ns) (intD ks)) [] m Q := by
  rw [zip_ints]
  refine lc_pairs _ _ _ (fun p hp Q q => ?_) ?_
  · obtain ⟨p1, p2⟩ := List.of_mem_zip hp
    have e1 : ((ρ.set i (some (D.int p.1))).set j (some (D.int p.2)))[i]? = some (some (D.int p.1)) := by
      rw [List.getElem?_set_ne (Ne.symm hij), List.getElem?_set_self hi]
    have e2 : ((ρ.set i (some (D.int p.1))).set j (some (D.int p.2)))[j]? = some (some (D.int p.2)) := by
      rw [List.getElem?_set_self (by rw [List.length_set]; exact hj)]
    show wVar i _ m (fun x m1 => wVar j _ m1 (fun y m2 => dMul x y m2 Q) Qx) Qx
    unfold wVar
    rw [e1, e2]
    exact ⟨mul_ok (h1.2 _ p1) (h2.2 _ p2), q⟩
  · rw [List.nil_append]
    exact h
theorem len_x (ns ks : List Int) : (decide ((((intD ks).length : Nat) : Int) = (((intD ns).length : Nat) : Int)) ^^ true) = !decide (ks.length = ns.length) := by
  rw [dec_eq (a := ks.length) (b := ns.length) (by rw [len_ints]) (by rw [len_ints]), Bool.xor_true]
theorem r_weighed : ∀ ds m Qd Qx, F_weighed ds m Qd Qx → w_weighed { nx := fun _ m' => Qd .non m', rt := Qd } (ds.map some ++ List.replicate (4 - ds.length) none) m := by
  rintro ds m Qd Qx ⟨x, y, ns, ks, rfl, hxy, h1, h2, hl, h⟩
  have q := sum_go (i := 2) (j := 3) (ρ := [some x, some y, none, none]) (Qx := fun _ _ => False) (m := m) (Q := Qd) (by show 2 < 4; decide) (by show 3 < 4; decide) (by decide) h1 h2 h
  rcases hxy with ⟨rfl, rfl⟩ | ⟨rfl, rfl⟩
  · exact q
  · exact q
theorem r_price : ∀ ds m Qd Qx, F_price ds m Qd Qx → w_price { nx := fun _ m' => Qd .non m', rt := Qd, ex := Qx } (ds.map some ++ List.replicate (2 - ds.length) none) m := by
  rintro ds m Qd Qx ⟨x, y, rfl, h⟩
  rcases h with ⟨ns, ks, hxy, h1, h2, hl, h⟩ | ⟨ho, h⟩ | ⟨ns, hr, hf, ho, h⟩ | ⟨ns, ks, hx, hy, h1, h2, hl, h⟩
  · have rx : Row x ns := hxy.elim (fun h => Or.inl h.1) (fun h => Or.inr h.1)
    have ry : Row y ks := hxy.elim (fun h => Or.inl h.2) (fun h => Or.inr h.2)
    refine row_call rx h1 ?_
    refine row_call ry h2 ?_
    have q : F_weighed [x, y] m Qd (fun _ _ => False) := ⟨x, y, ns, ks, rfl, hxy, h1, h2, hl, h⟩
    rcases hxy with ⟨rfl, rfl⟩ | ⟨rfl, rfl⟩
    · show if (decide ((((intD ks).length : Nat) : Int) = (((intD ns).length : Nat) : Int)) ^^ true) = true then _ else _
      rw [len_x ns ks, decide_eq_true hl.symm]
      exact q
    · show if (decide ((((intD ks).length : Nat) : Int) = (((intD ns).length : Nat) : Int)) ^^ true) = true then _ else _
      rw [len_x ns ks, decide_eq_true hl.symm]
      exact q
  · exact odd_call ho h
  · refine row_call hr hf ?_
    exact odd_call ho h
  · refine row_call hx h1 ?_
    refine row_call hy h2 ?_
    rcases hx with rfl | rfl <;> rcases hy with rfl | rfl <;>
    · show if (decide ((((intD ks).length : Nat) : Int) = (((intD ns).length : Nat) : Int)) ^^ true) = true then _ else _
      rw [len_x ns ks, decide_eq_false hl]
      exact h
/-! the law's numbers -/
theorem atI_lt {α : Type} {xs : List α} {i : Int} (h0 : 0 ≤ i) (h1 : i < xs.length) : ∃ x, atI xs i = some x := by
  unfold L2.atI
  rw [ixN_lt h0 h1]
  have h : i.toNat < xs.length := by omega
  exact ⟨xs[i.toNat], List.getElem?_eq_getElem h⟩
theorem r__law_cell : ∀ ds m Qd Qx, F_law_cell ds m Qd Qx → w__law_cell { nx := fun _ m' => Qd .non m', rt := Qd } (ds.map some ++ List.replicate (2 - ds.length) none) m := by
  rintro ds m Qd Qx ⟨ns, k, rfl, h0, h1, h⟩
  show if decide (k < (ns.length : Int)) = true then _ else _
  refine ifb (fun e => ?_) (fun e => ?_)
  · obtain ⟨x, hx⟩ := atI_lt h0 (of_decide_eq_true e)
    exact ⟨x, hx, h x⟩
  · exact ⟨Or.inl (Or.inl ⟨by decide, by decide⟩), h _⟩
theorem r__law_box : ∀ ds m Qd Qx, F_law_box ds m Qd Qx → w__law_box { nx := fun _ m' => Qd .non m', rt := Qd } (ds.map some ++ List.replicate (1 - ds.length) none) m := by
  rintro ds m Qd Qx ⟨i, rfl, h⟩
  refine ⟨⟨by decide, by decide, by decide⟩, ?_⟩
  refine ⟨by decide, ?_⟩
  refine ⟨by show 3 ≤ sizeLine; rw [sizeLine_eq]; decide, fun p hp => ?_⟩
  refine h p _ hp ⟨_, _, _, rfl, ?_, Int.emod_nonneg _ (by decide), ?_, Int.le_refl _, Int.le_refl _⟩
  · show (0 : Int) ≤ if i - 10 ^ 18 > 0 then i - 10 ^ 18 else 0
    split <;> omega
  · have := Int.emod_lt_of_pos i (show (0 : Int) < 2147483629 by decide)
    omega
theorem div_ok {j : Int} (h0 : 0 < j) (h1 : j < 2 ^ 200) (i : Int) : CDivW i j := by
  refine wide_div (b := 200) h0 ?_ (by decide) (by decide)
  have : (j.natAbs : Int) = j := Int.natAbs_of_nonneg (Int.le_of_lt h0)
  have h2 : (j.natAbs : Int) < ((2 ^ 200 : Nat) : Int) := by rw [this]; exact_mod_cast h1
  exact_mod_cast h2
theorem r__law_take : ∀ ds m Qd Qx, F_law_take ds m Qd Qx → w__law_take { nx := fun _ m' => Qd .non m', rt := Qd } (ds.map some ++ List.replicate (4 - ds.length) none) m := by
  rintro ds m Qd Qx ⟨a, n, c, l, rfl, hm, ⟨x, y, z, rfl, hx, hy0, hy, hz0, hz⟩, hc, hn0, hn, h⟩
  refine ⟨_, _, hm, rfl, ?_⟩
  show if decide (0 < x) = true then _ else _
  refine ifb (fun e => ?_) (fun e => ?_)
  · refine ⟨_, _, hm, rfl, hn0, ?_⟩
    refine ⟨_, _, hm, rfl, div_ok hn0 hn x, ?_⟩
    refine ⟨_, 0, hm, rfl, ?_⟩
    refine h _ _ (Int.emod_nonneg _ (by omega)) (Int.emod_lt_of_pos _ hn0) ⟨x / n, y, z, rfl, Int.ediv_nonneg hx (by omega), hy0, hy, hz0, by omega⟩
  · refine ⟨_, _, hm, rfl, ?_⟩
    refine ⟨_, 2, hm, rfl, ?_⟩
    refine ⟨_, _, Mem.up_same, rfl, ?_⟩
    refine ⟨_, _, Mem.up_same, rfl, ?_⟩
    refine ⟨Or.inl (Or.inl ⟨by decide, by decide⟩), ?_⟩
    refine ⟨⟨by decide, by decide, by omega⟩, ?_⟩
    refine ⟨by decide, ?_⟩
    have q0 := Int.emod_nonneg ((y + 15489793 * (z + 1) + 1787) ^ Int.toNat 5) (show (2147483647 : Int) ≠ 0 by decide)
    have q1 := Int.emod_lt_of_pos ((y + 15489793 * (z + 1) + 1787) ^ Int.toNat 5) (show (0 : Int) < 2147483647 by decide)
    generalize (y + 15489793 * (z + 1) + 1787) ^ Int.toNat 5 % 2147483647 = v at q0 q1 ⊢
    refine ⟨_, _, Mem.up_same, rfl, ?_⟩
    refine ⟨Or.inl (Or.inl ⟨by decide, by decide⟩), ?_⟩
    refine ⟨⟨by decide, by decide, by omega⟩, ?_⟩
    refine ⟨by decide, ?_⟩
    refine ⟨wide_div (b := 10) (by decide) (by decide) (by decide) (by decide), ?_⟩
    refine ⟨hn0, ?_⟩
    exact h _ _ (Int.emod_nonneg _ (by omega)) (Int.emod_lt_of_pos _ hn0) ⟨x, y, z + 1, rfl, hx, hy0, hy, by omega, by omega⟩
theorem pick4 {k : Int} (h0 : 0 ≤ k) (h1 : k < 4) : ∃ n : Int, atI [D.int 4, D.int 100, D.int (10 ^ Int.toNat 12), D.int (10 ^ Int.toNat 28)] k = some (.int n) ∧ 0 < n ∧ n ≤ 10 ^ 28 := by
  have : k = 0 ∨ k = 1 ∨ k = 2 ∨ k = 3 := by omega
  rcases this with rfl | rfl | rfl | rfl
  · exact ⟨_, rfl, by decide, by decide⟩
  · exact ⟨_, rfl, by decide, by decide⟩
  · exact ⟨_, rfl, by decide, by decide⟩
  · exact ⟨_, rfl, by decide, by decide⟩
theorem prod_small {a b : Int} (ha : a.natAbs ≤ 10 ^ 28) (hb : b.natAbs ≤ 12) : (a * b).natAbs < 2 ^ 150 := by
  rw [Int.natAbs_mul]
  exact Nat.lt_of_le_of_lt (Nat.mul_le_mul ha hb) (by decide)
theorem r__law_row : ∀ ds m Qd Qx, F_law_row ds m Qd Qx → w__law_row { nx := fun _ m' => Qd .non m', rt := Qd } (ds.map some ++ List.replicate (5 - ds.length) none) m := by
  rintro ds m Qd Qx ⟨a, n, c, l, rfl, hm, hb, hc, hn0, hn1, h⟩
  refine ⟨a, 12, c, l, rfl, hm, hb, by omega, by decide, by decide, ?_⟩
  intro f0 l1 hf0 hf1 hb1
  refine ⟨⟨by decide, by decide, by decide⟩, ⟨by decide, by decide, by decide⟩, (by show 4 ≤ sizeLine; rw [sizeLine_eq]; decide), ?_⟩
  refine ⟨a, 4, c + 1, l1, rfl, Mem.up_same, hb1, by omega, by decide, by decide, ?_⟩
  intro k l2 hk0 hk1 hb2
  rw [Mem.up_up]
  obtain ⟨wd, hwd, hw0, hw1⟩ := pick4 hk0 hk1
  refine ⟨_, hwd, ?_⟩
  refine ⟨⟨by omega, by omega⟩, ?_⟩
  refine ⟨by rw [List.length_map, List.length_range]; omega, ?_⟩
  refine lc_inv (fun acc m' => ∃ l', m' = m.up a l' ∧ Box l' (c + 2 + acc.length) ∧ ∃ ns, acc = intD ns ∧ ∀ z ∈ ns, z.natAbs < 2 ^ 150) n.toNat _ _ _ _ ?_ ⟨l2, rfl, by
    obtain ⟨x1, x2, x3, e, q1, q2, q3, q4, q5⟩ := hb2
    exact ⟨x1, x2, x3, e, q1, q2, q3, q4, by simp; omega⟩, [], rfl, by simp⟩ ?_ ?_
  · rw [List.length_map, List.length_range]
    exact Nat.zero_add _
  · rintro d hd acc m' hacc ⟨l', rfl, hb', ns, rfl, hs⟩ Q hQ
    rw [len_ints] at hacc
    refine ⟨a, wd, _, l', rfl, Mem.up_same, hb', ?_, hw0, ?_, ?_⟩
    · rw [len_ints]; omega
    · exact Int.lt_of_le_of_lt hw1 (by decide)
    intro t l3 ht0 ht1 hb3
    refine ⟨wide_div (b := 10) (by decide) (by decide) (by decide) (by decide), ?_⟩
    have hdv : 0 ≤ wd / 2 ∧ wd / 2 ≤ wd := ⟨by omega, by omega⟩
    have h28 : wd.natAbs ≤ 10 ^ 28 := by omega
    refine ⟨Or.inl (Or.inr ⟨by omega, by omega⟩), ?_⟩
    refine hQ _ _ ⟨l3, Mem.up_up, ?_, ns ++ [(t - wd / 2) * (1 + f0)], ?_, ?_⟩
    · obtain ⟨x1, x2, x3, e, q1, q2, q3, q4, q5⟩ := hb3
      exact ⟨x1, x2, x3, e, q1, q2, q3, q4, by rw [List.length_append, List.length_singleton]; omega⟩
    · unfold intD
      rw [List.map_append]
      rfl
    · intro z hz
      rcases List.mem_append.mp hz with hz | hz
      · exact hs z hz
      · rw [List.mem_singleton] at hz
        subst hz
        refine prod_small ?_ (by omega)
        have : (t - wd / 2).natAbs ≤ wd.natAbs := by omega
        omega
  · rintro acc m' hl ⟨l', rfl, hb', ns, rfl, hs⟩
    rw [len_ints] at hl
    refine h ns l' hl hs ?_
    rw [len_ints] at hb'
    obtain ⟨x1, x2, x3, e, q1, q2, q3, q4, q5⟩ := hb'
    exact ⟨x1, x2, x3, e, q1, q2, q3, q4, by omega⟩
theorem shared_loop (E : De) (x : D) (m : Mem) : ∀ (ns : List Int) (g : Nat) (o o3 : Option D), (∀ o' o3', E.nx [some x, some (.int ((gcdF g ns : Nat) : Int)), o', o3'] m) →
    wLoop (gvName 2) (sSeq (sSet 3 (wBi dAbs (wCons (wVar 2) wNil))) (sWhile (wTest (wOp dNe (wVar 3) (wC (.int 0)))) (sPar 1 3 (wCons (wVar 3) (wCons (wOp dMod (wVar 1) (wVar 3)) wNil))))) E (intD ns) [some x, some (.int (g : Int)), o, o3] m
  | [], g, o, o3, h => h o o3
  | n :: ns, g, o, o3, h => by
    refine ⟨fun k ρ m' => m' = m ∧ ∃ a b : Nat, b = k ∧ Nat.gcd a b = Nat.gcd g n.natAbs ∧ ρ = [some x, some (.int (a : Int)), some (.int n), some (.int (b : Int))], ⟨n.natAbs, rfl, g, n.natAbs, rfl, rfl, ?_⟩, ?_⟩
    · have e : (if n < 0 then -n else n) = (n.natAbs : Int) := by split <;> omega
      show [some x, some (D.int (g : Int)), some (.int n), some (.int (if n < 0 then -n else n))] = _
      rw [e]
    · rintro k ρ m' ⟨rfl, a, b, rfl, hg, rfl⟩
      show if (decide ((b : Int) = 0) ^^ true) = true then _ else _
      have eb : decide ((b : Int) = 0) = decide (b = 0) := dec_eq rfl rfl
      rw [eb, Bool.xor_true]
      by_cases hb : b = 0
      · subst hb
        rw [Nat.gcd_zero_right] at hg
        subst hg
        exact shared_loop E x m' ns _ _ _ h
      · rw [decide_eq_false hb]
        refine ⟨by omega, _, _, rfl, a % b, Nat.mod_lt _ (Nat.pos_of_ne_zero hb), rfl, b, a % b, rfl, ?_, ?_⟩
        · rw [← hg, Nat.gcd_comm b (a % b), ← Nat.gcd_rec, Nat.gcd_comm]
        · rfl
theorem r__law_shared : ∀ ds m Qd Qx, F_law_shared ds m Qd Qx → w__law_shared { nx := fun _ m' => Qd .non m', rt := Qd } (ds.map some ++ List.replicate (4 - ds.length) none) m := by
  rintro ds m Qd Qx ⟨ns, rfl, h⟩
  exact shared_loop _ _ m ns 0 none none fun _ _ => h
theorem r__law_caught : ∀ ds m Qd Qx, F_law_caught ds m Qd Qx → w__law_caught { nx := fun _ m' => Qd .non m', rt := Qd } (ds.map some ++ List.replicate (4 - ds.length) none) m := by
  rintro ds m Qd Qx ⟨w, x, y, rfl, ⟨rfl, h⟩ | ⟨rfl, h⟩⟩
  · exact h
  · exact h
/-! odd things -/
theorem size_le {n : Nat} (h : n ≤ 1000) : n ≤ sizeLine := small_line h
abbrev LP (d : D) : D := .lst [.str (Str.ofString "part"), d]
theorem fits12 : Fits [1, 2] := ⟨by decide, by decide⟩
theorem fits1 : Fits [1] := ⟨by decide, by decide⟩
theorem fits3 : Fits [3] := ⟨by decide, by decide⟩
theorem fits0 : Fits [] := ⟨by decide, by decide⟩
def oddList : List D := [.non, .int 3, .bl true, .str (Str.ofString "12"), .dct [] [], .tup [.int 1, .bl true], .tup [.int 1, .str (Str.ofString "2")], .lst [.non], .tup [.int 1, .lst [.int 2]]]
theorem odd_all : ∀ d ∈ oddList, (∀ m, Odd m d) ∧ ShowsU (.lst [LP d, LP d, LP d]) := by
  intro d hd
  unfold oddList at hd
  simp only [List.mem_cons, List.not_mem_nil, or_false] at hd
  rcases hd with rfl | rfl | rfl | rfl | rfl | rfl | rfl | rfl | rfl <;>
  · exact ⟨fun m => ⟨by simp only [res, resA]; rfl, by simp only [res, resA]; rfl⟩, ⟨by decide +kernel, by decide +kernel, by decide +kernel, by decide +kernel⟩⟩
theorem r__law_odd_right : ∀ ds m Qd Qx, F_law_odd_right ds m Qd Qx → w__law_odd_right { nx := fun _ m' => Qd .non m', rt := Qd } (ds.map some ++ List.replicate (3 - ds.length) none) m := by
  rintro ds m Qd Qx ⟨rfl, h⟩
  have one : 1 ≤ sizeLine := size_le (by decide)
  have two : 2 ≤ sizeLine := size_le (by decide)
  have three : 3 ≤ sizeLine := size_le (by decide)
  have nine : 9 ≤ sizeLine := size_le (by decide)
  have mul3 : -(2 ^ 63) ≤ (3 : Int) ∧ (3 : Int) < 2 ^ 63 ∧ 1 * Int.toNat 3 ≤ sizeLine := ⟨by decide, by decide, three⟩
  refine ⟨two, two, one, one, two, nine, ?_⟩
  refine loop_inv (fun ρ m' => m' = m ∧ ∃ o0 o2, ρ = [o0, none, o2]) _ _ _ ⟨rfl, none, none, rfl⟩ ?_ ?_
  · rintro d hd ρ m' ⟨rfl, o0, o2, rfl⟩ E' hrt hex hnx hct
    obtain ⟨hodd, hsh⟩ := odd_all d hd
    have odd := hodd m'
    refine ⟨0, d, .int 0, rfl, Or.inl ⟨rfl, d, rfl, Or.inr ⟨odd, rfl, rfl, ?_⟩⟩⟩
    refine ⟨1, d, d, rfl, Or.inr ⟨rfl, d, d, rfl, Or.inr (Or.inl ⟨odd, rfl, rfl, ?_⟩)⟩⟩
    refine ⟨two, ?_⟩
    refine ⟨1, .tup [.int 1, .int 2], d, rfl, Or.inr ⟨rfl, _, d, rfl, Or.inr (Or.inr (Or.inl ⟨[1, 2], Or.inr rfl, fits12, odd, rfl, rfl, ?_⟩))⟩⟩
    refine ⟨three, ?_⟩
    refine ⟨hsh, ?_⟩
    refine ⟨two, one, mul3, hsh, ?_⟩
    have e : (decide ((py (.lst [LP d, LP d, LP d])).shown = (py (.lst (List.replicate (Int.toNat 3) [LP d]).flatten)).shown) ^^ true) = false := by
      rw [decide_eq_true (show (py (.lst [LP d, LP d, LP d])).shown = (py (.lst (List.replicate (Int.toNat 3) [LP d]).flatten)).shown from rfl)]
      rfl
    show if (decide ((py (.lst [LP d, LP d, LP d])).shown = (py (.lst (List.replicate (Int.toNat 3) [LP d]).flatten)).shown) ^^ true) = true then _ else _
    rw [e]
    exact hnx _ _ ⟨rfl, _, _, rfl⟩
  · rintro ρ m' ⟨rfl, o0, o2, rfl⟩
    refine ⟨one, fun p hp => ?_⟩
    have odd : Odd (m'.up p [.non]) (.box p) := by
      unfold Odd res
      rw [Mem.up_same]
      exact ⟨rfl, rfl⟩
    refine ⟨0, .box p, .int 0, rfl, Or.inl ⟨rfl, _, rfl, Or.inr ⟨odd, rfl, rfl, ?_⟩⟩⟩
    refine ⟨_, rfl, ?_⟩
    refine ⟨1, .box p, .int 0, rfl, Or.inr ⟨rfl, _, _, rfl, Or.inr (Or.inl ⟨odd, rfl, rfl, ?_⟩)⟩⟩
    refine ⟨_, rfl, ?_⟩
    refine ⟨one, ?_⟩
    refine ⟨1, .tup [.int 1], .box p, rfl, Or.inr ⟨rfl, _, _, rfl, Or.inr (Or.inr (Or.inl ⟨[1], Or.inr rfl, fits1, odd, rfl, rfl, ?_⟩))⟩⟩
    refine ⟨_, rfl, ?_⟩
    refine ⟨three, ?_⟩
    refine ⟨by rw [Mem.up_same]; rfl, ?_⟩
    refine ⟨.int 7, [.non], rfl, Mem.up_same, (by show 1 < sizeLine; rw [sizeLine_eq]; decide), ?_⟩
    rw [Mem.up_up]
    refine ⟨two, one, mul3, ?_⟩
    have ex : res (m'.up p [.non, .int 7]) (.lst [.box p, .box p, .box p]) = .lst [.lst [.non, .int 7], .lst [.non, .int 7], .lst [.non, .int 7]] := by
      simp only [res, resA, Mem.up_same]
    have ey : res (m'.up p [.non, .int 7]) (.lst (List.replicate (Int.toNat 3) [.lst [.non, .int 7]]).flatten) = .lst [.lst [.non, .int 7], .lst [.non, .int 7], .lst [.non, .int 7]] := by
      show res (m'.up p [.non, .int 7]) (.lst [.lst [.non, .int 7], .lst [.non, .int 7], .lst [.non, .int 7]]) = _
      simp only [res, resA]
    have es : SeqAt.shaped (py (.lst [.lst [.non, .int 7], .lst [.non, .int 7], .lst [.non, .int 7]])) = true := by decide +kernel
    have ee : PyData.eqv (py (.lst [.lst [.non, .int 7], .lst [.non, .int 7], .lst [.non, .int 7]])) (py (.lst [.lst [.non, .int 7], .lst [.non, .int 7], .lst [.non, .int 7]])) = true := by decide +kernel
    refine ⟨by rw [show ([D.non] ++ [D.int 7]) = [D.non, .int 7] from rfl, ex]; exact es, by rw [show ([D.non] ++ [D.int 7]) = [D.non, .int 7] from rfl, ey]; exact es, ?_⟩
    show if (!PyData.eqv (py (res (m'.up p [.non, .int 7]) (.lst [.box p, .box p, .box p]))) (py (res (m'.up p [.non, .int 7]) (.lst (List.replicate (Int.toNat 3) [.lst [.non, .int 7]]).flatten)))) = true then _ else _
    rw [ex, ey, ee]
    have c3 : SeqAt.shaped (py (LP (.tup [.int 3]))) = true := by decide +kernel
    have c4 : (PyData.eqv (py (LP (.tup [.int 3]))) (py (LP (.tup [.int 3]))) ^^ false) = true := by decide +kernel
    refine ⟨two, one, ?_⟩
    refine ⟨1, .tup [.int 1, .int 2], .tup [.int 3], rfl, Or.inr ⟨rfl, _, _, rfl, Or.inr (Or.inr (Or.inr ⟨[1, 2], [3], Or.inr rfl, Or.inr rfl, fits12, fits3, by decide, rfl, rfl, ?_⟩))⟩⟩
    refine ⟨one, two, c3, c3, ?_⟩
    show if (PyData.eqv (py (LP (.tup [.int 3]))) (py (LP (.tup [.int 3]))) ^^ false) = true then _ else _
    rw [c4]
    refine ⟨Nat.zero_le _, one, ?_⟩
    refine ⟨1, .tup [], .tup [.int 3], rfl, Or.inr ⟨rfl, _, _, rfl, Or.inr (Or.inr (Or.inr ⟨[], [3], Or.inr rfl, Or.inr rfl, fits0, fits3, by decide, rfl, rfl, ?_⟩))⟩⟩
    refine ⟨one, two, c3, c3, ?_⟩
    show Qd (.bl (PyData.eqv (py (LP (.tup [.int 3]))) (py (LP (.tup [.int 3]))) ^^ false)) _
    rw [c4]
    exact h _
/-! the law -/
theorem lay_ints : ∀ ns : List Int, PyData.canLayAll0 (pyA (intD ns)) = true
  | [] => by decide
  | n :: ns => by
    show PyData.canLayAll0 (pyA (.int n :: intD ns)) = true
    unfold pyA PyData.canLayAll0
    rw [lay_ints ns]
    unfold py PyData.canLay0
    rfl
theorem depth_ints : ∀ ns : List Int, PyData.depthAll (pyA (intD ns)) ≤ 1
  | [] => by decide
  | n :: ns => by
    have := depth_ints ns
    show PyData.depthAll (pyA (.int n :: intD ns)) ≤ 1
    unfold pyA PyData.depthAll
    unfold py PyData.depth
    omega
theorem shaped_tup (ns : List Int) : SeqAt.shaped (py (.tup (intD ns))) = true := by
  unfold SeqAt.shaped
  have a1 : (py (.tup (intD ns))).canLay0 = true := by
    unfold py PyData.canLay0
    exact lay_ints ns
  have a2 : (py (.tup (intD ns))).depth ≤ 64 := by
    unfold py PyData.depth
    have := depth_ints ns
    omega
  rw [a1, decide_eq_true a2]
  rfl
theorem part_lay : PyData.canLay0 (py (.str (Str.ofString "part"))) = true := by decide +kernel
theorem shaped_LP (ns : List Int) : SeqAt.shaped (py (LP (.tup (intD ns)))) = true := by
  unfold SeqAt.shaped
  have a0 : (py (.tup (intD ns))).canLay0 = true := by
    unfold py PyData.canLay0
    exact lay_ints ns
  have a3 : (py (.tup (intD ns))).depth ≤ 2 := by
    unfold py PyData.depth
    have := depth_ints ns
    omega
  have a1 : (py (LP (.tup (intD ns)))).canLay0 = true := by
    unfold py PyData.canLay0
    unfold pyA PyData.canLayAll0
    unfold pyA PyData.canLayAll0
    unfold pyA PyData.canLayAll0
    rw [part_lay, a0]
    rfl
  have a2 : (py (LP (.tup (intD ns)))).depth ≤ 64 := by
    unfold py PyData.depth
    unfold pyA PyData.depthAll
    unfold pyA PyData.depthAll
    unfold pyA PyData.depthAll
    have : (py (.str (Str.ofString "part"))).depth ≤ 2 := by decide +kernel
    omega
  rw [a1, decide_eq_true a2]
  rfl
theorem ne_self {d : D} (h : SeqAt.shaped (py d) = true) : (PyData.eqv (py d) (py d) ^^ true) = false := by
  rw [SeqAt.eqv_refl _ (shaped_lay h)]
  rfl
theorem scaled_max (ns : List Int) : scaledI ns = ns.map fun n => n / (if ((gcdF 0 ns : Nat) : Int) > 1 then ((gcdF 0 ns : Nat) : Int) else 1) := by
  unfold scaledI
  by_cases h : gcdF 0 ns = 0
  · rw [if_pos h, if_neg (by omega)]
    conv => lhs; rw [← List.map_id ns]
    exact List.map_congr_left fun n _ => (Int.ediv_one n).symm
  · rw [if_neg h]
    refine List.map_congr_left fun n _ => ?_
    congr 1
    split <;> omega
theorem dot_comm : ∀ ns ks : List Int, dot ns ks = dot ks ns
  | [], [] => rfl
  | [], _ :: _ => rfl
  | _ :: _, [] => rfl
  | n :: ns, k :: ks => by
    have := dot_comm ns ks
    show n * k + dot ns ks = k * n + dot ks ns
    rw [this, Int.mul_comm]
theorem r_law : ∀ ds m Qd Qx, F_law ds m Qd Qx → w_law { nx := fun _ m' => Qd .non m', rt := Qd } (ds.map some ++ List.replicate (13 - ds.length) none) m := by
  rintro ds m Qd Qx ⟨ns, rfl, hl, h⟩
  have one : 1 ≤ sizeLine := size_le (by decide)
  have two : 2 ≤ sizeLine := size_le (by decide)
  have three : 3 ≤ sizeLine := size_le (by decide)
  have hb : ∃ n : Int, (if (if (ns.length : Int) < 8 then (ns.length : Int) else 8) > 2 then (if (ns.length : Int) < 8 then (ns.length : Int) else 8) else 2) = n ∧ 0 ≤ n ∧ n ≤ 8 := by
    refine ⟨_, rfl, ?_, ?_⟩
    · split <;> split <;> omega
    · split <;> split <;> omega
  obtain ⟨n, en, hn0, hn8⟩ := hb
  refine ⟨?_, ?_⟩
  · show -(2 ^ 62) ≤ (if (if (ns.length : Int) < 8 then (ns.length : Int) else 8) > 2 then (if (ns.length : Int) < 8 then (ns.length : Int) else 8) else 2) ∧ (if (if (ns.length : Int) < 8 then (ns.length : Int) else 8) > 2 then (if (ns.length : Int) < 8 then (ns.length : Int) else 8) else 2) < 2 ^ 62
    rw [en]
    omega
  refine loop_inv (fun ρ m' => ∃ o1 o2 o3 o4 o5 o6 o7 o8 o9, ρ = [some (.scr ns), o1, o2, o3, o4, o5, o6, o7, o8, o9, none, none, none]) _ _ _ ⟨none, none, none, none, none, none, none, none, none, rfl⟩ ?_ ?_
  · rintro d hd ρ m1 ⟨o1, o2, o3, o4, o5, o6, o7, o8, o9, rfl⟩ E' hrt hex hnx hct
    obtain ⟨i, hi, rfl⟩ := List.mem_map.mp hd
    have hi : i < (if (if (ns.length : Int) < 8 then (ns.length : Int) else 8) > 2 then (if (ns.length : Int) < 8 then (ns.length : Int) else 8) else 2).toNat := List.mem_range.mp hi
    rw [en] at hi
    refine ⟨ns, _, rfl, by omega, by omega, ?_⟩
    intro cell
    refine ⟨cell, rfl, ?_⟩
    intro p l hp hbx
    refine ⟨p, 7, 0, l, rfl, Mem.up_same, hbx, by decide, by decide, by decide, ?_⟩
    intro d l1 hd0 hd1 hb1
    rw [Mem.up_up]
    refine ⟨p, d, _, l1, rfl, Mem.up_same, hb1, by decide, hd0, by omega, ?_⟩
    intro xs l2 hx1 hx2 hb2
    rw [Mem.up_up]
    have hxl : xs.length ≤ 10 := by omega
    have fx : Fits xs := ⟨by omega, hx2⟩
    refine ⟨p, _, _, l2, rfl, Mem.up_same, hb2, by decide, Int.natCast_nonneg _, by rw [len_ints]; omega, ?_⟩
    intro ys l3 hy1 hy2 hb3
    rw [Mem.up_up]
    rw [len_ints] at hy1
    have hyl : ys.length = xs.length := by rw [hy1]; exact Int.toNat_natCast _
    have fy : Fits ys := ⟨by omega, hy2⟩
    refine ⟨xs, rfl, ?_⟩
    have eS := scaled_max xs
    have hF : ∃ F : Int, (if ((gcdF 0 xs : Nat) : Int) > 1 then ((gcdF 0 xs : Nat) : Int) else 1) = F ∧ 0 < F ∧ F < 2 ^ 150 := by
      refine ⟨_, rfl, ?_, ?_⟩
      · split <;> omega
      · have := gcdF_small xs 0 (k := 2 ^ 150) (by decide) hx2
        split
        · exact_mod_cast this
        · decide
    obtain ⟨F, eF, hF0, hF1⟩ := hF
    rw [eF] at eS
    refine ⟨by rw [len_ints]; omega, ?_⟩
    refine lc_map (fun d => match d with | .int n => .int (n / F) | d => d) _ _ _ (fun d hd Q q => ?_) ?_
    · obtain ⟨n, hn, rfl⟩ := List.mem_map.mp hd
      show CDivW n (if ((gcdF 0 xs : Nat) : Int) > 1 then ((gcdF 0 xs : Nat) : Int) else 1) ∧ Q (.int (n / (if ((gcdF 0 xs : Nat) : Int) > 1 then ((gcdF 0 xs : Nat) : Int) else 1))) _
      rw [eF]
      exact ⟨div_ok hF0 (Int.lt_trans hF1 (by decide)) n, q⟩
    · rw [List.nil_append]
      have eD : List.map (fun d => match d with | D.int n => D.int (n / F) | d => d) (intD xs) = intD (scaledI xs) := by
        rw [eS]
        unfold intD
        rw [List.map_map, List.map_map]
        rfl
      rw [eD]
      have fS := fx.scaled
      refine ⟨three, ?_⟩
      refine loop_inv (fun ρ m' => m' = m1.up p l3 ∧ ∃ o7 o8 o9, ρ = [some (.scr ns), some (.int (0 + (i : Nat))), some (.box p), some (.lst (intD xs)), some (.lst (intD ys)), some (.int (if ((gcdF 0 xs : Nat) : Int) > 1 then ((gcdF 0 xs : Nat) : Int) else 1)), some (.tup (intD (scaledI xs))), o7, o8, o9, none, none, none]) _ _ _ ⟨rfl, _, _, _, rfl⟩ ?_ ?_
      · rintro d hd ρ m' ⟨rfl, o7, o8, o9, rfl⟩ E2 hrt2 hex2 hnx2 hct2
        have hz : ∃ zs, Row d zs ∧ Fits zs ∧ scaledI zs = scaledI xs := by
          simp only [List.mem_cons, List.not_mem_nil, or_false] at hd
          rcases hd with rfl | rfl | rfl
          · exact ⟨xs, Or.inr rfl, fx, rfl⟩
          · exact ⟨xs, Or.inl rfl, fx, rfl⟩
          · exact ⟨scaledI xs, Or.inr rfl, fS, scaled_twice xs⟩
        obtain ⟨zs, hr, fz, ez⟩ := hz
        refine ⟨d, rfl, Or.inl ⟨zs, hr, fz, ?_⟩⟩
        rw [ez]
        refine ⟨shaped_tup _, shaped_tup _, ?_⟩
        show if (PyData.eqv (py (.tup (intD (scaledI xs)))) (py (.tup (intD (scaledI xs)))) ^^ true) = true then _ else _
        rw [ne_self (shaped_tup _)]
        refine ⟨rfl, _, isa_tuple, ?_⟩
        exact hnx2 _ _ ⟨rfl, _, _, _, rfl⟩
      · rintro ρ m' ⟨rfl, o7, o8, o9, rfl⟩
        refine ⟨by
          show (zipD (intD xs) (intD ys)).length ≤ 1000000
          rw [zip_ints]
          unfold pairs
          rw [List.length_map]
          have := zip_le xs ys
          omega, ?_⟩
        refine sum_lc (i := 11) (j := 12) (ρ := [some (.scr ns), some (.int (0 + (i : Nat))), some (.box p), some (.lst (intD xs)), some (.lst (intD ys)), some (.int (if ((gcdF 0 xs : Nat) : Int) > 1 then ((gcdF 0 xs : Nat) : Int) else 1)), some (.tup (intD (scaledI xs))), o7, o8, o9, none, none, none]) (by show 11 < 13; decide) (by show 12 < 13; decide) (by decide) fx fy ?_
        refine ⟨_, ints_map _, ?_⟩
        refine ⟨_, _, rfl, Or.inl ⟨xs, ys, Or.inr ⟨rfl, rfl⟩, fx, fy, hyl.symm, ?_⟩⟩
        show if (decide (dot xs ys = dot xs ys) ^^ true) = true then _ else _
        rw [decide_eq_true rfl]
        refine ⟨_, _, rfl, Or.inl ⟨ys, xs, Or.inl ⟨rfl, rfl⟩, fy, fx, hyl, ?_⟩⟩
        show if (decide (dot ys xs = dot xs ys) ^^ true) = true then _ else _
        rw [decide_eq_true (dot_comm ys xs)]
        have hap : (intD ys).length + [D.int 1].length ≤ sizeLine := by
          rw [len_ints]
          exact size_le (by show ys.length + 1 ≤ 1000; omega)
        have eap : intD ys ++ [.int 1] = intD (ys ++ [1]) := by
          unfold intD
          rw [List.map_append]
          rfl
        have fy1 : Fits (ys ++ [1]) := by
          refine ⟨by rw [List.length_append, List.length_singleton]; omega, fun z hz => ?_⟩
          rcases List.mem_append.mp hz with hz | hz
          · exact hy2 z hz
          · rw [List.mem_singleton] at hz
            subst hz
            decide
        refine ⟨one, hap, ?_⟩
        rw [eap]
        refine ⟨1, .tup (intD xs), .tup (intD (ys ++ [1])), rfl, Or.inr ⟨rfl, _, _, rfl, Or.inr (Or.inr (Or.inr ⟨xs, ys ++ [1], Or.inr rfl, Or.inr rfl, fx, fy1, by rw [List.length_append, List.length_singleton]; omega, rfl, rfl, ?_⟩))⟩⟩
        refine ⟨one, hap, ?_⟩
        rw [eap]
        refine ⟨two, shaped_LP _, shaped_LP _, ?_⟩
        show if (PyData.eqv (py (LP (.tup (intD (ys ++ [1]))))) (py (LP (.tup (intD (ys ++ [1]))))) ^^ true) = true then _ else _
        rw [ne_self (shaped_LP _)]
        exact hnx _ _ ⟨_, _, _, _, _, _, _, _, _, rfl⟩
  · rintro ρ m' ⟨o1, o2, o3, o4, o5, o6, o7, o8, o9, rfl⟩
    refine ⟨rfl, fun m2 => ?_⟩
    refine ⟨Nat.zero_le _, .tup [], rfl, Or.inl ⟨[], Or.inr rfl, fits0, ?_⟩⟩
    refine ⟨Nat.zero_le _, by decide +kernel, by decide +kernel, ?_⟩
    have e0 : (PyData.eqv (py (.tup (intD (scaledI [])))) (py (.tup [])) ^^ false) = true := by decide +kernel
    show if (PyData.eqv (py (.tup (intD (scaledI [])))) (py (.tup [])) ^^ false) = true then _ else _
    rw [e0]
    refine ⟨Nat.zero_le _, Nat.zero_le _, .tup [], .tup [], rfl, Or.inl ⟨[], [], Or.inr ⟨rfl, rfl⟩, fits0, fits0, rfl, ?_⟩⟩
    have e1 : (decide (dot [] [] = (0 : Int)) ^^ false) = true := by decide
    show Qd (.bl (decide (dot [] [] = (0 : Int)) ^^ false)) m2
    rw [e1]
    exact h _
/-! how many arguments -/
theorem l_is_list : ∀ ds m Q Qx, F_is_list ds m Q Qx → ds.length = 1 := by rintro ds m Q Qx ⟨_, rfl, _⟩; rfl
theorem l_is_whole : ∀ ds m Q Qx, F_is_whole ds m Q Qx → ds.length = 1 := by rintro ds m Q Qx ⟨_, rfl, _⟩; rfl
theorem l_is_whole_list : ∀ ds m Q Qx, F_is_whole_list ds m Q Qx → ds.length = 1 := by rintro ds m Q Qx ⟨_, rfl, _⟩; rfl
theorem l_scaled : ∀ ds m Q Qx, F_scaled ds m Q Qx → ds.length = 1 := by rintro ds m Q Qx ⟨_, rfl, _⟩; rfl
theorem l_weighed : ∀ ds m Q Qx, F_weighed ds m Q Qx → ds.length = 2 := by
  rintro ds m Q Qx ⟨x, y, ns, ks, rfl, _⟩; rfl
theorem l_price : ∀ ds m Q Qx, F_price ds m Q Qx → ds.length = 2 := by rintro ds m Q Qx ⟨_, _, rfl, _⟩; rfl
theorem l__law_cell : ∀ ds m Q Qx, F_law_cell ds m Q Qx → ds.length = 2 := by rintro ds m Q Qx ⟨_, _, rfl, _⟩; rfl
theorem l__law_box : ∀ ds m Q Qx, F_law_box ds m Q Qx → ds.length = 1 := by rintro ds m Q Qx ⟨_, rfl, _⟩; rfl
theorem l__law_take : ∀ ds m Q Qx, F_law_take ds m Q Qx → ds.length = 2 := by rintro ds m Q Qx ⟨_, _, _, _, rfl, _⟩; rfl
theorem l__law_row : ∀ ds m Q Qx, F_law_row ds m Q Qx → ds.length = 2 := by rintro ds m Q Qx ⟨_, _, _, _, rfl, _⟩; rfl
theorem l__law_shared : ∀ ds m Q Qx, F_law_shared ds m Q Qx → ds.length = 1 := by rintro ds m Q Qx ⟨_, rfl, _⟩; rfl
theorem l__law_caught : ∀ ds m Q Qx, F_law_caught ds m Q Qx → ds.length = 3 := by rintro ds m Q Qx ⟨_, _, _, rfl, _⟩; rfl
theorem l__law_odd_right : ∀ ds m Q Qx, F_law_odd_right ds m Q Qx → ds.length = 0 := by rintro ds m Q Qx ⟨rfl, _⟩; rfl
theorem l_law : ∀ ds m Q Qx, F_law ds m Q Qx → ds.length = 1 := lawFn_len
end DL
namespace DL
open PySem L2
def top (i : Nat) : Stmt := PySem.Challenge.pw_seenchoices_k03_integers_scaled.main.body.getD i (.Pass ⟨0, 0, 0, 0⟩)
theorem bt_abs : bootBuiltins "abs" = some (.builtin "abs") := by decide +kernel
theorem bt_all : bootBuiltins "all" = some (.builtin "all") := by decide +kernel
theorem bt_bool : bootBuiltins "bool" = some (.type "bool") := by decide +kernel
theorem bt_int : bootBuiltins "int" = some (.type "int") := by decide +kernel
theorem bt_isinstance : bootBuiltins "isinstance" = some (.builtin "isinstance") := by decide +kernel
theorem bt_len : bootBuiltins "len" = some (.builtin "len") := by decide +kernel
theorem bt_list : bootBuiltins "list" = some (.type "list") := by decide +kernel
theorem bt_max : bootBuiltins "max" = some (.builtin "max") := by decide +kernel
theorem bt_min : bootBuiltins "min" = some (.builtin "min") := by decide +kernel
theorem bt_range : bootBuiltins "range" = some (.type "range") := by decide +kernel
theorem bt_repr : bootBuiltins "repr" = some (.builtin "repr") := by decide +kernel
theorem bt_sum : bootBuiltins "sum" = some (.builtin "sum") := by decide +kernel
theorem bt_tuple : bootBuiltins "tuple" = some (.type "tuple") := by decide +kernel
theorem bt_zip : bootBuiltins "zip" = some (.type "zip") := by decide +kernel
abbrev s_is_list : Stmt := top 5
theorem sc_is_list : FnScope ["value"] ["value"] (defScope s_is_list) := ⟨rfl, rfl, rfl, by decide +kernel, rfl, by decide +kernel, by decide +kernel⟩
abbrev s_is_whole : Stmt := top 6
theorem sc_is_whole : FnScope ["value"] ["value"] (defScope s_is_whole) := ⟨rfl, rfl, rfl, by decide +kernel, rfl, by decide +kernel, by decide +kernel⟩
abbrev s_is_whole_list : Stmt := top 7
theorem sc_is_whole_list : FnScope ["value", "item"] ["value"] (defScope s_is_whole_list) := ⟨rfl, rfl, rfl, by decide +kernel, rfl, by decide +kernel, by decide +kernel⟩
abbrev s_scaled : Stmt := top 8
theorem sc_scaled : FnScope ["numbers", "divisor", "number"] ["numbers"] (defScope s_scaled) := ⟨rfl, rfl, rfl, by decide +kernel, rfl, by decide +kernel, by decide +kernel⟩
abbrev s_weighed : Stmt := top 9
theorem sc_weighed : FnScope ["counts", "numbers", "count", "number"] ["counts", "numbers"] (defScope s_weighed) := ⟨rfl, rfl, rfl, by decide +kernel, rfl, by decide +kernel, by decide +kernel⟩
abbrev s_price : Stmt := top 10
theorem sc_price : FnScope ["counts", "numbers"] ["counts", "numbers"] (defScope s_price) := ⟨rfl, rfl, rfl, by decide +kernel, rfl, by decide +kernel, by decide +kernel⟩
abbrev s__law_cell : Stmt := top 12
theorem sc__law_cell : FnScope ["_law_script", "_law_k"] ["_law_script", "_law_k"] (defScope s__law_cell) := ⟨rfl, rfl, rfl, by decide +kernel, rfl, by decide +kernel, by decide +kernel⟩
abbrev s__law_box : Stmt := top 13
theorem sc__law_box : FnScope ["_law_cell_here"] ["_law_cell_here"] (defScope s__law_box) := ⟨rfl, rfl, rfl, by decide +kernel, rfl, by decide +kernel, by decide +kernel⟩
abbrev s__law_take : Stmt := top 14
theorem sc__law_take : FnScope ["_law_box_here", "_law_many", "_law_mixed", "_law_digit"] ["_law_box_here", "_law_many"] (defScope s__law_take) := ⟨rfl, rfl, rfl, by decide +kernel, rfl, by decide +kernel, by decide +kernel⟩
abbrev s__law_row : Stmt := top 15
theorem sc__law_row : FnScope ["_law_box_here", "_law_many", "_law_factor", "_law_wide", "_law_k"] ["_law_box_here", "_law_many"] (defScope s__law_row) := ⟨rfl, rfl, rfl, by decide +kernel, rfl, by decide +kernel, by decide +kernel⟩
abbrev s__law_shared : Stmt := top 16
theorem sc__law_shared : FnScope ["_law_row_here", "_law_one", "_law_number", "_law_other"] ["_law_row_here"] (defScope s__law_shared) := ⟨rfl, rfl, rfl, by decide +kernel, rfl, by decide +kernel, by decide +kernel⟩
abbrev s__law_caught : Stmt := top 17
theorem sc__law_caught : FnScope ["_law_way", "_law_one", "_law_other", "e"] ["_law_way", "_law_one", "_law_other"] (defScope s__law_caught) := ⟨rfl, rfl, rfl, by decide +kernel, rfl, by decide +kernel, by decide +kernel⟩
abbrev s__law_odd_right : Stmt := top 18
theorem sc__law_odd_right : FnScope ["_law_thing", "_law_bad", "_law_found"] [] (defScope s__law_odd_right) := ⟨rfl, rfl, rfl, by decide +kernel, rfl, by decide +kernel, by decide +kernel⟩
abbrev s_law : Stmt := top 19
theorem sc_law : FnScope ["_law_script", "_law_k", "_law_box_here", "_law_row_here", "_law_other", "_law_factor", "_law_due", "_law_some", "_law_total_due", "_law_found", "_law_number", "_law_left", "_law_right"] ["_law_script"] (defScope s_law) := ⟨rfl, rfl, rfl, by decide +kernel, rfl, by decide +kernel, by decide +kernel⟩
structure Txt (mg : Str → Option Value) : Prop where
  z_abs : mg "abs" = none
  z_all : mg "all" = none
  z_bool : mg "bool" = none
  z_int : mg "int" = none
  z_isinstance : mg "isinstance" = none
  z_len : mg "len" = none
  z_list : mg "list" = none
  z_max : mg "max" = none
  z_min : mg "min" = none
  z_range : mg "range" = none
  z_repr : mg "repr" = none
  z_sum : mg "sum" = none
  z_tuple : mg "tuple" = none
  z_zip : mg "zip" = none
  g_gcd : mg "gcd" = some (.builtin "math.gcd")
section
variable {P : Program} {w : World} {K : Fg} {mg : Str → Option Value} {base : Heap}
theorem ok_is_list (T : Txt mg) (FA : FunAt K mg "is_list" "is_list" s_is_list ["value"]) : Has P w K mg base 1 "is_list" ["value"] F_is_list :=
  has_of (W := fun _ _ _ _ => False) FA sc_is_list l_is_list (wb := w_is_list) (fun f cdv A oe s H E hX => (pb_one (ps_ret (pd_isiT2 hX.K hX.mg T.z_isinstance bt_isinstance T.z_list bt_list T.z_tuple bt_tuple (pd_var 0 hX.hN))))) r_is_list
theorem ok_is_whole (T : Txt mg) (FA : FunAt K mg "is_whole" "is_whole" s_is_whole ["value"]) : Has P w K mg base 1 "is_whole" ["value"] F_is_whole :=
  has_of (W := fun _ _ _ _ => False) FA sc_is_whole l_is_whole (wb := w_is_whole) (fun f cdv A oe s H E hX => (pb_one (ps_ret (pd_and (pd_bi (b_isi hX.K) hX.mg T.z_isinstance bt_isinstance (pa_cons (pd_var 0 hX.hN) (pa_cons (pd_ty hX.mg T.z_int bt_int) pa_nil))) (pd_one (pd_not (pd_bi (b_isi hX.K) hX.mg T.z_isinstance bt_isinstance (pa_cons (pd_var 0 hX.hN) (pa_cons (pd_ty hX.mg T.z_bool bt_bool) pa_nil))))))))) r_is_whole
theorem ok_is_whole_list (T : Txt mg) (FA : FunAt K mg "is_whole_list" "is_whole_list" s_is_whole_list ["value"]) (h_is_list : Has P w K mg base 1 "is_list" ["value"] F_is_list) (h_is_whole : Has P w K mg base 1 "is_whole" ["value"] F_is_whole) : Has P w K mg base 2 "is_whole_list" ["value"] F_is_whole_list :=
  has_of (W := fun _ _ _ _ => False) FA sc_is_whole_list l_is_whole_list (wb := w_is_whole_list) (fun f cdv A oe s H E hX => (pb_one (ps_ret (pd_and (pd_own_call hX h_is_list (pa_cons (pd_var 0 hX.hN) pa_nil)) (pd_one (pd_bi (b_all hX.K hX.calm) hX.mg T.z_all bt_all (pa_cons (pd_lc (own := [(("item" : Str), 1)]) hX.hN hX.calm hX.nd (pi_var hX.K 0 hX.hN) (fun _ => blkOk_by (sc := defScope s_is_whole_list) (by decide +kernel)) (pg_name 1 (hX.blk _).hN hX.nd) pts_nil (pd_own_call (hX.blk _) h_is_whole (pa_cons (pd_var 1 (hX.blk _).hN) pa_nil))) pa_nil))))))) r_is_whole_list
theorem ok_scaled (T : Txt mg) (FA : FunAt K mg "scaled" "scaled" s_scaled ["numbers"]) (SU : Sup P mg) (XC_InvalidPart : XC P K mg "InvalidPart" "value") (h_is_whole_list : Has P w K mg base 2 "is_whole_list" ["value"] F_is_whole_list) : HasX P w K mg base 3 "scaled" ["numbers"] F_scaled :=
  has_ofX FA sc_scaled l_scaled (wb := w_scaled) (fun f cdv A oe s H E hX tk => (pb_cons (ps_if (pt_not (pt_val (pd_own_call hX h_is_whole_list.lent (pa_cons (pd_var 0 hX.hN) pa_nil)))) (pb_one (ps_raiseX hX tk SU XC_InvalidPart (pd_var 0 hX.hN))) pb_nil) (pb_cons (ps_set 1 hX.hN hX.nd pd_int) (pb_cons (ps_for (fun _ => passes_of rfl) hX.calm (pi_var hX.K 0 hX.hN) (pg_name 2 hX.hN hX.nd) (pb_one (ps_set 1 hX.hN hX.nd (pd_bg b_gcd hX.mg T.g_gcd (pa_cons (pd_var 1 hX.hN) (pa_cons (pd_var 2 hX.hN) pa_nil)))))) (pb_cons (ps_if (pt_cmp (c_eq hX.toFam) (pd_var 1 hX.hN) pd_int) (pb_one (ps_ret (pd_bt (b_tuple hX.K) hX.mg T.z_tuple bt_tuple (pa_cons (pd_var 0 hX.hN) pa_nil)))) pb_nil) (pb_one (ps_ret (pd_bt (b_tuple hX.K) hX.mg T.z_tuple bt_tuple (pa_cons (pd_lc (own := [(("number" : Str), 2)]) hX.hN hX.calm hX.nd (pi_var hX.K 0 hX.hN) (fun _ => blkOk_by (sc := defScope s_scaled) (by decide +kernel)) (pg_name 2 (hX.blk _).hN hX.nd) pts_nil (pd_div (pd_var 2 (hX.blk _).hN) (pd_var 1 (hX.blk _).hN))) pa_nil))))))))) r_scaled
theorem ok_weighed (T : Txt mg) (FA : FunAt K mg "weighed" "weighed" s_weighed ["counts", "numbers"]) : Has P w K mg base 1 "weighed" ["counts", "numbers"] F_weighed :=
  has_of (W := fun _ _ _ _ => False) FA sc_weighed l_weighed (wb := w_weighed) (fun f cdv A oe s H E hX => (pb_one (ps_ret (pd_bi (b_sum hX.K hX.calm) hX.mg T.z_sum bt_sum (pa_cons (pd_lc (own := [(("count" : Str), 2), (("number" : Str), 3)]) hX.hN hX.calm hX.nd (pi_zipD hX.K hX.mg T.z_zip (pa_cons (pd_var 0 hX.hN) (pa_cons (pd_var 1 hX.hN) pa_nil))) (fun _ => blkOk_by (sc := defScope s_weighed) (by decide +kernel)) (pg_tup (hX.blk _).K (hX.blk _).calm (pgs_cons (pg_name 2 (hX.blk _).hN hX.nd) (pgs_cons (pg_name 3 (hX.blk _).hN hX.nd) pgs_nil))) pts_nil (pd_mul (pd_var 2 (hX.blk _).hN) (pd_var 3 (hX.blk _).hN))) pa_nil))))) r_weighed
theorem ok_price (T : Txt mg) (FA : FunAt K mg "price" "price" s_price ["counts", "numbers"]) (SU : Sup P mg) (XC_InvalidPart : XC P K mg "InvalidPart" "value") (h_is_whole_list : Has P w K mg base 2 "is_whole_list" ["value"] F_is_whole_list) (h_weighed : Has P w K mg base 1 "weighed" ["counts", "numbers"] F_weighed) : HasX P w K mg base 3 "price" ["counts", "numbers"] F_price :=
  has_ofX FA sc_price l_price (wb := w_price) (fun f cdv A oe s H E hX tk => (pb_cons (ps_if (pt_not (pt_val (pd_own_call hX h_is_whole_list.lent (pa_cons (pd_var 0 hX.hN) pa_nil)))) (pb_one (ps_raiseX hX tk SU XC_InvalidPart (pd_var 0 hX.hN))) pb_nil) (pb_cons (ps_if (pw_pt (pw_or (pt_not (pt_val (pd_own_call hX h_is_whole_list.lent (pa_cons (pd_var 1 hX.hN) pa_nil)))) (pw_or1 (pt_cmp (c_ne hX.toFam) (pd_bi (b_len hX.K) hX.mg T.z_len bt_len (pa_cons (pd_var 1 hX.hN) pa_nil)) (pd_bi (b_len hX.K) hX.mg T.z_len bt_len (pa_cons (pd_var 0 hX.hN) pa_nil)))))) (pb_one (ps_raiseX hX tk SU XC_InvalidPart (pd_var 1 hX.hN))) pb_nil) (pb_one (ps_ret (pd_own_call hX h_weighed (pa_cons (pd_var 0 hX.hN) (pa_cons (pd_var 1 hX.hN) pa_nil)))))))) r_price
theorem ok__law_cell (T : Txt mg) (FA : FunAt K mg "_law_cell" "_law_cell" s__law_cell ["_law_script", "_law_k"]) : Has P w K mg base 1 "_law_cell" ["_law_script", "_law_k"] F_law_cell :=
  has_of (W := fun _ _ _ _ => False) FA sc__law_cell l__law_cell (wb := w__law_cell) (fun f cdv A oe s H E hX => (pb_cons (ps_if (pt_cmp (c_lt) (pd_var 1 hX.hN) (pd_bi (b_len hX.K) hX.mg T.z_len bt_len (pa_cons (pd_var 0 hX.hN) pa_nil))) (pb_one (ps_ret (pd_ix hX.K (pd_var 0 hX.hN) (pd_var 1 hX.hN)))) pb_nil) (pb_one (ps_ret (pd_add hX.K (pd_mul pd_int (pd_var 1 hX.hN)) pd_int))))) r__law_cell
theorem ok__law_box (T : Txt mg) (FA : FunAt K mg "_law_box" "_law_box" s__law_box ["_law_cell_here"]) : Has P w K mg base 1 "_law_box" ["_law_cell_here"] F_law_box :=
  has_of (W := fun _ _ _ _ => False) FA sc__law_box l__law_box (wb := w__law_box) (fun f cdv A oe s H E hX => (pb_one (ps_ret (pd_own (pa_cons (pd_bi (b_max hX.calm) hX.mg T.z_max bt_max (pa_cons pd_int (pa_cons (pd_sub (pd_var 0 hX.hN) (pd_pow pd_int pd_int)) pa_nil))) (pa_cons (pd_mod (pd_var 0 hX.hN) pd_int) (pa_cons pd_int pa_nil))))))) r__law_box
theorem ok__law_take (T : Txt mg) (FA : FunAt K mg "_law_take" "_law_take" s__law_take ["_law_box_here", "_law_many"]) : Has P w K mg base 1 "_law_take" ["_law_box_here", "_law_many"] F_law_take :=
  has_of (W := fun _ _ _ _ => False) FA sc__law_take l__law_take (wb := w__law_take) (fun f cdv A oe s H E hX => (pb_cons (ps_if (pt_cmp (c_gt) (pd_ix hX.K (pd_var 0 hX.hN) pd_int) pd_int) (pb_cons (ps_set 3 hX.hN hX.nd (pd_mod (pd_ix hX.K (pd_var 0 hX.hN) pd_int) (pd_var 1 hX.hN))) (pb_cons (ps_put (pd_div (pd_ix hX.K (pd_var 0 hX.hN) pd_int) (pd_var 1 hX.hN)) (pd_var 0 hX.hN) pd_int) (pb_one (ps_ret (pd_var 3 hX.hN))))) pb_nil) (pb_cons (ps_put (pd_add hX.K (pd_ix hX.K (pd_var 0 hX.hN) pd_int) pd_int) (pd_var 0 hX.hN) pd_int) (pb_cons (ps_set 2 hX.hN hX.nd (pd_mod (pd_pow (pd_add hX.K (pd_add hX.K (pd_ix hX.K (pd_var 0 hX.hN) pd_int) (pd_mul pd_int (pd_ix hX.K (pd_var 0 hX.hN) pd_int))) pd_int) pd_int) pd_int)) (pb_cons (ps_set 2 hX.hN hX.nd (pd_mod (pd_pow (pd_add hX.K (pd_var 2 hX.hN) (pd_mul pd_int (pd_ix hX.K (pd_var 0 hX.hN) pd_int))) pd_int) pd_int)) (pb_one (ps_ret (pd_mod (pd_div (pd_var 2 hX.hN) pd_int) (pd_var 1 hX.hN))))))))) r__law_take
theorem ok__law_row (T : Txt mg) (FA : FunAt K mg "_law_row" "_law_row" s__law_row ["_law_box_here", "_law_many"]) (h__law_take : Has P w K mg base 1 "_law_take" ["_law_box_here", "_law_many"] F_law_take) : Has P w K mg base 2 "_law_row" ["_law_box_here", "_law_many"] F_law_row :=
  has_of (W := fun _ _ _ _ => False) FA sc__law_row l__law_row (wb := w__law_row) (fun f cdv A oe s H E hX => (pb_cons (ps_set 2 hX.hN hX.nd (pd_add hX.K pd_int (pd_own_call hX h__law_take (pa_cons (pd_var 0 hX.hN) (pa_cons pd_int pa_nil))))) (pb_cons (ps_set 3 hX.hN hX.nd (pd_ix hX.K (pd_lst (pa_cons pd_int (pa_cons pd_int (pa_cons (pd_pow pd_int pd_int) (pa_cons (pd_pow pd_int pd_int) pa_nil))))) (pd_own_call hX h__law_take (pa_cons (pd_var 0 hX.hN) (pa_cons pd_int pa_nil))))) (pb_one (ps_ret (pd_lc (own := [(("_law_k" : Str), 4)]) hX.hN hX.calm hX.nd (pi_rg1 hX.mg T.z_range (pa_cons (pd_var 1 hX.hN) pa_nil)) (fun _ => blkOk_by (sc := defScope s__law_row) (by decide +kernel)) (pg_name 4 (hX.blk _).hN hX.nd) pts_nil (pd_mul (pd_sub (pd_own_call (hX.blk _) h__law_take (pa_cons (pd_var 0 (hX.blk _).hN) (pa_cons (pd_var 3 (hX.blk _).hN) pa_nil))) (pd_div (pd_var 3 (hX.blk _).hN) pd_int)) (pd_var 2 (hX.blk _).hN)))))))) r__law_row
theorem ok__law_shared (T : Txt mg) (FA : FunAt K mg "_law_shared" "_law_shared" s__law_shared ["_law_row_here"]) : Has P w K mg base 1 "_law_shared" ["_law_row_here"] F_law_shared :=
  has_of (W := fun _ _ _ _ => False) FA sc__law_shared l__law_shared (wb := w__law_shared) (fun f cdv A oe s H E hX => (pb_cons (ps_set 1 hX.hN hX.nd pd_int) (pb_cons (ps_for (fun _ => PassesOwn.never) hX.calm (pi_lst hX.K (pd_var 0 hX.hN)) (pg_name 2 hX.hN hX.nd) (pb_cons (ps_set 3 hX.hN hX.nd (pd_bi (b_abs ) hX.mg T.z_abs bt_abs (pa_cons (pd_var 2 hX.hN) pa_nil))) (pb_one (ps_whileD (fun _ => PassesOwn.never) (pt_cmp (c_ne hX.toFam) (pd_var 3 hX.hN) pd_int) (pb_one (ps_parD 1 3 hX.hN hX.calm hX.nd (pa_cons (pd_var 3 hX.hN) (pa_cons (pd_mod (pd_var 1 hX.hN) (pd_var 3 hX.hN)) pa_nil)))))))) (pb_one (ps_ret (pd_var 1 hX.hN)))))) r__law_shared
theorem ok__law_caught (T : Txt mg) (FA : FunAt K mg "_law_caught" "_law_caught" s__law_caught ["_law_way", "_law_one", "_law_other"]) (XC_InvalidPart : XC P K mg "InvalidPart" "value") (h_scaled : HasX P w K mg base 3 "scaled" ["numbers"] F_scaled) (h_price : HasX P w K mg base 3 "price" ["counts", "numbers"] F_price) : Has P w K mg base 4 "_law_caught" ["_law_way", "_law_one", "_law_other"] F_law_caught :=
  has_of (W := fun _ _ _ _ => False) FA sc__law_caught l__law_caught (wb := w__law_caught) (fun f cdv A oe s H E hX => (pb_one (ps_tryR hX nox_takes XC_InvalidPart 3 (fun W0 => (pb_one (ps_ret (pd_lst (pa_cons pd_str (pa_cons (pd_if (pt_cmp (c_eq (hX.tr W0).toFam) (pd_var 0 (hX.tr W0).hN) pd_int) (pd_own_callX (hX.tr W0) (tr_takes hX W0) h_scaled (pa_cons (pd_var 1 (hX.tr W0).hN) pa_nil)) (pd_own_callX (hX.tr W0) (tr_takes hX W0) h_price (pa_cons (pd_var 1 (hX.tr W0).hN) (pa_cons (pd_var 2 (hX.tr W0).hN) pa_nil)))) pa_nil))))))))) r__law_caught
theorem ok__law_odd_right (T : Txt mg) (FA : FunAt K mg "_law_odd_right" "_law_odd_right" s__law_odd_right []) (h__law_caught : Has P w K mg base 4 "_law_caught" ["_law_way", "_law_one", "_law_other"] F_law_caught) : Has P w K mg base 5 "_law_odd_right" [] F_law_odd_right :=
  has_of (W := fun _ _ _ _ => False) FA sc__law_odd_right l__law_odd_right (wb := w__law_odd_right) (fun f cdv A oe s H E hX => (pb_cons (ps_for (fun _ => PassesOwn.never) hX.calm (pi_lst hX.K (pd_lst (pa_cons pd_non (pa_cons pd_int (pa_cons pd_bl (pa_cons pd_str (pa_cons pd_dct0 (pa_cons (pd_tup (pa_cons pd_int (pa_cons pd_bl pa_nil))) (pa_cons (pd_tup (pa_cons pd_int (pa_cons pd_str pa_nil))) (pa_cons (pd_lst (pa_cons pd_non pa_nil)) (pa_cons (pd_tup (pa_cons pd_int (pa_cons (pd_lst (pa_cons pd_int pa_nil)) pa_nil))) pa_nil))))))))))) (pg_name 0 hX.hN hX.nd) (pb_cons (ps_set 2 hX.hN hX.nd (pd_lst (pa_cons (pd_own_call hX h__law_caught (pa_cons pd_int (pa_cons (pd_var 0 hX.hN) (pa_cons pd_int pa_nil)))) (pa_cons (pd_own_call hX h__law_caught (pa_cons pd_int (pa_cons (pd_var 0 hX.hN) (pa_cons (pd_var 0 hX.hN) pa_nil)))) (pa_cons (pd_own_call hX h__law_caught (pa_cons pd_int (pa_cons (pd_tup (pa_cons pd_int (pa_cons pd_int pa_nil))) (pa_cons (pd_var 0 hX.hN) pa_nil)))) pa_nil))))) (pb_one (ps_if (pt_cmp (c_ne hX.toFam) (pd_bi (b_reprU hX) hX.mg T.z_repr bt_repr (pa_cons (pd_var 2 hX.hN) pa_nil)) (pd_bi (b_reprU hX) hX.mg T.z_repr bt_repr (pa_cons (pd_mul (pd_lst (pa_cons (pd_lst (pa_cons pd_str (pa_cons (pd_var 0 hX.hN) pa_nil))) pa_nil)) pd_int) pa_nil))) (pb_one (ps_ret pd_bl)) pb_nil)))) (pb_cons (ps_set 1 hX.hN hX.nd (pd_own (pa_cons pd_non pa_nil))) (pb_cons (ps_set 2 hX.hN hX.nd (pd_lst (pa_cons (pd_ix hX.K (pd_own_call hX h__law_caught (pa_cons pd_int (pa_cons (pd_var 1 hX.hN) (pa_cons pd_int pa_nil)))) pd_int) (pa_cons (pd_ix hX.K (pd_own_call hX h__law_caught (pa_cons pd_int (pa_cons (pd_var 1 hX.hN) (pa_cons pd_int pa_nil)))) pd_int) (pa_cons (pd_ix hX.K (pd_own_call hX h__law_caught (pa_cons pd_int (pa_cons (pd_tup (pa_cons pd_int pa_nil)) (pa_cons (pd_var 1 hX.hN) pa_nil)))) pd_int) pa_nil))))) (pb_cons (ps_appendD hX.K (pd_var 1 hX.hN) (pa_cons pd_int pa_nil)) (pb_cons (ps_if (pt_cmp (c_neM hX.toFam) (pd_var 2 hX.hN) (pd_mul (pd_lst (pa_cons (pd_lst (pa_cons pd_non (pa_cons pd_int pa_nil))) pa_nil)) pd_int)) (pb_one (ps_ret pd_bl)) pb_nil) (pb_one (ps_ret (pd_and (pd_cmp (c_eq hX.toFam) (pd_own_call hX h__law_caught (pa_cons pd_int (pa_cons (pd_tup (pa_cons pd_int (pa_cons pd_int pa_nil))) (pa_cons (pd_tup (pa_cons pd_int pa_nil)) pa_nil)))) (pd_lst (pa_cons pd_str (pa_cons (pd_tup (pa_cons pd_int pa_nil)) pa_nil)))) (pd_one (pd_cmp (c_eq hX.toFam) (pd_own_call hX h__law_caught (pa_cons pd_int (pa_cons (pd_tup pa_nil) (pa_cons (pd_tup (pa_cons pd_int pa_nil)) pa_nil)))) (pd_lst (pa_cons pd_str (pa_cons (pd_tup (pa_cons pd_int pa_nil)) pa_nil)))))))))))))) r__law_odd_right
theorem law_fn {fa : Addr} {fd : FuncData} (T : Txt mg) (FA : Fun K "law" "law" s_law fa fd) (h__law_cell : Has P w K mg base 1 "_law_cell" ["_law_script", "_law_k"] F_law_cell) (h__law_box : Has P w K mg base 1 "_law_box" ["_law_cell_here"] F_law_box) (h__law_take : Has P w K mg base 1 "_law_take" ["_law_box_here", "_law_many"] F_law_take) (h__law_row : Has P w K mg base 2 "_law_row" ["_law_box_here", "_law_many"] F_law_row) (h__law_shared : Has P w K mg base 1 "_law_shared" ["_law_row_here"] F_law_shared) (h_scaled : HasX P w K mg base 3 "scaled" ["numbers"] F_scaled) (h_price : HasX P w K mg base 3 "price" ["counts", "numbers"] F_price) (h__law_caught : Has P w K mg base 4 "_law_caught" ["_law_way", "_law_one", "_law_other"] F_law_caught) (h__law_odd_right : Has P w K mg base 5 "_law_odd_right" [] F_law_odd_right) : FnG P w K mg base CX0 6 fa fd ["_law_script"] (spD K mg (lawFn 63)) :=
  fn_ok (W := fun _ _ _ _ => False) FA sc_law l_law (wb := w_law) (fun cdv A oe s H E hX => (pb_cons (ps_for (fun _ => PassesOwn.never) hX.calm (pi_rg1 hX.mg T.z_range (pa_cons (pd_bi (b_max hX.calm) hX.mg T.z_max bt_max (pa_cons pd_int (pa_cons (pd_bi (b_min hX.calm) hX.mg T.z_min bt_min (pa_cons pd_int (pa_cons (pd_bi (b_len hX.K) hX.mg T.z_len bt_len (pa_cons (pd_var 0 hX.hN) pa_nil)) pa_nil))) pa_nil))) pa_nil)) (pg_name 1 hX.hN hX.nd) (pb_cons (ps_set 2 hX.hN hX.nd (pd_own_call hX h__law_box (pa_cons (pd_own_call hX h__law_cell (pa_cons (pd_var 0 hX.hN) (pa_cons (pd_var 1 hX.hN) pa_nil))) pa_nil))) (pb_cons (ps_set 3 hX.hN hX.nd (pd_own_call hX h__law_row (pa_cons (pd_var 2 hX.hN) (pa_cons (pd_own_call hX h__law_take (pa_cons (pd_var 2 hX.hN) (pa_cons pd_int pa_nil))) pa_nil)))) (pb_cons (ps_set 4 hX.hN hX.nd (pd_own_call hX h__law_row (pa_cons (pd_var 2 hX.hN) (pa_cons (pd_bi (b_len hX.K) hX.mg T.z_len bt_len (pa_cons (pd_var 3 hX.hN) pa_nil)) pa_nil)))) (pb_cons (ps_set 5 hX.hN hX.nd (pd_bi (b_max hX.calm) hX.mg T.z_max bt_max (pa_cons pd_int (pa_cons (pd_own_call hX h__law_shared (pa_cons (pd_var 3 hX.hN) pa_nil)) pa_nil)))) (pb_cons (ps_set 6 hX.hN hX.nd (pd_bt (b_tuple hX.K) hX.mg T.z_tuple bt_tuple (pa_cons (pd_lc (own := [(("_law_number" : Str), 10)]) hX.hN hX.calm hX.nd (pi_lst hX.K (pd_var 3 hX.hN)) (fun _ => blkOk_by (sc := defScope s_law) (by decide +kernel)) (pg_name 10 (hX.blk _).hN hX.nd) pts_nil (pd_div (pd_var 10 (hX.blk _).hN) (pd_var 5 (hX.blk _).hN))) pa_nil))) (pb_cons (ps_for (fun _ => PassesOwn.never) hX.calm (pi_lst hX.K (pd_lst (pa_cons (pd_bt (b_tuple hX.K) hX.mg T.z_tuple bt_tuple (pa_cons (pd_var 3 hX.hN) pa_nil)) (pa_cons (pd_bt (b_list hX.K) hX.mg T.z_list bt_list (pa_cons (pd_var 3 hX.hN) pa_nil)) (pa_cons (pd_var 6 hX.hN) pa_nil))))) (pg_name 7 hX.hN hX.nd) (pb_cons (ps_set 9 hX.hN hX.nd (pd_own_callX hX nox_takes h_scaled (pa_cons (pd_var 7 hX.hN) pa_nil))) (pb_one (ps_if (pw_pt (pw_or (pt_cmp (c_ne hX.toFam) (pd_var 9 hX.hN) (pd_var 6 hX.hN)) (pw_or1 (pt_not (pt_val (pd_bi (b_isi hX.K) hX.mg T.z_isinstance bt_isinstance (pa_cons (pd_var 9 hX.hN) (pa_cons (pd_ty hX.mg T.z_tuple bt_tuple) pa_nil)))))))) (pb_one (ps_ret pd_bl)) pb_nil)))) (pb_cons (ps_set 8 hX.hN hX.nd (pd_bi (b_sum hX.K hX.calm) hX.mg T.z_sum bt_sum (pa_cons (pd_lc (own := [(("_law_left" : Str), 11), (("_law_right" : Str), 12)]) hX.hN hX.calm hX.nd (pi_zipD hX.K hX.mg T.z_zip (pa_cons (pd_var 3 hX.hN) (pa_cons (pd_var 4 hX.hN) pa_nil))) (fun _ => blkOk_by (sc := defScope s_law) (by decide +kernel)) (pg_tup (hX.blk _).K (hX.blk _).calm (pgs_cons (pg_name 11 (hX.blk _).hN hX.nd) (pgs_cons (pg_name 12 (hX.blk _).hN hX.nd) pgs_nil))) pts_nil (pd_mul (pd_var 11 (hX.blk _).hN) (pd_var 12 (hX.blk _).hN))) pa_nil))) (pb_cons (ps_if (pw_pt (pw_or (pt_cmp (c_ne hX.toFam) (pd_own_callX hX nox_takes h_price (pa_cons (pd_bt (b_tuple hX.K) hX.mg T.z_tuple bt_tuple (pa_cons (pd_var 3 hX.hN) pa_nil)) (pa_cons (pd_bt (b_tuple hX.K) hX.mg T.z_tuple bt_tuple (pa_cons (pd_var 4 hX.hN) pa_nil)) pa_nil))) (pd_var 8 hX.hN)) (pw_or1 (pt_cmp (c_ne hX.toFam) (pd_own_callX hX nox_takes h_price (pa_cons (pd_var 4 hX.hN) (pa_cons (pd_var 3 hX.hN) pa_nil))) (pd_var 8 hX.hN))))) (pb_one (ps_ret pd_bl)) pb_nil) (pb_one (ps_if (pt_cmp (c_ne hX.toFam) (pd_own_call hX h__law_caught (pa_cons pd_int (pa_cons (pd_bt (b_tuple hX.K) hX.mg T.z_tuple bt_tuple (pa_cons (pd_var 3 hX.hN) pa_nil)) (pa_cons (pd_bt (b_tuple hX.K) hX.mg T.z_tuple bt_tuple (pa_cons (pd_add hX.K (pd_var 4 hX.hN) (pd_lst (pa_cons pd_int pa_nil))) pa_nil)) pa_nil)))) (pd_lst (pa_cons pd_str (pa_cons (pd_bt (b_tuple hX.K) hX.mg T.z_tuple bt_tuple (pa_cons (pd_add hX.K (pd_var 4 hX.hN) (pd_lst (pa_cons pd_int pa_nil))) pa_nil)) pa_nil)))) (pb_one (ps_ret pd_bl)) pb_nil))))))))))) (pb_one (ps_ret (pd_and (pd_own_call0 hX h__law_odd_right) (pd_and (pd_cmp (c_eq hX.toFam) (pd_own_callX hX nox_takes h_scaled (pa_cons (pd_tup pa_nil) pa_nil)) (pd_tup pa_nil)) (pd_one (pd_cmp (c_eq hX.toFam) (pd_own_callX hX nox_takes h_price (pa_cons (pd_tup pa_nil) (pa_cons (pd_tup pa_nil) pa_nil))) pd_int)))))))) r_law
end
theorem all_mk {P : Program} {w : World} {K : Fg} {mg : Str → Option Value} {h : Heap} {fa : Addr} (X : K.In h) (G : h.Ns mainGlobals mg) (hfa : mg "law" = some (.ref fa))
    {a_is_list : Addr} {oc_is_list kV_is_list dc_is_list pm_is_list cd_is_list ct_is_list : Value} {od_is_list an_is_list : Option Addr} {sl_is_list : Array (Option Value)}
    {a_is_whole : Addr} {oc_is_whole kV_is_whole dc_is_whole pm_is_whole cd_is_whole ct_is_whole : Value} {od_is_whole an_is_whole : Option Addr} {sl_is_whole : Array (Option Value)}
    {a_is_whole_list : Addr} {oc_is_whole_list kV_is_whole_list dc_is_whole_list pm_is_whole_list cd_is_whole_list ct_is_whole_list : Value} {od_is_whole_list an_is_whole_list : Option Addr} {sl_is_whole_list : Array (Option Value)}
    {a_scaled : Addr} {oc_scaled kV_scaled dc_scaled pm_scaled cd_scaled ct_scaled : Value} {od_scaled an_scaled : Option Addr} {sl_scaled : Array (Option Value)}
    {a_weighed : Addr} {oc_weighed kV_weighed dc_weighed pm_weighed cd_weighed ct_weighed : Value} {od_weighed an_weighed : Option Addr} {sl_weighed : Array (Option Value)}
    {a_price : Addr} {oc_price kV_price dc_price pm_price cd_price ct_price : Value} {od_price an_price : Option Addr} {sl_price : Array (Option Value)}
    {a__law_cell : Addr} {oc__law_cell kV__law_cell dc__law_cell pm__law_cell cd__law_cell ct__law_cell : Value} {od__law_cell an__law_cell : Option Addr} {sl__law_cell : Array (Option Value)}
    {a__law_box : Addr} {oc__law_box kV__law_box dc__law_box pm__law_box cd__law_box ct__law_box : Value} {od__law_box an__law_box : Option Addr} {sl__law_box : Array (Option Value)}
    {a__law_take : Addr} {oc__law_take kV__law_take dc__law_take pm__law_take cd__law_take ct__law_take : Value} {od__law_take an__law_take : Option Addr} {sl__law_take : Array (Option Value)}
    {a__law_row : Addr} {oc__law_row kV__law_row dc__law_row pm__law_row cd__law_row ct__law_row : Value} {od__law_row an__law_row : Option Addr} {sl__law_row : Array (Option Value)}
    {a__law_shared : Addr} {oc__law_shared kV__law_shared dc__law_shared pm__law_shared cd__law_shared ct__law_shared : Value} {od__law_shared an__law_shared : Option Addr} {sl__law_shared : Array (Option Value)}
    {a__law_caught : Addr} {oc__law_caught kV__law_caught dc__law_caught pm__law_caught cd__law_caught ct__law_caught : Value} {od__law_caught an__law_caught : Option Addr} {sl__law_caught : Array (Option Value)}
    {a__law_odd_right : Addr} {oc__law_odd_right kV__law_odd_right dc__law_odd_right pm__law_odd_right cd__law_odd_right ct__law_odd_right : Value} {od__law_odd_right an__law_odd_right : Option Addr} {sl__law_odd_right : Array (Option Value)}
    {a_law : Addr} {oc_law kV_law dc_law pm_law cd_law ct_law : Value} {od_law an_law : Option Addr} {sl_law : Array (Option Value)}
    {C_InvalidPart f_InvalidPart N_InvalidPart cda_InvalidPart cc_InvalidPart : Addr} {nm_InvalidPart q_InvalidPart qual_InvalidPart msg_InvalidPart file_InvalidPart : Str} {bs_InvalidPart bm_InvalidPart sub_InvalidPart : List Value} {sn_InvalidPart : List Str} {ab_InvalidPart : Bool} {col_InvalidPart : Option Bool} {dd_InvalidPart od_InvalidPart an_InvalidPart cld_InvalidPart cdd_InvalidPart : Option Addr} {k0_InvalidPart k1_InvalidPart k2_InvalidPart k3_InvalidPart k5_InvalidPart : Option Value} {oc_InvalidPart doc_InvalidPart pm_InvalidPart ct_InvalidPart cl_InvalidPart ccl_InvalidPart : Value} {osl_InvalidPart csl_InvalidPart ccs_InvalidPart : Array (Option Value)} {vs_InvalidPart : Array Value} {tf_InvalidPart : Tok} {j_InvalidPart : Nat} {p1_InvalidPart p2_InvalidPart d1_InvalidPart d2_InvalidPart d3_InvalidPart d4_InvalidPart d5_InvalidPart d6_InvalidPart q1_InvalidPart q2_InvalidPart q3_InvalidPart q4_InvalidPart : Pos}
    (x_is_list : PySem.W.nsIn K mainGlobals "is_list" = some (some (.ref a_is_list))) (l_is_list : K.lookup a_is_list = some ⟨oc_is_list, od_is_list, .func (PySem.W.fnOf "is_list" "is_list" (defArgs s_is_list) (defBody s_is_list) (defScope s_is_list) .none kV_is_list dc_is_list pm_is_list an_is_list cd_is_list ct_is_list), sl_is_list⟩) (c_is_list : PySem.W.codeIn K cd_is_list "is_list" = true) (k_is_list : PySem.W.keepIn K (.ref a_is_list) = true)
    (x_is_whole : PySem.W.nsIn K mainGlobals "is_whole" = some (some (.ref a_is_whole))) (l_is_whole : K.lookup a_is_whole = some ⟨oc_is_whole, od_is_whole, .func (PySem.W.fnOf "is_whole" "is_whole" (defArgs s_is_whole) (defBody s_is_whole) (defScope s_is_whole) .none kV_is_whole dc_is_whole pm_is_whole an_is_whole cd_is_whole ct_is_whole), sl_is_whole⟩) (c_is_whole : PySem.W.codeIn K cd_is_whole "is_whole" = true) (k_is_whole : PySem.W.keepIn K (.ref a_is_whole) = true)
    (x_is_whole_list : PySem.W.nsIn K mainGlobals "is_whole_list" = some (some (.ref a_is_whole_list))) (l_is_whole_list : K.lookup a_is_whole_list = some ⟨oc_is_whole_list, od_is_whole_list, .func (PySem.W.fnOf "is_whole_list" "is_whole_list" (defArgs s_is_whole_list) (defBody s_is_whole_list) (defScope s_is_whole_list) .none kV_is_whole_list dc_is_whole_list pm_is_whole_list an_is_whole_list cd_is_whole_list ct_is_whole_list), sl_is_whole_list⟩) (c_is_whole_list : PySem.W.codeIn K cd_is_whole_list "is_whole_list" = true) (k_is_whole_list : PySem.W.keepIn K (.ref a_is_whole_list) = true)
    (x_scaled : PySem.W.nsIn K mainGlobals "scaled" = some (some (.ref a_scaled))) (l_scaled : K.lookup a_scaled = some ⟨oc_scaled, od_scaled, .func (PySem.W.fnOf "scaled" "scaled" (defArgs s_scaled) (defBody s_scaled) (defScope s_scaled) .none kV_scaled dc_scaled pm_scaled an_scaled cd_scaled ct_scaled), sl_scaled⟩) (c_scaled : PySem.W.codeIn K cd_scaled "scaled" = true) (k_scaled : PySem.W.keepIn K (.ref a_scaled) = true)
    (x_weighed : PySem.W.nsIn K mainGlobals "weighed" = some (some (.ref a_weighed))) (l_weighed : K.lookup a_weighed = some ⟨oc_weighed, od_weighed, .func (PySem.W.fnOf "weighed" "weighed" (defArgs s_weighed) (defBody s_weighed) (defScope s_weighed) .none kV_weighed dc_weighed pm_weighed an_weighed cd_weighed ct_weighed), sl_weighed⟩) (c_weighed : PySem.W.codeIn K cd_weighed "weighed" = true) (k_weighed : PySem.W.keepIn K (.ref a_weighed) = true)
    (x_price : PySem.W.nsIn K mainGlobals "price" = some (some (.ref a_price))) (l_price : K.lookup a_price = some ⟨oc_price, od_price, .func (PySem.W.fnOf "price" "price" (defArgs s_price) (defBody s_price) (defScope s_price) .none kV_price dc_price pm_price an_price cd_price ct_price), sl_price⟩) (c_price : PySem.W.codeIn K cd_price "price" = true) (k_price : PySem.W.keepIn K (.ref a_price) = true)
    (x__law_cell : PySem.W.nsIn K mainGlobals "_law_cell" = some (some (.ref a__law_cell))) (l__law_cell : K.lookup a__law_cell = some ⟨oc__law_cell, od__law_cell, .func (PySem.W.fnOf "_law_cell" "_law_cell" (defArgs s__law_cell) (defBody s__law_cell) (defScope s__law_cell) .none kV__law_cell dc__law_cell pm__law_cell an__law_cell cd__law_cell ct__law_cell), sl__law_cell⟩) (c__law_cell : PySem.W.codeIn K cd__law_cell "_law_cell" = true) (k__law_cell : PySem.W.keepIn K (.ref a__law_cell) = true)
    (x__law_box : PySem.W.nsIn K mainGlobals "_law_box" = some (some (.ref a__law_box))) (l__law_box : K.lookup a__law_box = some ⟨oc__law_box, od__law_box, .func (PySem.W.fnOf "_law_box" "_law_box" (defArgs s__law_box) (defBody s__law_box) (defScope s__law_box) .none kV__law_box dc__law_box pm__law_box an__law_box cd__law_box ct__law_box), sl__law_box⟩) (c__law_box : PySem.W.codeIn K cd__law_box "_law_box" = true) (k__law_box : PySem.W.keepIn K (.ref a__law_box) = true)
    (x__law_take : PySem.W.nsIn K mainGlobals "_law_take" = some (some (.ref a__law_take))) (l__law_take : K.lookup a__law_take = some ⟨oc__law_take, od__law_take, .func (PySem.W.fnOf "_law_take" "_law_take" (defArgs s__law_take) (defBody s__law_take) (defScope s__law_take) .none kV__law_take dc__law_take pm__law_take an__law_take cd__law_take ct__law_take), sl__law_take⟩) (c__law_take : PySem.W.codeIn K cd__law_take "_law_take" = true) (k__law_take : PySem.W.keepIn K (.ref a__law_take) = true)
    (x__law_row : PySem.W.nsIn K mainGlobals "_law_row" = some (some (.ref a__law_row))) (l__law_row : K.lookup a__law_row = some ⟨oc__law_row, od__law_row, .func (PySem.W.fnOf "_law_row" "_law_row" (defArgs s__law_row) (defBody s__law_row) (defScope s__law_row) .none kV__law_row dc__law_row pm__law_row an__law_row cd__law_row ct__law_row), sl__law_row⟩) (c__law_row : PySem.W.codeIn K cd__law_row "_law_row" = true) (k__law_row : PySem.W.keepIn K (.ref a__law_row) = true)
    (x__law_shared : PySem.W.nsIn K mainGlobals "_law_shared" = some (some (.ref a__law_shared))) (l__law_shared : K.lookup a__law_shared = some ⟨oc__law_shared, od__law_shared, .func (PySem.W.fnOf "_law_shared" "_law_shared" (defArgs s__law_shared) (defBody s__law_shared) (defScope s__law_shared) .none kV__law_shared dc__law_shared pm__law_shared an__law_shared cd__law_shared ct__law_shared), sl__law_shared⟩) (c__law_shared : PySem.W.codeIn K cd__law_shared "_law_shared" = true) (k__law_shared : PySem.W.keepIn K (.ref a__law_shared) = true)
    (x__law_caught : PySem.W.nsIn K mainGlobals "_law_caught" = some (some (.ref a__law_caught))) (l__law_caught : K.lookup a__law_caught = some ⟨oc__law_caught, od__law_caught, .func (PySem.W.fnOf "_law_caught" "_law_caught" (defArgs s__law_caught) (defBody s__law_caught) (defScope s__law_caught) .none kV__law_caught dc__law_caught pm__law_caught an__law_caught cd__law_caught ct__law_caught), sl__law_caught⟩) (c__law_caught : PySem.W.codeIn K cd__law_caught "_law_caught" = true) (k__law_caught : PySem.W.keepIn K (.ref a__law_caught) = true)
    (x__law_odd_right : PySem.W.nsIn K mainGlobals "_law_odd_right" = some (some (.ref a__law_odd_right))) (l__law_odd_right : K.lookup a__law_odd_right = some ⟨oc__law_odd_right, od__law_odd_right, .func (PySem.W.fnOf "_law_odd_right" "_law_odd_right" (defArgs s__law_odd_right) (defBody s__law_odd_right) (defScope s__law_odd_right) .none kV__law_odd_right dc__law_odd_right pm__law_odd_right an__law_odd_right cd__law_odd_right ct__law_odd_right), sl__law_odd_right⟩) (c__law_odd_right : PySem.W.codeIn K cd__law_odd_right "_law_odd_right" = true) (k__law_odd_right : PySem.W.keepIn K (.ref a__law_odd_right) = true)
    (x_law : PySem.W.nsIn K mainGlobals "law" = some (some (.ref a_law))) (l_law : K.lookup a_law = some ⟨oc_law, od_law, .func (PySem.W.fnOf "law" "law" (defArgs s_law) (defBody s_law) (defScope s_law) .none kV_law dc_law pm_law an_law cd_law ct_law), sl_law⟩) (c_law : PySem.W.codeIn K cd_law "law" = true) (k_law : PySem.W.keepIn K (.ref a_law) = true)
    (a1_InvalidPart : PySem.W.nsIn K mainGlobals "InvalidPart" = some (some (.ref C_InvalidPart)))
    (a2_InvalidPart : PySem.W.findIn K (.ref C_InvalidPart) "__init__" = some (some (.ref f_InvalidPart)))
    (b1_InvalidPart : K.lookup C_InvalidPart = some (PySem.excClassObj nm_InvalidPart q_InvalidPart C_InvalidPart N_InvalidPart bs_InvalidPart bm_InvalidPart true sn_InvalidPart sub_InvalidPart ab_InvalidPart col_InvalidPart dd_InvalidPart k0_InvalidPart k1_InvalidPart k2_InvalidPart k3_InvalidPart k5_InvalidPart "ValueError.__new__"))
    (b2_InvalidPart : PySem.W.excTail [.type "ValueError", .type "Exception", .type "BaseException", .type "object"] bm_InvalidPart = true)
    (b3_InvalidPart : PySem.W.findIn K (.ref C_InvalidPart) "__setattr__" = some (some (.builtin "object.__setattr__")))
    (b4_InvalidPart : PySem.W.findIn K (.ref C_InvalidPart) "__getattribute__" = some (some (.builtin "BaseException.__getattribute__")))
    (b5_InvalidPart : PySem.W.findIn K (.ref C_InvalidPart) "__getattr__" = some none)
    (b6_InvalidPart : PySem.W.findIn K (.ref C_InvalidPart) "value" = some none)
    (b7_InvalidPart : PySem.W.typeIn K (.ref f_InvalidPart) = some (.type "function"))
    (b8_InvalidPart : PySem.W.keepIn K (.ref C_InvalidPart) = true)
    (b9_InvalidPart : PySem.W.subIn K (.ref C_InvalidPart) (.type "BaseException") = some true)
    (c1_InvalidPart : PySem.W.typeIn K (.ref C_InvalidPart) = some (.type "type"))
    (c2_InvalidPart : PySem.W.hasDictIn K C_InvalidPart = true)
    (c3_InvalidPart : PySem.W.subIn K (.ref C_InvalidPart) (.type "ValueError") = some true)
    (c4_InvalidPart : PySem.W.mroIn K C_InvalidPart (.ref C_InvalidPart) = some true)
    (c5_InvalidPart : PySem.W.nsIn K cStatics "thirdparty.any" = some none)
    (c6_InvalidPart : PySem.W.ks_superIn K C_InvalidPart C_InvalidPart "__init__" = some (some (.builtin "ValueError.__init__")))
    (c7_InvalidPart : PySem.W.isClsIn K C_InvalidPart = true)
    (c8_InvalidPart : PySem.W.subIn K (.ref C_InvalidPart) (.ref C_InvalidPart) = some true)
    (e1_InvalidPart : K.lookup f_InvalidPart = some ⟨oc_InvalidPart, od_InvalidPart, .func (PySem.W.ksFn "__init__" qual_InvalidPart (XO.iA "value" p1_InvalidPart p2_InvalidPart) (XO.iB "value" msg_InvalidPart j_InvalidPart d1_InvalidPart d2_InvalidPart d3_InvalidPart d4_InvalidPart d5_InvalidPart d6_InvalidPart q1_InvalidPart q2_InvalidPart q3_InvalidPart q4_InvalidPart) (XO.iS "value") .none .none doc_InvalidPart pm_InvalidPart an_InvalidPart (.ref cda_InvalidPart) ct_InvalidPart cc_InvalidPart), osl_InvalidPart⟩)
    (e2_InvalidPart : PySem.W.codeIn K (.ref cda_InvalidPart) qual_InvalidPart = true)
    (e3_InvalidPart : K.lookup cc_InvalidPart = some ⟨cl_InvalidPart, cld_InvalidPart, .cell (some (.ref C_InvalidPart)), csl_InvalidPart⟩)
    (e4_InvalidPart : K.lookup cda_InvalidPart = some ⟨ccl_InvalidPart, cdd_InvalidPart, .fields vs_InvalidPart, ccs_InvalidPart⟩)
    (e5_InvalidPart : vs_InvalidPart[2]? = some (.str file_InvalidPart tf_InvalidPart))
    (e6_InvalidPart : (P.main.file == file_InvalidPart) = true)
    (e7_InvalidPart : (d3_InvalidPart.endLine == d5_InvalidPart.line) = true)
    (sup_top : (P.main.scope.names.lookup ("super" : Str)).isSome = false)
    (z_super : PySem.W.nsIn K mainGlobals "super" = some none)
    (g_gcd : PySem.W.nsIn K mainGlobals "gcd" = some (some (.builtin "math.gcd")))
    (z_abs : PySem.W.nsIn K mainGlobals "abs" = some none) (z_all : PySem.W.nsIn K mainGlobals "all" = some none) (z_bool : PySem.W.nsIn K mainGlobals "bool" = some none) (z_int : PySem.W.nsIn K mainGlobals "int" = some none) (z_isinstance : PySem.W.nsIn K mainGlobals "isinstance" = some none) (z_len : PySem.W.nsIn K mainGlobals "len" = some none) (z_list : PySem.W.nsIn K mainGlobals "list" = some none) (z_max : PySem.W.nsIn K mainGlobals "max" = some none) (z_min : PySem.W.nsIn K mainGlobals "min" = some none) (z_range : PySem.W.nsIn K mainGlobals "range" = some none) (z_repr : PySem.W.nsIn K mainGlobals "repr" = some none) (z_sum : PySem.W.nsIn K mainGlobals "sum" = some none) (z_tuple : PySem.W.nsIn K mainGlobals "tuple" = some none) (z_zip : PySem.W.nsIn K mainGlobals "zip" = some none)  :
    ∃ fd : FuncData, (∀ (s : Shared) (u : Value), BindsTo s fd ⟨[u], []⟩ [("_law_script", u)]) ∧ ∀ base : Heap, K.In base → base.Ns mainGlobals mg → FnG P w K mg base CX0 6 fa fd ["_law_script"] (spD K mg (lawFn 63)) := by
  have e := hfa.symm.trans (PySem.W.mg_of X G x_law)
  cases e
  have T : Txt mg := { z_abs := PySem.W.mg_none_of X G z_abs, z_all := PySem.W.mg_none_of X G z_all, z_bool := PySem.W.mg_none_of X G z_bool, z_int := PySem.W.mg_none_of X G z_int, z_isinstance := PySem.W.mg_none_of X G z_isinstance, z_len := PySem.W.mg_none_of X G z_len, z_list := PySem.W.mg_none_of X G z_list, z_max := PySem.W.mg_none_of X G z_max, z_min := PySem.W.mg_none_of X G z_min, z_range := PySem.W.mg_none_of X G z_range, z_repr := PySem.W.mg_none_of X G z_repr, z_sum := PySem.W.mg_none_of X G z_sum, z_tuple := PySem.W.mg_none_of X G z_tuple, z_zip := PySem.W.mg_none_of X G z_zip, g_gcd := PySem.W.mg_of X G g_gcd }
  have XC_InvalidPart : XC P K mg "InvalidPart" "value" := xc_mk X G XO.base_ValueError XO.bind_value ⟨by decide, by decide, by decide, by decide, by decide⟩ a1_InvalidPart a2_InvalidPart b1_InvalidPart b2_InvalidPart b3_InvalidPart b4_InvalidPart b5_InvalidPart b6_InvalidPart b7_InvalidPart b8_InvalidPart b9_InvalidPart c1_InvalidPart c2_InvalidPart c3_InvalidPart c4_InvalidPart c5_InvalidPart c6_InvalidPart c7_InvalidPart c8_InvalidPart e1_InvalidPart e2_InvalidPart e3_InvalidPart e4_InvalidPart e5_InvalidPart e6_InvalidPart e7_InvalidPart
  have SU : Sup P mg := ⟨PySem.W.mg_none_of X G z_super, sup_top⟩
  have FA_is_list : FunAt K mg "is_list" "is_list" s_is_list ["value"] := at_mk X G x_is_list l_is_list c_is_list k_is_list fun _ _ _ _ _ _ us hl => match us, hl with | [_], _ => rfl
  have FA_is_whole : FunAt K mg "is_whole" "is_whole" s_is_whole ["value"] := at_mk X G x_is_whole l_is_whole c_is_whole k_is_whole fun _ _ _ _ _ _ us hl => match us, hl with | [_], _ => rfl
  have FA_is_whole_list : FunAt K mg "is_whole_list" "is_whole_list" s_is_whole_list ["value"] := at_mk X G x_is_whole_list l_is_whole_list c_is_whole_list k_is_whole_list fun _ _ _ _ _ _ us hl => match us, hl with | [_], _ => rfl
  have FA_scaled : FunAt K mg "scaled" "scaled" s_scaled ["numbers"] := at_mk X G x_scaled l_scaled c_scaled k_scaled fun _ _ _ _ _ _ us hl => match us, hl with | [_], _ => rfl
  have FA_weighed : FunAt K mg "weighed" "weighed" s_weighed ["counts", "numbers"] := at_mk X G x_weighed l_weighed c_weighed k_weighed fun _ _ _ _ _ _ us hl => match us, hl with | [_, _], _ => rfl
  have FA_price : FunAt K mg "price" "price" s_price ["counts", "numbers"] := at_mk X G x_price l_price c_price k_price fun _ _ _ _ _ _ us hl => match us, hl with | [_, _], _ => rfl
  have FA__law_cell : FunAt K mg "_law_cell" "_law_cell" s__law_cell ["_law_script", "_law_k"] := at_mk X G x__law_cell l__law_cell c__law_cell k__law_cell fun _ _ _ _ _ _ us hl => match us, hl with | [_, _], _ => rfl
  have FA__law_box : FunAt K mg "_law_box" "_law_box" s__law_box ["_law_cell_here"] := at_mk X G x__law_box l__law_box c__law_box k__law_box fun _ _ _ _ _ _ us hl => match us, hl with | [_], _ => rfl
  have FA__law_take : FunAt K mg "_law_take" "_law_take" s__law_take ["_law_box_here", "_law_many"] := at_mk X G x__law_take l__law_take c__law_take k__law_take fun _ _ _ _ _ _ us hl => match us, hl with | [_, _], _ => rfl
  have FA__law_row : FunAt K mg "_law_row" "_law_row" s__law_row ["_law_box_here", "_law_many"] := at_mk X G x__law_row l__law_row c__law_row k__law_row fun _ _ _ _ _ _ us hl => match us, hl with | [_, _], _ => rfl
  have FA__law_shared : FunAt K mg "_law_shared" "_law_shared" s__law_shared ["_law_row_here"] := at_mk X G x__law_shared l__law_shared c__law_shared k__law_shared fun _ _ _ _ _ _ us hl => match us, hl with | [_], _ => rfl
  have FA__law_caught : FunAt K mg "_law_caught" "_law_caught" s__law_caught ["_law_way", "_law_one", "_law_other"] := at_mk X G x__law_caught l__law_caught c__law_caught k__law_caught fun _ _ _ _ _ _ us hl => match us, hl with | [_, _, _], _ => rfl
  have FA__law_odd_right : FunAt K mg "_law_odd_right" "_law_odd_right" s__law_odd_right [] := at_mk X G x__law_odd_right l__law_odd_right c__law_odd_right k__law_odd_right fun _ _ _ _ _ _ us hl => match us, hl with | [], _ => rfl
  refine ⟨PySem.W.fnOf "law" "law" (defArgs s_law) (defBody s_law) (defScope s_law) .none kV_law dc_law pm_law an_law cd_law ct_law, fun s u => .of_eq rfl, fun base _ _ => ?_⟩
  have h_is_list := ok_is_list (P := P) (w := w) (base := base) T FA_is_list 
  have h_is_whole := ok_is_whole (P := P) (w := w) (base := base) T FA_is_whole 
  have h_is_whole_list := ok_is_whole_list (P := P) (w := w) (base := base) T FA_is_whole_list h_is_list h_is_whole
  have h_scaled := ok_scaled (P := P) (w := w) (base := base) T FA_scaled SU XC_InvalidPart h_is_whole_list
  have h_weighed := ok_weighed (P := P) (w := w) (base := base) T FA_weighed 
  have h_price := ok_price (P := P) (w := w) (base := base) T FA_price SU XC_InvalidPart h_is_whole_list h_weighed
  have h__law_cell := ok__law_cell (P := P) (w := w) (base := base) T FA__law_cell 
  have h__law_box := ok__law_box (P := P) (w := w) (base := base) T FA__law_box 
  have h__law_take := ok__law_take (P := P) (w := w) (base := base) T FA__law_take 
  have h__law_row := ok__law_row (P := P) (w := w) (base := base) T FA__law_row h__law_take
  have h__law_shared := ok__law_shared (P := P) (w := w) (base := base) T FA__law_shared 
  have h__law_caught := ok__law_caught (P := P) (w := w) (base := base) T FA__law_caught XC_InvalidPart h_scaled h_price
  have h__law_odd_right := ok__law_odd_right (P := P) (w := w) (base := base) T FA__law_odd_right h__law_caught
  exact law_fn T (fun_mk (st := s_law) l_law c_law k_law) h__law_cell h__law_box h__law_take h__law_row h__law_shared h_scaled h_price h__law_caught h__law_odd_right
end DL
open PySem PySem.W PyProof.Rows in
set_option maxRecDepth 100000 in
set_option maxHeartbeats 0 in
theorem PySem.Challenge.cw_seenchoices_k03_integers_scaled_holds : PySem.Challenge.rw_seenchoices_k03_integers_scaled.Holds := by
  w_on; o_law; k_head; (case hw => w_witness2)
  k_fill
  refine DL.the_end (l := PySem.Challenge.rw_seenchoices_k03_integers_scaled) (n := 63) (k := 6) (x := "_law_script") rfl (by decide) rfl ⟨rfl, by decide, by decide⟩ (fun w h Y => PySem.W.kIn_of Y) ?F
  case F =>
    intro w mg fa h KX G hmg
    refine' DL.all_mk KX G hmg ?x_is_list ?l_is_list ?c_is_list ?k_is_list ?x_is_whole ?l_is_whole ?c_is_whole ?k_is_whole ?x_is_whole_list ?l_is_whole_list ?c_is_whole_list ?k_is_whole_list ?x_scaled ?l_scaled ?c_scaled ?k_scaled ?x_weighed ?l_weighed ?c_weighed ?k_weighed ?x_price ?l_price ?c_price ?k_price ?x__law_cell ?l__law_cell ?c__law_cell ?k__law_cell ?x__law_box ?l__law_box ?c__law_box ?k__law_box ?x__law_take ?l__law_take ?c__law_take ?k__law_take ?x__law_row ?l__law_row ?c__law_row ?k__law_row ?x__law_shared ?l__law_shared ?c__law_shared ?k__law_shared ?x__law_caught ?l__law_caught ?c__law_caught ?k__law_caught ?x__law_odd_right ?l__law_odd_right ?c__law_odd_right ?k__law_odd_right ?x_law ?l_law ?c_law ?k_law ?a1_InvalidPart ?a2_InvalidPart ?b1_InvalidPart ?b2_InvalidPart ?b3_InvalidPart ?b4_InvalidPart ?b5_InvalidPart ?b6_InvalidPart ?b7_InvalidPart ?b8_InvalidPart ?b9_InvalidPart ?c1_InvalidPart ?c2_InvalidPart ?c3_InvalidPart ?c4_InvalidPart ?c5_InvalidPart ?c6_InvalidPart ?c7_InvalidPart ?c8_InvalidPart ?e1_InvalidPart ?e2_InvalidPart ?e3_InvalidPart ?e4_InvalidPart ?e5_InvalidPart ?e6_InvalidPart ?e7_InvalidPart ?sup_top ?z_super ?g_gcd ?z_abs ?z_all ?z_bool ?z_int ?z_isinstance ?z_len ?z_list ?z_max ?z_min ?z_range ?z_repr ?z_sum ?z_tuple ?z_zip 
    (case x_is_list => k_is); (case l_is_list => k_is); (case c_is_list => k_is); (case k_is_list => k_is)
    (case x_is_whole => k_is); (case l_is_whole => k_is); (case c_is_whole => k_is); (case k_is_whole => k_is)
    (case x_is_whole_list => k_is); (case l_is_whole_list => k_is); (case c_is_whole_list => k_is); (case k_is_whole_list => k_is)
    (case x_scaled => k_is); (case l_scaled => k_is); (case c_scaled => k_is); (case k_scaled => k_is)
    (case x_weighed => k_is); (case l_weighed => k_is); (case c_weighed => k_is); (case k_weighed => k_is)
    (case x_price => k_is); (case l_price => k_is); (case c_price => k_is); (case k_price => k_is)
    (case x__law_cell => k_is); (case l__law_cell => k_is); (case c__law_cell => k_is); (case k__law_cell => k_is)
    (case x__law_box => k_is); (case l__law_box => k_is); (case c__law_box => k_is); (case k__law_box => k_is)
    (case x__law_take => k_is); (case l__law_take => k_is); (case c__law_take => k_is); (case k__law_take => k_is)
    (case x__law_row => k_is); (case l__law_row => k_is); (case c__law_row => k_is); (case k__law_row => k_is)
    (case x__law_shared => k_is); (case l__law_shared => k_is); (case c__law_shared => k_is); (case k__law_shared => k_is)
    (case x__law_caught => k_is); (case l__law_caught => k_is); (case c__law_caught => k_is); (case k__law_caught => k_is)
    (case x__law_odd_right => k_is); (case l__law_odd_right => k_is); (case c__law_odd_right => k_is); (case k__law_odd_right => k_is)
    (case x_law => k_is); (case l_law => k_is); (case c_law => k_is); (case k_law => k_is)
    (case a1_InvalidPart => k_is)
    (case a2_InvalidPart => k_is)
    (case b1_InvalidPart => k_is)
    (case b2_InvalidPart => decide +kernel)
    (case b3_InvalidPart => k_is)
    (case b4_InvalidPart => k_is)
    (case b5_InvalidPart => k_is)
    (case b6_InvalidPart => k_is)
    (case b7_InvalidPart => k_is)
    (case b8_InvalidPart => k_is)
    (case b9_InvalidPart => k_is)
    (case c1_InvalidPart => k_is)
    (case c2_InvalidPart => k_is)
    (case c3_InvalidPart => k_is)
    (case c4_InvalidPart => k_is)
    (case c5_InvalidPart => k_is)
    (case c6_InvalidPart => ks_is)
    (case c7_InvalidPart => k_is)
    (case c8_InvalidPart => k_is)
    (case e1_InvalidPart => k_is)
    (case e2_InvalidPart => k_is)
    (case e3_InvalidPart => k_is)
    (case e4_InvalidPart => k_is)
    (case e5_InvalidPart => rfl)
    (case e6_InvalidPart => first | rfl | decide +kernel)
    (case e7_InvalidPart => rfl)
    (case sup_top => first | rfl | decide +kernel)
    (case z_super => k_is)
    (case g_gcd => k_is)
    (case z_abs => k_is)
    (case z_all => k_is)
    (case z_bool => k_is)
    (case z_int => k_is)
    (case z_isinstance => k_is)
    (case z_len => k_is)
    (case z_list => k_is)
    (case z_max => k_is)
    (case z_min => k_is)
    (case z_range => k_is)
    (case z_repr => k_is)
    (case z_sum => k_is)
    (case z_tuple => k_is)
    (case z_zip => k_is)

#print axioms PySem.Challenge.cw_seenchoices_k03_integers_scaled_holds
