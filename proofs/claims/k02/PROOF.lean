import PyProof.Rows.All
import Wide.All
import OpenK.AllK
import Wide.FinOn
import PyProof.ReprRoads
import HandS.ForMost
import HandS.Walk
import HandS.IsInst
import HandS.Wide
import HandS.WideBits
import HandS.TupAny
import HandS.Evl
import HandS.StrMore
import PySem.Challenge.RW_seenchoices_k02_words_and_names
set_option Elab.async false
set_option linter.all false
set_option maxRecDepth 100000
set_option maxHeartbeats 4000000
/-! DL: readings at the level of data. A value of the heap bears a datum (Rp); an expression's rule tells, of data alone, what must hold so that what follows holds. -/
namespace DL
open PySem L2
open Evl (Ex)

/-- data -/
inductive D where
  | non | bl (b : Bool) | int (i : Int) | str (x : Str) | ty (n : String)
  | lst (ds : List D) | tup (ds : List D) | dct (ks : List Key) (ds : List D)
  | scr (ns : List Int) | box (a : Addr) | obj (n : Str) (ks : List Str) (ds : List D)

abbrev Fg := PySem.W.Frag
mutual
/-- at the heap G the value bears the datum -/
inductive Rp (K : Fg) (G : Hp) : V → D → Prop
  | non : Rp K G .non .non
  | bl (b : Bool) : Rp K G (.bl b) (.bl b)
  | int (i : Int) : Rp K G (.int i) (.int i)
  | str (x : Str) : Rp K G (.str x) (.str x)
  | ty (n : String) : Rp K G (.ty n) (.ty n)
  | lst {a : Addr} {xs : List V} {ds : List D} : G a = some (.lst xs) → RpA K G xs ds → Rp K G (.ref a) (.lst ds)
  | tup {a : Addr} {xs : List V} {ds : List D} : SqT K G a xs → RpA K G xs ds → Rp K G (.ref a) (.tup ds)
  | dct {a : Addr} {kvs : List (Key × V)} {ks : List Key} {vs : List V} {ds : List D} : G a = some (.dK kvs) → kvs.map (·.1) = ks → kvs.map (·.2) = vs → RpA K G vs ds → Rp K G (.ref a) (.dct ks ds)
  | scr {a : Addr} {ns : List Int} : SqL K G a (ns.map V.int) → Rp K G (.ref a) (.scr ns)
  | box (a : Addr) : Rp K G (.ref a) (.box a)
  | obj {a C dx : Addr} {fs : List (Str × V)} {n : Str} {ks : List Str} {vs : List V} {ds : List D} : PySem.W.nsIn K mainGlobals n = some (some (.ref C)) → G a = some (.ins C dx fs) → fs.map (·.1) = ks → fs.map (·.2) = vs → RpA K G vs ds → Rp K G (.ref a) (.obj n ks ds)
inductive RpA (K : Fg) (G : Hp) : List V → List D → Prop
  | nil : RpA K G [] []
  | cons {v : V} {d : D} {vs : List V} {ds : List D} : Rp K G v d → RpA K G vs ds → RpA K G (v :: vs) (d :: ds)
end
section
variable {K : Fg} {G G' : Hp}
mutual
theorem Rp.mono (e : Ex G G') : ∀ {v : V} {d : D}, Rp K G v d → Rp K G' v d
  | _, _, .non => .non
  | _, _, .bl b => .bl b
  | _, _, .int i => .int i
  | _, _, .str x => .str x
  | _, _, .ty n => .ty n
  | _, _, .lst h r => .lst (e _ _ h) (RpA.mono e r)
  | _, _, .tup h r => .tup (Evl.ex_t e h) (RpA.mono e r)
  | _, _, .dct h a b r => .dct (e _ _ h) a b (RpA.mono e r)
  | _, _, .scr h => .scr (Evl.ex_l e h)
  | _, _, .box a => .box a
  | _, _, .obj k h a b r => .obj k (e _ _ h) a b (RpA.mono e r)
theorem RpA.mono (e : Ex G G') : ∀ {vs : List V} {ds : List D}, RpA K G vs ds → RpA K G' vs ds
  | _, _, .nil => .nil
  | _, _, .cons r t => .cons (Rp.mono e r) (RpA.mono e t)
end
theorem RpA.len : ∀ {vs : List V} {ds : List D}, RpA K G vs ds → vs.length = ds.length
  | _, _, .nil => rfl
  | _, _, .cons _ t => by rw [List.length_cons, List.length_cons, RpA.len t]
theorem RpA.at : ∀ {vs : List V} {ds : List D} {i : Nat} {d : D}, RpA K G vs ds → ds[i]? = some d → ∃ v, vs[i]? = some v ∧ Rp K G v d
  | _, _, _, _, .nil, e => by simp at e
  | _, _, 0, _, .cons r _, e => by simp at e; subst e; exact ⟨_, rfl, r⟩
  | _, _, i + 1, d, .cons _ t, e => by
    obtain ⟨v, h1, h2⟩ := RpA.at (i := i) (d := d) t (by simpa using e)
    exact ⟨v, by simpa using h1, h2⟩
theorem RpA.app : ∀ {vs ws : List V} {ds es : List D}, RpA K G vs ds → RpA K G ws es → RpA K G (vs ++ ws) (ds ++ es)
  | _, _, _, _, .nil, s => s
  | _, _, _, _, .cons r t, s => .cons r (RpA.app t s)
theorem RpA.set {v : V} {d : D} (r : Rp K G v d) : ∀ {vs : List V} {ds : List D} (i : Nat), RpA K G vs ds → RpA K G (vs.set i v) (ds.set i d)
  | _, _, _, .nil => .nil
  | _, _, 0, .cons _ t => .cons r t
  | _, _, i + 1, .cons q t => .cons q (RpA.set r i t)
theorem RpA.drop : ∀ {vs : List V} {ds : List D} (n : Nat), RpA K G vs ds → RpA K G (vs.drop n) (ds.drop n)
  | _, _, 0, r => r
  | _, _, _ + 1, .nil => .nil
  | _, _, n + 1, .cons _ t => RpA.drop n t
theorem RpA.take : ∀ {vs : List V} {ds : List D} (n : Nat), RpA K G vs ds → RpA K G (vs.take n) (ds.take n)
  | _, _, 0, _ => .nil
  | _, _, _ + 1, .nil => .nil
  | _, _, n + 1, .cons r t => .cons r (RpA.take n t)
theorem RpA.rep : ∀ {vs : List V} {ds : List D} (n : Nat), RpA K G vs ds → RpA K G (List.replicate n vs).flatten (List.replicate n ds).flatten
  | _, _, 0, _ => .nil
  | vs, ds, n + 1, r => by
    rw [List.replicate_succ, List.replicate_succ, List.flatten_cons, List.flatten_cons]
    exact r.app (RpA.rep n r)
end

/-! ### the world: G stands for good, mu is owned (lists that may change), F is the frame -/
abbrev Mem := Addr → Option (List D)
def Mem.up (m : Mem) (a : Addr) (ds : List D) : Mem := fun b => if b = a then some ds else m b
theorem Mem.up_same {m : Mem} {a : Addr} {ds : List D} : m.up a ds a = some ds := if_pos rfl
theorem Mem.up_ne {m : Mem} {a b : Addr} {ds : List D} (h : b ≠ a) : m.up a ds b = m b := if_neg h
theorem Mem.up_up {m : Mem} {a : Addr} {ds es : List D} : (m.up a ds).up a es = m.up a es := by
  funext b; unfold Mem.up; split <;> rfl
structure Wd (K : Fg) (G : Hp) (m : Mem) (F : Hp) (H : Hp) : Prop where
  ex : Ex G H
  own : ∀ a ds, m a = some ds → G a = none ∧ F a = none ∧ ∃ xs, H a = some (.lst xs) ∧ RpA K G xs ds
  fr : ∀ a o, F a = some o → H a = some o
  frG : ∀ a o, F a = some o → G a = none
section
variable {K : Fg} {G G' : Hp} {m : Mem} {F H : Hp}
theorem Wd.fresh (W : Wd K G m F H) {p : Addr} (hp : H p = none) : G p = none ∧ m p = none ∧ F p = none := by
  refine ⟨?_, ?_, ?_⟩
  · cases e : G p with
    | none => rfl
    | some o => rw [W.ex p o e] at hp; cases hp
  · cases e : m p with
    | none => rfl
    | some ds =>
      obtain ⟨_, _, xs, h, _⟩ := W.own p ds e
      rw [h] at hp; cases hp
  · cases e : F p with
    | none => rfl
    | some o => rw [W.fr p o e] at hp; cases hp
/-- a new object that stands for good -/
theorem Wd.new (W : Wd K G m F H) {p : Addr} (hp : H p = none) (o : HO) : Ex G (upd G p o) ∧ Wd K (upd G p o) m F (upd H p o) := by
  obtain ⟨hG, hm, hF⟩ := W.fresh hp
  have e : Ex G (upd G p o) := Ex.new hG
  refine ⟨e, fun a u h => ?_, fun a ds h => ?_, fun a u h => ?_, fun a u h => ?_⟩
  · by_cases q : a = p
    · subst q; rw [upd_same] at h ⊢; exact h
    · rw [upd_ne q] at h ⊢; exact W.ex a u h
  · have q : a ≠ p := fun z => by subst z; rw [hm] at h; cases h
    obtain ⟨h1, h2, xs, h3, h4⟩ := W.own a ds h
    exact ⟨by rw [upd_ne q]; exact h1, h2, xs, by rw [upd_ne q]; exact h3, h4.mono e⟩
  · have q : a ≠ p := fun z => by subst z; rw [hF] at h; cases h
    rw [upd_ne q]; exact W.fr a u h
  · have q : a ≠ p := fun z => by subst z; rw [hF] at h; cases h
    rw [upd_ne q]; exact W.frG a u h
/-- a new owned list -/
theorem Wd.newOwn (W : Wd K G m F H) {p : Addr} (hp : H p = none) {xs : List V} {ds : List D} (r : RpA K G xs ds) : m p = none ∧ Wd K G (m.up p ds) F (upd H p (.lst xs)) := by
  obtain ⟨hG, hm, hF⟩ := W.fresh hp
  refine ⟨hm, fun a u h => ?_, fun a es h => ?_, fun a u h => ?_, W.frG⟩
  · have q : a ≠ p := fun z => by subst z; rw [hG] at h; cases h
    rw [upd_ne q]; exact W.ex a u h
  · by_cases q : a = p
    · subst q
      rw [Mem.up_same] at h
      cases h
      exact ⟨hG, hF, xs, upd_same, r⟩
    · rw [Mem.up_ne q] at h
      obtain ⟨h1, h2, ys, h3, h4⟩ := W.own a es h
      exact ⟨h1, h2, ys, by rw [upd_ne q]; exact h3, h4⟩
  · have q : a ≠ p := fun z => by subst z; rw [hF] at h; cases h
    rw [upd_ne q]; exact W.fr a u h
/-- an owned list is changed -/
theorem Wd.put (W : Wd K G m F H) {p : Addr} {ds0 : List D} (hp : m p = some ds0) {xs : List V} {ds : List D} (r : RpA K G xs ds) : Wd K G (m.up p ds) F (upd H p (.lst xs)) := by
  obtain ⟨hG, hF, _⟩ := W.own p ds0 hp
  refine ⟨fun a u h => ?_, fun a es h => ?_, fun a u h => ?_, W.frG⟩
  · have q : a ≠ p := fun z => by subst z; rw [hG] at h; cases h
    rw [upd_ne q]; exact W.ex a u h
  · by_cases q : a = p
    · subst q
      rw [Mem.up_same] at h
      cases h
      exact ⟨hG, hF, xs, upd_same, r⟩
    · rw [Mem.up_ne q] at h
      obtain ⟨h1, h2, ys, h3, h4⟩ := W.own a es h
      exact ⟨h1, h2, ys, by rw [upd_ne q]; exact h3, h4⟩
  · have q : a ≠ p := fun z => by subst z; rw [hF] at h; cases h
    rw [upd_ne q]; exact W.fr a u h
/-- a frame more: one new object -/
theorem Wd.frame (W : Wd K G m F H) {p : Addr} (hp : H p = none) (o : HO) : Wd K G m (upd F p o) (upd H p o) := by
  obtain ⟨hG, hm, hF⟩ := W.fresh hp
  refine ⟨fun a u h => ?_, fun a ds e => ?_, fun a u e => ?_, fun a u e => ?_⟩
  · have q : a ≠ p := fun z => by subst z; rw [hG] at h; cases h
    rw [upd_ne q]; exact W.ex a u h
  · have q : a ≠ p := fun z => by subst z; rw [hm] at e; cases e
    obtain ⟨h1, h2, xs, h3, h4⟩ := W.own a ds e
    exact ⟨h1, by rw [upd_ne q]; exact h2, xs, by rw [upd_ne q]; exact h3, h4⟩
  · by_cases q : a = p
    · subst q; rw [upd_same] at e ⊢; exact e
    · rw [upd_ne q] at e ⊢; exact W.fr a u e
  · by_cases q : a = p
    · subst q; exact hG
    · rw [upd_ne q] at e; exact W.frG a u e
/-- the frame's object is changed -/
theorem Wd.reframe {p : Addr} {o : HO} (W : Wd K G m (upd F p o) H) (o' : HO) : Wd K G m (upd F p o') (upd H p o') := by
  have hG : G p = none := W.frG p o upd_same
  have hm : m p = none := by
    cases e : m p with
    | none => rfl
    | some ds =>
      obtain ⟨_, h, _⟩ := W.own p ds e
      rw [upd_same] at h; cases h
  refine ⟨fun a u h => ?_, fun a ds e => ?_, fun a u e => ?_, fun a u e => ?_⟩
  · have q : a ≠ p := fun z => by subst z; rw [hG] at h; cases h
    rw [upd_ne q]; exact W.ex a u h
  · have q : a ≠ p := fun z => by subst z; rw [hm] at e; cases e
    obtain ⟨h1, h2, xs, h3, h4⟩ := W.own a ds e
    rw [upd_ne q] at h2
    exact ⟨h1, by rw [upd_ne q]; exact h2, xs, by rw [upd_ne q]; exact h3, h4⟩
  · by_cases q : a = p
    · subst q; rw [upd_same] at e ⊢; exact e
    · rw [upd_ne q] at e ⊢
      exact W.fr a u (by rw [upd_ne q]; exact e)
  · by_cases q : a = p
    · subst q; exact hG
    · rw [upd_ne q] at e
      exact W.frG a u (by rw [upd_ne q]; exact e)
/-- the frame's object stands for good from here on -/
theorem Wd.adopt {p : Addr} {o : HO} (W : Wd K G m (upd F p o) H) (hF : F p = none) : Ex G (upd G p o) ∧ Wd K (upd G p o) m F H := by
  have hG : G p = none := W.frG p o upd_same
  have e : Ex G (upd G p o) := Ex.new hG
  refine ⟨e, fun a u h => ?_, fun a ds h => ?_, fun a u h => ?_, fun a u h => ?_⟩
  · by_cases q : a = p
    · subst q; rw [upd_same] at h; cases h; exact W.fr _ _ upd_same
    · rw [upd_ne q] at h; exact W.ex a u h
  · obtain ⟨h1, h2, xs, h3, h4⟩ := W.own a ds h
    have q : a ≠ p := fun z => by subst z; rw [upd_same] at h2; cases h2
    rw [upd_ne q] at h2
    exact ⟨by rw [upd_ne q]; exact h1, h2, xs, h3, h4.mono e⟩
  · have q : a ≠ p := fun z => by subst z; rw [hF] at h; cases h
    exact W.fr a u (by rw [upd_ne q]; exact h)
  · have q : a ≠ p := fun z => by subst z; rw [hF] at h; cases h
    rw [upd_ne q]
    exact W.frG a u (by rw [upd_ne q]; exact h)
end

/-! ### slots -/
abbrev En0 := List (Option D)
inductive En (K : Fg) (G : Hp) : L2.St → En0 → Prop
  | nil : En K G [] []
  | skip {o : Option V} {σ : L2.St} {ρ : En0} : En K G σ ρ → En K G (o :: σ) (none :: ρ)
  | has {v : V} {d : D} {σ : L2.St} {ρ : En0} : Rp K G v d → En K G σ ρ → En K G (some v :: σ) (some d :: ρ)
section
variable {K : Fg} {G G' : Hp}
theorem En.mono (e : Ex G G') : ∀ {σ : L2.St} {ρ : En0}, En K G σ ρ → En K G' σ ρ
  | _, _, .nil => .nil
  | _, _, .skip t => .skip (En.mono e t)
  | _, _, .has r t => .has (r.mono e) (En.mono e t)
theorem En.get : ∀ {σ : L2.St} {ρ : En0} {i : Nat} {d : D}, En K G σ ρ → ρ[i]? = some (some d) → ∃ v, σ[i]? = some (some v) ∧ Rp K G v d
  | _, _, _, _, .nil, e => by simp at e
  | _, _, 0, _, .skip _, e => by simp at e
  | _, _, 0, _, .has r _, e => by simp at e; subst e; exact ⟨_, rfl, r⟩
  | _, _, i + 1, d, .skip t, e => by
    obtain ⟨v, h1, h2⟩ := En.get (i := i) (d := d) t (by simpa using e)
    exact ⟨v, by simpa using h1, h2⟩
  | _, _, i + 1, d, .has _ t, e => by
    obtain ⟨v, h1, h2⟩ := En.get (i := i) (d := d) t (by simpa using e)
    exact ⟨v, by simpa using h1, h2⟩
theorem En.put {v : V} {d : D} (r : Rp K G v d) : ∀ {σ : L2.St} {ρ : En0} (i : Nat), En K G σ ρ → En K G (σ.set i (some v)) (ρ.set i (some d))
  | _, _, _, .nil => .nil
  | _, _, 0, .skip t => .has r t
  | _, _, 0, .has _ t => .has r t
  | _, _, i + 1, .skip t => .skip (En.put r i t)
  | _, _, i + 1, .has q t => .has q (En.put r i t)
theorem En.del : ∀ {σ : L2.St} {ρ : En0} (i : Nat), En K G σ ρ → En K G (σ.set i none) (ρ.set i none)
  | _, _, _, .nil => .nil
  | _, _, 0, .skip t => .skip t
  | _, _, 0, .has _ t => .skip t
  | _, _, i + 1, .skip t => .skip (En.del i t)
  | _, _, i + 1, .has q t => .has q (En.del i t)
def wipeD (ρ : En0) : List Nat → En0
  | [] => ρ
  | v :: vs => (wipeD ρ vs).set v none
theorem En.wipe {σ : L2.St} {ρ : En0} (e : En K G σ ρ) : ∀ vs : List Nat, En K G (L2.wipe σ vs) (wipeD ρ vs)
  | [] => e
  | v :: vs => (En.wipe e vs).del v
theorem En.blank : ∀ (σ : L2.St), En K G σ (List.replicate σ.length Option.none)
  | [] => .nil
  | o :: σ => .skip (En.blank σ)
theorem En.start : ∀ {vs : List V} {ds : List D} (n : Nat), RpA K G vs ds → En K G (vs.map some ++ List.replicate n none) (ds.map some ++ List.replicate n none)
  | _, _, n, .nil => by
    have q := En.blank (K := K) (G := G) (List.replicate n Option.none)
    rw [List.length_replicate] at q
    exact q
  | _, _, n, .cons r t => .has r (En.start n t)
end

/-! ### readings by data -/
/-- an exception: its class's name, its field -/
structure Xn where
  cls : Str
  fld : Str
  val : D
abbrev XQ := Xn → Mem → Prop
abbrev WE := En0 → Mem → (D → Mem → Prop) → XQ → Prop
abbrev WT := En0 → Mem → (Bool → Mem → Prop) → XQ → Prop
abbrev WA := En0 → Mem → (List D → Mem → Prop) → XQ → Prop
abbrev WO := En0 → Mem → (Option Int → Mem → Prop) → XQ → Prop
structure De where
  nx : En0 → Mem → Prop
  rt : D → Mem → Prop
  bk : En0 → Mem → Prop := fun _ _ => False
  ct : En0 → Mem → Prop := fun _ _ => False
  ex : XQ := fun _ _ => False
abbrev WS := De → En0 → Mem → Prop
/-- the exception's own dict bears its field -/
def Xr (K : Fg) (G : Hp) (x : Xn) (d : Option Addr) : Prop := ∃ dd v, d = some dd ∧ G dd = some (.xd [(x.fld, v)]) ∧ Rp K G v x.val
theorem Xr.mono {K : Fg} {G G' : Hp} {x : Xn} {d : Option Addr} (e : Ex G G') (h : Xr K G x d) : Xr K G' x d := by
  obtain ⟨dd, v, h1, h2, h3⟩ := h
  exact ⟨dd, v, h1, e _ _ h2, h3.mono e⟩
/-- a wish about exceptions, by the class's name -/
abbrev Wx := Str → Option Addr → L2.St → Hp → Prop
/-- what is raised is what W wishes -/
def FitX (K : Fg) (W : Wx) (G : Hp) (F : Hp) (Qx : XQ) : Prop := ∀ x m' d σ' G' H', Qx x m' → Ex G G' → Wd K G' m' F H' → Xr K G' x d → W x.cls d σ' H'
theorem FitX.mono {K : Fg} {W : Wx} {G G' : Hp} {F : Hp} {Qx : XQ} (f : FitX K W G F Qx) (e : Ex G G') : FitX K W G' F Qx := fun x m' d σ' G2 H' q e2 => f x m' d σ' G2 H' q (e.trans e2)
def FitE (K : Fg) (G : Hp) (F : Hp) (Q : VK) (Qd : D → Mem → Prop) : Prop := ∀ d m' v G' H', Qd d m' → Ex G G' → Wd K G' m' F H' → Rp K G' v d → Q v H'
def LiftE (K : Fg) (W : Wx) (t : TE) (w : WE) : Prop := ∀ G m F H σ ρ (Q : VK) (Qd : D → Mem → Prop) (Qx : XQ), Wd K G m F H → En K G σ ρ → w ρ m Qd Qx → FitX K W G F Qx → FitE K G F Q Qd → t σ H Q
def LiftT (K : Fg) (W : Wx) (t : TT) (w : WT) : Prop := ∀ G m F H σ ρ (Q : Bool → Hp → Prop) (Qd : Bool → Mem → Prop) (Qx : XQ), Wd K G m F H → En K G σ ρ → w ρ m Qd Qx → FitX K W G F Qx →
  (∀ b m' G' H', Qd b m' → Ex G G' → Wd K G' m' F H' → Q b H') → t σ H Q
def LiftO (K : Fg) (W : Wx) (t : TO) (w : WO) : Prop := ∀ G m F H σ ρ (Q : Option Int → Hp → Prop) (Qd : Option Int → Mem → Prop) (Qx : XQ), Wd K G m F H → En K G σ ρ → w ρ m Qd Qx → FitX K W G F Qx →
  (∀ b m' G' H', Qd b m' → Ex G G' → Wd K G' m' F H' → Q b H') → t σ H Q
def LiftA (K : Fg) (W : Wx) (t : TA) (w : WA) : Prop := ∀ G m F H σ ρ (Q : List V → Hp → Prop) (Qd : List D → Mem → Prop) (Qx : XQ), Wd K G m F H → En K G σ ρ → w ρ m Qd Qx → FitX K W G F Qx →
  (∀ ds m' vs G' H', Qd ds m' → Ex G G' → Wd K G' m' F H' → RpA K G' vs ds → Q vs H') → t σ H Q
structure FitS (K : Fg) (W : Wx) (G : Hp) (F : Hp) (E : De) (S : Ends) : Prop where
  nx : ∀ ρ' m' σ' G' H', E.nx ρ' m' → Ex G G' → Wd K G' m' F H' → En K G' σ' ρ' → S.nx σ' H'
  rt : ∀ d m' v G' H', E.rt d m' → Ex G G' → Wd K G' m' F H' → Rp K G' v d → S.rt v H'
  bk : ∀ ρ' m' σ' G' H', E.bk ρ' m' → Ex G G' → Wd K G' m' F H' → En K G' σ' ρ' → S.bk σ' H'
  ct : ∀ ρ' m' σ' G' H', E.ct ρ' m' → Ex G G' → Wd K G' m' F H' → En K G' σ' ρ' → S.ct σ' H'
  ex : FitX K W G F E.ex
theorem FitS.mono {K : Fg} {W : Wx} {G G' : Hp} {F : Hp} {E : De} {S : Ends} (f : FitS K W G F E S) (e : Ex G G') : FitS K W G' F E S :=
  ⟨fun a b c G2 H' q e2 => f.nx a b c G2 H' q (e.trans e2), fun a b c G2 H' q e2 => f.rt a b c G2 H' q (e.trans e2), fun a b c G2 H' q e2 => f.bk a b c G2 H' q (e.trans e2), fun a b c G2 H' q e2 => f.ct a b c G2 H' q (e.trans e2), f.ex.mono e⟩
def LiftS (K : Fg) (W : Wx) (t : TS) (w : WS) : Prop := ∀ G m F H σ ρ (S : Ends) (E : De), Wd K G m F H → En K G σ ρ → w E ρ m → FitS K W G F E S → t S σ H

/-- a family of contexts of one def -/
structure Fam (P : Program) (w : World) (K : Fg) (mg : Str → Option Value) (base : Heap) (k : Nat) (N : List Str) {ι : Type} (X : ι → Cx) : Prop where
  prog : ∀ i, (X i).prog = P
  w : ∀ i, (X i).w = w
  K : ∀ i, (X i).K = K
  mg : ∀ i, (X i).mg = mg
  base : ∀ i, (X i).base = base
  hN : ∀ i, (X i).N = N
  calm : ∀ i, (X i).calm = true
  room : ∀ i, Room k (X i).A
  nd : N.Nodup

def PD (K : Fg) (W : Wx) {ι : Type} (X : ι → Cx) (e : Expr) (w : WE) : Prop := ∃ t, (∀ i, PE (X i) e t) ∧ LiftE K W t w
def PDT (K : Fg) (W : Wx) {ι : Type} (X : ι → Cx) (e : Expr) (w : WT) : Prop := ∃ t, (∀ i, PT (X i) e t) ∧ LiftT K W t w
def PDW (K : Fg) (W : Wx) {ι : Type} (X : ι → Cx) (e : Expr) (w : WT) : Prop := ∃ t, (∀ i, PW (X i) e t) ∧ LiftT K W t w
def PDO (K : Fg) (W : Wx) {ι : Type} (X : ι → Cx) (e : Option Expr) (w : WO) : Prop := ∃ t, (∀ i, PO (X i) e t) ∧ LiftO K W t w
def PDA (K : Fg) (W : Wx) {ι : Type} (X : ι → Cx) (es : List Expr) (w : WA) : Prop := ∃ t, (∀ i, PA (X i) es t) ∧ LiftA K W t w
def PDS (K : Fg) (W : Wx) {ι : Type} (X : ι → Cx) (s : Stmt) (w : WS) : Prop := ∃ t, (∀ i, PS (X i) s t) ∧ LiftS K W t w
def PDB (K : Fg) (W : Wx) {ι : Type} (X : ι → Cx) (s : List Stmt) (w : WS) : Prop := ∃ t, (∀ i, PSs (X i) s t) ∧ LiftS K W t w

/-! ### names, constants -/
def wVar (i : Nat) : WE := fun ρ m Q _ => match ρ[i]? with
  | some (some d) => Q d m
  | _ => False
def wC (d : D) : WE := fun _ m Q _ => Q d m
section
variable {K : Fg} {W : Wx} {ι : Type} {X : ι → Cx} {pos : Pos}
theorem lift_var {i : Nat} : LiftE K W (tVar i) (wVar i) := by
  intro G m F H σ ρ Q Qd Qx hW hE h hX hQ
  unfold wVar at h
  split at h
  · rename_i d e
    obtain ⟨v, h1, h2⟩ := hE.get e
    exact ⟨v, h1, hQ d m v G H h (Ex.refl G) hW h2⟩
  · cases h
theorem pd_var (i : Nat) {N : List Str} {x : Str} (hX : ∀ j, (X j).N = N) (hN : N[i]? = some x := by rfl) (hv : ∀ j, Vis (X j).env.scope x := by intro _; first | exact Or.inl rfl | exact Or.inr (Or.inl rfl) | exact Or.inr (Or.inr rfl)) (hd : (x == ("__debug__" : Str)) = false := by decide) (hc : (x == ("__classdict__" : Str)) = false := by decide) : PD K W X (.Name x pos) (wVar i) :=
  ⟨tVar i, fun j => pe_var (by rw [hX j]; exact hN) (hv j) hd hc, lift_var⟩
theorem lift_c {v : V} {d : D} (r : ∀ G, Rp K G v d) : LiftE K W (tC v) (wC d) := fun G m F H σ ρ Q Qd Qx hW hE h hX hQ => hQ d m v G H h (Ex.refl G) hW (r G)
theorem pd_int {i : Int} {j : Nat} : PD K W X (.Constant (.int i) j pos) (wC (.int i)) := ⟨_, fun _ => pe_int, lift_c fun _ => .int i⟩
theorem pd_bl {b : Bool} {j : Nat} : PD K W X (.Constant (.bool b) j pos) (wC (.bl b)) := ⟨_, fun _ => pe_bl, lift_c fun _ => .bl b⟩
theorem pd_non {j : Nat} : PD K W X (.Constant .none j pos) (wC .non) := ⟨_, fun _ => pe_non, lift_c fun _ => .non⟩
theorem pd_str {x : Str} {j : Nat} : PD K W X (.Constant (.str x) j pos) (wC (.str x)) := ⟨_, fun _ => pe_str, lift_c fun _ => .str x⟩
/-- a built-in type's name as a value -/
theorem pd_ty {mg : Str → Option Value} {x : Str} {n : String} (hX : ∀ j, (X j).mg = mg) (hm : mg x = none) (hv : bootBuiltins x = some (.type n)) (hg : ∀ j, Gl (X j) x := by intro _; rfl) (hn : x ≠ "__name__" := by decide) (hd : (x == ("__debug__" : Str)) = false := by decide) :
    PD K W X (.Name x pos) (wC (.ty n)) := ⟨tC (.ty n), fun j => pe_bltn (hg j) (by rw [hX j]; exact hm) hv rfl hn hd, lift_c fun _ => .ty n⟩
/-- a constant of the module -/
theorem pd_glob {mg : Str → Option Value} {x : Str} {v : V} {u : Value} {d : D} (hX : ∀ j, (X j).mg = mg) (hm : mg x = some u) (r : RelV v u) (rp : ∀ G, Rp K G v d) (hg : ∀ j, Gl (X j) x := by intro _; rfl) (hd : (x == ("__debug__" : Str)) = false := by decide) :
    PD K W X (.Name x pos) (wC d) := ⟨_, fun j => pe_glob (hg j) (by rw [hX j]; exact hm) r hd, lift_c rp⟩
theorem pd_globI {mg : Str → Option Value} {x : Str} {i : Int} (hX : ∀ j, (X j).mg = mg) (hm : ∃ t, mg x = some (.int i t)) (hg : ∀ j, Gl (X j) x := by intro _; rfl) (hd : (x == ("__debug__" : Str)) = false := by decide) : PD K W X (.Name x pos) (wC (.int i)) := by
  obtain ⟨t, hm⟩ := hm
  exact pd_glob (v := V.int i) hX hm ⟨t, rfl⟩ (fun _ => .int i) hg hd
end

/-! ### operators -/
abbrev WR := D → D → Mem → (D → Mem → Prop) → Prop
def LiftR (K : Fg) (r : R2) (w : WR) : Prop := ∀ G m F H x y dx dy (Q : VK) (Qd : D → Mem → Prop), Wd K G m F H → Rp K G x dx → Rp K G y dy → w dx dy m Qd → FitE K G F Q Qd → r x y H Q
def wOp (r : WR) (a b : WE) : WE := fun ρ m Q Qx => a ρ m (fun x m1 => b ρ m1 (fun y m2 => r x y m2 Q) Qx) Qx
theorem lift_op {K : Fg} {W : Wx} {r : R2} {w : WR} {ta tb : TE} {a b : WE} (hr : LiftR K r w) (ha : LiftE K W ta a) (hb : LiftE K W tb b) : LiftE K W (tOp r ta tb) (wOp w a b) := by
  intro G m F H σ ρ Q Qd Qx hW hE h hX hQ
  refine ha G m F H σ ρ _ _ Qx hW hE h hX ?_
  intro dx m1 x G1 H1 h1 e1 W1 r1
  refine hb G1 m1 F H1 σ ρ _ _ Qx W1 (hE.mono e1) h1 (hX.mono e1) ?_
  intro dy m2 y G2 H2 h2 e2 W2 r2
  exact hr G2 m2 F H2 x y dx dy Q Qd W2 (r1.mono e2) r2 h2 fun d m' v G' H' q e => hQ d m' v G' H' q ((e1.trans e2).trans e)
theorem LiftR.or {K : Fg} {r r' : R2} {w w' : WR} (h : LiftR K r w) (h' : LiftR K r' w') : LiftR K (fun x y H Q => r x y H Q ∨ r' x y H Q) (fun x y m Q => w x y m Q ∨ w' x y m Q) := by
  intro G m F H x y dx dy Q Qd hW rx ry h0 hQ
  rcases h0 with h0 | h0
  · exact Or.inl (h G m F H x y dx dy Q Qd hW rx ry h0 hQ)
  · exact Or.inr (h' G m F H x y dx dy Q Qd hW rx ry h0 hQ)
theorem LiftR.imp {K : Fg} {r : R2} {w w' : WR} (h : LiftR K r w) (hi : ∀ x y m Q, w' x y m Q → w x y m Q) : LiftR K r w' := fun G m F H x y dx dy Q Qd hW rx ry h0 hQ => h G m F H x y dx dy Q Qd hW rx ry (hi dx dy m Qd h0) hQ

theorem FitE.here {K : Fg} {G F H : Hp} {m : Mem} {Q : VK} {Qd : D → Mem → Prop} (hQ : FitE K G F Q Qd) (hW : Wd K G m F H) {d : D} {v : V} (q : Qd d m) (r : Rp K G v d) : Q v H := hQ d m v G H q (Ex.refl G) hW r
/-- a new list, a new tuple -/
theorem FitE.lst {K : Fg} {G F H : Hp} {m : Mem} {Q : VK} {Qd : D → Mem → Prop} (hQ : FitE K G F Q Qd) (hW : Wd K G m F H) {ds : List D} {xs : List V} (q : Qd (.lst ds) m) (r : RpA K G xs ds) : ∀ p, H p = none → Q (.ref p) (upd H p (.lst xs)) := fun p hp => by
  obtain ⟨e, W'⟩ := hW.new hp (.lst xs)
  exact hQ _ m _ _ _ q e W' (.lst upd_same (r.mono e))
theorem FitE.tup {K : Fg} {G F H : Hp} {m : Mem} {Q : VK} {Qd : D → Mem → Prop} (hQ : FitE K G F Q Qd) (hW : Wd K G m F H) {ds : List D} {xs : List V} (q : Qd (.tup ds) m) (r : RpA K G xs ds) : ∀ p, H p = none → Q (.ref p) (upd H p (.tup xs)) := fun p hp => by
  obtain ⟨e, W'⟩ := hW.new hp (.tup xs)
  exact hQ _ m _ _ _ q e W' (.tup (SqT.of upd_same) (r.mono e))
theorem Rp.seqT {K : Fg} {G H : Hp} {a : Addr} {ds : List D} (e : Ex G H) (r : Rp K G (.ref a) (.tup ds)) : ∃ xs, SqT K H a xs ∧ RpA K G xs ds := by
  cases r with
  | tup h q => exact ⟨_, Evl.ex_t e h, q⟩

/-! ### + - * // % ** -/
def dAdd : WR := fun x y m Q => match x, y with
  | .int i, .int j => Q (.int (i + j)) m
  | .str a, .str b => a.length + b.length ≤ sizeLine ∧ Q (.str (a ++ b)) m
  | .lst a, .lst b => a.length + b.length ≤ sizeLine ∧ Q (.lst (a ++ b)) m
  | .tup a, .tup b => a.length + b.length ≤ sizeLine ∧ Q (.tup (a ++ b)) m
  | _, _ => False
def rAdd (K : Fg) : R2 := fun x y H Q => (rI0 (fun i j => .int (i + j)) x y H Q ∨ (∃ i j, x = .str i ∧ y = .str j ∧ i.length + j.length ≤ sizeLine ∧ Q (.str (i ++ j)) H)) ∨ (rCat x y H Q ∨ rCatA K x y H Q)
theorem op_addU {X : Cx} : OpR X (binaryOp .Add) (rAdd X.K) := (op_add.or op_add_str).or (op_cat.or op_catA)
theorem lift_add {K : Fg} : LiftR K (rAdd K) dAdd := by
  intro G m F H x y dx dy Q Qd hW rx ry h hQ
  cases rx <;> cases ry <;> first | exact (show False from h).elim | skip
  case int.int i j => exact Or.inl (Or.inl ⟨i, j, rfl, rfl, hQ.here hW h (.int _)⟩)
  case str.str a b => exact Or.inl (Or.inr ⟨a, b, rfl, rfl, h.1, hQ.here hW h.2 (.str _)⟩)
  case lst.lst a xs ds h1 r1 b ys es h2 r2 =>
    refine Or.inr (Or.inl ⟨a, b, xs, ys, rfl, rfl, hW.ex _ _ h1, hW.ex _ _ h2, by rw [r1.len, r2.len]; exact h.1, ?_⟩)
    exact hQ.lst hW h.2 (r1.app r2)
  case tup.tup a xs ds h1 r1 b ys es h2 r2 =>
    refine Or.inr (Or.inr ⟨a, b, xs, ys, rfl, rfl, Evl.ex_t hW.ex h1, Evl.ex_t hW.ex h2, by rw [r1.len, r2.len]; exact h.1, fun e => ?_, fun _ e => ?_, fun _ _ => hQ.tup hW h.2 (r1.app r2)⟩)
    · subst e
      cases r1
      exact hQ.here hW h.2 (.tup h2 r2)
    · subst e
      cases r2
      have q := h.2
      rw [List.append_nil] at q
      exact hQ.here hW q (.tup h1 r1)
def dSub : WR := fun x y m Q => match x, y with
  | .int i, .int j => Q (.int (i - j)) m
  | _, _ => False
theorem lift_sub {K : Fg} : LiftR K (rI0 fun i j => .int (i - j)) dSub := by
  intro G m F H x y dx dy Q Qd hW rx ry h hQ
  cases rx <;> cases ry <;> first | exact (show False from h).elim | skip
  case int.int i j => exact ⟨i, j, rfl, rfl, hQ.here hW h (.int _)⟩
def dMul : WR := fun x y m Q => match x, y with
  | .int i, .int j => (CMul i j ∨ CMulW i j) ∧ Q (.int (i * j)) m
  | .lst a, .int k => (-(2 ^ 63) ≤ k ∧ k < 2 ^ 63 ∧ a.length * k.toNat ≤ sizeLine) ∧ Q (.lst (List.replicate k.toNat a).flatten) m
  | _, _ => False
def rMul : R2 := fun x y H Q => (rI CMul (fun i j => .int (i * j)) x y H Q ∨ rI CMulW (fun i j => .int (i * j)) x y H Q) ∨ rRep x y H Q
theorem op_mulU {X : Cx} : OpR X (binaryOp .Mult) rMul := (op_mul.or op_mulW).or op_rep
theorem lift_mul {K : Fg} : LiftR K rMul dMul := by
  intro G m F H x y dx dy Q Qd hW rx ry h hQ
  cases rx <;> cases ry <;> first | exact (show False from h).elim | skip
  case int.int i j =>
    rcases h.1 with c | c
    · exact Or.inl (Or.inl ⟨i, j, rfl, rfl, c, hQ.here hW h.2 (.int _)⟩)
    · exact Or.inl (Or.inr ⟨i, j, rfl, rfl, c, hQ.here hW h.2 (.int _)⟩)
  case lst.int a xs ds h1 r1 k =>
    exact Or.inr ⟨a, k, xs, rfl, rfl, hW.ex _ _ h1, h.1.1, h.1.2.1, by rw [r1.len]; exact h.1.2.2, hQ.lst hW h.2 (r1.rep _)⟩
def dDiv : WR := fun x y m Q => match x, y with
  | .int i, .int j => CDivW i j ∧ Q (.int (i / j)) m
  | _, _ => False
theorem lift_div {K : Fg} : LiftR K (rI CDivW fun i j => .int (i / j)) dDiv := by
  intro G m F H x y dx dy Q Qd hW rx ry h hQ
  cases rx <;> cases ry <;> first | exact (show False from h).elim | skip
  case int.int i j => exact ⟨i, j, rfl, rfl, h.1, hQ.here hW h.2 (.int _)⟩
def dMod : WR := fun x y m Q => match x, y with
  | .int i, .int j => 0 < j ∧ Q (.int (i % j)) m
  | _, _ => False
theorem lift_mod {K : Fg} : LiftR K (rI (fun _ j => 0 < j) fun i j => .int (i % j)) dMod := by
  intro G m F H x y dx dy Q Qd hW rx ry h hQ
  cases rx <;> cases ry <;> first | exact (show False from h).elim | skip
  case int.int i j => exact ⟨i, j, rfl, rfl, h.1, hQ.here hW h.2 (.int _)⟩
def dPow : WR := fun x y m Q => match x, y with
  | .int i, .int j => CPow i j ∧ Q (.int (i ^ j.toNat)) m
  | _, _ => False
theorem lift_pow {K : Fg} : LiftR K (rI CPow fun i j => .int (i ^ j.toNat)) dPow := by
  intro G m F H x y dx dy Q Qd hW rx ry h hQ
  cases rx <;> cases ry <;> first | exact (show False from h).elim | skip
  case int.int i j => exact ⟨i, j, rfl, rfl, h.1, hQ.here hW h.2 (.int _)⟩

/-! ### comparisons -/
mutual
/-- data as the library's plain data; what is no list, tuple or flat thing becomes a dict (which no rule takes) -/
def py : D → PyData
  | .non => .none
  | .bl b => .bool b
  | .int i => .int i
  | .str x => .str x
  | .lst ds => .list (pyA ds)
  | .tup ds => .tuple (pyA ds)
  | .scr ns => .list (ns.map .int)
  | .ty _ => .dict [] | .dct _ _ => .dict [] | .box _ => .dict [] | .obj _ _ _ => .dict []
def pyA : List D → List PyData
  | [] => []
  | d :: ds => py d :: pyA ds
end
theorem dp_ints {K : Fg} {H : Hp} : ∀ ns : List Int, DpAll K H (ns.map V.int) (ns.map PyData.int)
  | [] => .nil
  | n :: ns => .cons (.int n) (dp_ints ns)
mutual
theorem dp_of {K : Fg} {G H : Hp} (e : Ex G H) : ∀ (d : D) {v : V}, Rp K G v d → (py d).canLay0 = true → Dp K H v (py d)
  | .non, _, r, _ => by cases r; exact .non
  | .bl b, _, r, _ => by cases r; exact .bl b
  | .int i, _, r, _ => by cases r; exact .int i
  | .str x, _, r, _ => by cases r; exact .str x
  | .lst ds, _, r, c => by
    cases r with
    | lst h q => exact .lst (SqL.of (e _ _ h)) (dpa_of e ds q (by simpa [py, PyData.canLay0] using c))
  | .tup ds, _, r, c => by
    cases r with
    | tup h q => exact .tup (Evl.ex_t e h) (dpa_of e ds q (by simpa [py, PyData.canLay0] using c))
  | .scr ns, _, r, c => by
    cases r with
    | scr h => exact .lst (Evl.ex_l e h) (dp_ints ns)
  | .ty _, _, _, c => by simp [py, PyData.canLay0] at c
  | .dct _ _, _, _, c => by simp [py, PyData.canLay0] at c
  | .box _, _, _, c => by simp [py, PyData.canLay0] at c
  | .obj _ _ _, _, _, c => by simp [py, PyData.canLay0] at c
theorem dpa_of {K : Fg} {G H : Hp} (e : Ex G H) : ∀ (ds : List D) {vs : List V}, RpA K G vs ds → PyData.canLayAll0 (pyA ds) = true → DpAll K H vs (pyA ds)
  | [], _, r, _ => by cases r; exact .nil
  | d :: ds, _, r, c => by
    cases r with
    | cons r t =>
      have c' : (py d).canLay0 = true ∧ PyData.canLayAll0 (pyA ds) = true := by simpa [pyA, PyData.canLayAll0] using c
      exact .cons (dp_of e d r c'.1) (dpa_of e ds t c'.2)
end
def dEqB (b : Bool) : WR := fun x y m Q => match x, y with
  | .int i, .int j => Q (.bl (decide (i = j) ^^ b)) m
  | .str i, .str j => Q (.bl (decide (i = j) ^^ b)) m
  | .bl i, .bl j => Q (.bl (decide (i = j) ^^ b)) m
  | x, y => SeqAt.shaped (py x) = true ∧ SeqAt.shaped (py y) = true ∧ Q (.bl (PyData.eqv (py x) (py y) ^^ b)) m
abbrev dEq : WR := dEqB false
abbrev dNe : WR := dEqB true
def rEqU (K : Fg) : R2 := fun x y H Q => rEq x y H Q ∨ rEqD K x y H Q
def rNeU (K : Fg) : R2 := fun x y H Q => rNe x y H Q ∨ rNeD K x y H Q
theorem op_eqU {X : Cx} (hu : X.A.units + 64 < cLine) : OpR X (compareOp .Eq) (rEqU X.K) := op_eq.or (op_eqD hu)
theorem op_neU {X : Cx} (hu : X.A.units + 64 < cLine) : OpR X (compareOp .NotEq) (rNeU X.K) := op_ne.or (op_neD hu)
theorem shaped_lay {d : PyData} (h : SeqAt.shaped d = true) : d.canLay0 = true := SeqAt.canLay_of_shaped h
theorem eq_gen {K : Fg} {G H : Hp} {x y : V} {dx dy : D} (e : Ex G H) (rx : Rp K G x dx) (ry : Rp K G y dy) (h1 : SeqAt.shaped (py dx) = true) (h2 : SeqAt.shaped (py dy) = true) :
    Dp K H x (py dx) ∧ Dp K H y (py dy) := ⟨dp_of e dx rx (shaped_lay h1), dp_of e dy ry (shaped_lay h2)⟩
theorem lift_eq {K : Fg} : LiftR K (rEqU K) dEq := by
  intro G m F H x y dx dy Q Qd hW rx ry h hQ
  unfold dEq dEqB at h
  split at h
  · cases rx; cases ry
    refine Or.inl ⟨rfl, ?_⟩
    rename_i i j
    have e : decide (V.int i = V.int j) = (decide (i = j) ^^ false) := by simp
    rw [e]; exact hQ.here hW h (.bl _)
  · cases rx; cases ry
    refine Or.inl ⟨rfl, ?_⟩
    rename_i i j
    have e : decide (V.str i = V.str j) = (decide (i = j) ^^ false) := by simp
    rw [e]; exact hQ.here hW h (.bl _)
  · cases rx; cases ry
    refine Or.inl ⟨rfl, ?_⟩
    rename_i i j
    have e : decide (V.bl i = V.bl j) = (decide (i = j) ^^ false) := by simp
    rw [e]; exact hQ.here hW h (.bl _)
  · obtain ⟨h1, h2, h3⟩ := h
    obtain ⟨p1, p2⟩ := eq_gen hW.ex rx ry h1 h2
    rw [Bool.xor_false] at h3
    exact Or.inr ⟨_, _, p1, p2, h1, h2, hQ.here hW h3 (.bl _)⟩
theorem lift_ne {K : Fg} : LiftR K (rNeU K) dNe := by
  intro G m F H x y dx dy Q Qd hW rx ry h hQ
  unfold dNe dEqB at h
  split at h
  · cases rx; cases ry
    refine Or.inl ⟨rfl, ?_⟩
    rename_i i j
    have e : (!decide (V.int i = V.int j)) = (decide (i = j) ^^ true) := by simp
    rw [e]; exact hQ.here hW h (.bl _)
  · cases rx; cases ry
    refine Or.inl ⟨rfl, ?_⟩
    rename_i i j
    have e : (!decide (V.str i = V.str j)) = (decide (i = j) ^^ true) := by simp
    rw [e]; exact hQ.here hW h (.bl _)
  · cases rx; cases ry
    refine Or.inl ⟨rfl, ?_⟩
    rename_i i j
    have e : (!decide (V.bl i = V.bl j)) = (decide (i = j) ^^ true) := by simp
    rw [e]; exact hQ.here hW h (.bl _)
  · obtain ⟨h1, h2, h3⟩ := h
    obtain ⟨p1, p2⟩ := eq_gen hW.ex rx ry h1 h2
    rw [Bool.xor_true] at h3
    exact Or.inr ⟨_, _, p1, p2, h1, h2, hQ.here hW h3 (.bl _)⟩
def dCmp (fi : Int → Int → Bool) (fs : List Nat → List Nat → Bool) : WR := fun x y m Q => match x, y with
  | .int i, .int j => Q (.bl (fi i j)) m
  | .str a, .str b => Q (.bl (fs a.cps.toList b.cps.toList)) m
  | _, _ => False
def rCmp (fi : Int → Int → Bool) (fs : List Nat → List Nat → Bool) : R2 := fun x y H Q => rI0 (fun i j => .bl (fi i j)) x y H Q ∨ (∃ i j, x = .str i ∧ y = .str j ∧ Q (.bl (fs i.cps.toList j.cps.toList)) H)
theorem lift_cmp {K : Fg} {fi : Int → Int → Bool} {fs : List Nat → List Nat → Bool} : LiftR K (rCmp fi fs) (dCmp fi fs) := by
  intro G m F H x y dx dy Q Qd hW rx ry h hQ
  cases rx <;> cases ry <;> first | exact (show False from h).elim | skip
  case int.int i j => exact Or.inl ⟨i, j, rfl, rfl, hQ.here hW h (.bl _)⟩
  case str.str i j => exact Or.inr ⟨i, j, rfl, rfl, hQ.here hW h (.bl _)⟩
abbrev dLt : WR := dCmp (fun i j => decide (i < j)) (fun a b => decide (a < b))
abbrev dLe : WR := dCmp (fun i j => decide (i ≤ j)) (fun a b => !decide (b < a))
abbrev dGt : WR := dCmp (fun i j => decide (j < i)) (fun a b => decide (b < a))
abbrev dGe : WR := dCmp (fun i j => decide (j ≤ i)) (fun a b => !decide (a < b))
theorem op_ltU {X : Cx} : OpR X (compareOp .Lt) (rCmp (fun i j => decide (i < j)) (fun a b => decide (a < b))) := op_lt.or op_lt_str
theorem op_leU {X : Cx} : OpR X (compareOp .LtE) (rCmp (fun i j => decide (i ≤ j)) (fun a b => !decide (b < a))) := op_le.or op_le_str
theorem op_gtU {X : Cx} : OpR X (compareOp .Gt) (rCmp (fun i j => decide (j < i)) (fun a b => decide (b < a))) := op_gt.or op_gt_str
theorem op_geU {X : Cx} : OpR X (compareOp .GtE) (rCmp (fun i j => decide (j ≤ i)) (fun a b => !decide (a < b))) := op_ge.or op_ge_str
/-- flat data, their equality -/
def flatD : D → Bool
  | .non => true | .bl _ => true | .int _ => true | .str _ => true | _ => false
def eqD : D → D → Bool
  | .non, .non => true
  | .bl a, .bl b => a == b
  | .bl a, .int b => (if a then 1 else 0) == b
  | .int a, .bl b => a == (if b then 1 else 0)
  | .int a, .int b => a == b
  | .str a, .str b => a == b
  | _, _ => false
def inD (x : D) (ds : List D) : Bool := ds.any fun y => eqD y x
theorem flat_of {K : Fg} {G : Hp} {v : V} {d : D} (r : Rp K G v d) (h : flatD d = true) : flatV v = true := by
  cases r <;> first | rfl | cases h
theorem flats_of {K : Fg} {G : Hp} : ∀ {vs : List V} {ds : List D}, RpA K G vs ds → ds.all flatD = true → vs.all flatV = true
  | _, _, .nil, _ => rfl
  | _, _, .cons r t, h => by
    rw [List.all_cons, Bool.and_eq_true] at h
    rw [List.all_cons, flat_of r h.1, flats_of t h.2]
    rfl
theorem eqv_of {K : Fg} {G : Hp} {v w : V} {d e : D} (r : Rp K G v d) (q : Rp K G w e) (h : flatD d = true) (h' : flatD e = true) : eqV v w = eqD d e := by
  cases r <;> first | (cases h; done) | (cases q <;> first | (cases h'; done) | rfl)
theorem inv_of {K : Fg} {G : Hp} {x : V} {dx : D} (rx : Rp K G x dx) (hx : flatD dx = true) : ∀ {vs : List V} {ds : List D}, RpA K G vs ds → ds.all flatD = true → inV x vs = inD dx ds
  | _, _, .nil, _ => rfl
  | _, _, .cons r t, h => by
    rw [List.all_cons, Bool.and_eq_true] at h
    have ih := inv_of rx hx t h.2
    unfold inV inD at ih ⊢
    rw [List.any_cons, List.any_cons, eqv_of r rx h.1 hx, ih]
def dInB (neg : Bool) : WR := fun x y m Q => match x, y with
  | .str a, .str z => (∃ c, a = ⟨#[c]⟩ ∧ Q (.bl (decide (c ∈ z.cps.toList) ^^ neg)) m)
  | x, .lst ds => flatD x = true ∧ ds.all flatD = true ∧ Q (.bl (inD x ds ^^ neg)) m
  | x, .tup ds => flatD x = true ∧ ds.all flatD = true ∧ Q (.bl (inD x ds ^^ neg)) m
  | _, _ => False
abbrev dIn : WR := dInB false
abbrev dNotIn : WR := dInB true
def rInU (K : Fg) (neg : Bool) : R2 := fun x y H Q => (∃ (c : Nat) (z : Str), x = .str ⟨#[c]⟩ ∧ y = .str z ∧ Q (.bl (decide (c ∈ z.cps.toList) ^^ neg)) H) ∨ rIn K neg x y H Q
theorem op_inU {X : Cx} : OpR X (compareOp .In) (rInU X.K false) := by
  have h := (op_in_sign (X := X)).or op_in_seq
  intro pins s σ H x y v u Q I rx ry q
  refine h pins s σ H x y v u Q I rx ry ?_
  rcases q with ⟨c, z, e1, e2, q⟩ | q
  · rw [Bool.xor_false] at q; exact Or.inl ⟨c, z, e1, e2, q⟩
  · exact Or.inr q
theorem op_notInU {X : Cx} : OpR X (compareOp .NotIn) (rInU X.K true) := by
  have h := (op_notIn_sign (X := X)).or op_notIn_seq
  intro pins s σ H x y v u Q I rx ry q
  refine h pins s σ H x y v u Q I rx ry ?_
  rcases q with ⟨c, z, e1, e2, q⟩ | q
  · rw [Bool.xor_true] at q; exact Or.inl ⟨c, z, e1, e2, q⟩
  · exact Or.inr q
theorem lift_in {K : Fg} {neg : Bool} : LiftR K (rInU K neg) (dInB neg) := by
  intro G m F H x y dx dy Q Qd hW rx ry h hQ
  have neg_if : ∀ b : Bool, (if neg = true then !b else b) = (b ^^ neg) := by intro b; cases neg <;> cases b <;> rfl
  unfold dInB at h
  split at h
  · cases rx; cases ry
    obtain ⟨c, rfl, q⟩ := h
    exact Or.inl ⟨c, _, rfl, rfl, hQ.here hW q (.bl _)⟩
  · obtain ⟨h1, h2, q⟩ := h
    cases ry with
    | lst hy r =>
      refine Or.inr ⟨_, _, rfl, Or.inl (SqL.of (hW.ex _ _ hy)), flat_of rx h1, flats_of r h2, ?_⟩
      rw [neg_if, inv_of rx h1 r h2]
      exact hQ.here hW q (.bl _)
  · obtain ⟨h1, h2, q⟩ := h
    cases ry with
    | tup hy r =>
      refine Or.inr ⟨_, _, rfl, Or.inr (Evl.ex_t hW.ex hy), flat_of rx h1, flats_of r h2, ?_⟩
      rw [neg_if, inv_of rx h1 r h2]
      exact hQ.here hW q (.bl _)
  · cases h
def isNonD : D → Bool
  | .non => true
  | _ => false
/-- x is None, x is not None -/
def dIsB (neg : Bool) : WR := fun x y m Q => match y with
  | .non => Q (.bl (isNonD x ^^ neg)) m
  | _ => False
theorem non_of {K : Fg} {G : Hp} {v : V} {d : D} (r : Rp K G v d) : decide (v = V.non) = isNonD d := by
  cases r <;> simp [isNonD]
theorem lift_is {K : Fg} : LiftR K (fun x y H Q => y = .non ∧ Q (.bl (decide (x = .non))) H) (dIsB false) := by
  intro G m F H x y dx dy Q Qd hW rx ry h hQ
  cases ry <;> first | exact (show False from h).elim | skip
  refine ⟨rfl, ?_⟩
  rw [non_of rx]
  have h : Qd (.bl (isNonD dx ^^ false)) m := h
  rw [Bool.xor_false] at h
  exact hQ.here hW h (.bl _)
theorem lift_isnot {K : Fg} : LiftR K (fun x y H Q => y = .non ∧ Q (.bl (!decide (x = .non))) H) (dIsB true) := by
  intro G m F H x y dx dy Q Qd hW rx ry h hQ
  cases ry <;> first | exact (show False from h).elim | skip
  refine ⟨rfl, ?_⟩
  rw [non_of rx]
  have h : Qd (.bl (isNonD dx ^^ true)) m := h
  rw [Bool.xor_true] at h
  exact hQ.here hW h (.bl _)

section
variable {K : Fg} {W : Wx} {ι : Type} {X : ι → Cx} {pos : Pos} {a b c : Expr} {wa wb wc : WE}
theorem bin_of {op : Operator} {r : R2} {w : WR} (ho : ∀ i, OpR (X i) (binaryOp op) r) (hr : LiftR K r w) (ha : PD K W X a wa) (hb : PD K W X b wb) : PD K W X (.BinOp a op b pos) (wOp w wa wb) := by
  obtain ⟨ta, h1, h2⟩ := ha
  obtain ⟨tb, h3, h4⟩ := hb
  exact ⟨_, fun i => pe_op (ho i) (h1 i) (h3 i), lift_op hr h2 h4⟩
theorem pd_add (hK : ∀ i, (X i).K = K) (ha : PD K W X a wa) (hb : PD K W X b wb) : PD K W X (.BinOp a .Add b pos) (wOp dAdd wa wb) := bin_of (fun i => hK i ▸ op_addU) lift_add ha hb
theorem pd_sub (ha : PD K W X a wa) (hb : PD K W X b wb) : PD K W X (.BinOp a .Sub b pos) (wOp dSub wa wb) := bin_of (fun _ => op_sub) lift_sub ha hb
theorem pd_mul (ha : PD K W X a wa) (hb : PD K W X b wb) : PD K W X (.BinOp a .Mult b pos) (wOp dMul wa wb) := bin_of (fun _ => op_mulU) lift_mul ha hb
theorem pd_div (ha : PD K W X a wa) (hb : PD K W X b wb) : PD K W X (.BinOp a .FloorDiv b pos) (wOp dDiv wa wb) := bin_of (fun _ => op_fdivW) lift_div ha hb
theorem pd_mod (ha : PD K W X a wa) (hb : PD K W X b wb) : PD K W X (.BinOp a .Mod b pos) (wOp dMod wa wb) := bin_of (fun _ => op_mod) lift_mod ha hb
theorem pd_pow (ha : PD K W X a wa) (hb : PD K W X b wb) : PD K W X (.BinOp a .Pow b pos) (wOp dPow wa wb) := bin_of (fun _ => op_pow) lift_pow ha hb
/-- a comparison's operator -/
def CmpU (K : Fg) {ι : Type} (X : ι → Cx) (op : CmpOp) (w : WR) : Prop := ∃ r, (∀ i, OpR (X i) (compareOp op) r) ∧ LiftR K r w
theorem c_eq {P : Program} {wo : World} {mg : Str → Option Value} {base : Heap} {k : Nat} {N : List Str} (hX : Fam P wo K mg base k N X) : CmpU K X .Eq dEq :=
  ⟨_, fun i => hX.K i ▸ op_eqU (by have := (hX.room i).un; omega), lift_eq⟩
theorem c_ne {P : Program} {wo : World} {mg : Str → Option Value} {base : Heap} {k : Nat} {N : List Str} (hX : Fam P wo K mg base k N X) : CmpU K X .NotEq dNe :=
  ⟨_, fun i => hX.K i ▸ op_neU (by have := (hX.room i).un; omega), lift_ne⟩
theorem c_lt : CmpU K X .Lt dLt := ⟨_, fun _ => op_ltU, lift_cmp⟩
theorem c_le : CmpU K X .LtE dLe := ⟨_, fun _ => op_leU, lift_cmp⟩
theorem c_gt : CmpU K X .Gt dGt := ⟨_, fun _ => op_gtU, lift_cmp⟩
theorem c_ge : CmpU K X .GtE dGe := ⟨_, fun _ => op_geU, lift_cmp⟩
theorem c_in (hK : ∀ i, (X i).K = K) : CmpU K X .In dIn := ⟨_, fun i => hK i ▸ op_inU, lift_in⟩
theorem c_notIn (hK : ∀ i, (X i).K = K) : CmpU K X .NotIn dNotIn := ⟨_, fun i => hK i ▸ op_notInU, lift_in⟩
theorem c_is : CmpU K X .Is (dIsB false) := ⟨_, fun _ => op_isN, lift_is⟩
theorem c_isNot : CmpU K X .IsNot (dIsB true) := ⟨_, fun _ => op_notN, lift_isnot⟩
theorem pd_cmp {op : CmpOp} {w : WR} (ho : CmpU K X op w) (ha : PD K W X a wa) (hb : PD K W X b wb) (hm : behindInMarks op b = false := by first | exact nomark _ | rfl) : PD K W X (.Compare a [op] [b] pos) (wOp w wa wb) := by
  obtain ⟨r, o1, o2⟩ := ho
  obtain ⟨ta, h1, h2⟩ := ha
  obtain ⟨tb, h3, h4⟩ := hb
  exact ⟨_, fun i => pe_cmpR (o1 i) (h1 i) (h3 i) hm, lift_op o2 h2 h4⟩
def wTest (w : WE) : WT := fun ρ m Q Qx => w ρ m (fun d m' => match d with
  | .bl b => Q b m'
  | _ => False) Qx
theorem lift_test {t : TE} {w : WE} (h : LiftE K W t w) : LiftT K W (tTest t) (wTest w) := by
  intro G m F H σ ρ Q Qd Qx hW hE h0 hX hQ
  refine h G m F H σ ρ _ _ Qx hW hE h0 hX ?_
  intro d m' v G' H' q e W' r
  cases r <;> first | exact (show False from q).elim | skip
  exact ⟨_, rfl, hQ _ m' G' H' q e W'⟩
theorem lift_tB {t : TE} {w : WE} (h : LiftE K W t w) : LiftT K W (tB t) (wTest w) := by
  intro G m F H σ ρ Q Qd Qx hW hE h0 hX hQ
  refine h G m F H σ ρ _ _ Qx hW hE h0 hX ?_
  intro d m' v G' H' q e W' r
  cases r <;> first | exact (show False from q).elim | skip
  exact ⟨_, rfl, hQ _ m' G' H' q e W'⟩
theorem pt_cmp {op : CmpOp} {w : WR} (ho : CmpU K X op w) (ha : PD K W X a wa) (hb : PD K W X b wb) (hm : behindInMarks op b = false := by first | exact nomark _ | rfl) : PDT K W X (.Compare a [op] [b] pos) (wTest (wOp w wa wb)) := by
  obtain ⟨r, o1, o2⟩ := ho
  obtain ⟨ta, h1, h2⟩ := ha
  obtain ⟨tb, h3, h4⟩ := hb
  exact ⟨_, fun i => pt_cmpR (o1 i) (h1 i) (h3 i) hm, lift_test (lift_op o2 h2 h4)⟩
/-- a < b < c -/
def wChain (r r' : WR) (a b c : WE) : WE := fun ρ m Q Qx => a ρ m (fun x m1 => b ρ m1 (fun y m2 => r x y m2 fun z m3 => match z with
  | .bl k => if k = true then c ρ m3 (fun u m4 => r' y u m4 Q) Qx else Q (.bl false) m3
  | _ => False) Qx) Qx
theorem lift_chain {r r' : R2} {w w' : WR} {ta tb tc : TE} (hr : LiftR K r w) (hr' : LiftR K r' w') (ha : LiftE K W ta wa) (hb : LiftE K W tb wb) (hc : LiftE K W tc wc) : LiftE K W (tChain r r' ta tb tc) (wChain w w' wa wb wc) := by
  intro G m F H σ ρ Q Qd Qx hW hE h hX hQ
  refine ha G m F H σ ρ _ _ Qx hW hE h hX ?_
  intro dx m1 x G1 H1 h1 e1 W1 r1
  refine hb G1 m1 F H1 σ ρ _ _ Qx W1 (hE.mono e1) h1 (hX.mono e1) ?_
  intro dy m2 y G2 H2 h2 e2 W2 r2
  refine hr G2 m2 F H2 x y dx dy _ _ W2 (r1.mono e2) r2 h2 ?_
  intro dz m3 z G3 H3 h3 e3 W3 r3
  cases r3 <;> first | exact (show False from h3).elim | skip
  rename_i k
  refine ⟨k, rfl, ?_⟩
  have e12 := e1.trans e2
  cases k with
  | true =>
    refine hc G3 m3 F H3 σ ρ _ _ Qx W3 (hE.mono (e12.trans e3)) h3 (hX.mono (e12.trans e3)) ?_
    intro du m4 u G4 H4 h4 e4 W4 r4
    exact hr' G4 m4 F H4 y u dy du Q Qd W4 (r2.mono (e3.trans e4)) r4 h4 fun d m' v G' H' q e => hQ d m' v G' H' q (((e12.trans e3).trans e4).trans e)
  | false =>
    have h3 : Qd (.bl false) m3 := h3
    exact hQ _ m3 _ G3 H3 h3 (e12.trans e3) W3 (.bl false)
theorem pd_chain {op op' : CmpOp} {w w' : WR} (ho : CmpU K X op w) (ho' : CmpU K X op' w') (ha : PD K W X a wa) (hb : PD K W X b wb) (hc : PD K W X c wc) (hm : lastMarks [op, op'] [b, c] = false := by with_unfolding_all rfl) : PD K W X (.Compare a [op, op'] [b, c] pos) (wChain w w' wa wb wc) := by
  obtain ⟨r, o1, o2⟩ := ho
  obtain ⟨r', o3, o4⟩ := ho'
  obtain ⟨ta, h1, h2⟩ := ha
  obtain ⟨tb, h3, h4⟩ := hb
  obtain ⟨tc, h5, h6⟩ := hc
  exact ⟨_, fun i => pe_chain (o1 i) (o3 i) (h1 i) (h3 i) (h5 i) hm, lift_chain o2 o4 h2 h4 h6⟩
theorem pt_chainD {op op' : CmpOp} {w w' : WR} (ho : CmpU K X op w) (ho' : CmpU K X op' w') (ha : PD K W X a wa) (hb : PD K W X b wb) (hc : PD K W X c wc) (hm : lastMarks [op, op'] [b, c] = false := by with_unfolding_all rfl) : PDT K W X (.Compare a [op, op'] [b, c] pos) (wTest (wChain w w' wa wb wc)) := by
  obtain ⟨r, o1, o2⟩ := ho
  obtain ⟨r', o3, o4⟩ := ho'
  obtain ⟨ta, h1, h2⟩ := ha
  obtain ⟨tb, h3, h4⟩ := hb
  obtain ⟨tc, h5, h6⟩ := hc
  exact ⟨_, fun i => pt_chain (o1 i) (o3 i) (h1 i) (h3 i) (h5 i) hm, lift_test (lift_chain o2 o4 h2 h4 h6)⟩
end
end DL
namespace DL
open PySem L2
open Evl (Ex)
theorem Wd.unframe {K : Fg} {G : Hp} {m : Mem} {F H : Hp} {p : Addr} {o : HO} (W : Wd K G m (upd F p o) H) (hF : F p = none) : Wd K G m F H := by
  refine ⟨W.ex, fun a ds e => ?_, fun a u e => ?_, fun a u e => ?_⟩
  · obtain ⟨h1, h2, h3⟩ := W.own a ds e
    refine ⟨h1, ?_, h3⟩
    by_cases q : a = p
    · subst q; exact hF
    · rw [upd_ne q] at h2; exact h2
  · have q : a ≠ p := fun z => by subst z; rw [hF] at e; cases e
    exact W.fr a u (by rw [upd_ne q]; exact e)
  · have q : a ≠ p := fun z => by subst z; rw [hF] at e; cases e
    exact W.frG a u (by rw [upd_ne q]; exact e)
theorem FitX.frame {K : Fg} {W : Wx} {G F : Hp} {Qx : XQ} {p : Addr} {o : HO} (f : FitX K W G F Qx) (hF : F p = none) : FitX K W G (upd F p o) Qx :=
  fun x m' d σ' G' H' q e W' r => f x m' d σ' G' H' q e (W'.unframe hF) r
section
variable {K : Fg} {W : Wx} {ι : Type} {X : ι → Cx} {pos : Pos} {a b c e : Expr} {es : List Expr} {wa wb wc w : WE}
/-! ### and, or, not, if-else -/
def wAnd (a b : WE) : WE := fun ρ m Q Qx => a ρ m (fun x m1 => match x with
  | .bl c => if c = true then b ρ m1 Q Qx else Q (.bl false) m1
  | _ => False) Qx
def wOr (a b : WE) : WE := fun ρ m Q Qx => a ρ m (fun x m1 => match x with
  | .bl c => if c = true then Q (.bl true) m1 else b ρ m1 Q Qx
  | _ => False) Qx
def wNot (a : WE) : WE := fun ρ m Q Qx => a ρ m (fun x m1 => match x with
  | .bl c => Q (.bl (!c)) m1
  | _ => False) Qx
theorem pd_and {rest : List Expr} (ha : PD K W X a wa) (hb : PD K W X (.BoolOp .And (b :: rest) pos) wb) : PD K W X (.BoolOp .And (a :: b :: rest) pos) (wAnd wa wb) := by
  obtain ⟨ta, h1, h2⟩ := ha
  obtain ⟨tb, h3, h4⟩ := hb
  refine ⟨_, fun i => pe_and (h1 i) (h3 i), ?_⟩
  intro G m F H σ ρ Q Qd Qx hW hE h hX hQ
  refine h2 G m F H σ ρ _ _ Qx hW hE h hX ?_
  intro dx m1 x G1 H1 q e1 W1 r1
  cases r1 <;> first | exact (show False from q).elim | skip
  rename_i k
  refine ⟨k, rfl, ?_⟩
  cases k with
  | true => exact h4 G1 m1 F H1 σ ρ Q Qd Qx W1 (hE.mono e1) q (hX.mono e1) fun d m' v G' H' z e => hQ d m' v G' H' z (e1.trans e)
  | false =>
    have q : Qd (.bl false) m1 := q
    exact hQ _ m1 _ G1 H1 q e1 W1 (.bl false)
theorem pd_or {rest : List Expr} (ha : PD K W X a wa) (hb : PD K W X (.BoolOp .Or (b :: rest) pos) wb) : PD K W X (.BoolOp .Or (a :: b :: rest) pos) (wOr wa wb) := by
  obtain ⟨ta, h1, h2⟩ := ha
  obtain ⟨tb, h3, h4⟩ := hb
  refine ⟨_, fun i => pe_or (h1 i) (h3 i), ?_⟩
  intro G m F H σ ρ Q Qd Qx hW hE h hX hQ
  refine h2 G m F H σ ρ _ _ Qx hW hE h hX ?_
  intro dx m1 x G1 H1 q e1 W1 r1
  cases r1 <;> first | exact (show False from q).elim | skip
  rename_i k
  refine ⟨k, rfl, ?_⟩
  cases k with
  | false => exact h4 G1 m1 F H1 σ ρ Q Qd Qx W1 (hE.mono e1) q (hX.mono e1) fun d m' v G' H' z e => hQ d m' v G' H' z (e1.trans e)
  | true =>
    have q : Qd (.bl true) m1 := q
    exact hQ _ m1 _ G1 H1 q e1 W1 (.bl true)
theorem pd_one {op : BoolOp} (ha : PD K W X a wa) : PD K W X (.BoolOp op [a] pos) wa := by
  obtain ⟨ta, h1, h2⟩ := ha
  exact ⟨ta, fun i => pe_one (h1 i), h2⟩
theorem pd_not (ha : PD K W X a wa) : PD K W X (.UnaryOp .Not a pos) (wNot wa) := by
  obtain ⟨ta, h1, h2⟩ := ha
  refine ⟨_, fun i => pe_not (h1 i), ?_⟩
  intro G m F H σ ρ Q Qd Qx hW hE h hX hQ
  refine h2 G m F H σ ρ _ _ Qx hW hE h hX ?_
  intro dx m1 x G1 H1 q e1 W1 r1
  cases r1 <;> first | exact (show False from q).elim | skip
  exact ⟨_, rfl, hQ _ m1 _ G1 H1 q e1 W1 (.bl _)⟩
/-! tests -/
def tvAnd (a b : WT) : WT := fun ρ m Q Qx => a ρ m (fun c m1 => if c = true then b ρ m1 Q Qx else Q false m1) Qx
def tvOr (a b : WT) : WT := fun ρ m Q Qx => a ρ m (fun c m1 => if c = true then Q true m1 else b ρ m1 Q Qx) Qx
def tvNot (a : WT) : WT := fun ρ m Q Qx => a ρ m (fun c m1 => Q (!c) m1) Qx
variable {ua ub : WT}
theorem pt_val (ha : PD K W X a wa) (he : ∀ i whole, isTrue a (X i).env whole = (do let v ← whole; standAt a.pos; holding [v] (truthy v)) := by intro _ _; rfl) : PDT K W X a (wTest wa) := by
  obtain ⟨ta, h1, h2⟩ := ha
  exact ⟨_, fun i => L2.pt_val (h1 i) (he i), lift_tB h2⟩
theorem pw_and1 (ha : PDT K W X a ua) : PDW K W X (.BoolOp .And [a] pos) ua := by
  obtain ⟨ta, h1, h2⟩ := ha
  exact ⟨_, fun i => L2.pw_and1 (h1 i), h2⟩
theorem pw_or1 (ha : PDT K W X a ua) : PDW K W X (.BoolOp .Or [a] pos) ua := by
  obtain ⟨ta, h1, h2⟩ := ha
  exact ⟨_, fun i => L2.pw_or1 (h1 i), h2⟩
theorem pw_and {rest : List Expr} (ha : PDT K W X a ua) (hb : PDW K W X (.BoolOp .And (b :: rest) pos) ub) : PDW K W X (.BoolOp .And (a :: b :: rest) pos) (tvAnd ua ub) := by
  obtain ⟨ta, h1, h2⟩ := ha
  obtain ⟨tb, h3, h4⟩ := hb
  refine ⟨_, fun i => L2.pw_and (h1 i) (h3 i), ?_⟩
  intro G m F H σ ρ Q Qd Qx hW hE h hX hQ
  refine h2 G m F H σ ρ _ _ Qx hW hE h hX ?_
  intro k m1 G1 H1 q e1 W1
  cases k with
  | true => exact h4 G1 m1 F H1 σ ρ Q Qd Qx W1 (hE.mono e1) q (hX.mono e1) fun d m' G' H' z e => hQ d m' G' H' z (e1.trans e)
  | false => exact hQ false m1 G1 H1 q e1 W1
theorem pw_or {rest : List Expr} (ha : PDT K W X a ua) (hb : PDW K W X (.BoolOp .Or (b :: rest) pos) ub) : PDW K W X (.BoolOp .Or (a :: b :: rest) pos) (tvOr ua ub) := by
  obtain ⟨ta, h1, h2⟩ := ha
  obtain ⟨tb, h3, h4⟩ := hb
  refine ⟨_, fun i => L2.pw_or (h1 i) (h3 i), ?_⟩
  intro G m F H σ ρ Q Qd Qx hW hE h hX hQ
  refine h2 G m F H σ ρ _ _ Qx hW hE h hX ?_
  intro k m1 G1 H1 q e1 W1
  cases k with
  | false => exact h4 G1 m1 F H1 σ ρ Q Qd Qx W1 (hE.mono e1) q (hX.mono e1) fun d m' G' H' z e => hQ d m' G' H' z (e1.trans e)
  | true => exact hQ true m1 G1 H1 q e1 W1
theorem pw_pt (h : PDW K W X a ua) : PDT K W X a ua := by
  obtain ⟨t, h1, h2⟩ := h
  exact ⟨t, fun i => (h1 i).pt, h2⟩
theorem pt_not (ha : PDT K W X a ua) : PDT K W X (.UnaryOp .Not a pos) (tvNot ua) := by
  obtain ⟨ta, h1, h2⟩ := ha
  refine ⟨_, fun i => L2.pt_not (h1 i), ?_⟩
  intro G m F H σ ρ Q Qd Qx hW hE h hX hQ
  exact h2 G m F H σ ρ _ _ Qx hW hE h hX fun k m1 G1 H1 q e1 W1 => hQ _ m1 G1 H1 q e1 W1
def wIf (t : WT) (a b : WE) : WE := fun ρ m Q Qx => t ρ m (fun c m1 => if c = true then a ρ m1 Q Qx else b ρ m1 Q Qx) Qx
theorem pd_if (hc : PDT K W X c ua) (ha : PD K W X a wa) (hb : PD K W X b wb) : PD K W X (.IfExp c a b pos) (wIf ua wa wb) := by
  obtain ⟨tc, h5, h6⟩ := hc
  obtain ⟨ta, h1, h2⟩ := ha
  obtain ⟨tb, h3, h4⟩ := hb
  refine ⟨_, fun i => pe_ifExp (h5 i) (h1 i) (h3 i), ?_⟩
  intro G m F H σ ρ Q Qd Qx hW hE h hX hQ
  refine h6 G m F H σ ρ _ _ Qx hW hE h hX ?_
  intro k m1 G1 H1 q e1 W1
  cases k with
  | true => exact h2 G1 m1 F H1 σ ρ Q Qd Qx W1 (hE.mono e1) q (hX.mono e1) fun d m' v G' H' z e => hQ d m' v G' H' z (e1.trans e)
  | false => exact h4 G1 m1 F H1 σ ρ Q Qd Qx W1 (hE.mono e1) q (hX.mono e1) fun d m' v G' H' z e => hQ d m' v G' H' z (e1.trans e)

/-! ### arguments, displays -/
def wNil : WA := fun _ m Q _ => Q [] m
def wCons (a : WE) (r : WA) : WA := fun ρ m Q Qx => a ρ m (fun x m1 => r ρ m1 (fun xs m2 => Q (x :: xs) m2) Qx) Qx
variable {wr : WA}
theorem pa_nil : PDA K W X [] wNil := ⟨_, fun _ => L2.pa_nil, fun G m F H σ ρ Q Qd Qx hW hE h hX hQ => hQ [] m [] G H h (Ex.refl G) hW .nil⟩
theorem pa_cons (ha : PD K W X e wa) (hr : PDA K W X es wr) (hs : ∀ i, starEach (e :: es) (X i).env = (false, eval e (X i).env) :: starEach es (X i).env := by intro _; rfl) : PDA K W X (e :: es) (wCons wa wr) := by
  obtain ⟨ta, h1, h2⟩ := ha
  obtain ⟨tr, h3, h4⟩ := hr
  refine ⟨_, fun i => L2.pa_cons (h1 i) (h3 i) (hs i), ?_⟩
  intro G m F H σ ρ Q Qd Qx hW hE h hX hQ
  refine h2 G m F H σ ρ _ _ Qx hW hE h hX ?_
  intro dx m1 x G1 H1 q e1 W1 r1
  refine h4 G1 m1 F H1 σ ρ _ _ Qx W1 (hE.mono e1) q (hX.mono e1) ?_
  intro ds m2 vs G2 H2 q2 e2 W2 r2
  exact hQ _ m2 _ G2 H2 q2 (e1.trans e2) W2 (.cons (r1.mono e2) r2)
def wLst (r : WA) : WE := fun ρ m Q Qx => r ρ m (fun ds m1 => ds.length ≤ sizeLine ∧ Q (.lst ds) m1) Qx
def wTup (r : WA) : WE := fun ρ m Q Qx => r ρ m (fun ds m1 => ds.length ≤ sizeLine ∧ Q (.tup ds) m1) Qx
/-- a new list that is owned: it may change -/
def wOwn (r : WA) : WE := fun ρ m Q Qx => r ρ m (fun ds m1 => ds.length ≤ sizeLine ∧ ∀ p, m1 p = none → Q (.box p) (m1.up p ds)) Qx
theorem pd_lst (h : PDA K W X es wr) : PD K W X (.List es pos) (wLst wr) := by
  obtain ⟨t, h1, h2⟩ := h
  refine ⟨_, fun i => pe_lst (h1 i), ?_⟩
  intro G m F H σ ρ Q Qd Qx hW hE h hX hQ
  refine h2 G m F H σ ρ _ _ Qx hW hE h hX ?_
  intro ds m1 vs G1 H1 q e1 W1 r1
  refine ⟨by rw [r1.len]; exact q.1, fun p hp => ?_⟩
  obtain ⟨e, W'⟩ := W1.new hp (.lst vs)
  exact hQ _ m1 _ _ _ q.2 (e1.trans e) W' (.lst upd_same (r1.mono e))
theorem pd_tup {x1 : Nat} (h : PDA K W X es wr) : PD K W X (.Tuple es x1 pos) (wTup wr) := by
  obtain ⟨t, h1, h2⟩ := h
  refine ⟨_, fun i => pe_tup (h1 i), ?_⟩
  intro G m F H σ ρ Q Qd Qx hW hE h hX hQ
  refine h2 G m F H σ ρ _ _ Qx hW hE h hX ?_
  intro ds m1 vs G1 H1 q e1 W1 r1
  refine ⟨by rw [r1.len]; exact q.1, fun p hp => ?_⟩
  obtain ⟨e, W'⟩ := W1.new hp (.tup vs)
  exact hQ _ m1 _ _ _ q.2 (e1.trans e) W' (.tup (SqT.of upd_same) (r1.mono e))
theorem pd_own (h : PDA K W X es wr) : PD K W X (.List es pos) (wOwn wr) := by
  obtain ⟨t, h1, h2⟩ := h
  refine ⟨_, fun i => pe_lst (h1 i), ?_⟩
  intro G m F H σ ρ Q Qd Qx hW hE h hX hQ
  refine h2 G m F H σ ρ _ _ Qx hW hE h hX ?_
  intro ds m1 vs G1 H1 q e1 W1 r1
  refine ⟨by rw [r1.len]; exact q.1, fun p hp => ?_⟩
  obtain ⟨e, W'⟩ := W1.newOwn hp r1
  exact hQ _ _ _ _ _ (q.2 p e) e1 W' (.box p)
/-- {} -/
def wDct0 : WE := fun _ m Q _ => Q (.dct [] []) m
theorem pd_dct0 : PD K W X (.Dict [] [] pos) wDct0 := by
  refine ⟨_, fun i => pe_dnewK, ?_⟩
  intro G m F H σ ρ Q Qd Qx hW hE h hX hQ
  intro p hp
  obtain ⟨e, W'⟩ := hW.new hp (.dK [])
  exact hQ _ m _ _ _ h e W' (.dct (kvs := []) (vs := []) upd_same rfl rfl .nil)
/-- {'k': v}: one written text as the key -/
def wDct1 (k : Str) (v : WE) : WE := fun ρ m Q Qx => v ρ m (fun d m1 => Q (.dct [.inr k] [d]) m1) Qx
theorem pd_dct1 {k : Str} {j : Nat} {pk : Pos} {v : Expr} {wv : WE} (hv : PD K W X v wv) : PD K W X (.Dict [some (.Constant (.str k) j pk)] [v] pos) (wDct1 k wv) := by
  obtain ⟨tv, h1, h2⟩ := hv
  refine ⟨_, fun i => pe_disp (pps_cons pe_str (h1 i) pps_nil) (by rfl) (by rfl) (fun z => by cases z) (by show 1 ≤ 15; decide), ?_⟩
  intro G m F H σ ρ Q Qd Qx hW hE h hX hQ
  intro p hp
  obtain ⟨hG, hm, hF⟩ := hW.fresh hp
  have W0 := hW.frame hp (.dK [])
  show tv σ (upd H p (.dK [])) _
  refine h2 G m (upd F p (.dK [])) _ σ ρ _ (fun d m1 => Qd (.dct [.inr k] [d]) m1) Qx W0 hE h (hX.frame hF) ?_
  intro d m1 v G1 H1 q e1 W1 r1
  refine ⟨W1.fr p _ upd_same, [(.inr k, v)], rfl, (by show 1 ≤ 15; decide), ?_⟩
  have W2 := W1.reframe (.dK (mergeK [] [((.inr k : Key), v)]))
  obtain ⟨e3, W3⟩ := W2.adopt hF
  exact hQ _ m1 _ _ _ q (e1.trans e3) W3 (.dct upd_same rfl rfl (.cons (r1.mono e3) .nil))

/-! ### a[i], a[lo:hi], a[i] = v -/
def dIx : WR := fun x y m Q => match x, y with
  | .lst ds, .int i => ∃ d, atI ds i = some d ∧ Q d m
  | .tup ds, .int i => ∃ d, atI ds i = some d ∧ Q d m
  | .scr ns, .int i => ∃ d, atI ns i = some d ∧ Q (.int d) m
  | .box a, .int i => ∃ ds d, m a = some ds ∧ atI ds i = some d ∧ Q d m
  | .str z, .int i => z.length ≤ sizeLine ∧ ∃ c, atI z.cps.toList i = some c ∧ Q (.str ⟨#[c]⟩) m
  | _, _ => False
theorem RpA.atI {K : Fg} {G : Hp} {vs : List V} {ds : List D} {i : Int} {d : D} (r : RpA K G vs ds) (h : L2.atI ds i = some d) : ∃ v, L2.atI vs i = some v ∧ Rp K G v d := by
  unfold L2.atI at h ⊢
  rw [r.len]
  cases e : ixN ds.length i with
  | none => rw [e] at h; cases h
  | some j =>
    rw [e] at h
    exact r.at h
theorem atI_map {α β : Type} {f : α → β} {xs : List α} {i : Int} {x : α} (h : L2.atI xs i = some x) : L2.atI (xs.map f) i = some (f x) := by
  unfold L2.atI at h ⊢
  rw [List.length_map]
  cases e : ixN xs.length i with
  | none => rw [e] at h; cases h
  | some j =>
    rw [e] at h
    have h : xs[j]? = some x := h
    show (xs.map f)[j]? = some (f x)
    rw [List.getElem?_map, h]
    rfl
theorem lift_ix {K : Fg} : LiftR K (rIx K) dIx := by
  intro G m F H x y dx dy Q Qd hW rx ry h hQ
  cases rx <;> cases ry <;> first | exact (show False from h).elim | skip
  case lst.int a xs ds h1 r1 i =>
    obtain ⟨d, hd, q⟩ := h
    obtain ⟨v, hv, rv⟩ := r1.atI hd
    exact Or.inl ⟨a, xs, i, v, rfl, rfl, SqL.of (hW.ex _ _ h1), hv, hQ.here hW q rv⟩
  case tup.int a xs ds h1 r1 i =>
    obtain ⟨d, hd, q⟩ := h
    obtain ⟨v, hv, rv⟩ := r1.atI hd
    exact Or.inr (Or.inl ⟨a, xs, i, v, rfl, rfl, Evl.ex_t hW.ex h1, hv, hQ.here hW q rv⟩)
  case scr.int a ns h1 i =>
    obtain ⟨d, hd, q⟩ := h
    exact Or.inl ⟨a, _, i, _, rfl, rfl, Evl.ex_l hW.ex h1, atI_map hd, hQ.here hW q (.int d)⟩
  case box.int a i =>
    obtain ⟨ds, d, hm, hd, q⟩ := h
    obtain ⟨_, _, xs, hx, r1⟩ := hW.own a ds hm
    obtain ⟨v, hv, rv⟩ := r1.atI hd
    exact Or.inl ⟨a, xs, i, v, rfl, rfl, SqL.of hx, hv, hQ.here hW q rv⟩
  case str.int z i =>
    obtain ⟨hz, c, hc, q⟩ := h
    exact Or.inr (Or.inr ⟨z, i, c, rfl, rfl, hz, hc, hQ.here hW q (.str _)⟩)
theorem pd_ix (hK : ∀ i, (X i).K = K) (ha : PD K W X a wa) (hb : PD K W X b wb) (hs : PlainIx b := by exact fun _ _ => rfl) : PD K W X (.Subscript a b pos) (wOp dIx wa wb) := by
  obtain ⟨ta, h1, h2⟩ := ha
  obtain ⟨tb, h3, h4⟩ := hb
  exact ⟨_, fun i => pe_ix (hK i ▸ ix_seq) (h1 i) (h3 i) hs, lift_op lift_ix h2 h4⟩
def wNoPart : WO := fun _ m Q _ => Q none m
def wPart (a : WE) : WO := fun ρ m Q Qx => a ρ m (fun d m1 => match d with
  | .int i => Q (some i) m1
  | _ => False) Qx
theorem po_none : PDO K W X none wNoPart := ⟨_, fun _ => L2.po_none, fun G m F H σ ρ Q Qd Qx hW hE h hX hQ => hQ none m G H h (Ex.refl G) hW⟩
theorem po_some (ha : PD K W X a wa) : PDO K W X (some a) (wPart wa) := by
  obtain ⟨ta, h1, h2⟩ := ha
  refine ⟨_, fun i => L2.po_some (h1 i), ?_⟩
  intro G m F H σ ρ Q Qd Qx hW hE h hX hQ
  refine h2 G m F H σ ρ _ _ Qx hW hE h hX ?_
  intro d m1 x G1 H1 q e1 W1 r1
  cases r1 <;> first | exact (show False from q).elim | skip
  exact ⟨_, rfl, hQ _ m1 G1 H1 q e1 W1⟩
def cutD (ds : List D) (lo hi : Option Int) : List D := (ds.drop (HT.sIx ds.length 0 lo)).take (HT.sIx ds.length ds.length hi - HT.sIx ds.length 0 lo)
def dSl (x : D) (lo hi : Option Int) (m : Mem) (Q : D → Mem → Prop) : Prop := match x with
  | .lst ds => Q (.lst (cutD ds lo hi)) m
  | .tup ds => Q (.tup (cutD ds lo hi)) m
  | .str z => z.length ≤ sizeLine ∧ Q (.str (cutS z lo hi)) m
  | _ => False
theorem RpA.cut {K : Fg} {G : Hp} {vs : List V} {ds : List D} (r : RpA K G vs ds) (lo hi : Option Int) : RpA K G (cutV vs lo hi) (cutD ds lo hi) := by
  unfold cutV cutD
  rw [r.len]
  exact (r.drop _).take _
def rSlU (K : Fg) : V → Option Int → Option Int → Hp → VK → Prop := fun x lo hi H Q => rSlL K x lo hi H Q ∨ rSlA K x lo hi H Q ∨ rSlS x lo hi H Q
def wSl (a : WE) (l h : WO) : WE := fun ρ m Q Qx => a ρ m (fun x m1 => l ρ m1 (fun lo m2 => h ρ m2 (fun hi m3 => dSl x lo hi m3 Q) Qx) Qx) Qx
variable {wl wh : WO} {lo hi : Option Expr} {p2 : Pos}
theorem pd_sl (hK : ∀ i, (X i).K = K) (ha : PD K W X a wa) (hl : PDO K W X lo wl) (hh : PDO K W X hi wh) : PD K W X (.Subscript a (.Slice lo hi none p2) pos) (wSl wa wl wh) := by
  obtain ⟨ta, h1, h2⟩ := ha
  obtain ⟨tl, h3, h4⟩ := hl
  obtain ⟨th, h5, h6⟩ := hh
  refine ⟨_, fun i => pe_slice (r := rSlU K) (hK i ▸ (sl_list.or (sl_tupA.or sl_str))) (h1 i) (h3 i) (h5 i), ?_⟩
  intro G m F H σ ρ Q Qd Qx hW hE h hX hQ
  refine h2 G m F H σ ρ _ _ Qx hW hE h hX ?_
  intro dx m1 x G1 H1 q1 e1 W1 r1
  refine h4 G1 m1 F H1 σ ρ _ _ Qx W1 (hE.mono e1) q1 (hX.mono e1) ?_
  intro l m2 G2 H2 q2 e2 W2
  refine h6 G2 m2 F H2 σ ρ _ _ Qx W2 (hE.mono (e1.trans e2)) q2 (hX.mono (e1.trans e2)) ?_
  intro u m3 G3 H3 q3 e3 W3
  have e13 := (e1.trans e2).trans e3
  have r3 := r1.mono (e2.trans e3)
  cases r3 <;> first | exact (show False from q3).elim | skip
  case lst a0 xs ds hx rr =>
    refine Or.inl ⟨_, _, rfl, SqL.of (W3.ex _ _ hx), fun p hp => ?_⟩
    obtain ⟨e, W'⟩ := W3.new hp (.lst (cutV xs l u))
    exact hQ _ m3 _ _ _ q3 (e13.trans e) W' (.lst upd_same ((rr.cut l u).mono e))
  case tup a0 xs ds hx rr =>
    refine Or.inr (Or.inl ⟨_, _, rfl, Evl.ex_t W3.ex hx, fun hw => ?_, fun hw p hp => ?_⟩)
    · have ec : cutD ds l u = ds := by
        unfold cutD
        rw [← rr.len, hw.1, hw.2, List.drop_zero, Nat.sub_zero, rr.len, List.take_length]
      have q3 : Qd (.tup (cutD ds l u)) m3 := q3
      rw [ec] at q3
      exact hQ _ m3 _ _ _ q3 e13 W3 (.tup hx rr)
    · obtain ⟨e, W'⟩ := W3.new hp (.tup (cutV xs l u))
      exact hQ _ m3 _ _ _ q3 (e13.trans e) W' (.tup (SqT.of upd_same) ((rr.cut l u).mono e))
  case str z => exact Or.inr (Or.inr ⟨z, rfl, q3.1, hQ _ m3 _ _ _ q3.2 e13 W3 (.str _)⟩)

/-! ### calls -/
abbrev WC := List D → Mem → (D → Mem → Prop) → Prop
def LiftC (K : Fg) (r : List V → Hp → VK → Prop) (w : WC) : Prop := ∀ G m F H xs ds (Q : VK) (Qd : D → Mem → Prop), Wd K G m F H → RpA K G xs ds → w ds m Qd → FitE K G F Q Qd → r xs H Q
def wBi (w : WC) (a : WA) : WE := fun ρ m Q Qx => a ρ m (fun ds m1 => w ds m1 Q) Qx
theorem lift_cb {r : List V → Hp → VK → Prop} {w : WC} {ta : TA} {wa : WA} (hr : LiftC K r w) (ha : LiftA K W ta wa) : LiftE K W (tCB r ta) (wBi w wa) := by
  intro G m F H σ ρ Q Qd Qx hW hE h hX hQ
  refine ha G m F H σ ρ _ _ Qx hW hE h hX ?_
  intro ds m1 vs G1 H1 q e1 W1 r1
  exact hr G1 m1 F H1 vs ds Q Qd W1 r1 q fun d m' v G' H' z e => hQ d m' v G' H' z (e1.trans e)
/-- a built-in function, a built-in type, called -/
def BiU (K : Fg) {ι : Type} (X : ι → Cx) (f : Value) (w : WC) : Prop := ∃ r, (∀ i, CallR (X i) f r) ∧ LiftC K r w
theorem pd_bi {mg : Str → Option Value} {x : Str} {p : Pos} {id : String} {w : WC} {wr : WA} (hc : BiU K X (.builtin id) w) (hX : ∀ i, (X i).mg = mg) (hm : mg x = none) (hv : bootBuiltins x = some (.builtin id)) (ha : PDA K W X (e :: es) wr) (hg : ∀ i, Gl (X i) x := by intro _; rfl)
    (he : ∀ i, starEach (e :: es) (X i).env = (false, eval e (X i).env) :: starEach es (X i).env := by intro _; rfl) (hpl : ∀ i, (backTo pos (starEach es (X i).env)).any (·.1) = false := by intro _; rfl) (hn : x ≠ "__name__" := by decide) (hd : (x == ("__debug__" : Str)) = false := by decide) :
    PD K W X (.Call (.Name x p) (e :: es) [] pos) (wBi w wr) := by
  obtain ⟨r, c1, c2⟩ := hc
  obtain ⟨t, h1, h2⟩ := ha
  exact ⟨_, fun i => pe_callB (c1 i) (hg i) (by rw [hX i]; exact hm) hv (h1 i) hn hd (he i) (hpl i), lift_cb c2 h2⟩
theorem pd_bt {mg : Str → Option Value} {x : Str} {p : Pos} {id : String} {w : WC} {wr : WA} (hc : BiU K X (.type id) w) (hX : ∀ i, (X i).mg = mg) (hm : mg x = none) (hv : bootBuiltins x = some (.type id)) (ha : PDA K W X (e :: es) wr) (hg : ∀ i, Gl (X i) x := by intro _; rfl)
    (he : ∀ i, starEach (e :: es) (X i).env = (false, eval e (X i).env) :: starEach es (X i).env := by intro _; rfl) (hpl : ∀ i, (backTo pos (starEach es (X i).env)).any (·.1) = false := by intro _; rfl) (hn : x ≠ "__name__" := by decide) (hd : (x == ("__debug__" : Str)) = false := by decide) :
    PD K W X (.Call (.Name x p) (e :: es) [] pos) (wBi w wr) := by
  obtain ⟨r, c1, c2⟩ := hc
  obtain ⟨t, h1, h2⟩ := ha
  exact ⟨_, fun i => pe_callTy (c1 i) (hg i) (by rw [hX i]; exact hm) hv (h1 i) hn hd (he i) (hpl i), lift_cb c2 h2⟩
def dLen : WC := fun xs m Q => match xs with
  | [.lst ds] => Q (.int ds.length) m
  | [.tup ds] => Q (.int ds.length) m
  | [.scr ns] => Q (.int ns.length) m
  | [.box a] => ∃ ds, m a = some ds ∧ Q (.int ds.length) m
  | [.str z] => z.length ≤ sizeLine ∧ Q (.int z.length) m
  | _ => False
theorem b_len (hK : ∀ i, (X i).K = K) : BiU K X (.builtin "len") dLen := by
  refine ⟨_, fun i => hK i ▸ call_len, ?_⟩
  intro G m F H xs ds Q Qd hW r h hQ
  cases r with
  | nil => cases h
  | cons r1 t =>
    cases t with
    | cons _ _ => cases r1 <;> cases h
    | nil =>
      cases r1 <;> first | exact (show False from h).elim | skip
      case lst a xs ds hx rr => exact ⟨_, _, rfl, Or.inl ⟨_, SqL.of (hW.ex _ _ hx), rr.len.symm⟩, hQ.here hW h (.int _)⟩
      case tup a xs ds hx rr => exact ⟨_, _, rfl, Or.inr ⟨_, Evl.ex_t hW.ex hx, rr.len.symm⟩, hQ.here hW h (.int _)⟩
      case scr a ns hx => exact ⟨_, _, rfl, Or.inl ⟨_, Evl.ex_l hW.ex hx, (List.length_map _).symm⟩, hQ.here hW h (.int _)⟩
      case box a =>
        obtain ⟨ds, hm, q⟩ := h
        obtain ⟨_, _, xs, hx, rr⟩ := hW.own a ds hm
        exact ⟨_, _, rfl, Or.inl ⟨_, SqL.of hx, rr.len.symm⟩, hQ.here hW q (.int _)⟩
      case str z => exact ⟨_, _, rfl, ⟨h.1, rfl⟩, hQ.here hW h.2 (.int _)⟩
def dInt2 (f : Int → Int → Int) : WC := fun xs m Q => match xs with
  | [.int i, .int j] => Q (.int (f i j)) m
  | _ => False
theorem lift_int2 {f : Int → Int → Int} : LiftC K (fun xs H Q => ∃ i j, xs = [.int i, .int j] ∧ Q (.int (f i j)) H) (dInt2 f) := by
  intro G m F H xs ds Q Qd hW r h hQ
  unfold dInt2 at h
  split at h
  · cases r with
    | cons r1 t =>
      cases r1
      cases t with
      | cons r2 t =>
        cases r2
        cases t
        exact ⟨_, _, rfl, hQ.here hW h (.int _)⟩
  · cases h
abbrev dMax : WC := dInt2 fun i j => if j > i then j else i
abbrev dMin : WC := dInt2 fun i j => if j < i then j else i
theorem b_max (hc : ∀ i, (X i).calm = true) : BiU K X (.builtin "max") dMax := ⟨_, fun i => call_max2 (hc i), lift_int2⟩
theorem b_min (hc : ∀ i, (X i).calm = true) : BiU K X (.builtin "min") dMin := ⟨_, fun i => call_min2 (hc i), lift_int2⟩
/-! isinstance against a built-in type -/
def tyD : D → String
  | .non => "NoneType" | .bl _ => "bool" | .int _ => "int" | .str _ => "str" | .ty _ => "type" | .lst _ => "list" | .tup _ => "tuple" | .dct _ _ => "dict" | .scr _ => "list" | .box _ => "list" | .obj _ _ _ => "object"
def isTyped : D → Bool
  | .ty _ => false | .box _ => false | .obj _ _ _ => false | _ => true
theorem ty_of {K : Fg} {G H : Hp} {v : V} {d : D} (e : Ex G H) (r : Rp K G v d) (ht : isTyped d = true) : TyX K H v (.type (tyD d)) := by
  cases r with
  | non => exact .base .non
  | bl b => exact .base (.bl b)
  | int i => exact .base (.int i)
  | str x => exact .base (.str x)
  | ty n => cases ht
  | box a => cases ht
  | obj _ _ _ _ _ => cases ht
  | lst h r => exact .base (.lst (e _ _ h))
  | dct h _ _ _ => exact .base (.dK (e _ _ h))
  | tup h r =>
    rcases Evl.ex_t e h with (h | ⟨o, h⟩) | ⟨o, its, n, hk, hc, _⟩
    · exact .base (.tup h)
    · exact .fTuple h
    · exact .kTuple hk hc
  | scr h =>
    rcases Evl.ex_l e h with (h | ⟨o, h⟩) | ⟨o, its, n, hk, hc, _⟩
    · exact .base (.lst h)
    · exact .base (.frz h)
    · exact .kList hk hc
def intB : D → Bool
  | .int _ => true | .bl _ => true | _ => false
def blB : D → Bool
  | .bl _ => true | _ => false
def strB : D → Bool
  | .str _ => true | _ => false
def lstB : D → Bool
  | .lst _ => true | .scr _ => true | .box _ => true | _ => false
def tupB : D → Bool
  | .tup _ => true | _ => false
def dctB : D → Bool
  | .dct _ _ => true | _ => false
/-- isinstance of a datum against a built-in type -/
def isaB (n : String) (x : D) : Option Bool := if n = "int" then some (intB x) else if n = "bool" then some (blB x) else if n = "str" then some (strB x) else if n = "list" then some (lstB x) else if n = "tuple" then some (tupB x) else if n = "dict" then some (dctB x) else none
theorem isa_int {x : D} : isaB "int" x = some (intB x) := if_pos rfl
theorem isa_bool {x : D} : isaB "bool" x = some (blB x) := (if_neg (by decide)).trans (if_pos rfl)
theorem isa_str {x : D} : isaB "str" x = some (strB x) := (if_neg (by decide)).trans ((if_neg (by decide)).trans (if_pos rfl))
theorem isa_list {x : D} : isaB "list" x = some (lstB x) := (if_neg (by decide)).trans ((if_neg (by decide)).trans ((if_neg (by decide)).trans (if_pos rfl)))
theorem isa_tuple {x : D} : isaB "tuple" x = some (tupB x) := (if_neg (by decide)).trans ((if_neg (by decide)).trans ((if_neg (by decide)).trans ((if_neg (by decide)).trans (if_pos rfl))))
theorem isa_dict {x : D} : isaB "dict" x = some (dctB x) := (if_neg (by decide)).trans ((if_neg (by decide)).trans ((if_neg (by decide)).trans ((if_neg (by decide)).trans ((if_neg (by decide)).trans (if_pos rfl)))))
theorem kit_isa {n : String} {x : D} {b : Bool} (hx : isTyped x = true) (h : isaB n x = some b) : kitB (tyD x) n = some b := by
  unfold isaB at h
  by_cases c : n = "int"
  · subst c; rw [if_pos rfl] at h; cases h
    cases x <;> first | (cases hx; done) | (simp only [tyD, intB]; decide +kernel)
  rw [if_neg c] at h
  by_cases c : n = "bool"
  · subst c; rw [if_pos rfl] at h; cases h
    cases x <;> first | (cases hx; done) | (simp only [tyD, blB]; decide +kernel)
  rw [if_neg c] at h
  by_cases c : n = "str"
  · subst c; rw [if_pos rfl] at h; cases h
    cases x <;> first | (cases hx; done) | (simp only [tyD, strB]; decide +kernel)
  rw [if_neg c] at h
  by_cases c : n = "list"
  · subst c; rw [if_pos rfl] at h; cases h
    cases x <;> first | (cases hx; done) | (simp only [tyD, lstB]; decide +kernel)
  rw [if_neg c] at h
  by_cases c : n = "tuple"
  · subst c; rw [if_pos rfl] at h; cases h
    cases x <;> first | (cases hx; done) | (simp only [tyD, tupB]; decide +kernel)
  rw [if_neg c] at h
  by_cases c : n = "dict"
  · subst c; rw [if_pos rfl] at h; cases h
    cases x <;> first | (cases hx; done) | (simp only [tyD, dctB]; decide +kernel)
  rw [if_neg c] at h
  cases h
def dIsi : WC := fun xs m Q => match xs with
  | [x, .ty n] => isTyped x = true ∧ ∃ b, isaB n x = some b ∧ Q (.bl b) m
  | _ => False
theorem b_isi (hK : ∀ i, (X i).K = K) : BiU K X (.builtin "isinstance") dIsi := by
  refine ⟨_, fun i => hK i ▸ call_isi, ?_⟩
  intro G m F H xs ds Q Qd hW r h hQ
  unfold dIsi at h
  split at h
  · obtain ⟨h1, b, hb, q⟩ := h
    cases r with
    | cons r1 t =>
      cases t with
      | cons r2 t =>
        cases r2
        cases t
        exact ⟨_, _, _, _, b, rfl, .ty _, ty_of hW.ex r1 h1, kit_ty (kit_isa h1 hb), hQ.here hW q (.bl b)⟩
  · cases h
/-! all, any, sum -/
def blsD : List D → Option (List Bool)
  | [] => some []
  | .bl b :: ds => (blsD ds).map (b :: ·)
  | _ => none
theorem bls_of {K : Fg} {G : Hp} : ∀ {vs : List V} {ds : List D} {bs : List Bool}, RpA K G vs ds → blsD ds = some bs → vs = bs.map V.bl
  | _, _, bs, .nil, h => by cases h; rfl
  | _, _, bs, .cons r t, h => by
    cases r <;> first | (cases h; done) | skip
    rename_i ds b
    unfold blsD at h
    cases e : blsD ds with
    | none => rw [e] at h; cases h
    | some cs =>
      rw [e] at h
      cases h
      rw [bls_of t e]
      rfl
def intsD : List D → Option (List Int)
  | [] => some []
  | .int b :: ds => (intsD ds).map (b :: ·)
  | _ => none
theorem ints_of {K : Fg} {G : Hp} : ∀ {vs : List V} {ds : List D} {bs : List Int}, RpA K G vs ds → intsD ds = some bs → vs = bs.map V.int
  | _, _, bs, .nil, h => by cases h; rfl
  | _, _, bs, .cons r t, h => by
    cases r <;> first | (cases h; done) | skip
    rename_i ds b
    unfold intsD at h
    cases e : intsD ds with
    | none => rw [e] at h; cases h
    | some cs =>
      rw [e] at h
      cases h
      rw [ints_of t e]
      rfl
def strsD : List D → Option (List Str)
  | [] => some []
  | .str b :: ds => (strsD ds).map (b :: ·)
  | _ => none
theorem strs_of {K : Fg} {G : Hp} : ∀ {vs : List V} {ds : List D} {bs : List Str}, RpA K G vs ds → strsD ds = some bs → vs = bs.map V.str
  | _, _, bs, .nil, h => by cases h; rfl
  | _, _, bs, .cons r t, h => by
    cases r <;> first | (cases h; done) | skip
    rename_i ds b
    unfold strsD at h
    cases e : strsD ds with
    | none => rw [e] at h; cases h
    | some cs =>
      rw [e] at h
      cases h
      rw [strs_of t e]
      rfl
def dBls (f : List Bool → Bool) : WC := fun xs m Q => match xs with
  | [.lst ds] => ∃ bs, blsD ds = some bs ∧ Q (.bl (f bs)) m
  | _ => False
theorem lift_bls {f : List Bool → Bool} : LiftC K (fun vs H Q => ∃ (a : Addr) (bs : List Bool), vs = [V.ref a] ∧ SqL K H a (bs.map V.bl) ∧ Q (.bl (f bs)) H) (dBls f) := by
  intro G m F H xs ds Q Qd hW r h hQ
  unfold dBls at h
  split at h
  · obtain ⟨bs, hb, q⟩ := h
    cases r with
    | cons r1 t =>
      cases t
      cases r1 with
      | lst hx rr =>
        rw [bls_of rr hb] at hx
        exact ⟨_, bs, rfl, SqL.of (hW.ex _ _ hx), hQ.here hW q (.bl _)⟩
  · cases h
theorem b_all (hK : ∀ i, (X i).K = K) (hc : ∀ i, (X i).calm = true) : BiU K X (.builtin "all") (dBls fun bs => bs.all id) := ⟨_, fun i => hK i ▸ cr_all (hc i), lift_bls⟩
theorem b_any (hK : ∀ i, (X i).K = K) (hc : ∀ i, (X i).calm = true) : BiU K X (.builtin "any") (dBls fun bs => bs.any id) := ⟨_, fun i => hK i ▸ cr_any (hc i), lift_bls⟩
def dSum : WC := fun xs m Q => match xs with
  | [.lst ds] => ∃ bs, intsD ds = some bs ∧ Q (.int bs.sum) m
  | _ => False
theorem b_sum (hK : ∀ i, (X i).K = K) (hc : ∀ i, (X i).calm = true) : BiU K X (.builtin "sum") dSum := by
  refine ⟨_, fun i => hK i ▸ cr_sum (hc i), ?_⟩
  intro G m F H xs ds Q Qd hW r h hQ
  unfold dSum at h
  split at h
  · obtain ⟨bs, hb, q⟩ := h
    cases r with
    | cons r1 t =>
      cases t
      cases r1 with
      | lst hx rr =>
        rw [ints_of rr hb] at hx
        exact ⟨_, bs, rfl, SqL.of (hW.ex _ _ hx), hQ.here hW q (.int _)⟩
  · cases h
/-- tuple(xs), list(xs) -/
def dTuple : WC := fun xs m Q => match xs with
  | [.lst ds] => Q (.tup ds) m
  | [.tup ds] => Q (.tup ds) m
  | _ => False
theorem b_tuple (hK : ∀ i, (X i).K = K) : BiU K X (.type "tuple") dTuple := by
  refine ⟨_, fun i => hK i ▸ call_tuple_of, ?_⟩
  intro G m F H xs ds Q Qd hW r h hQ
  unfold dTuple at h
  split at h
  · cases r with
    | cons r1 t =>
      cases t
      cases r1 with
      | lst hx rr => exact ⟨_, _, rfl, Or.inl ⟨SqL.of (hW.ex _ _ hx), hQ.tup hW h rr⟩⟩
  · cases r with
    | cons r1 t =>
      cases t
      cases r1 with
      | tup hx rr => exact ⟨_, _, rfl, Or.inr ⟨Evl.ex_t hW.ex hx, hQ.here hW h (.tup hx rr)⟩⟩
  · cases h
def dList : WC := fun xs m Q => match xs with
  | [.lst ds] => Q (.lst ds) m
  | [.tup ds] => Q (.lst ds) m
  | _ => False
theorem b_list (hK : ∀ i, (X i).K = K) : BiU K X (.type "list") dList := by
  refine ⟨_, fun i => hK i ▸ call_list_of, ?_⟩
  intro G m F H xs ds Q Qd hW r h hQ
  unfold dList at h
  split at h
  · cases r with
    | cons r1 t =>
      cases t
      cases r1 with
      | lst hx rr => exact ⟨_, _, rfl, Or.inl (SqL.of (hW.ex _ _ hx)), hQ.lst hW h rr⟩
  · cases r with
    | cons r1 t =>
      cases t
      cases r1 with
      | tup hx rr => exact ⟨_, _, rfl, Or.inr (Evl.ex_t hW.ex hx), hQ.lst hW h rr⟩
  · cases h
/-! repr -/
structure Shows (d : PyData) : Prop where
  lay : d.canLay0 = true
  show1 : d.showable = true
  nod : d.hasDict = false
  deep : d.depth ≤ 60
  size : d.shown.length ≤ sizeLine
def dRepr : WC := fun xs m Q => match xs with
  | [.bl b] => Q (.str (if b then "True" else "False")) m
  | [.int i] => i.natAbs.log2 < 1920 ∧ Q (.str (toString i)) m
  | [.lst ds] => Shows (py (.lst ds)) ∧ Q (.str (py (.lst ds)).shown) m
  | [.tup ds] => Shows (py (.tup ds)) ∧ Q (.str (py (.tup ds)).shown) m
  | _ => False
def rReprB : List V → Hp → VK → Prop := fun xs H Q => ∃ b, xs = [.bl b] ∧ Q (.str (if b then "True" else "False")) H
theorem call_reprB {X : Cx} : CallR X (.builtin "repr") rReprB := by
  intro pins s σ H xs us Q I r h
  obtain ⟨b, rfl, q⟩ := h
  cases r with
  | cons r1 t =>
    cases t
    cases r1
    exact PySem.P.repr_of_bool ⟨.str _, H, I.tok _, ⟨_, rfl⟩, q⟩
def rReprI : List V → Hp → VK → Prop := fun xs H Q => ∃ i, xs = [.int i] ∧ i.natAbs.log2 < 1920 ∧ Q (.str (toString i)) H
theorem call_reprI {X : Cx} : CallR X (.builtin "repr") rReprI := by
  intro pins s σ H xs us Q I r h
  obtain ⟨i, rfl, hz, q⟩ := h
  cases r with
  | cons r1 t =>
    cases t
    obtain ⟨t, rfl⟩ := r1
    exact PySem.P.repr_of_int hz ⟨.str _, H, I.tok _, ⟨_, rfl⟩, q⟩
def rReprL (K : Fg) : List V → Hp → VK → Prop := fun xs H Q => ∃ a d, xs = [.ref a] ∧ Dp K H (.ref a) d ∧ d.showable = true ∧ d.hasDict = false ∧ d.depth ≤ 60 ∧ d.shown.length ≤ sizeLine ∧ Q (.str d.shown) H
theorem call_reprL {X : Cx} (hc : X.A.guards = some []) (hu : X.A.units + 64 < cLine) : CallR X (.builtin "repr") (rReprL X.K) := by
  intro pins s σ H xs us Q I r h
  obtain ⟨a, d, rfl, hd, hs, hh, hdp, hl, q⟩ := h
  cases r with
  | cons r1 t =>
    cases t
    cases r1
    obtain ⟨as, hr⟩ := Dp.reads I d _ _ hd rfl
    refine repr_of_reads' hr hs (fun z => by rw [hh] at z; cases z) hc (by omega) (fun _ _ q => q) (fun h' u tk k => ?_) hl
    exact ⟨.str d.shown, H, I.kept k, ⟨u, rfl⟩, q⟩
end
end DL
namespace DL
open PySem L2
open Evl (Ex)
/-! ### families: the guards too -/
structure FamG (P : Program) (w : World) (K : Fg) (mg : Str → Option Value) (base : Heap) (k : Nat) (N : List Str) {ι : Type} (X : ι → Cx) : Prop extends Fam P w K mg base k N X where
  guards : ∀ i, (X i).A.guards = some []
theorem call_or {X : Cx} {f : Value} {r r' : List V → Hp → VK → Prop} (h : CallR X f r) (h' : CallR X f r') : CallR X f (fun xs H Q => r xs H Q ∨ r' xs H Q) := by
  intro pins s σ H xs us Q I rv q
  rcases q with q | q
  · exact h pins s σ H xs us Q I rv q
  · exact h' pins s σ H xs us Q I rv q
theorem b_repr {P : Program} {w : World} {K : Fg} {mg : Str → Option Value} {base : Heap} {k : Nat} {N : List Str} {ι : Type} {X : ι → Cx} (hX : FamG P w K mg base k N X) : BiU K X (.builtin "repr") dRepr := by
  refine ⟨_, fun i => call_or (call_or call_reprB call_reprI) (hX.K i ▸ call_reprL (hX.guards i) (by have := (hX.room i).un; omega)), ?_⟩
  intro G m F H xs ds Q Qd hW r h hQ
  unfold dRepr at h
  split at h
  · cases r with
    | cons r1 t =>
      cases t
      cases r1
      exact Or.inl (Or.inl ⟨_, rfl, hQ.here hW h (.str _)⟩)
  · cases r with
    | cons r1 t =>
      cases t
      cases r1
      exact Or.inl (Or.inr ⟨_, rfl, h.1, hQ.here hW h.2 (.str _)⟩)
  · obtain ⟨h0, q⟩ := h
    cases r with
    | cons r1 t =>
      cases t
      have hd := dp_of hW.ex (D.lst _) r1 h0.lay
      cases r1 with
      | lst hx rr => exact Or.inr ⟨_, _, rfl, hd, h0.show1, h0.nod, h0.deep, h0.size, hQ.here hW q (.str _)⟩
  · obtain ⟨h0, q⟩ := h
    cases r with
    | cons r1 t =>
      cases t
      have hd := dp_of hW.ex (D.tup _) r1 h0.lay
      cases r1 with
      | tup hx rr => exact Or.inr ⟨_, _, rfl, hd, h0.show1, h0.nod, h0.deep, h0.size, hQ.here hW q (.str _)⟩
  · cases h
/-- the contexts of a comprehension's blocks -/
abbrev BI (ι : Type) := ι × Shared × Hp × Addr × List (Str × Addr) × List Addr
def Blk {ι : Type} (X : ι → Cx) (scope : Scope) : BI ι → Cx := fun j => (X j.1).blk j.2.1 j.2.2.1 scope (compEnvC scope j.2.2.2.2.1 j.2.2.2.1 (X j.1).env) j.2.2.2.2.2
theorem FamG.blk {P : Program} {w : World} {K : Fg} {mg : Str → Option Value} {base : Heap} {k : Nat} {N : List Str} {ι : Type} {X : ι → Cx} (hX : FamG P w K mg base k N X) (scope : Scope) : FamG P w K mg base k N (Blk X scope) where
  prog := fun j => hX.prog j.1
  w := fun j => hX.w j.1
  K := fun j => hX.K j.1
  mg := fun j => hX.mg j.1
  base := fun j => hX.base j.1
  hN := fun j => hX.hN j.1
  calm := fun j => hX.calm j.1
  room := fun j => hX.room j.1
  nd := hX.nd
  guards := fun j => hX.guards j.1

/-! ### targets -/
theorem wipe_ix (σ : L2.St) : ∀ (vs : List Nat) (i : Nat), (L2.wipe σ vs)[i]? = if i ∈ vs then (σ[i]?).map (fun _ => none) else σ[i]?
  | [], i => by simp [L2.wipe]
  | v :: vs, i => by
    unfold L2.wipe
    rw [List.getElem?_set]
    by_cases h : v = i
    · subst h
      rw [if_pos rfl, if_pos List.mem_cons_self, wipe_length]
      by_cases hl : v < σ.length
      · rw [if_pos hl, List.getElem?_eq_getElem hl]; rfl
      · rw [if_neg hl, List.getElem?_eq_none (Nat.le_of_not_lt hl)]; rfl
    · rw [if_neg h, wipe_ix σ vs i]
      by_cases hm : i ∈ vs
      · rw [if_pos hm, if_pos (List.mem_cons_of_mem _ hm)]
      · rw [if_neg hm, if_neg (by intro z; rcases List.mem_cons.mp z with z | z; exact h z.symm; exact hm z)]
theorem wipe_put {σ : L2.St} {vs : List Nat} {j : Nat} {o : Option V} (h : j ∈ vs) : L2.wipe (σ.set j o) vs = L2.wipe σ vs := by
  apply List.ext_getElem?
  intro i
  rw [wipe_ix, wipe_ix]
  by_cases hm : i ∈ vs
  · rw [if_pos hm, if_pos hm, List.getElem?_set]
    by_cases e : j = i
    · subst e
      rw [if_pos rfl]
      by_cases hl : j < σ.length
      · rw [if_pos hl, List.getElem?_eq_getElem hl]; rfl
      · rw [if_neg hl, List.getElem?_eq_none (Nat.le_of_not_lt hl)]
    · rw [if_neg e]
  · rw [if_neg hm, if_neg hm, List.getElem?_set, if_neg (fun e2 => hm (by rw [← e2]; exact h))]
theorem wipe_wipe {σ : L2.St} {vs : List Nat} : L2.wipe (L2.wipe σ vs) vs = L2.wipe σ vs := by
  apply List.ext_getElem?
  intro i
  rw [wipe_ix, wipe_ix]
  by_cases hm : i ∈ vs
  · rw [if_pos hm, if_pos hm]
    cases σ[i]? <;> rfl
  · rw [if_neg hm, if_neg hm]
abbrev WG := D → En0 → (En0 → Prop) → Prop
abbrev WGs := List D → En0 → (En0 → Prop) → Prop
def LiftG (K : Fg) (js : List Nat) (t : TG) (g : WG) : Prop := ∀ G m F H v d σ ρ (Q : L2.St → Hp → Prop) (Qd : En0 → Prop), Wd K G m F H → En K G σ ρ → Rp K G v d → g d ρ Qd →
  (∀ ρ' σ', Qd ρ' → En K G σ' ρ' → (∀ vs, (∀ j ∈ js, j ∈ vs) → L2.wipe σ' vs = L2.wipe σ vs) → Q σ' H) → t v σ H Q
def LiftGs (K : Fg) (js : List Nat) (t : TGs) (g : WGs) : Prop := ∀ G m F H vs ds σ ρ (Q : L2.St → Hp → Prop) (Qd : En0 → Prop), Wd K G m F H → En K G σ ρ → RpA K G vs ds → g ds ρ Qd →
  (∀ ρ' σ', Qd ρ' → En K G σ' ρ' → (∀ vs, (∀ j ∈ js, j ∈ vs) → L2.wipe σ' vs = L2.wipe σ vs) → Q σ' H) → t vs σ H Q
def PDG (K : Fg) {ι : Type} (X : ι → Cx) (tg : Expr) (js : List Nat) (g : WG) : Prop := ∃ t, (∀ i, PG (X i) tg t) ∧ LiftG K js t g
def PDGs (K : Fg) {ι : Type} (X : ι → Cx) (tgs : List Expr) (js : List Nat) (g : WGs) : Prop := ∃ t, (∀ i, PGs (X i) tgs t) ∧ LiftGs K js t g
def gvName (i : Nat) : WG := fun d ρ Q => Q (ρ.set i (some d))
def gvNil : WGs := fun ds ρ Q => ds = [] ∧ Q ρ
def gvCons (g : WG) (r : WGs) : WGs := fun ds ρ Q => ∃ d t, ds = d :: t ∧ g d ρ fun ρ1 => r t ρ1 Q
def gvTup (n : Nat) (g : WGs) : WG := fun d ρ Q => match d with
  | .tup ds => ds.length = n ∧ g ds ρ Q
  | _ => False
section
variable {K : Fg} {W : Wx} {ι : Type} {X : ι → Cx} {pos : Pos} {a b c e : Expr} {es : List Expr} {wa wb wc w : WE} {wr : WA}
theorem pg_name (i : Nat) {N : List Str} {x : Str} (hX : ∀ j, (X j).N = N) (hN : N.Nodup) (hi : N[i]? = some x := by rfl) (hx : ∀ j, Loc (X j).env.scope x := by intro _; first | exact Or.inl rfl | exact Or.inr rfl) (hf : ∀ j, (X j).fn x = true ∨ (X j).env.scope.names.lookup x = some .local := by intro _; first | exact Or.inl rfl | exact Or.inr rfl) : PDG K X (.Name x pos) [i] (gvName i) := by
  refine ⟨_, fun j => L2.pg_name (i := i) (by rw [hX j]; exact hN) (by rw [hX j]; exact hi) (hx j) (hf j), ?_⟩
  intro G m F H v d σ ρ Q Qd hW hE r h hQ
  exact hQ _ _ h (hE.put r i) fun vs hv => wipe_put (hv i List.mem_cons_self)
theorem pgs_nil : PDGs K X [] [] gvNil := by
  refine ⟨_, fun j => L2.pgs_nil, ?_⟩
  intro G m F H vs ds σ ρ Q Qd hW hE r h hQ
  obtain ⟨rfl, h⟩ := h
  cases r
  exact ⟨rfl, hQ _ _ h hE fun _ _ => rfl⟩
theorem pgs_cons {js js' : List Nat} {g : WG} {gs : WGs} (h1 : PDG K X e js g) (h2 : PDGs K X es js' gs) (hs : ∀ i, (assignEach (e :: es) (X i).env).map (·.2) = assign e (X i).env :: (assignEach es (X i).env).map (·.2) := by intro _; rfl) : PDGs K X (e :: es) (js ++ js') (gvCons g gs) := by
  obtain ⟨t, a1, a2⟩ := h1
  obtain ⟨u, b1, b2⟩ := h2
  refine ⟨_, fun j => L2.pgs_cons (a1 j) (b1 j) (hs j), ?_⟩
  intro G m F H vs ds σ ρ Q Qd hW hE r h hQ
  obtain ⟨d, t', rfl, h⟩ := h
  cases r with
  | cons r1 r2 =>
    refine ⟨_, _, rfl, a2 G m F H _ d σ ρ _ _ hW hE r1 h ?_⟩
    intro ρ1 σ1 h1 hE1 w1
    refine b2 G m F H _ t' σ1 ρ1 _ _ hW hE1 r2 h1 ?_
    intro ρ2 σ2 h2 hE2 w2
    exact hQ ρ2 σ2 h2 hE2 fun vs hv => (w2 vs fun j hj => hv j (List.mem_append_right _ hj)).trans (w1 vs fun j hj => hv j (List.mem_append_left _ hj))
theorem pg_tup {n : Nat} {js : List Nat} {g : WGs} {kx : Nat} (hK : ∀ i, (X i).K = K) (hc : ∀ i, (X i).calm = true) (h : PDGs K X es js g) (hn : ∀ i, (assignEach es (X i).env).length = n := by intro _; rfl) (hst : ∀ i, (assignEach es (X i).env).findIdx? (·.1) = none := by intro _; rfl) : PDG K X (.Tuple es kx pos) js (gvTup n g) := by
  obtain ⟨t, a1, a2⟩ := h
  refine ⟨gTup K n t, fun j => hK j ▸ L2.pg_tup (hc j) (a1 j) (hn j) (hst j), ?_⟩
  intro G m F H v d σ ρ Q Qd hW hE r h hQ
  cases r <;> first | exact (show False from h).elim | skip
  case tup a0 xs ds hx rr => exact ⟨_, _, rfl, Evl.ex_t hW.ex hx, by rw [rr.len]; exact h.1, a2 G m F H xs ds σ ρ Q Qd hW hE rr h.2 hQ⟩

/-! ### what is walked -/
def DW (K : Fg) (J : It) (ds : List D) (G0 : Hp) : Prop := ∃ Gd Y, Walk J ds.length Gd Y ∧ ∀ G m F H, Ex G0 G → Wd K G m F H → Gd H ∧
  ∀ i H' x d, ds[i]? = some d → Y i H x H' → ∃ G', Ex G G' ∧ Wd K G' m F H' ∧ Rp K G' x d
theorem DW.mono {J : It} {ds : List D} {G G' : Hp} (h : DW K J ds G) (e : Ex G G') : DW K J ds G' := by
  obtain ⟨Gd, Y, w, k⟩ := h
  exact ⟨Gd, Y, w, fun G2 m F H e2 W => k G2 m F H (e.trans e2) W⟩
def LiftI (K : Fg) (W : Wx) (t : TI) (w : WA) : Prop := ∀ G m F H σ ρ (R : It → Hp → Prop) (Qd : List D → Mem → Prop) (Qx : XQ), Wd K G m F H → En K G σ ρ → w ρ m Qd Qx → FitX K W G F Qx →
  (∀ ds m' J G' H', Qd ds m' → Ex G G' → Wd K G' m' F H' → DW K J ds G' → R J H') → t σ H R
def PDI (K : Fg) (W : Wx) {ι : Type} (X : ι → Cx) (tg iter : Expr) (w : WA) : Prop := ∃ t, (∀ i, PI (X i) tg iter t) ∧ LiftI K W t w
/-- a list's items -/
def iLst (w : WE) : WA := fun ρ m Q Qx => w ρ m (fun d m1 => match d with
  | .lst ds => Q ds m1
  | .scr ns => Q (ns.map D.int) m1
  | _ => False) Qx
theorem dw_list {a : Addr} {xs : List V} {ds : List D} {G : Hp} (h : G a = some (.lst xs)) (r : RpA K G xs ds) : DW K (Itl K a) ds G := by
  refine ⟨_, _, r.len ▸ walk_list (xs := xs), fun G2 m F H e W => ⟨SqL.of (W.ex _ _ (e _ _ h)), ?_⟩⟩
  rintro i H' x d hd ⟨rfl, hx⟩
  obtain ⟨v, hv, rv⟩ := r.at hd
  rw [hv] at hx
  cases hx
  exact ⟨G2, Ex.refl _, W, rv.mono e⟩
theorem dw_scr {a : Addr} {ns : List Int} {G : Hp} (h : SqL K G a (ns.map V.int)) : DW K (Itl K a) (ns.map D.int) G := by
  have hl : (ns.map D.int).length = (ns.map V.int).length := by rw [List.length_map, List.length_map]
  refine ⟨_, _, hl ▸ walk_list (xs := ns.map V.int), fun G2 m F H e W => ⟨Evl.ex_l W.ex (Evl.ex_l e h), ?_⟩⟩
  rintro i H' x d hd ⟨rfl, hx⟩
  rw [List.getElem?_map] at hd hx
  cases e2 : ns[i]? with
  | none => rw [e2] at hd; cases hd
  | some n =>
    rw [e2] at hd hx
    cases hd; cases hx
    exact ⟨G2, Ex.refl _, W, .int n⟩
theorem pi_lst (hK : ∀ i, (X i).K = K) (ha : PD K W X a wa) {tg : Expr} : PDI K W X tg a (iLst wa) := by
  obtain ⟨t, h1, h2⟩ := ha
  refine ⟨iList K t, fun i => hK i ▸ pi_list (h1 i), ?_⟩
  intro G m F H σ ρ R Qd Qx hW hE h hX hR
  refine h2 G m F H σ ρ _ _ Qx hW hE h hX ?_
  intro d m1 x G1 H1 q e1 W1 r1
  cases r1 <;> first | exact (show False from q).elim | skip
  case lst a0 xs ds hx rr => exact ⟨a0, rfl, ⟨xs, SqL.of (W1.ex _ _ hx)⟩, hR _ _ _ _ _ q e1 W1 (dw_list hx rr)⟩
  case scr a0 ns hx => exact ⟨a0, rfl, ⟨_, Evl.ex_l W1.ex hx⟩, hR _ _ _ _ _ q e1 W1 (dw_scr hx)⟩
/-- a tuple's items -/
def iTp (w : WE) : WA := fun ρ m Q Qx => w ρ m (fun d m1 => match d with
  | .tup ds => Q ds m1
  | _ => False) Qx
theorem pi_tp (hK : ∀ i, (X i).K = K) (ha : PD K W X a wa) {tg : Expr} : PDI K W X tg a (iTp wa) := by
  obtain ⟨t, h1, h2⟩ := ha
  refine ⟨iTup K t, fun i => hK i ▸ pi_tup (h1 i), ?_⟩
  intro G m F H σ ρ R Qd Qx hW hE h hX hR
  refine h2 G m F H σ ρ _ _ Qx hW hE h hX ?_
  intro d m1 x G1 H1 q e1 W1 r1
  cases r1 <;> first | exact (show False from q).elim | skip
  case tup a0 xs ds hx rr =>
    refine ⟨a0, rfl, ⟨xs, Evl.ex_t W1.ex hx⟩, hR _ _ _ _ _ q e1 W1 ?_⟩
    refine ⟨_, _, rr.len ▸ walk_tup (xs := xs), fun G2 m F H e W => ⟨Evl.ex_t W.ex (Evl.ex_t e hx), ?_⟩⟩
    rintro i H' x d hd ⟨rfl, hx⟩
    obtain ⟨v, hv, rv⟩ := rr.at hd
    rw [hv] at hx
    cases hx
    exact ⟨G2, Ex.refl _, W, rv.mono e⟩
/-- a text's signs -/
def signs (z : Str) : List D := z.cps.toList.map fun c => D.str ⟨#[c]⟩
def iSg (w : WE) : WA := fun ρ m Q Qx => w ρ m (fun d m1 => match d with
  | .str z => Q (signs z) m1
  | _ => False) Qx
theorem pi_sg (ha : PD K W X a wa) {tg : Expr} : PDI K W X tg a (iSg wa) := by
  obtain ⟨t, h1, h2⟩ := ha
  refine ⟨_, fun i => L2.pi_str (h1 i), ?_⟩
  intro G m F H σ ρ R Qd Qx hW hE h hX hR
  refine h2 G m F H σ ρ _ _ Qx hW hE h hX ?_
  intro d m1 x G1 H1 q e1 W1 r1
  cases r1 <;> first | exact (show False from q).elim | skip
  rename_i z
  refine ⟨z, rfl, hR _ _ _ _ _ q e1 W1 ?_⟩
  have hl : (signs z).length = z.cps.size := by unfold signs; rw [List.length_map, Array.length_toList]
  refine ⟨_, _, hl ▸ walk_str (z := z), fun G2 m F H e W => ⟨trivial, ?_⟩⟩
  rintro i H' x d hd ⟨rfl, c, hc, rfl⟩
  unfold signs at hd
  rw [List.getElem?_map, Array.getElem?_toList, hc] at hd
  cases hd
  exact ⟨G2, Ex.refl _, W, .str _⟩
/-- range(n) -/
def iRg1 (w : WA) : WA := fun ρ m Q Qx => w ρ m (fun ds m1 => match ds with
  | [.int n] => (-(2 ^ 62) ≤ n ∧ n < 2 ^ 62) ∧ Q ((List.range n.toNat).map fun i => D.int (0 + (i : Nat))) m1
  | _ => False) Qx
theorem pi_rg1 {mg : Str → Option Value} {p : Pos} (hX : ∀ i, (X i).mg = mg) (hm : mg "range" = none) (ha : PDA K W X [a] wr) (hg : ∀ i, Gl (X i) "range" := by intro _; rfl) (hs : ∀ i, starEach [a] (X i).env = [(false, eval a (X i).env)] := by intro _; rfl) {tg : Expr} : PDI K W X tg (.Call (.Name "range" p) [a] [] pos) (iRg1 wr) := by
  obtain ⟨t, h1, h2⟩ := ha
  refine ⟨_, fun i => pi_range1 (hg i) (by rw [hX i]; exact hm) (h1 i) (hs i), ?_⟩
  intro G m F H σ ρ R Qd Qx hW hE h hX hR
  refine h2 G m F H σ ρ _ _ Qx hW hE h hX ?_
  intro ds m1 xs G1 H1 q e1 W1 r1
  split at q
  · cases r1 with
    | cons r1 t =>
      cases t
      cases r1
      rename_i n
      refine ⟨n, rfl, q.1.1, q.1.2, hR _ _ _ _ _ q.2 e1 W1 ?_⟩
      have hl : ((List.range n.toNat).map fun i => D.int (0 + (i : Nat))).length = n.toNat := by rw [List.length_map, List.length_range]
      refine ⟨_, _, (by rw [hl]; exact walk_range (lo := 0) (n := n.toNat)), fun G2 m F H e W => ⟨trivial, ?_⟩⟩
      rintro i H' x d hd ⟨rfl, rfl⟩
      rw [List.getElem?_map] at hd
      cases e2 : (List.range n.toNat)[i]? with
      | none => rw [e2] at hd; cases hd
      | some j =>
        rw [e2] at hd
        cases hd
        obtain ⟨_, rfl⟩ := List.getElem?_eq_some_iff.mp e2
        rw [List.getElem_range]
        exact ⟨G2, Ex.refl _, W, .int _⟩
  · cases q

/-! ### statements -/
def sNext : WS := fun E ρ m => E.nx ρ m
def sSeq (t u : WS) : WS := fun E ρ m => t { E with nx := fun ρ' m' => u E ρ' m' } ρ m
def sRet (w : WE) : WS := fun E ρ m => w ρ m E.rt E.ex
def sDrop (w : WE) : WS := fun E ρ m => w ρ m (fun _ m' => E.nx ρ m') E.ex
def sIf (c : WT) (t u : WS) : WS := fun E ρ m => c ρ m (fun k m' => if k = true then t E ρ m' else u E ρ m') E.ex
def sSet (i : Nat) (w : WE) : WS := fun E ρ m => w ρ m (fun d m' => E.nx (ρ.set i (some d)) m') E.ex
def sNever : WS := fun _ _ _ => False
variable {st : Stmt} {sts sts' : List Stmt} {t u : WS} {ua : WT}
theorem pb_nil : PDB K W X [] sNext := ⟨_, fun _ => pss_nil, fun G m F H σ ρ S E hW hE h f => f.nx ρ m σ G H h (Ex.refl G) hW hE⟩
theorem pb_cons (h1 : PDS K W X st t) (h2 : PDB K W X sts u) : PDB K W X (st :: sts) (sSeq t u) := by
  obtain ⟨t', a1, a2⟩ := h1
  obtain ⟨u', b1, b2⟩ := h2
  refine ⟨_, fun i => pss_cons (a1 i) (b1 i), ?_⟩
  intro G m F H σ ρ S E hW hE h f
  refine a2 G m F H σ ρ _ _ hW hE h ⟨?_, f.rt, f.bk, f.ct, f.ex⟩
  intro ρ' m' σ' G' H' q e W' E'
  exact b2 G' m' F H' σ' ρ' S E W' E' q (f.mono e)
theorem pb_one (h1 : PDS K W X st t) : PDB K W X [st] t := by
  obtain ⟨t', a1, a2⟩ := h1
  exact ⟨_, fun i => pss_one (a1 i), a2⟩
theorem pb_never : PDB K W X sts sNever := ⟨_, fun _ => pss_never, fun G m F H σ ρ S E hW hE h f => h.elim⟩
theorem ps_never : PDS K W X st sNever := ⟨_, fun _ => L2.ps_never, fun G m F H σ ρ S E hW hE h f => h.elim⟩
theorem ps_ret (h : PD K W X e w) : PDS K W X (.Return (some e) pos) (sRet w) := by
  obtain ⟨t, h1, h2⟩ := h
  refine ⟨_, fun i => L2.ps_ret (h1 i), ?_⟩
  intro G m F H σ ρ S E hW hE h f
  exact h2 G m F H σ ρ _ _ E.ex hW hE h f.ex f.rt
theorem ps_expr (h : PD K W X e w) (hs : ∀ i, swapsWith e none pos.line (X i).env = pure false := by intro _; rfl) : PDS K W X (.Expr e pos) (sDrop w) := by
  obtain ⟨t, h1, h2⟩ := h
  refine ⟨_, fun i => L2.ps_expr (h1 i) (hs i), ?_⟩
  intro G m F H σ ρ S E hW hE h f
  refine h2 G m F H σ ρ _ _ E.ex hW hE h f.ex ?_
  intro d m' v G' H' q e W' r
  exact f.nx ρ m' σ G' H' q e W' (hE.mono e)
theorem ps_if (hc : PDT K W X c ua) (h1 : PDB K W X sts t) (h2 : PDB K W X sts' u) : PDS K W X (.If c sts sts' pos) (sIf ua t u) := by
  obtain ⟨tc, c1, c2⟩ := hc
  obtain ⟨t', a1, a2⟩ := h1
  obtain ⟨u', b1, b2⟩ := h2
  refine ⟨_, fun i => L2.ps_if (c1 i) (a1 i) (b1 i), ?_⟩
  intro G m F H σ ρ S E hW hE h f
  refine c2 G m F H σ ρ _ _ E.ex hW hE h f.ex ?_
  intro k m' G' H' q e W'
  cases k with
  | true => exact a2 G' m' F H' σ ρ S E W' (hE.mono e) q (f.mono e)
  | false => exact b2 G' m' F H' σ ρ S E W' (hE.mono e) q (f.mono e)
theorem ps_set (i : Nat) {N : List Str} {x : Str} {p' : Pos} (hX : ∀ j, (X j).N = N) (hN : N.Nodup) (h : PD K W X e w) (hi : N[i]? = some x := by rfl) (hx : ∀ j, Loc (X j).env.scope x := by intro _; first | exact Or.inl rfl | exact Or.inr rfl) (hs : ∀ j, swapsWith e (some (.Name x p')) pos.line (X j).env = pure false := by intro _; rfl)
    (hf : ∀ j, (X j).fn x = true ∨ (X j).env.scope.names.lookup x = some .local := by intro _; first | exact Or.inl rfl | exact Or.inr rfl) : PDS K W X (.Assign [.Name x p'] e pos) (sSet i w) := by
  obtain ⟨t, h1, h2⟩ := h
  refine ⟨_, fun j => L2.ps_set (i := i) (by rw [hX j]; exact hN) (by rw [hX j]; exact hi) (hx j) (h1 j) (hs j) (hf j), ?_⟩
  intro G m F H σ ρ S E hW hE h f
  refine h2 G m F H σ ρ _ _ E.ex hW hE h f.ex ?_
  intro d m' v G' H' q e W' r
  exact f.nx _ m' _ G' H' q e W' ((hE.mono e).put r i)
/-- xs[i] = e, xs owned -/
def sPut (o i v : WE) : WS := fun E ρ m => v ρ m (fun d m1 => o ρ m1 (fun x m2 => i ρ m2 (fun k m3 => match x, k with
  | .box a, .int j => ∃ ds n, m3 a = some ds ∧ ixN ds.length j = some n ∧ E.nx ρ (m3.up a (ds.set n d))
  | _, _ => False) E.ex) E.ex) E.ex
theorem ps_put {o i : Expr} {wo wi wv : WE} {p' : Pos} (hv : PD K W X e wv) (ho : PD K W X o wo) (hi : PD K W X i wi) (hs : ∀ j, swapsWithSole [.Subscript o i p'] e pos.line (X j).env = pure false := by intro _; rfl) (hw : ∀ j, swappedStores [.Subscript o i p'] e (X j).env = pure none := by intro _; rfl)
    (h1 : ∀ j, (assignEach [.Subscript o i p'] (X j).env).map (·.2) = [assign (.Subscript o i p') (X j).env] := by intro _; rfl)
    (ha : ∀ j v, assign (.Subscript o i p') (X j).env v = (do
      let ov ← holding [v] (eval o (X j).env)
      let iv ← holding [v, ov] (eval i (X j).env)
      standAt p'
      holding [v, ov, iv] (setItem ov iv v)
      release [v, ov, iv] []) := by intro _ _; rfl) : PDS K W X (.Assign [.Subscript o i p'] e pos) (sPut wo wi wv) := by
  obtain ⟨tv, v1, v2⟩ := hv
  obtain ⟨to, o1, o2⟩ := ho
  obtain ⟨ti, i1, i2⟩ := hi
  refine ⟨_, fun j => ps_asg (v1 j) (pg_sub (o1 j) (i1 j) set_list (ha j)) (hs j) (hw j) (h1 j), ?_⟩
  intro G m F H σ ρ S E hW hE h f
  refine v2 G m F H σ ρ _ _ E.ex hW hE h f.ex ?_
  intro d m1 v G1 H1 q1 e1 W1 r1
  refine o2 G1 m1 F H1 σ ρ _ _ E.ex W1 (hE.mono e1) q1 (f.ex.mono e1) ?_
  intro x m2 xv G2 H2 q2 e2 W2 r2
  refine i2 G2 m2 F H2 σ ρ _ _ E.ex W2 (hE.mono (e1.trans e2)) q2 (f.ex.mono (e1.trans e2)) ?_
  intro k m3 kv G3 H3 q3 e3 W3 r3
  have r2 := r2.mono e3
  have r1 := r1.mono (e2.trans e3)
  have e13 := (e1.trans e2).trans e3
  cases r2 <;> cases r3 <;> first | exact (show False from q3).elim | skip
  rename_i a j
  obtain ⟨ds, n, hm, hn, q⟩ := q3
  obtain ⟨_, _, xs, hx, rr⟩ := W3.own a ds hm
  refine ⟨a, xs, j, n, rfl, rfl, hx, by rw [rr.len]; exact hn, ?_⟩
  exact f.nx ρ _ σ G3 _ q e13 (W3.put hm (rr.set r1 n)) (hE.mono e13)
/-! ### for -/
def wLoop (g : WG) (body : WS) (E : De) : List D → En0 → Mem → Prop
  | [], ρ, m => E.nx ρ m
  | d :: ds, ρ, m => g d ρ fun ρ1 => body { E with nx := wLoop g body E ds, ct := wLoop g body E ds, bk := E.nx } ρ1 m
def sFor (wi : WA) (g : WG) (body : WS) : WS := fun E ρ m => wi ρ m (fun ds m1 => wLoop g body E ds ρ m1) E.ex
theorem drop_cons {α : Type} {l : List α} {i : Nat} (h : i < l.length) : l.drop i = l[i] :: l.drop (i + 1) := List.drop_eq_getElem_cons h
theorem ps_for {tg iter : Expr} {wi : WA} {js : List Nat} {g : WG} (hp : ∀ i, PassesOwn (model (X i).prog (X i).w) (X i).A (X i).env (X i).xe) (hc : ∀ i, (X i).calm = true) (hi : PDI K W X tg iter wi) (hg : PDG K X tg js g) (hb : PDB K W X sts t)
    (hs : ∀ i x, foldedSetIterable iter (X i).env x = pure x := by intro _ _; rfl) : PDS K W X (.For tg iter sts [] pos) (sFor wi g t) := by
  obtain ⟨ti, i1, i2⟩ := hi
  obtain ⟨tg', g1, g2⟩ := hg
  obtain ⟨tb, b1, b2⟩ := hb
  refine ⟨_, fun i => L2.ps_for (hp i) (hc i) (i1 i) (g1 i) (b1 i) (hs i), ?_⟩
  intro G m F H σ ρ S E hW hE h f
  refine i2 G m F H σ ρ _ _ E.ex hW hE h f.ex ?_
  intro ds m1 J G1 H1 h1 e1 W1 dw
  obtain ⟨Gd, Y, wk, st⟩ := dw
  refine for_it wk (fun i σ H => ∃ G' m' ρ', Ex G1 G' ∧ Wd K G' m' F H ∧ En K G' σ ρ' ∧ wLoop g t E (ds.drop i) ρ' m') ⟨G1, m1, ρ, Ex.refl _, W1, hE.mono e1, h1⟩ ?_ ?_ ?_
  · rintro i σ H _ ⟨G', m', ρ', e', W', _, _⟩
    exact (st G' m' F H e' W').1
  · rintro i x σ H H' hi ⟨G', m', ρ', e', W', E', l⟩ y
    rw [drop_cons hi] at l
    obtain ⟨G2, e2, W2, r⟩ := (st G' m' F H e' W').2 i H' x ds[i] (List.getElem?_eq_getElem hi) y
    have e12 := e1.trans (e'.trans e2)
    refine g2 G2 m' F H' x _ σ ρ' _ _ W2 (E'.mono e2) r l ?_
    intro ρ1 σ1 q E1 _
    refine b2 G2 m' F H' σ1 ρ1 _ _ W2 E1 q ⟨?_, (f.mono e12).rt, ?_, ?_, (f.mono e12).ex⟩
    · intro ρ2 m2 σ2 G3 H3 q3 e3 W3 E3
      exact ⟨G3, m2, ρ2, (e'.trans e2).trans e3, W3, E3, q3⟩
    · exact (f.mono e12).nx
    · intro ρ2 m2 σ2 G3 H3 q3 e3 W3 E3
      exact ⟨G3, m2, ρ2, (e'.trans e2).trans e3, W3, E3, q3⟩
  · rintro σ H ⟨G', m', ρ', e', W', E', l⟩
    rw [List.drop_length] at l
    exact f.nx ρ' m' σ G' H l (e1.trans e') W' E'
/-! ### comprehensions -/
def wLcGo (g : WG) (tt : WT) (te : WE) (ρ : En0) (Qx : XQ) : List D → List D → Mem → (D → Mem → Prop) → Prop
  | [], acc, m, Q => Q (.lst acc) m
  | d :: ds, acc, m, Q => g d ρ fun ρ1 => tt ρ1 m (fun b m1 => if b = true then te ρ1 m1 (fun y m2 => wLcGo g tt te ρ Qx ds (acc ++ [y]) m2 Q) Qx else wLcGo g tt te ρ Qx ds acc m1 Q) Qx
def wLc (wi : WA) (g : WG) (tt : WT) (te : WE) (vs : List Nat) : WE := fun ρ m Q Qx => wi ρ m (fun ds m1 => ds.length ≤ 1000000 ∧ wLcGo g tt te (wipeD ρ vs) Qx ds [] m1 Q) Qx
def tvYes : WT := fun _ m Q _ => Q true m
def PDTs (K : Fg) (W : Wx) {ι : Type} (X : ι → Cx) (es : List Expr) (w : WT) : Prop := ∃ t, (∀ i, PTs (X i) es t) ∧ LiftT K W t w
theorem pts_nil : PDTs K W X [] tvYes := ⟨_, fun _ => L2.pts_nil, fun G m F H σ ρ Q Qd Qx hW hE h hX hQ => hQ true m G H h (Ex.refl G) hW⟩
theorem pts_one (h : PDT K W X c ua) : PDTs K W X [c] ua := by
  obtain ⟨t, h1, h2⟩ := h
  exact ⟨t, fun i => L2.pts_one (h1 i), h2⟩
theorem line_big : (1000000 : Nat) < sizeLine := by rw [sizeLine_eq]; decide
theorem lift_lc {ti : TI} {wi : WA} {tG : TG} {js : List Nat} {g : WG} {tT : TT} {tt : WT} {tE : TE} {te : WE} {vs : List Nat} (hi : LiftI K W ti wi) (hg : LiftG K js tG g) (ht : LiftT K W tT tt) (he : LiftE K W tE te) (hj : ∀ j ∈ js, j ∈ vs) :
    LiftE K W (tLc ti tG tT tE vs) (wLc wi g tt te vs) := by
  intro G m F H σ ρ Q Qd Qx hW hE h hX hQ
  refine hi G m F H σ ρ _ _ Qx hW hE h hX ?_
  intro ds m1 J G1 H1 h1 e1 W1 dw
  intro Dl hD
  obtain ⟨Gd, Y, wk, st⟩ := dw
  obtain ⟨hG, hm, hF⟩ := W1.fresh hD
  obtain ⟨hz, h1⟩ := h1
  refine lc_it wk (fun i H => ∃ G' m' acc xs, Ex G1 G' ∧ Wd K G' m' (upd F Dl (.lst xs)) H ∧ RpA K G' xs acc ∧ acc.length ≤ i ∧ wLcGo g tt te (wipeD ρ vs) Qx (ds.drop i) acc m' Qd)
    ⟨G1, m1, [], [], Ex.refl _, W1.frame hD (.lst []), .nil, Nat.le_refl _, h1⟩ ?_ ?_ ?_
  · rintro i H _ ⟨G', m', acc, xs, e', W', _⟩
    exact (st G' m' _ H e' W').1
  · rintro i x H H' hi' ⟨G', m', acc, xs, e', W', ra, hl, l⟩ y
    rw [drop_cons hi'] at l
    obtain ⟨G2, e2, W2, r⟩ := (st G' m' _ H e' W').2 i H' x ds[i] (List.getElem?_eq_getElem hi') y
    have e12 := (e1.trans e').trans e2
    refine hg G2 m' _ H' x _ (L2.wipe σ vs) (wipeD ρ vs) _ _ W2 ((hE.mono e12).wipe vs) r l ?_
    intro ρ1 σ1 q E1 w1
    refine ⟨(w1 vs hj).trans wipe_wipe, ?_⟩
    refine ht G2 m' _ H' σ1 ρ1 _ _ Qx W2 E1 q ((hX.mono e12).frame hF) ?_
    intro b m2 G3 H3 q3 e3 W3
    have e13 := e12.trans e3
    cases b with
    | true =>
      refine he G3 m2 _ H3 σ1 ρ1 _ _ Qx W3 (E1.mono e3) q3 ((hX.mono e13).frame hF) ?_
      intro d m3 v G4 H4 q4 e4 W4 r4
      have rx := (ra.mono e2).mono (e3.trans e4)
      refine ⟨xs, W4.fr _ _ upd_same, ?_, G4, m3, acc ++ [d], xs ++ [v], ((e'.trans e2).trans e3).trans e4, W4.reframe _, rx.app (.cons r4 .nil), ?_, q4⟩
      · rw [ra.len]
        have := line_big
        omega
      · rw [List.length_append, List.length_singleton]; omega
    | false =>
      exact ⟨G3, m2, acc, xs, (e'.trans e2).trans e3, W3, (ra.mono e2).mono e3, by omega, q3⟩
  · rintro H ⟨G', m', acc, xs, e', W', ra, hl, l⟩
    rw [List.drop_length] at l
    obtain ⟨e3, W3⟩ := W'.adopt hF
    exact hQ _ m' _ _ _ l ((e1.trans e').trans e3) W3 (.lst upd_same (ra.mono e3))
theorem pd_lc {elt tg iter : Expr} {ifs : List Expr} {scope : Scope} {own : List (Str × Nat)} {wi : WA} {js : List Nat} {g : WG} {tt : WT} {te : WE} {N : List Str} (hX : ∀ j, (X j).N = N) (hc : ∀ i, (X i).calm = true) (hN : N.Nodup) (hi : PDI K W X tg iter wi)
    (ok : ∀ i, BlkOk N (X i).env.scope scope own) (hg : PDG K (Blk X scope) tg js g) (ht : PDTs K W (Blk X scope) ifs tt) (he : PD K W (Blk X scope) elt te) (hj : ∀ j ∈ js, j ∈ own.map (·.2) := by decide) (hs : ∀ i x, foldedSetIterable iter (X i).env x = pure x := by intro _ _; rfl) :
    PD K W X (.ListComp elt [⟨tg, iter, ifs, 0⟩] scope pos) (wLc wi g tt te (own.map (·.2))) := by
  obtain ⟨ti, i1, i2⟩ := hi
  obtain ⟨tG, g1, g2⟩ := hg
  obtain ⟨tT, t1, t2⟩ := ht
  obtain ⟨tE, e1, e2⟩ := he
  exact ⟨_, fun i => pe_lc (hc i) (by rw [hX i]; exact hN) (i1 i) (by rw [hX i]; exact ok i) (fun s H C cl fp => g1 (i, s, H, C, cl, fp)) (fun s H C cl fp => t1 (i, s, H, C, cl, fp)) (fun s H C cl fp => e1 (i, s, H, C, cl, fp)) (hs i), lift_lc i2 g2 t2 e2 hj⟩
theorem ps_setLc {i : Nat} {y : Str} {py : Pos} {elt tg iter : Expr} {ifs : List Expr} {scope : Scope} {own : List (Str × Nat)} {wi : WA} {js : List Nat} {g : WG} {tt : WT} {te : WE} {N : List Str} {spos : Pos} (hX : ∀ j, (X j).N = N) (hc : ∀ i, (X i).calm = true) (hN : N.Nodup) (hy : N[i]? = some y)
    (hyl : ∀ j, (X j).env.scope.names.lookup y = some .local) (hsw : ∀ j, swapsWith (.ListComp elt [⟨tg, iter, ifs, 0⟩] scope pos) (some (.Name y py)) spos.line (X j).env = pure true) (hi : PDI K W X tg iter wi)
    (ok : ∀ i, BlkOk N (X i).env.scope scope own) (hg : PDG K (Blk X scope) tg js g) (ht : PDTs K W (Blk X scope) ifs tt) (he : PD K W (Blk X scope) elt te) (hj : ∀ j ∈ js, j ∈ own.map (·.2) := by decide) (hs : ∀ i x, foldedSetIterable iter (X i).env x = pure x := by intro _ _; rfl) :
    PDS K W X (.Assign [.Name y py] (.ListComp elt [⟨tg, iter, ifs, 0⟩] scope pos) spos) (sSet i (wLc wi g tt te (own.map (·.2)))) := by
  obtain ⟨ti, i1, i2⟩ := hi
  obtain ⟨tG, g1, g2⟩ := hg
  obtain ⟨tT, t1, t2⟩ := ht
  obtain ⟨tE, e1, e2⟩ := he
  refine ⟨_, fun j => L2.ps_setLc (i := i) (hc j) (by rw [hX j]; exact hN) (by rw [hX j]; exact hy) (hyl j) (hsw j) (i1 j) (by rw [hX j]; exact ok j) (fun s H C cl fp => g1 (j, s, H, C, cl, fp)) (fun s H C cl fp => t1 (j, s, H, C, cl, fp)) (fun s H C cl fp => e1 (j, s, H, C, cl, fp)) (hs j), ?_⟩
  intro G m F H σ ρ S E hW hE h f
  refine lift_lc i2 g2 t2 e2 hj G m F H σ ρ _ _ E.ex hW hE h f.ex ?_
  intro d m' v G' H' q e W' r
  exact f.nx _ m' _ G' H' q e W' ((hE.mono e).put r i)
/-! ### join -/
def wJoin (o e : WE) : WE := fun ρ m Q Qx => o ρ m (fun x m1 => match x with
  | .str a => e ρ m1 (fun y m2 => match y with
    | .lst ds => ∃ ys, strsD ds = some ys ∧ (ys.map (·.length)).sum + ys.length * a.length ≤ 16777216 ∧ Q (.str (Txt.join a ys)) m2
    | _ => False) Qx
  | _ => False) Qx
theorem pd_join {o : Expr} {wo : WE} {apos : Pos} (hK : ∀ i, (X i).K = K) (ho : PD K W X o wo) (he : PD K W X e w) (hs : ∀ i, starEach [e] (X i).env = [(false, eval e (X i).env)] := by intro _; rfl) (hb : ∀ i, attributeBase o "join" (X i).env (eval o (X i).env) = eval o (X i).env := by intro _; rfl) (hl : (apos.endLine == pos.line) = true := by rfl) :
    PD K W X (.Call (.Attribute o "join" apos) [e] [] pos) (wJoin wo w) := by
  obtain ⟨to, o1, o2⟩ := ho
  obtain ⟨te, e1, e2⟩ := he
  refine ⟨_, fun i => hK i ▸ pe_join (o1 i) (e1 i) (hs i) (hb i) hl, ?_⟩
  intro G m F H σ ρ Q Qd Qx hW hE h hX hQ
  refine o2 G m F H σ ρ _ _ Qx hW hE h hX ?_
  intro x m1 xv G1 H1 q1 f1 W1 r1
  cases r1 <;> first | exact (show False from q1).elim | skip
  rename_i a
  refine ⟨⟨a, rfl⟩, ?_⟩
  refine e2 G1 m1 F H1 σ ρ _ _ Qx W1 (hE.mono f1) q1 (hX.mono f1) ?_
  intro y m2 yv G2 H2 q2 f2 W2 r2
  cases r2 <;> first | exact (show False from q2).elim | skip
  rename_i l xs ds hx rr
  obtain ⟨ys, hy, hz, q⟩ := q2
  rw [strs_of rr hy] at hx
  exact ⟨a, l, ys, rfl, rfl, Or.inl (SqL.of (W2.ex _ _ hx)), hz, hQ _ m2 _ _ _ q (f1.trans f2) W2 (.str _)⟩
end

/-! ### loops and comprehensions over data -/
theorem lc_pure {j : Nat} {tt : WT} {te : WE} {ρ : En0} {Qx : XQ} {m : Mem} (p : D → Bool) (f : D → D) : ∀ (ds acc : List D) (Q : D → Mem → Prop),
    (∀ d ∈ ds, ∀ Q : Bool → Mem → Prop, Q (p d) m → tt (ρ.set j (some d)) m Q Qx) → (∀ d ∈ ds, p d = true → ∀ Q : D → Mem → Prop, Q (f d) m → te (ρ.set j (some d)) m Q Qx) →
    Q (.lst (acc ++ (ds.filter p).map f)) m → wLcGo (gvName j) tt te ρ Qx ds acc m Q
  | [], acc, Q, _, _, h => by
    rw [List.filter_nil, List.map_nil, List.append_nil] at h
    exact h
  | d :: ds, acc, Q, h1, h2, h => by
    refine h1 d List.mem_cons_self _ ?_
    by_cases hp : p d = true
    · rw [if_pos hp]
      refine h2 d List.mem_cons_self hp _ ?_
      refine lc_pure p f ds (acc ++ [f d]) Q (fun e he => h1 e (List.mem_cons_of_mem _ he)) (fun e he => h2 e (List.mem_cons_of_mem _ he)) ?_
      rw [List.filter_cons_of_pos hp, List.map_cons] at h
      rw [List.append_assoc]
      exact h
    · rw [if_neg hp]
      refine lc_pure p f ds acc Q (fun e he => h1 e (List.mem_cons_of_mem _ he)) (fun e he => h2 e (List.mem_cons_of_mem _ he)) ?_
      rw [List.filter_cons_of_neg hp] at h
      exact h
theorem lc_map {j : Nat} {te : WE} {ρ : En0} {Qx : XQ} {m : Mem} (f : D → D) (ds acc : List D) (Q : D → Mem → Prop) (h2 : ∀ d ∈ ds, ∀ Q : D → Mem → Prop, Q (f d) m → te (ρ.set j (some d)) m Q Qx)
    (h : Q (.lst (acc ++ ds.map f)) m) : wLcGo (gvName j) tvYes te ρ Qx ds acc m Q := by
  refine lc_pure (fun _ => true) f ds acc Q (fun _ _ _ q => q) (fun d hd _ => h2 d hd) ?_
  rw [List.filter_eq_self.mpr (fun _ _ => rfl)]
  exact h
/-- a comprehension whose items change what is owned: I by the items so far -/
theorem lc_inv {j : Nat} {te : WE} {ρ : En0} {Qx : XQ} (I : List D → Mem → Prop) (n : Nat) : ∀ (ds acc : List D) (m : Mem) (Q : D → Mem → Prop), acc.length + ds.length = n → I acc m →
    (∀ d ∈ ds, ∀ acc m, acc.length < n → I acc m → ∀ Q : D → Mem → Prop, (∀ y m', I (acc ++ [y]) m' → Q y m') → te (ρ.set j (some d)) m Q Qx) →
    (∀ acc' m', acc'.length = n → I acc' m' → Q (.lst acc') m') → wLcGo (gvName j) tvYes te ρ Qx ds acc m Q
  | [], acc, m, Q, hn, h0, _, h => h acc m hn h0
  | d :: ds, acc, m, Q, hn, h0, h1, h => by
    rw [List.length_cons] at hn
    refine h1 d List.mem_cons_self acc m (by omega) h0 _ fun y m' h' => ?_
    refine lc_inv I n ds (acc ++ [y]) m' Q ?_ h' (fun e he => h1 e (List.mem_cons_of_mem _ he)) h
    rw [List.length_append, List.length_singleton]
    omega
/-- a for whose turns each end in a next one: I between the turns -/
theorem loop_inv {g : WG} {body : WS} {E : De} (I : En0 → Mem → Prop) : ∀ (ds : List D) (ρ : En0) (m : Mem), I ρ m →
    (∀ d ∈ ds, ∀ ρ m, I ρ m → ∀ E' : De, E'.rt = E.rt → E'.ex = E.ex → (∀ ρ' m', I ρ' m' → E'.nx ρ' m') → (∀ ρ' m', I ρ' m' → E'.ct ρ' m') → g d ρ fun ρ1 => body E' ρ1 m) → (∀ ρ m, I ρ m → E.nx ρ m) → wLoop g body E ds ρ m
  | [], ρ, m, h0, _, h => h ρ m h0
  | d :: ds, ρ, m, h0, h1, h => by
    refine h1 d List.mem_cons_self ρ m h0 _ rfl rfl ?_ ?_
    · intro ρ' m' h'
      exact loop_inv I ds ρ' m' h' (fun e he => h1 e (List.mem_cons_of_mem _ he)) h
    · intro ρ' m' h'
      exact loop_inv I ds ρ' m' h' (fun e he => h1 e (List.mem_cons_of_mem _ he)) h

/-! ### defs, by data -/
abbrev DFn := List D → Mem → (D → Mem → Prop) → XQ → Prop
def FitXc (K : Fg) (mg : Str → Option Value) (G : Hp) (F : Hp) (Qx : XQ) (E : XK) : Prop := ∀ x m' cls d G' H', Qx x m' → mg x.cls = some cls → Ex G G' → Wd K G' m' F H' → Xr K G' x d → E cls d H'
def spD (K : Fg) (mg : Str → Option Value) (f : DFn) : Sp := fun vs H Q E => ∃ G m F ds Qd Qx, Wd K G m F H ∧ RpA K G vs ds ∧ f ds m Qd Qx ∧ FitE K G F Q Qd ∧ FitXc K mg G F Qx E
/-- a def's promise, where no repr is under way -/
structure FnG (P : Program) (w : World) (K : Fg) (mg : Str → Option Value) (base : Heap) (CX : CXT) (k : Nat) (f : Addr) (fd : FuncData) (ps : List Str) (sp : Sp) : Prop where
  size : ∀ vs H Q E, sp vs H Q E → vs.length = ps.length
  runs : ∀ (A : Around) (oe : List Env) (s : Shared) (H : Hp) (ar : Args) (us : List Value) (vs : List V) (Q : VK) (E : XK), A.guards = some [] → Room k A → Env0 P w K mg base A oe s H → BindsTo s fd ar (ps.zip us) →
    Vals vs us → sp vs H Q E → codeAny (model P w) A (.call (.ref f) ar) (CR CX oe P w H s Q E) s
section
variable {P : Program} {w : World} {K : Fg} {mg : Str → Option Value} {base : Heap} {k : Nat} {N : List Str} {W : Wx} {ι : Type} {X : ι → Cx} {f : Addr} {fd : FuncData} {ps : List Str} {pos : Pos}
theorem FnG.goes {X : Cx} {CX : CXT} {sp : Sp} {dvs : List V} {ds : List Value} {E : XK} {pins : List (Addr × Obj)} {σ : L2.St} {H : Hp} {s : Shared} {Q : VK} {us : List Value} {vs : List V} (Fn : FnG X.prog X.w X.K X.mg X.base CX k f fd ps sp)
    (hg : X.A.guards = some []) (hr : Room k X.A) (hb : Binds X.K fd ps ds) (hd : Vals dvs ds) (hx : Passes CX X E) (I : Inv X pins σ H s) (r : Vals vs us) (h : sp (vs ++ dvs) H Q E) :
    wpAny (model X.prog X.w) X.A (call (.ref f) us) (EP X pins σ Q) X.xe s := by
  have rr : Vals (vs ++ dvs) (us ++ ds) := r.append hd
  have hlen : (us ++ ds).length = ps.length := rr.length.symm.trans (Fn.size _ _ _ _ h)
  have goal := Fn.runs X.A X.stack s H ⟨us, []⟩ (us ++ ds) (vs ++ dvs) Q E hg hr I.env0 (hb s us I.kIn hlen) rr h
  refine wpAny_call (codeAny_mono goal ?_)
  rintro (e | fl) s' hq
  · exact hx pins σ H s e s' I hq
  · cases fl <;> first | exact I.after hq | exact (hq : False).elim
/-- f(e, ..) of the text, nothing raised -/
def wCall (fn : DFn) (a : WA) : WE := fun ρ m Q Qx => a ρ m (fun ds m1 => fn ds m1 Q (fun _ _ => False)) Qx
theorem pd_call {fn : DFn} {j : Nat} {x : Str} {p : Pos} {e : Expr} {es : List Expr} {wr : WA} (hX : FamG P w K mg base k N X) (Fn : FnG P w K mg base CX0 j f fd ps (spD K mg fn)) (hj : j ≤ k) (hg : ∀ i, Gl (X i) x) (hm : mg x = some (.ref f)) (hk : PySem.W.keepIn K (.ref f) = true)
    (hb : Binds K fd ps []) (ha : PDA K W X (e :: es) wr) (hd : (x == ("__debug__" : Str)) = false) (he : ∀ i, starEach (e :: es) (X i).env = (false, eval e (X i).env) :: starEach es (X i).env)
    (hpl : ∀ i, (backTo pos (starEach es (X i).env)).any (·.1) = false) : PD K W X (.Call (.Name x p) (e :: es) [] pos) (wCall fn wr) := by
  obtain ⟨t, a1, a2⟩ := ha
  refine ⟨fun σ H Q => t σ H fun vs H1 => spD K mg fn (vs ++ []) H1 Q E0, fun i => ⟨fun pins s σ H Q I h => ?_⟩, ?_⟩
  · have hmi : (X i).mg x = some (.ref f) := by rw [hX.mg i]; exact hm
    have Fi : FnG (X i).prog (X i).w (X i).K (X i).mg (X i).base CX0 j f fd ps (spD K mg fn) := by rw [hX.prog i, hX.w i, hX.K i, hX.mg i, hX.base i]; exact Fn
    refine wpAny_Call_Name_kw (ld_glob I (hg i) hmi ?_ hd)
    refine PySem.W.callWith_K (h₀ := (X i).base) I.ok.mod.kin (by rw [hX.K i]; exact hk) (thn ((a1 i).run pos pins s σ H _ I h) ?_) (he i) (hpl i)
    rintro us s1 ⟨vs, H1, I1, r, q⟩
    exact ⟨I1.kIn, Fi.goes (hX.guards i) ((hX.room i).mono hj) (by rw [hX.K i]; exact hb) .nil pass0 I1 r q⟩
  · intro G m F H σ ρ Q Qd Qx hW hE h hXx hQ
    refine a2 G m F H σ ρ _ _ Qx hW hE h hXx ?_
    intro ds m1 vs G1 H1 q e1 W1 r1
    refine ⟨G1, m1, F, ds, Qd, fun _ _ => False, W1, by rw [List.append_nil]; exact r1, q, ?_, fun _ _ _ _ _ _ z => z.elim⟩
    intro d m' v G' H' z e
    exact hQ d m' v G' H' z (e1.trans e)
/-- the def x of the text stands and keeps the promise fn -/
def Has (P : Program) (w : World) (K : Fg) (mg : Str → Option Value) (base : Heap) (j : Nat) (x : Str) (ps : List Str) (fn : DFn) : Prop :=
  ∃ f fd, FnG P w K mg base CX0 j f fd ps (spD K mg fn) ∧ mg x = some (.ref f) ∧ PySem.W.keepIn K (.ref f) = true ∧ Binds K fd ps []
theorem pd_own_call {fn : DFn} {j : Nat} {x : Str} {p : Pos} {e : Expr} {es : List Expr} {wr : WA} (hX : FamG P w K mg base k N X) (h : Has P w K mg base j x ps fn) (ha : PDA K W X (e :: es) wr) (hj : j ≤ k := by decide) (hg : ∀ i, Gl (X i) x := by intro _; rfl) (hd : (x == ("__debug__" : Str)) = false := by decide)
    (he : ∀ i, starEach (e :: es) (X i).env = (false, eval e (X i).env) :: starEach es (X i).env := by intro _; rfl) (hpl : ∀ i, (backTo pos (starEach es (X i).env)).any (·.1) = false := by intro _; rfl) : PD K W X (.Call (.Name x p) (e :: es) [] pos) (wCall fn wr) := by
  obtain ⟨f, fd, Fn, hm, hk, hb⟩ := h
  exact pd_call hX Fn hj hg hm hk hb ha hd he hpl
/-- a def of the text keeps its promise: its body's reading, by data -/
theorem fn_ok {x qual : Str} {st : Stmt} {fn : DFn} {wb : WS} (Fu : Fun K x qual st f fd) (S : FnScope N ps (defScope st)) (hlen : ∀ ds m Q Qx, fn ds m Q Qx → ds.length = ps.length)
    (hb : ∀ (cdv : Value) (A : Around) (oe : List Env) (s : Shared) (H : Hp) (E : XK), FamG P w K mg base k N (fun _ : Unit => (cxOf CX0 P w K mg base N qual (defScope st) f cdv A oe s H E).nox) →
      PDB K W (fun _ : Unit => (cxOf CX0 P w K mg base N qual (defScope st) f cdv A oe s H E).nox) (defBody st) wb)
    (hr : ∀ ds m Qd Qx, fn ds m Qd Qx → wb { nx := fun _ m' => Qd .non m', rt := Qd } (ds.map some ++ List.replicate (N.length - ds.length) none) m) :
    FnG P w K mg base CX0 (k + 1) f fd ps (spD K mg fn) := by
  obtain ⟨oc, od, kV, doc, pm, an, cdv, ct, osl, rfl, lk, hcd⟩ := Fu.ex
  have size : ∀ vs H Q E, spD K mg fn vs H Q E → vs.length = ps.length := by
    rintro vs H Q E ⟨G, m, F, ds, Qd, Qx, _, r, hf, _⟩
    exact r.len.trans (hlen _ _ _ _ hf)
  refine ⟨size, ?_⟩
  intro A oe s H ar us vs Q E hgd hrm e0 hbind r hsp
  have hl := size _ _ _ _ hsp
  have old : ∀ b o, base.get? b = some o → s.heap.get? b = some o := fun b o e => (e0.bs b o e).1
  have KX : K.In s.heap := e0.mod.kin.keeps old
  have lim : s.heap.NoLimit := e0.mod.nolimit.keeps old
  have kinds : ∀ y ∈ ps.zip us, (defScope st).names.lookup y.1 = some .local ∨ ((defScope st).names.lookup y.1 = some .cell ∧ ((cellsFrom (s.heap.objs.size + 1) (defScope st).names []).lookup y.1).isSome = true) := by
    rintro ⟨n, v⟩ hy
    rcases S.par n (List.of_mem_zip hy).1 with q | q
    · exact Or.inl q
    · exact Or.inr ⟨q, PySem.W.cellsFrom_some _ _ _ (Or.inl q)⟩
  refine codeAny_call_function hrm.depth (KX _ _ lk) rfl S.co S.gen rfl (PySem.W.codeRec_of KX hcd) (hbind _ _ _ _ ?_)
  refine wpAny_newFunctionEnv_cells S.kind kinds ?_
  rintro env rfl s1 nx
  refine ⟨lim.keeps nx.toInCall.keep, codeAny_func ?_⟩
  have fam : FamG P w K mg base k N (fun _ : Unit => (cxOf CX0 P w K mg base N qual (defScope st) f cdv A oe s H E).nox) :=
    { prog := fun _ => rfl, w := fun _ => rfl, K := fun _ => rfl, mg := fun _ => rfl, base := fun _ => rfl, hN := fun _ => rfl, calm := fun _ => rfl, room := fun _ => hrm.deeper _, nd := S.nd, guards := fun _ => hgd }
  obtain ⟨t, h1, h2⟩ := hb cdv A oe s H E fam
  have I : Inv (cxOf CX0 P w K mg base N qual (defScope st) f cdv A oe s H E) [] (start N vs) H s1 := inv_start S hrm.hd e0 hl r nx
  obtain ⟨G, m, F, ds, Qd, Qx, hW, rr, hf, hQ, _⟩ := hsp
  have reading : t { nx := fun _ H' => Q .non H', rt := Q } (start N vs) H := by
    refine h2 G m F H _ _ _ { nx := fun _ m' => Qd .non m', rt := Qd } hW ?_ (hr ds m Qd Qx hf) ⟨?_, ?_, ?_, ?_, ?_⟩
    · unfold L2.start
      rw [rr.len]
      exact En.start _ rr
    · intro ρ' m' σ' G' H' q e W' _
      exact hQ _ m' _ G' H' q e W' .non
    · exact hQ
    · intro _ _ _ _ _ z; exact z.elim
    · intro _ _ _ _ _ z; exact z.elim
    · intro _ _ _ _ _ _ z; exact z.elim
  refine wpAny_mono (((h1 ()).nox).run [] s1 (start N vs) H _ I reading) ?_ fun e s' z => z
  have fin : ∀ {s' : Shared} {σ' : L2.St} {H' : Hp} {v : V} {u : Value}, Inv (cxOf CX0 P w K mg base N qual (defScope st) f cdv A oe s H E) [] σ' H' s' → RelV v u → Q v H' → CE oe P w H s Q u s' := by
    intro s' σ' H' v u J rv q
    exact ⟨v, H', J.os, J.bare, J.base, J.hok, rv, q⟩
  intro fl s' hs
  cases fl
  case ret u =>
    obtain ⟨v, σ', H', J, rv, q⟩ := hs
    exact fin J rv q
  case next =>
    obtain ⟨σ', H', J, q⟩ := hs
    exact fin (v := V.non) (u := Value.none) J rfl q
  case brk =>
    obtain ⟨_, _, _, q⟩ := hs
    exact (q : False).elim
  case cont =>
    obtain ⟨_, _, _, q⟩ := hs
    exact (q : False).elim
/-- a def of the text as it stands behind the top -/
def FunAt (K : Fg) (mg : Str → Option Value) (x qual : Str) (st : Stmt) (ps : List Str) : Prop := ∃ f fd, mg x = some (.ref f) ∧ Fun K x qual st f fd ∧ Binds K fd ps []
theorem has_of {x qual : Str} {st : Stmt} {fn : DFn} {wb : WS} (Fu : FunAt K mg x qual st ps) (S : FnScope N ps (defScope st)) (hlen : ∀ ds m Q Qx, fn ds m Q Qx → ds.length = ps.length)
    (hb : ∀ (f : Addr) (cdv : Value) (A : Around) (oe : List Env) (s : Shared) (H : Hp) (E : XK), FamG P w K mg base k N (fun _ : Unit => (cxOf CX0 P w K mg base N qual (defScope st) f cdv A oe s H E).nox) →
      PDB K W (fun _ : Unit => (cxOf CX0 P w K mg base N qual (defScope st) f cdv A oe s H E).nox) (defBody st) wb)
    (hr : ∀ ds m Qd Qx, fn ds m Qd Qx → wb { nx := fun _ m' => Qd .non m', rt := Qd } (ds.map some ++ List.replicate (N.length - ds.length) none) m) : Has P w K mg base (k + 1) x ps fn := by
  obtain ⟨f, fd, hm, F, hbi⟩ := Fu
  exact ⟨f, fd, fn_ok F S hlen (hb f) hr, hm, F.kp, hbi⟩
theorem at_mk {h : Heap} {x qual : Str} {st : Stmt} {f : Addr} {oc : Value} {od an : Option Addr} {osl : Array (Option Value)} {kV doc pm cdv ct : Value} (X : K.In h) (G : h.Ns mainGlobals mg) (a : PySem.W.nsIn K mainGlobals x = some (some (.ref f)))
    (l : K.lookup f = some ⟨oc, od, .func (PySem.W.fnOf x qual (defArgs st) (defBody st) (defScope st) .none kV doc pm an cdv ct), osl⟩) (c : PySem.W.codeIn K cdv qual = true) (kp : PySem.W.keepIn K (.ref f) = true)
    (hb : ∀ (kV doc pm : Value) (an : Option Addr) (cdv ct : Value) (us : List Value), us.length = ps.length → bindArgs (PySem.W.fnOf x qual (defArgs st) (defBody st) (defScope st) .none kV doc pm an cdv ct) ⟨us, []⟩ = pure (ps.zip us)) : FunAt K mg x qual st ps :=
  ⟨f, _, PySem.W.mg_of X G a, fun_mk l c kp, (fun_mk l c kp).binds hb⟩
end

/-! ### the end -/
open PyProof.Rows (AllBare IntsAre)
/-- what is asked of the law's def: handed the script it gives True -/
def lawFn (n : Nat) : DFn := fun ds m Q _ => ∃ ns : List Int, ds = [.scr ns] ∧ ns.length ≤ n ∧ ∀ m', Q (.bl true) m'
theorem lawFn_len {n : Nat} : ∀ ds m Q Qx, lawFn n ds m Q Qx → ds.length = (["_law_script"] : List Str).length := by
  rintro ds m Q Qx ⟨ns, rfl, _⟩
  rfl
section
variable {P : Program} {w : World} {K : Fg} {mg mb : Str → Option Value} {k n : Nat} {fa a : Addr} {fd : FuncData} {x : Str} {s1 : Shared} {vs : List Value} {ns : List Int}
theorem from_only (H : Hp) (hO : Only H) (hS : SqL K H a (ns.map V.int)) (hok : HOk P w H s1.heap) (hA : ∀ b, H b ≠ none → b = a) (hK : H a ≠ none → K.lookup a = none) (KX : K.In s1.heap) (hns : s1.heap.Ns mainGlobals mg) (hb : s1.heap.Ns builtinsNs mb)
    (hbb : ∀ y : Str, y ≠ "__name__" → mb y = bootBuiltins y) (hlim : s1.heap.NoLimit) (hg : s1.gens = #[]) (ha : s1.heap.get? a = some { cls := .type "list", data := .seq vs.toArray }) (hl : ns.length ≤ n) (hr : Room k callerA)
    (F : ∀ base : Heap, K.In base → base.Ns mainGlobals mg → FnG P w K mg base CX0 k fa fd [x] (spD K mg (lawFn n))) (hbind : ∀ (s : Shared) (u : Value), BindsTo s fd ⟨[u], []⟩ [(x, u)]) :
    codeAny (model P w) callerA (.call (.ref fa) ⟨[.ref a], []⟩) (fun r s' => r = .ok (.ret (.bool true)) ∧ OldK s1.heap s'.heap ∧ s'.os = s1.os ∧ AllBare s'.gens) s1 := by
  have only_a : ∀ {b : Addr} {u : HO}, H b = some u → b = a := by
    intro b u q
    exact hA b (by rw [q]; exact fun z => by cases z)
  have bare : ∀ {b : Addr} {o : Obj} {es : Array DictEntry} {ep : Nat}, s1.heap.get? b = some o → o.data = .dict es ep → H b = none := by
    intro b o es ep e d
    cases q : H b with
    | none => rfl
    | some u =>
      have e' := only_a q
      subst e'
      rw [ha] at e
      cases e
      cases (d : Data.seq vs.toArray _ = Data.dict es ep)
  have nsOf : ∀ {b : Addr} {m : Str → Option Value}, s1.heap.Ns b m → (hidT s1.heap H).Ns b m := by
    rintro b m ⟨o, es, ep, e, d, r⟩
    exact ⟨o, es, ep, hidT_get e (bare e d), d, r⟩
  have kin : K.In (hidT s1.heap H) := by
    intro b o e
    refine hidT_get (KX b o e) ?_
    cases q : H b with
    | none => rfl
    | some u =>
      have e' := only_a q
      subst e'
      have := hK (by rw [q]; exact fun z => by cases z)
      rw [this] at e
      cases e
  have lim2 : (hidT s1.heap H).NoLimit := by
    obtain ⟨mc, h1, h2⟩ := hlim
    exact ⟨mc, nsOf h1, h2⟩
  have md : Mod K mg (hidT s1.heap H) := ⟨kin, nsOf hns, ⟨mb, nsOf hb, hbb⟩, lim2⟩
  have e0 : Env0 P w K mg (hidT s1.heap H) callerA [] s1 H := ⟨rfl, md, fun _ _ e => of_hidT e, Nat.le_of_eq (hidT_size _ _), trivial, (fun b hb => nomatch hb), hok, PyProof.Rows.AllBare.of_eq hg⟩
  have W0 : Wd K H (fun _ => none) (fun _ => none) H := ⟨fun _ _ h => h, (fun _ _ h => nomatch h), (fun _ _ h => nomatch h), (fun _ _ h => nomatch h)⟩
  have sp : spD K mg (lawFn n) [.ref a] H (fun v _ => v = .bl true) (fun _ _ _ => False) := by
    refine ⟨H, fun _ => none, fun _ => none, [.scr ns], fun d _ => d = .bl true, fun _ _ => False, W0, .cons (.scr hS) .nil, ⟨ns, rfl, hl, fun _ => rfl⟩, ?_, fun _ _ _ _ _ _ z => z.elim⟩
    rintro d m' v G' H' rfl _ _ r
    cases r
    rfl
  refine codeAny_mono ((F _ kin (nsOf hns)).runs callerA [] s1 H ⟨[.ref a], []⟩ [.ref a] [.ref a] _ _ rfl hr e0 (hbind s1 (.ref a)) (.cons rfl .nil) sp) ?_
  rintro (e | fl) s' h
  · exact (h : False).elim
  cases fl <;> first | exact (h : False).elim | skip
  rename_i u
  obtain ⟨v, H', os, br, un, hok', r', q⟩ := h
  have q : v = .bl true := q
  subst q
  have r' : u = Value.bool true := r'
  subst r'
  refine ⟨rfl, OldK.of_keep ?_, os, br⟩
  intro b o e
  cases q : H b with
  | none => exact un.keep b o e q (by intro z; cases z) (by intro z; cases z)
  | some u =>
    rcases hO b with z | ⟨ob, xs, z⟩
    · rw [q] at z; cases z
    · have t1 := (hok b _ z).1
      have t2 := (hok' b _ (un.frzs b ob _ z)).1
      rw [e] at t1
      cases t1
      exact t2
theorem law_runs (KX : K.In s1.heap) (hns : s1.heap.Ns mainGlobals mg) (hb : s1.heap.Ns builtinsNs mb) (hbb : ∀ y : Str, y ≠ "__name__" → mb y = bootBuiltins y) (hlim : s1.heap.NoLimit) (hg : s1.gens = #[])
    (ha : s1.heap.get? a = some { cls := .type "list", data := .seq vs.toArray }) (hi : IntsAre vs ns) (hl : ns.length ≤ n) (hn : n ≤ sizeLine) (hr : Room k callerA)
    (F : ∀ base : Heap, K.In base → base.Ns mainGlobals mg → FnG P w K mg base CX0 k fa fd [x] (spD K mg (lawFn n))) (hbind : ∀ (s : Shared) (u : Value), BindsTo s fd ⟨[u], []⟩ [(x, u)]) :
    codeAny (model P w) callerA (.call (.ref fa) ⟨[.ref a], []⟩) (fun r s' => r = .ok (.ret (.bool true)) ∧ OldK s1.heap s'.heap ∧ s'.os = s1.os ∧ AllBare s'.gens) s1 := by
  have rv := vals_ints hi
  have lz : ns.length ≤ sizeLine := Nat.le_trans hl hn
  have sz : (ns.map V.int).length ≤ sizeLine := by rw [List.length_map]; exact lz
  have vz : vs.length ≤ sizeLine := by rw [← rv.length]; exact sz
  cases hk : K.lookup a with
  | some o =>
    have e := KX a o hk
    rw [ha] at e
    cases e
    refine from_only (fun _ => none) (fun _ => Or.inl rfl) (Or.inr ⟨_, vs.toArray, _, hk, rfl, rfl, rfl, by rw [List.size_toArray]; exact vz, by simpa using rv⟩) (by intro b u z; cases z) (by intro b z; exact absurd rfl z) (by intro z; exact absurd rfl z) KX hns hb hbb hlim hg ha hl hr F hbind
  | none =>
    have at_a : ∀ {b : Addr} {u : HO}, (if b = a then some (HO.frz { cls := .type "list", data := .seq vs.toArray } (.lst (ns.map V.int))) else none) = some u → b = a ∧ u = HO.frz { cls := .type "list", data := .seq vs.toArray } (.lst (ns.map V.int)) := by
      intro b u z
      by_cases hba : b = a
      · rw [if_pos hba] at z; cases z; exact ⟨hba, rfl⟩
      · rw [if_neg hba] at z; cases z
    refine from_only (fun b => if b = a then some (.frz { cls := .type "list", data := .seq vs.toArray } (.lst (ns.map V.int))) else none) ?_ (Or.inl (Or.inr ⟨_, if_pos rfl⟩)) ?_ ?_ (fun _ => hk) KX hns hb hbb hlim hg ha hl hr F hbind
    · intro b
      by_cases hba : b = a
      · exact Or.inr ⟨_, _, if_pos hba⟩
      · exact Or.inl (if_neg hba)
    · intro b u z
      obtain ⟨rfl, rfl⟩ := at_a z
      exact ⟨ha, sz, vs, _, rv, ha⟩
    · intro b z
      by_cases hba : b = a
      · exact hba
      · exact absurd (if_neg hba) z
end
/-- the goal that the head leaves -/
theorem the_end {l : PySem.W.OpenLaw} {n k : Nat} {q : Program} {loose : List Str} {XP : (Str → Option Value) → Heap → Prop} {YP : World → Heap → Prop} {d : DefRec} {K : Params → Fg} {x : Str}
    (hn : l.most = some n) (hz : n ≤ sizeLine) (hdf : d.params.defaults = []) (hr : Room k callerA) (hY : ∀ (w : World) (h : Heap), YP w h → (K w.params).In h)
    (F : ∀ (w : World) (mg : Str → Option Value) (fa : Addr) (h : Heap), (K w.params).In h → h.Ns mainGlobals mg → mg d.name = some (.ref fa) →
      ∃ fd : FuncData, (∀ (s : Shared) (u : Value), BindsTo s fd ⟨[u], []⟩ [(x, u)]) ∧ ∀ base : Heap, (K w.params).In base → base.Ns mainGlobals mg → FnG l.prog w (K w.params) mg base CX0 k fa fd [x] (spD (K w.params) mg (lawFn n))) :
    PySem.W.WalkO q loose XP YP l.row.toRowW d [] (fun f vs => PySem.call f vs) := by
  refine Att.attach_call hn hdf ?_
  intro w s0 s1 mg mb fa o pm cd doc a vs ns G Y ho hd hcd hmg hobj hints hlen hg
  obtain ⟨fd, hb, hF⟩ := F w mg fa _ (hY w _ Y) G.T.g hmg
  exact law_runs (hY w _ Y) G.T.g G.T.b G.T.builtins G.T.nolimit hg hobj hints hlen hz hr hF hb
end DL
/-! XSM: methods of texts at the level of data -/
namespace DL
open PySem L2
open Evl (Ex)
section
variable {K : Fg} {W : Wx} {ι : Type} {X : ι → Cx} {pos : Pos} {e : Expr} {wa : WE}
abbrev WM := Str → List D → Mem → (D → Mem → Prop) → Prop
def LiftM (K : Fg) (r : V → List V → Hp → VK → Prop) (w : WM) : Prop := ∀ G m F H z xs ds (Q : VK) (Qd : D → Mem → Prop), Wd K G m F H → RpA K G xs ds → w z ds m Qd → FitE K G F Q Qd → r (.str z) xs H Q
def MtU (K : Fg) {ι : Type} (X : ι → Cx) (id : String) (w : WM) : Prop := ∃ r, (∀ i, MtR (X i) id r) ∧ LiftM K r w
/-- o.name() -/
def wM0 (w : WM) (wo : WE) : WE := fun ρ m Q Qx => wo ρ m (fun x m1 => match x with
  | .str z => w z [] m1 Q
  | _ => False) Qx
/-- o.name(e) -/
def wM1 (w : WM) (wo we : WE) : WE := fun ρ m Q Qx => wo ρ m (fun x m1 => match x with
  | .str z => we ρ m1 (fun y m2 => w z [y] m2 Q) Qx
  | _ => False) Qx
theorem pd_m0 {id : String} {name : Str} {o : Expr} {wo : WE} {apos : Pos} {w : WM} (hm : MtU K X id w) (slot : Slot "str" name id) (ty : typeOf (.builtin id) = pure (.type "method_descriptor")) (ho : PD K W X o wo)
    (hb : ∀ i, attributeBase o name (X i).env (eval o (X i).env) = eval o (X i).env := by intro _; rfl) (hl : (apos.endLine == pos.line) = true := by rfl) : PD K W X (.Call (.Attribute o name apos) [] [] pos) (wM0 w wo) := by
  obtain ⟨r, m1, m2⟩ := hm
  obtain ⟨to, o1, o2⟩ := ho
  refine ⟨_, fun i => pe_m0 slot ty (m1 i) (o1 i) (hb i) hl, ?_⟩
  intro G m F H σ ρ Q Qd Qx hW hE h hX hQ
  refine o2 G m F H σ ρ _ _ Qx hW hE h hX ?_
  intro x m1 xv G1 H1 q1 f1 W1 r1
  cases r1 <;> first | exact (show False from q1).elim | skip
  rename_i a
  refine ⟨⟨a, rfl⟩, m2 G1 m1 F H1 a [] [] Q Qd W1 .nil q1 ?_⟩
  exact fun d m' v G' H' q e => hQ d m' v G' H' q (f1.trans e)
theorem pd_m1 {id : String} {name : Str} {o : Expr} {wo : WE} {apos : Pos} {w : WM} (hm : MtU K X id w) (slot : Slot "str" name id) (ty : typeOf (.builtin id) = pure (.type "method_descriptor")) (ho : PD K W X o wo) (he : PD K W X e wa)
    (hs : ∀ i, starEach [e] (X i).env = [(false, eval e (X i).env)] := by intro _; rfl) (hb : ∀ i, attributeBase o name (X i).env (eval o (X i).env) = eval o (X i).env := by intro _; rfl) (hl : (apos.endLine == pos.line) = true := by rfl) : PD K W X (.Call (.Attribute o name apos) [e] [] pos) (wM1 w wo wa) := by
  obtain ⟨r, m1, m2⟩ := hm
  obtain ⟨to, o1, o2⟩ := ho
  obtain ⟨te, e1, e2⟩ := he
  refine ⟨_, fun i => pe_m1 slot ty (m1 i) (o1 i) (e1 i) (hs i) (hb i) hl, ?_⟩
  intro G m F H σ ρ Q Qd Qx hW hE h hX hQ
  refine o2 G m F H σ ρ _ _ Qx hW hE h hX ?_
  intro x m1 xv G1 H1 q1 f1 W1 r1
  cases r1 <;> first | exact (show False from q1).elim | skip
  rename_i a
  refine ⟨⟨a, rfl⟩, e2 G1 m1 F H1 σ ρ _ _ Qx W1 (hE.mono f1) q1 (hX.mono f1) ?_⟩
  intro y m2' yv G2 H2 q2 f2 W2 r2
  refine m2 G2 m2' F H2 a [yv] [y] Q Qd W2 (.cons r2 .nil) q2 ?_
  exact fun d m' v G' H' q e => hQ d m' v G' H' q ((f1.trans f2).trans e)
/-- a method without arguments that says yes or no -/
def wIs (f : Str → Bool) : WM := fun z ds m Q => ds = [] ∧ Q (.bl (f z)) m
theorem lift_is0 {f : Str → Bool} : LiftM K (fun x xs H Q => ∃ a, x = .str a ∧ xs = [] ∧ True ∧ Q (.bl (f a)) H) (wIs f) := by
  intro G m F H z xs ds Q Qd hW r h hQ
  obtain ⟨rfl, q⟩ := h
  cases r
  exact ⟨z, rfl, rfl, trivial, hQ.here hW q (.bl _)⟩
theorem m_isascii : MtU K X "str.isascii" (wIs Txt.isascii) := ⟨_, fun _ => mt_isascii, lift_is0⟩
theorem m_isalpha : MtU K X "str.isalpha" (wIs Txt.isalpha) := ⟨_, fun _ => mt_isalpha, lift_is0⟩
theorem m_islower : MtU K X "str.islower" (wIs Txt.islower) := ⟨_, fun _ => mt_islower, lift_is0⟩
theorem m_isdecimal : MtU K X "str.isdecimal" (wIs Txt.isdecimal) := ⟨_, fun _ => mt_isdecimal, lift_is0⟩
end
/-! small letters -/
def lowC (c : Nat) : Bool := decide (97 ≤ c) && decide (c ≤ 122)
theorem ascii_c : ∀ c, c < 128 → Unicode.isAlpha c = (lowC c || (decide (65 ≤ c) && decide (c ≤ 90))) ∧ Unicode.isLower c = lowC c ∧ (Unicode.isUpper c || Unicode.isTitle c) = (decide (65 ≤ c) && decide (c ≤ 90)) := by decide +kernel
theorem low_big {c : Nat} (h : ¬ c < 128) : lowC c = false := by
  unfold lowC
  have : decide (c ≤ 122) = false := decide_eq_false (by omega)
  rw [this, Bool.and_false]
theorem lower_list {l : List Nat} (h : l.all (fun c => decide (c < 128)) = true) : ((decide (l.length > 0) && l.all Unicode.isAlpha) && (l.any Unicode.isLower && !l.any fun c => Unicode.isUpper c || Unicode.isTitle c)) = (decide (l.length > 0) && l.all lowC) := by
  have h1 : ∀ c ∈ l, Unicode.isAlpha c = (lowC c || (decide (65 ≤ c) && decide (c ≤ 90))) ∧ Unicode.isLower c = lowC c ∧ (Unicode.isUpper c || Unicode.isTitle c) = (decide (65 ≤ c) && decide (c ≤ 90)) := by
    intro c hc
    exact ascii_c c (by simpa using (List.all_eq_true.mp h) c hc)
  rw [Bool.eq_iff_iff]
  simp only [Bool.and_eq_true, decide_eq_true_eq, List.all_eq_true, List.any_eq_true, Bool.not_eq_true', List.any_eq_false]
  constructor
  · rintro ⟨⟨h0, h2⟩, _, h4⟩
    refine ⟨h0, fun c hc => ?_⟩
    have a := h2 c hc
    have u := h4 c hc
    rw [(h1 c hc).1] at a
    rw [(h1 c hc).2.2] at u
    rcases Bool.or_eq_true _ _ |>.mp a with a | a
    · exact a
    · exact absurd a u
  · rintro ⟨h0, h2⟩
    refine ⟨⟨h0, fun c hc => by rw [(h1 c hc).1, h2 c hc]; rfl⟩, ?_, fun c hc => ?_⟩
    · obtain ⟨c, l', rfl⟩ := List.exists_cons_of_length_pos h0
      exact ⟨c, List.mem_cons_self, by rw [(h1 c List.mem_cons_self).2.1, h2 c List.mem_cons_self]⟩
    · rw [(h1 c hc).2.2]
      have := h2 c hc
      unfold lowC at this
      simp only [Bool.and_eq_true, decide_eq_true_eq] at this ⊢
      omega
theorem lettered_eq (z : Str) : (if (Txt.isascii z) = true then (if Txt.isalpha z = true then Txt.islower z else false) else false) = (decide (z.cps.toList.length > 0) && z.cps.toList.all lowC) := by
  unfold Txt.isascii Txt.isalpha Txt.islower
  have e0 : z.length = z.cps.toList.length := by unfold Str.length; simp
  rw [e0]
  rw [← Array.all_toList, ← Array.all_toList, ← Array.any_toList, ← Array.any_toList]
  generalize z.cps.toList = l
  cases ha : l.all (fun c => decide (c < 128)) with
  | true =>
    rw [if_pos rfl, ← lower_list ha]
    cases (decide (l.length > 0) && l.all Unicode.isAlpha) <;> simp
  | false =>
    rw [if_neg Bool.false_ne_true]
    obtain ⟨c, hc, hn⟩ := List.all_eq_false.mp ha
    symm
    rw [Bool.and_eq_false_iff]
    right
    rw [List.all_eq_false]
    exact ⟨c, hc, by rw [low_big (by simpa using hn)]; exact Bool.false_ne_true⟩
end DL
namespace DL
open PySem L2
/-! ### k02: what each def is worth -/
/-- things that the rules take: flat ones, texts that are not long -/
def okT : D → Prop
  | .str z => z.length ≤ 1000 ∧ PyData.strOk z = true
  | d => isTyped d = true
theorem okT.ty {d : D} (h : okT d) : isTyped d = true := by
  cases d <;> first | rfl | exact h
def isWhole : D → Bool
  | .int _ => true
  | _ => false
def isStr : D → Bool
  | .str _ => true
  | _ => false
def letS (z : Str) : Bool := decide (z.length = 1) && (!decide (z.cps.toList < [97]) && !decide ([122] < z.cps.toList))
def letters (z : Str) : Bool := z.cps.toList.all fun c => letS ⟨#[c]⟩
def isLetter : D → Bool
  | .str z => letS z
  | _ => false
def isLettered : D → Bool
  | .str z => letters z
  | _ => false
def isWord : D → Bool
  | .str z => letters z && decide (z.length ≤ 6)
  | _ => false
def isName : D → Bool
  | .str z => letters z && (decide (1 ≤ z.length) && decide (z.length ≤ 8))
  | _ => false
/-- what the law asks of signs: none outside -/
def alpha : List Nat := (Str.ofString "abcdefghijklmnopqrstuvwxyz").cps.toList
def small (z : Str) : Bool := z.cps.toList.all fun c => decide (c ∈ alpha)
def fun1 (f : D → Bool) : DFn := fun ds m Q _ => ∃ x, ds = [x] ∧ okT x ∧ Q (.bl (f x)) m
def F_is_whole : DFn := fun1 isWhole
def F_is_letter : DFn := fun1 isLetter
def F_is_lettered : DFn := fun1 isLettered
def F_is_word : DFn := fun1 isWord
def F_is_name : DFn := fun1 isName
def isIn (x : D) (lo hi : Int) : Bool := match x with
  | .int i => decide (lo ≤ i) && decide (i ≤ hi)
  | _ => false
def F_is_integer : DFn := fun ds m Q _ => ∃ x lo hi, ds = [x, .int lo, .int hi] ∧ okT x ∧ Q (.bl (isIn x lo hi)) m
def F_law_cell : DFn := fun ds m Q _ => ∃ (ns : List Int) (k : Int), ds = [.scr ns, .int k] ∧ 0 ≤ k ∧ k < 1000 ∧ ∀ i : Int, Q (.int i) m
/-- the box: three ints; the third counts -/
def Box (l : List D) (c : Int) : Prop := ∃ x y z : Int, l = [.int x, .int y, .int z] ∧ 0 ≤ x ∧ 0 ≤ y ∧ y < 2147483648 ∧ 0 ≤ z ∧ z ≤ c
def F_law_box : DFn := fun ds m Q _ => ∃ i : Int, ds = [.int i] ∧ ∀ p l, m p = none → Box l 0 → Q (.box p) (m.up p l)
def F_law_take : DFn := fun ds m Q _ => ∃ (a : Addr) (n c : Int) (l : List D), ds = [.box a, .int n] ∧ m a = some l ∧ Box l c ∧ c ≤ 1000000 ∧ 0 < n ∧ n < 2 ^ 200 ∧ ∀ (d : Int) (l' : List D), 0 ≤ d → d < n → Box l' (c + 1) → Q (.int d) (m.up a l')
/-- a drawn line -/
def okL (z : Str) : Prop := z.length ≤ 10 ∧ PyData.strOk z = true
def F_law_line : DFn := fun ds m Q _ => ∃ (a : Addr) (c : Int) (l : List D), ds = [.box a] ∧ m a = some l ∧ Box l c ∧ c ≤ 1000 ∧ ∀ (z : Str) (l' : List D), okL z → Box l' (c + 20) → Q (.str z) (m.up a l')
def F_law_are_small : DFn := fun ds m Q _ => ∃ z, ds = [.str z] ∧ z.length ≤ 1000 ∧ PyData.strOk z = true ∧ Q (.bl (small z)) m
def F_law_right : DFn := fun ds m Q _ => ∃ x, ds = [x] ∧ okT x ∧ Q (.bl true) m
def F_law_integers_right : DFn := fun ds m Q _ => ∃ (a : Addr) (c : Int) (l : List D), ds = [.box a] ∧ m a = some l ∧ Box l c ∧ c ≤ 1000 ∧ ∀ (l' : List D), Q (.bl true) (m.up a l')
def F_law : DFn := lawFn 63
theorem l_fun1 {f : D → Bool} : ∀ ds m Q Qx, fun1 f ds m Q Qx → ds.length = 1 := by
  rintro ds m Q Qx ⟨x, rfl, _⟩; rfl
def w_is_whole : WS := (sRet (wAnd (wBi dIsi (wCons (wVar 0) (wCons (wC (.ty "int")) wNil))) (wNot (wBi dIsi (wCons (wVar 0) (wCons (wC (.ty "bool")) wNil))))))
def w_is_integer : WS := (sRet (wAnd (wCall F_is_whole (wCons (wVar 0) wNil)) (wChain dLe dLe (wVar 1) (wVar 0) (wVar 2))))
def w_is_letter : WS := (sRet (wAnd (wBi dIsi (wCons (wVar 0) (wCons (wC (.ty "str")) wNil))) (wAnd (wOp dEq (wBi dLen (wCons (wVar 0) wNil)) (wC (.int 1))) (wChain dLe dLe (wC (.str (Str.ofString "a"))) (wVar 0) (wC (.str (Str.ofString "z")))))))
def w_is_lettered : WS := (sSeq (sIf (tvNot (wTest (wBi dIsi (wCons (wVar 0) (wCons (wC (.ty "str")) wNil))))) (sRet (wC (.bl false))) sNext) (sRet (wOr (wOp dEq (wVar 0) (wC (.str (Str.ofString "")))) (wAnd (wM0 (wIs Txt.isascii) (wVar 0)) (wAnd (wM0 (wIs Txt.isalpha) (wVar 0)) (wM0 (wIs Txt.islower) (wVar 0)))))))
def w_is_word : WS := (sRet (wAnd (wCall F_is_lettered (wCons (wVar 0) wNil)) (wOp dLe (wBi dLen (wCons (wVar 0) wNil)) (wC (.int 6)))))
def w_is_name : WS := (sRet (wAnd (wCall F_is_lettered (wCons (wVar 0) wNil)) (wChain dLe dLe (wC (.int 1)) (wBi dLen (wCons (wVar 0) wNil)) (wC (.int 8)))))
def w__law_cell : WS := (sSeq (sIf (wTest (wOp dLt (wVar 1) (wBi dLen (wCons (wVar 0) wNil)))) (sRet (wOp dIx (wVar 0) (wVar 1))) sNext) (sRet (wOp dAdd (wOp dMul (wC (.int 15489773)) (wVar 1)) (wC (.int 1783)))))
def w__law_box : WS := (sRet (wOwn (wCons (wBi dMax (wCons (wC (.int 0)) (wCons (wOp dSub (wVar 0) (wOp dPow (wC (.int 10)) (wC (.int 18)))) wNil))) (wCons (wOp dMod (wVar 0) (wC (.int 2147483629))) (wCons (wC (.int 0)) wNil)))))
def w__law_take : WS := (sSeq (sIf (wTest (wOp dGt (wOp dIx (wVar 0) (wC (.int 0))) (wC (.int 0)))) (sSeq (sSet 3 (wOp dMod (wOp dIx (wVar 0) (wC (.int 0))) (wVar 1))) (sSeq (sPut (wVar 0) (wC (.int 0)) (wOp dDiv (wOp dIx (wVar 0) (wC (.int 0))) (wVar 1))) (sRet (wVar 3)))) sNext) (sSeq (sPut (wVar 0) (wC (.int 2)) (wOp dAdd (wOp dIx (wVar 0) (wC (.int 2))) (wC (.int 1)))) (sSeq (sSet 2 (wOp dMod (wOp dPow (wOp dAdd (wOp dAdd (wOp dIx (wVar 0) (wC (.int 1))) (wOp dMul (wC (.int 15489773)) (wOp dIx (wVar 0) (wC (.int 2))))) (wC (.int 1783))) (wC (.int 5))) (wC (.int 2147483647)))) (sSeq (sSet 2 (wOp dMod (wOp dPow (wOp dAdd (wVar 2) (wOp dMul (wC (.int 104711)) (wOp dIx (wVar 0) (wC (.int 2))))) (wC (.int 3))) (wC (.int 2147483587)))) (sRet (wOp dMod (wOp dDiv (wVar 2) (wC (.int 32))) (wVar 1)))))))
def w__law_line : WS := (sSeq (sSet 1 (wOp dAdd (wC (.str (Str.ofString "abcdefghijklmnopqrstuvwxyz"))) (wC (.str (Str.ofString "A09 -_`{~\n"))))) (sRet (wJoin (wC (.str (Str.ofString ""))) (wLc (iRg1 (wCons (wCall F_law_take (wCons (wVar 0) (wCons (wC (.int 11)) wNil))) wNil)) (gvName 2) tvYes (wOp dIx (wVar 1) (wCall F_law_take (wCons (wVar 0) (wCons (wC (.int 36)) wNil)))) [2]))))
def w__law_are_small : WS := (sRet (wOp dEq (wLc (iSg (wVar 0)) (gvName 1) (wTest (wOp dNotIn (wVar 1) (wC (.str (Str.ofString "abcdefghijklmnopqrstuvwxyz"))))) (wVar 1) [1]) (wLst wNil)))
def w__law_right : WS := (sSeq (sSet 1 (wAnd (wBi dIsi (wCons (wVar 0) (wCons (wC (.ty "str")) wNil))) (wCall F_law_are_small (wCons (wVar 0) wNil)))) (sSeq (sSet 2 (wIf (wTest (wBi dIsi (wCons (wVar 0) (wCons (wC (.ty "str")) wNil)))) (wBi dLen (wCons (wVar 0) wNil)) (wC (.int 99)))) (sSeq (sSet 3 (wLst (wCons (wAnd (wVar 1) (wOp dLe (wVar 2) (wC (.int 6)))) (wCons (wAnd (wVar 1) (wChain dLe dLe (wC (.int 1)) (wVar 2) (wC (.int 8)))) (wCons (wAnd (wVar 1) (wOp dEq (wVar 2) (wC (.int 1)))) wNil))))) (sRet (wOp dEq (wBi dRepr (wCons (wLst (wCons (wCall F_is_word (wCons (wVar 0) wNil)) (wCons (wCall F_is_name (wCons (wVar 0) wNil)) (wCons (wCall F_is_letter (wCons (wVar 0) wNil)) wNil)))) wNil)) (wBi dRepr (wCons (wVar 3) wNil)))))))
def w__law_integers_right : WS := (sSeq (sSet 1 (wOp dSub (wCall F_law_take (wCons (wVar 0) (wCons (wOp dIx (wLst (wCons (wC (.int 10)) (wCons (wC (.int 100)) (wCons (wOp dPow (wC (.int 10)) (wC (.int 29))) wNil)))) (wCall F_law_take (wCons (wVar 0) (wCons (wC (.int 3)) wNil)))) wNil))) (wC (.int 5)))) (sSeq (sSet 2 (wOp dSub (wOp dAdd (wVar 1) (wCall F_law_take (wCons (wVar 0) (wCons (wC (.int 6)) wNil)))) (wC (.int 1)))) (sSeq (sFor (iLst (wLst (wCons (wOp dSub (wVar 1) (wC (.int 1))) (wCons (wVar 1) (wCons (wOp dAdd (wVar 1) (wC (.int 1))) (wCons (wVar 2) (wCons (wOp dAdd (wVar 2) (wC (.int 1))) wNil))))))) (gvName 3) (sIf (wTest (wOp dNe (wBi dRepr (wCons (wCall F_is_integer (wCons (wVar 3) (wCons (wVar 1) (wCons (wVar 2) wNil)))) wNil)) (wBi dRepr (wCons (wAnd (wOp dLe (wVar 1) (wVar 3)) (wOp dLe (wVar 3) (wVar 2))) wNil)))) (sRet (wC (.bl false))) sNext)) (sRet (wOp dEq (wLc (iLst (wLst (wCons (wC (.bl true)) (wCons (wC (.bl false)) (wCons (wC .non) (wCons (wC (.str (Str.ofString "1"))) (wCons (wLst (wCons (wC (.int 1)) wNil)) (wCons (wTup (wCons (wC (.int 1)) wNil)) (wCons wDct0 wNil))))))))) (gvName 4) tvYes (wCall F_is_integer (wCons (wVar 4) (wCons (wC (.int 0)) (wCons (wC (.int 9)) wNil)))) [4]) (wOp dMul (wLst (wCons (wC (.bl false)) wNil)) (wC (.int 7))))))))
def w_law : WS := (sSeq (sFor (iRg1 (wCons (wBi dMax (wCons (wC (.int 2)) (wCons (wBi dMin (wCons (wC (.int 8)) (wCons (wBi dLen (wCons (wVar 0) wNil)) wNil))) wNil))) wNil)) (gvName 1) (sSeq (sSet 2 (wCall F_law_box (wCons (wCall F_law_cell (wCons (wVar 0) (wCons (wVar 1) wNil))) wNil))) (sSeq (sSet 3 (wCall F_law_line (wCons (wVar 2) wNil))) (sSeq (sSet 4 (wJoin (wC (.str (Str.ofString ""))) (wLc (iSg (wVar 3)) (gvName 6) (wTest (wCall F_law_are_small (wCons (wVar 6) wNil))) (wVar 6) [6]))) (sSeq (sFor (iLst (wLst (wCons (wVar 3) (wCons (wVar 4) (wCons (wSl (wVar 4) wNoPart (wPart (wC (.int 1)))) (wCons (wSl (wVar 4) wNoPart (wPart (wC (.int 6)))) (wCons (wOp dAdd (wSl (wVar 4) wNoPart (wPart (wC (.int 6)))) (wC (.str (Str.ofString "a")))) (wCons (wOp dAdd (wSl (wVar 4) wNoPart (wPart (wC (.int 1)))) (wVar 4)) (wCons (wSl (wVar 3) wNoPart (wPart (wC (.int 1)))) (wCons (wC (.str (Str.ofString ""))) (wCons (wC (.str (Str.ofString "abcdefgh"))) wNil))))))))))) (gvName 5) (sIf (tvNot (wTest (wCall F_law_right (wCons (wVar 5) wNil)))) (sRet (wC (.bl false))) sNext)) (sIf (tvNot (wTest (wCall F_law_integers_right (wCons (wVar 2) wNil)))) (sRet (wC (.bl false))) sNext)))))) (sRet (wOp dEq (wLc (iLst (wLst (wCons (wC .non) (wCons (wC (.int 3)) (wCons (wC (.bl true)) (wCons (wLst wNil) (wCons (wLst (wCons (wC (.str (Str.ofString "a"))) wNil)) (wCons (wTup (wCons (wC (.str (Str.ofString "a"))) wNil)) (wCons (wDct1 (Str.ofString "a") (wC (.int 1))) (wCons (wC (.str (Str.ofString "abcdefghi"))) wNil)))))))))) (gvName 5) tvYes (wCall F_law_right (wCons (wVar 5) wNil)) [5]) (wOp dMul (wLst (wCons (wC (.bl true)) wNil)) (wC (.int 8))))))
end DL
namespace DL
open PySem L2
theorem ifb {c : Bool} {A B : Prop} (h1 : c = true → A) (h2 : c = false → B) : if c = true then A else B := by
  cases c
  · exact h2 rfl
  · exact h1 rfl
theorem dec_le {a b : Nat} {i j : Int} (ha : i = a) (hb : j = b) : decide (i ≤ j) = decide (a ≤ b) := by
  subst ha hb
  by_cases c : a ≤ b
  · rw [decide_eq_true c, decide_eq_true (by omega)]
  · rw [decide_eq_false c, decide_eq_false (by omega)]
theorem dec_eq {a b : Nat} {i j : Int} (ha : i = a) (hb : j = b) : decide (i = j) = decide (a = b) := by
  subst ha hb
  by_cases c : a = b
  · rw [decide_eq_true c, decide_eq_true (by omega)]
  · rw [decide_eq_false c, decide_eq_false (by omega)]
theorem r_is_whole : ∀ ds m Qd Qx, F_is_whole ds m Qd Qx → w_is_whole { nx := fun _ m' => Qd .non m', rt := Qd } (ds.map some ++ List.replicate (1 - ds.length) none) m := by
  rintro ds m Qd Qx ⟨x, rfl, hx, h⟩
  refine ⟨hx.ty, _, isa_int, ifb (fun e => ?_) (fun e => ?_)⟩
  · refine ⟨hx.ty, _, isa_bool, ?_⟩
    cases x <;> first | (cases e; done) | exact h
  · cases x <;> first | (cases e; done) | exact h
theorem r_is_integer : ∀ ds m Qd Qx, F_is_integer ds m Qd Qx → w_is_integer { nx := fun _ m' => Qd .non m', rt := Qd } (ds.map some ++ List.replicate (3 - ds.length) none) m := by
  rintro ds m Qd Qx ⟨x, lo, hi, rfl, hx, h⟩
  refine ⟨x, rfl, hx, ?_⟩
  cases x <;> first | exact h | skip
  rename_i i
  show if decide (lo ≤ i) = true then _ else _
  have h : Qd (.bl (decide (lo ≤ i) && decide (i ≤ hi))) m := h
  by_cases c : lo ≤ i
  · rw [decide_eq_true c] at h ⊢
    exact h
  · rw [decide_eq_false c] at h ⊢
    exact h
theorem small_line {n : Nat} (h : n ≤ 1000) : n ≤ sizeLine := Nat.le_trans h (by rw [sizeLine_eq]; decide)
theorem r_is_letter : ∀ ds m Qd Qx, F_is_letter ds m Qd Qx → w_is_letter { nx := fun _ m' => Qd .non m', rt := Qd } (ds.map some ++ List.replicate (1 - ds.length) none) m := by
  rintro ds m Qd Qx ⟨x, rfl, hx, h⟩
  refine ⟨hx.ty, _, isa_str, ifb (fun e => ?_) (fun e => ?_)⟩
  · cases x <;> first | (cases e; done) | skip
    rename_i z
    refine ⟨small_line hx.1, ?_⟩
    have h : Qd (.bl (letS z)) m := h
    unfold letS at h
    show if (decide ((z.length : Int) = 1) ^^ false) = true then _ else _
    have e1 : decide ((z.length : Int) = 1) = decide (z.length = 1) := dec_eq rfl rfl
    rw [Bool.xor_false, e1]
    refine ifb (fun e => ?_) (fun e => ?_)
    · rw [e, Bool.true_and] at h
      show if (!decide (z.cps.toList < [97])) = true then _ else _
      refine ifb (fun e => ?_) (fun e => ?_)
      · rw [e, Bool.true_and] at h
        exact h
      · rw [e] at h
        exact h
    · rw [e] at h
      exact h
  · cases x <;> first | (cases e; done) | exact h
theorem bls_map (f : D → Bool) : ∀ ds : List D, blsD (ds.map fun d => .bl (f d)) = some (ds.map f)
  | [] => rfl
  | d :: ds => by
    rw [List.map_cons, List.map_cons]
    unfold blsD
    rw [bls_map f ds]
    rfl
theorem sign_ok {z : Str} (hs : PyData.strOk z = true) {d : D} (hd : d ∈ signs z) : ∃ c, d = .str ⟨#[c]⟩ ∧ c ∈ z.cps.toList ∧ PyData.strOk ⟨#[c]⟩ = true := by
  obtain ⟨c, hc, rfl⟩ := List.mem_map.mp hd
  refine ⟨c, rfl, hc, ?_⟩
  unfold PyData.strOk at hs ⊢
  rw [Array.all_eq_true'] at hs
  have := hs c (Array.mem_toList_iff.mp hc)
  simpa using this
theorem signs_len (z : Str) : (signs z).length = z.length := by
  unfold signs
  rw [List.length_map, Array.length_toList]
  rfl
theorem letS_low (c : Nat) : letS ⟨#[c]⟩ = lowC c := by
  unfold letS lowC
  have e1 : (⟨#[c]⟩ : Str).length = 1 := rfl
  have e2 : (⟨#[c]⟩ : Str).cps.toList = [c] := rfl
  rw [e1, e2]
  simp only [decide_true, Bool.true_and]
  rw [Bool.eq_iff_iff]
  simp only [Bool.and_eq_true, Bool.not_eq_true', decide_eq_true_eq, decide_eq_false_iff_not, List.cons_lt_cons_iff, List.not_lt_nil, and_false, or_false]
  omega
theorem letters_low (z : Str) : letters z = z.cps.toList.all lowC := by
  unfold letters
  congr 1
  funext c
  exact letS_low c
theorem letters_ans (z : Str) : (decide (z = Str.ofString "") || (if (Txt.isascii z) = true then (if Txt.isalpha z = true then Txt.islower z else false) else false)) = letters z := by
  rw [lettered_eq, letters_low]
  cases e : z.cps.toList with
  | nil =>
    have : z = Str.ofString "" := by
      obtain ⟨⟨l⟩⟩ := z
      have e : l = [] := e
      subst e
      rfl
    rw [decide_eq_true this]
    rfl
  | cons c l =>
    have : z ≠ Str.ofString "" := fun h => by
      subst h
      have e : ([] : List Nat) = c :: l := e
      cases e
    rw [decide_eq_false this, Bool.false_or]
    rfl
theorem lettered_go {z : Str} {m : Mem} {Q : D → Mem → Prop} (h : Q (.bl (letters z)) m) : if (decide (z = Str.ofString "") ^^ false) = true then Q (.bl true) m else (wIs Txt.isascii z [] m fun x m1 => match x with
      | .bl c => if c = true then wIs Txt.isalpha z [] m1 (fun x m2 => match x with
        | .bl c => if c = true then wIs Txt.islower z [] m2 Q else Q (.bl false) m2
        | _ => False) else Q (.bl false) m1
      | _ => False) := by
  rw [← letters_ans z] at h
  rw [Bool.xor_false]
  refine ifb (fun e => ?_) (fun e => ?_)
  · rw [e] at h; exact h
  · rw [e, Bool.false_or] at h
    refine ⟨rfl, ?_⟩
    refine ifb (fun e => ?_) (fun e => ?_)
    · rw [if_pos e] at h
      refine ⟨rfl, ?_⟩
      refine ifb (fun e => ?_) (fun e => ?_)
      · rw [if_pos e] at h
        exact ⟨rfl, h⟩
      · rw [if_neg (by rw [e]; exact Bool.false_ne_true)] at h
        exact h
    · rw [if_neg (by rw [e]; exact Bool.false_ne_true)] at h
      exact h
theorem r_is_lettered : ∀ ds m Qd Qx, F_is_lettered ds m Qd Qx → w_is_lettered { nx := fun _ m' => Qd .non m', rt := Qd } (ds.map some ++ List.replicate (1 - ds.length) none) m := by
  rintro ds m Qd Qx ⟨x, rfl, hx, h⟩
  refine ⟨hx.ty, _, isa_str, ?_⟩
  refine ifb (fun e => ?_) (fun e => ?_)
  · cases x <;> first | (cases e; done) | exact h
  · cases x <;> first | (cases e; done) | skip
    exact lettered_go h
theorem r_is_word : ∀ ds m Qd Qx, F_is_word ds m Qd Qx → w_is_word { nx := fun _ m' => Qd .non m', rt := Qd } (ds.map some ++ List.replicate (1 - ds.length) none) m := by
  rintro ds m Qd Qx ⟨x, rfl, hx, h⟩
  refine ⟨x, rfl, hx, ifb (fun e => ?_) (fun e => ?_)⟩
  · cases x <;> first | (cases e; done) | skip
    rename_i z
    refine ⟨small_line hx.1, ?_⟩
    have h : Qd (.bl (letters z && decide (z.length ≤ 6))) m := h
    have e : letters z = true := e
    rw [e, Bool.true_and] at h
    show Qd (.bl (decide ((z.length : Int) ≤ 6))) m
    have e1 : decide ((z.length : Int) ≤ 6) = decide (z.length ≤ 6) := dec_le rfl rfl
    rw [e1]
    exact h
  · cases x <;> first | exact h | skip
    rename_i z
    have h : Qd (.bl (letters z && decide (z.length ≤ 6))) m := h
    have e : letters z = false := e
    rw [e] at h
    exact h
theorem r_is_name : ∀ ds m Qd Qx, F_is_name ds m Qd Qx → w_is_name { nx := fun _ m' => Qd .non m', rt := Qd } (ds.map some ++ List.replicate (1 - ds.length) none) m := by
  rintro ds m Qd Qx ⟨x, rfl, hx, h⟩
  refine ⟨x, rfl, hx, ifb (fun e => ?_) (fun e => ?_)⟩
  · cases x <;> first | (cases e; done) | skip
    rename_i z
    refine ⟨small_line hx.1, ?_⟩
    have h : Qd (.bl (letters z && (decide (1 ≤ z.length) && decide (z.length ≤ 8)))) m := h
    have e : letters z = true := e
    rw [e, Bool.true_and] at h
    show if decide ((1 : Int) ≤ z.length) = true then _ else _
    have e1 : decide ((1 : Int) ≤ z.length) = decide (1 ≤ z.length) := dec_le rfl rfl
    rw [e1]
    refine ifb (fun e => ?_) (fun e => ?_)
    · rw [e, Bool.true_and] at h
      show Qd (.bl (decide ((z.length : Int) ≤ 8))) m
      have e2 : decide ((z.length : Int) ≤ 8) = decide (z.length ≤ 8) := dec_le rfl rfl
      rw [e2]
      exact h
    · rw [e] at h
      exact h
  · cases x <;> first | exact h | skip
    rename_i z
    have h : Qd (.bl (letters z && (decide (1 ≤ z.length) && decide (z.length ≤ 8)))) m := h
    have e : letters z = false := e
    rw [e] at h
    exact h

/-! ### the law's own defs -/
theorem ixN_lt {n : Nat} {i : Int} (h0 : 0 ≤ i) (h1 : i < n) : ixN n i = some i.toNat := by
  unfold ixN
  rw [if_pos h0, if_pos h1]
theorem atI_lt {α : Type} {xs : List α} {i : Int} (h0 : 0 ≤ i) (h1 : i < xs.length) : ∃ x, atI xs i = some x := by
  unfold L2.atI
  rw [ixN_lt h0 h1]
  have h : i.toNat < xs.length := by omega
  exact ⟨xs[i.toNat], List.getElem?_eq_getElem h⟩
theorem r__law_cell : ∀ ds m Qd Qx, F_law_cell ds m Qd Qx → w__law_cell { nx := fun _ m' => Qd .non m', rt := Qd } (ds.map some ++ List.replicate (2 - ds.length) none) m := by
  rintro ds m Qd Qx ⟨ns, k, rfl, h0, h1, h⟩
  show if decide (k < (ns.length : Int)) = true then _ else _
  refine ifb (fun e => ?_) (fun e => ?_)
  · obtain ⟨x, hx⟩ := atI_lt h0 (of_decide_eq_true e)
    exact ⟨x, hx, h x⟩
  · exact ⟨Or.inl (Or.inl ⟨by decide, by decide⟩), h _⟩
theorem r__law_box : ∀ ds m Qd Qx, F_law_box ds m Qd Qx → w__law_box { nx := fun _ m' => Qd .non m', rt := Qd } (ds.map some ++ List.replicate (1 - ds.length) none) m := by
  rintro ds m Qd Qx ⟨i, rfl, h⟩
  refine ⟨⟨by decide, by decide, by decide⟩, ?_⟩
  refine ⟨by decide, ?_⟩
  refine ⟨by show 3 ≤ sizeLine; rw [sizeLine_eq]; decide, fun p hp => ?_⟩
  refine h p _ hp ⟨_, _, _, rfl, ?_, Int.emod_nonneg _ (by decide), ?_, Int.le_refl _, Int.le_refl _⟩
  · show (0 : Int) ≤ if i - 10 ^ 18 > 0 then i - 10 ^ 18 else 0
    split <;> omega
  · have := Int.emod_lt_of_pos i (show (0 : Int) < 2147483629 by decide)
    omega
theorem div_ok {j : Int} (h0 : 0 < j) (h1 : j < 2 ^ 200) (i : Int) : CDivW i j := by
  refine wide_div (b := 200) h0 ?_ (by decide) (by decide)
  have : (j.natAbs : Int) = j := Int.natAbs_of_nonneg (Int.le_of_lt h0)
  have h2 : (j.natAbs : Int) < ((2 ^ 200 : Nat) : Int) := by rw [this]; exact_mod_cast h1
  exact_mod_cast h2
theorem r__law_take : ∀ ds m Qd Qx, F_law_take ds m Qd Qx → w__law_take { nx := fun _ m' => Qd .non m', rt := Qd } (ds.map some ++ List.replicate (4 - ds.length) none) m := by
  rintro ds m Qd Qx ⟨a, n, c, l, rfl, hm, ⟨x, y, z, rfl, hx, hy0, hy, hz0, hz⟩, hc, hn0, hn, h⟩
  refine ⟨_, _, hm, rfl, ?_⟩
  show if decide (0 < x) = true then _ else _
  refine ifb (fun e => ?_) (fun e => ?_)
  · refine ⟨_, _, hm, rfl, hn0, ?_⟩
    refine ⟨_, _, hm, rfl, div_ok hn0 hn x, ?_⟩
    refine ⟨_, 0, hm, rfl, ?_⟩
    refine h _ _ (Int.emod_nonneg _ (by omega)) (Int.emod_lt_of_pos _ hn0) ⟨x / n, y, z, rfl, Int.ediv_nonneg hx (by omega), hy0, hy, hz0, by omega⟩
  · refine ⟨_, _, hm, rfl, ?_⟩
    refine ⟨_, 2, hm, rfl, ?_⟩
    refine ⟨_, _, Mem.up_same, rfl, ?_⟩
    refine ⟨_, _, Mem.up_same, rfl, ?_⟩
    refine ⟨Or.inl (Or.inl ⟨by decide, by decide⟩), ?_⟩
    refine ⟨⟨by decide, by decide, by omega⟩, ?_⟩
    refine ⟨by decide, ?_⟩
    have q0 := Int.emod_nonneg ((y + 15489773 * (z + 1) + 1783) ^ Int.toNat 5) (show (2147483647 : Int) ≠ 0 by decide)
    have q1 := Int.emod_lt_of_pos ((y + 15489773 * (z + 1) + 1783) ^ Int.toNat 5) (show (0 : Int) < 2147483647 by decide)
    generalize (y + 15489773 * (z + 1) + 1783) ^ Int.toNat 5 % 2147483647 = v at q0 q1 ⊢
    refine ⟨_, _, Mem.up_same, rfl, ?_⟩
    refine ⟨Or.inl (Or.inl ⟨by decide, by decide⟩), ?_⟩
    refine ⟨⟨by decide, by decide, by omega⟩, ?_⟩
    refine ⟨by decide, ?_⟩
    refine ⟨wide_div (b := 10) (by decide) (by decide) (by decide) (by decide), ?_⟩
    refine ⟨hn0, ?_⟩
    exact h _ _ (Int.emod_nonneg _ (by omega)) (Int.emod_lt_of_pos _ hn0) ⟨x, y, z + 1, rfl, hx, hy0, hy, by omega, by omega⟩
/-- strings of drawn signs -/
theorem strs_map {α : Type} (f : α → Str) : ∀ ds : List α, strsD (ds.map fun d => .str (f d)) = some (ds.map f)
  | [] => rfl
  | d :: ds => by
    rw [List.map_cons, List.map_cons]
    unfold strsD
    rw [strs_map f ds]
    rfl
/-- a list of signs -/
def Sgs (ds : List D) : Prop := ∃ cs : List Nat, ds = cs.map (fun c => D.str ⟨#[c]⟩) ∧ ∀ c ∈ cs, c < 0x110000
theorem Sgs.snoc {ds : List D} {c : Nat} (h : Sgs ds) (hc : c < 0x110000) : Sgs (ds ++ [.str ⟨#[c]⟩]) := by
  obtain ⟨cs, rfl, hk⟩ := h
  refine ⟨cs ++ [c], by rw [List.map_append]; rfl, fun e he => ?_⟩
  rcases List.mem_append.mp he with he | he
  · exact hk e he
  · rw [List.mem_singleton] at he; subst he; exact hc
theorem join_codes : ∀ cs : List Nat, (Str.join (Str.ofString "") (cs.map fun c => (⟨#[c]⟩ : Str))).cps = cs.toArray
  | [] => rfl
  | [c] => rfl
  | c :: e :: r => by
    have ih := join_codes (e :: r)
    show ((#[c] ++ (Str.ofString "").cps) ++ (Str.join (Str.ofString "") ((e :: r).map fun c => (⟨#[c]⟩ : Str))).cps) = (c :: e :: r).toArray
    rw [ih]
    have e0 : (Str.ofString "").cps = #[] := by decide
    rw [e0, Array.append_empty]
    simp
theorem join_signs (cs : List Nat) : Txt.join (Str.ofString "") (cs.map fun c => (⟨#[c]⟩ : Str)) = ⟨cs.toArray⟩ := by
  have h := join_codes cs
  rw [TL.join_eq]
  generalize Str.join (Str.ofString "") (cs.map fun c => (⟨#[c]⟩ : Str)) = z at h ⊢
  obtain ⟨a⟩ := z
  exact congrArg Str.mk h
theorem r__law_line : ∀ ds m Qd Qx, F_law_line ds m Qd Qx → w__law_line { nx := fun _ m' => Qd .non m', rt := Qd } (ds.map some ++ List.replicate (3 - ds.length) none) m := by
  rintro ds m Qd Qx ⟨a, c, l, rfl, hm, hb, hc, h⟩
  refine ⟨by decide, ?_⟩
  refine ⟨a, 11, c, l, rfl, hm, hb, by omega, by decide, by decide, ?_⟩
  intro n l1 hn0 hn1 hb1
  refine ⟨⟨by omega, by omega⟩, ?_⟩
  refine ⟨by rw [List.length_map, List.length_range]; omega, ?_⟩
  refine lc_inv (fun acc m' => ∃ l', m' = m.up a l' ∧ Box l' (c + 1 + acc.length) ∧ Sgs acc) n.toNat _ _ _ _ ?_ ⟨l1, rfl, by simpa using hb1, [], rfl, by simp⟩ ?_ ?_
  · rw [List.length_map, List.length_range]
    exact Nat.zero_add _
  · rintro d hd acc m' hacc ⟨l', rfl, hb', hs⟩ Q hQ
    refine ⟨a, 36, _, l', rfl, Mem.up_same, hb', by omega, by decide, by decide, ?_⟩
    intro k l2 hk0 hk1 hb2
    refine ⟨by decide, ?_⟩
    have hlen : ((Str.ofString "abcdefghijklmnopqrstuvwxyz" ++ Str.ofString "A09 -_`{~\n").cps.toList).length = 36 := by decide +kernel
    have hall : ∀ x ∈ (Str.ofString "abcdefghijklmnopqrstuvwxyz" ++ Str.ofString "A09 -_`{~\n").cps.toList, x < 0x110000 := by decide +kernel
    obtain ⟨x, hx⟩ := atI_lt (xs := (Str.ofString "abcdefghijklmnopqrstuvwxyz" ++ Str.ofString "A09 -_`{~\n").cps.toList) hk0 (by rw [hlen]; omega)
    refine ⟨x, hx, ?_⟩
    refine hQ _ _ ⟨l2, Mem.up_up, ?_, hs.snoc ?_⟩
    · rw [List.length_append, List.length_singleton]
      obtain ⟨x1, x2, x3, e, q1, q2, q3, q4, q5⟩ := hb2
      exact ⟨x1, x2, x3, e, q1, q2, q3, q4, by omega⟩
    · unfold L2.atI at hx
      obtain ⟨j, hj, hx⟩ := Option.bind_eq_some_iff.mp hx
      exact hall x (List.mem_of_getElem? hx)
  · rintro acc m' hl ⟨l', rfl, hb', cs, rfl, hk⟩
    rw [List.length_map] at hl
    refine ⟨_, strs_map (fun c => (⟨#[c]⟩ : Str)) cs, ?_, ?_⟩
    · rw [List.map_map]
      have e1 : (cs.map (Str.length ∘ fun c => (⟨#[c]⟩ : Str))).sum = cs.length := by
        have : (Str.length ∘ fun c => (⟨#[c]⟩ : Str)) = fun _ : Nat => 1 := rfl
        rw [this]
        clear hl hb' hk
        induction cs with
        | nil => rfl
        | cons x r ih => rw [List.map_cons, List.sum_cons, ih, List.length_cons]; omega
      rw [e1, List.length_map]
      have e2 : (Str.ofString "").length = 0 := by decide
      rw [e2]
      omega
    · rw [join_signs]
      refine h _ _ ⟨?_, ?_⟩ ?_
      · show cs.toArray.size ≤ 10
        rw [List.size_toArray]
        omega
      · unfold PyData.strOk
        rw [Array.all_eq_true']
        intro x hx
        exact decide_eq_true (hk x (List.mem_toArray.mp hx))
      · rw [List.length_map] at hb'
        obtain ⟨x1, x2, x3, e, q1, q2, q3, q4, q5⟩ := hb'
        exact ⟨x1, x2, x3, e, q1, q2, q3, q4, by omega⟩

/-! ### the law's look at signs -/
theorem eqv_nil : ∀ l : List D, PyData.eqvAll (pyA l) [] = l.isEmpty
  | [] => by unfold pyA PyData.eqvAll; rfl
  | d :: l => by unfold pyA PyData.eqvAll; rfl
theorem lay_signs {l : List D} (h : ∀ d ∈ l, ∃ z, d = .str z ∧ PyData.strOk z = true) : PyData.canLayAll0 (pyA l) = true := by
  induction l with
  | nil => unfold pyA PyData.canLayAll0; rfl
  | cons d l ih =>
    obtain ⟨z, rfl, hz⟩ := h d List.mem_cons_self
    unfold pyA PyData.canLayAll0
    rw [ih fun e he => h e (List.mem_cons_of_mem _ he)]
    unfold py PyData.canLay0
    rw [hz]
    rfl
theorem depth_signs {l : List D} (h : ∀ d ∈ l, ∃ z, d = .str z) : PyData.depthAll (pyA l) ≤ 1 := by
  induction l with
  | nil => decide
  | cons d l ih =>
    obtain ⟨z, rfl⟩ := h d List.mem_cons_self
    unfold pyA PyData.depthAll
    have := ih fun e he => h e (List.mem_cons_of_mem _ he)
    unfold py PyData.depth
    omega
theorem r__law_are_small : ∀ ds m Qd Qx, F_law_are_small ds m Qd Qx → w__law_are_small { nx := fun _ m' => Qd .non m', rt := Qd } (ds.map some ++ List.replicate (2 - ds.length) none) m := by
  rintro ds m Qd Qx ⟨z, rfl, hz, hk, h⟩
  refine ⟨by rw [signs_len]; omega, ?_⟩
  refine lc_pure (fun d => match d with | .str y => !(y.cps.toList.all fun c => decide (c ∈ alpha)) | _ => false) (fun d => d) _ _ _ ?_ (fun d hd _ Q q => q) ?_
  · intro d hd Q q
    obtain ⟨c, rfl, hc, _⟩ := sign_ok hk hd
    refine ⟨c, rfl, ?_⟩
    have e : (decide (c ∈ alpha) ^^ true) = !((#[c] : Array Nat).toList.all fun c => decide (c ∈ alpha)) := by
      show (decide (c ∈ alpha) ^^ true) = !(decide (c ∈ alpha) && true)
      rw [Bool.and_true, Bool.xor_true]
    exact e ▸ q
  · rw [List.nil_append, List.map_id']
    refine ⟨by show 0 ≤ sizeLine; exact Nat.zero_le _, ?_⟩
    generalize hl : List.filter _ (signs z) = l
    have hstr : ∀ d ∈ l, ∃ y, d = .str y ∧ PyData.strOk y = true := by
      intro d hd
      subst hl
      obtain ⟨c, rfl, _, h3⟩ := sign_ok hk ((List.mem_filter.mp hd).1)
      exact ⟨_, rfl, h3⟩
    refine ⟨?_, by decide, ?_⟩
    · unfold SeqAt.shaped
      have a1 : (py (.lst l)).canLay0 = true := by
        unfold py PyData.canLay0
        exact lay_signs hstr
      have a2 : (py (.lst l)).depth ≤ 64 := by
        unfold py PyData.depth
        have := depth_signs (l := l) fun d hd => let ⟨y, e, _⟩ := hstr d hd; ⟨y, e⟩
        omega
      rw [a1, decide_eq_true a2]
      rfl
    · have e1 : PyData.eqv (py (.lst l)) (py (.lst [])) = l.isEmpty := by
        show PyData.eqv (.list (pyA l)) (.list (pyA [])) = _
        unfold PyData.eqv
        exact eqv_nil l
      rw [e1, Bool.xor_false]
      have e2 : l.isEmpty = small z := by
        subst hl
        unfold small signs
        rw [List.filter_map, List.isEmpty_map]
        rw [Bool.eq_iff_iff, List.isEmpty_iff, List.filter_eq_nil_iff, List.all_eq_true]
        simp
      rw [e2]
      exact h

/-! ### the two looks agree -/
theorem alpha_eq : alpha = [97, 98, 99, 100, 101, 102, 103, 104, 105, 106, 107, 108, 109, 110, 111, 112, 113, 114, 115, 116, 117, 118, 119, 120, 121, 122] := by decide +kernel
theorem lt_one (a b : Nat) : ([a] < [b]) ↔ a < b := by
  rw [List.cons_lt_cons_iff]
  constructor
  · rintro (h | ⟨_, h⟩)
    · exact h
    · cases h
  · exact Or.inl
theorem letS_one (c : Nat) : letS ⟨#[c]⟩ = decide (c ∈ alpha) := by
  rw [Bool.eq_iff_iff, decide_eq_true_iff, alpha_eq]
  unfold letS
  have e1 : decide ((⟨#[c]⟩ : Str).length = 1) = true := by
    rw [decide_eq_true_iff]; rfl
  rw [e1, Bool.true_and, Bool.and_eq_true, Bool.not_eq_true', Bool.not_eq_true', decide_eq_false_iff_not, decide_eq_false_iff_not]
  show (¬ [c] < [97] ∧ ¬ [122] < [c]) ↔ _
  rw [lt_one, lt_one]
  simp only [List.mem_cons, List.not_mem_nil, or_false]
  omega
theorem letters_small (z : Str) : letters z = small z := by
  unfold letters small
  congr 1
  funext c
  exact letS_one c
theorem one_sign {z : Str} (h : z.length = 1) : ∃ c, z = ⟨#[c]⟩ := by
  obtain ⟨⟨l⟩⟩ := z
  have h : l.length = 1 := h
  obtain ⟨c, rfl⟩ := List.length_eq_one_iff.mp h
  exact ⟨c, rfl⟩
theorem letS_small (z : Str) : letS z = (small z && decide (z.length = 1)) := by
  by_cases h : z.length = 1
  · rw [decide_eq_true h, Bool.and_true]
    obtain ⟨c, rfl⟩ := one_sign h
    rw [letS_one]
    unfold small
    show _ = (decide (c ∈ alpha) && true)
    rw [Bool.and_true]
  · rw [decide_eq_false h, Bool.and_false]
    unfold letS
    rw [decide_eq_false h, Bool.false_and]
theorem shows3 (a b c : Bool) : Shows (py (.lst [.bl a, .bl b, .bl c])) := by
  cases a <;> cases b <;> cases c <;> exact ⟨by decide +kernel, by decide +kernel, by decide +kernel, by decide +kernel, by decide +kernel⟩
theorem same3 {a b c a' b' c' : Bool} {m : Mem} {Q : D → Mem → Prop} (h1 : a = a') (h2 : b = b') (h3 : c = c') (h : Q (.bl true) m) :
    dRepr [.lst [.bl a, .bl b, .bl c]] m (fun x m1 => dRepr [.lst [.bl a', .bl b', .bl c']] m1 (fun y m2 => dEq x y m2 Q)) := by
  subst h1 h2 h3
  refine ⟨shows3 _ _ _, ?_⟩
  refine ⟨shows3 _ _ _, ?_⟩
  show Q (.bl (decide (_ = _) ^^ false)) m
  rw [decide_eq_true rfl]
  exact h
theorem three : 3 ≤ sizeLine := by rw [sizeLine_eq]; decide
theorem r__law_right : ∀ ds m Qd Qx, F_law_right ds m Qd Qx → w__law_right { nx := fun _ m' => Qd .non m', rt := Qd } (ds.map some ++ List.replicate (4 - ds.length) none) m := by
  rintro ds m Qd Qx ⟨x, rfl, hx, h⟩
  refine ⟨hx.ty, _, isa_str, ?_⟩
  by_cases hs : strB x = true
  · cases x <;> first | (cases hs; done) | skip
    rename_i z
    refine ⟨z, rfl, hx.1, hx.2, ?_⟩
    refine ⟨rfl, _, isa_str, ?_⟩
    refine ⟨small_line hx.1, ?_⟩
    have e1 : decide ((z.length : Int) ≤ 6) = decide (z.length ≤ 6) := dec_le rfl rfl
    have e2 : decide ((1 : Int) ≤ z.length) = decide (1 ≤ z.length) := dec_le rfl rfl
    have e3 : decide ((z.length : Int) ≤ 8) = decide (z.length ≤ 8) := dec_le rfl rfl
    have e4 : decide ((z.length : Int) = 1) = decide (z.length = 1) := dec_eq rfl rfl
    have n1 : isWord (.str z) = (small z && decide (z.length ≤ 6)) := by
      show (letters z && decide (z.length ≤ 6)) = _
      rw [letters_small]
    have n2 : isName (.str z) = (small z && (decide (1 ≤ z.length) && decide (z.length ≤ 8))) := by
      show (letters z && (decide (1 ≤ z.length) && decide (z.length ≤ 8))) = _
      rw [letters_small]
    have n3 : isLetter (.str z) = (small z && decide (z.length = 1)) := letS_small z
    cases hz : small z
    · rw [hz] at n1 n2 n3
      refine ⟨three, ?_⟩
      refine ⟨_, rfl, hx, ?_⟩
      refine ⟨_, rfl, hx, ?_⟩
      refine ⟨_, rfl, hx, ?_⟩
      refine ⟨three, ?_⟩
      exact same3 n1 n2 n3 h
    · rw [hz, Bool.true_and] at n1 n2 n3
      show if decide ((1 : Int) ≤ z.length) = true then _ else _
      rw [e2]
      cases hh : decide (1 ≤ z.length)
      · rw [hh] at n2
        refine ⟨three, ?_⟩
        refine ⟨_, rfl, hx, ?_⟩
        refine ⟨_, rfl, hx, ?_⟩
        refine ⟨_, rfl, hx, ?_⟩
        refine ⟨three, ?_⟩
        exact same3 (n1.trans e1.symm) n2 (n3.trans (e4.symm.trans (Bool.xor_false _).symm)) h
      · rw [hh, Bool.true_and] at n2
        refine ⟨three, ?_⟩
        refine ⟨_, rfl, hx, ?_⟩
        refine ⟨_, rfl, hx, ?_⟩
        refine ⟨_, rfl, hx, ?_⟩
        refine ⟨three, ?_⟩
        exact same3 (n1.trans e1.symm) (n2.trans e3.symm) (n3.trans (e4.symm.trans (Bool.xor_false _).symm)) h
  · have hs : strB x = false := by simpa using hs
    have n1 : isWord x = false := by cases x <;> first | (cases hs; done) | rfl
    have n2 : isName x = false := by cases x <;> first | (cases hs; done) | rfl
    have n3 : isLetter x = false := by cases x <;> first | (cases hs; done) | rfl
    rw [hs]
    refine ⟨hx.ty, _, isa_str, ?_⟩
    rw [hs]
    refine ⟨three, ?_⟩
    refine ⟨_, rfl, hx, ?_⟩
    refine ⟨_, rfl, hx, ?_⟩
    refine ⟨_, rfl, hx, ?_⟩
    refine ⟨three, ?_⟩
    exact same3 n1 n2 n3 h

theorem true_text {b : Bool} {m : Mem} {Q : Bool → Mem → Prop} (h : Q false m) : wTest (fun _ m Q _ => dNe (.str (if b = true then Str.ofString "True" else Str.ofString "False")) (.str (if b = true then Str.ofString "True" else Str.ofString "False")) m Q) [] m Q (fun _ _ => False) := by
  show Q (decide (_ = _) ^^ true) m
  rw [decide_eq_true rfl]
  exact h
theorem pick3 {k : Int} (h0 : 0 ≤ k) (h1 : k < 3) : ∃ n : Int, atI [D.int 10, D.int 100, D.int (10 ^ Int.toNat 29)] k = some (.int n) ∧ 0 < n ∧ n < 2 ^ 200 := by
  have : k = 0 ∨ k = 1 ∨ k = 2 := by omega
  rcases this with rfl | rfl | rfl
  · exact ⟨_, rfl, by decide, by decide⟩
  · exact ⟨_, rfl, by decide, by decide⟩
  · exact ⟨_, rfl, by decide, by decide⟩
theorem r__law_integers_right : ∀ ds m Qd Qx, F_law_integers_right ds m Qd Qx → w__law_integers_right { nx := fun _ m' => Qd .non m', rt := Qd } (ds.map some ++ List.replicate (5 - ds.length) none) m := by
  rintro ds m Qd Qx ⟨a, c, l, rfl, hm, hb, hc, h⟩
  refine ⟨⟨by decide, by decide, by decide⟩, three, ?_⟩
  refine ⟨a, 3, c, l, rfl, hm, hb, by omega, by decide, by decide, ?_⟩
  intro k l1 hk0 hk1 hb1
  obtain ⟨n, hn, hn0, hn1⟩ := pick3 hk0 hk1
  refine ⟨_, hn, ?_⟩
  refine ⟨a, n, _, l1, rfl, Mem.up_same, hb1, by omega, hn0, hn1, ?_⟩
  intro lo' l2 _ _ hb2
  refine ⟨a, 6, _, l2, rfl, Mem.up_same, hb2, by omega, by decide, by decide, ?_⟩
  intro hi' l3 _ _ hb3
  rw [Mem.up_up, Mem.up_up]
  generalize lo' - 5 = lo
  have five : 5 ≤ sizeLine := by rw [sizeLine_eq]; decide
  refine ⟨five, ?_⟩
  generalize hhi : lo + hi' - 1 = hi
  refine loop_inv (fun ρ m' => m' = m.up a l3 ∧ ∃ o, ρ = [some (.box a), some (.int lo), some (.int hi), o, none]) _ _ _ ⟨rfl, none, rfl⟩ ?_ ?_
  · rintro d hd ρ m' ⟨rfl, o, rfl⟩ E' hrt hex hnx hct
    obtain ⟨v, rfl⟩ : ∃ v, d = .int v := by
      simp only [List.mem_cons, List.not_mem_nil, or_false] at hd
      rcases hd with rfl | rfl | rfl | rfl | rfl <;> exact ⟨_, rfl⟩
    have fin : ∀ b : Bool, (decide ((if b = true then Str.ofString "True" else Str.ofString "False") = (if b = true then Str.ofString "True" else Str.ofString "False")) ^^ true) = false := by
      intro b
      rw [decide_eq_true rfl]
      rfl
    have nx := hnx [some (.box a), some (.int lo), some (.int hi), some (.int v), none] (m.up a l3) ⟨rfl, _, rfl⟩
    refine ⟨_, _, _, rfl, rfl, ?_⟩
    show if decide (lo ≤ v) = true then _ else _
    have e : isIn (.int v) lo hi = (decide (lo ≤ v) && decide (v ≤ hi)) := rfl
    cases c1 : decide (lo ≤ v)
    · rw [c1] at e
      show if (decide ((if isIn (.int v) lo hi = true then Str.ofString "True" else Str.ofString "False") = _) ^^ true) = true then _ else _
      rw [e]
      have f := fin false
      exact f ▸ nx
    · rw [c1, Bool.true_and] at e
      show if (decide ((if isIn (.int v) lo hi = true then Str.ofString "True" else Str.ofString "False") = (if decide (v ≤ hi) = true then Str.ofString "True" else Str.ofString "False")) ^^ true) = true then _ else _
      rw [e, fin]
      exact nx
  · rintro ρ m' ⟨rfl, o, rfl⟩
    have one : 1 ≤ sizeLine := by rw [sizeLine_eq]; decide
    have seven : 7 ≤ sizeLine := by rw [sizeLine_eq]; decide
    refine ⟨one, one, seven, (by show 7 ≤ 1000000; decide), ?_⟩
    refine ⟨_, _, _, rfl, rfl, ?_⟩
    refine ⟨_, _, _, rfl, rfl, ?_⟩
    refine ⟨_, _, _, rfl, rfl, ?_⟩
    refine ⟨_, _, _, rfl, ⟨by decide, by decide +kernel⟩, ?_⟩
    refine ⟨_, _, _, rfl, rfl, ?_⟩
    refine ⟨_, _, _, rfl, rfl, ?_⟩
    refine ⟨_, _, _, rfl, rfl, ?_⟩
    refine ⟨one, ⟨by decide, by decide, by show 1 * 7 ≤ sizeLine; exact seven⟩, ?_⟩
    refine ⟨by decide +kernel, by decide +kernel, ?_⟩
    have e : (PyData.eqv (py (.lst [.bl false, .bl false, .bl false, .bl false, .bl false, .bl false, .bl false])) (py (.lst (List.replicate (Int.toNat 7) [D.bl false]).flatten)) ^^ false) = true := by decide +kernel
    exact e ▸ h l3

/-! ### the law -/
theorem ok_sub {z y : Str} (hz : okL z) (hl : y.length ≤ z.length) (hs : ∀ c ∈ y.cps.toList, c ∈ z.cps.toList) : okL y := by
  refine ⟨Nat.le_trans hl hz.1, ?_⟩
  have h := hz.2
  unfold PyData.strOk at h ⊢
  rw [Array.all_eq_true'] at h ⊢
  intro c hc
  exact h c (Array.mem_toList_iff.mp (hs c (Array.mem_toList_iff.mpr hc)))
theorem ok_cut {z : Str} (hz : okL z) (lo hi : Option Int) : okL (cutS z lo hi) := by
  refine ok_sub hz (cutS_length z lo hi) ?_
  intro c hc
  unfold cutS at hc
  exact List.mem_of_mem_drop (List.mem_of_mem_take hc)
theorem okT_app {a b : Str} (ha : okL a) (hb : okL b) : okT (.str (a ++ b)) := by
  have e : (a ++ b).cps = a.cps ++ b.cps := rfl
  refine ⟨?_, ?_⟩
  · show (a.cps ++ b.cps).size ≤ 1000
    rw [Array.size_append]
    have h1 : a.cps.size ≤ 10 := ha.1
    have h2 : b.cps.size ≤ 10 := hb.1
    omega
  · have h1 := ha.2
    have h2 := hb.2
    unfold PyData.strOk at h1 h2 ⊢
    rw [e, Array.all_append, h1, h2]
    rfl
theorem okL.T {z : Str} (h : okL z) : okT (.str z) := ⟨Nat.le_trans h.1 (by decide), h.2⟩
theorem okL.line {z : Str} (h : okL z) : z.length ≤ sizeLine := small_line (Nat.le_trans h.1 (by decide))
theorem app_line {a b : Str} (ha : okL a) (hb : okL b) : a.length + b.length ≤ sizeLine := by
  have h1 := ha.1
  have h2 := hb.1
  exact small_line (by omega)
theorem r_law : ∀ ds m Qd Qx, F_law ds m Qd Qx → w_law { nx := fun _ m' => Qd .non m', rt := Qd } (ds.map some ++ List.replicate (7 - ds.length) none) m := by
  rintro ds m Qd Qx ⟨ns, rfl, hl, h⟩
  have hb : ∃ n : Int, (if (if (ns.length : Int) < 8 then (ns.length : Int) else 8) > 2 then (if (ns.length : Int) < 8 then (ns.length : Int) else 8) else 2) = n ∧ 0 ≤ n ∧ n ≤ 8 := by
    refine ⟨_, rfl, ?_, ?_⟩
    · split <;> split <;> omega
    · split <;> split <;> omega
  obtain ⟨n, en, hn0, hn8⟩ := hb
  refine ⟨?_, ?_⟩
  · show -(2 ^ 62) ≤ (if (if (ns.length : Int) < 8 then (ns.length : Int) else 8) > 2 then (if (ns.length : Int) < 8 then (ns.length : Int) else 8) else 2) ∧ (if (if (ns.length : Int) < 8 then (ns.length : Int) else 8) > 2 then (if (ns.length : Int) < 8 then (ns.length : Int) else 8) else 2) < 2 ^ 62
    rw [en]
    omega
  refine loop_inv (fun ρ m' => ∃ o1 o2 o3 o4 o5, ρ = [some (.scr ns), o1, o2, o3, o4, o5, none]) _ _ _ ⟨none, none, none, none, none, rfl⟩ ?_ ?_
  · rintro d hd ρ m1 ⟨o1, o2, o3, o4, o5, rfl⟩ E' hrt hex hnx hct
    obtain ⟨i, hi, rfl⟩ := List.mem_map.mp hd
    have hi : i < (if (if (ns.length : Int) < 8 then (ns.length : Int) else 8) > 2 then (if (ns.length : Int) < 8 then (ns.length : Int) else 8) else 2).toNat := List.mem_range.mp hi
    rw [en] at hi
    refine ⟨ns, _, rfl, by omega, by omega, ?_⟩
    intro cell
    refine ⟨cell, rfl, ?_⟩
    intro p l hp hbx
    refine ⟨p, 0, l, rfl, Mem.up_same, hbx, by decide, ?_⟩
    intro z l1 hz hb1
    rw [Mem.up_up]
    refine ⟨by rw [signs_len]; have := hz.1; omega, ?_⟩
    refine lc_pure (fun d => match d with | .str y => small y | _ => false) (fun d => d) _ _ _ ?_ (fun d hd _ Q q => q) ?_
    · intro d hd Q q
      obtain ⟨c, rfl, hc, hk⟩ := sign_ok hz.2 hd
      exact ⟨_, rfl, (by decide : (1 : Nat) ≤ 1000), hk, q⟩
    · rw [List.nil_append, List.map_id']
      have ef : List.filter (fun d => match d with | .str y => small y | _ => false) (signs z) = (z.cps.toList.filter fun c => small ⟨#[c]⟩).map fun c => D.str ⟨#[c]⟩ := by
        unfold signs
        rw [List.filter_map]
        rfl
      rw [ef]
      generalize hcs : (z.cps.toList.filter fun c => small ⟨#[c]⟩) = cs
      have hlen : cs.length ≤ 10 := by
        rw [← hcs]
        refine Nat.le_trans (List.length_filter_le _ _) ?_
        rw [Array.length_toList]
        exact hz.1
      have hmem : ∀ c ∈ cs, c ∈ z.cps.toList := by
        intro c hc
        rw [← hcs] at hc
        exact (List.mem_filter.mp hc).1
      refine ⟨_, strs_map (fun c => (⟨#[c]⟩ : Str)) cs, ?_, ?_⟩
      · rw [List.map_map, List.length_map]
        have e1 : (cs.map (Str.length ∘ fun c => (⟨#[c]⟩ : Str))).sum = cs.length := by
          have : (Str.length ∘ fun c => (⟨#[c]⟩ : Str)) = fun _ : Nat => 1 := rfl
          rw [this]
          clear hlen hmem ef hcs
          induction cs with
          | nil => rfl
          | cons x r ih => rw [List.map_cons, List.sum_cons, ih, List.length_cons]; omega
        rw [e1]
        have e2 : (Str.ofString "").length = 0 := by decide
        rw [e2]
        omega
      · rw [join_signs]
        have hy : okL ⟨cs.toArray⟩ := by
          refine ok_sub hz ?_ ?_
          · show cs.toArray.size ≤ z.cps.size
            rw [List.size_toArray, ← hcs]
            refine Nat.le_trans (List.length_filter_le _ _) ?_
            rw [Array.length_toList]
            exact Nat.le_refl _
          · intro c hc
            exact hmem c (by simpa using hc)
        generalize (⟨cs.toArray⟩ : Str) = y at hy ⊢
        have ha : okL (Str.ofString "a") := ⟨by decide +kernel, by decide +kernel⟩
        have nine : 9 ≤ sizeLine := by rw [sizeLine_eq]; decide
        refine ⟨hy.line, hy.line, hy.line, app_line (ok_cut hy _ _) ha, hy.line, app_line (ok_cut hy _ _) hy, hz.line, nine, ?_⟩
        refine loop_inv (fun ρ m' => m' = m1.up p l1 ∧ ∃ o, ρ = [some (.scr ns), some (.int (0 + (i : Nat))), some (.box p), some (.str z), some (.str y), o, none]) _ _ _ ⟨rfl, o5, rfl⟩ ?_ ?_
        · rintro d hd ρ m' ⟨rfl, o, rfl⟩ E2 hrt2 hex2 hnx2 hct2
          have hd : okT d := by
            simp only [List.mem_cons, List.not_mem_nil, or_false] at hd
            rcases hd with rfl | rfl | rfl | rfl | rfl | rfl | rfl | rfl | rfl
            · exact hz.T
            · exact hy.T
            · exact (ok_cut hy _ _).T
            · exact (ok_cut hy _ _).T
            · exact okT_app (ok_cut hy _ _) ha
            · exact okT_app (ok_cut hy _ _) hy
            · exact (ok_cut hz _ _).T
            · exact ⟨by decide +kernel, by decide +kernel⟩
            · exact ⟨by decide +kernel, by decide +kernel⟩
          exact ⟨d, rfl, hd, hnx2 _ _ ⟨rfl, some d, rfl⟩⟩
        · rintro ρ m' ⟨rfl, o, rfl⟩
          refine ⟨p, 20, l1, rfl, Mem.up_same, hb1, by decide, ?_⟩
          intro l2
          exact hnx _ _ ⟨_, _, _, _, _, rfl⟩
  · rintro ρ m' ⟨o1, o2, o3, o4, o5, rfl⟩
    have one : 1 ≤ sizeLine := by rw [sizeLine_eq]; decide
    have eight : 8 ≤ sizeLine := by rw [sizeLine_eq]; decide
    refine ⟨Nat.zero_le _, one, one, eight, (by show 8 ≤ 1000000; decide), ?_⟩
    refine ⟨_, rfl, rfl, ?_⟩
    refine ⟨_, rfl, rfl, ?_⟩
    refine ⟨_, rfl, rfl, ?_⟩
    refine ⟨_, rfl, rfl, ?_⟩
    refine ⟨_, rfl, rfl, ?_⟩
    refine ⟨_, rfl, rfl, ?_⟩
    refine ⟨_, rfl, rfl, ?_⟩
    refine ⟨_, rfl, ⟨by decide +kernel, by decide +kernel⟩, ?_⟩
    refine ⟨one, ⟨by decide, by decide, by show 1 * 8 ≤ sizeLine; exact eight⟩, ?_⟩
    refine ⟨by decide +kernel, by decide +kernel, ?_⟩
    have e : (PyData.eqv (py (.lst [.bl true, .bl true, .bl true, .bl true, .bl true, .bl true, .bl true, .bl true])) (py (.lst (List.replicate (Int.toNat 8) [D.bl true]).flatten)) ^^ false) = true := by decide +kernel
    have q : Qd (.bl (PyData.eqv (py (.lst [.bl true, .bl true, .bl true, .bl true, .bl true, .bl true, .bl true, .bl true])) (py (.lst (List.replicate (Int.toNat 8) [D.bl true]).flatten)) ^^ false)) m' := by
      rw [e]
      exact h _
    exact q
/-! ### how many arguments -/
theorem l_is_whole : ∀ ds m Q Qx, F_is_whole ds m Q Qx → ds.length = (["value"] : List Str).length := l_fun1
theorem l_is_letter : ∀ ds m Q Qx, F_is_letter ds m Q Qx → ds.length = (["value"] : List Str).length := l_fun1
theorem l_is_lettered : ∀ ds m Q Qx, F_is_lettered ds m Q Qx → ds.length = (["value"] : List Str).length := l_fun1
theorem l_is_word : ∀ ds m Q Qx, F_is_word ds m Q Qx → ds.length = (["value"] : List Str).length := l_fun1
theorem l_is_name : ∀ ds m Q Qx, F_is_name ds m Q Qx → ds.length = (["value"] : List Str).length := l_fun1
theorem l_is_integer : ∀ ds m Q Qx, F_is_integer ds m Q Qx → ds.length = 3 := by rintro ds m Q Qx ⟨_, _, _, rfl, _⟩; rfl
theorem l__law_cell : ∀ ds m Q Qx, F_law_cell ds m Q Qx → ds.length = 2 := by rintro ds m Q Qx ⟨_, _, rfl, _⟩; rfl
theorem l__law_box : ∀ ds m Q Qx, F_law_box ds m Q Qx → ds.length = 1 := by rintro ds m Q Qx ⟨_, rfl, _⟩; rfl
theorem l__law_take : ∀ ds m Q Qx, F_law_take ds m Q Qx → ds.length = 2 := by rintro ds m Q Qx ⟨_, _, _, _, rfl, _⟩; rfl
theorem l__law_line : ∀ ds m Q Qx, F_law_line ds m Q Qx → ds.length = 1 := by rintro ds m Q Qx ⟨_, _, _, rfl, _⟩; rfl
theorem l__law_are_small : ∀ ds m Q Qx, F_law_are_small ds m Q Qx → ds.length = 1 := by rintro ds m Q Qx ⟨_, rfl, _⟩; rfl
theorem l__law_right : ∀ ds m Q Qx, F_law_right ds m Q Qx → ds.length = 1 := by rintro ds m Q Qx ⟨_, rfl, _⟩; rfl
theorem l__law_integers_right : ∀ ds m Q Qx, F_law_integers_right ds m Q Qx → ds.length = 1 := by rintro ds m Q Qx ⟨_, _, _, rfl, _⟩; rfl
theorem l_law : ∀ ds m Q Qx, F_law ds m Q Qx → ds.length = 1 := lawFn_len
end DL
namespace DL
open PySem L2
def top (i : Nat) : Stmt := PySem.Challenge.pw_seenchoices_k02_words_and_names.main.body.getD i (.Pass ⟨0, 0, 0, 0⟩)
theorem bt_all : bootBuiltins "all" = some (.builtin "all") := by decide +kernel
theorem bt_bool : bootBuiltins "bool" = some (.type "bool") := by decide +kernel
theorem bt_int : bootBuiltins "int" = some (.type "int") := by decide +kernel
theorem bt_isinstance : bootBuiltins "isinstance" = some (.builtin "isinstance") := by decide +kernel
theorem bt_len : bootBuiltins "len" = some (.builtin "len") := by decide +kernel
theorem bt_max : bootBuiltins "max" = some (.builtin "max") := by decide +kernel
theorem bt_min : bootBuiltins "min" = some (.builtin "min") := by decide +kernel
theorem bt_range : bootBuiltins "range" = some (.type "range") := by decide +kernel
theorem bt_repr : bootBuiltins "repr" = some (.builtin "repr") := by decide +kernel
theorem bt_str : bootBuiltins "str" = some (.type "str") := by decide +kernel
abbrev s_is_whole : Stmt := top 3
theorem sc_is_whole : FnScope ["value"] ["value"] (defScope s_is_whole) := ⟨rfl, rfl, rfl, by decide +kernel, rfl, by decide +kernel, by decide +kernel⟩
abbrev s_is_integer : Stmt := top 4
theorem sc_is_integer : FnScope ["value", "low", "high"] ["value", "low", "high"] (defScope s_is_integer) := ⟨rfl, rfl, rfl, by decide +kernel, rfl, by decide +kernel, by decide +kernel⟩
abbrev s_is_letter : Stmt := top 5
theorem sc_is_letter : FnScope ["value"] ["value"] (defScope s_is_letter) := ⟨rfl, rfl, rfl, by decide +kernel, rfl, by decide +kernel, by decide +kernel⟩
abbrev s_is_lettered : Stmt := top 6
theorem sc_is_lettered : FnScope ["value"] ["value"] (defScope s_is_lettered) := ⟨rfl, rfl, rfl, by decide +kernel, rfl, by decide +kernel, by decide +kernel⟩
abbrev s_is_word : Stmt := top 7
theorem sc_is_word : FnScope ["value"] ["value"] (defScope s_is_word) := ⟨rfl, rfl, rfl, by decide +kernel, rfl, by decide +kernel, by decide +kernel⟩
abbrev s_is_name : Stmt := top 8
theorem sc_is_name : FnScope ["value"] ["value"] (defScope s_is_name) := ⟨rfl, rfl, rfl, by decide +kernel, rfl, by decide +kernel, by decide +kernel⟩
abbrev s__law_cell : Stmt := top 10
theorem sc__law_cell : FnScope ["_law_script", "_law_k"] ["_law_script", "_law_k"] (defScope s__law_cell) := ⟨rfl, rfl, rfl, by decide +kernel, rfl, by decide +kernel, by decide +kernel⟩
abbrev s__law_box : Stmt := top 11
theorem sc__law_box : FnScope ["_law_cell_here"] ["_law_cell_here"] (defScope s__law_box) := ⟨rfl, rfl, rfl, by decide +kernel, rfl, by decide +kernel, by decide +kernel⟩
abbrev s__law_take : Stmt := top 12
theorem sc__law_take : FnScope ["_law_box_here", "_law_many", "_law_mixed", "_law_digit"] ["_law_box_here", "_law_many"] (defScope s__law_take) := ⟨rfl, rfl, rfl, by decide +kernel, rfl, by decide +kernel, by decide +kernel⟩
abbrev s__law_line : Stmt := top 13
theorem sc__law_line : FnScope ["_law_box_here", "_law_signs", "_law_k"] ["_law_box_here"] (defScope s__law_line) := ⟨rfl, rfl, rfl, by decide +kernel, rfl, by decide +kernel, by decide +kernel⟩
abbrev s__law_are_small : Stmt := top 14
theorem sc__law_are_small : FnScope ["_law_line_here", "_law_sign"] ["_law_line_here"] (defScope s__law_are_small) := ⟨rfl, rfl, rfl, by decide +kernel, rfl, by decide +kernel, by decide +kernel⟩
abbrev s__law_right : Stmt := top 15
theorem sc__law_right : FnScope ["_law_thing", "_law_small", "_law_many", "_law_due"] ["_law_thing"] (defScope s__law_right) := ⟨rfl, rfl, rfl, by decide +kernel, rfl, by decide +kernel, by decide +kernel⟩
abbrev s__law_integers_right : Stmt := top 16
theorem sc__law_integers_right : FnScope ["_law_box_here", "_law_low", "_law_high", "_law_number", "_law_thing"] ["_law_box_here"] (defScope s__law_integers_right) := ⟨rfl, rfl, rfl, by decide +kernel, rfl, by decide +kernel, by decide +kernel⟩
abbrev s_law : Stmt := top 17
theorem sc_law : FnScope ["_law_script", "_law_k", "_law_box_here", "_law_line_here", "_law_small", "_law_thing", "_law_sign"] ["_law_script"] (defScope s_law) := ⟨rfl, rfl, rfl, by decide +kernel, rfl, by decide +kernel, by decide +kernel⟩
structure Txt (mg : Str → Option Value) : Prop where
  z_all : mg "all" = none
  z_bool : mg "bool" = none
  z_int : mg "int" = none
  z_isinstance : mg "isinstance" = none
  z_len : mg "len" = none
  z_max : mg "max" = none
  z_min : mg "min" = none
  z_range : mg "range" = none
  z_repr : mg "repr" = none
  z_str : mg "str" = none
  c_LONGEST_NAME : ∃ t, mg "LONGEST_NAME" = some (.int 8 t)
  c_LONGEST_WORD : ∃ t, mg "LONGEST_WORD" = some (.int 6 t)
section
variable {P : Program} {w : World} {K : Fg} {mg : Str → Option Value} {base : Heap}
theorem ok_is_whole (T : Txt mg) (FA : FunAt K mg "is_whole" "is_whole" s_is_whole ["value"]) : Has P w K mg base 1 "is_whole" ["value"] F_is_whole :=
  has_of (W := fun _ _ _ _ => False) FA sc_is_whole l_is_whole (wb := w_is_whole) (fun f cdv A oe s H E hX => (pb_one (ps_ret (pd_and (pd_bi (b_isi hX.K) hX.mg T.z_isinstance bt_isinstance (pa_cons (pd_var 0 hX.hN) (pa_cons (pd_ty hX.mg T.z_int bt_int) pa_nil))) (pd_one (pd_not (pd_bi (b_isi hX.K) hX.mg T.z_isinstance bt_isinstance (pa_cons (pd_var 0 hX.hN) (pa_cons (pd_ty hX.mg T.z_bool bt_bool) pa_nil))))))))) r_is_whole
theorem ok_is_integer (T : Txt mg) (FA : FunAt K mg "is_integer" "is_integer" s_is_integer ["value", "low", "high"]) (h_is_whole : Has P w K mg base 1 "is_whole" ["value"] F_is_whole) : Has P w K mg base 2 "is_integer" ["value", "low", "high"] F_is_integer :=
  has_of (W := fun _ _ _ _ => False) FA sc_is_integer l_is_integer (wb := w_is_integer) (fun f cdv A oe s H E hX => (pb_one (ps_ret (pd_and (pd_own_call hX h_is_whole (pa_cons (pd_var 0 hX.hN) pa_nil)) (pd_one (pd_chain (c_le) (c_le) (pd_var 1 hX.hN) (pd_var 0 hX.hN) (pd_var 2 hX.hN))))))) r_is_integer
theorem ok_is_letter (T : Txt mg) (FA : FunAt K mg "is_letter" "is_letter" s_is_letter ["value"]) : Has P w K mg base 1 "is_letter" ["value"] F_is_letter :=
  has_of (W := fun _ _ _ _ => False) FA sc_is_letter l_is_letter (wb := w_is_letter) (fun f cdv A oe s H E hX => (pb_one (ps_ret (pd_and (pd_bi (b_isi hX.K) hX.mg T.z_isinstance bt_isinstance (pa_cons (pd_var 0 hX.hN) (pa_cons (pd_ty hX.mg T.z_str bt_str) pa_nil))) (pd_and (pd_cmp (c_eq hX.toFam) (pd_bi (b_len hX.K) hX.mg T.z_len bt_len (pa_cons (pd_var 0 hX.hN) pa_nil)) pd_int) (pd_one (pd_chain (c_le) (c_le) pd_str (pd_var 0 hX.hN) pd_str))))))) r_is_letter
theorem ok_is_lettered (T : Txt mg) (FA : FunAt K mg "is_lettered" "is_lettered" s_is_lettered ["value"]) (h_is_letter : Has P w K mg base 1 "is_letter" ["value"] F_is_letter) : Has P w K mg base 2 "is_lettered" ["value"] F_is_lettered :=
  has_of (W := fun _ _ _ _ => False) FA sc_is_lettered l_is_lettered (wb := w_is_lettered) (fun f cdv A oe s H E hX => (pb_cons (ps_if (pt_not (pt_val (pd_bi (b_isi hX.K) hX.mg T.z_isinstance bt_isinstance (pa_cons (pd_var 0 hX.hN) (pa_cons (pd_ty hX.mg T.z_str bt_str) pa_nil))))) (pb_one (ps_ret pd_bl)) pb_nil) (pb_one (ps_ret (pd_or (pd_cmp (c_eq hX.toFam) (pd_var 0 hX.hN) pd_str) (pd_one (pd_and (pd_m0 m_isascii PySem.F.slot_str_isascii PySem.F.type_str_isascii (pd_var 0 hX.hN)) (pd_and (pd_m0 m_isalpha PySem.F.slot_str_isalpha PySem.F.type_str_isalpha (pd_var 0 hX.hN)) (pd_one (pd_m0 m_islower PySem.F.slot_str_islower PySem.F.type_str_islower (pd_var 0 hX.hN))))))))))) r_is_lettered
theorem ok_is_word (T : Txt mg) (FA : FunAt K mg "is_word" "is_word" s_is_word ["value"]) (h_is_lettered : Has P w K mg base 2 "is_lettered" ["value"] F_is_lettered) : Has P w K mg base 3 "is_word" ["value"] F_is_word :=
  has_of (W := fun _ _ _ _ => False) FA sc_is_word l_is_word (wb := w_is_word) (fun f cdv A oe s H E hX => (pb_one (ps_ret (pd_and (pd_own_call hX h_is_lettered (pa_cons (pd_var 0 hX.hN) pa_nil)) (pd_one (pd_cmp (c_le) (pd_bi (b_len hX.K) hX.mg T.z_len bt_len (pa_cons (pd_var 0 hX.hN) pa_nil)) (pd_globI hX.mg T.c_LONGEST_WORD))))))) r_is_word
theorem ok_is_name (T : Txt mg) (FA : FunAt K mg "is_name" "is_name" s_is_name ["value"]) (h_is_lettered : Has P w K mg base 2 "is_lettered" ["value"] F_is_lettered) : Has P w K mg base 3 "is_name" ["value"] F_is_name :=
  has_of (W := fun _ _ _ _ => False) FA sc_is_name l_is_name (wb := w_is_name) (fun f cdv A oe s H E hX => (pb_one (ps_ret (pd_and (pd_own_call hX h_is_lettered (pa_cons (pd_var 0 hX.hN) pa_nil)) (pd_one (pd_chain (c_le) (c_le) pd_int (pd_bi (b_len hX.K) hX.mg T.z_len bt_len (pa_cons (pd_var 0 hX.hN) pa_nil)) (pd_globI hX.mg T.c_LONGEST_NAME))))))) r_is_name
theorem ok__law_cell (T : Txt mg) (FA : FunAt K mg "_law_cell" "_law_cell" s__law_cell ["_law_script", "_law_k"]) : Has P w K mg base 1 "_law_cell" ["_law_script", "_law_k"] F_law_cell :=
  has_of (W := fun _ _ _ _ => False) FA sc__law_cell l__law_cell (wb := w__law_cell) (fun f cdv A oe s H E hX => (pb_cons (ps_if (pt_cmp (c_lt) (pd_var 1 hX.hN) (pd_bi (b_len hX.K) hX.mg T.z_len bt_len (pa_cons (pd_var 0 hX.hN) pa_nil))) (pb_one (ps_ret (pd_ix hX.K (pd_var 0 hX.hN) (pd_var 1 hX.hN)))) pb_nil) (pb_one (ps_ret (pd_add hX.K (pd_mul pd_int (pd_var 1 hX.hN)) pd_int))))) r__law_cell
theorem ok__law_box (T : Txt mg) (FA : FunAt K mg "_law_box" "_law_box" s__law_box ["_law_cell_here"]) : Has P w K mg base 1 "_law_box" ["_law_cell_here"] F_law_box :=
  has_of (W := fun _ _ _ _ => False) FA sc__law_box l__law_box (wb := w__law_box) (fun f cdv A oe s H E hX => (pb_one (ps_ret (pd_own (pa_cons (pd_bi (b_max hX.calm) hX.mg T.z_max bt_max (pa_cons pd_int (pa_cons (pd_sub (pd_var 0 hX.hN) (pd_pow pd_int pd_int)) pa_nil))) (pa_cons (pd_mod (pd_var 0 hX.hN) pd_int) (pa_cons pd_int pa_nil))))))) r__law_box
theorem ok__law_take (T : Txt mg) (FA : FunAt K mg "_law_take" "_law_take" s__law_take ["_law_box_here", "_law_many"]) : Has P w K mg base 1 "_law_take" ["_law_box_here", "_law_many"] F_law_take :=
  has_of (W := fun _ _ _ _ => False) FA sc__law_take l__law_take (wb := w__law_take) (fun f cdv A oe s H E hX => (pb_cons (ps_if (pt_cmp (c_gt) (pd_ix hX.K (pd_var 0 hX.hN) pd_int) pd_int) (pb_cons (ps_set 3 hX.hN hX.nd (pd_mod (pd_ix hX.K (pd_var 0 hX.hN) pd_int) (pd_var 1 hX.hN))) (pb_cons (ps_put (pd_div (pd_ix hX.K (pd_var 0 hX.hN) pd_int) (pd_var 1 hX.hN)) (pd_var 0 hX.hN) pd_int) (pb_one (ps_ret (pd_var 3 hX.hN))))) pb_nil) (pb_cons (ps_put (pd_add hX.K (pd_ix hX.K (pd_var 0 hX.hN) pd_int) pd_int) (pd_var 0 hX.hN) pd_int) (pb_cons (ps_set 2 hX.hN hX.nd (pd_mod (pd_pow (pd_add hX.K (pd_add hX.K (pd_ix hX.K (pd_var 0 hX.hN) pd_int) (pd_mul pd_int (pd_ix hX.K (pd_var 0 hX.hN) pd_int))) pd_int) pd_int) pd_int)) (pb_cons (ps_set 2 hX.hN hX.nd (pd_mod (pd_pow (pd_add hX.K (pd_var 2 hX.hN) (pd_mul pd_int (pd_ix hX.K (pd_var 0 hX.hN) pd_int))) pd_int) pd_int)) (pb_one (ps_ret (pd_mod (pd_div (pd_var 2 hX.hN) pd_int) (pd_var 1 hX.hN))))))))) r__law_take
theorem ok__law_line (T : Txt mg) (FA : FunAt K mg "_law_line" "_law_line" s__law_line ["_law_box_here"]) (h__law_take : Has P w K mg base 1 "_law_take" ["_law_box_here", "_law_many"] F_law_take) : Has P w K mg base 2 "_law_line" ["_law_box_here"] F_law_line :=
  has_of (W := fun _ _ _ _ => False) FA sc__law_line l__law_line (wb := w__law_line) (fun f cdv A oe s H E hX => (pb_cons (ps_set 1 hX.hN hX.nd (pd_add hX.K pd_str pd_str)) (pb_one (ps_ret (pd_join hX.K pd_str (pd_lc (own := [(("_law_k" : Str), 2)]) hX.hN hX.calm hX.nd (pi_rg1 hX.mg T.z_range (pa_cons (pd_own_call hX h__law_take (pa_cons (pd_var 0 hX.hN) (pa_cons pd_int pa_nil))) pa_nil)) (fun _ => blkOk_by (sc := defScope s__law_line) (by decide +kernel)) (pg_name 2 (hX.blk _).hN hX.nd) pts_nil (pd_ix (hX.blk _).K (pd_var 1 (hX.blk _).hN) (pd_own_call (hX.blk _) h__law_take (pa_cons (pd_var 0 (hX.blk _).hN) (pa_cons pd_int pa_nil)))))))))) r__law_line
theorem ok__law_are_small (T : Txt mg) (FA : FunAt K mg "_law_are_small" "_law_are_small" s__law_are_small ["_law_line_here"]) : Has P w K mg base 1 "_law_are_small" ["_law_line_here"] F_law_are_small :=
  has_of (W := fun _ _ _ _ => False) FA sc__law_are_small l__law_are_small (wb := w__law_are_small) (fun f cdv A oe s H E hX => (pb_one (ps_ret (pd_cmp (c_eq hX.toFam) (pd_lc (own := [(("_law_sign" : Str), 1)]) hX.hN hX.calm hX.nd (pi_sg (pd_var 0 hX.hN)) (fun _ => blkOk_by (sc := defScope s__law_are_small) (by decide +kernel)) (pg_name 1 (hX.blk _).hN hX.nd) (pts_one (pt_cmp (c_notIn (hX.blk _).K) (pd_var 1 (hX.blk _).hN) pd_str)) (pd_var 1 (hX.blk _).hN)) (pd_lst pa_nil))))) r__law_are_small
theorem ok__law_right (T : Txt mg) (FA : FunAt K mg "_law_right" "_law_right" s__law_right ["_law_thing"]) (h__law_are_small : Has P w K mg base 1 "_law_are_small" ["_law_line_here"] F_law_are_small) (h_is_letter : Has P w K mg base 1 "is_letter" ["value"] F_is_letter) (h_is_name : Has P w K mg base 3 "is_name" ["value"] F_is_name) (h_is_word : Has P w K mg base 3 "is_word" ["value"] F_is_word) : Has P w K mg base 4 "_law_right" ["_law_thing"] F_law_right :=
  has_of (W := fun _ _ _ _ => False) FA sc__law_right l__law_right (wb := w__law_right) (fun f cdv A oe s H E hX => (pb_cons (ps_set 1 hX.hN hX.nd (pd_and (pd_bi (b_isi hX.K) hX.mg T.z_isinstance bt_isinstance (pa_cons (pd_var 0 hX.hN) (pa_cons (pd_ty hX.mg T.z_str bt_str) pa_nil))) (pd_one (pd_own_call hX h__law_are_small (pa_cons (pd_var 0 hX.hN) pa_nil))))) (pb_cons (ps_set 2 hX.hN hX.nd (pd_if (pt_val (pd_bi (b_isi hX.K) hX.mg T.z_isinstance bt_isinstance (pa_cons (pd_var 0 hX.hN) (pa_cons (pd_ty hX.mg T.z_str bt_str) pa_nil)))) (pd_bi (b_len hX.K) hX.mg T.z_len bt_len (pa_cons (pd_var 0 hX.hN) pa_nil)) pd_int)) (pb_cons (ps_set 3 hX.hN hX.nd (pd_lst (pa_cons (pd_and (pd_var 1 hX.hN) (pd_one (pd_cmp (c_le) (pd_var 2 hX.hN) pd_int))) (pa_cons (pd_and (pd_var 1 hX.hN) (pd_one (pd_chain (c_le) (c_le) pd_int (pd_var 2 hX.hN) pd_int))) (pa_cons (pd_and (pd_var 1 hX.hN) (pd_one (pd_cmp (c_eq hX.toFam) (pd_var 2 hX.hN) pd_int))) pa_nil))))) (pb_one (ps_ret (pd_cmp (c_eq hX.toFam) (pd_bi (b_repr hX) hX.mg T.z_repr bt_repr (pa_cons (pd_lst (pa_cons (pd_own_call hX h_is_word (pa_cons (pd_var 0 hX.hN) pa_nil)) (pa_cons (pd_own_call hX h_is_name (pa_cons (pd_var 0 hX.hN) pa_nil)) (pa_cons (pd_own_call hX h_is_letter (pa_cons (pd_var 0 hX.hN) pa_nil)) pa_nil)))) pa_nil)) (pd_bi (b_repr hX) hX.mg T.z_repr bt_repr (pa_cons (pd_var 3 hX.hN) pa_nil))))))))) r__law_right
theorem ok__law_integers_right (T : Txt mg) (FA : FunAt K mg "_law_integers_right" "_law_integers_right" s__law_integers_right ["_law_box_here"]) (h__law_take : Has P w K mg base 1 "_law_take" ["_law_box_here", "_law_many"] F_law_take) (h_is_integer : Has P w K mg base 2 "is_integer" ["value", "low", "high"] F_is_integer) : Has P w K mg base 3 "_law_integers_right" ["_law_box_here"] F_law_integers_right :=
  has_of (W := fun _ _ _ _ => False) FA sc__law_integers_right l__law_integers_right (wb := w__law_integers_right) (fun f cdv A oe s H E hX => (pb_cons (ps_set 1 hX.hN hX.nd (pd_sub (pd_own_call hX h__law_take (pa_cons (pd_var 0 hX.hN) (pa_cons (pd_ix hX.K (pd_lst (pa_cons pd_int (pa_cons pd_int (pa_cons (pd_pow pd_int pd_int) pa_nil)))) (pd_own_call hX h__law_take (pa_cons (pd_var 0 hX.hN) (pa_cons pd_int pa_nil)))) pa_nil))) pd_int)) (pb_cons (ps_set 2 hX.hN hX.nd (pd_sub (pd_add hX.K (pd_var 1 hX.hN) (pd_own_call hX h__law_take (pa_cons (pd_var 0 hX.hN) (pa_cons pd_int pa_nil)))) pd_int)) (pb_cons (ps_for (fun _ => PassesOwn.never) hX.calm (pi_lst hX.K (pd_lst (pa_cons (pd_sub (pd_var 1 hX.hN) pd_int) (pa_cons (pd_var 1 hX.hN) (pa_cons (pd_add hX.K (pd_var 1 hX.hN) pd_int) (pa_cons (pd_var 2 hX.hN) (pa_cons (pd_add hX.K (pd_var 2 hX.hN) pd_int) pa_nil))))))) (pg_name 3 hX.hN hX.nd) (pb_one (ps_if (pt_cmp (c_ne hX.toFam) (pd_bi (b_repr hX) hX.mg T.z_repr bt_repr (pa_cons (pd_own_call hX h_is_integer (pa_cons (pd_var 3 hX.hN) (pa_cons (pd_var 1 hX.hN) (pa_cons (pd_var 2 hX.hN) pa_nil)))) pa_nil)) (pd_bi (b_repr hX) hX.mg T.z_repr bt_repr (pa_cons (pd_and (pd_cmp (c_le) (pd_var 1 hX.hN) (pd_var 3 hX.hN)) (pd_one (pd_cmp (c_le) (pd_var 3 hX.hN) (pd_var 2 hX.hN)))) pa_nil))) (pb_one (ps_ret pd_bl)) pb_nil))) (pb_one (ps_ret (pd_cmp (c_eq hX.toFam) (pd_lc (own := [(("_law_thing" : Str), 4)]) hX.hN hX.calm hX.nd (pi_lst hX.K (pd_lst (pa_cons pd_bl (pa_cons pd_bl (pa_cons pd_non (pa_cons pd_str (pa_cons (pd_lst (pa_cons pd_int pa_nil)) (pa_cons (pd_tup (pa_cons pd_int pa_nil)) (pa_cons pd_dct0 pa_nil))))))))) (fun _ => blkOk_by (sc := defScope s__law_integers_right) (by decide +kernel)) (pg_name 4 (hX.blk _).hN hX.nd) pts_nil (pd_own_call (hX.blk _) h_is_integer (pa_cons (pd_var 4 (hX.blk _).hN) (pa_cons pd_int (pa_cons pd_int pa_nil))))) (pd_mul (pd_lst (pa_cons pd_bl pa_nil)) pd_int)))))))) r__law_integers_right
theorem law_fn {fa : Addr} {fd : FuncData} (T : Txt mg) (FA : Fun K "law" "law" s_law fa fd) (h__law_cell : Has P w K mg base 1 "_law_cell" ["_law_script", "_law_k"] F_law_cell) (h__law_box : Has P w K mg base 1 "_law_box" ["_law_cell_here"] F_law_box) (h__law_line : Has P w K mg base 2 "_law_line" ["_law_box_here"] F_law_line) (h__law_are_small : Has P w K mg base 1 "_law_are_small" ["_law_line_here"] F_law_are_small) (h__law_right : Has P w K mg base 4 "_law_right" ["_law_thing"] F_law_right) (h__law_integers_right : Has P w K mg base 3 "_law_integers_right" ["_law_box_here"] F_law_integers_right) : FnG P w K mg base CX0 5 fa fd ["_law_script"] (spD K mg (lawFn 63)) :=
  fn_ok (W := fun _ _ _ _ => False) FA sc_law l_law (wb := w_law) (fun cdv A oe s H E hX => (pb_cons (ps_for (fun _ => PassesOwn.never) hX.calm (pi_rg1 hX.mg T.z_range (pa_cons (pd_bi (b_max hX.calm) hX.mg T.z_max bt_max (pa_cons pd_int (pa_cons (pd_bi (b_min hX.calm) hX.mg T.z_min bt_min (pa_cons pd_int (pa_cons (pd_bi (b_len hX.K) hX.mg T.z_len bt_len (pa_cons (pd_var 0 hX.hN) pa_nil)) pa_nil))) pa_nil))) pa_nil)) (pg_name 1 hX.hN hX.nd) (pb_cons (ps_set 2 hX.hN hX.nd (pd_own_call hX h__law_box (pa_cons (pd_own_call hX h__law_cell (pa_cons (pd_var 0 hX.hN) (pa_cons (pd_var 1 hX.hN) pa_nil))) pa_nil))) (pb_cons (ps_set 3 hX.hN hX.nd (pd_own_call hX h__law_line (pa_cons (pd_var 2 hX.hN) pa_nil))) (pb_cons (ps_set 4 hX.hN hX.nd (pd_join hX.K pd_str (pd_lc (own := [(("_law_sign" : Str), 6)]) hX.hN hX.calm hX.nd (pi_sg (pd_var 3 hX.hN)) (fun _ => blkOk_by (sc := defScope s_law) (by decide +kernel)) (pg_name 6 (hX.blk _).hN hX.nd) (pts_one (pt_val (pd_own_call (hX.blk _) h__law_are_small (pa_cons (pd_var 6 (hX.blk _).hN) pa_nil)))) (pd_var 6 (hX.blk _).hN)))) (pb_cons (ps_for (fun _ => PassesOwn.never) hX.calm (pi_lst hX.K (pd_lst (pa_cons (pd_var 3 hX.hN) (pa_cons (pd_var 4 hX.hN) (pa_cons (pd_sl hX.K (pd_var 4 hX.hN) po_none (po_some pd_int)) (pa_cons (pd_sl hX.K (pd_var 4 hX.hN) po_none (po_some pd_int)) (pa_cons (pd_add hX.K (pd_sl hX.K (pd_var 4 hX.hN) po_none (po_some pd_int)) pd_str) (pa_cons (pd_add hX.K (pd_sl hX.K (pd_var 4 hX.hN) po_none (po_some pd_int)) (pd_var 4 hX.hN)) (pa_cons (pd_sl hX.K (pd_var 3 hX.hN) po_none (po_some pd_int)) (pa_cons pd_str (pa_cons pd_str pa_nil))))))))))) (pg_name 5 hX.hN hX.nd) (pb_one (ps_if (pt_not (pt_val (pd_own_call hX h__law_right (pa_cons (pd_var 5 hX.hN) pa_nil)))) (pb_one (ps_ret pd_bl)) pb_nil))) (pb_one (ps_if (pt_not (pt_val (pd_own_call hX h__law_integers_right (pa_cons (pd_var 2 hX.hN) pa_nil)))) (pb_one (ps_ret pd_bl)) pb_nil))))))) (pb_one (ps_ret (pd_cmp (c_eq hX.toFam) (pd_lc (own := [(("_law_thing" : Str), 5)]) hX.hN hX.calm hX.nd (pi_lst hX.K (pd_lst (pa_cons pd_non (pa_cons pd_int (pa_cons pd_bl (pa_cons (pd_lst pa_nil) (pa_cons (pd_lst (pa_cons pd_str pa_nil)) (pa_cons (pd_tup (pa_cons pd_str pa_nil)) (pa_cons (pd_dct1 pd_int) (pa_cons pd_str pa_nil)))))))))) (fun _ => blkOk_by (sc := defScope s_law) (by decide +kernel)) (pg_name 5 (hX.blk _).hN hX.nd) pts_nil (pd_own_call (hX.blk _) h__law_right (pa_cons (pd_var 5 (hX.blk _).hN) pa_nil))) (pd_mul (pd_lst (pa_cons pd_bl pa_nil)) pd_int)))))) r_law
end
theorem all_mk {P : Program} {w : World} {K : Fg} {mg : Str → Option Value} {h : Heap} {fa : Addr} (X : K.In h) (G : h.Ns mainGlobals mg) (hfa : mg "law" = some (.ref fa))
    {a_is_whole : Addr} {oc_is_whole kV_is_whole dc_is_whole pm_is_whole cd_is_whole ct_is_whole : Value} {od_is_whole an_is_whole : Option Addr} {sl_is_whole : Array (Option Value)}
    {a_is_integer : Addr} {oc_is_integer kV_is_integer dc_is_integer pm_is_integer cd_is_integer ct_is_integer : Value} {od_is_integer an_is_integer : Option Addr} {sl_is_integer : Array (Option Value)}
    {a_is_letter : Addr} {oc_is_letter kV_is_letter dc_is_letter pm_is_letter cd_is_letter ct_is_letter : Value} {od_is_letter an_is_letter : Option Addr} {sl_is_letter : Array (Option Value)}
    {a_is_lettered : Addr} {oc_is_lettered kV_is_lettered dc_is_lettered pm_is_lettered cd_is_lettered ct_is_lettered : Value} {od_is_lettered an_is_lettered : Option Addr} {sl_is_lettered : Array (Option Value)}
    {a_is_word : Addr} {oc_is_word kV_is_word dc_is_word pm_is_word cd_is_word ct_is_word : Value} {od_is_word an_is_word : Option Addr} {sl_is_word : Array (Option Value)}
    {a_is_name : Addr} {oc_is_name kV_is_name dc_is_name pm_is_name cd_is_name ct_is_name : Value} {od_is_name an_is_name : Option Addr} {sl_is_name : Array (Option Value)}
    {a__law_cell : Addr} {oc__law_cell kV__law_cell dc__law_cell pm__law_cell cd__law_cell ct__law_cell : Value} {od__law_cell an__law_cell : Option Addr} {sl__law_cell : Array (Option Value)}
    {a__law_box : Addr} {oc__law_box kV__law_box dc__law_box pm__law_box cd__law_box ct__law_box : Value} {od__law_box an__law_box : Option Addr} {sl__law_box : Array (Option Value)}
    {a__law_take : Addr} {oc__law_take kV__law_take dc__law_take pm__law_take cd__law_take ct__law_take : Value} {od__law_take an__law_take : Option Addr} {sl__law_take : Array (Option Value)}
    {a__law_line : Addr} {oc__law_line kV__law_line dc__law_line pm__law_line cd__law_line ct__law_line : Value} {od__law_line an__law_line : Option Addr} {sl__law_line : Array (Option Value)}
    {a__law_are_small : Addr} {oc__law_are_small kV__law_are_small dc__law_are_small pm__law_are_small cd__law_are_small ct__law_are_small : Value} {od__law_are_small an__law_are_small : Option Addr} {sl__law_are_small : Array (Option Value)}
    {a__law_right : Addr} {oc__law_right kV__law_right dc__law_right pm__law_right cd__law_right ct__law_right : Value} {od__law_right an__law_right : Option Addr} {sl__law_right : Array (Option Value)}
    {a__law_integers_right : Addr} {oc__law_integers_right kV__law_integers_right dc__law_integers_right pm__law_integers_right cd__law_integers_right ct__law_integers_right : Value} {od__law_integers_right an__law_integers_right : Option Addr} {sl__law_integers_right : Array (Option Value)}
    {a_law : Addr} {oc_law kV_law dc_law pm_law cd_law ct_law : Value} {od_law an_law : Option Addr} {sl_law : Array (Option Value)}
    (x_is_whole : PySem.W.nsIn K mainGlobals "is_whole" = some (some (.ref a_is_whole))) (l_is_whole : K.lookup a_is_whole = some ⟨oc_is_whole, od_is_whole, .func (PySem.W.fnOf "is_whole" "is_whole" (defArgs s_is_whole) (defBody s_is_whole) (defScope s_is_whole) .none kV_is_whole dc_is_whole pm_is_whole an_is_whole cd_is_whole ct_is_whole), sl_is_whole⟩) (c_is_whole : PySem.W.codeIn K cd_is_whole "is_whole" = true) (k_is_whole : PySem.W.keepIn K (.ref a_is_whole) = true)
    (x_is_integer : PySem.W.nsIn K mainGlobals "is_integer" = some (some (.ref a_is_integer))) (l_is_integer : K.lookup a_is_integer = some ⟨oc_is_integer, od_is_integer, .func (PySem.W.fnOf "is_integer" "is_integer" (defArgs s_is_integer) (defBody s_is_integer) (defScope s_is_integer) .none kV_is_integer dc_is_integer pm_is_integer an_is_integer cd_is_integer ct_is_integer), sl_is_integer⟩) (c_is_integer : PySem.W.codeIn K cd_is_integer "is_integer" = true) (k_is_integer : PySem.W.keepIn K (.ref a_is_integer) = true)
    (x_is_letter : PySem.W.nsIn K mainGlobals "is_letter" = some (some (.ref a_is_letter))) (l_is_letter : K.lookup a_is_letter = some ⟨oc_is_letter, od_is_letter, .func (PySem.W.fnOf "is_letter" "is_letter" (defArgs s_is_letter) (defBody s_is_letter) (defScope s_is_letter) .none kV_is_letter dc_is_letter pm_is_letter an_is_letter cd_is_letter ct_is_letter), sl_is_letter⟩) (c_is_letter : PySem.W.codeIn K cd_is_letter "is_letter" = true) (k_is_letter : PySem.W.keepIn K (.ref a_is_letter) = true)
    (x_is_lettered : PySem.W.nsIn K mainGlobals "is_lettered" = some (some (.ref a_is_lettered))) (l_is_lettered : K.lookup a_is_lettered = some ⟨oc_is_lettered, od_is_lettered, .func (PySem.W.fnOf "is_lettered" "is_lettered" (defArgs s_is_lettered) (defBody s_is_lettered) (defScope s_is_lettered) .none kV_is_lettered dc_is_lettered pm_is_lettered an_is_lettered cd_is_lettered ct_is_lettered), sl_is_lettered⟩) (c_is_lettered : PySem.W.codeIn K cd_is_lettered "is_lettered" = true) (k_is_lettered : PySem.W.keepIn K (.ref a_is_lettered) = true)
    (x_is_word : PySem.W.nsIn K mainGlobals "is_word" = some (some (.ref a_is_word))) (l_is_word : K.lookup a_is_word = some ⟨oc_is_word, od_is_word, .func (PySem.W.fnOf "is_word" "is_word" (defArgs s_is_word) (defBody s_is_word) (defScope s_is_word) .none kV_is_word dc_is_word pm_is_word an_is_word cd_is_word ct_is_word), sl_is_word⟩) (c_is_word : PySem.W.codeIn K cd_is_word "is_word" = true) (k_is_word : PySem.W.keepIn K (.ref a_is_word) = true)
    (x_is_name : PySem.W.nsIn K mainGlobals "is_name" = some (some (.ref a_is_name))) (l_is_name : K.lookup a_is_name = some ⟨oc_is_name, od_is_name, .func (PySem.W.fnOf "is_name" "is_name" (defArgs s_is_name) (defBody s_is_name) (defScope s_is_name) .none kV_is_name dc_is_name pm_is_name an_is_name cd_is_name ct_is_name), sl_is_name⟩) (c_is_name : PySem.W.codeIn K cd_is_name "is_name" = true) (k_is_name : PySem.W.keepIn K (.ref a_is_name) = true)
    (x__law_cell : PySem.W.nsIn K mainGlobals "_law_cell" = some (some (.ref a__law_cell))) (l__law_cell : K.lookup a__law_cell = some ⟨oc__law_cell, od__law_cell, .func (PySem.W.fnOf "_law_cell" "_law_cell" (defArgs s__law_cell) (defBody s__law_cell) (defScope s__law_cell) .none kV__law_cell dc__law_cell pm__law_cell an__law_cell cd__law_cell ct__law_cell), sl__law_cell⟩) (c__law_cell : PySem.W.codeIn K cd__law_cell "_law_cell" = true) (k__law_cell : PySem.W.keepIn K (.ref a__law_cell) = true)
    (x__law_box : PySem.W.nsIn K mainGlobals "_law_box" = some (some (.ref a__law_box))) (l__law_box : K.lookup a__law_box = some ⟨oc__law_box, od__law_box, .func (PySem.W.fnOf "_law_box" "_law_box" (defArgs s__law_box) (defBody s__law_box) (defScope s__law_box) .none kV__law_box dc__law_box pm__law_box an__law_box cd__law_box ct__law_box), sl__law_box⟩) (c__law_box : PySem.W.codeIn K cd__law_box "_law_box" = true) (k__law_box : PySem.W.keepIn K (.ref a__law_box) = true)
    (x__law_take : PySem.W.nsIn K mainGlobals "_law_take" = some (some (.ref a__law_take))) (l__law_take : K.lookup a__law_take = some ⟨oc__law_take, od__law_take, .func (PySem.W.fnOf "_law_take" "_law_take" (defArgs s__law_take) (defBody s__law_take) (defScope s__law_take) .none kV__law_take dc__law_take pm__law_take an__law_take cd__law_take ct__law_take), sl__law_take⟩) (c__law_take : PySem.W.codeIn K cd__law_take "_law_take" = true) (k__law_take : PySem.W.keepIn K (.ref a__law_take) = true)
    (x__law_line : PySem.W.nsIn K mainGlobals "_law_line" = some (some (.ref a__law_line))) (l__law_line : K.lookup a__law_line = some ⟨oc__law_line, od__law_line, .func (PySem.W.fnOf "_law_line" "_law_line" (defArgs s__law_line) (defBody s__law_line) (defScope s__law_line) .none kV__law_line dc__law_line pm__law_line an__law_line cd__law_line ct__law_line), sl__law_line⟩) (c__law_line : PySem.W.codeIn K cd__law_line "_law_line" = true) (k__law_line : PySem.W.keepIn K (.ref a__law_line) = true)
    (x__law_are_small : PySem.W.nsIn K mainGlobals "_law_are_small" = some (some (.ref a__law_are_small))) (l__law_are_small : K.lookup a__law_are_small = some ⟨oc__law_are_small, od__law_are_small, .func (PySem.W.fnOf "_law_are_small" "_law_are_small" (defArgs s__law_are_small) (defBody s__law_are_small) (defScope s__law_are_small) .none kV__law_are_small dc__law_are_small pm__law_are_small an__law_are_small cd__law_are_small ct__law_are_small), sl__law_are_small⟩) (c__law_are_small : PySem.W.codeIn K cd__law_are_small "_law_are_small" = true) (k__law_are_small : PySem.W.keepIn K (.ref a__law_are_small) = true)
    (x__law_right : PySem.W.nsIn K mainGlobals "_law_right" = some (some (.ref a__law_right))) (l__law_right : K.lookup a__law_right = some ⟨oc__law_right, od__law_right, .func (PySem.W.fnOf "_law_right" "_law_right" (defArgs s__law_right) (defBody s__law_right) (defScope s__law_right) .none kV__law_right dc__law_right pm__law_right an__law_right cd__law_right ct__law_right), sl__law_right⟩) (c__law_right : PySem.W.codeIn K cd__law_right "_law_right" = true) (k__law_right : PySem.W.keepIn K (.ref a__law_right) = true)
    (x__law_integers_right : PySem.W.nsIn K mainGlobals "_law_integers_right" = some (some (.ref a__law_integers_right))) (l__law_integers_right : K.lookup a__law_integers_right = some ⟨oc__law_integers_right, od__law_integers_right, .func (PySem.W.fnOf "_law_integers_right" "_law_integers_right" (defArgs s__law_integers_right) (defBody s__law_integers_right) (defScope s__law_integers_right) .none kV__law_integers_right dc__law_integers_right pm__law_integers_right an__law_integers_right cd__law_integers_right ct__law_integers_right), sl__law_integers_right⟩) (c__law_integers_right : PySem.W.codeIn K cd__law_integers_right "_law_integers_right" = true) (k__law_integers_right : PySem.W.keepIn K (.ref a__law_integers_right) = true)
    (x_law : PySem.W.nsIn K mainGlobals "law" = some (some (.ref a_law))) (l_law : K.lookup a_law = some ⟨oc_law, od_law, .func (PySem.W.fnOf "law" "law" (defArgs s_law) (defBody s_law) (defScope s_law) .none kV_law dc_law pm_law an_law cd_law ct_law), sl_law⟩) (c_law : PySem.W.codeIn K cd_law "law" = true) (k_law : PySem.W.keepIn K (.ref a_law) = true)
    (z_all : PySem.W.nsIn K mainGlobals "all" = some none) (z_bool : PySem.W.nsIn K mainGlobals "bool" = some none) (z_int : PySem.W.nsIn K mainGlobals "int" = some none) (z_isinstance : PySem.W.nsIn K mainGlobals "isinstance" = some none) (z_len : PySem.W.nsIn K mainGlobals "len" = some none) (z_max : PySem.W.nsIn K mainGlobals "max" = some none) (z_min : PySem.W.nsIn K mainGlobals "min" = some none) (z_range : PySem.W.nsIn K mainGlobals "range" = some none) (z_repr : PySem.W.nsIn K mainGlobals "repr" = some none) (z_str : PySem.W.nsIn K mainGlobals "str" = some none) {t_LONGEST_NAME : Tok} (c_LONGEST_NAME : PySem.W.nsIn K mainGlobals "LONGEST_NAME" = some (some (.int 8 t_LONGEST_NAME))) {t_LONGEST_WORD : Tok} (c_LONGEST_WORD : PySem.W.nsIn K mainGlobals "LONGEST_WORD" = some (some (.int 6 t_LONGEST_WORD))) :
    ∃ fd : FuncData, (∀ (s : Shared) (u : Value), BindsTo s fd ⟨[u], []⟩ [("_law_script", u)]) ∧ ∀ base : Heap, K.In base → base.Ns mainGlobals mg → FnG P w K mg base CX0 5 fa fd ["_law_script"] (spD K mg (lawFn 63)) := by
  have e := hfa.symm.trans (PySem.W.mg_of X G x_law)
  cases e
  have T : Txt mg := { z_all := PySem.W.mg_none_of X G z_all, z_bool := PySem.W.mg_none_of X G z_bool, z_int := PySem.W.mg_none_of X G z_int, z_isinstance := PySem.W.mg_none_of X G z_isinstance, z_len := PySem.W.mg_none_of X G z_len, z_max := PySem.W.mg_none_of X G z_max, z_min := PySem.W.mg_none_of X G z_min, z_range := PySem.W.mg_none_of X G z_range, z_repr := PySem.W.mg_none_of X G z_repr, z_str := PySem.W.mg_none_of X G z_str, c_LONGEST_NAME := ⟨_, PySem.W.mg_of X G c_LONGEST_NAME⟩, c_LONGEST_WORD := ⟨_, PySem.W.mg_of X G c_LONGEST_WORD⟩ }
  have FA_is_whole : FunAt K mg "is_whole" "is_whole" s_is_whole ["value"] := at_mk X G x_is_whole l_is_whole c_is_whole k_is_whole fun _ _ _ _ _ _ us hl => match us, hl with | [_], _ => rfl
  have FA_is_integer : FunAt K mg "is_integer" "is_integer" s_is_integer ["value", "low", "high"] := at_mk X G x_is_integer l_is_integer c_is_integer k_is_integer fun _ _ _ _ _ _ us hl => match us, hl with | [_, _, _], _ => rfl
  have FA_is_letter : FunAt K mg "is_letter" "is_letter" s_is_letter ["value"] := at_mk X G x_is_letter l_is_letter c_is_letter k_is_letter fun _ _ _ _ _ _ us hl => match us, hl with | [_], _ => rfl
  have FA_is_lettered : FunAt K mg "is_lettered" "is_lettered" s_is_lettered ["value"] := at_mk X G x_is_lettered l_is_lettered c_is_lettered k_is_lettered fun _ _ _ _ _ _ us hl => match us, hl with | [_], _ => rfl
  have FA_is_word : FunAt K mg "is_word" "is_word" s_is_word ["value"] := at_mk X G x_is_word l_is_word c_is_word k_is_word fun _ _ _ _ _ _ us hl => match us, hl with | [_], _ => rfl
  have FA_is_name : FunAt K mg "is_name" "is_name" s_is_name ["value"] := at_mk X G x_is_name l_is_name c_is_name k_is_name fun _ _ _ _ _ _ us hl => match us, hl with | [_], _ => rfl
  have FA__law_cell : FunAt K mg "_law_cell" "_law_cell" s__law_cell ["_law_script", "_law_k"] := at_mk X G x__law_cell l__law_cell c__law_cell k__law_cell fun _ _ _ _ _ _ us hl => match us, hl with | [_, _], _ => rfl
  have FA__law_box : FunAt K mg "_law_box" "_law_box" s__law_box ["_law_cell_here"] := at_mk X G x__law_box l__law_box c__law_box k__law_box fun _ _ _ _ _ _ us hl => match us, hl with | [_], _ => rfl
  have FA__law_take : FunAt K mg "_law_take" "_law_take" s__law_take ["_law_box_here", "_law_many"] := at_mk X G x__law_take l__law_take c__law_take k__law_take fun _ _ _ _ _ _ us hl => match us, hl with | [_, _], _ => rfl
  have FA__law_line : FunAt K mg "_law_line" "_law_line" s__law_line ["_law_box_here"] := at_mk X G x__law_line l__law_line c__law_line k__law_line fun _ _ _ _ _ _ us hl => match us, hl with | [_], _ => rfl
  have FA__law_are_small : FunAt K mg "_law_are_small" "_law_are_small" s__law_are_small ["_law_line_here"] := at_mk X G x__law_are_small l__law_are_small c__law_are_small k__law_are_small fun _ _ _ _ _ _ us hl => match us, hl with | [_], _ => rfl
  have FA__law_right : FunAt K mg "_law_right" "_law_right" s__law_right ["_law_thing"] := at_mk X G x__law_right l__law_right c__law_right k__law_right fun _ _ _ _ _ _ us hl => match us, hl with | [_], _ => rfl
  have FA__law_integers_right : FunAt K mg "_law_integers_right" "_law_integers_right" s__law_integers_right ["_law_box_here"] := at_mk X G x__law_integers_right l__law_integers_right c__law_integers_right k__law_integers_right fun _ _ _ _ _ _ us hl => match us, hl with | [_], _ => rfl
  refine ⟨PySem.W.fnOf "law" "law" (defArgs s_law) (defBody s_law) (defScope s_law) .none kV_law dc_law pm_law an_law cd_law ct_law, fun s u => .of_eq rfl, fun base _ _ => ?_⟩
  have h_is_whole := ok_is_whole (P := P) (w := w) (base := base) T FA_is_whole 
  have h_is_integer := ok_is_integer (P := P) (w := w) (base := base) T FA_is_integer h_is_whole
  have h_is_letter := ok_is_letter (P := P) (w := w) (base := base) T FA_is_letter 
  have h_is_lettered := ok_is_lettered (P := P) (w := w) (base := base) T FA_is_lettered h_is_letter
  have h_is_word := ok_is_word (P := P) (w := w) (base := base) T FA_is_word h_is_lettered
  have h_is_name := ok_is_name (P := P) (w := w) (base := base) T FA_is_name h_is_lettered
  have h__law_cell := ok__law_cell (P := P) (w := w) (base := base) T FA__law_cell 
  have h__law_box := ok__law_box (P := P) (w := w) (base := base) T FA__law_box 
  have h__law_take := ok__law_take (P := P) (w := w) (base := base) T FA__law_take 
  have h__law_line := ok__law_line (P := P) (w := w) (base := base) T FA__law_line h__law_take
  have h__law_are_small := ok__law_are_small (P := P) (w := w) (base := base) T FA__law_are_small 
  have h__law_right := ok__law_right (P := P) (w := w) (base := base) T FA__law_right h__law_are_small h_is_letter h_is_name h_is_word
  have h__law_integers_right := ok__law_integers_right (P := P) (w := w) (base := base) T FA__law_integers_right h__law_take h_is_integer
  exact law_fn T (fun_mk (st := s_law) l_law c_law k_law) h__law_cell h__law_box h__law_line h__law_are_small h__law_right h__law_integers_right
end DL
open PySem PySem.W PyProof.Rows in
set_option maxRecDepth 100000 in
set_option maxHeartbeats 0 in
theorem PySem.Challenge.cw_seenchoices_k02_words_and_names_holds : PySem.Challenge.rw_seenchoices_k02_words_and_names.Holds := by
  w_on; o_law; k_head; (case hw => w_witness2)
  k_fill
  refine DL.the_end (l := PySem.Challenge.rw_seenchoices_k02_words_and_names) (n := 63) (k := 5) (x := "_law_script") rfl (by decide) rfl ⟨rfl, by decide, by decide⟩ (fun w h Y => PySem.W.kIn_of Y) ?F
  case F =>
    intro w mg fa h KX G hmg
    refine' DL.all_mk KX G hmg ?x_is_whole ?l_is_whole ?c_is_whole ?k_is_whole ?x_is_integer ?l_is_integer ?c_is_integer ?k_is_integer ?x_is_letter ?l_is_letter ?c_is_letter ?k_is_letter ?x_is_lettered ?l_is_lettered ?c_is_lettered ?k_is_lettered ?x_is_word ?l_is_word ?c_is_word ?k_is_word ?x_is_name ?l_is_name ?c_is_name ?k_is_name ?x__law_cell ?l__law_cell ?c__law_cell ?k__law_cell ?x__law_box ?l__law_box ?c__law_box ?k__law_box ?x__law_take ?l__law_take ?c__law_take ?k__law_take ?x__law_line ?l__law_line ?c__law_line ?k__law_line ?x__law_are_small ?l__law_are_small ?c__law_are_small ?k__law_are_small ?x__law_right ?l__law_right ?c__law_right ?k__law_right ?x__law_integers_right ?l__law_integers_right ?c__law_integers_right ?k__law_integers_right ?x_law ?l_law ?c_law ?k_law ?z_all ?z_bool ?z_int ?z_isinstance ?z_len ?z_max ?z_min ?z_range ?z_repr ?z_str ?c_LONGEST_NAME ?c_LONGEST_WORD
    (case x_is_whole => k_is); (case l_is_whole => k_is); (case c_is_whole => k_is); (case k_is_whole => k_is)
    (case x_is_integer => k_is); (case l_is_integer => k_is); (case c_is_integer => k_is); (case k_is_integer => k_is)
    (case x_is_letter => k_is); (case l_is_letter => k_is); (case c_is_letter => k_is); (case k_is_letter => k_is)
    (case x_is_lettered => k_is); (case l_is_lettered => k_is); (case c_is_lettered => k_is); (case k_is_lettered => k_is)
    (case x_is_word => k_is); (case l_is_word => k_is); (case c_is_word => k_is); (case k_is_word => k_is)
    (case x_is_name => k_is); (case l_is_name => k_is); (case c_is_name => k_is); (case k_is_name => k_is)
    (case x__law_cell => k_is); (case l__law_cell => k_is); (case c__law_cell => k_is); (case k__law_cell => k_is)
    (case x__law_box => k_is); (case l__law_box => k_is); (case c__law_box => k_is); (case k__law_box => k_is)
    (case x__law_take => k_is); (case l__law_take => k_is); (case c__law_take => k_is); (case k__law_take => k_is)
    (case x__law_line => k_is); (case l__law_line => k_is); (case c__law_line => k_is); (case k__law_line => k_is)
    (case x__law_are_small => k_is); (case l__law_are_small => k_is); (case c__law_are_small => k_is); (case k__law_are_small => k_is)
    (case x__law_right => k_is); (case l__law_right => k_is); (case c__law_right => k_is); (case k__law_right => k_is)
    (case x__law_integers_right => k_is); (case l__law_integers_right => k_is); (case c__law_integers_right => k_is); (case k__law_integers_right => k_is)
    (case x_law => k_is); (case l_law => k_is); (case c_law => k_is); (case k_law => k_is)
    (case z_all => k_is)
    (case z_bool => k_is)
    (case z_int => k_is)
    (case z_isinstance => k_is)
    (case z_len => k_is)
    (case z_max => k_is)
    (case z_min => k_is)
    (case z_range => k_is)
    (case z_repr => k_is)
    (case z_str => k_is)
    (case c_LONGEST_NAME => k_is)
    (case c_LONGEST_WORD => k_is)
#print axioms PySem.Challenge.cw_seenchoices_k02_words_and_names_holds
