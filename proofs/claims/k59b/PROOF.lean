import PyProof.Rows.All
import Wide.All
import OpenK.AllK
import HandS.ForMost
import HandS.Zip
import HandS.TupAny
import HandS.IsInst
import HandS.Wide
import HandS.More
import HandS.DictTup
import HandS.Deep
import KE.KDictPairs
import KE.GoesEnum
import HandS.Style
import HandS.Words
import PySem.Challenge.RW_labelhouse_k59_whole_cuts
set_option Elab.async false
set_option linter.all false
set_option maxRecDepth 100000
namespace TL
open PySem PySem.Spec PyProof.Rows L2

/-- a heap, and to whom its objects belong: 0 data, 1 a frame's own, 2 the draws' -/
structure Wd where
  H : Hp
  cl : Addr → Nat

def Step (w u : Wd) : Prop := ∀ a o, w.H a = some o → u.cl a = w.cl a ∧ (w.cl a ≠ 2 → u.H a = some o)
theorem Step.rfl' (w : Wd) : Step w w := fun _ _ h => ⟨rfl, fun _ => h⟩
theorem step_tracked {w u : Wd} (s : Step w u) {a : Addr} {o : HO} (h : w.H a = some o) (n : w.cl a ≠ 2) : u.H a = some o := (s a o h).2 n

/-- steps that keep class-2 objects tracked -/
structure Go (w u : Wd) : Prop where
  st : Step w u
  tr : ∀ a o, w.H a = some o → ∃ o', u.H a = some o'
theorem Go.refl (w : Wd) : Go w w := ⟨Step.rfl' w, fun _ o h => ⟨o, h⟩⟩
theorem Go.trans {w u x : Wd} (a : Go w u) (b : Go u x) : Go w x := by
  refine ⟨fun p o h => ?_, fun p o h => ?_⟩
  · obtain ⟨o', h'⟩ := a.tr p o h
    have c1 := (a.st p o h).1
    have c2 := (b.st p o' h').1
    refine ⟨c2.trans c1, fun n => ?_⟩
    have h1 := (a.st p o h).2 n
    exact (b.st p o h1).2 (by rw [c1]; exact n)
  · obtain ⟨o', h'⟩ := a.tr p o h
    exact b.tr p o' h'
/-- data stay -/
def Pu (w u : Wd) : Prop := ∀ a o, w.H a = some o → w.cl a = 0 → u.H a = some o ∧ u.cl a = 0
theorem Pu.refl (w : Wd) : Pu w w := fun _ _ h c => ⟨h, c⟩
theorem Pu.trans {w u x : Wd} (a : Pu w u) (b : Pu u x) : Pu w x := fun p o h c =>
  have q := a p o h c
  b p o q.1 q.2
theorem Go.pu {w u : Wd} (g : Go w u) : Pu w u := fun a o h c => by
  have q := g.st a o h
  exact ⟨q.2 (by rw [c]; decide), q.1.trans c⟩
/-- nothing that was there changes -/
def Go0 (w u : Wd) : Prop := ∀ a o, w.H a = some o → u.H a = some o ∧ u.cl a = w.cl a
theorem Go0.go {w u : Wd} (g : Go0 w u) : Go w u := ⟨fun a o h => ⟨(g a o h).2, fun _ => (g a o h).1⟩, fun a o h => ⟨o, (g a o h).1⟩⟩
theorem Go0.refl (w : Wd) : Go0 w w := fun _ _ h => ⟨h, rfl⟩
theorem Go0.trans {w u x : Wd} (a : Go0 w u) (b : Go0 u x) : Go0 w x := fun p o h => by
  have q := a p o h
  have r := b p o q.1
  exact ⟨r.1, r.2.trans q.2⟩
/-- a new object -/
def Wd.new (w : Wd) (p : Addr) (o : HO) (k : Nat) : Wd := ⟨upd w.H p o, fun b => if b = p then k else w.cl b⟩
theorem Go0.new {w : Wd} {p : Addr} {o : HO} (n : w.H p = none) (k : Nat) : Go0 w (w.new p o k) := fun a x h => by
  have ne : a ≠ p := fun e => by rw [e, n] at h; cases h
  refine ⟨?_, if_neg ne⟩
  show upd w.H p o a = some x
  rw [upd_ne ne]; exact h
/-- a new object, data -/
theorem Go.new' {w : Wd} {p : Addr} {o : HO} (n : w.H p = none) (k : Nat) : Go w (w.new p o k) := (Go0.new n k).go
theorem Go.newX {w : Wd} {p : Addr} {o : HO} (n : w.H p = none) (k : Nat) : Go w ⟨upd w.H p o, fun b => if b = p then k else w.cl b⟩ := by
  have ne : ∀ a x, w.H a = some x → a ≠ p := fun a x h e => by rw [e, n] at h; cases h
  refine ⟨fun a x h => ⟨if_neg (ne a x h), fun _ => ?_⟩, fun a x h => ⟨x, ?_⟩⟩
  · show upd w.H p o a = some x
    rw [upd_ne (ne a x h)]; exact h
  · show upd w.H p o a = some x
    rw [upd_ne (ne a x h)]; exact h

section
variable (K : PySem.W.Frag) (w : Wd)
/-- ints and texts: what may be a dict's key -/
def keyV1 : V → Bool
  | .int _ => true
  | .str _ => true
  | _ => false
def keyV (xs : List V) : Bool := xs.all keyV1
/-- how a new tuple is told: one of ints and texts as a key, another by its object -/
def tupO (o : Obj) (xs : List V) : HO := if keyV xs = true then .tup xs else .frz o (.tup xs)
def TupA (a : Addr) (xs : List V) : Prop := (∃ o : Obj, w.H a = some (tupO o xs) ∧ o.dict = none ∧ w.cl a = 0) ∨ (SqT K (fun _ => none) a xs ∧ ∀ o, K.lookup a = some o → o.dict = none)
def LstA (a : Addr) (xs : List V) : Prop := (Rd w.H a (.lst xs) ∧ w.cl a = 0) ∨ SqL K (fun _ => none) a xs
def DicA (a : Addr) (kvs : List (Key × V)) : Prop := Rd w.H a (.dK kvs) ∧ w.cl a = 0
end
def kD : Key → PyData
  | .inl i => .int i
  | .inr x => .str x
section
variable {K : PySem.W.Frag} {w u : Wd} {a : Addr} {xs : List V}
theorem tupO_rd {H : Hp} {o : Obj} (h : H a = some (tupO o xs)) : Rd H a (.tup xs) := by
  unfold tupO at h
  split at h
  · exact .inl h
  · exact .inr ⟨o, h⟩
theorem TupA.sq (h : TupA K w a xs) : SqT K w.H a xs := by
  rcases h with ⟨o, h, _⟩ | ⟨h, _⟩
  · exact .inl (tupO_rd h)
  · rcases h with h | h
    · rcases h with h | ⟨_, h⟩ <;> cases h
    · exact .inr h
theorem LstA.sq (h : LstA K w a xs) : SqL K w.H a xs := by
  rcases h with h | h
  · exact .inl h.1
  · rcases h with h | h
    · rcases h with h | ⟨_, h⟩ <;> cases h
    · exact .inr h
theorem rd_pu {o : HO} (h : Rd w.H a o) (c : w.cl a = 0) (g : Pu w u) : Rd u.H a o ∧ u.cl a = 0 := by
  rcases h with h | ⟨ob, h⟩
  · exact ⟨.inl (g a _ h c).1, (g a _ h c).2⟩
  · exact ⟨.inr ⟨ob, (g a _ h c).1⟩, (g a _ h c).2⟩
theorem TupA.pu (h : TupA K w a xs) (g : Pu w u) : TupA K u a xs := by
  rcases h with ⟨o, h, d, c⟩ | h
  · exact .inl ⟨o, (g a _ h c).1, d, (g a _ h c).2⟩
  · exact .inr h
theorem LstA.pu (h : LstA K w a xs) (g : Pu w u) : LstA K u a xs := by
  rcases h with h | h
  · exact .inl (rd_pu h.1 h.2 g)
  · exact .inr h
theorem DicA.pu {kvs : List (Key × V)} (h : DicA w a kvs) (g : Pu w u) : DicA u a kvs := rd_pu h.1 h.2 g
end

mutual

inductive Rv (K : PySem.W.Frag) (w : Wd) : V → PyData → Prop
  | non : Rv K w .non .none
  | bl (b : Bool) : Rv K w (.bl b) (.bool b)
  | int (i : Int) : Rv K w (.int i) (.int i)
  | str (x : Str) : Rv K w (.str x) (.str x)
  | lst {a : Addr} {xs : List V} {ds : List PyData} (h : LstA K w a xs) (r : RvL K w xs ds) : Rv K w (.ref a) (.list ds)
  | tup {a : Addr} {xs : List V} {ds : List PyData} (h : TupA K w a xs) (r : RvL K w xs ds) : Rv K w (.ref a) (.tuple ds)
  | dic {a : Addr} {ks : List Key} {xs : List V} {ds : List PyData} (h : DicA w a (ks.zip xs)) (l : ks.length = xs.length) (r : RvL K w xs ds) : Rv K w (.ref a) (.dict ((ks.map kD).zip ds))
inductive RvL (K : PySem.W.Frag) (w : Wd) : List V → List PyData → Prop
  | nil : RvL K w [] []
  | cons {v : V} {d : PyData} {vs : List V} {ds : List PyData} (h : Rv K w v d) (t : RvL K w vs ds) : RvL K w (v :: vs) (d :: ds)
end
section
variable {K : PySem.W.Frag} {w u : Wd}
mutual
theorem Rv.pu : ∀ {v : V} {d : PyData}, Rv K w v d → Pu w u → Rv K u v d
  | _, _, .non, _ => .non
  | _, _, .bl b, _ => .bl b
  | _, _, .int i, _ => .int i
  | _, _, .str x, _ => .str x
  | _, _, .lst h r, g => .lst (h.pu g) (RvL.pu r g)
  | _, _, .tup h r, g => .tup (h.pu g) (RvL.pu r g)
  | _, _, .dic h l r, g => .dic (h.pu g) l (RvL.pu r g)
theorem RvL.pu : ∀ {vs : List V} {ds : List PyData}, RvL K w vs ds → Pu w u → RvL K u vs ds
  | _, _, .nil, _ => .nil
  | _, _, .cons h t, g => .cons (Rv.pu h g) (RvL.pu t g)
end
theorem Rv.go {v : V} {d : PyData} (h : Rv K w v d) (g : Go w u) : Rv K u v d := h.pu g.pu
theorem RvL.go {v : List V} {d : List PyData} (h : RvL K w v d) (g : Go w u) : RvL K u v d := h.pu g.pu
theorem RvL.len : ∀ {vs : List V} {ds : List PyData}, RvL K w vs ds → vs.length = ds.length
  | _, _, .nil => rfl
  | _, _, .cons _ t => by rw [List.length_cons, List.length_cons, RvL.len t]
theorem RvL.get : ∀ {vs : List V} {ds : List PyData} {i : Nat} {d : PyData}, RvL K w vs ds → ds[i]? = some d → ∃ v, vs[i]? = some v ∧ Rv K w v d
  | _, _, _, _, .nil, e => by simp at e
  | _, _, 0, _, .cons h _, e => by
    have e' := Option.some.inj e
    subst e'
    exact ⟨_, rfl, h⟩
  | _, _, i + 1, d, .cons _ t, e => by
    obtain ⟨v, h1, h2⟩ := RvL.get (i := i) (d := d) t (by simpa using e)
    exact ⟨v, by simpa using h1, h2⟩
theorem RvL.get' : ∀ {vs : List V} {ds : List PyData} {i : Nat} {v : V}, RvL K w vs ds → vs[i]? = some v → ∃ d, ds[i]? = some d ∧ Rv K w v d
  | _, _, _, _, .nil, e => by simp at e
  | _, _, 0, _, .cons h _, e => by
    have e' := Option.some.inj e
    subst e'
    exact ⟨_, rfl, h⟩
  | _, _, i + 1, d, .cons _ t, e => by
    obtain ⟨v, h1, h2⟩ := RvL.get' (i := i) (v := d) t (by simpa using e)
    exact ⟨v, by simpa using h1, h2⟩
theorem RvL.app : ∀ {vs us : List V} {ds es : List PyData}, RvL K w vs ds → RvL K w us es → RvL K w (vs ++ us) (ds ++ es)
  | _, _, _, _, .nil, s => s
  | _, _, _, _, .cons h t, s => .cons h (RvL.app t s)
theorem RvL.take : ∀ {vs : List V} {ds : List PyData} (n : Nat), RvL K w vs ds → RvL K w (vs.take n) (ds.take n)
  | _, _, 0, _ => .nil
  | _, _, _ + 1, .nil => .nil
  | _, _, n + 1, .cons h t => .cons h (RvL.take n t)
theorem RvL.drop : ∀ {vs : List V} {ds : List PyData} (n : Nat), RvL K w vs ds → RvL K w (vs.drop n) (ds.drop n)
  | _, _, 0, r => r
  | _, _, _ + 1, .nil => .nil
  | _, _, n + 1, .cons _ t => RvL.drop n t
theorem RvL.rev {vs : List V} {ds : List PyData} (h : RvL K w vs ds) : RvL K w vs.reverse ds.reverse := by
  induction vs generalizing ds with
  | nil => cases h; exact .nil
  | cons v vs ih =>
    cases h with
    | cons h t =>
      rw [List.reverse_cons, List.reverse_cons]
      exact (ih t).app (.cons h .nil)
theorem RvL.set {v : V} {d : PyData} (r : Rv K w v d) : ∀ {vs : List V} {ds : List PyData} (i : Nat), RvL K w vs ds → RvL K w (vs.set i v) (ds.set i d)
  | _, _, _, .nil => .nil
  | _, _, 0, .cons _ t => .cons r t
  | _, _, i + 1, .cons q t => .cons q (RvL.set r i t)

mutual
@[simp] def noDict : PyData → Bool
  | .dict _ => false
  | .list xs => noDicts xs
  | .tuple xs => noDicts xs
  | _ => true
@[simp] def noDicts : List PyData → Bool
  | [] => true
  | x :: r => noDict x && noDicts r
end
mutual
theorem Rv.dp : ∀ {v : V} {d : PyData}, Rv K w v d → noDict d = true → Dp K w.H v d
  | _, _, .non, _ => .non
  | _, _, .bl b, _ => .bl b
  | _, _, .int i, _ => .int i
  | _, _, .str x, _ => .str x
  | _, _, .lst h r, g => .lst h.sq (RvL.dp r (by simpa [noDict] using g))
  | _, _, .tup h r, g => .tup h.sq (RvL.dp r (by simpa [noDict] using g))
  | _, _, .dic h l r, g => by simp [noDict] at g
theorem RvL.dp : ∀ {vs : List V} {ds : List PyData}, RvL K w vs ds → noDicts ds = true → DpAll K w.H vs ds
  | _, _, .nil, _ => .nil
  | _, _, .cons h t, g => by
    simp only [noDicts, Bool.and_eq_true] at g
    exact .cons (Rv.dp h g.1) (RvL.dp t g.2)
end
end
end TL

namespace TL
open PySem PySem.Spec PyProof.Rows L2

/-- what a name holds: nothing yet, data, the draws, a list or a dict that is this frame's own -/
inductive S where
  | un | v (d : PyData) | tok | hl (l : List PyData) | hd (l : List (Key × PyData))

/-- what is fixed: the draws' address, what is kept of them, the world at the entry -/
structure Ct where
  am : Addr
  J : Nat → Wd → Prop
  st : ∀ g w u, (∀ a o, w.H a = some o → w.cl a = 2 → u.H a = some o ∧ u.cl a = 2) → J g w → J g u
  w0 : Wd

inductive EnvR (K : PySem.W.Frag) (G : Ct) (w : Wd) : List S → L2.St → List Addr → Prop
  | nil : EnvR K G w [] [] []
  | un {E σ as} (x : Option V) (t : EnvR K G w E σ as) : EnvR K G w (.un :: E) (x :: σ) as
  | v {E σ as} {x : V} {d : PyData} (h : Rv K w x d) (t : EnvR K G w E σ as) : EnvR K G w (.v d :: E) (some x :: σ) as
  | tok {E σ as} (t : EnvR K G w E σ as) : EnvR K G w (.tok :: E) (some (.ref G.am) :: σ) as
  | hl {E σ as} {a : Addr} {xs : List V} {ds : List PyData} (h : w.H a = some (.lst xs)) (c : w.cl a = 1) (n : G.w0.H a = none) (r : RvL K w xs ds) (na : a ∉ as) (t : EnvR K G w E σ as) : EnvR K G w (.hl ds :: E) (some (.ref a) :: σ) (a :: as)
  | hd {E σ as} {a : Addr} {ks : List Key} {xs : List V} {ds : List PyData} (h : w.H a = some (.dK (ks.zip xs))) (c : w.cl a = 1) (n : G.w0.H a = none) (l : ks.length = xs.length) (r : RvL K w xs ds) (na : a ∉ as) (t : EnvR K G w E σ as) : EnvR K G w (.hd (ks.zip ds) :: E) (some (.ref a) :: σ) (a :: as)

section
variable {K : PySem.W.Frag} {G : Ct} {w u : Wd} {E : List S} {σ : L2.St} {as : List Addr}
/-- the frame's own things stay as they are -/
def Ow (w u : Wd) : Prop := ∀ a o, w.H a = some o → w.cl a ≠ 2 → u.H a = some o ∧ u.cl a = w.cl a
theorem Go.ow {w u : Wd} (g : Go w u) : Ow w u := fun a o h c => ⟨(g.st a o h).2 c, (g.st a o h).1⟩
theorem Ow.pu {w u : Wd} (g : Ow w u) : Pu w u := fun a o h c => by
  have q := g a o h (by rw [c]; decide)
  exact ⟨q.1, q.2.trans c⟩
theorem EnvR.ow (h : EnvR K G w E σ as) (g : Ow w u) : EnvR K G u E σ as := by
  induction h with
  | nil => exact .nil
  | un x _ ih => exact .un x ih
  | v h _ ih => exact .v (h.pu g.pu) ih
  | tok _ ih => exact .tok ih
  | hl h c n r na _ ih =>
    have q := g _ _ h (by rw [c]; decide)
    exact .hl q.1 (q.2.trans c) n (r.pu g.pu) na ih
  | hd h c n l r na _ ih =>
    have q := g _ _ h (by rw [c]; decide)
    exact .hd q.1 (q.2.trans c) n l (r.pu g.pu) na ih
theorem EnvR.go (h : EnvR K G w E σ as) (g : Go w u) : EnvR K G u E σ as := h.ow g.ow
theorem EnvR.len (h : EnvR K G w E σ as) : σ.length = E.length := by
  induction h with
  | nil => rfl
  | un x _ ih => simp [ih]
  | v _ _ ih => simp [ih]
  | tok _ ih => simp [ih]
  | hl _ _ _ _ _ _ ih => simp [ih]
  | hd _ _ _ _ _ _ _ ih => simp [ih]
theorem EnvR.get (h : EnvR K G w E σ as) : ∀ {i : Nat} {d : PyData}, E[i]? = some (.v d) → ∃ x, σ[i]? = some (some x) ∧ Rv K w x d := by
  induction h with
  | nil => intro i d e; simp at e
  | un x _ ih =>
    intro i d e
    cases i with
    | zero => simp at e
    | succ i => simpa using ih (by simpa using e)
  | @v E σ as x d' h _ ih =>
    intro i d e
    cases i with
    | zero =>
      have e' : d' = d := by simpa using e
      subst e'
      exact ⟨x, rfl, h⟩
    | succ i => simpa using ih (by simpa using e)
  | tok _ ih =>
    intro i d e
    cases i with
    | zero => simp at e
    | succ i => simpa using ih (by simpa using e)
  | hl _ _ _ _ _ _ ih =>
    intro i d e
    cases i with
    | zero => simp at e
    | succ i => simpa using ih (by simpa using e)
  | hd _ _ _ _ _ _ _ ih =>
    intro i d e
    cases i with
    | zero => simp at e
    | succ i => simpa using ih (by simpa using e)
theorem EnvR.getTok (h : EnvR K G w E σ as) : ∀ {i : Nat}, E[i]? = some .tok → σ[i]? = some (some (.ref G.am)) := by
  induction h with
  | nil => intro i e; simp at e
  | un x _ ih =>
    intro i e
    cases i with
    | zero => simp at e
    | succ i => simpa using ih (by simpa using e)
  | v h _ ih =>
    intro i e
    cases i with
    | zero => simp at e
    | succ i => simpa using ih (by simpa using e)
  | tok _ ih =>
    intro i e
    cases i with
    | zero => rfl
    | succ i => simpa using ih (by simpa using e)
  | hl _ _ _ _ _ _ ih =>
    intro i e
    cases i with
    | zero => simp at e
    | succ i => simpa using ih (by simpa using e)
  | hd _ _ _ _ _ _ _ ih =>
    intro i e
    cases i with
    | zero => simp at e
    | succ i => simpa using ih (by simpa using e)
/-- the addresses of own things -/
theorem EnvR.own (h : EnvR K G w E σ as) : ∀ a ∈ as, (∃ o, w.H a = some o) ∧ w.cl a = 1 ∧ G.w0.H a = none := by
  induction h with
  | nil => intro a ha; simp at ha
  | un _ _ ih => exact ih
  | v _ _ ih => exact ih
  | tok _ ih => exact ih
  | hl h c n _ _ _ ih =>
    intro a ha
    rcases List.mem_cons.mp ha with e | ha
    · subst e; exact ⟨⟨_, h⟩, c, n⟩
    · exact ih a ha
  | hd h c n _ _ _ _ ih =>
    intro a ha
    rcases List.mem_cons.mp ha with e | ha
    · subst e; exact ⟨⟨_, h⟩, c, n⟩
    · exact ih a ha
/-- a name gets data (or is forgotten) -/
theorem EnvR.set (h : EnvR K G w E σ as) : ∀ (i : Nat) {x : V} {d : PyData}, Rv K w x d → ∃ bs, EnvR K G w (E.set i (.v d)) (σ.set i (some x)) bs ∧ ∀ a ∈ bs, a ∈ as := by
  induction h with
  | nil => intro i x d _; exact ⟨[], .nil, fun a h => h⟩
  | @un E σ as y t ih =>
    intro i x d r
    cases i with
    | zero => exact ⟨as, .v r t, fun a h => h⟩
    | succ i => obtain ⟨bs, h1, h2⟩ := ih i r; exact ⟨bs, .un y h1, h2⟩
  | @v E σ as y d' h t ih =>
    intro i x d r
    cases i with
    | zero => exact ⟨as, .v r t, fun a h => h⟩
    | succ i => obtain ⟨bs, h1, h2⟩ := ih i r; exact ⟨bs, .v h h1, h2⟩
  | @tok E σ as t ih =>
    intro i x d r
    cases i with
    | zero => exact ⟨as, .v r t, fun a h => h⟩
    | succ i => obtain ⟨bs, h1, h2⟩ := ih i r; exact ⟨bs, .tok h1, h2⟩
  | @hl E σ as a xs ds h c n rr na t ih =>
    intro i x d r
    cases i with
    | zero => exact ⟨as, .v r t, fun a h => List.mem_cons_of_mem _ h⟩
    | succ i =>
      obtain ⟨bs, h1, h2⟩ := ih i r
      refine ⟨a :: bs, .hl h c n rr (fun z => na (h2 a z)) h1, fun b hb => ?_⟩
      rcases List.mem_cons.mp hb with e | hb
      · subst e; exact List.mem_cons_self
      · exact List.mem_cons_of_mem _ (h2 b hb)
  | @hd E σ as a ks xs ds h c n l rr na t ih =>
    intro i x d r
    cases i with
    | zero => exact ⟨as, .v r t, fun a h => List.mem_cons_of_mem _ h⟩
    | succ i =>
      obtain ⟨bs, h1, h2⟩ := ih i r
      refine ⟨a :: bs, .hd h c n l rr (fun z => na (h2 a z)) h1, fun b hb => ?_⟩
      rcases List.mem_cons.mp hb with e | hb
      · subst e; exact List.mem_cons_self
      · exact List.mem_cons_of_mem _ (h2 b hb)
theorem EnvR.unset (h : EnvR K G w E σ as) : ∀ (i : Nat) (x : Option V), ∃ bs, EnvR K G w (E.set i .un) (σ.set i x) bs ∧ ∀ a ∈ bs, a ∈ as := by
  induction h with
  | nil => intro i x; exact ⟨[], .nil, fun a h => h⟩
  | @un E σ as y t ih =>
    intro i x
    cases i with
    | zero => exact ⟨as, .un x t, fun a h => h⟩
    | succ i => obtain ⟨bs, h1, h2⟩ := ih i x; exact ⟨bs, .un y h1, h2⟩
  | @v E σ as y d' h t ih =>
    intro i x
    cases i with
    | zero => exact ⟨as, .un x t, fun a h => h⟩
    | succ i => obtain ⟨bs, h1, h2⟩ := ih i x; exact ⟨bs, .v h h1, h2⟩
  | @tok E σ as t ih =>
    intro i x
    cases i with
    | zero => exact ⟨as, .un x t, fun a h => h⟩
    | succ i => obtain ⟨bs, h1, h2⟩ := ih i x; exact ⟨bs, .tok h1, h2⟩
  | @hl E σ as a xs ds h c n rr na t ih =>
    intro i x
    cases i with
    | zero => exact ⟨as, .un x t, fun a h => List.mem_cons_of_mem _ h⟩
    | succ i =>
      obtain ⟨bs, h1, h2⟩ := ih i x
      refine ⟨a :: bs, .hl h c n rr (fun z => na (h2 a z)) h1, fun b hb => ?_⟩
      rcases List.mem_cons.mp hb with e | hb
      · subst e; exact List.mem_cons_self
      · exact List.mem_cons_of_mem _ (h2 b hb)
  | @hd E σ as a ks xs ds h c n l rr na t ih =>
    intro i x
    cases i with
    | zero => exact ⟨as, .un x t, fun a h => List.mem_cons_of_mem _ h⟩
    | succ i =>
      obtain ⟨bs, h1, h2⟩ := ih i x
      refine ⟨a :: bs, .hd h c n l rr (fun z => na (h2 a z)) h1, fun b hb => ?_⟩
      rcases List.mem_cons.mp hb with e | hb
      · subst e; exact List.mem_cons_self
      · exact List.mem_cons_of_mem _ (h2 b hb)
theorem Go0.ow {w u : Wd} (g : Go0 w u) : Ow w u := fun a o h _ => g a o h
/-- an own thing that is not a name's is changed -/
theorem Ow_other {w : Wd} {p : Addr} {o : HO} : ∀ a x, w.H a = some x → a ≠ p → (⟨upd w.H p o, w.cl⟩ : Wd).H a = some x := fun a x h n => by
  show upd w.H p o a = some x
  rw [upd_ne n]; exact h
theorem Rv.upd' {v : V} {d : PyData} (h : Rv K w v d) {p : Addr} {o : HO} (c : w.cl p ≠ 0) : Rv K ⟨upd w.H p o, w.cl⟩ v d := h.pu fun a x e z => by
  refine ⟨Ow_other a x e fun q => ?_, z⟩
  subst q; exact c z
theorem RvL.upd' {v : List V} {d : List PyData} (h : RvL K w v d) {p : Addr} {o : HO} (c : w.cl p ≠ 0) : RvL K ⟨upd w.H p o, w.cl⟩ v d := h.pu fun a x e z => by
  refine ⟨Ow_other a x e fun q => ?_, z⟩
  subst q; exact c z
theorem EnvR.other (h : EnvR K G w E σ as) {p : Addr} {o : HO} (c : w.cl p ≠ 0) (np : p ∉ as) : EnvR K G ⟨upd w.H p o, w.cl⟩ E σ as := by
  induction h with
  | nil => exact .nil
  | un x _ ih => exact .un x (ih np)
  | v h _ ih => exact .v (h.upd' c) (ih np)
  | tok _ ih => exact .tok (ih np)
  | @hl E σ as a xs ds h cc n r na _ ih =>
    have n1 : a ≠ p := fun z => np (by rw [z]; exact List.mem_cons_self)
    exact .hl (Ow_other a _ h n1) cc n (r.upd' c) na (ih fun z => np (List.mem_cons_of_mem _ z))
  | @hd E σ as a ks xs ds h cc n l r na _ ih =>
    have n1 : a ≠ p := fun z => np (by rw [z]; exact List.mem_cons_self)
    exact .hd (Ow_other a _ h n1) cc n l (r.upd' c) na (ih fun z => np (List.mem_cons_of_mem _ z))
end

/-! ### readings by data -/
abbrev TX := List S → Nat → (PyData → Nat → Prop) → Prop
abbrev TC := List S → Nat → (Bool → Nat → Prop) → Prop
abbrev TL' := List S → Nat → (List S → Nat → Prop) → Prop
structure Kt where
  nx : List S → Nat → Prop
  rt : PyData → Nat → Prop
  bk : List S → Nat → Prop := fun _ _ => False
  ct : List S → Nat → Prop := fun _ _ => False
abbrev TSt := Kt → List S → Nat → Prop
structure Kt.Le (k k' : Kt) : Prop where
  nx : ∀ E g, k.nx E g → k'.nx E g
  rt : ∀ d g, k.rt d g → k'.rt d g
  bk : ∀ E g, k.bk E g → k'.bk E g
  ct : ∀ E g, k.ct E g → k'.ct E g

section
variable (K : PySem.W.Frag) (G : Ct)
def lift (t : TX) : TE := fun σ H Q => ∃ cl E g as, G.J g ⟨H, cl⟩ ∧ EnvR K G ⟨H, cl⟩ E σ as ∧ t E g fun d g' => ∀ u v, Go ⟨H, cl⟩ u → G.J g' u → Rv K u v d → Q v u.H
def liftC (t : TC) : TT := fun σ H Q => ∃ cl E g as, G.J g ⟨H, cl⟩ ∧ EnvR K G ⟨H, cl⟩ E σ as ∧ t E g fun b g' => ∀ u, Go ⟨H, cl⟩ u → G.J g' u → Q b u.H
/-- a list of arguments -/
inductive RvA (K : PySem.W.Frag) (am : Addr) (u : Wd) : List V → List S → Prop
  | nil : RvA K am u [] []
  | v {x d vs ds} (h : Rv K u x d) (t : RvA K am u vs ds) : RvA K am u (x :: vs) (.v d :: ds)
  | tok {vs ds} (t : RvA K am u vs ds) : RvA K am u (.ref am :: vs) (.tok :: ds)
def liftA (t : TL') : TA := fun σ H Q => ∃ cl E g as, G.J g ⟨H, cl⟩ ∧ EnvR K G ⟨H, cl⟩ E σ as ∧ t E g fun ds g' => ∀ u vs, Go ⟨H, cl⟩ u → G.J g' u → RvA K G.am u vs ds → Q vs u.H
def ktOf (w : Wd) (D : Ends) : Kt where
  nx := fun E g => ∀ u σ as, G.J g u → Go G.w0 u → Pu w u → EnvR K G u E σ as → D.nx σ u.H
  rt := fun d g => ∀ u v, G.J g u → Go G.w0 u → Rv K u v d → D.rt v u.H
  bk := fun E g => ∀ u σ as, G.J g u → Go G.w0 u → Pu w u → EnvR K G u E σ as → D.bk σ u.H
  ct := fun E g => ∀ u σ as, G.J g u → Go G.w0 u → Pu w u → EnvR K G u E σ as → D.ct σ u.H
def liftS (t : TSt) : TS := fun D σ H => ∃ cl E g as, G.J g ⟨H, cl⟩ ∧ Go G.w0 ⟨H, cl⟩ ∧ EnvR K G ⟨H, cl⟩ E σ as ∧ t (ktOf K G ⟨H, cl⟩ D) E g
end
structure XE (G : Ct) (X : Cx) (e : Expr) (t : TX) : Prop where
  mo : ∀ E g Q Q', (∀ d g', Q d g' → Q' d g') → t E g Q → t E g Q'
  pe : PE X e (lift X.K G t)
structure XC (G : Ct) (X : Cx) (e : Expr) (t : TC) : Prop where
  mo : ∀ E g Q Q', (∀ d g', Q d g' → Q' d g') → t E g Q → t E g Q'
  pt : PT X e (liftC X.K G t)
structure XA (G : Ct) (X : Cx) (es : List Expr) (t : TL') : Prop where
  mo : ∀ E g Q Q', (∀ d g', Q d g' → Q' d g') → t E g Q → t E g Q'
  pa : PA X es (liftA X.K G t)
structure XS (G : Ct) (X : Cx) (s : Stmt) (t : TSt) : Prop where
  mo : ∀ k k' E g, k.Le k' → t k E g → t k' E g
  ps : PS X s (liftS X.K G t)
structure XSs (G : Ct) (X : Cx) (s : List Stmt) (t : TSt) : Prop where
  mo : ∀ k k' E g, k.Le k' → t k E g → t k' E g
  ps : PSs X s (liftS X.K G t)

section
variable {G : Ct} {X : Cx}
theorem Ct.st0 (G : Ct) {g : Nat} {w u : Wd} (h : Go0 w u) (j : G.J g w) : G.J g u := G.st g w u (fun a o e c => ⟨(h a o e).1, ((h a o e).2).trans c⟩) j
/-- a reading of HandS that is weaker -/
theorem _root_.L2.PE.imp {e : Expr} {t t' : TE} (h : PE X e t) (w : ∀ σ H Q, t' σ H Q → t σ H Q) : PE X e t' := ⟨fun pins s σ H Q I q => h.run pins s σ H Q I (w σ H Q q)⟩
theorem _root_.L2.PT.imp {e : Expr} {t t' : TT} (h : PT X e t) (w : ∀ σ H Q, t' σ H Q → t σ H Q) : PT X e t' := ⟨fun pins s σ H Q I q => h.run pins s σ H Q I (w σ H Q q)⟩
theorem _root_.L2.PA.imp {e : List Expr} {t t' : TA} (h : PA X e t) (w : ∀ σ H Q, t' σ H Q → t σ H Q) : PA X e t' := ⟨fun pos pins s σ H Q I q => h.run pos pins s σ H Q I (w σ H Q q)⟩
theorem _root_.L2.PS.imp {e : Stmt} {t t' : TS} (h : PS X e t) (w : ∀ D σ H, t' D σ H → t D σ H) : PS X e t' := ⟨fun pins s σ H D I q => h.run pins s σ H D I (w D σ H q)⟩
theorem _root_.L2.PSs.imp {e : List Stmt} {t t' : TS} (h : PSs X e t) (w : ∀ D σ H, t' D σ H → t D σ H) : PSs X e t' := ⟨fun pins s σ H D I q => h.run pins s σ H D I (w D σ H q)⟩

/-! ### names, constants -/
@[simp] def xVar (i : Nat) : TX := fun E g Q => ∃ d, E[i]? = some (.v d) ∧ Q d g
theorem xe_var (i : Nat) {x : Str} {pos : Pos} (h : PE X (.Name x pos) (tVar i)) : XE G X (.Name x pos) (xVar i) := by
  refine ⟨fun E g Q Q' hq ⟨d, e, q⟩ => ⟨d, e, hq _ _ q⟩, h.imp fun σ H Q ⟨cl, E, g, as, j, r, d, e, q⟩ => ?_⟩
  obtain ⟨v, e1, e2⟩ := r.get e
  exact ⟨v, e1, q ⟨H, cl⟩ v (Go.refl _) j e2⟩
@[simp] def xC (d : PyData) : TX := fun _ g Q => Q d g
theorem xe_c {e : Expr} {v : V} {d : PyData} (h : PE X e (tC v)) (r : ∀ w, Rv X.K w v d) : XE G X e (xC d) :=
  ⟨fun E g Q Q' hq q => hq _ _ q, h.imp fun σ H Q ⟨cl, E, g, as, j, _, q⟩ => q ⟨H, cl⟩ v (Go.refl _) j (r _)⟩
theorem xe_int {i : Int} {j pos} : XE G X (.Constant (.int i) j pos) (xC (.int i)) := xe_c pe_int fun _ => .int i
theorem xe_bl {b : Bool} {j pos} : XE G X (.Constant (.bool b) j pos) (xC (.bool b)) := xe_c pe_bl fun _ => .bl b
theorem xe_non {j pos} : XE G X (.Constant .none j pos) (xC .none) := xe_c pe_non fun _ => .non
theorem xe_str {x : Str} {j pos} : XE G X (.Constant (.str x) j pos) (xC (.str x)) := xe_c pe_str fun _ => .str x
/-- a module's constant -/
theorem xe_glob {x : Str} {v : V} {u : Value} {pos : Pos} {d : PyData} (hg : Gl X x) (hm : X.mg x = some u) (r : RelV v u) (rd : ∀ w, Rv X.K w v d) (hd : (x == ("__debug__" : Str)) = false := by decide) : XE G X (.Name x pos) (xC d) :=
  xe_c (pe_glob hg hm r hd) rd

/-! ### two operands -/
/-- what an operation gives, by data -/
abbrev OD := PyData → PyData → Nat → (PyData → Nat → Prop) → Prop
/-- r is what the reading r2 says, by data -/
structure OpD (G : Ct) (K : PySem.W.Frag) (r : R2) (od : OD) : Prop where
  mo : ∀ d e g Q Q', (∀ d g', Q d g' → Q' d g') → od d e g Q → od d e g Q'
  to : ∀ (w : Wd) (g : Nat) (x y : V) (d e : PyData) (Q : VK), G.J g w → Rv K w x d → Rv K w y e → (od d e g fun z g' => ∀ u v, Go w u → G.J g' u → Rv K u v z → Q v u.H) → r x y w.H Q
@[simp] def xBin (ta tb : TX) (od : OD) : TX := fun E g Q => ta E g fun d g1 => tb E g1 fun e g2 => od d e g2 Q
section
variable {a b : Expr} {ta tb : TX} {r : R2} {od : OD} {pos : Pos}
theorem bin_mo (ha : XE G X a ta) (hb : XE G X b tb) (ho : OpD G X.K r od) : ∀ E g Q Q', (∀ d g', Q d g' → Q' d g') → xBin ta tb od E g Q → xBin ta tb od E g Q' :=
  fun E g Q Q' hq q => ha.mo _ _ _ _ (fun _ _ q1 => hb.mo _ _ _ _ (fun _ _ q2 => ho.mo _ _ _ _ _ hq q2) q1) q
theorem bin_to (ha : XE G X a ta) (hb : XE G X b tb) (ho : OpD G X.K r od) : ∀ σ H Q, lift X.K G (xBin ta tb od) σ H Q → tOp r (lift X.K G ta) (lift X.K G tb) σ H Q := by
  intro σ H Q ⟨cl, E, g, as, j, rE, q⟩
  refine ⟨cl, E, g, as, j, rE, ha.mo _ _ _ _ (fun d g1 q1 u v go j1 rv => ?_) q⟩
  refine ⟨u.cl, E, g1, as, j1, rE.go go, hb.mo _ _ _ _ (fun e g2 q2 u2 v2 go2 j2 rv2 => ?_) q1⟩
  refine ho.to u2 g2 v v2 d e Q j2 (rv.go go2) rv2 (ho.mo _ _ _ _ _ (fun z g3 q3 u3 v3 go3 j3 rv3 => ?_) q2)
  exact q3 u3 v3 ((go.trans go2).trans go3) j3 rv3
theorem xe_op {op : Operator} (hop : OpR X (binaryOp op) r) (ho : OpD G X.K r od) (ha : XE G X a ta) (hb : XE G X b tb) : XE G X (.BinOp a op b pos) (xBin ta tb od) :=
  ⟨bin_mo ha hb ho, (pe_op hop ha.pe hb.pe).imp (bin_to ha hb ho)⟩
theorem xe_cmp {op : CmpOp} (hop : OpR X (compareOp op) r) (ho : OpD G X.K r od) (ha : XE G X a ta) (hb : XE G X b tb) (hm : behindInMarks op b = false) : XE G X (.Compare a [op] [b] pos) (xBin ta tb od) :=
  ⟨bin_mo ha hb ho, (pe_cmpR hop ha.pe hb.pe hm).imp (bin_to ha hb ho)⟩
/-- a bool's value as a test -/
@[simp] def xTest (t : TX) : TC := fun E g Q => t E g fun d g' => ∃ b, d = .bool b ∧ Q b g'
theorem xTest_mo {t : TX} (h : ∀ E g Q Q', (∀ d g', Q d g' → Q' d g') → t E g Q → t E g Q') : ∀ E g Q Q', (∀ d g', Q d g' → Q' d g') → xTest t E g Q → xTest t E g Q' :=
  fun E g Q Q' hq q => h _ _ _ _ (fun d g' ⟨b, e, q⟩ => ⟨b, e, hq _ _ q⟩) q
theorem xTest_to {t : TX} {K : PySem.W.Frag} (h : ∀ E g Q Q', (∀ d g', Q d g' → Q' d g') → t E g Q → t E g Q') : ∀ σ H Q, liftC K G (xTest t) σ H Q → lift K G t σ H fun x H' => ∃ k, x = .bl k ∧ Q k H' := by
  intro σ H Q ⟨cl, E, g, as, j, rE, q⟩
  refine ⟨cl, E, g, as, j, rE, h _ _ _ _ (fun d g1 q1 u v go j1 rv => ?_) q⟩
  obtain ⟨b, rfl, q1⟩ := q1
  cases rv
  exact ⟨b, rfl, q1 u go j1⟩
theorem xc_cmp {op : CmpOp} (hop : OpR X (compareOp op) r) (ho : OpD G X.K r od) (ha : XE G X a ta) (hb : XE G X b tb) (hm : behindInMarks op b = false) : XC G X (.Compare a [op] [b] pos) (xTest (xBin ta tb od)) := by
  refine ⟨xTest_mo (bin_mo ha hb ho), (pt_cmpR hop ha.pe hb.pe hm).imp fun σ H Q q => ?_⟩
  exact bin_to ha hb ho _ _ _ (xTest_to (bin_mo ha hb ho) _ _ _ q)
/-- any expression whose value is a bool -/
theorem xc_val {e : Expr} {t : TX} (h : XE G X e t) (he : ∀ whole, isTrue e X.env whole = (do let v ← whole; standAt e.pos; holding [v] (truthy v)) := by intro _; rfl) : XC G X e (xTest t) :=
  ⟨xTest_mo h.mo, (pt_val h.pe he).imp fun σ H Q q => xTest_to h.mo _ _ _ q⟩
end
/-! ### and, or, not, if -/
structure XW (G : Ct) (X : Cx) (e : Expr) (t : TC) : Prop where
  mo : ∀ E g Q Q', (∀ d g', Q d g' → Q' d g') → t E g Q → t E g Q'
  pw : PW X e (liftC X.K G t)
theorem XW.c {e : Expr} {t : TC} (h : XW G X e t) : XC G X e t := ⟨h.mo, h.pw.pt⟩
theorem _root_.L2.PW.imp {e : Expr} {t t' : TT} (h : PW X e t) (w : ∀ σ H Q, t' σ H Q → t σ H Q) : PW X e t' := ⟨fun wh pins s σ H Q I q => h.run wh pins s σ H Q I (w σ H Q q)⟩
section
variable {a b c : Expr} {tA tB : TC} {ta tb : TX} {rest : List Expr} {pos : Pos}
@[simp] def xAnd (t u : TC) : TC := fun E g Q => t E g fun b g1 => if b = true then u E g1 Q else Q false g1
@[simp] def xOr (t u : TC) : TC := fun E g Q => t E g fun b g1 => if b = true then Q true g1 else u E g1 Q
@[simp] def xNot (t : TC) : TC := fun E g Q => t E g fun b g1 => Q (!b) g1
theorem xw_and1 (ha : XC G X a tA) : XW G X (.BoolOp .And [a] pos) tA := ⟨ha.mo, pw_and1 ha.pt⟩
theorem xw_or1 (ha : XC G X a tA) : XW G X (.BoolOp .Or [a] pos) tA := ⟨ha.mo, pw_or1 ha.pt⟩
theorem xw_and (ha : XC G X a tA) (hb : XW G X (.BoolOp .And (b :: rest) pos) tB) : XW G X (.BoolOp .And (a :: b :: rest) pos) (xAnd tA tB) := by
  refine ⟨fun E g Q Q' hq q => ha.mo _ _ _ _ (fun b g1 q1 => ?_) q, (pw_and ha.pt hb.pw).imp fun σ H Q ⟨cl, E, g, as, j, rE, q⟩ => ?_⟩
  · cases b with
    | true => exact hb.mo _ _ _ _ hq q1
    | false => exact hq _ _ q1
  · refine ⟨cl, E, g, as, j, rE, ha.mo _ _ _ _ (fun b g1 q1 u go j1 => ?_) q⟩
    cases b with
    | true => exact ⟨u.cl, E, g1, as, j1, rE.go go, hb.mo _ _ _ _ (fun b2 g2 q2 u2 go2 j2 => q2 u2 (go.trans go2) j2) q1⟩
    | false => exact q1 u go j1
theorem xw_or (ha : XC G X a tA) (hb : XW G X (.BoolOp .Or (b :: rest) pos) tB) : XW G X (.BoolOp .Or (a :: b :: rest) pos) (xOr tA tB) := by
  refine ⟨fun E g Q Q' hq q => ha.mo _ _ _ _ (fun b g1 q1 => ?_) q, (pw_or ha.pt hb.pw).imp fun σ H Q ⟨cl, E, g, as, j, rE, q⟩ => ?_⟩
  · cases b with
    | false => exact hb.mo _ _ _ _ hq q1
    | true => exact hq _ _ q1
  · refine ⟨cl, E, g, as, j, rE, ha.mo _ _ _ _ (fun b g1 q1 u go j1 => ?_) q⟩
    cases b with
    | false => exact ⟨u.cl, E, g1, as, j1, rE.go go, hb.mo _ _ _ _ (fun b2 g2 q2 u2 go2 j2 => q2 u2 (go.trans go2) j2) q1⟩
    | true => exact q1 u go j1
theorem xc_not (ha : XC G X a tA) : XC G X (.UnaryOp .Not a pos) (xNot tA) := by
  refine ⟨fun E g Q Q' hq q => ha.mo _ _ _ _ (fun b g1 q1 => hq _ _ q1) q, (pt_not ha.pt).imp fun σ H Q ⟨cl, E, g, as, j, rE, q⟩ => ?_⟩
  exact ⟨cl, E, g, as, j, rE, q⟩
/-- not, as a value -/
@[simp] def xNotV (t : TX) : TX := fun E g Q => xTest t E g fun b g1 => Q (.bool (!b)) g1
theorem xe_not (ha : XE G X a ta) : XE G X (.UnaryOp .Not a pos) (xNotV ta) := by
  refine ⟨fun E g Q Q' hq q => xTest_mo ha.mo _ _ _ _ (fun b g1 q1 => hq _ _ q1) q, (pe_not ha.pe).imp fun σ H Q ⟨cl, E, g, as, j, rE, q⟩ => ?_⟩
  refine xTest_to ha.mo σ H (fun k H' => Q (.bl (!k)) H') ⟨cl, E, g, as, j, rE, xTest_mo ha.mo _ _ _ _ (fun b g1 q1 u go j1 => ?_) q⟩
  exact q1 u _ go j1 (.bl _)
/-- and, or as values: all but the last are bools -/
@[simp] def xAndV (ta tb : TX) : TX := fun E g Q => xTest ta E g fun b g1 => if b = true then tb E g1 Q else Q (.bool false) g1
@[simp] def xOrV (ta tb : TX) : TX := fun E g Q => xTest ta E g fun b g1 => if b = true then Q (.bool true) g1 else tb E g1 Q
theorem xe_one {op} {a : Expr} {t : TX} (h : XE G X a t) : XE G X (.BoolOp op [a] pos) t := ⟨h.mo, pe_one h.pe⟩
theorem xe_and (ha : XE G X a ta) (hb : XE G X (.BoolOp .And (b :: rest) pos) tb) : XE G X (.BoolOp .And (a :: b :: rest) pos) (xAndV ta tb) := by
  refine ⟨fun E g Q Q' hq q => xTest_mo ha.mo _ _ _ _ (fun b g1 q1 => ?_) q, (pe_and ha.pe hb.pe).imp fun σ H Q ⟨cl, E, g, as, j, rE, q⟩ => ?_⟩
  · cases b with
    | true => exact hb.mo _ _ _ _ hq q1
    | false => exact hq _ _ q1
  · refine xTest_to ha.mo σ H (fun k H' => if k = true then lift X.K G tb σ H' Q else Q (.bl false) H') ⟨cl, E, g, as, j, rE, xTest_mo ha.mo _ _ _ _ (fun b g1 q1 u go j1 => ?_) q⟩
    cases b with
    | true => exact ⟨u.cl, E, g1, as, j1, rE.go go, hb.mo _ _ _ _ (fun b2 g2 q2 u2 v2 go2 j2 r2 => q2 u2 v2 (go.trans go2) j2 r2) q1⟩
    | false => exact q1 u _ go j1 (.bl _)
theorem xe_or (ha : XE G X a ta) (hb : XE G X (.BoolOp .Or (b :: rest) pos) tb) : XE G X (.BoolOp .Or (a :: b :: rest) pos) (xOrV ta tb) := by
  refine ⟨fun E g Q Q' hq q => xTest_mo ha.mo _ _ _ _ (fun b g1 q1 => ?_) q, (pe_or ha.pe hb.pe).imp fun σ H Q ⟨cl, E, g, as, j, rE, q⟩ => ?_⟩
  · cases b with
    | false => exact hb.mo _ _ _ _ hq q1
    | true => exact hq _ _ q1
  · refine xTest_to ha.mo σ H (fun k H' => if k = true then Q (.bl true) H' else lift X.K G tb σ H' Q) ⟨cl, E, g, as, j, rE, xTest_mo ha.mo _ _ _ _ (fun b g1 q1 u go j1 => ?_) q⟩
    cases b with
    | false => exact ⟨u.cl, E, g1, as, j1, rE.go go, hb.mo _ _ _ _ (fun b2 g2 q2 u2 v2 go2 j2 r2 => q2 u2 v2 (go.trans go2) j2 r2) q1⟩
    | true => exact q1 u _ go j1 (.bl _)
@[simp] def xIf (t : TC) (ta tb : TX) : TX := fun E g Q => t E g fun b g1 => if b = true then ta E g1 Q else tb E g1 Q
theorem xe_if (hc : XC G X c tA) (ha : XE G X a ta) (hb : XE G X b tb) : XE G X (.IfExp c a b pos) (xIf tA ta tb) := by
  refine ⟨fun E g Q Q' hq q => hc.mo _ _ _ _ (fun b g1 q1 => ?_) q, (pe_ifExp hc.pt ha.pe hb.pe).imp fun σ H Q ⟨cl, E, g, as, j, rE, q⟩ => ?_⟩
  · cases b with
    | true => exact ha.mo _ _ _ _ hq q1
    | false => exact hb.mo _ _ _ _ hq q1
  · refine ⟨cl, E, g, as, j, rE, hc.mo _ _ _ _ (fun b g1 q1 u go j1 => ?_) q⟩
    cases b with
    | true => exact ⟨u.cl, E, g1, as, j1, rE.go go, ha.mo _ _ _ _ (fun b2 g2 q2 u2 v2 go2 j2 r2 => q2 u2 v2 (go.trans go2) j2 r2) q1⟩
    | false => exact ⟨u.cl, E, g1, as, j1, rE.go go, hb.mo _ _ _ _ (fun b2 g2 q2 u2 v2 go2 j2 r2 => q2 u2 v2 (go.trans go2) j2 r2) q1⟩
end
end
end TL

namespace TL
open PySem PySem.Spec PyProof.Rows L2
section
variable {G : Ct} {X : Cx}
/-! ### blocks -/
section
variable {st : Stmt} {rest : List Stmt} {t u : TSt} {e : Expr} {te : TX} {pos : Pos}
theorem ktLe {k k' : Kt} (h : k.Le k') (f f' : List S → Nat → Prop) (hf : ∀ E g, f E g → f' E g) : Kt.Le { k with nx := f } { k' with nx := f' } := ⟨hf, h.rt, h.bk, h.ct⟩
@[simp] def xSeq (t u : TSt) : TSt := fun k E g => t { k with nx := u k } E g
@[simp] def xNext : TSt := fun k E g => k.nx E g
theorem xs_nil : XSs G X [] xNext := ⟨fun k k' E g h q => h.nx _ _ q, pss_nil.imp fun D σ H ⟨cl, E, g, as, j, go, r, q⟩ => q ⟨H, cl⟩ σ as j go (Pu.refl _) r⟩
theorem xs_one (h : XS G X st t) : XSs G X [st] t := ⟨h.mo, pss_one h.ps⟩
/-- the kont from a later world -/
theorem ktOf_le {K : PySem.W.Frag} {w u : Wd} {D : Ends} (p : Pu w u) : (ktOf K G w D).Le (ktOf K G u D) :=
  ⟨fun E g q x σ as j go pp r => q x σ as j go (p.trans pp) r, fun d g q => q, fun E g q x σ as j go pp r => q x σ as j go (p.trans pp) r, fun E g q x σ as j go pp r => q x σ as j go (p.trans pp) r⟩
theorem xs_cons (h1 : XS G X st t) (h2 : XSs G X rest u) : XSs G X (st :: rest) (xSeq t u) := by
  refine ⟨fun k k' E g h q => h1.mo _ _ _ _ (ktLe h _ _ fun E g q2 => h2.mo _ _ _ _ h q2) q, (pss_cons h1.ps h2.ps).imp fun D σ H ⟨cl, E, g, as, j, go, r, q⟩ => ?_⟩
  refine ⟨cl, E, g, as, j, go, r, h1.mo { ktOf X.K G ⟨H, cl⟩ D with nx := u (ktOf X.K G ⟨H, cl⟩ D) } _ _ _ ⟨fun E1 g1 q1 x σ1 as1 j1 go1 p1 r1 => ?_, fun d g1 q1 => q1, fun E1 g1 q1 => q1, fun E1 g1 q1 => q1⟩ q⟩
  exact ⟨x.cl, E1, g1, as1, j1, go1, r1, h2.mo _ _ _ _ (ktOf_le p1) q1⟩
theorem xs_pass : XS G X (.Pass pos) xNext := ⟨fun k k' E g h q => h.nx _ _ q, ps_pass.imp fun D σ H ⟨cl, E, g, as, j, go, r, q⟩ => q ⟨H, cl⟩ σ as j go (Pu.refl _) r⟩
@[simp] def xBreak : TSt := fun k E g => k.bk E g
@[simp] def xCont : TSt := fun k E g => k.ct E g
theorem xs_break : XS G X (.Break pos) xBreak := ⟨fun k k' E g h q => h.bk _ _ q, ps_break.imp fun D σ H ⟨cl, E, g, as, j, go, r, q⟩ => q ⟨H, cl⟩ σ as j go (Pu.refl _) r⟩
theorem xs_continue : XS G X (.Continue pos) xCont := ⟨fun k k' E g h q => h.ct _ _ q, ps_continue.imp fun D σ H ⟨cl, E, g, as, j, go, r, q⟩ => q ⟨H, cl⟩ σ as j go (Pu.refl _) r⟩
@[simp] def xRet (te : TX) : TSt := fun k E g => te E g k.rt
theorem xs_ret (he : XE G X e te) : XS G X (.Return (some e) pos) (xRet te) := by
  refine ⟨fun k k' E g h q => he.mo _ _ _ _ h.rt q, (ps_ret he.pe).imp fun D σ H ⟨cl, E, g, as, j, go, r, q⟩ => ?_⟩
  exact ⟨cl, E, g, as, j, r, he.mo _ _ _ _ (fun d g1 q1 u v go1 j1 rv => q1 u v j1 (go.trans go1) rv) q⟩
@[simp] def xRetN : TSt := fun k _ g => k.rt .none g
theorem xs_retN : XS G X (.Return none pos) xRetN := ⟨fun k k' E g h q => h.rt _ _ q, ps_retN.imp fun D σ H ⟨cl, E, g, as, j, go, r, q⟩ => q ⟨H, cl⟩ _ j go .non⟩
@[simp] def xDrop (te : TX) : TSt := fun k E g => te E g fun _ g1 => k.nx E g1
theorem xs_expr (he : XE G X e te) (hs : swapsWith e none pos.line X.env = pure false := by rfl) : XS G X (.Expr e pos) (xDrop te) := by
  refine ⟨fun k k' E g h q => he.mo _ _ _ _ (fun d g1 q1 => h.nx _ _ q1) q, (ps_expr he.pe hs).imp fun D σ H ⟨cl, E, g, as, j, go, r, q⟩ => ?_⟩
  exact ⟨cl, E, g, as, j, r, he.mo _ _ _ _ (fun d g1 q1 u v go1 j1 rv => q1 u σ as j1 (go.trans go1) go1.pu (r.go go1)) q⟩
@[simp] def xIfS (c : TC) (t u : TSt) : TSt := fun k E g => c E g fun b g1 => if b = true then t k E g1 else u k E g1
theorem xs_if {c : Expr} {a b : List Stmt} {tc : TC} (hc : XC G X c tc) (ha : XSs G X a t) (hb : XSs G X b u) : XS G X (.If c a b pos) (xIfS tc t u) := by
  refine ⟨fun k k' E g h q => hc.mo _ _ _ _ (fun b g1 q1 => ?_) q, (ps_if hc.pt ha.ps hb.ps).imp fun D σ H ⟨cl, E, g, as, j, go, r, q⟩ => ?_⟩
  · cases b with
    | true => exact ha.mo _ _ _ _ h q1
    | false => exact hb.mo _ _ _ _ h q1
  · refine ⟨cl, E, g, as, j, r, hc.mo _ _ _ _ (fun b g1 q1 u go1 j1 => ?_) q⟩
    cases b with
    | true => exact ⟨u.cl, E, g1, as, j1, go.trans go1, r.go go1, ha.mo _ _ _ _ (ktOf_le go1.pu) q1⟩
    | false => exact ⟨u.cl, E, g1, as, j1, go.trans go1, r.go go1, hb.mo _ _ _ _ (ktOf_le go1.pu) q1⟩
@[simp] def xNever : TSt := fun _ _ _ => False
theorem xs_never : XS G X st xNever := ⟨fun _ _ _ _ _ h => h, ps_never.imp fun D σ H ⟨cl, E, g, as, j, go, r, q⟩ => q⟩
theorem xss_never {sts : List Stmt} : XSs G X sts xNever := ⟨fun _ _ _ _ _ h => h, pss_never.imp fun D σ H ⟨cl, E, g, as, j, go, r, q⟩ => q⟩
theorem xs_doc {x j pos pos'} : XS G X (.Expr (.Constant (.str x) j pos) pos') xNext := ⟨fun k k' E g h q => h.nx _ _ q, ps_doc.imp fun D σ H ⟨cl, E, g, as, j, go, r, q⟩ => q ⟨H, cl⟩ σ as j go (Pu.refl _) r⟩
end
/-! ### targets -/
/-- v stands for the data d, or is a tuple that does (b: it may be any) -/
def Rw (K : PySem.W.Frag) (w : Wd) (b : Bool) (v : V) (d : PyData) : Prop := Rv K w v d ∨ (b = true ∧ ∃ a xs ds, v = .ref a ∧ d = .tuple ds ∧ SqT K w.H a xs ∧ RvL K w xs ds)
theorem Rw.of {K : PySem.W.Frag} {w : Wd} {b : Bool} {v : V} {d : PyData} (h : Rv K w v d) : Rw K w b v d := .inl h
theorem Rw.rv {K : PySem.W.Frag} {w : Wd} {v : V} {d : PyData} (h : Rw K w false v d) : Rv K w v d := by
  rcases h with h | ⟨h, _⟩
  · exact h
  · cases h
abbrev TT' := PyData → List S → Nat → (List S → Prop) → Prop
abbrev TTs := List PyData → List S → Nat → (List S → Prop) → Prop
/-- only the slots sl were changed -/
structure Tch (sl : List Nat) (σ σ' : L2.St) : Prop where
  len : σ'.length = σ.length
  out : ∀ j, j ∉ sl → σ'[j]? = σ[j]?
theorem Tch.refl {sl : List Nat} (σ : L2.St) : Tch sl σ σ := ⟨rfl, fun _ _ => rfl⟩
theorem Tch.one {i : Nat} {σ : L2.St} {x : Option V} : Tch [i] σ (σ.set i x) := ⟨by simp, fun j hj => by
  have ne : i ≠ j := fun e => hj (by simp [e])
  rw [List.getElem?_set_ne ne]⟩
theorem Tch.trans {a b : List Nat} {σ σ1 σ2 : L2.St} (h : Tch a σ σ1) (k : Tch b σ1 σ2) : Tch (a ++ b) σ σ2 := ⟨k.len.trans h.len, fun j hj => by
  rw [List.mem_append, not_or] at hj
  rw [k.out j hj.2, h.out j hj.1]⟩
theorem Tch.sub {a b : List Nat} {σ σ1 : L2.St} (h : Tch a σ σ1) (s : ∀ i ∈ a, i ∈ b) : Tch b σ σ1 := ⟨h.len, fun j hj => h.out j fun z => hj (s j z)⟩
/-- a target that takes data into names -/
structure XG (G : Ct) (X : Cx) (b : Bool) (tg : Expr) (t : TT') (sl : List Nat) : Prop where
  mo : ∀ d E g Q Q', (∀ E', Q E' → Q' E') → t d E g Q → t d E g Q'
  pg : ∃ tt : TG, PG X tg tt ∧ ∀ (w : Wd) (g : Nat) (x : V) (d : PyData) (σ : L2.St) (E : List S) (as : List Addr) (Q : L2.St → Hp → Prop), G.J g w → EnvR X.K G w E σ as → Rw X.K w b x d →
    (t d E g fun E' => ∀ σ' bs, (∀ a ∈ bs, a ∈ as) → Tch sl σ σ' → EnvR X.K G w E' σ' bs → Q σ' w.H) → tt x σ w.H Q
structure XGs (G : Ct) (X : Cx) (tgs : List Expr) (t : TTs) (sl : List Nat) : Prop where
  mo : ∀ d E g Q Q', (∀ E', Q E' → Q' E') → t d E g Q → t d E g Q'
  pg : ∃ tt : TGs, PGs X tgs tt ∧ ∀ (w : Wd) (g : Nat) (xs : List V) (ds : List PyData) (σ : L2.St) (E : List S) (as : List Addr) (Q : L2.St → Hp → Prop), G.J g w → EnvR X.K G w E σ as → RvL X.K w xs ds →
    (t ds E g fun E' => ∀ σ' bs, (∀ a ∈ bs, a ∈ as) → Tch sl σ σ' → EnvR X.K G w E' σ' bs → Q σ' w.H) → tt xs σ w.H Q
@[simp] def yName (i : Nat) : TT' := fun d E _ Q => Q (E.set i (.v d))
theorem xg_name (i : Nat) {x : Str} {pos : Pos} (h : PG X (.Name x pos) (gName i)) : XG G X false (.Name x pos) (yName i) [i] := by
  refine ⟨fun d E g Q Q' hq q => hq _ q, gName i, h, fun w g x d σ E as Q j r rv q => ?_⟩
  obtain ⟨bs, r1, hb⟩ := r.set i rv.rv
  exact q _ bs hb Tch.one r1
@[simp] def yNil : TTs := fun ds E _ Q => ds = [] ∧ Q E
@[simp] def yCons (t : TT') (u : TTs) : TTs := fun ds E g Q => ∃ d r, ds = d :: r ∧ t d E g fun E' => u r E' g Q
theorem xgs_nil : XGs G X [] yNil [] := by
  refine ⟨fun d E g Q Q' hq ⟨e, q⟩ => ⟨e, hq _ q⟩, gNil, pgs_nil, fun w g xs ds σ E as Q j r rv ⟨e, q⟩ => ?_⟩
  subst e
  cases rv
  exact ⟨rfl, q _ as (fun a h => h) (Tch.refl _) r⟩
theorem xgs_cons {e : Expr} {es : List Expr} {t : TT'} {u : TTs} {s1 s2 : List Nat} (h1 : XG G X false e t s1) (h2 : XGs G X es u s2)
    (hs : (assignEach (e :: es) X.env).map (·.2) = assign e X.env :: (assignEach es X.env).map (·.2) := by rfl) : XGs G X (e :: es) (yCons t u) (s1 ++ s2) := by
  obtain ⟨m1, t1, p1, q1⟩ := h1
  obtain ⟨m2, t2, p2, q2⟩ := h2
  refine ⟨fun ds E g Q Q' hq ⟨d, r, e, q⟩ => ⟨d, r, e, m1 _ _ _ _ _ (fun E' q => m2 _ _ _ _ _ hq q) q⟩, gCons t1 t2, pgs_cons p1 p2 hs, fun w g xs ds σ E as Q j r rv ⟨d, dr, e, q⟩ => ?_⟩
  subst e
  cases rv with
  | cons hv hr =>
    refine ⟨_, _, rfl, q1 w g _ _ σ E as _ j r (.of hv) (m1 _ _ _ _ _ (fun E' q' σ' bs hb tc r' => ?_) q)⟩
    refine q2 w g _ _ σ' E' bs _ j r' hr (m2 _ _ _ _ _ (fun E2 q2' σ2 cs hc tc2 r2 => ?_) q')
    exact q2' σ2 cs (fun a h => hb a (hc a h)) (tc.trans tc2) r2
/-- (a, b, ..) = a tuple -/
@[simp] def yTup (n : Nat) (t : TTs) : TT' := fun d E g Q => ∃ ds, d = .tuple ds ∧ ds.length = n ∧ t ds E g Q
theorem xg_tup {es : List Expr} {k : Nat} {t : TTs} {n : Nat} {pos : Pos} {sl : List Nat} {b : Bool} (hc : X.calm = true) (h : XGs G X es t sl)
    (hn : (assignEach es X.env).length = n := by rfl) (hst : (assignEach es X.env).findIdx? (·.1) = none := by rfl) : XG G X b (.Tuple es k pos) (yTup n t) sl := by
  obtain ⟨m, tt, p, q⟩ := h
  refine ⟨fun d E g Q Q' hq ⟨ds, e, l, q⟩ => ⟨ds, e, l, m _ _ _ _ _ hq q⟩, gTup X.K n tt, pg_tup hc p hn hst, fun w g x d σ E as Q j r rv ⟨ds, e, l, z⟩ => ?_⟩
  subst e
  rcases rv with rv | ⟨_, a, xs, ds', e1, e2, hT, hr⟩
  · cases rv with
    | tup hT hr => exact ⟨_, _, rfl, hT.sq, by rw [hr.len]; exact l, q w g _ _ σ E as Q j r hr z⟩
  · subst e1
    cases e2
    exact ⟨_, _, rfl, hT, by rw [hr.len]; exact l, q w g _ _ σ E as Q j r hr z⟩
@[simp] def xAsg (te : TX) (t : TT') : TSt := fun k E g => te E g fun d g1 => t d E g1 fun E' => k.nx E' g1
section
variable {e tg : Expr} {te : TX} {t : TT'} {pos : Pos} {sl : List Nat}
theorem xasg_mo {b : Bool} (he : XE G X e te) (hg : XG G X b tg t sl) : ∀ k k' E g, k.Le k' → xAsg te t k E g → xAsg te t k' E g :=
  fun k k' E g h q => he.mo _ _ _ _ (fun d g1 q1 => hg.mo _ _ _ _ _ (fun E' q2 => h.nx _ _ q2) q1) q
theorem xs_asg {b : Bool} (he : XE G X e te) (hg : XG G X b tg t sl) (hs : swapsWithSole [tg] e pos.line X.env = pure false := by rfl) (hw : swappedStores [tg] e X.env = pure none := by rfl)
    (h1 : (assignEach [tg] X.env).map (·.2) = [assign tg X.env] := by rfl) : XS G X (.Assign [tg] e pos) (xAsg te t) := by
  have hg' := hg
  obtain ⟨m, tt, p, q⟩ := hg
  refine ⟨xasg_mo he hg', (ps_asg he.pe p hs hw h1).imp fun D σ H ⟨cl, E, g, as, j, go, r, z⟩ => ?_⟩
  refine ⟨cl, E, g, as, j, r, he.mo _ _ _ _ (fun d g1 z1 u v go1 j1 rv => ?_) z⟩
  refine q u g1 v d σ E as _ j1 (r.go go1) (.of rv) (m _ _ _ _ _ (fun E' z2 σ' bs hb tc r2 => ?_) z1)
  exact z2 u σ' bs j1 (go.trans go1) go1.pu r2
theorem xs_set (i : Nat) {x : Str} {pos' : Pos} (he : XE G X e te) (h : ∀ te', PE X e te' → PS X (.Assign [.Name x pos'] e pos) (tAsg te' (gName i))) : XS G X (.Assign [.Name x pos'] e pos) (xAsg te (yName i)) := by
  refine ⟨fun k k' E g h q => he.mo _ _ _ _ (fun d g1 q1 => h.nx _ _ q1) q, (h _ he.pe).imp fun D σ H ⟨cl, E, g, as, j, go, r, z⟩ => ?_⟩
  refine ⟨cl, E, g, as, j, r, he.mo _ _ _ _ (fun d g1 z1 u v go1 j1 rv => ?_) z⟩
  obtain ⟨bs, r1, hb⟩ := (r.go go1).set i rv
  exact z1 u _ bs j1 (go.trans go1) go1.pu r1
end
/-! ### argument lists, displays -/
@[simp] def xaNil : TL' := fun _ g Q => Q [] g
@[simp] def xaCons (t : TX) (u : TL') : TL' := fun E g Q => t E g fun d g1 => u E g1 fun ds g2 => Q (.v d :: ds) g2
@[simp] def xaTok (i : Nat) (u : TL') : TL' := fun E g Q => E[i]? = some .tok ∧ u E g fun ds g2 => Q (.tok :: ds) g2
section
variable {e : Expr} {es : List Expr} {te : TX} {t : TL'} {pos : Pos}
theorem RvA.go {K : PySem.W.Frag} {w u : Wd} {vs : List V} {ds : List S} (h : RvA K G.am w vs ds) (g : Go w u) : RvA K G.am u vs ds := by
  induction h with
  | nil => exact .nil
  | v h _ ih => exact .v (h.go g) ih
  | tok _ ih => exact .tok ih
theorem xa_nil : XA G X [] xaNil := ⟨fun E g Q Q' hq q => hq _ _ q, pa_nil.imp fun σ H Q ⟨cl, E, g, as, j, r, q⟩ => q ⟨H, cl⟩ [] (Go.refl _) j .nil⟩
theorem xa_cons (he : XE G X e te) (hr : XA G X es t) (hs : starEach (e :: es) X.env = (false, eval e X.env) :: starEach es X.env := by rfl) : XA G X (e :: es) (xaCons te t) := by
  refine ⟨fun E g Q Q' hq q => he.mo _ _ _ _ (fun d g1 q1 => hr.mo _ _ _ _ (fun ds g2 q2 => hq _ _ q2) q1) q, (pa_cons he.pe hr.pa hs).imp fun σ H Q ⟨cl, E, g, as, j, r, q⟩ => ?_⟩
  refine ⟨cl, E, g, as, j, r, he.mo _ _ _ _ (fun d g1 q1 u v go1 j1 rv => ?_) q⟩
  refine ⟨u.cl, E, g1, as, j1, r.go go1, hr.mo _ _ _ _ (fun ds g2 q2 u2 vs go2 j2 rs => ?_) q1⟩
  exact q2 u2 (v :: vs) (go1.trans go2) j2 (.v (rv.go go2) rs)
theorem xa_tok (i : Nat) {x : Str} {p : Pos} (he : PE X (.Name x p) (tVar i)) (hr : XA G X es t) (hs : starEach (.Name x p :: es) X.env = (false, eval (.Name x p) X.env) :: starEach es X.env := by rfl) : XA G X (.Name x p :: es) (xaTok i t) := by
  refine ⟨fun E g Q Q' hq ⟨e, q⟩ => ⟨e, hr.mo _ _ _ _ (fun ds g2 q2 => hq _ _ q2) q⟩, (pa_cons he hr.pa hs).imp fun σ H Q ⟨cl, E, g, as, j, r, e, q⟩ => ?_⟩
  refine ⟨_, r.getTok e, cl, E, g, as, j, r, hr.mo _ _ _ _ (fun ds g2 q2 u2 vs go2 j2 rs => ?_) q⟩
  exact q2 u2 _ go2 j2 (.tok rs)
@[simp] def dsOf : List S → Option (List PyData)
  | [] => some []
  | .v d :: r => (dsOf r).map (d :: ·)
  | _ :: _ => none
theorem RvA.ds {K : PySem.W.Frag} {w : Wd} {vs : List V} {ds : List S} (h : RvA K G.am w vs ds) : ∀ {l : List PyData}, dsOf ds = some l → RvL K w vs l := by
  induction h with
  | nil => intro l e; cases e; exact .nil
  | @v x d vs ds h t ih =>
    intro l e
    have e' : (dsOf ds).map (d :: ·) = some l := e
    cases q : dsOf ds with
    | none => rw [q] at e'; cases e'
    | some r =>
      rw [q] at e'
      cases e'
      exact .cons h (ih q)
  | tok t ih => intro l e; cases e
@[simp] def xTup (t : TL') : TX := fun E g Q => t E g fun ss g1 => ∃ ds, dsOf ss = some ds ∧ ds.length ≤ sizeLine ∧ Q (.tuple ds) g1
@[simp] def xLst (t : TL') : TX := fun E g Q => t E g fun ss g1 => ∃ ds, dsOf ss = some ds ∧ ds.length ≤ sizeLine ∧ Q (.list ds) g1
theorem new_tup {K : PySem.W.Frag} {w : Wd} {p : Addr} {xs : List V} {ds : List PyData} {o : Obj} (n : w.H p = none) (d : o.dict = none) (r : RvL K w xs ds) : Rv K (w.new p (tupO o xs) 0) (.ref p) (.tuple ds) :=
  .tup (.inl ⟨o, upd_same, d, if_pos rfl⟩) (r.go (Go.new' n 0))
theorem tupO_ok {P : Program} {w : World} {H : Hp} {h : Heap} {a : Addr} {o : Obj} {xs : List V} (e : h.get? a = some o) (k : ObjOk P w H h a (.tup xs)) : ObjOk P w H h a (tupO o xs) := by
  unfold tupO
  split
  · exact k
  · exact ⟨e, k⟩
theorem laid_tup {X : Cx} {pins : List (Addr × Obj)} {σ : L2.St} {H : Hp} {s : Shared} {xs : List V} {us : List Value} (I : Inv X pins σ H s) (r : Vals xs us) (z : xs.length ≤ sizeLine) :
    Inv X pins σ (upd H s.heap.objs.size (tupO { cls := .type "tuple", data := .seq us.toArray } xs)) { s with heap := s.heap.push { cls := .type "tuple", data := .seq us.toArray } } :=
  I.laid (t' := s.toks) (fun b u e => Heap.get?_push_of_some _ e) (Nat.le_refl _) (tupO_ok (Heap.get?_push_size _ rfl) ⟨z, us, r, ⟨_, Heap.get?_push_size _ rfl, rfl, _, rfl⟩⟩)
/-- (a, b, ..), told so -/
def tTupF (t : TA) : TE := fun σ H Q => t σ H fun xs H1 => xs.length ≤ sizeLine ∧ ∀ p o, H1 p = none → o.dict = none → Q (.ref p) (upd H1 p (tupO o xs))
theorem pe_tupF {X : Cx} {es : List Expr} {t : TA} {x1} {pos : Pos} (h : PA X es t) : PE X (.Tuple es x1 pos) (tTupF t) := by
  refine ⟨fun pins s σ H Q I hq => wpAny_Tuple_spliced (thn (h.run pos pins s σ H _ I hq) fun us s1 ⟨xs, H1, I1, r, z, q⟩ => ⟨by rw [← r.length]; exact z, ?_⟩)⟩
  exact ⟨.ref s1.heap.objs.size, _, laid_tup I1 r z, rfl, q _ { cls := .type "tuple", data := .seq us.toArray } (I1.hok.fresh (Nat.le_refl _)) rfl⟩
theorem new_lst {K : PySem.W.Frag} {w : Wd} {p : Addr} {xs : List V} {ds : List PyData} (n : w.H p = none) (r : RvL K w xs ds) : Rv K (w.new p (.lst xs) 0) (.ref p) (.list ds) :=
  .lst (.inl ⟨.inl upd_same, if_pos rfl⟩) (r.go (Go.new' n 0))
theorem xe_tup {x1} (h : XA G X es t) : XE G X (.Tuple es x1 pos) (xTup t) := by
  refine ⟨fun E g Q Q' hq q => h.mo _ _ _ _ (fun ss g1 ⟨ds, e, l, q⟩ => ⟨ds, e, l, hq _ _ q⟩) q, (pe_tupF h.pa).imp fun σ H Q ⟨cl, E, g, as, j, r, q⟩ => ?_⟩
  refine ⟨cl, E, g, as, j, r, h.mo _ _ _ _ (fun ss g1 ⟨ds, e, l, q1⟩ u vs go1 j1 rs => ?_) q⟩
  have rl := rs.ds e
  refine ⟨by rw [rl.len]; exact l, fun p o np hd => ?_⟩
  exact q1 (u.new p (tupO o vs) 0) _ (go1.trans (Go.new' np 0)) (G.st0 (Go0.new np 0) j1) (new_tup np hd rl)
theorem xe_lst (h : XA G X es t) : XE G X (.List es pos) (xLst t) := by
  refine ⟨fun E g Q Q' hq q => h.mo _ _ _ _ (fun ss g1 ⟨ds, e, l, q⟩ => ⟨ds, e, l, hq _ _ q⟩) q, (pe_lst h.pa).imp fun σ H Q ⟨cl, E, g, as, j, r, q⟩ => ?_⟩
  refine ⟨cl, E, g, as, j, r, h.mo _ _ _ _ (fun ss g1 ⟨ds, e, l, q1⟩ u vs go1 j1 rs => ?_) q⟩
  have rl := rs.ds e
  refine ⟨by rw [rl.len]; exact l, fun p np => ?_⟩
  exact q1 (u.new p (.lst vs) 0) _ (go1.trans (Go.new' np 0)) (G.st0 (Go0.new np 0) j1) (new_lst np rl)
end
end
/-! ### a def's promise, by data -/
abbrev PT' := List S → Nat → (PyData → Nat → Prop) → Prop
/-- J, am of a context, whatever its entry -/
def spD (K : PySem.W.Frag) (am : Addr) (J : Nat → Wd → Prop) (n : Nat) (pt : PT') : Sp := fun vs H Q _ => ∃ cl g ss, vs.length = n ∧ J g ⟨H, cl⟩ ∧ RvA K am ⟨H, cl⟩ vs ss ∧ pt ss g fun d g' => ∀ u v, Go ⟨H, cl⟩ u → J g' u → Rv K u v d → Q v u.H
/-- the context with another entry -/
abbrev Ct.at (G : Ct) (w : Wd) : Ct := ⟨G.am, G.J, G.st, w⟩
section
variable {G : Ct} {X : Cx} {CX : CXT} {k : Nat} {f : Addr} {fd : FuncData} {ps : List Str} {x : Str} {p pos : Pos} {e : Expr} {es : List Expr} {t : TL'} {n : Nat} {pt : PT'}
@[simp] def xCall (t : TL') (pt : PT') : TX := fun E g Q => t E g fun ss g1 => pt ss g1 Q
theorem RvA.len {K : PySem.W.Frag} {w : Wd} {vs : List V} {ds : List S} (h : RvA K G.am w vs ds) : vs.length = ds.length := by
  induction h with
  | nil => rfl
  | v _ _ ih => simp [ih]
  | tok _ ih => simp [ih]
/-- f(e, ..) of a def that raises nothing -/
theorem xe_call (F : FnOk X.prog X.w X.K X.mg X.base CX0 k f fd ps (spD X.K G.am G.J n pt)) (mo : ∀ ss g Q Q', (∀ d g', Q d g' → Q' d g') → pt ss g Q → pt ss g Q') (hr : Room k X.A) (hg : Gl X x) (hm : X.mg x = some (.ref f)) (hk : PySem.W.keepIn X.K (.ref f) = true) (hb : Binds X.K fd ps [])
    (ha : XA G X (e :: es) t) (hl : ∀ E g Q, t E g Q → t E g fun ss g' => ss.length = n ∧ Q ss g') (hdb : (x == ("__debug__" : Str)) = false := by decide) (he : starEach (e :: es) X.env = (false, eval e X.env) :: starEach es X.env := by rfl) (hpl : (backTo pos (starEach es X.env)).any (·.1) = false := by rfl) :
    XE G X (.Call (.Name x p) (e :: es) [] pos) (xCall t pt) := by
  refine ⟨fun E g Q Q' hq q => ha.mo _ _ _ _ (fun ss g1 q1 => mo _ _ _ _ hq q1) q, (pe_call (dvs := []) F hr hg hm hk hb .nil pass0 ha.pa hdb he hpl).imp fun σ H Q ⟨cl, E, g, as, j, r, q⟩ => ?_⟩
  refine ⟨cl, E, g, as, j, r, ha.mo _ _ _ _ (fun ss g1 ⟨l, q1⟩ u vs go1 j1 rs => ?_) (hl _ _ _ q)⟩
  show spD X.K G.am G.J n pt (vs ++ []) u.H Q E0
  rw [List.append_nil]
  refine ⟨u.cl, g1, ss, by rw [rs.len]; exact l, j1, rs, mo _ _ _ _ (fun d g2 q2 u2 v2 go2 j2 r2 => ?_) q1⟩
  exact q2 u2 v2 (go1.trans go2) j2 r2
theorem xe_call0 (F : FnOk X.prog X.w X.K X.mg X.base CX0 k f fd ps (spD X.K G.am G.J 0 pt)) (mo : ∀ ss g Q Q', (∀ d g', Q d g' → Q' d g') → pt ss g Q → pt ss g Q') (hr : Room k X.A) (hg : Gl X x) (hm : X.mg x = some (.ref f)) (hk : PySem.W.keepIn X.K (.ref f) = true) (hb : Binds X.K fd ps [])
    (hdb : (x == ("__debug__" : Str)) = false := by decide) : XE G X (.Call (.Name x p) [] [] pos) (fun E g Q => pt [] g Q) := by
  refine ⟨fun E g Q Q' hq q => mo _ _ _ _ hq q, (pe_call0 (dvs := []) F hr hg hm hk hb .nil pass0 hdb).imp fun σ H Q ⟨cl, E, g, as, j, r, q⟩ => ?_⟩
  exact ⟨cl, g, [], rfl, j, .nil, q⟩
theorem al_nil : ∀ E g Q, xaNil E g Q → xaNil E g fun ss g' => ss.length = 0 ∧ Q ss g' := fun E g Q q => ⟨rfl, q⟩
theorem al_cons {te : TX} {t : TL'} {n : Nat} (mo : ∀ E g Q Q', (∀ d g', Q d g' → Q' d g') → te E g Q → te E g Q') (h : ∀ E g Q, t E g Q → t E g fun ss g' => ss.length = n ∧ Q ss g') (mt : ∀ E g Q Q', (∀ d g', Q d g' → Q' d g') → t E g Q → t E g Q') : ∀ E g Q, xaCons te t E g Q → xaCons te t E g fun ss g' => ss.length = n + 1 ∧ Q ss g' :=
  fun E g Q q => mo _ _ _ _ (fun d g1 q1 => mt _ _ _ _ (fun ss g2 ⟨l, q2⟩ => ⟨by simp [l], q2⟩) (h _ _ _ q1)) q
theorem al_tok {i : Nat} {t : TL'} {n : Nat} (h : ∀ E g Q, t E g Q → t E g fun ss g' => ss.length = n ∧ Q ss g') (mt : ∀ E g Q Q', (∀ d g', Q d g' → Q' d g') → t E g Q → t E g Q') : ∀ E g Q, xaTok i t E g Q → xaTok i t E g fun ss g' => ss.length = n + 1 ∧ Q ss g' :=
  fun E g Q ⟨e, q⟩ => ⟨e, mt _ _ _ _ (fun ss g2 ⟨l, q2⟩ => ⟨by simp [l], q2⟩) (h _ _ _ q)⟩
end
end TL

namespace TL
open PySem PySem.Spec PyProof.Rows L2

/-! ### what is walked -/
structure Wk (K : PySem.W.Frag) (b : Bool) (j : It) (ds : List PyData) (P : Wd → Prop) : Prop where
  pu : ∀ w u, P w → Pu w u → P u
  go : ∀ i w, P w → i < ds.length → j.go i w.H
  stop : ∀ i w, P w → ds.length ≤ i → j.stop i w.H
  yld : ∀ i w x H' d, P w → ds[i]? = some d → j.yld i w.H x H' → ∃ u : Wd, u.H = H' ∧ Go0 w u ∧ Rw K u b x d
abbrev TWk := List S → Nat → (List PyData → Nat → Prop) → Prop
def liftI (K : PySem.W.Frag) (G : Ct) (b : Bool) (t : TWk) : TI := fun σ H R => ∃ cl E g as, G.J g ⟨H, cl⟩ ∧ EnvR K G ⟨H, cl⟩ E σ as ∧ t E g fun ds g' => ∀ u j P, Go ⟨H, cl⟩ u → G.J g' u → Wk K b j ds P → P u → R j u.H
structure XI (G : Ct) (X : Cx) (b : Bool) (tg it : Expr) (t : TWk) : Prop where
  mo : ∀ E g Q Q', (∀ d g', Q d g' → Q' d g') → t E g Q → t E g Q'
  pi : PI X tg it (liftI X.K G b t)
theorem _root_.L2.PI.imp {X : Cx} {tg e : Expr} {t t' : TI} (h : PI X tg e t) (w : ∀ σ H Q, t' σ H Q → t σ H Q) : PI X tg e t' := ⟨fun pins s σ H Q I q => h.run pins s σ H Q I (w σ H Q q)⟩

section
variable {K : PySem.W.Frag}
theorem wk_list {a : Addr} {xs : List V} {ds : List PyData} {w : Wd} : Wk K false (Itl K a) ds fun w => LstA K w a xs ∧ RvL K w xs ds where
  pu := fun w u h p => ⟨h.1.pu p, h.2.pu p⟩
  go := fun i w h l => by
    have l' : i < xs.length := by rw [h.2.len]; exact l
    exact ⟨xs, xs[i], h.1.sq, List.getElem?_eq_getElem l'⟩
  stop := fun i w h l => ⟨xs, h.1.sq, by rw [h.2.len]; exact l⟩
  yld := fun i w x H' d h e y => by
    obtain ⟨e1, y⟩ := y
    obtain ⟨v, e2, rv⟩ := h.2.get e
    have e3 := y xs h.1.sq
    rw [e2] at e3
    cases e3
    exact ⟨w, e1.symm, Go0.refl w, .of rv⟩
theorem wk_tup {a : Addr} {xs : List V} {ds : List PyData} {w : Wd} : Wk K false (Itt K a) ds fun w => TupA K w a xs ∧ RvL K w xs ds where
  pu := fun w u h p => ⟨h.1.pu p, h.2.pu p⟩
  go := fun i w h l => by
    have l' : i < xs.length := by rw [h.2.len]; exact l
    exact ⟨xs, xs[i], h.1.sq, List.getElem?_eq_getElem l'⟩
  stop := fun i w h l => ⟨xs, h.1.sq, by rw [h.2.len]; exact l⟩
  yld := fun i w x H' d h e y => by
    obtain ⟨e1, y⟩ := y
    obtain ⟨v, e2, rv⟩ := h.2.get e
    have e3 := y xs h.1.sq
    rw [e2] at e3
    cases e3
    exact ⟨w, e1.symm, Go0.refl w, .of rv⟩
def rangeD (lo : Int) (n : Nat) : List PyData := (List.range n).map fun (i : Nat) => PyData.int (lo + (i : Int))
theorem wk_rng {lo : Int} {n : Nat} : Wk K false (Itr lo n) (rangeD lo n) fun _ => True where
  pu := fun w u h p => h
  go := fun i w h l => by
    show i < n
    simpa [rangeD] using l
  stop := fun i w h l => by
    show n ≤ i
    simpa [rangeD] using l
  yld := fun i w x H' d h e y => by
    obtain ⟨e1, e2⟩ := y
    subst e2
    refine ⟨w, e1.symm, Go0.refl w, .of ?_⟩
    have l : i < n := by
      have := (List.getElem?_eq_some_iff.mp e).1
      simpa [rangeD] using this
    have e' : (rangeD lo n)[i]? = some (.int (lo + i)) := by simp [rangeD, l]
    rw [e] at e'
    cases e'
    exact .int _
/-- pairs of items -/
@[simp] def zipD : List PyData → List PyData → List PyData
  | x :: r, y :: s => .tuple [x, y] :: zipD r s
  | _, _ => []
theorem zipD_len : ∀ a b : List PyData, (zipD a b).length = min a.length b.length
  | [], _ => by simp [zipD]
  | _ :: _, [] => by simp [zipD]
  | x :: r, y :: s => by
    show (zipD r s).length + 1 = min (r.length + 1) (s.length + 1)
    rw [zipD_len r s]; omega
theorem zipD_get : ∀ (a b : List PyData) (i : Nat) (d : PyData), (zipD a b)[i]? = some d → ∃ x y, a[i]? = some x ∧ b[i]? = some y ∧ d = .tuple [x, y]
  | [], _, _, _, h => by simp [zipD] at h
  | _ :: _, [], _, _, h => by simp [zipD] at h
  | x :: r, y :: s, 0, d, h => ⟨x, y, rfl, rfl, (Option.some.inj h).symm⟩
  | x :: r, y :: s, i + 1, d, h => by
    obtain ⟨p, q, h1, h2, h3⟩ := zipD_get r s i d h
    exact ⟨p, q, h1, h2, h3⟩
end
section
variable {G : Ct} {X : Cx} {tg e : Expr} {te : TX} {t : TL'} {p pos : Pos}
@[simp] def xiList (te : TX) : TWk := fun E g Q => te E g fun d g' => ∃ ds, d = .list ds ∧ Q ds g'
@[simp] def xiTup (te : TX) : TWk := fun E g Q => te E g fun d g' => ∃ ds, d = .tuple ds ∧ Q ds g'
theorem xi_list (h : XE G X e te) : XI G X false tg e (xiList te) := by
  refine ⟨fun E g Q Q' hq q => h.mo _ _ _ _ (fun d g1 ⟨ds, e, q⟩ => ⟨ds, e, hq _ _ q⟩) q, (pi_list h.pe).imp fun σ H R ⟨cl, E, g, as, j, r, q⟩ => ?_⟩
  refine ⟨cl, E, g, as, j, r, h.mo _ _ _ _ (fun d g1 ⟨ds, e, q1⟩ u v go1 j1 rv => ?_) q⟩
  subst e
  cases rv with
  | lst hl hr => exact ⟨_, rfl, ⟨_, hl.sq⟩, q1 u _ _ go1 j1 (wk_list (w := u)) ⟨hl, hr⟩⟩
theorem xi_tup (h : XE G X e te) : XI G X false tg e (xiTup te) := by
  refine ⟨fun E g Q Q' hq q => h.mo _ _ _ _ (fun d g1 ⟨ds, e, q⟩ => ⟨ds, e, hq _ _ q⟩) q, (pi_tup h.pe).imp fun σ H R ⟨cl, E, g, as, j, r, q⟩ => ?_⟩
  refine ⟨cl, E, g, as, j, r, h.mo _ _ _ _ (fun d g1 ⟨ds, e, q1⟩ u v go1 j1 rv => ?_) q⟩
  subst e
  cases rv with
  | tup hl hr => exact ⟨_, rfl, ⟨_, hl.sq⟩, q1 u _ _ go1 j1 (wk_tup (w := u)) ⟨hl, hr⟩⟩
theorem RvA.int1 {K : PySem.W.Frag} {am : Addr} {u : Wd} {vs : List V} {i : Int} (h : RvA K am u vs [.v (.int i)]) : vs = [.int i] := by
  cases h with
  | v h t => cases h; cases t; rfl
theorem RvA.int2 {K : PySem.W.Frag} {am : Addr} {u : Wd} {vs : List V} {i j : Int} (h : RvA K am u vs [.v (.int i), .v (.int j)]) : vs = [.int i, .int j] := by
  cases h with
  | v h t => cases h; rw [RvA.int1 t]
@[simp] def xiRng1 (t : TL') : TWk := fun E g Q => t E g fun ss g' => ∃ j : Int, ss = [.v (.int j)] ∧ j < 2 ^ 62 ∧ -(2 ^ 62) ≤ j ∧ Q (rangeD 0 j.toNat) g'
@[simp] def xiRng2 (t : TL') : TWk := fun E g Q => t E g fun ss g' => ∃ i j : Int, ss = [.v (.int i), .v (.int j)] ∧ (-(2 ^ 62) ≤ i ∧ i < 2 ^ 62 ∧ -(2 ^ 62) ≤ j ∧ j < 2 ^ 62) ∧ Q (rangeD i (j - i).toNat) g'
theorem xi_rng1 {a : Expr} (hg : Gl X "range") (hm : X.mg "range" = none) (ha : XA G X [a] t) (hs : starEach [a] X.env = [(false, eval a X.env)] := by rfl) : XI G X false tg (.Call (.Name "range" p) [a] [] pos) (xiRng1 t) := by
  refine ⟨fun E g Q Q' hq q => ha.mo _ _ _ _ (fun ss g1 ⟨j, e, b1, b2, q⟩ => ⟨j, e, b1, b2, hq _ _ q⟩) q, (pi_range1 hg hm ha.pa hs).imp fun σ H R ⟨cl, E, g, as, j, r, q⟩ => ?_⟩
  refine ⟨cl, E, g, as, j, r, ha.mo _ _ _ _ (fun ss g1 ⟨n, e, b1, b2, q1⟩ u vs go1 j1 rs => ?_) q⟩
  subst e
  exact ⟨n, rs.int1, b2, b1, q1 u _ _ go1 j1 wk_rng trivial⟩
theorem xi_rng2 {a b : Expr} (hg : Gl X "range") (hm : X.mg "range" = none) (ha : XA G X [a, b] t) (hs : starEach [a, b] X.env = [(false, eval a X.env), (false, eval b X.env)] := by rfl) (hs2 : starEach [b] X.env = [(false, eval b X.env)] := by rfl) :
    XI G X false tg (.Call (.Name "range" p) [a, b] [] pos) (xiRng2 t) := by
  refine ⟨fun E g Q Q' hq q => ha.mo _ _ _ _ (fun ss g1 ⟨i, j, e, b1, q⟩ => ⟨i, j, e, b1, hq _ _ q⟩) q, (pi_range2 hg hm ha.pa hs hs2).imp fun σ H R ⟨cl, E, g, as, j, r, q⟩ => ?_⟩
  refine ⟨cl, E, g, as, j, r, ha.mo _ _ _ _ (fun ss g1 ⟨m, n, e, b1, q1⟩ u vs go1 j1 rs => ?_) q⟩
  subst e
  exact ⟨m, n, rs.int2, b1, q1 u _ _ go1 j1 wk_rng trivial⟩
end

/-! ### for -/
@[simp] abbrev ktLoop (k : Kt) (f : List S → Nat → Prop) : Kt := { nx := f, rt := k.rt, bk := k.nx, ct := f }
@[simp] def forT (y : TT') (tb : TSt) : List PyData → Kt → List S → Nat → Prop
  | [], k, E, g => k.nx E g
  | d :: r, k, E, g => y d E g fun E' => tb (ktLoop k fun E2 g2 => forT y tb r k E2 g2) E' g
@[simp] def xFor (t : TWk) (y : TT') (tb : TSt) : TSt := fun k E g => t E g fun ds g1 => forT y tb ds k E g1
section
variable {G : Ct} {X : Cx} {tg it : Expr} {t : TWk} {y : TT'} {tb : TSt} {sl : List Nat} {body : List Stmt} {pos : Pos} {b : Bool}
theorem forT_mo (hy : ∀ d E g Q Q', (∀ E', Q E' → Q' E') → y d E g Q → y d E g Q') (hb : ∀ k k' E g, k.Le k' → tb k E g → tb k' E g) : ∀ (ds : List PyData) (k k' : Kt) (E : List S) (g : Nat), k.Le k' → forT y tb ds k E g → forT y tb ds k' E g
  | [], k, k', E, g, h, q => h.nx _ _ q
  | d :: r, k, k', E, g, h, q => hy _ _ _ _ _ (fun E' q1 => hb (ktLoop k fun E2 g2 => forT y tb r k E2 g2) (ktLoop k' fun E2 g2 => forT y tb r k' E2 g2) _ _ ⟨fun E2 g2 q2 => forT_mo hy hb r k k' E2 g2 h q2, h.rt, h.nx, fun E2 g2 q2 => forT_mo hy hb r k k' E2 g2 h q2⟩ q1) q
theorem xs_for (hp : PassesOwn (model X.prog X.w) X.A X.env X.xe) (hc : X.calm = true) (hi : XI G X b tg it t) (hg : XG G X b tg y sl) (hb : XSs G X body tb)
    (hs : ∀ x, foldedSetIterable it X.env x = pure x := by intro _; rfl) : XS G X (.For tg it body [] pos) (xFor t y tb) := by
  obtain ⟨my, gt, pg, qg⟩ := hg
  refine ⟨fun k k' E g h q => hi.mo _ _ _ _ (fun ds g1 q1 => forT_mo my hb.mo _ _ _ _ _ h q1) q, (ps_for hp hc hi.pi pg hb.ps hs).imp fun D σ H ⟨cl, E, g, as, j, go, r, q⟩ => ?_⟩
  refine ⟨cl, E, g, as, j, r, hi.mo _ _ _ _ (fun ds g1 q1 u jt P go1 j1 wk pP => ?_) q⟩
  refine ⟨fun i m σ H' => m = ds.length - i ∧ i ≤ ds.length ∧ ∃ cl' E' g' as', G.J g' ⟨H', cl'⟩ ∧ Go G.w0 ⟨H', cl'⟩ ∧ Pu ⟨H, cl⟩ ⟨H', cl'⟩ ∧ EnvR X.K G ⟨H', cl'⟩ E' σ as' ∧ P ⟨H', cl'⟩ ∧ forT y tb (ds.drop i) (ktOf X.K G ⟨H, cl⟩ D) E' g',
    ⟨ds.length, by simp, Nat.zero_le _, u.cl, E, g1, as, j1, go.trans go1, go1.pu, r.go go1, pP, by simpa using q1⟩, ?_⟩
  rintro i m σ1 H1 ⟨rfl, hi', cl1, E1, g2, as1, j2, go2, pu2, r2, p2, q2⟩
  by_cases hlt : i < ds.length
  · refine .inr ⟨wk.go i ⟨H1, cl1⟩ p2 hlt, fun σ' H' => i + 1 ≤ ds.length ∧ ∃ cl' E' g' as', G.J g' ⟨H', cl'⟩ ∧ Go G.w0 ⟨H', cl'⟩ ∧ Pu ⟨H, cl⟩ ⟨H', cl'⟩ ∧ EnvR X.K G ⟨H', cl'⟩ E' σ' as' ∧ P ⟨H', cl'⟩ ∧ forT y tb (ds.drop (i + 1)) (ktOf X.K G ⟨H, cl⟩ D) E' g',
      fun σ' H' hN => ⟨ds.length - (i + 1), by omega, rfl, hN.1, hN.2⟩, fun x H' hy => ?_⟩
    have ed : ds.drop i = ds[i] :: ds.drop (i + 1) := List.drop_eq_getElem_cons hlt
    rw [ed] at q2
    obtain ⟨u3, e3, g03, rv3⟩ := wk.yld i ⟨H1, cl1⟩ x H' ds[i] p2 (List.getElem?_eq_getElem hlt) hy
    subst e3
    have go3 := go2.trans g03.go
    refine qg u3 g2 x ds[i] σ1 E1 as1 _ (G.st0 g03 j2) (r2.go g03.go) rv3 (my _ _ _ _ _ (fun E4 q4 σ4 bs hbs tc r4 => ?_) q2)
    refine ⟨u3.cl, E4, g2, bs, G.st0 g03 j2, go3, r4, hb.mo (ktLoop (ktOf X.K G ⟨H, cl⟩ D) fun E2 g2 => forT y tb (List.drop (i + 1) ds) (ktOf X.K G ⟨H, cl⟩ D) E2 g2) _ _ _ ⟨fun E5 g5 q5 x5 σ5 as5 j5 go5 pu5 r5 => ?_, fun d g5 q5 => q5, fun E5 g5 q5 x5 σ5 as5 j5 go5 pu5 r5 => ?_, fun E5 g5 q5 x5 σ5 as5 j5 go5 pu5 r5 => ?_⟩ q4⟩
    · exact ⟨hlt, x5.cl, E5, g5, as5, j5, go5, (pu2.trans g03.go.pu).trans pu5, r5, wk.pu _ _ (wk.pu _ _ p2 g03.go.pu) pu5, q5⟩
    · exact q5 x5 σ5 as5 j5 go5 ((pu2.trans g03.go.pu).trans pu5) r5
    · exact ⟨hlt, x5.cl, E5, g5, as5, j5, go5, (pu2.trans g03.go.pu).trans pu5, r5, wk.pu _ _ (wk.pu _ _ p2 g03.go.pu) pu5, q5⟩
  · have e : i = ds.length := by omega
    subst e
    rw [List.drop_length] at q2
    exact .inl ⟨wk.stop _ ⟨H1, cl1⟩ p2 (Nat.le_refl _), q2 ⟨H1, cl1⟩ σ1 as1 j2 go2 pu2 r2⟩
end

/-! ### comprehensions -/
@[simp] def wipeE (E : List S) : List Nat → List S
  | [] => E
  | v :: vs => (wipeE E vs).set v .un
theorem EnvR.wipe {K : PySem.W.Frag} {G : Ct} {w : Wd} {E : List S} {σ : L2.St} {as : List Addr} (h : EnvR K G w E σ as) : ∀ vs : List Nat, ∃ bs, EnvR K G w (wipeE E vs) (wipe σ vs) bs ∧ ∀ a ∈ bs, a ∈ as
  | [] => ⟨as, h, fun _ q => q⟩
  | i0 :: vs => by
    obtain ⟨bs, h1, h2⟩ := EnvR.wipe h vs
    obtain ⟨cs, h3, h4⟩ := h1.unset i0 none
    exact ⟨cs, h3, fun a q => h2 a (h4 a q)⟩
theorem wipe_in {σ : L2.St} {i : Nat} : ∀ {vs : List Nat}, i ∈ vs → i < σ.length → (wipe σ vs)[i]? = some none
  | [], h, _ => by simp at h
  | u :: vs, h, l => by
    unfold L2.wipe
    by_cases e : u = i
    · subst e
      exact List.getElem?_set_self (by rw [wipe_length]; exact l)
    · rw [List.getElem?_set_ne e]
      exact wipe_in (by rcases List.mem_cons.mp h with z | z; exact absurd z.symm e; exact z) l
theorem Tch.wipe {sl vs : List Nat} {σ σ' : L2.St} (h : Tch sl (wipe σ vs) σ') (s : ∀ i ∈ sl, i ∈ vs) : L2.wipe σ' vs = L2.wipe σ vs := by
  apply List.ext_getElem?
  intro i
  have ll : σ'.length = σ.length := by rw [h.len, wipe_length]
  by_cases hv : i ∈ vs
  · by_cases hl : i < σ.length
    · rw [wipe_in hv hl, wipe_in hv (by rw [ll]; exact hl)]
    · rw [List.getElem?_eq_none (by rw [wipe_length, ll]; omega), List.getElem?_eq_none (by rw [wipe_length]; omega)]
  · rw [wipe_out hv, h.out i fun z => hv (s i z)]
@[simp] def compT (y : TT') (tt : TC) (te : TX) : List PyData → List S → List PyData → Nat → (List PyData → Nat → Prop) → Prop
  | [], _, acc, g, Q => Q acc g
  | d :: r, E, acc, g, Q => y d E g fun E' => tt E' g fun b g1 => if b = true then te E' g1 fun z g2 => compT y tt te r E (acc ++ [z]) g2 Q else compT y tt te r E acc g1 Q
@[simp] def xComp (t : TWk) (y : TT') (tt : TC) (te : TX) (vs : List Nat) : TX := fun E g Q => t E g fun ds g1 => ds.length ≤ sizeLine ∧ compT y tt te ds (wipeE E vs) [] g1 fun l g2 => Q (.list l) g2
structure XTs (G : Ct) (X : Cx) (ifs : List Expr) (t : TC) : Prop where
  mo : ∀ E g Q Q', (∀ d g', Q d g' → Q' d g') → t E g Q → t E g Q'
  pts : PTs X ifs (liftC X.K G t)
@[simp] def xYes : TC := fun _ g Q => Q true g
theorem _root_.L2.PTs.imp {X : Cx} {es : List Expr} {t t' : TT} (h : PTs X es t) (w : ∀ σ H Q, t' σ H Q → t σ H Q) : PTs X es t' := ⟨fun pins s σ H Q I q => h.run pins s σ H Q I (w σ H Q q)⟩
theorem xts_nil {G : Ct} {X : Cx} : XTs G X [] xYes := ⟨fun E g Q Q' hq q => hq _ _ q, pts_nil.imp fun σ H Q ⟨cl, E, g, as, j, r, q⟩ => q ⟨H, cl⟩ (Go.refl _) j⟩
theorem xts_one {G : Ct} {X : Cx} {c : Expr} {t : TC} (h : XC G X c t) : XTs G X [c] t := ⟨h.mo, pts_one h.pt⟩
section
variable {y : TT'} {tt : TC} {te : TX}
theorem compT_mo (hy : ∀ d E g Q Q', (∀ E', Q E' → Q' E') → y d E g Q → y d E g Q') (ht : ∀ E g Q Q', (∀ d g', Q d g' → Q' d g') → tt E g Q → tt E g Q') (he : ∀ E g Q Q', (∀ d g', Q d g' → Q' d g') → te E g Q → te E g Q') : ∀ (ds : List PyData) (E : List S) (acc : List PyData) (g : Nat) (Q Q' : List PyData → Nat → Prop), (∀ d g', Q d g' → Q' d g') → compT y tt te ds E acc g Q → compT y tt te ds E acc g Q'
  | [], _, _, _, _, _, hq, q => hq _ _ q
  | d :: r, E, acc, g, Q, Q', hq, q => hy _ _ _ _ _ (fun E' q1 => ht _ _ _ _ (fun b g1 q2 => by
      cases b with
      | true => exact he _ _ _ _ (fun z g2 q3 => compT_mo hy ht he r _ _ _ _ _ hq q3) q2
      | false => exact compT_mo hy ht he r _ _ _ _ _ hq q2) q1) q
end
section
variable {G : Ct} {X : Cx} {b : Bool} {elt tg it : Expr} {ifs : List Expr} {scope : Scope} {own : List (Str × Nat)} {pos : Pos} {t : TWk} {y : TT'} {tt : TC} {te : TX} {sl : List Nat}
/-- freezing: an object of a frame becomes data -/
def Wd.freeze (w : Wd) (a : Addr) : Wd := ⟨w.H, fun b => if b = a then 0 else w.cl b⟩
theorem freeze_pu {w : Wd} {a : Addr} : Pu w (w.freeze a) := fun b o h c => ⟨h, by show (if b = a then 0 else w.cl b) = 0; split; rfl; exact c⟩
theorem freeze_go {w u : Wd} {a : Addr} (g : Go w u) (n : w.H a = none) : Go w (u.freeze a) := by
  refine ⟨fun b o h => ?_, g.tr⟩
  have ne : b ≠ a := fun e => by rw [e, n] at h; cases h
  refine ⟨?_, (g.st b o h).2⟩
  show (if b = a then 0 else u.cl b) = w.cl b
  rw [if_neg ne]; exact (g.st b o h).1
theorem freeze_j {G : Ct} {g : Nat} {w : Wd} {a : Addr} (j : G.J g w) (c : w.cl a ≠ 2) : G.J g (w.freeze a) := G.st g w _ (fun b o h z => ⟨h, by
  show (if b = a then 0 else w.cl b) = 2
  have ne : b ≠ a := fun e => by subst e; exact c z
  rw [if_neg ne]; exact z⟩) j
theorem write_go {w u : Wd} {a : Addr} {o : HO} (g : Go w u) (n : w.H a = none) : Go w ⟨upd u.H a o, u.cl⟩ := by
  have ne : ∀ b x, w.H b = some x → b ≠ a := fun b x h e => by rw [e, n] at h; cases h
  refine ⟨fun b x h => ⟨(g.st b x h).1, fun c => ?_⟩, fun b x h => ?_⟩
  · show upd u.H a o b = some x
    rw [upd_ne (ne b x h)]; exact (g.st b x h).2 c
  · obtain ⟨o', h'⟩ := g.tr b x h
    refine ⟨o', ?_⟩
    show upd u.H a o b = some o'
    rw [upd_ne (ne b x h)]; exact h'
theorem write_j {G : Ct} {g : Nat} {w : Wd} {a : Addr} {o : HO} (j : G.J g w) (c : w.cl a ≠ 2) : G.J g ⟨upd w.H a o, w.cl⟩ := G.st g w _ (fun b x h z => by
  have ne : b ≠ a := fun e => by subst e; exact c z
  exact ⟨by show upd w.H a o b = some x; rw [upd_ne ne]; exact h, z⟩) j
theorem write_pu {w : Wd} {a : Addr} {o : HO} (c : w.cl a ≠ 0) : Pu w ⟨upd w.H a o, w.cl⟩ := fun b x h z => by
  have ne : b ≠ a := fun e => by subst e; exact c z
  exact ⟨by show upd w.H a o b = some x; rw [upd_ne ne]; exact h, z⟩
theorem comp_to (hi : XI G X b tg it t) (hg : ∃ gt : TG, (∀ (w : Wd) (g : Nat) (x : V) (d : PyData) (σ : L2.St) (E : List S) (as : List Addr) (Q : L2.St → Hp → Prop), G.J g w → EnvR X.K G w E σ as → Rw X.K w b x d →
      (y d E g fun E' => ∀ σ' bs, (∀ a ∈ bs, a ∈ as) → Tch sl σ σ' → EnvR X.K G w E' σ' bs → Q σ' w.H) → gt x σ w.H Q) ∧ True) (gt : TG)
    (qg : ∀ (w : Wd) (g : Nat) (x : V) (d : PyData) (σ : L2.St) (E : List S) (as : List Addr) (Q : L2.St → Hp → Prop), G.J g w → EnvR X.K G w E σ as → Rw X.K w b x d →
      (y d E g fun E' => ∀ σ' bs, (∀ a ∈ bs, a ∈ as) → Tch sl σ σ' → EnvR X.K G w E' σ' bs → Q σ' w.H) → gt x σ w.H Q)
    (my : ∀ d E g Q Q', (∀ E', Q E' → Q' E') → y d E g Q → y d E g Q') (mt : ∀ E g Q Q', (∀ d g', Q d g' → Q' d g') → tt E g Q → tt E g Q') (me : ∀ E g Q Q', (∀ d g', Q d g' → Q' d g') → te E g Q → te E g Q')
    (vs : List Nat) (hsl : ∀ i ∈ sl, i ∈ vs) : ∀ σ H Q, lift X.K G (xComp t y tt te vs) σ H Q → tLc (liftI X.K G b t) gt (liftC X.K G tt) (lift X.K G te) vs σ H Q := by
  intro σ H Q ⟨cl, E, g, as, j, r, q⟩
  refine ⟨cl, E, g, as, j, r, hi.mo _ _ _ _ (fun ds g1 ⟨hz, q1⟩ u jt P go1 j1 wk pP D nD => ?_) q⟩
  obtain ⟨bs, rw', hbs⟩ := (r.go go1).wipe vs
  have nDb : D ∉ bs := fun z => by
    obtain ⟨⟨o, ho⟩, _⟩ := (r.go go1).own D (hbs D z)
    rw [nD] at ho; cases ho
  have nDH : H D = none := by
    cases z : H D with
    | none => rfl
    | some o =>
      obtain ⟨o', h'⟩ := go1.tr D o z
      rw [nD] at h'; cases h'
  refine ⟨fun i m H' => m = ds.length - i ∧ i ≤ ds.length ∧ ∃ cl' acc xs g', cl' D = 1 ∧ H' D = some (.lst xs) ∧ xs.length ≤ i ∧ RvL X.K ⟨H', cl'⟩ xs acc ∧ G.J g' ⟨H', cl'⟩ ∧ Go ⟨H, cl⟩ ⟨H', cl'⟩ ∧ EnvR X.K G ⟨H', cl'⟩ (wipeE E vs) (wipe σ vs) bs ∧ P ⟨H', cl'⟩ ∧
      compT y tt te (ds.drop i) (wipeE E vs) acc g' (fun l g2 => ∀ u v, Go ⟨H, cl⟩ u → G.J g2 u → Rv X.K u v (.list l) → Q v u.H), ?_, ?_⟩
  · have g0 : Go0 u (u.new D (.lst []) 1) := Go0.new nD 1
    refine ⟨ds.length, by simp, Nat.zero_le _, (u.new D (.lst []) 1).cl, [], [], g1, if_pos rfl, upd_same, Nat.zero_le _, .nil, G.st0 g0 j1, go1.trans g0.go, rw'.go g0.go, wk.pu _ _ pP g0.go.pu, ?_⟩
    simpa using q1
  · rintro i m H1 ⟨rfl, hi', cl1, acc, xs, g2, cD, hD, hx, ra, j2, go2, r2, p2, q2⟩
    by_cases hlt : i < ds.length
    · refine .inr ⟨wk.go i ⟨H1, cl1⟩ p2 hlt, fun H' => ∃ cl' acc xs g', cl' D = 1 ∧ H' D = some (.lst xs) ∧ xs.length ≤ i + 1 ∧ RvL X.K ⟨H', cl'⟩ xs acc ∧ G.J g' ⟨H', cl'⟩ ∧ Go ⟨H, cl⟩ ⟨H', cl'⟩ ∧ EnvR X.K G ⟨H', cl'⟩ (wipeE E vs) (wipe σ vs) bs ∧ P ⟨H', cl'⟩ ∧
          compT y tt te (ds.drop (i + 1)) (wipeE E vs) acc g' (fun l g2 => ∀ u v, Go ⟨H, cl⟩ u → G.J g2 u → Rv X.K u v (.list l) → Q v u.H), fun H' hN => ⟨ds.length - (i + 1), by omega, rfl, hlt, hN⟩, fun x H' hy => ?_⟩
      have ed : ds.drop i = ds[i] :: ds.drop (i + 1) := List.drop_eq_getElem_cons hlt
      rw [ed] at q2
      obtain ⟨u3, e3, g03, rv3⟩ := wk.yld i ⟨H1, cl1⟩ x H' ds[i] p2 (List.getElem?_eq_getElem hlt) hy
      subst e3
      have cD3 : u3.cl D = 1 := ((g03 D _ hD).2).trans cD
      have hD3 : u3.H D = some (.lst xs) := (g03 D _ hD).1
      refine qg u3 g2 x ds[i] (wipe σ vs) (wipeE E vs) bs _ (G.st0 g03 j2) (r2.go g03.go) rv3 (my _ _ _ _ _ (fun E4 q4 σ4 cs hcs tc r4 => ?_) q2)
      refine ⟨tc.wipe hsl, u3.cl, E4, g2, cs, G.st0 g03 j2, r4, mt _ _ _ _ (fun b g5 q5 u5 go5 j5 => ?_) q4⟩
      have cD5 : u5.cl D = 1 := (go5.st D _ hD3).1.trans cD3
      have hD5 : u5.H D = some (.lst xs) := (go5.st D _ hD3).2 (by show u3.cl D ≠ 2; rw [cD3]; decide)
      cases b with
      | false =>
        exact ⟨u5.cl, acc, xs, g5, cD5, hD5, by omega, (ra.go g03.go).go go5, j5, (go2.trans g03.go).trans go5, (r2.go g03.go).go go5, wk.pu _ _ (wk.pu _ _ p2 g03.go.pu) go5.pu, q5⟩
      | true =>
        refine ⟨u5.cl, E4, g5, cs, j5, r4.go go5, me _ _ _ _ (fun z g6 q6 u6 v6 go6 j6 rv6 => ?_) q5⟩
        have cD6 : u6.cl D = 1 := (go6.st D _ hD5).1.trans cD5
        have hD6 : u6.H D = some (.lst xs) := (go6.st D _ hD5).2 (by show u5.cl D ≠ 2; rw [cD5]; decide)
        have n0 : u6.cl D ≠ 0 := by rw [cD6]; decide
        have n2 : u6.cl D ≠ 2 := by rw [cD6]; decide
        have goA : Go ⟨H1, cl1⟩ u6 := (g03.go.trans go5).trans go6
        refine ⟨xs, hD6, by omega, u6.cl, acc ++ [z], xs ++ [v6], g6, cD6, upd_same, by simp; omega, ((ra.go goA).upd' n0).app (.cons (rv6.upd' n0) .nil), write_j j6 n2, write_go (go2.trans goA) nDH, (r2.go goA).other n0 nDb, wk.pu _ _ (wk.pu _ _ p2 goA.pu) (write_pu n0), q6⟩
    · have e : i = ds.length := by omega
      subst e
      rw [List.drop_length] at q2
      refine .inl ⟨wk.stop _ ⟨H1, cl1⟩ p2 (Nat.le_refl _), ?_⟩
      have c2 : (⟨H1, cl1⟩ : Wd).cl D ≠ 2 := by show cl1 D ≠ 2; rw [cD]; decide
      exact q2 ((⟨H1, cl1⟩ : Wd).freeze D) (.ref D) (freeze_go go2 nDH) (freeze_j j2 c2) (.lst (.inl ⟨.inl hD, if_pos rfl⟩) (ra.pu freeze_pu))
theorem comp_mo (hi : XI G X b tg it t) (my : ∀ d E g Q Q', (∀ E', Q E' → Q' E') → y d E g Q → y d E g Q') (mt : ∀ E g Q Q', (∀ d g', Q d g' → Q' d g') → tt E g Q → tt E g Q') (me : ∀ E g Q Q', (∀ d g', Q d g' → Q' d g') → te E g Q → te E g Q')
    (vs : List Nat) : ∀ E g Q Q', (∀ d g', Q d g' → Q' d g') → xComp t y tt te vs E g Q → xComp t y tt te vs E g Q' :=
  fun E g Q Q' hq q => hi.mo _ _ _ _ (fun ds g1 ⟨z, q1⟩ => ⟨z, compT_mo my mt me _ _ _ _ _ _ (fun l g2 q2 => hq _ _ q2) q1⟩) q
/-- a target's rule, in any block -/
structure XGb (G : Ct) (X : Cx) (b : Bool) (scope : Scope) (tg : Expr) (y : TT') (sl : List Nat) : Prop where
  mo : ∀ d E g Q Q', (∀ E', Q E' → Q' E') → y d E g Q → y d E g Q'
  pg : ∃ tt : TG, (∀ (s : Shared) (H : Hp) (C : Addr) (cl : List (Str × Addr)) (fp : List Addr), PG (X.blk s H scope (compEnvC scope cl C X.env) fp) tg tt) ∧
    ∀ (w : Wd) (g : Nat) (x : V) (d : PyData) (σ : L2.St) (E : List S) (as : List Addr) (Q : L2.St → Hp → Prop), G.J g w → EnvR X.K G w E σ as → Rw X.K w b x d →
      (y d E g fun E' => ∀ σ' bs, (∀ a ∈ bs, a ∈ as) → Tch sl σ σ' → EnvR X.K G w E' σ' bs → Q σ' w.H) → tt x σ w.H Q
structure XGbs (G : Ct) (X : Cx) (scope : Scope) (tgs : List Expr) (y : TTs) (sl : List Nat) : Prop where
  mo : ∀ d E g Q Q', (∀ E', Q E' → Q' E') → y d E g Q → y d E g Q'
  pg : ∃ tt : TGs, (∀ (s : Shared) (H : Hp) (C : Addr) (cl : List (Str × Addr)) (fp : List Addr), PGs (X.blk s H scope (compEnvC scope cl C X.env) fp) tgs tt) ∧
    ∀ (w : Wd) (g : Nat) (xs : List V) (ds : List PyData) (σ : L2.St) (E : List S) (as : List Addr) (Q : L2.St → Hp → Prop), G.J g w → EnvR X.K G w E σ as → RvL X.K w xs ds →
      (y ds E g fun E' => ∀ σ' bs, (∀ a ∈ bs, a ∈ as) → Tch sl σ σ' → EnvR X.K G w E' σ' bs → Q σ' w.H) → tt xs σ w.H Q
theorem xgb_name (i : Nat) {x : Str} {p : Pos} (h : ∀ (s : Shared) (H : Hp) (C : Addr) (cl : List (Str × Addr)) (fp : List Addr), PG (X.blk s H scope (compEnvC scope cl C X.env) fp) (.Name x p) (gName i)) : XGb G X false scope (.Name x p) (yName i) [i] := by
  refine ⟨fun d E g Q Q' hq q => hq _ q, gName i, h, fun w g x d σ E as Q j r rv q => ?_⟩
  obtain ⟨bs, r1, hb⟩ := r.set i rv.rv
  exact q _ bs hb Tch.one r1
theorem xgbs_nil : XGbs G X scope [] yNil [] := by
  refine ⟨fun d E g Q Q' hq ⟨e, q⟩ => ⟨e, hq _ q⟩, gNil, fun _ _ _ _ _ => pgs_nil, fun w g xs ds σ E as Q j r rv ⟨e, q⟩ => ?_⟩
  subst e
  cases rv
  exact ⟨rfl, q _ as (fun a h => h) (Tch.refl _) r⟩
theorem xgbs_cons {e : Expr} {es : List Expr} {t : TT'} {u : TTs} {s1 s2 : List Nat} (h1 : XGb G X false scope e t s1) (h2 : XGbs G X scope es u s2)
    (hs : ∀ (C : Addr) (cl : List (Str × Addr)), (assignEach (e :: es) (compEnvC scope cl C X.env)).map (·.2) = assign e (compEnvC scope cl C X.env) :: (assignEach es (compEnvC scope cl C X.env)).map (·.2) := by intro _ _; rfl) : XGbs G X scope (e :: es) (yCons t u) (s1 ++ s2) := by
  obtain ⟨m1, t1, p1, q1⟩ := h1
  obtain ⟨m2, t2, p2, q2⟩ := h2
  refine ⟨fun ds E g Q Q' hq ⟨d, r, e, q⟩ => ⟨d, r, e, m1 _ _ _ _ _ (fun E' q => m2 _ _ _ _ _ hq q) q⟩, gCons t1 t2, fun s H C cl fp => pgs_cons (p1 s H C cl fp) (p2 s H C cl fp) (hs C cl), fun w g xs ds σ E as Q j r rv ⟨d, dr, e, q⟩ => ?_⟩
  subst e
  cases rv with
  | cons hv hr =>
    refine ⟨_, _, rfl, q1 w g _ _ σ E as _ j r (.of hv) (m1 _ _ _ _ _ (fun E' q' σ' bs hb tc r' => ?_) q)⟩
    refine q2 w g _ _ σ' E' bs _ j r' hr (m2 _ _ _ _ _ (fun E2 q2' σ2 cs hc tc2 r2 => ?_) q')
    exact q2' σ2 cs (fun a h => hb a (hc a h)) (tc.trans tc2) r2
theorem xgb_tup {es : List Expr} {k : Nat} {t : TTs} {n : Nat} {p : Pos} (hc : X.calm = true) (h : XGbs G X scope es t sl)
    (hn : ∀ (C : Addr) (cl : List (Str × Addr)), (assignEach es (compEnvC scope cl C X.env)).length = n := by intro _ _; rfl) (hst : ∀ (C : Addr) (cl : List (Str × Addr)), (assignEach es (compEnvC scope cl C X.env)).findIdx? (·.1) = none := by intro _ _; rfl) : XGb G X b scope (.Tuple es k p) (yTup n t) sl := by
  obtain ⟨m, tt, p, q⟩ := h
  refine ⟨fun d E g Q Q' hq ⟨ds, e, l, q⟩ => ⟨ds, e, l, m _ _ _ _ _ hq q⟩, gTup X.K n tt, fun s H C cl fp => pg_tup hc (p s H C cl fp) (hn C cl) (hst C cl), fun w g x d σ E as Q j r rv ⟨ds, e, l, z⟩ => ?_⟩
  subst e
  rcases rv with rv | ⟨_, a, xs, ds', e1, e2, hT, hr⟩
  · cases rv with
    | tup hT hr => exact ⟨_, _, rfl, hT.sq, by rw [hr.len]; exact l, q w g _ _ σ E as Q j r hr z⟩
  · subst e1
    cases e2
    exact ⟨_, _, rfl, hT, by rw [hr.len]; exact l, q w g _ _ σ E as Q j r hr z⟩
theorem xe_lc (hc : X.calm = true) (hN : X.N.Nodup) (hi : XI G X b tg it t) (ok : BlkOk X.N X.env.scope scope own) (hg : XGb G X b scope tg y sl) (hsl : ∀ i ∈ sl, i ∈ own.map (·.2))
    (ht : ∀ (s : Shared) (H : Hp) (C : Addr) (cl : List (Str × Addr)) (fp : List Addr), XTs G (X.blk s H scope (compEnvC scope cl C X.env) fp) ifs tt)
    (he : ∀ (s : Shared) (H : Hp) (C : Addr) (cl : List (Str × Addr)) (fp : List Addr), XE G (X.blk s H scope (compEnvC scope cl C X.env) fp) elt te)
    (hs : ∀ x, foldedSetIterable it X.env x = pure x := by intro _; rfl) : XE G X (.ListComp elt [⟨tg, it, ifs, 0⟩] scope pos) (xComp t y tt te (own.map (·.2))) := by
  obtain ⟨my, gt, pg, qg⟩ := hg
  have hmt := (ht X.s_0 X.H_0 0 [] []).mo
  have hme := (he X.s_0 X.H_0 0 [] []).mo
  exact ⟨comp_mo hi my hmt hme _, (pe_lc hc hN hi.pi ok pg (te := lift X.K G te) (tt := liftC X.K G tt) (fun s H C cl fp => (ht s H C cl fp).pts) (fun s H C cl fp => (he s H C cl fp).pe) hs).imp (comp_to hi ⟨gt, qg, trivial⟩ gt qg my hmt hme _ hsl)⟩
/-- name = [..] -/
theorem xs_setLc (i : Nat) {yn : Str} {py spos : Pos} (hc : X.calm = true) (hN : X.N.Nodup) (hy : X.N[i]? = some yn) (hyl : X.env.scope.names.lookup yn = some .local)
    (hsw : swapsWith (.ListComp elt [⟨tg, it, ifs, 0⟩] scope pos) (some (.Name yn py)) spos.line X.env = pure true) (hi : XI G X b tg it t) (ok : BlkOk X.N X.env.scope scope own) (hg : XGb G X b scope tg y sl) (hsl : ∀ i ∈ sl, i ∈ own.map (·.2))
    (ht : ∀ (s : Shared) (H : Hp) (C : Addr) (cl : List (Str × Addr)) (fp : List Addr), XTs G (X.blk s H scope (compEnvC scope cl C X.env) fp) ifs tt)
    (he : ∀ (s : Shared) (H : Hp) (C : Addr) (cl : List (Str × Addr)) (fp : List Addr), XE G (X.blk s H scope (compEnvC scope cl C X.env) fp) elt te)
    (hs : ∀ x, foldedSetIterable it X.env x = pure x := by intro _; rfl) : XS G X (.Assign [.Name yn py] (.ListComp elt [⟨tg, it, ifs, 0⟩] scope pos) spos) (xAsg (xComp t y tt te (own.map (·.2))) (yName i)) := by
  obtain ⟨my, gt, pg, qg⟩ := hg
  have hmt := (ht X.s_0 X.H_0 0 [] []).mo
  have hme := (he X.s_0 X.H_0 0 [] []).mo
  have mo := comp_mo (vs := own.map (·.2)) hi my hmt hme
  refine ⟨fun k k' E g h q => mo _ _ _ _ (fun d g1 q1 => h.nx _ _ q1) q, (ps_setLc hc hN hy hyl hsw hi.pi ok pg (te := lift X.K G te) (tt := liftC X.K G tt) (fun s H C cl fp => (ht s H C cl fp).pts) (fun s H C cl fp => (he s H C cl fp).pe) hs).imp fun D σ H ⟨cl, E, g, as, j, go, r, z⟩ => ?_⟩
  refine comp_to hi ⟨gt, qg, trivial⟩ gt qg my hmt hme _ hsl σ H (fun x H1 => gName i x σ H1 D.nx) ⟨cl, E, g, as, j, r, mo _ _ _ _ (fun d g1 z1 u v go1 j1 rv => ?_) z⟩
  obtain ⟨bs, r1, hb⟩ := (r.go go1).set i rv
  exact z1 u _ bs j1 (go.trans go1) go1.pu r1
end

/-! ### a def -/
@[simp] def envOf (N : List Str) (ss : List S) : List S := ss ++ List.replicate (N.length - ss.length) .un
theorem envR_un {K : PySem.W.Frag} {G : Ct} {w : Wd} : ∀ n : Nat, EnvR K G w (List.replicate n .un) (List.replicate n none) []
  | 0 => .nil
  | n + 1 => .un none (envR_un n)
theorem envR_start {K : PySem.W.Frag} {G : Ct} {w : Wd} {N : List Str} {vs : List V} {ss : List S} (h : RvA K G.am w vs ss) (k : Nat) : EnvR K G w (ss ++ List.replicate k .un) (vs.map some ++ List.replicate k none) [] := by
  induction h with
  | nil => exact envR_un k
  | v h _ ih => exact .v h ih
  | tok _ ih => exact .tok ih
section
variable {P : Program} {w : World} {K : PySem.W.Frag} {mg : Str → Option Value} {base : Heap} {G : Ct}
theorem fn_ok {x qual : Str} {st : Stmt} {f : Addr} {fd : FuncData} {N ps : List Str} {k n : Nat} {pt : PT'} (F : Fun K x qual st f fd) (Sc : FnScope N ps (defScope st)) (hn : n = ps.length)
    (mo : ∀ ss g Q Q', (∀ d g', Q d g' → Q' d g') → pt ss g Q → pt ss g Q')
    (body : ∀ (u : Wd) (X : Cx) (cdv : Value) (A : Around) (outer : List Env) (s : Shared) (H : Hp) (E : XK), X = (cxOf CX0 P w K mg base N qual (defScope st) f cdv A outer s H E).nox → Room k X.A → ∃ tb, XSs (G.at u) X (defBody st) tb ∧
      ∀ ss g Q, ss.length = n → pt ss g Q → tb { nx := fun _ g' => Q .none g', rt := Q } (envOf N ss) g) : FnOk P w K mg base CX0 (k + 1) f fd ps (spD K G.am G.J n pt) := by
  refine F.ok Sc (fun vs H Q E ⟨cl, g, ss, l, _⟩ => l.trans hn) fun cdv A outer s H vs Q E hr ⟨cl, g, ss, l, j, r, q⟩ => ?_
  obtain ⟨tb, b, sp⟩ := body ⟨H, cl⟩ _ cdv A outer s H E rfl hr
  refine ⟨_, b.ps, cl, envOf N ss, g, [], j, Go.refl _, ?_, b.mo { nx := fun _ g' => (fun d g' => ∀ u v, Go ⟨H, cl⟩ u → G.J g' u → Rv K u v d → Q v u.H) .none g', rt := fun d g' => ∀ u v, Go ⟨H, cl⟩ u → G.J g' u → Rv K u v d → Q v u.H } _ _ _ ⟨fun E1 g1 q1 u σ as j1 go1 p1 r1 => q1 u .non go1 j1 .non, fun d g1 q1 u v j1 go1 rv => q1 u v go1 j1 rv, fun E1 g1 q1 => q1.elim, fun E1 g1 q1 => q1.elim⟩ (sp ss g _ (by rw [← r.len]; exact l) q)⟩
  have e : N.length - vs.length = N.length - ss.length := by rw [r.len]
  show EnvR _ _ _ (ss ++ _) (vs.map some ++ List.replicate (N.length - vs.length) none) []
  rw [e]
  exact envR_start (G := G.at ⟨H, cl⟩) (N := N) r _
end
end TL

namespace TL
open PySem PySem.Spec PyProof.Rows L2
section
variable {G : Ct} {X : Cx} {K : PySem.W.Frag}
/-! ### operations by data -/
def oI (f : Int → Int → PyData) : OD := fun d e g Q => match d, e with
  | .int i, .int j => Q (f i j) g
  | _, _ => False
theorem od_I {f : Int → Int → Int} : OpD G K (rI0 fun i j => .int (f i j)) (oI fun i j => .int (f i j)) := by
  refine ⟨fun d e g Q Q' hq q => ?_, fun w g x y d e Q j rx ry q => ?_⟩
  · unfold oI at *; split at q <;> first | exact hq _ _ q | exact q
  · unfold oI at q
    split at q
    · cases rx; cases ry
      exact ⟨_, _, rfl, rfl, q w _ (Go.refl w) j (.int _)⟩
    · exact q.elim
theorem od_IB {f : Int → Int → Bool} : OpD G K (rI0 fun i j => .bl (f i j)) (oI fun i j => .bool (f i j)) := by
  refine ⟨fun d e g Q Q' hq q => ?_, fun w g x y d e Q j rx ry q => ?_⟩
  · unfold oI at *; split at q <;> first | exact hq _ _ q | exact q
  · unfold oI at q
    split at q
    · cases rx; cases ry
      exact ⟨_, _, rfl, rfl, q w _ (Go.refl w) j (.bl _)⟩
    · exact q.elim
def oIC (C : Int → Int → Prop) (f : Int → Int → PyData) : OD := fun d e g Q => match d, e with
  | .int i, .int j => C i j ∧ Q (f i j) g
  | _, _ => False
theorem od_IC {C : Int → Int → Prop} {f : Int → Int → Int} : OpD G K (rI C fun i j => .int (f i j)) (oIC C fun i j => .int (f i j)) := by
  refine ⟨fun d e g Q Q' hq q => ?_, fun w g x y d e Q j rx ry q => ?_⟩
  · unfold oIC at *; split at q <;> first | exact ⟨q.1, hq _ _ q.2⟩ | exact q
  · unfold oIC at q
    split at q
    · cases rx; cases ry
      exact ⟨_, _, rfl, rfl, q.1, q.2 w _ (Go.refl w) j (.int _)⟩
    · exact q.elim
/-- + of ints, texts, tuples, lists -/
def oAdd : OD := fun d e g Q => match d, e with
  | .int i, .int j => Q (.int (i + j)) g
  | .str x, .str y => x.length + y.length ≤ sizeLine ∧ Q (.str (x ++ y)) g
  | .tuple xs, .tuple ys => xs.length + ys.length ≤ sizeLine ∧ Q (.tuple (xs ++ ys)) g
  | .list xs, .list ys => xs.length + ys.length ≤ sizeLine ∧ Q (.list (xs ++ ys)) g
  | _, _ => False
def rAddS : R2 := fun x y H Q => ∃ i j, x = .str i ∧ y = .str j ∧ i.length + j.length ≤ sizeLine ∧ Q (.str (i ++ j)) H
/-- + of two lists that are read -/
def rCatL (K : PySem.W.Frag) : R2 := fun x y H Q => ∃ a b xs ys, x = .ref a ∧ y = .ref b ∧ SqL K H a xs ∧ SqL K H b ys ∧ xs.length + ys.length ≤ sizeLine ∧ ∀ p, H p = none → Q (.ref p) (upd H p (.lst (xs ++ ys)))
def rCatF (K : PySem.W.Frag) : R2 := fun x y H Q => ∃ a b xs ys, x = .ref a ∧ y = .ref b ∧ SqT K H a xs ∧ SqT K H b ys ∧ xs.length + ys.length ≤ sizeLine ∧
  (xs = [] → Q (.ref b) H) ∧ (xs ≠ [] → ys = [] → Q (.ref a) H) ∧ (xs ≠ [] → ys ≠ [] → ∀ p o, H p = none → o.dict = none → Q (.ref p) (upd H p (tupO o (xs ++ ys))))
abbrev rAdd (K : PySem.W.Frag) : R2 := fun x y H Q => rI0 (fun i j => .int (i + j)) x y H Q ∨ (rAddS x y H Q ∨ (rCatF K x y H Q ∨ rCatL K x y H Q))
theorem od_add : OpD G K (rAdd K) oAdd := by
  refine ⟨fun d e g Q Q' hq q => ?_, fun w g x y d e Q j rx ry q => ?_⟩
  · unfold oAdd at *; split at q <;> first | exact hq _ _ q | exact ⟨q.1, hq _ _ q.2⟩ | exact q
  · unfold oAdd at q
    split at q
    · cases rx; cases ry
      exact .inl ⟨_, _, rfl, rfl, q w _ (Go.refl w) j (.int _)⟩
    · cases rx; cases ry
      exact .inr (.inl ⟨_, _, rfl, rfl, q.1, q.2 w _ (Go.refl w) j (.str _)⟩)
    · rename_i xs ys
      have rx' := rx
      have ry' := ry
      cases rx with
      | @tup a vs _ h r =>
        cases ry with
        | @tup b us _ h' r' =>
          refine .inr (.inr (.inl ⟨a, b, vs, us, rfl, rfl, h.sq, h'.sq, by rw [r.len, r'.len]; exact q.1, fun e => ?_, fun e1 e2 => ?_, fun e1 e2 p o np hd => ?_⟩))
          · subst e; cases r; exact q.2 w _ (Go.refl w) j ry'
          · subst e2; cases r'
            exact q.2 w _ (Go.refl w) j (by rw [List.append_nil]; exact rx')
          · exact q.2 (w.new p (tupO o (vs ++ us)) 0) _ (Go.new' np 0) (G.st0 (Go0.new np 0) j) (new_tup np hd (r.app r'))
    · cases rx with
      | @lst a vs _ h r =>
        cases ry with
        | @lst b us _ h' r' =>
          refine .inr (.inr (.inr ⟨a, b, vs, us, rfl, rfl, h.sq, h'.sq, by rw [r.len, r'.len]; exact q.1, fun p np => ?_⟩))
          exact q.2 (w.new p (.lst (vs ++ us)) 0) _ (Go.new' np 0) (G.st0 (Go0.new np 0) j) (new_lst np (r.app r'))
    · exact q.elim
theorem op_addS : OpR X (binaryOp .Add) rAddS := by
  intro pins s σ H x y v u Q I rx ry ⟨i, j, e1, e2, z, q⟩
  refine op_add_str pins s σ H x y v u Q I rx ry ?_
  first
    | exact ⟨i, j, e1, e2, z, q⟩
    | exact ⟨i, j, e1, e2, q⟩
theorem op_catL : OpR X (binaryOp .Add) (rCatL X.K) := by
  intro pins s σ H x y v u Q I rx ry ⟨a, b, xs, ys, e1, e2, ha, hb, hz, q⟩
  subst e1 e2
  cases rx
  cases ry
  obtain ⟨its, r1, ⟨⟨cls, dd, data, sl⟩, n, ho, hc, hd0, hd⟩, _⟩ := I.list ha
  obtain ⟨its2, r2, ⟨⟨cls2, dd2, data2, sl2⟩, n2, ho2, hc2, hd02, hd2⟩, _⟩ := I.list hb
  simp only at hc hd hc2 hd2
  subst hc hd hc2 hd2
  have l1 := r1.length
  have l2 := r2.length
  have e : its.toArray ++ its2.toArray = (its ++ its2).toArray := by simp
  refine concat_meets ⟨_, ho, rfl⟩ ⟨_, ho2, rfl⟩ noFill_list_add seq_list_add PySem.F.slot_list_add PySem.F.entry_list_add (PySem.F.args_list_add_2 _ _) (list_addW a b its.toArray its2.toArray n n2 dd dd2 sl sl2 (by simp; omega)) ⟨ho, ho2, ?_⟩
  rw [e]
  exact ⟨.ref _, _, I.lnew (t' := s.toks) (r1.append r2) (by rw [List.length_append]; omega), rfl, q _ I.fresh⟩
theorem op_catF : OpR X (binaryOp .Add) (rCatF X.K) := by
  intro pins s σ H x y v u Q I rx ry ⟨a, b, xs, ys, e1, e2, ha, hb, hz, q0, q1, q2⟩
  subst e1 e2
  cases rx
  cases ry
  obtain ⟨its, r1, p1, _⟩ := I.tuple ha
  obtain ⟨its2, r2, p2, _⟩ := I.tuple hb
  by_cases hx : xs = []
  · subst hx
    cases r1
    exact cat_tup0 p1 p2 ⟨.ref b, H, I, rfl, q0 rfl⟩
  · refine HT.cat_tup p1 p2 (fun z => hx (r1.nil_iff.mp z)) (fun z => ⟨.ref a, H, I, rfl, q1 hx (r2.nil_iff.mp z)⟩) (fun z => ?_) (by rw [← r1.length, ← r2.length]; exact hz)
    exact ⟨.ref s.heap.objs.size, _, laid_tup I (r1.append r2) (by rw [List.length_append]; exact hz), rfl, q2 hx (fun w => z (r2.nil_iff.mpr w)) _ _ (I.hok.fresh (Nat.le_refl _)) rfl⟩
theorem op_addAll : OpR X (binaryOp .Add) (rAdd X.K) := op_add.or (op_addS.or (op_catF.or op_catL))
/-- t[lo:hi] -/
def rSlF (K : PySem.W.Frag) : V → Option Int → Option Int → Hp → VK → Prop := fun x lo hi H Q => ∃ a xs, x = .ref a ∧ SqT K H a xs ∧
  (HT.sIx xs.length 0 lo = 0 ∧ HT.sIx xs.length xs.length hi = xs.length → Q (.ref a) H) ∧ (¬ (HT.sIx xs.length 0 lo = 0 ∧ HT.sIx xs.length xs.length hi = xs.length) → ∀ p o, H p = none → o.dict = none → Q (.ref p) (upd H p (tupO o (cutV xs lo hi))))
theorem sl_tupF : SlR X (rSlF X.K) := by
  intro pins s σ H x v vl vu lo hi sl Q I rx hs pl pu ⟨a, xs, e1, hx, q1, q2⟩
  subst e1
  by_cases hw : HT.sIx xs.length 0 lo = 0 ∧ HT.sIx xs.length xs.length hi = xs.length
  · exact sl_tupA pins s σ H _ v vl vu lo hi sl Q I rx hs pl pu ⟨a, xs, rfl, hx, q1, fun z => absurd hw z⟩
  · cases rx
    obtain ⟨its, r, ht, hz⟩ := I.tuple hx
    have hlen : its.toArray.size = xs.length := by rw [List.size_toArray]; exact r.length.symm
    refine ⟨"tuple", _, PyProof.Rows.slot_tuple_getitem.lookup, ht.typeIs, ?_⟩
    refine HT.getItem_tuple_cut ht hs pl pu (by rw [hlen]; exact hw) ?_ (by rw [hlen]; exact hz)
    rw [hlen]
    have rc : Vals (cutV xs lo hi) ((its.drop (HT.sIx xs.length 0 lo)).take (HT.sIx xs.length xs.length hi - HT.sIx xs.length 0 lo)) := (r.drop _).take _
    exact ⟨.ref s.heap.objs.size, _, laid_tup I rc (Nat.le_trans (cutV_length xs lo hi) hz), rfl, q2 hw _ _ (I.hok.fresh (Nat.le_refl _)) rfl⟩
theorem call_tupF : CallR X (.type "tuple") (fun xs H Q => ∃ p ys, xs = [.ref p] ∧ ((SqL X.K H p ys ∧ ∀ l o, H l = none → o.dict = none → Q (.ref l) (upd H l (tupO o ys))) ∨ (SqT X.K H p ys ∧ Q (.ref p) H))) := by
  intro pins s σ H xs us Q I r ⟨p, ys, e1, h⟩
  subst e1
  rcases h with ⟨hq, q⟩ | ⟨hq, q⟩
  · obtain ⟨u, e2, rx⟩ := vals1 r
    subst e2
    cases rx
    obtain ⟨its, r', pl, hz⟩ := I.list hq
    have hlen := r'.length
    refine call_tuple_list pl.isList (fun h' kp => ?_) (by simp only [List.size_toArray] <;> omega)
    have I1 : Inv X pins σ H { s with heap := h' } := I.kept (t' := s.toks) kp
    exact ⟨.ref h'.objs.size, _, laid_tup I1 r' hz, rfl, q _ _ (I1.hok.fresh (Nat.le_refl _)) rfl⟩
  · exact call_tuple_of pins s σ H _ us Q I r ⟨p, ys, rfl, .inr ⟨hq, q⟩⟩
variable {a b c e : Expr} {ta tb tc te : TX} {pos : Pos}
theorem xe_add (ha : XE G X a ta) (hb : XE G X b tb) : XE G X (.BinOp a .Add b pos) (xBin ta tb oAdd) := xe_op op_addAll od_add ha hb
@[simp] def oSub : OD := oI fun i j => .int (i - j)
@[simp] def oMul : OD := oIC (fun i j => (-(2 ^ 64) < i ∧ i < 2 ^ 64) ∨ (-(2 ^ 64) < j ∧ j < 2 ^ 64)) fun i j => .int (i * j)
@[simp] def oDiv : OD := oIC (fun _ j => 0 < j ∧ j < 1073741824) fun i j => .int (i / j)
@[simp] def oMod : OD := oIC (fun _ j => 0 < j) fun i j => .int (i % j)
@[simp] def oPow : OD := oIC (fun i j => 0 ≤ j ∧ j ≤ 1000000 ∧ i.natAbs < 2 ^ 64) fun i j => .int (i ^ j.toNat)
theorem xe_sub (ha : XE G X a ta) (hb : XE G X b tb) : XE G X (.BinOp a .Sub b pos) (xBin ta tb oSub) := xe_op op_sub od_I ha hb
theorem xe_mul (ha : XE G X a ta) (hb : XE G X b tb) : XE G X (.BinOp a .Mult b pos) (xBin ta tb oMul) := xe_op op_mul od_IC ha hb
theorem xe_div (ha : XE G X a ta) (hb : XE G X b tb) : XE G X (.BinOp a .FloorDiv b pos) (xBin ta tb oDiv) := xe_op op_fdiv od_IC ha hb
theorem xe_mod (ha : XE G X a ta) (hb : XE G X b tb) : XE G X (.BinOp a .Mod b pos) (xBin ta tb oMod) := xe_op op_mod od_IC ha hb
theorem xe_pow (ha : XE G X a ta) (hb : XE G X b tb) : XE G X (.BinOp a .Pow b pos) (xBin ta tb oPow) := xe_op op_pow od_IC ha hb
@[simp] def oLt : OD := oI fun i j => .bool (decide (i < j))
@[simp] def oLe : OD := oI fun i j => .bool (decide (i ≤ j))
@[simp] def oGt : OD := oI fun i j => .bool (decide (j < i))
@[simp] def oGe : OD := oI fun i j => .bool (decide (j ≤ i))
/-- the operations, with their rules, for comparisons -/
structure CO (G : Ct) (X : Cx) (op : CmpOp) (od : OD) : Prop where
  ex : ∃ r, OpR X (compareOp op) r ∧ OpD G X.K r od
theorem co_lt : CO G X .Lt oLt := ⟨_, op_lt, od_IB⟩
theorem co_le : CO G X .LtE oLe := ⟨_, op_le, od_IB⟩
theorem co_gt : CO G X .Gt oGt := ⟨_, op_gt, od_IB⟩
theorem co_ge : CO G X .GtE oGe := ⟨_, op_ge, od_IB⟩
/-- == of data without dicts -/
@[simp] def oEq : OD := fun d e g Q => (noDict d = true ∧ noDict e = true ∧ SeqAt.shaped d = true ∧ SeqAt.shaped e = true) ∧ Q (.bool (PyData.eqv d e)) g
@[simp] def oNe : OD := fun d e g Q => (noDict d = true ∧ noDict e = true ∧ SeqAt.shaped d = true ∧ SeqAt.shaped e = true) ∧ Q (.bool (!PyData.eqv d e)) g
theorem od_eq : OpD G K (rEqD K) oEq :=
  ⟨fun d e g Q Q' hq q => ⟨q.1, hq _ _ q.2⟩, fun w g x y d e Q j rx ry q => ⟨d, e, rx.dp q.1.1, ry.dp q.1.2.1, q.1.2.2.1, q.1.2.2.2, q.2 w _ (Go.refl w) j (.bl _)⟩⟩
theorem od_ne : OpD G K (rNeD K) oNe :=
  ⟨fun d e g Q Q' hq q => ⟨q.1, hq _ _ q.2⟩, fun w g x y d e Q j rx ry q => ⟨d, e, rx.dp q.1.1, ry.dp q.1.2.1, q.1.2.2.1, q.1.2.2.2, q.2 w _ (Go.refl w) j (.bl _)⟩⟩
theorem co_eq (hu : X.A.units + 64 < cLine) : CO G X .Eq oEq := ⟨_, op_eqD hu, od_eq⟩
theorem co_ne (hu : X.A.units + 64 < cLine) : CO G X .NotEq oNe := ⟨_, op_neD hu, od_ne⟩
/-- x in a tuple, in a list -/
@[simp] def oIn : OD := fun d e g Q => ∃ ds, (e = .list ds ∨ e = .tuple ds) ∧ (noDict d = true ∧ noDicts ds = true ∧ SeqAt.shaped d = true ∧ SeqAt.shaped (.tuple ds) = true) ∧ Q (.bool (ds.any fun z => PyData.eqv z d)) g
@[simp] def oNotIn : OD := fun d e g Q => ∃ ds, (e = .list ds ∨ e = .tuple ds) ∧ (noDict d = true ∧ noDicts ds = true ∧ SeqAt.shaped d = true ∧ SeqAt.shaped (.tuple ds) = true) ∧ Q (.bool (!ds.any fun z => PyData.eqv z d)) g
def rInT (K : PySem.W.Frag) (neg : Bool) : R2 := fun x y H Q => ∃ d ds, Dp K H x d ∧ (Dp K H y (.list ds) ∨ Dp K H y (.tuple ds)) ∧ SeqAt.shaped d = true ∧ SeqAt.shaped (.tuple ds) = true ∧ Q (.bl (if neg then !ds.any fun z => PyData.eqv z d else ds.any fun z => PyData.eqv z d)) H
theorem shaped_lt (ds : List PyData) : SeqAt.shaped (.tuple ds) = SeqAt.shaped (.list ds) := rfl
theorem op_inT (hu : X.A.units + 65 < cLine) : OpR X (compareOp .In) (rInT X.K false) := by
  intro pins s σ H x y v u Q I rx ry ⟨d, ds, hd, he, sd, se, q⟩
  obtain ⟨as, r1⟩ := Dp.reads I d x v hd rx
  rcases he with he | he
  · obtain ⟨bs, r2⟩ := Dp.reads I (.list ds) y u he ry
    exact SeqAt.in_list_reads r2 r1 (SeqAt.canLay_of_shaped se) (SeqAt.canLay_of_shaped sd) (room_in_shaped sd hu) ⟨.bl _, H, I, rfl, q⟩
  · obtain ⟨bs, r2⟩ := Dp.reads I (.tuple ds) y u he ry
    exact SeqAt.in_tuple_reads r2 r1 (SeqAt.canLay_of_shaped se) (SeqAt.canLay_of_shaped sd) (room_in_shaped sd hu) ⟨.bl _, H, I, rfl, q⟩
theorem op_notInT (hu : X.A.units + 65 < cLine) : OpR X (compareOp .NotIn) (rInT X.K true) := by
  intro pins s σ H x y v u Q I rx ry ⟨d, ds, hd, he, sd, se, q⟩
  obtain ⟨as, r1⟩ := Dp.reads I d x v hd rx
  rcases he with he | he
  · obtain ⟨bs, r2⟩ := Dp.reads I (.list ds) y u he ry
    exact SeqAt.notIn_list_reads r2 r1 (SeqAt.canLay_of_shaped se) (SeqAt.canLay_of_shaped sd) (room_in_shaped sd hu) ⟨.bl _, H, I, rfl, q⟩
  · obtain ⟨bs, r2⟩ := Dp.reads I (.tuple ds) y u he ry
    exact SeqAt.notIn_tuple_reads r2 r1 (SeqAt.canLay_of_shaped se) (SeqAt.canLay_of_shaped sd) (room_in_shaped sd hu) ⟨.bl _, H, I, rfl, q⟩
theorem od_in : OpD G K (rInT K false) oIn := by
  refine ⟨fun d e g Q Q' hq ⟨ds, e1, h, q⟩ => ⟨ds, e1, h, hq _ _ q⟩, fun w g x y d e Q j rx ry ⟨ds, e1, h, q⟩ => ⟨d, ds, rx.dp h.1, ?_, h.2.2.1, h.2.2.2, q w _ (Go.refl w) j (.bl _)⟩⟩
  rcases e1 with e1 | e1
  · subst e1; exact .inl (ry.dp (by simpa [noDict] using h.2.1))
  · subst e1; exact .inr (ry.dp (by simpa [noDict] using h.2.1))
theorem od_notIn : OpD G K (rInT K true) oNotIn := by
  refine ⟨fun d e g Q Q' hq ⟨ds, e1, h, q⟩ => ⟨ds, e1, h, hq _ _ q⟩, fun w g x y d e Q j rx ry ⟨ds, e1, h, q⟩ => ⟨d, ds, rx.dp h.1, ?_, h.2.2.1, h.2.2.2, q w _ (Go.refl w) j (.bl _)⟩⟩
  rcases e1 with e1 | e1
  · subst e1; exact .inl (ry.dp (by simpa [noDict] using h.2.1))
  · subst e1; exact .inr (ry.dp (by simpa [noDict] using h.2.1))
theorem co_in (hu : X.A.units + 65 < cLine) : CO G X .In oIn := ⟨_, op_inT hu, od_in⟩
theorem co_notIn (hu : X.A.units + 65 < cLine) : CO G X .NotIn oNotIn := ⟨_, op_notInT hu, od_notIn⟩
@[simp] def isN : PyData → Bool
  | .none => true
  | _ => false
/-- is None -/
@[simp] def oIsN : OD := fun d e g Q => e = .none ∧ Q (.bool (isN d)) g
@[simp] def oNotN : OD := fun d e g Q => e = .none ∧ Q (.bool (!(isN d))) g
theorem rv_none {w : Wd} {v : V} {d : PyData} (r : Rv K w v d) : decide (v = .non) = (isN d) := by
  cases r <;> rfl
theorem co_isN : CO G X .Is oIsN := ⟨_, op_isN, ⟨fun d e g Q Q' hq q => ⟨q.1, hq _ _ q.2⟩, fun w g x y d e Q j rx ry q => by
  obtain ⟨e1, q⟩ := q
  subst e1
  cases ry
  refine ⟨rfl, ?_⟩
  rw [rv_none rx]
  exact q w _ (Go.refl w) j (.bl _)⟩⟩
theorem co_notN : CO G X .IsNot oNotN := ⟨_, op_notN, ⟨fun d e g Q Q' hq q => ⟨q.1, hq _ _ q.2⟩, fun w g x y d e Q j rx ry q => by
  obtain ⟨e1, q⟩ := q
  subst e1
  cases ry
  refine ⟨rfl, ?_⟩
  rw [rv_none rx]
  exact q w _ (Go.refl w) j (.bl _)⟩⟩
theorem xe_co {op : CmpOp} {od : OD} (h : CO G X op od) (ha : XE G X a ta) (hb : XE G X b tb) (hm : behindInMarks op b = false) : XE G X (.Compare a [op] [b] pos) (xBin ta tb od) :=
  let ⟨_, h1, h2⟩ := h.ex; xe_cmp h1 h2 ha hb hm
theorem xc_co {op : CmpOp} {od : OD} (h : CO G X op od) (ha : XE G X a ta) (hb : XE G X b tb) (hm : behindInMarks op b = false) : XC G X (.Compare a [op] [b] pos) (xTest (xBin ta tb od)) :=
  let ⟨_, h1, h2⟩ := h.ex; xc_cmp h1 h2 ha hb hm
/-- a op b op' c -/
@[simp] def xChain (ta tb tc : TX) (od od' : OD) : TX := fun E g Q => ta E g fun d g1 => tb E g1 fun e g2 => od d e g2 fun z g3 => ∃ k, z = .bool k ∧ (if k = true then tc E g3 fun f g4 => od' e f g4 Q else Q (.bool false) g3)
theorem chain_mo {op op' : CmpOp} {od od' : OD} (h : CO G X op od) (h' : CO G X op' od') (ha : XE G X a ta) (hb : XE G X b tb) (hc : XE G X c tc) : ∀ E g Q Q', (∀ d g', Q d g' → Q' d g') → xChain ta tb tc od od' E g Q → xChain ta tb tc od od' E g Q' := by
  obtain ⟨r, h1, h2⟩ := h.ex
  obtain ⟨r', h1', h2'⟩ := h'.ex
  intro E g Q Q' hq q
  refine ha.mo _ _ _ _ (fun d g1 q1 => hb.mo _ _ _ _ (fun e g2 q2 => h2.mo _ _ _ _ _ (fun z g3 ⟨k, ek, q3⟩ => ⟨k, ek, ?_⟩) q2) q1) q
  cases k with
  | true => exact hc.mo _ _ _ _ (fun f g4 q4 => h2'.mo _ _ _ _ _ hq q4) q3
  | false => exact hq _ _ q3
theorem xe_chain {op op' : CmpOp} {od od' : OD} (h : CO G X op od) (h' : CO G X op' od') (ha : XE G X a ta) (hb : XE G X b tb) (hc : XE G X c tc) (hm : lastMarks [op, op'] [b, c] = false := by with_unfolding_all rfl) : XE G X (.Compare a [op, op'] [b, c] pos) (xChain ta tb tc od od') := by
  refine ⟨chain_mo h h' ha hb hc, ?_⟩
  obtain ⟨r, h1, h2⟩ := h.ex
  obtain ⟨r', h1', h2'⟩ := h'.ex
  refine (pe_chain h1 h1' ha.pe hb.pe hc.pe hm).imp fun σ H Q ⟨cl, E, g, as, j, rE, q⟩ => ?_
  refine ⟨cl, E, g, as, j, rE, ha.mo _ _ _ _ (fun d g1 q1 u v go1 j1 rv1 => ?_) q⟩
  refine ⟨u.cl, E, g1, as, j1, rE.go go1, hb.mo _ _ _ _ (fun e g2 q2 u2 v2 go2 j2 rv2 => ?_) q1⟩
  refine h2.to u2 g2 v v2 d e _ j2 (rv1.go go2) rv2 (h2.mo _ _ _ _ _ (fun z g3 ⟨k, ek, q3⟩ u3 v3 go3 j3 rv3 => ?_) q2)
  subst ek
  cases rv3
  refine ⟨k, rfl, ?_⟩
  cases k with
  | false => exact q3 u3 _ ((go1.trans go2).trans go3) j3 (.bl _)
  | true =>
    refine ⟨u3.cl, E, g3, as, j3, rE.go ((go1.trans go2).trans go3), hc.mo _ _ _ _ (fun f g4 q4 u4 v4 go4 j4 rv4 => ?_) q3⟩
    exact h2'.to u4 g4 v2 v4 e f _ j4 ((rv2.go go3).go go4) rv4 (h2'.mo _ _ _ _ _ (fun z g5 q5 u5 v5 go5 j5 rv5 => q5 u5 v5 ((((go1.trans go2).trans go3).trans go4).trans go5) j5 rv5) q4)
theorem xc_chain {op op' : CmpOp} {od od' : OD} (h : CO G X op od) (h' : CO G X op' od') (ha : XE G X a ta) (hb : XE G X b tb) (hc : XE G X c tc) (hm : lastMarks [op, op'] [b, c] = false := by with_unfolding_all rfl) : XC G X (.Compare a [op, op'] [b, c] pos) (xTest (xChain ta tb tc od od')) := by
  have mo := chain_mo h h' ha hb hc
  refine ⟨xTest_mo mo, ?_⟩
  obtain ⟨r, h1, h2⟩ := h.ex
  obtain ⟨r', h1', h2'⟩ := h'.ex
  refine (pt_chain h1 h1' ha.pe hb.pe hc.pe hm).imp fun σ H Q q => ?_
  obtain ⟨cl, E, g, as, j, rE, q⟩ := xTest_to (K := X.K) mo σ H Q q
  refine ⟨cl, E, g, as, j, rE, ha.mo _ _ _ _ (fun d g1 q1 u v go1 j1 rv1 => ?_) q⟩
  refine ⟨u.cl, E, g1, as, j1, rE.go go1, hb.mo _ _ _ _ (fun e g2 q2 u2 v2 go2 j2 rv2 => ?_) q1⟩
  refine h2.to u2 g2 v v2 d e _ j2 (rv1.go go2) rv2 (h2.mo _ _ _ _ _ (fun z g3 ⟨k, ek, q3⟩ u3 v3 go3 j3 rv3 => ?_) q2)
  subst ek
  cases rv3
  refine ⟨k, rfl, ?_⟩
  cases k with
  | false => exact q3 u3 _ ((go1.trans go2).trans go3) j3 (.bl _)
  | true =>
    refine ⟨u3.cl, E, g3, as, j3, rE.go ((go1.trans go2).trans go3), hc.mo _ _ _ _ (fun f g4 q4 u4 v4 go4 j4 rv4 => ?_) q3⟩
    exact h2'.to u4 g4 v2 v4 e f _ j4 ((rv2.go go3).go go4) rv4 (h2'.mo _ _ _ _ _ (fun z g5 q5 u5 v5 go5 j5 rv5 => q5 u5 v5 ((((go1.trans go2).trans go3).trans go4).trans go5) j5 rv5) q4)
/-- -a -/
@[simp] def xNeg (ta : TX) : TX := fun E g Q => ta E g fun d g1 => ∃ i, d = .int i ∧ Q (.int (-i)) g1
theorem xe_neg (ha : XE G X a ta) : XE G X (.UnaryOp .USub a pos) (xNeg ta) := by
  refine ⟨fun E g Q Q' hq q => ha.mo _ _ _ _ (fun d g1 ⟨i, e, q1⟩ => ⟨i, e, hq _ _ q1⟩) q, (pe_un un_neg ha.pe).imp fun σ H Q ⟨cl, E, g, as, j, rE, q⟩ => ?_⟩
  refine ⟨cl, E, g, as, j, rE, ha.mo _ _ _ _ (fun d g1 ⟨i, e, q1⟩ u v go1 j1 rv1 => ?_) q⟩
  subst e
  cases rv1
  exact ⟨_, rfl, q1 u _ go1 j1 (.int _)⟩
/-! ### items, slices -/
def itemD (ds : List PyData) (i : Int) : Option PyData := atI ds i
theorem atI_rv {w : Wd} {vs : List V} {ds : List PyData} {i : Int} {d : PyData} (r : RvL K w vs ds) (h : atI ds i = some d) : ∃ v, atI vs i = some v ∧ Rv K w v d := by
  unfold atI at *
  rw [r.len]
  cases q : ixN ds.length i with
  | none => rw [q] at h; cases h
  | some k =>
    rw [q] at h
    obtain ⟨v, h1, h2⟩ := r.get (show ds[k]? = some d from h)
    exact ⟨v, h1, h2⟩
def oIx : OD := fun d e g Q => ∃ i, e = .int i ∧ ((∃ ds z, (d = .list ds ∨ d = .tuple ds) ∧ atI ds i = some z ∧ Q z g) ∨ (∃ s c, d = .str s ∧ s.length ≤ sizeLine ∧ atI s.cps.toList i = some c ∧ Q (.str ⟨#[c]⟩) g))
theorem od_ix : OpD G K (rIx K) oIx := by
  refine ⟨fun d e g Q Q' hq ⟨i, e1, q⟩ => ⟨i, e1, ?_⟩, fun w g x y d e Q j rx ry ⟨i, e1, q⟩ => ?_⟩
  · rcases q with ⟨ds, z, a1, a2, q⟩ | ⟨s, c, a1, a2, a3, q⟩
    · exact .inl ⟨ds, z, a1, a2, hq _ _ q⟩
    · exact .inr ⟨s, c, a1, a2, a3, hq _ _ q⟩
  · subst e1
    cases ry
    rcases q with ⟨ds, z, a1, a2, q⟩ | ⟨s, c, a1, a2, a3, q⟩
    · rcases a1 with a1 | a1
      · subst a1
        cases rx with
        | lst h r =>
          obtain ⟨v, h1, h2⟩ := atI_rv r a2
          exact .inl ⟨_, _, _, _, rfl, rfl, h.sq, h1, q w _ (Go.refl w) j h2⟩
      · subst a1
        cases rx with
        | tup h r =>
          obtain ⟨v, h1, h2⟩ := atI_rv r a2
          exact .inr (.inl ⟨_, _, _, _, rfl, rfl, h.sq, h1, q w _ (Go.refl w) j h2⟩)
    · subst a1
      cases rx
      exact .inr (.inr ⟨_, _, _, rfl, rfl, a2, a3, q w _ (Go.refl w) j (.str _)⟩)
theorem xe_ix (ha : XE G X a ta) (hb : XE G X b tb) (hs : PlainIx b) : XE G X (.Subscript a b pos) (xBin ta tb oIx) :=
  ⟨bin_mo ha hb od_ix, (pe_ix ix_seq ha.pe hb.pe hs).imp (bin_to ha hb od_ix)⟩
def cutD (ds : List PyData) (lo hi : Option Int) : List PyData := (ds.drop (HT.sIx ds.length 0 lo)).take (HT.sIx ds.length ds.length hi - HT.sIx ds.length 0 lo)
theorem cut_rv {w : Wd} {vs : List V} {ds : List PyData} {lo hi : Option Int} (r : RvL K w vs ds) : RvL K w (cutV vs lo hi) (cutD ds lo hi) := by
  unfold cutV cutD
  rw [r.len]
  exact (r.drop _).take _
abbrev TPo := List S → Nat → (Option Int → Nat → Prop) → Prop
structure XO (G : Ct) (X : Cx) (e : Option Expr) (t : TPo) : Prop where
  mo : ∀ E g Q Q', (∀ d g', Q d g' → Q' d g') → t E g Q → t E g Q'
  po : PO X e (fun σ H Q => ∃ cl E g as, G.J g ⟨H, cl⟩ ∧ EnvR X.K G ⟨H, cl⟩ E σ as ∧ t E g fun o g' => ∀ u, Go ⟨H, cl⟩ u → G.J g' u → Q o u.H)
@[simp] def xoNone : TPo := fun _ g Q => Q none g
@[simp] def xoSome (t : TX) : TPo := fun E g Q => t E g fun d g' => ∃ i, d = .int i ∧ Q (some i) g'
theorem _root_.L2.PO.imp {e : Option Expr} {t t' : TO} (h : PO X e t) (w : ∀ σ H Q, t' σ H Q → t σ H Q) : PO X e t' := ⟨fun pins s σ H Q I q => h.run pins s σ H Q I (w σ H Q q)⟩
theorem xo_none : XO G X none xoNone := ⟨fun E g Q Q' hq q => hq _ _ q, po_none.imp fun σ H Q ⟨cl, E, g, as, j, r, q⟩ => q ⟨H, cl⟩ (Go.refl _) j⟩
theorem xo_some (h : XE G X e te) : XO G X (some e) (xoSome te) := by
  refine ⟨fun E g Q Q' hq q => h.mo _ _ _ _ (fun d g1 ⟨i, e, q1⟩ => ⟨i, e, hq _ _ q1⟩) q, (po_some h.pe).imp fun σ H Q ⟨cl, E, g, as, j, rE, q⟩ => ?_⟩
  refine ⟨cl, E, g, as, j, rE, h.mo _ _ _ _ (fun d g1 ⟨i, e, q1⟩ u v go1 j1 rv1 => ?_) q⟩
  subst e
  cases rv1
  exact ⟨i, rfl, q1 u go1 j1⟩
def oCut (d : PyData) (lo hi : Option Int) (g : Nat) (Q : PyData → Nat → Prop) : Prop := match d with
  | .list ds => Q (.list (cutD ds lo hi)) g
  | .tuple ds => Q (.tuple (cutD ds lo hi)) g
  | _ => False
@[simp] def xSlice (te : TX) (tl th : TPo) : TX := fun E g Q => te E g fun d g1 => tl E g1 fun lo g2 => th E g2 fun hi g3 => oCut d lo hi g3 Q
theorem oCut_mo {d : PyData} {lo hi : Option Int} {g : Nat} {Q Q' : PyData → Nat → Prop} (hq : ∀ d g', Q d g' → Q' d g') (q : oCut d lo hi g Q) : oCut d lo hi g Q' := by
  unfold oCut at *
  split at q <;> first | exact hq _ _ q | exact q
theorem cut_all {ds : List PyData} {lo hi : Option Int} (h : HT.sIx ds.length 0 lo = 0 ∧ HT.sIx ds.length ds.length hi = ds.length) : cutD ds lo hi = ds := by
  unfold cutD
  rw [h.1, h.2, List.drop_zero, Nat.sub_zero, List.take_length]
theorem xe_slice {lo hi : Option Expr} {tl th : TPo} {p2 : Pos} (he : XE G X e te) (hl : XO G X lo tl) (hh : XO G X hi th) : XE G X (.Subscript e (.Slice lo hi none p2) pos) (xSlice te tl th) := by
  refine ⟨fun E g Q Q' hq q => he.mo _ _ _ _ (fun d g1 q1 => hl.mo _ _ _ _ (fun l g2 q2 => hh.mo _ _ _ _ (fun h g3 q3 => oCut_mo hq q3) q2) q1) q, (pe_slice (SlR.or sl_tupF sl_list) he.pe hl.po hh.po).imp fun σ H Q ⟨cl, E, g, as, j, rE, q⟩ => ?_⟩
  refine ⟨cl, E, g, as, j, rE, he.mo _ _ _ _ (fun d g1 q1 u v go1 j1 rv1 => ?_) q⟩
  refine ⟨u.cl, E, g1, as, j1, rE.go go1, hl.mo _ _ _ _ (fun l g2 q2 u2 go2 j2 => ?_) q1⟩
  refine ⟨u2.cl, E, g2, as, j2, rE.go (go1.trans go2), hh.mo _ _ _ _ (fun h g3 q3 u3 go3 j3 => ?_) q2⟩
  have rv3 := (rv1.go go2).go go3
  have go := (go1.trans go2).trans go3
  unfold oCut at q3
  split at q3
  · cases rv3 with
    | lst hL r => exact .inr ⟨_, _, rfl, hL.sq, fun p np => q3 (u3.new p _ 0) _ (go.trans (Go.new' np 0)) (G.st0 (Go0.new np 0) j3) (new_lst np (cut_rv r))⟩
  · have rv4 := rv3
    cases rv3 with
    | tup hT r =>
      refine .inl ⟨_, _, rfl, hT.sq, fun hw => ?_, fun hw p o np hd => q3 (u3.new p _ 0) _ (go.trans (Go.new' np 0)) (G.st0 (Go0.new np 0) j3) (new_tup np hd (cut_rv r))⟩
      rw [r.len] at hw
      refine q3 u3 _ go j3 ?_
      rw [cut_all hw]
      exact rv4
  · exact q3.elim
/-! ### built-ins by values -/
/-- what a call of a built-in gives, by data -/
abbrev CD := List PyData → Nat → (PyData → Nat → Prop) → Prop
structure CallD (G : Ct) (K : PySem.W.Frag) (r : List V → Hp → VK → Prop) (cd : CD) : Prop where
  mo : ∀ ds g Q Q', (∀ d g', Q d g' → Q' d g') → cd ds g Q → cd ds g Q'
  to : ∀ (w : Wd) (g : Nat) (vs : List V) (ds : List PyData) (Q : VK), G.J g w → RvL K w vs ds → (cd ds g fun z g' => ∀ u v, Go w u → G.J g' u → Rv K u v z → Q v u.H) → r vs w.H Q
@[simp] def xCB (t : TL') (cd : CD) : TX := fun E g Q => t E g fun ss g1 => ∃ ds, dsOf ss = some ds ∧ cd ds g1 Q
section
variable {es : List Expr} {t : TL'} {cd : CD} {r : List V → Hp → VK → Prop} {x : Str} {p : Pos} {id T : String}
theorem cb_mo (ha : XA G X es t) (hd : CallD G X.K r cd) : ∀ E g Q Q', (∀ d g', Q d g' → Q' d g') → xCB t cd E g Q → xCB t cd E g Q' :=
  fun E g Q Q' hq q => ha.mo _ _ _ _ (fun ss g1 ⟨ds, e, q1⟩ => ⟨ds, e, hd.mo _ _ _ _ hq q1⟩) q
theorem cb_to (ha : XA G X es t) (hd : CallD G X.K r cd) : ∀ σ H Q, lift X.K G (xCB t cd) σ H Q → tCB r (liftA X.K G t) σ H Q := by
  intro σ H Q ⟨cl, E, g, as, j, rE, q⟩
  refine ⟨cl, E, g, as, j, rE, ha.mo _ _ _ _ (fun ss g1 ⟨ds, e, q1⟩ u vs go1 j1 rs => ?_) q⟩
  exact hd.to u g1 vs ds Q j1 (rs.ds e) (hd.mo _ _ _ _ (fun z g2 q2 u2 v2 go2 j2 rv => q2 u2 v2 (go1.trans go2) j2 rv) q1)
theorem xe_callB (hc : CallR X (.builtin id) r) (hd : CallD G X.K r cd) (hg : Gl X x) (hm : X.mg x = none) (hv : bootBuiltins x = some (.builtin id)) (ha : XA G X (e :: es) t) (hn : x ≠ "__name__" := by decide) (hdb : (x == ("__debug__" : Str)) = false := by decide)
    (he : starEach (e :: es) X.env = (false, eval e X.env) :: starEach es X.env := by rfl) (hpl : (backTo pos (starEach es X.env)).any (·.1) = false := by rfl) : XE G X (.Call (.Name x p) (e :: es) [] pos) (xCB t cd) :=
  ⟨cb_mo ha hd, (pe_callB hc hg hm hv ha.pa hn hdb he hpl).imp (cb_to ha hd)⟩
theorem xe_callTy (hc : CallR X (.type T) r) (hd : CallD G X.K r cd) (hg : Gl X x) (hm : X.mg x = none) (hv : bootBuiltins x = some (.type T)) (ha : XA G X (e :: es) t) (hn : x ≠ "__name__" := by decide) (hdb : (x == ("__debug__" : Str)) = false := by decide)
    (he : starEach (e :: es) X.env = (false, eval e X.env) :: starEach es X.env := by rfl) (hpl : (backTo pos (starEach es X.env)).any (·.1) = false := by rfl) : XE G X (.Call (.Name x p) (e :: es) [] pos) (xCB t cd) :=
  ⟨cb_mo ha hd, (pe_callTy hc hg hm hv ha.pa hn hdb he hpl).imp (cb_to ha hd)⟩
end
def cLen : CD := fun ds g Q => match ds with
  | [.list l] => Q (.int l.length) g
  | [.tuple l] => Q (.int l.length) g
  | [.str s] => s.length ≤ sizeLine ∧ Q (.int s.length) g
  | _ => False
def rLenA (K : PySem.W.Frag) : List V → Hp → VK → Prop := fun xs H Q => (∃ p ys, xs = [.ref p] ∧ (SqL K H p ys ∨ SqT K H p ys) ∧ Q (.int ys.length) H) ∨ (∃ z, xs = [.str z] ∧ z.length ≤ sizeLine ∧ Q (.int z.length) H)
theorem call_lenA : CallR X (.builtin "len") (rLenA X.K) := CallR.or call_len_seq call_len_str
theorem cd_len : CallD G K (rLenA K) cLen := by
  refine ⟨fun ds g Q Q' hq q => ?_, fun w g vs ds Q j r q => ?_⟩
  · unfold cLen at *; split at q <;> first | exact hq _ _ q | exact ⟨q.1, hq _ _ q.2⟩ | exact q
  · unfold cLen at q
    split at q
    · cases r with
      | cons h t =>
        cases t
        cases h with
        | lst h r => exact .inl ⟨_, _, rfl, .inl h.sq, by rw [r.len]; exact q w _ (Go.refl w) j (.int _)⟩
    · cases r with
      | cons h t =>
        cases t
        cases h with
        | tup h r => exact .inl ⟨_, _, rfl, .inr h.sq, by rw [r.len]; exact q w _ (Go.refl w) j (.int _)⟩
    · cases r with
      | cons h t =>
        cases t
        cases h
        exact .inr ⟨_, rfl, q.1, q.2 w _ (Go.refl w) j (.int _)⟩
    · exact q.elim
/-- tuple(a list), tuple(a tuple); list(..) -/
def cTup : CD := fun ds g Q => match ds with
  | [.list l] => Q (.tuple l) g
  | [.tuple l] => Q (.tuple l) g
  | _ => False
theorem cd_tup : CallD G K (fun xs H Q => ∃ p ys, xs = [.ref p] ∧ ((SqL K H p ys ∧ ∀ l o, H l = none → o.dict = none → Q (.ref l) (upd H l (tupO o ys))) ∨ (SqT K H p ys ∧ Q (.ref p) H))) cTup := by
  refine ⟨fun ds g Q Q' hq q => ?_, fun w g vs ds Q j r q => ?_⟩
  · unfold cTup at *; split at q <;> first | exact hq _ _ q | exact q
  · unfold cTup at q
    split at q
    · cases r with
      | cons h t =>
        cases t
        cases h with
        | lst h r => exact ⟨_, _, rfl, .inl ⟨h.sq, fun p o np hd => q (w.new p _ 0) _ (Go.new' np 0) (G.st0 (Go0.new np 0) j) (new_tup np hd r)⟩⟩
    · cases r with
      | cons h t =>
        cases t
        have h0 := h
        cases h with
        | tup h r => exact ⟨_, _, rfl, .inr ⟨h.sq, q w _ (Go.refl w) j h0⟩⟩
    · exact q.elim
def cLst : CD := fun ds g Q => match ds with
  | [.list l] => Q (.list l) g
  | [.tuple l] => Q (.list l) g
  | _ => False
theorem cd_lst : CallD G K (fun xs H Q => ∃ p ys, xs = [.ref p] ∧ (SqL K H p ys ∨ SqT K H p ys) ∧ ∀ l, H l = none → Q (.ref l) (upd H l (.lst ys))) cLst := by
  refine ⟨fun ds g Q Q' hq q => ?_, fun w g vs ds Q j r q => ?_⟩
  · unfold cLst at *; split at q <;> first | exact hq _ _ q | exact q
  · unfold cLst at q
    split at q
    · cases r with
      | cons h t =>
        cases t
        cases h with
        | lst h r => exact ⟨_, _, rfl, .inl h.sq, fun p np => q (w.new p _ 0) _ (Go.new' np 0) (G.st0 (Go0.new np 0) j) (new_lst np r)⟩
    · cases r with
      | cons h t =>
        cases t
        cases h with
        | tup h r => exact ⟨_, _, rfl, .inr h.sq, fun p np => q (w.new p _ 0) _ (Go.new' np 0) (G.st0 (Go0.new np 0) j) (new_lst np r)⟩
    · exact q.elim
/-- min, max of two; int(n) -/
def cI2 (f : Int → Int → Int) : CD := fun ds g Q => match ds with
  | [.int i, .int j] => Q (.int (f i j)) g
  | _ => False
theorem cd_I2 {f : Int → Int → Int} : CallD G K (fun xs H Q => ∃ i j, xs = [.int i, .int j] ∧ Q (.int (f i j)) H) (cI2 f) := by
  refine ⟨fun ds g Q Q' hq q => ?_, fun w g vs ds Q j r q => ?_⟩
  · unfold cI2 at *; split at q <;> first | exact hq _ _ q | exact q
  · unfold cI2 at q
    split at q
    · cases r with
      | cons h t =>
        cases t with
        | cons h' t =>
          cases t; cases h; cases h'
          exact ⟨_, _, rfl, q w _ (Go.refl w) j (.int _)⟩
    · exact q.elim
@[simp] abbrev cMax : CD := cI2 fun i j => if j > i then j else i
@[simp] abbrev cMin : CD := cI2 fun i j => if j < i then j else i
def cInt : CD := fun ds g Q => match ds with
  | [.int i] => Q (.int i) g
  | [.bool b] => Q (.int (if b then 1 else 0)) g
  | _ => False
theorem cd_int : CallD G K (fun xs H Q => (∃ i, xs = [.int i] ∧ Q (.int i) H) ∨ ∃ k, xs = [.bl k] ∧ Q (.int (if k then 1 else 0)) H) cInt := by
  refine ⟨fun ds g Q Q' hq q => ?_, fun w g vs ds Q j r q => ?_⟩
  · unfold cInt at *; split at q <;> first | exact hq _ _ q | exact q
  · unfold cInt at q
    split at q
    · cases r with
      | cons h t => cases t; cases h; exact .inl ⟨_, rfl, q w _ (Go.refl w) j (.int _)⟩
    · cases r with
      | cons h t => cases t; cases h; exact .inr ⟨_, rfl, q w _ (Go.refl w) j (.int _)⟩
    · exact q.elim
/-- all, any of a list of truths -/
@[simp] def bools : List PyData → Option (List Bool)
  | [] => some []
  | .bool b :: r => (bools r).map (b :: ·)
  | _ :: _ => none
theorem bools_rv {w : Wd} : ∀ {vs : List V} {ds : List PyData} {bs : List Bool}, RvL K w vs ds → bools ds = some bs → vs = bs.map V.bl
  | _, _, bs, .nil, e => by cases e; rfl
  | _, _, bs, .cons (d := d) (ds := ds) h t, e => by
    cases d with
    | bool b =>
      have e' : (bools ds).map (b :: ·) = some bs := e
      cases q : bools ds with
      | none => rw [q] at e'; cases e'
      | some r =>
        rw [q] at e'
        cases e'
        cases h
        rw [bools_rv t q]
        rfl
    | _ => cases e
@[simp] def cAll : CD := fun ds g Q => ∃ l bs, ds = [.list l] ∧ bools l = some bs ∧ Q (.bool (bs.all id)) g
@[simp] def cAny : CD := fun ds g Q => ∃ l bs, ds = [.list l] ∧ bools l = some bs ∧ Q (.bool (bs.any id)) g
theorem cd_all : CallD G K (rAll K) cAll := by
  refine ⟨fun ds g Q Q' hq ⟨l, bs, e, e2, q⟩ => ⟨l, bs, e, e2, hq _ _ q⟩, fun w g vs ds Q j r ⟨l, bs, e, e2, q⟩ => ?_⟩
  subst e
  cases r with
  | cons h t =>
    cases t
    cases h with
    | lst h r =>
      have e3 := bools_rv r e2
      subst e3
      exact ⟨_, bs, rfl, h.sq, q w _ (Go.refl w) j (.bl _)⟩
theorem cd_any : CallD G K (rAny K) cAny := by
  refine ⟨fun ds g Q Q' hq ⟨l, bs, e, e2, q⟩ => ⟨l, bs, e, e2, hq _ _ q⟩, fun w g vs ds Q j r ⟨l, bs, e, e2, q⟩ => ?_⟩
  subst e
  cases r with
  | cons h t =>
    cases t
    cases h with
    | lst h r =>
      have e3 := bools_rv r e2
      subst e3
      exact ⟨_, bs, rfl, h.sq, q w _ (Go.refl w) j (.bl _)⟩
end
end TL

namespace TL
open PySem PySem.Spec PyProof.Rows L2

/-! ### enumerate of a tuple -/
set_option maxHeartbeats 1000000 in
theorem meets_enum1 {v : Value} {o : Obj} {H : Heap → Prop} (B : Begins v o H) :
    Meets (Builtin.«enumerate.__new__» ⟨[.type "enumerate", v], []⟩) (fun _ R s => H s.heap ∧
      R (.ok (.ret (.ref (s.heap.push o).objs.size))) { s with heap := (s.heap.push o).push { cls := .type "enumerate", data := .fields #[.none, .bool false, .ref s.heap.objs.size, rawInt 0, .none, .none] } }) :=
  .of_wp fun prog w A R s h => by
    obtain ⟨hp, g, d, tk, os⟩ := s; obtain ⟨h1, h⟩ := h
    have hsub := sub_enumerate
    have q1 : ∀ {A' : Around} {E : Value → Shared → Prop} {Q : Value → Shared → Prop}, Q (.ref hp.objs.size) ⟨hp.push o, g, d, tk, os⟩ → wpAny (model prog w) A' (pyIter v) Q E ⟨hp, g, d, tk, os⟩ :=
      fun q => B.iter prog w _ _ ⟨hp, g, d, tk, os⟩ _ h1 q
    wp_walk using q1
    refine wpAny_stack_any fun st => wpAny_pure ?_
    split
    · rename_i c _ _ _ _ _
      cases (c == Value.type "enumerate")
      · wp_walk using q1
        exact ⟨_, rfl, h⟩
      · wp_walk using q1
        exact ⟨_, rfl, h⟩
    · wp_walk using q1
      exact ⟨_, rfl, h⟩
theorem enum_begins1 {prog : Program} {w : World} {A : Around} {E : Value → Shared → Prop} {s : Shared} {v : Value} {o : Obj} {H : Heap → Prop} {Q : Value → Shared → Prop} (B : Begins v o H) (h1 : H s.heap)
    (h : ∀ h', IsEnum h' (s.heap.objs.size + 1) s.heap.objs.size 0 .none → h'.get? s.heap.objs.size = some o → h'.objs.size = s.heap.objs.size + 2 →
      (∀ b o, s.heap.get? b = some o → h'.get? b = some o) → Q (.ref (s.heap.objs.size + 1)) { s with heap := h' }) : wpAny (model prog w) A (call (.type "enumerate") [v]) Q E s := by
  refine callType_new F.called_enumerate (by decide) (F.typeCall_enumerate_1 _) (F.newCall_enumerate_1 _) (fun obj => F.args_object_init_2 obj _) F.entry_enumerate_new (meets_enum1 B) ⟨h1, ?_⟩
  have hz : (s.heap.push o).objs.size = s.heap.objs.size + 1 := Heap.size_push ..
  show _ ∧ _
  rw [hz]
  have he : IsEnum ((s.heap.push o).push { cls := .type "enumerate", data := .fields #[.none, .bool false, .ref s.heap.objs.size, rawInt 0, .none, .none] }) (s.heap.objs.size + 1) s.heap.objs.size 0 .none := by
    have := Heap.get?_push_size (s.heap.push o) (o := { cls := .type "enumerate", data := .fields #[.none, .bool false, .ref s.heap.objs.size, rawInt 0, .none, .none] }) rfl
    rw [hz] at this; exact this
  exact ⟨⟨_, he, rfl⟩, h _ he (Heap.get?_push_of_some _ (Heap.get?_push_size _ B.free)) (by rw [Heap.size_push, hz]) fun b o x => Heap.get?_push_of_some _ (Heap.get?_push_of_some _ x)⟩
def IteT (K : PySem.W.Frag) (a : Addr) : It :=
  ⟨fun i H => ∃ (xs : List V) (x : V), SqT K H a xs ∧ xs[i]? = some x, fun i H v H' => ∃ T x, v = .ref T ∧ H T = none ∧ H' = upd H T (.tup [.int (i : Nat), x]) ∧ ∀ xs, SqT K H a xs → xs[i]? = some x, fun i H => ∃ xs : List V, SqT K H a xs ∧ xs.length ≤ i⟩
theorem turn_enumT {P : Program} {w : World} {K : PySem.W.Frag} {elts : List Expr} {kk : Nat} {tpos : Pos} (a e it : Addr) :
    Turn P w K (.Tuple elts kk tpos) (IteT K a) [e, it] e (fun i h => (∃ old, IsEnum h e it ((i : Nat) : Int) old) ∧ h.IsTupleIter it a i ∧ e ≠ it) where
  mem := by simp
  obj := fun i h st b hb => by
    obtain ⟨⟨old, he⟩, ⟨o, ho, hc, hd⟩, _⟩ := st
    have e' : b = e ∨ b = it := by simpa using hb
    rcases e' with z | z
    · rw [z]; exact ⟨_, he, fun v q => nomatch q⟩
    · rw [z]; exact ⟨o, ho, fun v q => by rw [hd] at q; cases q⟩
  keep := fun i h h' st k => let ⟨⟨old, he⟩, hi, hne⟩ := st; ⟨⟨old, k e (by simp) _ he⟩, hi.at fun o q => k it (by simp) o q, hne⟩
  item := by
    intro X hP hw hK hc i pins s σ H E I hf st hg
    subst hP hw hK
    obtain ⟨⟨old, he⟩, hit, hne⟩ := st
    obtain ⟨xs, x, hq, hx⟩ := hg
    obtain ⟨its, rv, p, hz⟩ := I.tuple hq
    obtain ⟨u, hu, ru⟩ := rv.get hx
    have hel : e < s.heap.objs.size := Heap.lt_size he
    have hil : it < s.heap.objs.size := by obtain ⟨_, q, _⟩ := hit; exact Heap.lt_size q
    have pT : s.heap.IsTuple a its.toArray := p
    obtain ⟨oa, hoa, hca, na, hda⟩ := id pT
    have ait : a ≠ it := fun z => by
      obtain ⟨o2, ho2, hc2, _⟩ := hit
      rw [← z, hoa] at ho2
      cases ho2
      rw [hca] at hc2
      revert hc2
      decide +kernel
    have ea : e ≠ a := fun z => by
      rw [z] at he
      have he' : s.heap.get? a = some _ := he
      rw [hoa] at he'
      cases he'
      exact absurd hca (by show Value.type "enumerate" ≠ Value.type "tuple"; decide +kernel)
    have hlt : i < its.toArray.size := by
      have := (List.getElem?_eq_some_iff.mp hu).1
      simpa using this
    refine wpAny_pyNext_enum_itemC (Draws.tuple (prog := X.prog) (w := X.w) (A := X.A.in1) (I.ok.hd hc) it a ait its.toArray) he ⟨hit, pT⟩ hlt hne (by simp [hne, ea]) fun x' h' tk hP ho hst hT hsz hk => ?_
    have ex : x' = u := by
      have h2 : its.toArray[i]? = some u := by simpa using hu
      rw [h2] at hP
      exact (Option.some.inj hP).symm
    subst ex
    refine ⟨_, rfl, wpAny_letOwnedTupleGo_enum (s := { s with heap := h', toks := tk + 1 }) ho fun h'' he' sb => ?_⟩
    have hT2 : h''.get? s.heap.objs.size = some { cls := .type "tuple", data := .seq #[.int i tk, x'] } := (sb.2 _ (Nat.ne_of_gt hel)).trans hT
    have new : ObjOk X.prog X.w (upd H s.heap.objs.size (.tup [.int (i : Nat), x])) h'' s.heap.objs.size (.tup [.int (i : Nat), x]) :=
      ⟨by show 2 ≤ sizeLine; decide, [.int i tk, x'], .cons ⟨_, rfl⟩ (.cons ru .nil), ⟨_, hT2, rfl, _, rfl⟩⟩
    have I1 : Inv X pins σ (upd H s.heap.objs.size (.tup [.int (i : Nat), x])) { s with heap := h'', toks := tk + 1 } :=
      I.turnedNew (ch := [e, it]) (fun b ob hb q => (sb.2 b (fun z => hb (by simp [z]))).trans (hk b ob (fun z => hb (by simp [z])) (fun z => hb (by simp [z])) q)) hf (Nat.le_refl _) new
    refine ⟨.ref s.heap.objs.size, _, I1, rfl, ⟨_, x, rfl, I.hok.fresh (Nat.le_refl _), rfl, fun ys hy => by rw [I.tuple_inj hy hq]; exact hx⟩, ⟨⟨x', ?_⟩, hst.1.at fun o q => (sb.2 it (Ne.symm hne)).trans q, hne⟩, fun b hb => ?_⟩
    · have e1 : ((i + 1 : Nat) : Int) = (i : Int) + 1 := by omega
      rw [e1]; exact he'
    · have hb' : b < s.heap.objs.size := by
        have e' : b = e ∨ b = it := by simpa using hb
        rcases e' with z | z
        · rw [z]; exact hel
        · rw [z]; exact hil
      rw [upd_ne (Nat.ne_of_lt hb')]
      exact (hf b hb).1
  done := by
    intro X hP hw hK hc i pins s σ H E I hf st hg
    subst hP hw hK
    obtain ⟨⟨old, he⟩, hit, hne⟩ := st
    obtain ⟨xs, hq, hx⟩ := hg
    obtain ⟨its, rv, p, hz⟩ := I.tuple hq
    obtain ⟨f0, f1, f2, f3, f4, f5⟩ := hf it (by simp)
    have hl := rv.length
    have pT : s.heap.IsTuple a its.toArray := p
    -- at its end
    have hT : s.TypeIs (.ref e) "enumerate" := ⟨_, he, rfl⟩
    unfold pyNext
    refine wpAny_bind (wpAny_attempt (wpAny_callSpecial?_slot (name := Str.ofString "__next__") hT F.slot_enumerate_next
      (wpAny_call_entry F.slot_enumerate_next hT F.entry_enumerate_next ?_ (F.args_enumerate_next_1 _))))
    show wpAny _ _ (field (.ref e) 2 >>= _) _ _ _
    refine wpAny_bind (wpAny_field he rfl (x := .ref it) rfl ?_)
    refine wpAny_bind (wpAny_nextOf_tuple_end (show X.A.in1.handled = none from I.ok.hd hc) hit pT (by simp; omega) fun h' x he' hx' => ?_)
    obtain ⟨o, ho, hcls⟩ := hx'
    refine wpAny_bind (wpAny_isInstance (T := "StopIteration") (b := true) ⟨o, ho, hcls⟩ isSubtype_stop ?_)
    exact wpAny_pure ⟨rfl, I.turned (t' := s.toks) (fun b o hb q => he' b o hb q) f0 f1 f3 f4 f5⟩
  self := fun A i s Q E st h => let ⟨⟨_, he⟩, _⟩ := st; wpAny_pyIter_enum he h
end TL

namespace TL
open PySem PySem.Spec PyProof.Rows L2 RZ
section
variable {K : PySem.W.Frag}
@[simp] def enumD : Nat → List PyData → List PyData
  | _, [] => []
  | i, d :: r => .tuple [.int i, d] :: enumD (i + 1) r
theorem enumD_len : ∀ (l : List PyData) (i : Nat), (enumD i l).length = l.length
  | [], _ => rfl
  | d :: r, i => by
    show (enumD (i + 1) r).length + 1 = r.length + 1
    rw [enumD_len r]
theorem enumD_get : ∀ (l : List PyData) (i j : Nat) (d : PyData), (enumD i l)[j]? = some d → ∃ x, l[j]? = some x ∧ d = .tuple [.int ((i + j : Nat) : Int), x]
  | [], _, _, _, h => by simp [enumD] at h
  | x :: r, i, 0, d, h => ⟨x, rfl, (Option.some.inj h).symm⟩
  | x :: r, i, j + 1, d, h => by
    obtain ⟨y, h1, h2⟩ := enumD_get r (i + 1) j d h
    refine ⟨y, h1, ?_⟩
    rw [h2, show i + 1 + j = i + (j + 1) by omega]
theorem weak_pair {w : Wd} {T : Addr} {x y : V} {dx dy : PyData} (n : w.H T = none) (rx : Rv K w x dx) (ry : Rv K w y dy) : Rw K (w.new T (.tup [x, y]) 0) true (.ref T) (.tuple [dx, dy]) :=
  .inr ⟨rfl, T, [x, y], [dx, dy], rfl, rfl, .inl (.inl upd_same), .cons (rx.go (Go.new' n 0)) (.cons (ry.go (Go.new' n 0)) .nil)⟩
theorem wk_enumT {a : Addr} {xs : List V} {ds : List PyData} : Wk K true (IteT K a) (enumD 0 ds) fun w => TupA K w a xs ∧ RvL K w xs ds where
  pu := fun w u h p => ⟨h.1.pu p, h.2.pu p⟩
  go := fun i w h l => by
    have l' : i < xs.length := by rw [h.2.len]; rw [enumD_len] at l; exact l
    exact ⟨xs, xs[i], h.1.sq, List.getElem?_eq_getElem l'⟩
  stop := fun i w h l => ⟨xs, h.1.sq, by rw [h.2.len]; rw [enumD_len] at l; exact l⟩
  yld := fun i w v H' d h e y => by
    obtain ⟨T, x, e1, nT, e2, y⟩ := y
    subst e1 e2
    obtain ⟨dx, h1, h2⟩ := enumD_get ds 0 i d e
    subst h2
    obtain ⟨x', e2, rv⟩ := h.2.get h1
    have e3 := y xs h.1.sq
    rw [e2] at e3
    cases e3
    refine ⟨w.new T _ 0, rfl, Go0.new nT 0, ?_⟩
    have := weak_pair (K := K) nT (.int ((0 + i : Nat) : Int)) rv
    rw [Nat.zero_add] at this ⊢
    exact this
theorem wk_enumL {a : Addr} {xs : List V} {ds : List PyData} : Wk K true (Ite K a) (enumD 0 ds) fun w => LstA K w a xs ∧ RvL K w xs ds where
  pu := fun w u h p => ⟨h.1.pu p, h.2.pu p⟩
  go := fun i w h l => by
    have l' : i < xs.length := by rw [h.2.len]; rw [enumD_len] at l; exact l
    exact ⟨xs, xs[i], h.1.sq, List.getElem?_eq_getElem l'⟩
  stop := fun i w h l => ⟨xs, h.1.sq, by rw [h.2.len]; rw [enumD_len] at l; exact l⟩
  yld := fun i w v H' d h e y => by
    obtain ⟨T, x, e1, nT, e2, y⟩ := y
    subst e1 e2
    obtain ⟨dx, h1, h2⟩ := enumD_get ds 0 i d e
    subst h2
    obtain ⟨x', e2, rv⟩ := h.2.get h1
    have e3 := y xs h.1.sq
    rw [e2] at e3
    cases e3
    refine ⟨w.new T _ 0, rfl, Go0.new nT 0, ?_⟩
    have := weak_pair (K := K) nT (.int ((0 + i : Nat) : Int)) rv
    rw [Nat.zero_add] at this ⊢
    exact this
theorem wk_zipL {a b : Addr} {xs ys : List V} {ds es : List PyData} : Wk K true (Itz K a b) (zipD ds es) fun w => (LstA K w a xs ∧ RvL K w xs ds) ∧ (LstA K w b ys ∧ RvL K w ys es) where
  pu := fun w u h p => ⟨⟨h.1.1.pu p, h.1.2.pu p⟩, ⟨h.2.1.pu p, h.2.2.pu p⟩⟩
  go := fun i w h l => by
    rw [zipD_len] at l
    have l1 : i < xs.length := by rw [h.1.2.len]; omega
    have l2 : i < ys.length := by rw [h.2.2.len]; omega
    exact ⟨xs, ys, xs[i], ys[i], h.1.1.sq, h.2.1.sq, List.getElem?_eq_getElem l1, List.getElem?_eq_getElem l2⟩
  stop := fun i w h l => by
    rw [zipD_len] at l
    refine ⟨xs, ys, h.1.1.sq, h.2.1.sq, ?_⟩
    rw [h.1.2.len, h.2.2.len]; omega
  yld := fun i w v H' d h e y => by
    obtain ⟨T, x, z, e1, nT, e2, y1, y2⟩ := y
    subst e1 e2
    obtain ⟨dx, dy, h1, h2, h3⟩ := zipD_get ds es i d e
    subst h3
    obtain ⟨x', q1, r1⟩ := h.1.2.get h1
    obtain ⟨y', q2, r2⟩ := h.2.2.get h2
    have e3 := y1 xs h.1.1.sq
    have e4 := y2 ys h.2.1.sq
    rw [q1] at e3
    rw [q2] at e4
    cases e3; cases e4
    exact ⟨w.new T _ 0, rfl, Go0.new nT 0, weak_pair nT r1 r2⟩
theorem wk_zipT {a b : Addr} {xs ys : List V} {ds es : List PyData} : Wk K true (ItzT K a b) (zipD ds es) fun w => (TupA K w a xs ∧ RvL K w xs ds) ∧ (TupA K w b ys ∧ RvL K w ys es) where
  pu := fun w u h p => ⟨⟨h.1.1.pu p, h.1.2.pu p⟩, ⟨h.2.1.pu p, h.2.2.pu p⟩⟩
  go := fun i w h l => by
    rw [zipD_len] at l
    have l1 : i < xs.length := by rw [h.1.2.len]; omega
    have l2 : i < ys.length := by rw [h.2.2.len]; omega
    exact ⟨xs, ys, xs[i], ys[i], h.1.1.sq, h.2.1.sq, List.getElem?_eq_getElem l1, List.getElem?_eq_getElem l2⟩
  stop := fun i w h l => by
    rw [zipD_len] at l
    refine ⟨xs, ys, h.1.1.sq, h.2.1.sq, ?_⟩
    rw [h.1.2.len, h.2.2.len]; omega
  yld := fun i w v H' d h e y => by
    obtain ⟨T, x, z, e1, nT, e2, y1, y2⟩ := y
    subst e1 e2
    obtain ⟨dx, dy, h1, h2, h3⟩ := zipD_get ds es i d e
    subst h3
    obtain ⟨x', q1, r1⟩ := h.1.2.get h1
    obtain ⟨y', q2, r2⟩ := h.2.2.get h2
    have e3 := y1 xs h.1.1.sq
    have e4 := y2 ys h.2.1.sq
    rw [q1] at e3
    rw [q2] at e4
    cases e3; cases e4
    exact ⟨w.new T _ 0, rfl, Go0.new nT 0, weak_pair nT r1 r2⟩
end
section
variable {G : Ct} {X : Cx} {e e2 : Expr} {t : TL'} {p pos tpos : Pos} {elts : List Expr} {kk : Nat}
/-- a PE of arguments that are all data -/
@[simp] def xiEnum (t : TL') : TWk := fun E g Q => t E g fun ss g1 => ∃ ds, (ss = [.v (.list ds)] ∨ ss = [.v (.tuple ds)]) ∧ Q (enumD 0 ds) g1
def iEnumA (K : PySem.W.Frag) (ta : TA) : TI := fun σ H R => ta σ H fun vs H1 => ∃ a xs, vs = [.ref a] ∧ ((SqL K H1 a xs ∧ R (Ite K a) H1) ∨ (SqT K H1 a xs ∧ R (IteT K a) H1))
theorem pi_enumA {e : Expr} {ta : TA} (hg : Gl X "enumerate") (hm : X.mg "enumerate" = none) (ha : PA X [e] ta) (hs : starEach [e] X.env = [(false, eval e X.env)] := by rfl) : PI X (.Tuple elts kk tpos) (.Call (.Name "enumerate" p) [e] [] pos) (iEnumA X.K ta) := by
  refine ⟨fun pins s σ H R I h => Call_ (ld_blt I hg hm boot_enumerate (PyProof.Rows.callWith_type1 (thn (ha.run pos pins s σ H _ I h) fun us s1 ⟨vs, H1, I1, r1, q1⟩ => ?_) hs rfl))⟩
  obtain ⟨a, xs, ex, q1⟩ := q1
  subst ex
  cases r1 with
  | cons r rr =>
    cases rr
    cases r
    have fp2 : ∀ b ∈ [s1.heap.objs.size + 1, s1.heap.objs.size], FpOk X pins H1 b := fun b hb => by
      have e' : b = s1.heap.objs.size + 1 ∨ b = s1.heap.objs.size := by simpa using hb
      have hle : s1.heap.objs.size ≤ b := by
        rcases e' with z | z
        · rw [z]; exact Nat.le_add_right _ _
        · rw [z]; exact Nat.le_refl _
      exact I1.fpOk hle (I1.hok.fresh hle)
    rcases q1 with ⟨hq, q⟩ | ⟨hq, q⟩
    · obtain ⟨its, rv, p', hz⟩ := I1.list hq
      refine call_enumerate_list p'.isList fun h' he hit hsz hk => wpAny_pyIter_enum he ?_
      exact ⟨s1.heap.objs.size + 1, [s1.heap.objs.size + 1, s1.heap.objs.size], _, _, H1, rfl, I1.kept (t' := s1.toks) hk, turn_enum a (s1.heap.objs.size + 1) s1.heap.objs.size, ⟨⟨.none, he⟩, hit, Nat.succ_ne_self _⟩, fp2, q⟩
    · obtain ⟨its, rv, p', hz⟩ := I1.tuple hq
      refine enum_begins1 (begins_tuple a its.toArray) (show s1.heap.IsTuple a its.toArray from p') fun h' he hit hsz hk => wpAny_pyIter_enum he ?_
      exact ⟨s1.heap.objs.size + 1, [s1.heap.objs.size + 1, s1.heap.objs.size], _, _, H1, rfl, I1.kept (t' := s1.toks) hk, turn_enumT a (s1.heap.objs.size + 1) s1.heap.objs.size, ⟨⟨.none, he⟩, ⟨_, hit, rfl, rfl⟩, Nat.succ_ne_self _⟩, fp2, q⟩
theorem xi_enum (hg : Gl X "enumerate") (hm : X.mg "enumerate" = none) (ha : XA G X [e] t) (hs : starEach [e] X.env = [(false, eval e X.env)] := by rfl) : XI G X true (.Tuple elts kk tpos) (.Call (.Name "enumerate" p) [e] [] pos) (xiEnum t) := by
  refine ⟨fun E g Q Q' hq q => ha.mo _ _ _ _ (fun ss g1 ⟨ds, e1, q⟩ => ⟨ds, e1, hq _ _ q⟩) q, (pi_enumA hg hm ha.pa hs).imp fun σ H R ⟨cl, E, g, as, j, r, q⟩ => ?_⟩
  refine ⟨cl, E, g, as, j, r, ha.mo _ _ _ _ (fun ss g1 ⟨ds, e1, q1⟩ u vs go1 j1 rs => ?_) q⟩
  rcases e1 with e1 | e1
  · subst e1
    cases rs with
    | v h t =>
      cases t
      cases h with
      | lst hL hr => exact ⟨_, _, rfl, .inl ⟨hL.sq, q1 u _ _ go1 j1 wk_enumL ⟨hL, hr⟩⟩⟩
  · subst e1
    cases rs with
    | v h t =>
      cases t
      cases h with
      | tup hL hr => exact ⟨_, _, rfl, .inr ⟨hL.sq, q1 u _ _ go1 j1 wk_enumT ⟨hL, hr⟩⟩⟩
@[simp] def xiZip (t : TL') : TWk := fun E g Q => t E g fun ss g1 => ∃ ds es, (ss = [.v (.list ds), .v (.list es)] ∨ ss = [.v (.tuple ds), .v (.tuple es)]) ∧ Q (zipD ds es) g1
theorem xi_zip (hg : Gl X "zip") (hm : X.mg "zip" = none) (ha : XA G X [e, e2] t) (hs : starEach [e, e2] X.env = (false, eval e X.env) :: starEach [e2] X.env := by rfl) (hpl : (backTo pos (starEach [e2] X.env)).any (·.1) = false := by rfl) : XI G X true (.Tuple elts kk tpos) (.Call (.Name "zip" p) [e, e2] [] pos) (xiZip t) := by
  refine ⟨fun E g Q Q' hq q => ha.mo _ _ _ _ (fun ss g1 ⟨ds, es, e1, q⟩ => ⟨ds, es, e1, hq _ _ q⟩) q, (pi_zipA hg hm ha.pa hs hpl).imp fun σ H R ⟨cl, E, g, as, j, r, q⟩ => ?_⟩
  refine ⟨cl, E, g, as, j, r, ha.mo _ _ _ _ (fun ss g1 ⟨ds, es, e1, q1⟩ u vs go1 j1 rs => ?_) q⟩
  rcases e1 with e1 | e1
  · subst e1
    cases rs with
    | v h t =>
      cases t with
      | v h' t =>
        cases t
        cases h with
        | lst hL hr =>
          cases h' with
          | lst hL' hr' => exact ⟨_, _, _, _, rfl, .inl ⟨hL.sq, hL'.sq, q1 u _ _ go1 j1 wk_zipL ⟨⟨hL, hr⟩, ⟨hL', hr'⟩⟩⟩⟩
  · subst e1
    cases rs with
    | v h t =>
      cases t with
      | v h' t =>
        cases t
        cases h with
        | tup hL hr =>
          cases h' with
          | tup hL' hr' => exact ⟨_, _, _, _, rfl, .inr ⟨hL.sq, hL'.sq, q1 u _ _ go1 j1 wk_zipT ⟨⟨hL, hr⟩, ⟨hL', hr'⟩⟩⟩⟩
end

/-! ### isinstance -/
@[simp] def tyD : PyData → String
  | .none => "NoneType"
  | .bool _ => "bool"
  | .int _ => "int"
  | .str _ => "str"
  | .list _ => "list"
  | .tuple _ => "tuple"
  | .dict _ => "dict"
def isiD (T : String) (d : PyData) : Bool := (kitB (tyD d) T).getD false
theorem rv_ty {K : PySem.W.Frag} {w : Wd} {v : V} {d : PyData} (r : Rv K w v d) : TyX K w.H v (.type (tyD d)) := by
  cases r with
  | non => exact .base .non
  | bl b => exact .base (.bl b)
  | int i => exact .base (.int i)
  | str x => exact .base (.str x)
  | lst h r =>
    rcases h with ⟨h | ⟨o, h⟩, _⟩ | (h | ⟨_, h⟩) | ⟨o, its, n, h1, h2, _⟩
    · exact .base (.lst h)
    · exact .base (.frz h)
    · cases h
    · cases h
    · exact .kList h1 h2
  | tup h r =>
    rcases h with ⟨o, h, _, _⟩ | ⟨(h | ⟨_, h⟩) | ⟨o, its, n, h1, h2, _⟩, _⟩
    · rcases tupO_rd h with h | ⟨o', h⟩
      · exact .base (.tup h)
      · exact .fTuple h
    · cases h
    · cases h
    · exact .kTuple h1 h2
  | dic h l r =>
    rcases h with ⟨h | ⟨o, h⟩, _⟩
    · exact .base (.dK h)
    · exact .fDict h
section
variable {G : Ct} {X : Cx} {e : Expr} {te : TX} {p pos : Pos}
@[simp] def xIsi (T : String) (te : TX) : TX := fun E g Q => te E g fun d g1 => Q (.bool (isiD T d)) g1
theorem xe_isi {T : String} {x : Str} {px : Pos} (hT : ∀ d : PyData, (kitB (tyD d) T).isSome = true) (hg : Gl X "isinstance") (hm : X.mg "isinstance" = none) (hx : Gl X x) (hmx : X.mg x = none) (hv : bootBuiltins x = some (.type T)) (he : XE G X e te)
    (hn : x ≠ "__name__" := by decide) (hdx : (x == ("__debug__" : Str)) = false := by decide)
    (s2 : starEach [.Name x px] X.env = (false, eval (.Name x px) X.env) :: starEach [] X.env := by rfl) (s1 : starEach (e :: [.Name x px]) X.env = (false, eval e X.env) :: starEach [.Name x px] X.env := by rfl) (hpl : (backTo pos (starEach [.Name x px] X.env)).any (·.1) = false := by rfl) :
    XE G X (.Call (.Name "isinstance" p) [e, .Name x px] [] pos) (xIsi T te) := by
  refine ⟨fun E g Q Q' hq q => he.mo _ _ _ _ (fun d g1 q1 => hq _ _ q1) q, (pe_callB call_isi hg hm (by decide +kernel) (pa_cons he.pe (pa_cons (pe_bltn (v := .ty T) hx hmx hv rfl hn hdx) pa_nil s2) s1) (by decide) (by decide) s1 hpl).imp fun σ H Q ⟨cl, E, g, as, j, rE, q⟩ => ?_⟩
  refine ⟨cl, E, g, as, j, rE, he.mo _ _ _ _ (fun d g1 q1 u v go1 j1 rv1 => ?_) q⟩
  refine ⟨v, .ty T, _, _, isiD T d, rfl, .ty T, rv_ty rv1, ?_, q1 u _ go1 j1 (.bl _)⟩
  refine kit_ty ?_
  have h := hT d
  unfold isiD
  cases z : kitB (tyD d) T with
  | none => rw [z] at h; cases h
  | some b => rfl
end

/-! ### dicts as data -/
def keyEq : PyData → PyData → Bool
  | .int i, .int j => decide (i = j)
  | .str x, .str y => decide (x = y)
  | _, _ => false
def lookD : List (PyData × PyData) → PyData → Option PyData
  | [], _ => none
  | (a, b) :: r, k => if keyEq a k = true then some b else lookD r k
theorem keyEq_kD (a b : Key) : keyEq (kD a) (kD b) = decide (a = b) := by
  cases a <;> cases b <;> simp [keyEq, kD]
@[simp] def keyD : PyData → Option Key
  | .int i => some (.inl i)
  | .str x => some (.inr x)
  | _ => none
theorem keyD_kD {d : PyData} {k : Key} (h : keyD d = some k) : d = kD k := by
  cases d with
  | int i => cases h; rfl
  | str x => cases h; rfl
  | _ => cases h
theorem rv_key {K : PySem.W.Frag} {w : Wd} {v : V} {k : Key} (r : Rv K w v (kD k)) : v = kV k := by
  cases k with
  | inl i => cases r; rfl
  | inr x => cases r; rfl
theorem look_rv {K : PySem.W.Frag} {w : Wd} : ∀ {ks : List Key} {xs : List V} {ds : List PyData} (k : Key), ks.length = xs.length → RvL K w xs ds →
    (∀ d, lookD ((ks.map kD).zip ds) (kD k) = some d → ∃ v, valV (ks.zip xs) k = some v ∧ Rv K w v d) ∧ (lookD ((ks.map kD).zip ds) (kD k) = none → valV (ks.zip xs) k = none)
  | [], [], ds, k, _, r => by
    cases r
    exact ⟨fun d h => by simp [lookD] at h, fun _ => rfl⟩
  | a :: ks, x :: xs, _, k, l, .cons (d := dx) (ds := ds) h t => by
    obtain ⟨h1, h2⟩ := look_rv (ks := ks) k (by simpa using l) t
    by_cases e : a = k
    · subst e
      refine ⟨fun d q => ?_, fun q => ?_⟩
      · have q' : (if keyEq (kD a) (kD a) = true then some dx else lookD ((ks.map kD).zip ds) (kD a)) = some d := q
        rw [keyEq_kD, decide_eq_true rfl, if_pos rfl] at q'
        cases q'
        exact ⟨x, valV_pos rfl, h⟩
      · have q' : (if keyEq (kD a) (kD a) = true then some dx else lookD ((ks.map kD).zip ds) (kD a)) = none := q
        rw [keyEq_kD, decide_eq_true rfl, if_pos rfl] at q'
        cases q'
    · refine ⟨fun d q => ?_, fun q => ?_⟩
      · have q' : (if keyEq (kD a) (kD k) = true then some dx else lookD ((ks.map kD).zip ds) (kD k)) = some d := q
        rw [keyEq_kD, decide_eq_false e, if_neg (by decide)] at q'
        obtain ⟨v, e1, e2⟩ := h1 d q'
        exact ⟨v, (valV_neg e).trans e1, e2⟩
      · have q' : (if keyEq (kD a) (kD k) = true then some dx else lookD ((ks.map kD).zip ds) (kD k)) = none := q
        rw [keyEq_kD, decide_eq_false e, if_neg (by decide)] at q'
        exact (valV_neg e).trans (h2 q')
section
variable {G : Ct} {X : Cx} {e o : Expr} {te to : TX} {p pos : Pos}
/-- d[k] -/
@[simp] def xDGet (to te : TX) : TX := fun E g Q => to E g fun d g1 => te E g1 fun y g2 => ∃ kvs k z, d = .dict kvs ∧ keyD y = some k ∧ lookD kvs y = some z ∧ Q z g2
theorem xe_dget (hu : X.A.units + 1 < cLine) (ho : XE G X o to) (he : XE G X e te) (hs : NoSl e) : XE G X (.Subscript o e pos) (xDGet to te) := by
  refine ⟨fun E g Q Q' hq q => ho.mo _ _ _ _ (fun d g1 q1 => he.mo _ _ _ _ (fun y g2 ⟨kvs, k, z, e1, e2, e3, q2⟩ => ⟨kvs, k, z, e1, e2, e3, hq _ _ q2⟩) q1) q, (pe_dget hu ho.pe he.pe hs).imp fun σ H Q ⟨cl, E, g, as, j, rE, q⟩ => ?_⟩
  refine ⟨cl, E, g, as, j, rE, ho.mo _ _ _ _ (fun d g1 q1 u v go1 j1 rv1 => ?_) q⟩
  refine ⟨u.cl, E, g1, as, j1, rE.go go1, he.mo _ _ _ _ (fun y g2 ⟨kvs, k, z, e1, e2, e3, q2⟩ u2 v2 go2 j2 rv2 => ?_) q1⟩
  subst e1
  have e4 := keyD_kD e2
  subst e4
  have e5 := rv_key rv2
  subst e5
  cases rv1.go go2 with
  | dic h l r =>
    obtain ⟨v', h1, h2⟩ := (look_rv k l r).1 z e3
    refine ⟨_, v', rfl, .inl ⟨_, k, h.1, rfl, h1.symm⟩, q2 u2 v' (go1.trans go2) j2 h2⟩
/-- d.get(k, x) -/
@[simp] def xDGetOr (to te tx : TX) : TX := fun E g Q => to E g fun d g1 => ∃ kvs, d = .dict kvs ∧ te E g1 fun y g2 => tx E g2 fun x g3 => (keyD y).isSome = true ∧ Q ((lookD kvs y).getD x) g3
theorem xe_dgetOr {f : Expr} {tx : TX} {apos cpos : Pos} (hu : X.A.units + 1 < cLine) (ho : XE G X o to) (he : XE G X e te) (hf : XE G X f tx) (m : M2 X o "get" apos e f cpos) : XE G X (.Call (.Attribute o "get" apos) [e, f] [] cpos) (xDGetOr to te tx) := by
  refine ⟨fun E g Q Q' hq q => ho.mo _ _ _ _ (fun d g1 ⟨kvs, e1, q1⟩ => ⟨kvs, e1, he.mo _ _ _ _ (fun y g2 q2 => hf.mo _ _ _ _ (fun x g3 ⟨e3, q3⟩ => ⟨e3, hq _ _ q3⟩) q2) q1⟩) q, (pe_dget2 hu ho.pe he.pe hf.pe m).imp fun σ H Q ⟨cl, E, g, as, j, rE, q⟩ => ?_⟩
  refine ⟨cl, E, g, as, j, rE, ho.mo _ _ _ _ (fun d g1 ⟨kvs, e1, q1⟩ u v go1 j1 rv1 => ?_) q⟩
  subst e1
  have rv0 := rv1
  cases rv1 with
  | dic h l r =>
    refine ⟨_, rfl, .inl ⟨_, h.1⟩, u.cl, E, g1, as, j1, rE.go go1, he.mo _ _ _ _ (fun y g2 q2 u2 v2 go2 j2 rv2 => ?_) q1⟩
    refine ⟨u2.cl, E, g2, as, j2, rE.go (go1.trans go2), hf.mo _ _ _ _ (fun x g3 ⟨e3, q3⟩ u3 v3 go3 j3 rv3 => ?_) q2⟩
    cases ek : keyD y with
    | none => rw [ek] at e3; cases e3
    | some k =>
      have e4 := keyD_kD ek
      subst e4
      have e5 := rv_key rv2
      subst e5
      have h' := h.pu (go2.trans go3).pu
      have r' := r.go (go2.trans go3)
      refine ⟨_, .inl ⟨_, k, h'.1, rfl, rfl⟩, q3 u3 _ ((go1.trans go2).trans go3) j3 ?_⟩
      obtain ⟨a1, a2⟩ := look_rv k l r'
      cases z : lookD ((List.map kD _).zip _) (kD k) with
      | none => rw [a2 z]; exact rv3
      | some d =>
        obtain ⟨v', h1, h2⟩ := a1 d z
        rw [h1]; exact h2
end
end TL

namespace TL
open PySem PySem.Spec PyProof.Rows L2 RZ

/-! ### a frame's own lists -/
section
variable {K : PySem.W.Frag} {G : Ct} {w : Wd} {E : List S} {σ : L2.St} {as : List Addr}
theorem EnvR.getHl (h : EnvR K G w E σ as) : ∀ {i : Nat} {l : List PyData}, E[i]? = some (.hl l) → ∃ a xs, σ[i]? = some (some (.ref a)) ∧ w.H a = some (.lst xs) ∧ w.cl a = 1 ∧ RvL K w xs l ∧ G.w0.H a = none ∧ a ∈ as := by
  induction h with
  | nil => intro i l e; simp at e
  | un x _ ih =>
    intro i l e
    cases i with
    | zero => simp at e
    | succ i => simpa using ih (by simpa using e)
  | v h _ ih =>
    intro i l e
    cases i with
    | zero => simp at e
    | succ i => simpa using ih (by simpa using e)
  | tok _ ih =>
    intro i l e
    cases i with
    | zero => simp at e
    | succ i => simpa using ih (by simpa using e)
  | @hl E σ as a xs ds h c n r na _ ih =>
    intro i l e
    cases i with
    | zero =>
      have e' : ds = l := by simpa using e
      subst e'
      exact ⟨a, xs, rfl, h, c, r, n, List.mem_cons_self⟩
    | succ i =>
      obtain ⟨b, ys, h1, h2, h3, h4, h5, h6⟩ := ih (by simpa using e)
      exact ⟨b, ys, by simpa using h1, h2, h3, h4, h5, List.mem_cons_of_mem _ h6⟩
  | @hd E σ as a ks xs ds h c n l' r na _ ih =>
    intro i l e
    cases i with
    | zero => simp at e
    | succ i =>
      obtain ⟨b, ys, h1, h2, h3, h4, h5, h6⟩ := ih (by simpa using e)
      exact ⟨b, ys, by simpa using h1, h2, h3, h4, h5, List.mem_cons_of_mem _ h6⟩
/-- the own list at i is written -/
theorem EnvR.setHl (h : EnvR K G w E σ as) : ∀ {i : Nat} {l : List PyData} {a : Addr} {ys : List V} {l' : List PyData}, E[i]? = some (.hl l) → σ[i]? = some (some (.ref a)) → RvL K w ys l' → EnvR K G ⟨upd w.H a (.lst ys), w.cl⟩ (E.set i (.hl l')) σ as := by
  induction h with
  | nil => intro i l a ys l' e; simp at e
  | @un E σ as x t ih =>
    intro i l a ys l' e es r
    cases i with
    | zero => simp at e
    | succ i => exact .un x (ih (by simpa using e) (by simpa using es) r)
  | @v E σ as x d h t ih =>
    intro i l a ys l' e es r
    cases i with
    | zero => simp at e
    | succ i =>
      obtain ⟨b, xs, h1, h2, h3, _⟩ := t.getHl (i := i) (l := l) (by simpa using e)
      have ea : b = a := by
        have es' : σ[i]? = some (some (.ref a)) := by simpa using es
        rw [es'] at h1
        cases h1; rfl
      subst ea
      exact .v (h.upd' (by rw [h3]; decide)) (ih (by simpa using e) (by simpa using es) r)
  | @tok E σ as t ih =>
    intro i l a ys l' e es r
    cases i with
    | zero => simp at e
    | succ i => exact .tok (ih (by simpa using e) (by simpa using es) r)
  | @hl E σ as b xs ds h c n rr na t ih =>
    intro i l a ys l' e es r
    cases i with
    | zero =>
      have ea : b = a := by
        have es' : some (some (V.ref b)) = some (some (V.ref a)) := by simpa using es
        cases es'; rfl
      subst ea
      have n0 : w.cl b ≠ 0 := by rw [c]; decide
      exact .hl upd_same c n (r.upd' n0) na (t.other n0 na)
    | succ i =>
      obtain ⟨b', xs', h1, h2, h3, _, _, hm⟩ := t.getHl (i := i) (l := l) (by simpa using e)
      have ea : b' = a := by
        have es' : σ[i]? = some (some (.ref a)) := by simpa using es
        rw [es'] at h1
        cases h1; rfl
      subst ea
      have ne : b ≠ b' := fun z => na (by rw [z]; exact hm)
      have n0 : w.cl b' ≠ 0 := by rw [h3]; decide
      exact .hl (Ow_other b _ h ne) c n (rr.upd' n0) na (ih (by simpa using e) (by simpa using es) r)
  | @hd E σ as b ks xs ds h c n l0 rr na t ih =>
    intro i l a ys l' e es r
    cases i with
    | zero => simp at e
    | succ i =>
      obtain ⟨b', xs', h1, h2, h3, _, _, hm⟩ := t.getHl (i := i) (l := l) (by simpa using e)
      have ea : b' = a := by
        have es' : σ[i]? = some (some (.ref a)) := by simpa using es
        rw [es'] at h1
        cases h1; rfl
      subst ea
      have ne : b ≠ b' := fun z => na (by rw [z]; exact hm)
      have n0 : w.cl b' ≠ 0 := by rw [h3]; decide
      exact .hd (Ow_other b _ h ne) c n l0 (rr.upd' n0) na (ih (by simpa using e) (by simpa using es) r)
/-- the own list at i becomes data -/
theorem EnvR.froze (h : EnvR K G w E σ as) : ∀ {i : Nat} {l : List PyData} {a : Addr}, E[i]? = some (.hl l) → σ[i]? = some (some (.ref a)) → ∃ bs, EnvR K G (w.freeze a) (E.set i (.v (.list l))) σ bs ∧ ∀ b ∈ bs, b ∈ as := by
  have keep : ∀ {E : List S} {σ : L2.St} {as : List Addr}, EnvR K G w E σ as → ∀ {a : Addr}, a ∉ as → w.cl a = 1 → EnvR K G (w.freeze a) E σ as := by
    intro E σ as h
    induction h with
    | nil => intro a _ _; exact .nil
    | un x _ ih => intro a na c; exact .un x (ih na c)
    | v h _ ih => intro a na c; exact .v (h.pu freeze_pu) (ih na c)
    | tok _ ih => intro a na c; exact .tok (ih na c)
    | @hl E σ as b xs ds h c n r nb _ ih =>
      intro a na c'
      have ne : b ≠ a := fun z => na (by rw [z]; exact List.mem_cons_self)
      exact .hl h (by show (if b = a then 0 else w.cl b) = 1; rw [if_neg ne]; exact c) n (r.pu freeze_pu) nb (ih (fun z => na (List.mem_cons_of_mem _ z)) c')
    | @hd E σ as b ks xs ds h c n l r nb _ ih =>
      intro a na c'
      have ne : b ≠ a := fun z => na (by rw [z]; exact List.mem_cons_self)
      exact .hd h (by show (if b = a then 0 else w.cl b) = 1; rw [if_neg ne]; exact c) n l (r.pu freeze_pu) nb (ih (fun z => na (List.mem_cons_of_mem _ z)) c')
  induction h with
  | nil => intro i l a e; simp at e
  | @un E σ as x t ih =>
    intro i l a e es
    cases i with
    | zero => simp at e
    | succ i => obtain ⟨bs, h1, h2⟩ := ih (i := i) (by simpa using e) (by simpa using es); exact ⟨bs, .un x h1, h2⟩
  | @v E σ as x d h t ih =>
    intro i l a e es
    cases i with
    | zero => simp at e
    | succ i => obtain ⟨bs, h1, h2⟩ := ih (i := i) (by simpa using e) (by simpa using es); exact ⟨bs, .v (h.pu freeze_pu) h1, h2⟩
  | @tok E σ as t ih =>
    intro i l a e es
    cases i with
    | zero => simp at e
    | succ i => obtain ⟨bs, h1, h2⟩ := ih (i := i) (by simpa using e) (by simpa using es); exact ⟨bs, .tok h1, h2⟩
  | @hl E σ as b xs ds h c n rr na t ih =>
    intro i l a e es
    cases i with
    | zero =>
      have ea : b = a := by
        have es' : some (some (V.ref b)) = some (some (V.ref a)) := by simpa using es
        cases es'; rfl
      have el : ds = l := by simpa using e
      subst ea
      subst el
      exact ⟨as, .v (.lst (.inl ⟨.inl h, if_pos rfl⟩) (rr.pu freeze_pu)) (keep t na c), fun b hb => List.mem_cons_of_mem _ hb⟩
    | succ i =>
      obtain ⟨b', xs', h1, h2, h3, _, _, hm⟩ := t.getHl (i := i) (l := l) (by simpa using e)
      have ea : b' = a := by
        have es' : σ[i]? = some (some (.ref a)) := by simpa using es
        rw [es'] at h1
        cases h1; rfl
      subst ea
      have ne : b ≠ b' := fun z => na (by rw [z]; exact hm)
      obtain ⟨bs, q1, q2⟩ := ih (i := i) (by simpa using e) (by simpa using es)
      refine ⟨b :: bs, .hl h (by show (if b = b' then 0 else w.cl b) = 1; rw [if_neg ne]; exact c) n (rr.pu freeze_pu) (fun z => na (q2 b z)) q1, fun x hx => ?_⟩
      rcases List.mem_cons.mp hx with z | z
      · rw [z]; exact List.mem_cons_self
      · exact List.mem_cons_of_mem _ (q2 x z)
  | @hd E σ as b ks xs ds h c n l0 rr na t ih =>
    intro i l a e es
    cases i with
    | zero => simp at e
    | succ i =>
      obtain ⟨b', xs', h1, h2, h3, _, _, hm⟩ := t.getHl (i := i) (l := l) (by simpa using e)
      have ea : b' = a := by
        have es' : σ[i]? = some (some (.ref a)) := by simpa using es
        rw [es'] at h1
        cases h1; rfl
      subst ea
      have ne : b ≠ b' := fun z => na (by rw [z]; exact hm)
      obtain ⟨bs, q1, q2⟩ := ih (i := i) (by simpa using e) (by simpa using es)
      refine ⟨b :: bs, .hd h (by show (if b = b' then 0 else w.cl b) = 1; rw [if_neg ne]; exact c) n l0 (rr.pu freeze_pu) (fun z => na (q2 b z)) q1, fun x hx => ?_⟩
      rcases List.mem_cons.mp hx with z | z
      · rw [z]; exact List.mem_cons_self
      · exact List.mem_cons_of_mem _ (q2 x z)
/-- a new own list at i -/
theorem EnvR.newHl (h : EnvR K G w E σ as) : ∀ (i : Nat) {p : Addr}, w.H p = none → G.w0.H p = none → i < E.length → ∃ bs, EnvR K G (w.new p (.lst []) 1) (E.set i (.hl [])) (σ.set i (some (.ref p))) bs ∧ ∀ b ∈ bs, b ∈ as ∨ b = p := by
  have fresh : ∀ {p : Addr} {as : List Addr} {E : List S} {σ : L2.St}, EnvR K G w E σ as → w.H p = none → p ∉ as := fun {p as E σ} h n z => by
    obtain ⟨⟨o, e⟩, _⟩ := h.own p z
    rw [n] at e; cases e
  induction h with
  | nil => intro i p _ _ hi; simp at hi
  | @un E σ as x t ih =>
    intro i p n n0 hi
    cases i with
    | zero => exact ⟨p :: as, .hl upd_same (if_pos rfl) n0 .nil (fresh t n) (t.go (Go.new' n 1)), fun b hb => by rcases List.mem_cons.mp hb with z | z; exact .inr z; exact .inl z⟩
    | succ i => obtain ⟨bs, h1, h2⟩ := ih i n n0 (by simpa using hi); exact ⟨bs, .un x h1, h2⟩
  | @v E σ as x d h t ih =>
    intro i p n n0 hi
    cases i with
    | zero => exact ⟨p :: as, .hl upd_same (if_pos rfl) n0 .nil (fresh t n) (t.go (Go.new' n 1)), fun b hb => by rcases List.mem_cons.mp hb with z | z; exact .inr z; exact .inl z⟩
    | succ i => obtain ⟨bs, h1, h2⟩ := ih i n n0 (by simpa using hi); exact ⟨bs, .v (h.go (Go.new' n 1)) h1, h2⟩
  | @tok E σ as t ih =>
    intro i p n n0 hi
    cases i with
    | zero => exact ⟨p :: as, .hl upd_same (if_pos rfl) n0 .nil (fresh t n) (t.go (Go.new' n 1)), fun b hb => by rcases List.mem_cons.mp hb with z | z; exact .inr z; exact .inl z⟩
    | succ i => obtain ⟨bs, h1, h2⟩ := ih i n n0 (by simpa using hi); exact ⟨bs, .tok h1, h2⟩
  | @hl E σ as b xs ds h c nn rr na t ih =>
    intro i p n n0 hi
    have nbp : b ≠ p := fun z => by rw [z, n] at h; cases h
    cases i with
    | zero => exact ⟨p :: as, .hl upd_same (if_pos rfl) n0 .nil (fresh t n) (t.go (Go.new' n 1)), fun x hx => by rcases List.mem_cons.mp hx with z | z; exact .inr z; exact .inl (List.mem_cons_of_mem _ z)⟩
    | succ i =>
      obtain ⟨bs, h1, h2⟩ := ih i n n0 (by simpa using hi)
      refine ⟨b :: bs, .hl (by show upd w.H p (.lst []) b = some (.lst xs); rw [upd_ne nbp]; exact h) (by show (if b = p then 1 else w.cl b) = 1; rw [if_neg nbp]; exact c) nn (rr.go (Go.new' n 1)) (fun z => by
        rcases h2 b z with q | q
        · exact na q
        · exact nbp q) h1, fun x hx => ?_⟩
      rcases List.mem_cons.mp hx with z | z
      · rw [z]; exact .inl List.mem_cons_self
      · rcases h2 x z with q | q
        · exact .inl (List.mem_cons_of_mem _ q)
        · exact .inr q
  | @hd E σ as b ks xs ds h c nn l0 rr na t ih =>
    intro i p n n0 hi
    have nbp : b ≠ p := fun z => by rw [z, n] at h; cases h
    cases i with
    | zero => exact ⟨p :: as, .hl upd_same (if_pos rfl) n0 .nil (fresh t n) (t.go (Go.new' n 1)), fun x hx => by rcases List.mem_cons.mp hx with z | z; exact .inr z; exact .inl (List.mem_cons_of_mem _ z)⟩
    | succ i =>
      obtain ⟨bs, h1, h2⟩ := ih i n n0 (by simpa using hi)
      refine ⟨b :: bs, .hd (by show upd w.H p (.lst []) b = some _; rw [upd_ne nbp]; exact h) (by show (if b = p then 1 else w.cl b) = 1; rw [if_neg nbp]; exact c) nn l0 (rr.go (Go.new' n 1)) (fun z => by
        rcases h2 b z with q | q
        · exact na q
        · exact nbp q) h1, fun x hx => ?_⟩
      rcases List.mem_cons.mp hx with z | z
      · rw [z]; exact .inl List.mem_cons_self
      · rcases h2 x z with q | q
        · exact .inl (List.mem_cons_of_mem _ q)
        · exact .inr q
end
section
variable {G : Ct} {X : Cx} {e : Expr} {te : TX} {pos : Pos}
theorem go_fresh {w u : Wd} {p : Addr} (g : Go w u) (n : u.H p = none) : w.H p = none := by
  cases z : w.H p with
  | none => rfl
  | some o =>
    obtain ⟨o', h⟩ := g.tr p o z
    rw [n] at h; cases h
/-- x = [], x the frame's own -/
@[simp] def xOwn (i : Nat) : TSt := fun k E g => i < E.length ∧ k.nx (E.set i (.hl [])) g
theorem xs_own (i : Nat) {x : Str} {p1 p2 : Pos} (h : PS X (.Assign [.Name x p1] (.List [] p2) pos) (tAsg (tLst tNil) (gName i))) : XS G X (.Assign [.Name x p1] (.List [] p2) pos) (xOwn i) := by
  refine ⟨fun k k' E g h ⟨l, q⟩ => ⟨l, h.nx _ _ q⟩, h.imp fun D σ H ⟨cl, E, g, as, j, go, r, hi, q⟩ => ⟨Nat.zero_le _, fun p np => ?_⟩⟩
  obtain ⟨bs, r1, _⟩ := r.newHl i np (go_fresh go np) hi
  exact q _ _ bs (G.st0 (Go0.new np 1) j) (go.trans (Go.new' np 1)) (Go.new' np 1).pu r1
/-- x.append(e), x the frame's own -/
@[simp] def xApp (i : Nat) (te : TX) : TSt := fun k E g => ∃ l, E[i]? = some (.hl l) ∧ l.length < sizeLine ∧ te E g fun d g1 => k.nx (E.set i (.hl (l ++ [d]))) g1
theorem xs_app (i : Nat) {s : Stmt} (he : XE G X e te) (h : ∀ te', PE X e te' → PS X s (tDrop (tBM X.K "list" rAppend (tVar i) (tCons te' tNil)))) : XS G X s (xApp i te) := by
  refine ⟨fun k k' E g h ⟨l, e1, e2, q⟩ => ⟨l, e1, e2, he.mo _ _ _ _ (fun d g1 q1 => h.nx _ _ q1) q⟩, (h _ he.pe).imp fun D σ H ⟨cl, E, g, as, j, go, r, l, e1, e2, q⟩ => ?_⟩
  obtain ⟨a, xs, h1, h2, h3, h4, h5, _⟩ := r.getHl e1
  refine ⟨.ref a, h1, .inl ⟨rfl, _, .inl (.inl h2)⟩, cl, E, g, as, j, r, he.mo _ _ _ _ (fun d g1 q1 u v go1 j1 rv => ?_) q⟩
  have c2 : (⟨H, cl⟩ : Wd).cl a ≠ 2 := by rw [h3]; decide
  have hu : u.H a = some (.lst xs) := (go1.st a _ h2).2 c2
  have cu : u.cl a = 1 := ((go1.st a _ h2).1).trans h3
  have r4 := h4.go go1
  refine ⟨a, xs, v, rfl, rfl, hu, by rw [h4.len]; exact e2, ?_⟩
  exact q1 ⟨upd u.H a (.lst (xs ++ [v])), u.cl⟩ σ as (write_j j1 (by rw [cu]; decide)) (write_go (go.trans go1) h5) (go1.pu.trans (write_pu (by rw [cu]; decide))) ((r.go go1).setHl e1 h1 (r4.app (.cons rv .nil)))
/-- from here on the own list at i is data -/
@[simp] def xFrz (i : Nat) (t : TSt) : TSt := fun k E g => ∃ l, E[i]? = some (.hl l) ∧ t k (E.set i (.v (.list l))) g
theorem xss_frz (i : Nat) {sts : List Stmt} {t : TSt} (h : XSs G X sts t) : XSs G X sts (xFrz i t) := by
  refine ⟨fun k k' E g hk ⟨l, e, q⟩ => ⟨l, e, h.mo _ _ _ _ hk q⟩, h.ps.imp fun D σ H ⟨cl, E, g, as, j, go, r, l, e, q⟩ => ?_⟩
  obtain ⟨a, xs, h1, h2, h3, h4, h5, _⟩ := r.getHl e
  obtain ⟨bs, r', _⟩ := r.froze e h1
  have c2 : (⟨H, cl⟩ : Wd).cl a ≠ 2 := by rw [h3]; decide
  exact ⟨((⟨H, cl⟩ : Wd).freeze a).cl, E.set i (.v (.list l)), g, bs, freeze_j j c2, freeze_go go h5, r', h.mo _ _ _ _ (ktOf_le freeze_pu) q⟩
end

/-! ### dict(pairs) of a tuple or a list -/
section
variable {G : Ct} {X : Cx} {K : PySem.W.Frag}
@[simp] def pairD : PyData → Option (Key × PyData)
  | .tuple [.int i, d] => some (.inl i, d)
  | .tuple [.str x, d] => some (.inr x, d)
  | _ => none
@[simp] def pairsD : List PyData → Option (List (Key × PyData))
  | [] => some []
  | d :: r => match pairD d, pairsD r with
    | some p, some l => some (p :: l)
    | _, _ => none
/-- dict(t): keys apart, not empty -/
@[simp] def cDict : CD := fun ds g Q => ∃ l kvs, ds = [.tuple l] ∧ l ≠ [] ∧ pairsD l = some kvs ∧ (kvs.map (·.1)).Nodup ∧ Q (.dict (kvs.map fun p => (kD p.1, p.2))) g
/-- a tuple without a dict of its own -/
def TupN (K : PySem.W.Frag) (H : Hp) (a : Addr) (xs : List V) : Prop := (∃ o : Obj, H a = some (.frz o (.tup xs)) ∧ o.dict = none) ∨ (SqT K (fun _ => none) a xs ∧ ∀ o, K.lookup a = some o → o.dict = none)
theorem tupN_at {pins : List (Addr × Obj)} {σ : L2.St} {H : Hp} {s : Shared} {a : Addr} {xs : List V} (I : Inv X pins σ H s) (h : TupN X.K H a xs) : ∃ (o : Obj) (its : List Value) (n : Nat), s.heap.get? a = some o ∧ o.cls = .type "tuple" ∧ o.dict = none ∧ o.data = .seq its.toArray n ∧ Vals xs its ∧ xs.length ≤ sizeLine := by
  rcases h with ⟨o, h, d⟩ | ⟨(h | ⟨_, h⟩) | ⟨o, its, n, h1, h2, h3, h4, h5⟩, d⟩
  · obtain ⟨ho, z, its, rv, ot, ho2, hc, n, hdat⟩ := (show ObjOk X.prog X.w H s.heap a (.frz o (.tup xs)) from I.hok a _ h)
    rw [ho] at ho2
    cases ho2
    exact ⟨o, its, n, ho, hc, d, hdat, rv, z⟩
  · cases h
  · cases h
  · have l := h5.length
    simp only [Array.length_toList] at l
    exact ⟨o, its.toList, n, I.kIn a o h1, h2, d o h1, by simpa using h3, h5, by omega⟩
def rDictT : List V → Hp → VK → Prop := fun vs H Q => ∃ (a : Addr) (ps : List Addr) (kvs : List (Key × V)), vs = [.ref a] ∧ TupN K H a (ps.map V.ref) ∧
  Paired (fun p kv => SqT K H p [kV kv.1, kv.2]) ps kvs ∧ (kvs.map (·.1)).Nodup ∧ ∀ p, H p = none → Q (.ref p) (upd H p (.dK kvs))
theorem putK_snoc {kvs : List (Key × V)} {k : Key} {v : V} (h : k ∉ kvs.map (·.1)) : putK kvs k v = kvs ++ [(k, v)] := putK_new v (by
  induction kvs with
  | nil => rfl
  | cons p r ih =>
    have h1 : ¬ p.1 = k := fun e => h (by simp [e])
    rw [valV_neg h1]
    exact ih fun z => h (by simp at z ⊢; exact .inr z))
theorem mergeK_nodup : ∀ (l acc : List (Key × V)), ((acc ++ l).map (·.1)).Nodup → mergeK acc l = acc ++ l
  | [], acc, _ => by simp [mergeK]
  | p :: r, acc, h => by
    have hp : p.1 ∉ acc.map (·.1) := by
      rw [List.map_append, List.nodup_append] at h
      intro z
      exact h.2.2 p.1 z p.1 (by simp) rfl
    show mergeK (putK acc p.1 p.2) r = acc ++ p :: r
    rw [putK_snoc hp, mergeK_nodup r (acc ++ [(p.1, p.2)]) (by simpa using h)]
    simp
theorem call_dictT (hcalm : X.calm = true) : CallR X (.type "dict") (rDictT (K := X.K)) := by
  intro pins s σ H xs us Q I r ⟨a, ps, kvs, ex, hH, hp, hnd, q⟩
  subst ex
  obtain ⟨u, eu, rx⟩ := vals1 r
  subst eu
  cases rx
  obtain ⟨o, its, n, ho, hc, hd, hdat, rv, z⟩ := tupN_at I hH
  have ei := refs_at rv
  subst ei
  rw [List.length_map] at z
  obtain ⟨prs, rel, hl, hpr⟩ := pairs_of I hp
  -- the keys as they stand
  have key : ∀ (j : Nat) (q' : Key × Value), prs[j]? = some q' → ∃ (b : Addr) (u : Value), ps[j]? = some b ∧ IsTup s.heap b #[u, q'.2] ∧ keyIs q'.1 u = true := hpr
  let kvp : List (Value × Value) := (List.range prs.length).map fun j => match prs[j]?, ps[j]? with
    | some q', some b => (match s.heap.get? b with
      | some ob => (match ob.data with
        | .seq it _ => (it.getD 0 .none, q'.2)
        | _ => (.none, .none))
      | none => (.none, .none))
    | _, _ => (.none, .none)
  have kvl : kvp.length = prs.length := by simp [kvp]
  have kvg : ∀ (j : Nat) (k v : Value), kvp[j]? = some (k, v) → ∃ (q' : Key × Value) (b : Addr), prs[j]? = some q' ∧ ps[j]? = some b ∧ v = q'.2 ∧ IsTup s.heap b #[k, v] ∧ keyIs q'.1 k = true := by
    intro j k v e
    have hj : j < prs.length := by
      have := (List.getElem?_eq_some_iff.mp e).1
      rw [kvl] at this
      exact this
    have e1 : prs[j]? = some prs[j] := List.getElem?_eq_getElem hj
    obtain ⟨b, u, e2, ht, hk⟩ := key j _ e1
    obtain ⟨ob, hob, hcb, nb, hdb⟩ := id ht
    have e3 : kvp[j]? = some (u, prs[j].2) := by
      simp only [kvp, List.getElem?_map, List.getElem?_range hj, Option.map_some, e1, e2, hob, hdb]
      rfl
    rw [e3] at e
    cases e
    exact ⟨_, b, e1, e2, rfl, ht, hk⟩
  have hpl : ps.length = kvp.length := by rw [kvl, hl]
  let Ts : Nat → Addr := fun j => ps.getD j 0
  refine PySem.call_dict_pairs (knd := mixKind X.prog X.w) (kvs := prs) (T := "tuple") (PairArg.tuple a (ps.map Value.ref).toArray Ts kvp) (I.ok.hd hcalm) ⟨⟨o, n, ho, hc, hd, hdat⟩, by simp [hpl], fun j k v e => ?_⟩ ⟨kvl.symm, fun i key' v e => ?_⟩ (by rw [← hpl]; exact z) fun h' tk hd' k => ?_
  · obtain ⟨q', b, e1, e2, e3, e4, e5⟩ := kvg j k v e
    have et : Ts j = b := by simp [Ts, List.getD, e2]
    rw [et]
    exact ⟨by simp [e2], .inl e4⟩
  · obtain ⟨q', b, e1, e2, e3, e4, e5⟩ := kvg i key' v e
    subst e3
    exact ⟨q'.1, by rw [e1], e5⟩
  · have hm : (s.heap.objs.size == sysModules) = false := beq_eq_false_iff_ne.mpr (Nat.ne_of_gt I.big)
    have em : mergeK [] kvs = kvs := by
      have := mergeK_nodup kvs [] (by simpa using hnd)
      simpa using this
    have kvr : KV kvs (merged [] prs) := by
      have := KV.merge (more := kvs) (rs := prs) (kvs := []) (vs := []) rel .nil
      rw [em] at this
      exact this
    have hlen : kvs.length ≤ sizeLine := by
      rw [rel.length, hl]
      exact z
    exact ⟨.ref s.heap.objs.size, upd H s.heap.objs.size (.dK kvs), I.laid (t' := tk) (fun b o' e => k b o' (by simp) e) (Nat.le_refl _) (show ObjOk X.prog X.w _ _ _ (.dK kvs) from ⟨hlen, hm, merged [] prs, kvr, hd'⟩), rfl, q _ (I.hok.fresh (Nat.le_refl _))⟩
theorem pairsD_rv {w : Wd} : ∀ {l : List PyData} {xs : List V} {kvs : List (Key × PyData)}, RvL K w xs l → pairsD l = some kvs → ∃ (ps : List Addr) (ys : List V), xs = ps.map V.ref ∧ kvs.length = ys.length ∧ RvL K w ys (kvs.map (·.2)) ∧ Paired (fun p (kv : Key × V) => SqT K w.H p [kV kv.1, kv.2]) ps ((kvs.map (·.1)).zip ys)
  | [], _, _, .nil, e => by cases e; exact ⟨[], [], rfl, rfl, .nil, .nil⟩
  | d :: r, _, kvs, .cons h t, e => by
    have e' : (match pairD d, pairsD r with | some p, some l => some (p :: l) | _, _ => none) = some kvs := e
    cases e1 : pairD d with
    | none => rw [e1] at e'; cases e'
    | some p =>
      cases e2 : pairsD r with
      | none => rw [e1, e2] at e'; cases e'
      | some l =>
        rw [e1, e2] at e'
        cases e'
        obtain ⟨ps, ys, h1, h2, h3, h4⟩ := pairsD_rv t e2
        unfold pairD at e1
        split at e1
        · cases e1
          cases h with
          | tup hT hr =>
            cases hr with
            | cons hk hr =>
              cases hr with
              | cons hv hr =>
                cases hr
                cases hk
                exact ⟨_ :: ps, _ :: ys, by rw [h1]; rfl, by simp [h2], .cons hv h3, .cons hT.sq h4⟩
        · cases e1
          cases h with
          | tup hT hr =>
            cases hr with
            | cons hk hr =>
              cases hr with
              | cons hv hr =>
                cases hr
                cases hk
                exact ⟨_ :: ps, _ :: ys, by rw [h1]; rfl, by simp [h2], .cons hv h3, .cons hT.sq h4⟩
        · cases e1
theorem tupA_n {w : Wd} {a : Addr} {p : Addr} {ps : List Addr} (h : TupA K w a ((p :: ps).map V.ref)) : TupN K w.H a ((p :: ps).map V.ref) := by
  rcases h with ⟨o, h, d, _⟩ | h
  · exact .inl ⟨o, h, d⟩
  · exact .inr h
theorem cd_dict : CallD G K (rDictT (K := K)) cDict := by
  refine ⟨fun ds g Q Q' hq ⟨l, kvs, e1, e2, e3, e4, q⟩ => ⟨l, kvs, e1, e2, e3, e4, hq _ _ q⟩, fun w g vs ds Q j r ⟨l, kvs, e1, e2, e3, e4, q⟩ => ?_⟩
  subst e1
  cases r with
  | cons h t =>
    cases t
    cases h with
    | tup hT hr =>
      obtain ⟨ps, ys, h1, h2, h3, h4⟩ := pairsD_rv hr e3
      subst h1
      cases ps with
      | nil =>
        cases hr
        exact absurd rfl e2
      | cons p ps =>
        have hl : (kvs.map (·.1)).length = ys.length := by simpa using h2
        refine ⟨_, p :: ps, (kvs.map (·.1)).zip ys, rfl, tupA_n hT, h4, ?_, fun x nx => ?_⟩
        · rw [List.map_fst_zip (by omega)]; exact e4
        · have rv : Rv K (w.new x (.dK ((kvs.map (·.1)).zip ys)) 0) (.ref x) (.dict (((kvs.map (·.1)).map kD).zip (kvs.map (·.2)))) := .dic ⟨.inl upd_same, if_pos rfl⟩ hl (h3.go (Go.new' nx 0))
          have ez : ((kvs.map (·.1)).map kD).zip (kvs.map (·.2)) = kvs.map fun p => (kD p.1, p.2) := by
            rw [List.map_map, List.zip_map']; rfl
          rw [ez] at rv
          exact q (w.new x _ 0) _ (Go.new' nx 0) (G.st0 (Go0.new nx 0) j) rv
end
/-! ### a module's own dict with text keys -/
/-- it stands at d, and tells what tbl tells -/
structure KTab (K : PySem.W.Frag) (w : World) (d : Addr) (tbl : List (Str × PyData)) : Prop where
  ex : ∃ es n, KDict K w d es n
  look : ∀ z : Str, ∃ r, PySem.W.nsIn K d z = some r ∧ (match tbl.lookup z with
    | some dt => ∃ u v, r = some u ∧ RelV v u ∧ ∀ wd, Rv K wd v dt
    | none => r = none)
section
variable {G : Ct} {X : Cx} {e : Expr} {te : TX} {p pos : Pos} {x : Str} {d : Addr} {tbl : List (Str × PyData)}
@[simp] def xKIn (neg : Bool) (tbl : List (Str × PyData)) (te : TX) : TX := fun E g Q => te E g fun y g1 => ∃ z, y = .str z ∧ Q (.bool (if neg then !(tbl.lookup z).isSome else (tbl.lookup z).isSome)) g1
def oKIn (neg : Bool) (tbl : List (Str × PyData)) : OD := fun y _ g Q => ∃ z, y = .str z ∧ Q (.bool (if neg then !(tbl.lookup z).isSome else (tbl.lookup z).isSome)) g
theorem ktab_some {K : PySem.W.Frag} {w : World} (h : KTab K w d tbl) (z : Str) : ∃ r, PySem.W.nsIn K d z = some r ∧ r.isSome = (tbl.lookup z).isSome := by
  obtain ⟨r, h1, h2⟩ := h.look z
  refine ⟨r, h1, ?_⟩
  cases q : tbl.lookup z with
  | none => rw [q] at h2; rw [h2]; rfl
  | some dt =>
    rw [q] at h2
    obtain ⟨u, v, e, _⟩ := h2
    rw [e]; rfl
theorem xe_kin (T : KTab X.K X.w d tbl) (he : XE G X e te) (hg : Gl X x) (hm : X.mg x = some (.ref d)) (hd : (x == ("__debug__" : Str)) = false := by decide) (hk : behindInMarks .In (.Name x p) = false := by rfl) : XE G X (.Compare e [.In] [.Name x p] pos) (xKIn false tbl te) := by
  obtain ⟨es, n, D⟩ := T.ex
  refine ⟨fun E g Q Q' hq q => he.mo _ _ _ _ (fun y g1 ⟨z, e1, q1⟩ => ⟨z, e1, hq _ _ q1⟩) q, (pe_cmpR (op_in_kd D) he.pe (pe_glob (v := .ref d) hg hm rfl hd) hk).imp fun σ H Q ⟨cl, E, g, as, j, rE, q⟩ => ?_⟩
  refine ⟨cl, E, g, as, j, rE, he.mo _ _ _ _ (fun y g1 ⟨z, e1, q1⟩ u v go1 j1 rv1 => ?_) q⟩
  subst e1
  cases rv1
  obtain ⟨r, h1, h2⟩ := ktab_some T z
  exact ⟨z, r, rfl, rfl, h1, by rw [h2]; exact q1 u _ go1 j1 (.bl _)⟩
theorem xe_knotIn (T : KTab X.K X.w d tbl) (he : XE G X e te) (hg : Gl X x) (hm : X.mg x = some (.ref d)) (hd : (x == ("__debug__" : Str)) = false := by decide) (hk : behindInMarks .NotIn (.Name x p) = false := by rfl) : XE G X (.Compare e [.NotIn] [.Name x p] pos) (xKIn true tbl te) := by
  obtain ⟨es, n, D⟩ := T.ex
  refine ⟨fun E g Q Q' hq q => he.mo _ _ _ _ (fun y g1 ⟨z, e1, q1⟩ => ⟨z, e1, hq _ _ q1⟩) q, (pe_cmpR (op_notIn_kd D) he.pe (pe_glob (v := .ref d) hg hm rfl hd) hk).imp fun σ H Q ⟨cl, E, g, as, j, rE, q⟩ => ?_⟩
  refine ⟨cl, E, g, as, j, rE, he.mo _ _ _ _ (fun y g1 ⟨z, e1, q1⟩ u v go1 j1 rv1 => ?_) q⟩
  subst e1
  cases rv1
  obtain ⟨r, h1, h2⟩ := ktab_some T z
  exact ⟨z, r, rfl, rfl, h1, by rw [h2]; exact q1 u _ go1 j1 (.bl _)⟩
/-- NAME[k] -/
@[simp] def xKGet (tbl : List (Str × PyData)) (te : TX) : TX := fun E g Q => te E g fun y g1 => ∃ z dt, y = .str z ∧ tbl.lookup z = some dt ∧ Q dt g1
theorem xe_kget (T : KTab X.K X.w d tbl) (he : XE G X e te) (hg : Gl X x) (hm : X.mg x = some (.ref d)) (hs : PlainIx e) (hd : (x == ("__debug__" : Str)) = false := by decide) : XE G X (.Subscript (.Name x p) e pos) (xKGet tbl te) := by
  obtain ⟨es, n, D⟩ := T.ex
  refine ⟨fun E g Q Q' hq q => he.mo _ _ _ _ (fun y g1 ⟨z, dt, e1, e2, q1⟩ => ⟨z, dt, e1, e2, hq _ _ q1⟩) q, (pe_ix ix_kdict (pe_glob (v := .ref d) hg hm rfl hd) he.pe hs).imp fun σ H Q ⟨cl, E, g, as, j, rE, q⟩ => ?_⟩
  refine ⟨cl, E, g, as, j, rE, he.mo _ _ _ _ (fun y g1 ⟨z, dt, e1, e2, q1⟩ u v go1 j1 rv1 => ?_) q⟩
  subst e1
  cases rv1
  obtain ⟨r, h1, h2⟩ := T.look z
  rw [e2] at h2
  obtain ⟨u0, v0, e3, r0, rd⟩ := h2
  subst e3
  exact ⟨d, z, v0, rfl, rfl, ⟨es, n, u0, D.at_, D.lit, h1, r0⟩, q1 u v0 go1 j1 (rd u)⟩
end
end TL

namespace TL
open PySem PySem.Spec PyProof.Rows L2 RZ
section
variable {G : Ct} {X : Cx} {e : Expr} {te : TX} {t : TL'} {p pos : Pos} {x : Str} {d : Addr} {tbl : List (Str × PyData)}
/-- a, b = x, y with plain local names -/
@[simp] def xPar2 (i j : Nat) (t : TL') : TSt := fun k E g => t E g fun ss g1 => ∃ a b, ss = [.v a, .v b] ∧ k.nx ((E.set i (.v a)).set j (.v b)) g1
theorem xs_par2 (i j : Nat) {s : Stmt} {es : List Expr} (ha : XA G X es t) (h : ∀ ta, PA X es ta → PS X s (tPar i j ta)) : XS G X s (xPar2 i j t) := by
  refine ⟨fun k k' E g h q => ha.mo _ _ _ _ (fun ss g1 ⟨a, b, e1, q1⟩ => ⟨a, b, e1, h.nx _ _ q1⟩) q, (h _ ha.pa).imp fun D σ H ⟨cl, E, g, as, j', go, r, q⟩ => ?_⟩
  refine ⟨cl, E, g, as, j', r, ha.mo _ _ _ _ (fun ss g1 ⟨a, b, e1, q1⟩ u vs go1 j1 rs => ?_) q⟩
  subst e1
  cases rs with
  | v h1 t1 =>
    cases t1 with
    | v h2 t2 =>
      cases t2
      obtain ⟨bs, r1, _⟩ := (r.go go1).set i h1
      obtain ⟨cs, r2, _⟩ := r1.set j h2
      exact ⟨_, _, rfl, q1 u _ cs j1 (go.trans go1) go1.pu r2⟩
@[simp] def xPar3 (i j l : Nat) (t : TL') : TSt := fun k E g => t E g fun ss g1 => ∃ a b c, ss = [.v a, .v b, .v c] ∧ k.nx (((E.set i (.v a)).set j (.v b)).set l (.v c)) g1
theorem xs_par3 (i j l : Nat) {s : Stmt} {es : List Expr} (ha : XA G X es t) (h : ∀ ta, PA X es ta → PS X s (tPar3 i j l ta)) : XS G X s (xPar3 i j l t) := by
  refine ⟨fun k k' E g h q => ha.mo _ _ _ _ (fun ss g1 ⟨a, b, c, e1, q1⟩ => ⟨a, b, c, e1, h.nx _ _ q1⟩) q, (h _ ha.pa).imp fun D σ H ⟨cl, E, g, as, j', go, r, q⟩ => ?_⟩
  refine ⟨cl, E, g, as, j', r, ha.mo _ _ _ _ (fun ss g1 ⟨a, b, c, e1, q1⟩ u vs go1 j1 rs => ?_) q⟩
  subst e1
  cases rs with
  | v h1 t1 =>
    cases t1 with
    | v h2 t2 =>
      cases t2 with
      | v h3 t3 =>
        cases t3
        obtain ⟨bs, r1, _⟩ := (r.go go1).set i h1
        obtain ⟨cs, r2, _⟩ := r1.set j h2
        obtain ⟨ds, r3, _⟩ := r2.set l h3
        exact ⟨_, _, _, rfl, q1 u _ ds j1 (go.trans go1) go1.pu r3⟩
/-- k in NAME, as a test -/
theorem kin_mo {neg : Bool} (he : XE G X e te) : ∀ E g Q Q', (∀ d g', Q d g' → Q' d g') → xKIn neg tbl te E g Q → xKIn neg tbl te E g Q' :=
  fun E g Q Q' hq q => he.mo _ _ _ _ (fun y g1 ⟨z, e1, q1⟩ => ⟨z, e1, hq _ _ q1⟩) q
theorem xc_kin (T : KTab X.K X.w d tbl) (he : XE G X e te) (hg : Gl X x) (hm : X.mg x = some (.ref d)) (hd : (x == ("__debug__" : Str)) = false := by decide) (hk : behindInMarks .In (.Name x p) = false := by rfl) : XC G X (.Compare e [.In] [.Name x p] pos) (xTest (xKIn false tbl te)) := by
  obtain ⟨es, n, D⟩ := T.ex
  refine ⟨xTest_mo (kin_mo he), (pt_cmpR (op_in_kd D) he.pe (pe_glob (v := .ref d) hg hm rfl hd) hk).imp fun σ H Q q => ?_⟩
  obtain ⟨cl, E, g, as, j, rE, q⟩ := xTest_to (K := X.K) (kin_mo he) σ H Q q
  refine ⟨cl, E, g, as, j, rE, he.mo _ _ _ _ (fun y g1 ⟨z, e1, q1⟩ u v go1 j1 rv1 => ?_) q⟩
  subst e1
  cases rv1
  obtain ⟨r, h1, h2⟩ := ktab_some T z
  exact ⟨z, r, rfl, rfl, h1, by rw [h2]; exact q1 u _ go1 j1 (.bl _)⟩
theorem xc_knotIn (T : KTab X.K X.w d tbl) (he : XE G X e te) (hg : Gl X x) (hm : X.mg x = some (.ref d)) (hd : (x == ("__debug__" : Str)) = false := by decide) (hk : behindInMarks .NotIn (.Name x p) = false := by rfl) : XC G X (.Compare e [.NotIn] [.Name x p] pos) (xTest (xKIn true tbl te)) := by
  obtain ⟨es, n, D⟩ := T.ex
  refine ⟨xTest_mo (kin_mo he), (pt_cmpR (op_notIn_kd D) he.pe (pe_glob (v := .ref d) hg hm rfl hd) hk).imp fun σ H Q q => ?_⟩
  obtain ⟨cl, E, g, as, j, rE, q⟩ := xTest_to (K := X.K) (kin_mo he) σ H Q q
  refine ⟨cl, E, g, as, j, rE, he.mo _ _ _ _ (fun y g1 ⟨z, e1, q1⟩ u v go1 j1 rv1 => ?_) q⟩
  subst e1
  cases rv1
  obtain ⟨r, h1, h2⟩ := ktab_some T z
  exact ⟨z, r, rfl, rfl, h1, by rw [h2]; exact q1 u _ go1 j1 (.bl _)⟩
end
/-! ### a module's constant -/
structure Cst (K : PySem.W.Frag) (mg : Str → Option Value) (x : Str) (d : PyData) : Prop where
  ex : ∃ v u, mg x = some u ∧ RelV v u ∧ ∀ w, Rv K w v d
theorem Cst.xe {G : Ct} {X : Cx} {x : Str} {d : PyData} {pos : Pos} (c : Cst X.K X.mg x d) (hg : Gl X x) (hd : (x == ("__debug__" : Str)) = false := by decide) : XE G X (.Name x pos) (xC d) :=
  let ⟨_, _, h1, h2, h3⟩ := c.ex; xe_glob hg h1 h2 h3 hd
theorem un65 {k : Nat} {A : Around} (r : Room k A) : A.units + 65 < cLine := by have := r.un; omega
/-! ### promises -/
def ptR (pre : List S → Nat → Prop) (post : List S → Nat → PyData → Nat → Prop) : PT' := fun ss g Q => pre ss g ∧ ∀ d g', post ss g d g' → Q d g'
theorem ptR_mo {pre : List S → Nat → Prop} {post : List S → Nat → PyData → Nat → Prop} : ∀ ss g Q Q', (∀ d g', Q d g' → Q' d g') → ptR pre post ss g Q → ptR pre post ss g Q' := fun ss g Q Q' hq q => ⟨q.1, fun d g' p => hq _ _ (q.2 d g' p)⟩
/-- a def that gives F of its arguments, under pre -/
def ptF (F : List S → Option PyData) : PT' := fun ss g Q => ∃ d, F ss = some d ∧ Q d g
theorem ptF_mo {F : List S → Option PyData} : ∀ ss g Q Q', (∀ d g', Q d g' → Q' d g') → ptF F ss g Q → ptF F ss g Q' := fun ss g Q Q' hq ⟨d, e, q⟩ => ⟨d, e, hq _ _ q⟩
end TL

namespace TL
open PySem PySem.Spec PyProof.Rows L2 RZ
/-! ### what a value is of, written out -/
@[simp] theorem isi_tuple_none  : isiD "tuple" PyData.none = false := by
  show ((kitB "NoneType" "tuple").getD false) = false
  decide +kernel
@[simp] theorem isi_tuple_bool (b : Bool) : isiD "tuple" (PyData.bool b) = false := by
  show ((kitB "bool" "tuple").getD false) = false
  decide +kernel
@[simp] theorem isi_tuple_int (i : Int) : isiD "tuple" (PyData.int i) = false := by
  show ((kitB "int" "tuple").getD false) = false
  decide +kernel
@[simp] theorem isi_tuple_str (s : Str) : isiD "tuple" (PyData.str s) = false := by
  show ((kitB "str" "tuple").getD false) = false
  decide +kernel
@[simp] theorem isi_tuple_list (l : List PyData) : isiD "tuple" (PyData.list l) = false := by
  show ((kitB "list" "tuple").getD false) = false
  decide +kernel
@[simp] theorem isi_tuple_tuple (l : List PyData) : isiD "tuple" (PyData.tuple l) = true := by
  show ((kitB "tuple" "tuple").getD false) = true
  decide +kernel
@[simp] theorem isi_tuple_dict (l : List (PyData × PyData)) : isiD "tuple" (PyData.dict l) = false := by
  show ((kitB "dict" "tuple").getD false) = false
  decide +kernel
@[simp] theorem isi_int_none  : isiD "int" PyData.none = false := by
  show ((kitB "NoneType" "int").getD false) = false
  decide +kernel
@[simp] theorem isi_int_bool (b : Bool) : isiD "int" (PyData.bool b) = true := by
  show ((kitB "bool" "int").getD false) = true
  decide +kernel
@[simp] theorem isi_int_int (i : Int) : isiD "int" (PyData.int i) = true := by
  show ((kitB "int" "int").getD false) = true
  decide +kernel
@[simp] theorem isi_int_str (s : Str) : isiD "int" (PyData.str s) = false := by
  show ((kitB "str" "int").getD false) = false
  decide +kernel
@[simp] theorem isi_int_list (l : List PyData) : isiD "int" (PyData.list l) = false := by
  show ((kitB "list" "int").getD false) = false
  decide +kernel
@[simp] theorem isi_int_tuple (l : List PyData) : isiD "int" (PyData.tuple l) = false := by
  show ((kitB "tuple" "int").getD false) = false
  decide +kernel
@[simp] theorem isi_int_dict (l : List (PyData × PyData)) : isiD "int" (PyData.dict l) = false := by
  show ((kitB "dict" "int").getD false) = false
  decide +kernel
@[simp] theorem isi_str_none  : isiD "str" PyData.none = false := by
  show ((kitB "NoneType" "str").getD false) = false
  decide +kernel
@[simp] theorem isi_str_bool (b : Bool) : isiD "str" (PyData.bool b) = false := by
  show ((kitB "bool" "str").getD false) = false
  decide +kernel
@[simp] theorem isi_str_int (i : Int) : isiD "str" (PyData.int i) = false := by
  show ((kitB "int" "str").getD false) = false
  decide +kernel
@[simp] theorem isi_str_str (s : Str) : isiD "str" (PyData.str s) = true := by
  show ((kitB "str" "str").getD false) = true
  decide +kernel
@[simp] theorem isi_str_list (l : List PyData) : isiD "str" (PyData.list l) = false := by
  show ((kitB "list" "str").getD false) = false
  decide +kernel
@[simp] theorem isi_str_tuple (l : List PyData) : isiD "str" (PyData.tuple l) = false := by
  show ((kitB "tuple" "str").getD false) = false
  decide +kernel
@[simp] theorem isi_str_dict (l : List (PyData × PyData)) : isiD "str" (PyData.dict l) = false := by
  show ((kitB "dict" "str").getD false) = false
  decide +kernel
@[simp] theorem isi_bool_none  : isiD "bool" PyData.none = false := by
  show ((kitB "NoneType" "bool").getD false) = false
  decide +kernel
@[simp] theorem isi_bool_bool (b : Bool) : isiD "bool" (PyData.bool b) = true := by
  show ((kitB "bool" "bool").getD false) = true
  decide +kernel
@[simp] theorem isi_bool_int (i : Int) : isiD "bool" (PyData.int i) = false := by
  show ((kitB "int" "bool").getD false) = false
  decide +kernel
@[simp] theorem isi_bool_str (s : Str) : isiD "bool" (PyData.str s) = false := by
  show ((kitB "str" "bool").getD false) = false
  decide +kernel
@[simp] theorem isi_bool_list (l : List PyData) : isiD "bool" (PyData.list l) = false := by
  show ((kitB "list" "bool").getD false) = false
  decide +kernel
@[simp] theorem isi_bool_tuple (l : List PyData) : isiD "bool" (PyData.tuple l) = false := by
  show ((kitB "tuple" "bool").getD false) = false
  decide +kernel
@[simp] theorem isi_bool_dict (l : List (PyData × PyData)) : isiD "bool" (PyData.dict l) = false := by
  show ((kitB "dict" "bool").getD false) = false
  decide +kernel
@[simp] theorem isi_list_none  : isiD "list" PyData.none = false := by
  show ((kitB "NoneType" "list").getD false) = false
  decide +kernel
@[simp] theorem isi_list_bool (b : Bool) : isiD "list" (PyData.bool b) = false := by
  show ((kitB "bool" "list").getD false) = false
  decide +kernel
@[simp] theorem isi_list_int (i : Int) : isiD "list" (PyData.int i) = false := by
  show ((kitB "int" "list").getD false) = false
  decide +kernel
@[simp] theorem isi_list_str (s : Str) : isiD "list" (PyData.str s) = false := by
  show ((kitB "str" "list").getD false) = false
  decide +kernel
@[simp] theorem isi_list_list (l : List PyData) : isiD "list" (PyData.list l) = true := by
  show ((kitB "list" "list").getD false) = true
  decide +kernel
@[simp] theorem isi_list_tuple (l : List PyData) : isiD "list" (PyData.tuple l) = false := by
  show ((kitB "tuple" "list").getD false) = false
  decide +kernel
@[simp] theorem isi_list_dict (l : List (PyData × PyData)) : isiD "list" (PyData.dict l) = false := by
  show ((kitB "dict" "list").getD false) = false
  decide +kernel
@[simp] theorem isi_dict_none  : isiD "dict" PyData.none = false := by
  show ((kitB "NoneType" "dict").getD false) = false
  decide +kernel
@[simp] theorem isi_dict_bool (b : Bool) : isiD "dict" (PyData.bool b) = false := by
  show ((kitB "bool" "dict").getD false) = false
  decide +kernel
@[simp] theorem isi_dict_int (i : Int) : isiD "dict" (PyData.int i) = false := by
  show ((kitB "int" "dict").getD false) = false
  decide +kernel
@[simp] theorem isi_dict_str (s : Str) : isiD "dict" (PyData.str s) = false := by
  show ((kitB "str" "dict").getD false) = false
  decide +kernel
@[simp] theorem isi_dict_list (l : List PyData) : isiD "dict" (PyData.list l) = false := by
  show ((kitB "list" "dict").getD false) = false
  decide +kernel
@[simp] theorem isi_dict_tuple (l : List PyData) : isiD "dict" (PyData.tuple l) = false := by
  show ((kitB "tuple" "dict").getD false) = false
  decide +kernel
@[simp] theorem isi_dict_dict (l : List (PyData × PyData)) : isiD "dict" (PyData.dict l) = true := by
  show ((kitB "dict" "dict").getD false) = true
  decide +kernel

theorem isi_def (T : String) (h : ∀ x ∈ ["NoneType", "bool", "int", "str", "list", "tuple", "dict"], (kitB x T).isSome = true) (d : PyData) : (kitB (tyD d) T).isSome = true := by
  cases d <;> exact h _ (by simp [tyD])
/-- a def that, of arguments args a under pre a, gives res a -/
def ptA {α : Type} (args : α → List S) (pre : α → Prop) (res : α → PyData) : PT' := fun ss g Q => ∃ a, ss = args a ∧ pre a ∧ Q (res a) g
theorem ptA_mo {α : Type} {args : α → List S} {pre : α → Prop} {res : α → PyData} : ∀ ss g Q Q', (∀ d g', Q d g' → Q' d g') → ptA args pre res ss g Q → ptA args pre res ss g Q' := fun ss g Q Q' hq ⟨a, e, p, q⟩ => ⟨a, e, p, hq _ _ q⟩
/-! ### equality of plain things -/
@[simp] theorem eqv_ii (a b : Int) : PyData.eqv (.int a) (.int b) = (a == b) := rfl
@[simp] theorem eqv_ss (a b : Str) : PyData.eqv (.str a) (.str b) = (a == b) := rfl
@[simp] theorem eqv_tt (a b : List PyData) : PyData.eqv (.tuple a) (.tuple b) = PyData.eqvAll a b := rfl
@[simp] theorem eqv_ll (a b : List PyData) : PyData.eqv (.list a) (.list b) = PyData.eqvAll a b := rfl
@[simp] theorem eqv_nn : PyData.eqv .none .none = true := rfl
@[simp] theorem eqv_ni (a : Int) : PyData.eqv .none (.int a) = false := rfl
@[simp] theorem eqv_in (a : Int) : PyData.eqv (.int a) .none = false := rfl
@[simp] theorem eqv_nt (a : List PyData) : PyData.eqv .none (.tuple a) = false := rfl
@[simp] theorem eqv_tn (a : List PyData) : PyData.eqv (.tuple a) .none = false := rfl
@[simp] theorem eqv_nil : PyData.eqvAll [] [] = true := rfl
@[simp] theorem eqv_cons (x y : PyData) (a b : List PyData) : PyData.eqvAll (x :: a) (y :: b) = (PyData.eqv x y && PyData.eqvAll a b) := rfl
@[simp] theorem shaped_i (a : Int) : SeqAt.shaped (.int a) = true := rfl
@[simp] theorem shaped_n : SeqAt.shaped .none = true := rfl
@[simp] theorem shaped_b (a : Bool) : SeqAt.shaped (.bool a) = true := rfl
@[simp] theorem shaped_s (a : Str) : SeqAt.shaped (.str a) = PyData.strOk a := by simp [SeqAt.shaped, PyData.canLay0, PyData.depth]
@[simp] theorem ofString_inj (a b : String) : (Str.ofString a = Str.ofString b) ↔ a = b := by
  refine ⟨fun h => ?_, fun h => by rw [h]⟩
  rw [Str.ofString_eq_toList, Str.ofString_eq_toList] at h
  have h1 := congrArg (fun z : Str => z.cps.toList) h
  simp only [] at h1
  have h2 : a.toList = b.toList := by
    have inj : Function.Injective Char.toNat := fun x y e => by
      have : x.val = y.val := UInt32.toNat_inj.1 e
      exact Char.ext this
    exact (List.map_inj_right inj).1 (by simpa using h1)
  exact String.toList_inj.1 h2
@[simp] theorem ofString_beq (a b : String) : (Str.ofString a == Str.ofString b) = (a == b) := by
  by_cases h : a = b
  · subst h; simp
  · have : ¬ Str.ofString a = Str.ofString b := fun e => h ((ofString_inj a b).1 e)
    rw [beq_eq_false_iff_ne.2 this, beq_eq_false_iff_ne.2 h]
@[simp] theorem strOk_of (a : String) : PyData.strOk (Str.ofString a) = true := by
  unfold PyData.strOk
  rw [Str.ofString_eq_toList]
  suffices h : (a.toList.map Char.toNat).all (fun x => decide (x < 0x110000)) = true by simpa using h
  rw [List.all_eq_true]
  intro n hn
  obtain ⟨c, _, rfl⟩ := List.mem_map.1 hn
  rw [decide_eq_true_eq]
  rcases c.valid with h | h
  · have : c.toNat = c.val.toNat := rfl
    have h' : c.val.toNat < 0xd800 := h
    omega
  · have : c.toNat = c.val.toNat := rfl
    have h' : c.val.toNat < 0x110000 := h.2
    omega
/-! ### < of numbers and of texts -/
def oLt2 : OD := fun d e g Q => match d, e with
  | .int i, .int j => Q (.bool (decide (i < j))) g
  | .str i, .str j => Q (.bool (decide (i.cps.toList < j.cps.toList))) g
  | _, _ => False
section
variable {G : Ct} {X : Cx}
theorem co_lt2 : CO G X .Lt oLt2 := by
  refine ⟨fun x y H Q => (∃ i j, x = .int i ∧ y = .int j ∧ Q (.bl (decide (i < j))) H) ∨ (∃ i j, x = .str i ∧ y = .str j ∧ Q (.bl (decide (i.cps.toList < j.cps.toList))) H), ?_, fun d e g Q Q' hq q => ?_, fun w g x y d e Q j rx ry q => ?_⟩
  · intro pins s σ H x y v u Q I rx ry h
    rcases h with h | h
    · exact op_lt pins s σ H x y v u Q I rx ry h
    · exact op_lt_str pins s σ H x y v u Q I rx ry h
  · unfold oLt2 at *; split at q <;> first | exact hq _ _ q | exact q
  · unfold oLt2 at q
    split at q
    · cases rx; cases ry
      exact .inl ⟨_, _, rfl, rfl, q w _ (Go.refl w) j (.bl _)⟩
    · cases rx; cases ry
      exact .inr ⟨_, _, rfl, rfl, q w _ (Go.refl w) j (.bl _)⟩
    · exact q.elim
end
@[simp] theorem oLt2_i (i j : Int) (g : Nat) (Q : PyData → Nat → Prop) : oLt2 (.int i) (.int j) g Q = Q (.bool (decide (i < j))) g := rfl
@[simp] theorem oLt2_s (i j : Str) (g : Nat) (Q : PyData → Nat → Prop) : oLt2 (.str i) (.str j) g Q = Q (.bool (decide (i.cps.toList < j.cps.toList))) g := rfl
section
variable (g : Nat) (Q : PyData → Nat → Prop)
@[simp] theorem oI_ii (f : Int → Int → PyData) (i j : Int) : oI f (.int i) (.int j) g Q = Q (f i j) g := rfl
@[simp] theorem oIC_ii (C : Int → Int → Prop) (f : Int → Int → PyData) (i j : Int) : oIC C f (.int i) (.int j) g Q = (C i j ∧ Q (f i j) g) := rfl
@[simp] theorem oAdd_ii (i j : Int) : oAdd (.int i) (.int j) g Q = Q (.int (i + j)) g := rfl
@[simp] theorem oAdd_ss (x y : Str) : oAdd (.str x) (.str y) g Q = (x.length + y.length ≤ sizeLine ∧ Q (.str (x ++ y)) g) := rfl
@[simp] theorem oAdd_tt (x y : List PyData) : oAdd (.tuple x) (.tuple y) g Q = (x.length + y.length ≤ sizeLine ∧ Q (.tuple (x ++ y)) g) := rfl
@[simp] theorem oAdd_ll (x y : List PyData) : oAdd (.list x) (.list y) g Q = (x.length + y.length ≤ sizeLine ∧ Q (.list (x ++ y)) g) := rfl
@[simp] theorem oIx_t (l : List PyData) (i : Int) : oIx (.tuple l) (.int i) g Q = ∃ z, atI l i = some z ∧ Q z g := by
  simp [oIx]
@[simp] theorem oIx_l (l : List PyData) (i : Int) : oIx (.list l) (.int i) g Q = ∃ z, atI l i = some z ∧ Q z g := by
  simp [oIx]
@[simp] theorem oCut_t (l : List PyData) (a b : Option Int) : oCut (.tuple l) a b g Q = Q (.tuple (cutD l a b)) g := rfl
@[simp] theorem oCut_l (l : List PyData) (a b : Option Int) : oCut (.list l) a b g Q = Q (.list (cutD l a b)) g := rfl
@[simp] theorem cLen_t (l : List PyData) : cLen [.tuple l] g Q = Q (.int l.length) g := rfl
@[simp] theorem cLen_l (l : List PyData) : cLen [.list l] g Q = Q (.int l.length) g := rfl
@[simp] theorem cLen_s (x : Str) : cLen [.str x] g Q = (x.length ≤ sizeLine ∧ Q (.int x.length) g) := rfl
@[simp] theorem cTup_t (l : List PyData) : cTup [.tuple l] g Q = Q (.tuple l) g := rfl
@[simp] theorem cTup_l (l : List PyData) : cTup [.list l] g Q = Q (.tuple l) g := rfl
@[simp] theorem cI2_ii (f : Int → Int → Int) (i j : Int) : cI2 f [.int i, .int j] g Q = Q (.int (f i j)) g := rfl
end
/-! ### lists of arguments, with their length -/
structure XAl (G : Ct) (X : Cx) (es : List Expr) (t : TL') (n : Nat) : Prop where
  xa : XA G X es t
  len : ∀ E g Q, t E g Q → t E g fun ss g' => ss.length = n ∧ Q ss g'
section
variable {G : Ct} {X : Cx} {e : Expr} {es : List Expr} {te : TX} {t : TL'} {n : Nat}
theorem xl_nil : XAl G X [] xaNil 0 := ⟨xa_nil, al_nil⟩
theorem xl_cons (he : XE G X e te) (h : XAl G X es t n) (hs : starEach (e :: es) X.env = (false, eval e X.env) :: starEach es X.env := by rfl) : XAl G X (e :: es) (xaCons te t) (n + 1) :=
  ⟨xa_cons he h.xa hs, al_cons he.mo h.len h.xa.mo⟩
theorem xl_tok (i : Nat) {x : Str} {p : Pos} (he : PE X (.Name x p) (tVar i)) (h : XAl G X es t n) (hs : starEach (.Name x p :: es) X.env = (false, eval (.Name x p) X.env) :: starEach es X.env := by rfl) : XAl G X (.Name x p :: es) (xaTok i t) (n + 1) :=
  ⟨xa_tok i he h.xa hs, al_tok h.len h.xa.mo⟩
theorem xe_callN {pt : PT'} {f : Addr} {fd : FuncData} {ps : List Str} {k : Nat} {x : Str} {p pos : Pos} (F : FnOk X.prog X.w X.K X.mg X.base CX0 k f fd ps (spD X.K G.am G.J n pt)) (mo : ∀ ss g Q Q', (∀ d g', Q d g' → Q' d g') → pt ss g Q → pt ss g Q') (hr : Room k X.A) (hg : Gl X x) (hm : X.mg x = some (.ref f)) (hk : PySem.W.keepIn X.K (.ref f) = true) (hb : Binds X.K fd ps [])
    (ha : XAl G X (e :: es) t n) (hdb : (x == ("__debug__" : Str)) = false := by decide) (he : starEach (e :: es) X.env = (false, eval e X.env) :: starEach es X.env := by rfl) (hpl : (backTo pos (starEach es X.env)).any (·.1) = false := by rfl) :
    XE G X (.Call (.Name x p) (e :: es) [] pos) (xCall t pt) := xe_call F mo hr hg hm hk hb ha.xa ha.len hdb he hpl
end
/-! ### comprehensions that draw nothing -/
theorem compT_pure {y : TT'} {tt : TC} {te : TX} {p : PyData → Bool} {f : PyData → PyData} : ∀ (ds : List PyData) (E : List S) (acc : List PyData) (g : Nat) (Q : List PyData → Nat → Prop),
    (∀ d ∈ ds, ∀ (k : PyData → Nat → Prop) (k' : Nat → Prop), (p d = true → k (f d) g) → (p d = false → k' g) → y d E g fun E' => tt E' g fun b g1 => if b = true then te E' g1 k else k' g1) →
    Q (acc ++ (ds.filter p).map f) g → compT y tt te ds E acc g Q
  | [], E, acc, g, Q, _, q => by simpa using q
  | d :: r, E, acc, g, Q, h, q => by
    refine h d List.mem_cons_self (fun z g2 => compT y tt te r E (acc ++ [z]) g2 Q) (fun g1 => compT y tt te r E acc g1 Q) (fun hp => ?_) fun hp => ?_
    · refine compT_pure r E _ g Q (fun e he => h e (List.mem_cons_of_mem _ he)) ?_
      simpa [List.filter_cons, hp] using q
    · refine compT_pure r E _ g Q (fun e he => h e (List.mem_cons_of_mem _ he)) ?_
      simpa [List.filter_cons, hp] using q
theorem cut_drop (l : List PyData) (k : Nat) : cutD l (some (k : Int)) none = l.drop k := by
  unfold cutD
  rw [HT.sIx_none, HT.sIx_nat]
  rcases Nat.le_total k l.length with h | h
  · rw [Nat.min_eq_left h]
    exact List.take_of_length_le (by simp)
  · rw [Nat.min_eq_right h, List.drop_of_length_le h, List.drop_of_length_le (Nat.le_refl _)]
    simp
theorem cut_take (l : List PyData) (k : Nat) : cutD l none (some (k : Int)) = l.take k := by
  unfold cutD
  rw [HT.sIx_none, HT.sIx_nat]
  rcases Nat.le_total k l.length with h | h
  · simp [Nat.min_eq_left h]
  · rw [Nat.min_eq_right h, List.take_of_length_le h]
    simp
@[simp] theorem cut_1 (l : List PyData) : cutD l (some 1) none = l.drop 1 := cut_drop l 1
@[simp] theorem cut_2 (l : List PyData) : cutD l (some 2) none = l.drop 2 := cut_drop l 2
@[simp] theorem cut_3 (l : List PyData) : cutD l (some 3) none = l.drop 3 := cut_drop l 3
@[simp] theorem cut_4 (l : List PyData) : cutD l (some 4) none = l.drop 4 := cut_drop l 4
@[simp] theorem cut_5 (l : List PyData) : cutD l (some 5) none = l.drop 5 := cut_drop l 5
@[simp] theorem cut_6 (l : List PyData) : cutD l (some 6) none = l.drop 6 := cut_drop l 6
@[simp] theorem cut_t1 (l : List PyData) : cutD l none (some 1) = l.take 1 := cut_take l 1
@[simp] theorem cut_t2 (l : List PyData) : cutD l none (some 2) = l.take 2 := cut_take l 2
@[simp] theorem cut_t4 (l : List PyData) : cutD l none (some 4) = l.take 4 := cut_take l 4
@[simp] theorem cut_t5 (l : List PyData) : cutD l none (some 5) = l.take 5 := cut_take l 5
@[simp] theorem cut_t6 (l : List PyData) : cutD l none (some 6) = l.take 6 := cut_take l 6
@[simp] theorem cut_t3 (l : List PyData) : cutD l none (some 3) = l.take 3 := cut_take l 3
/-- a loop that draws nothing, what holds of the slots at each turn -/
theorem forT_inv {y : TT'} {tb : TSt} {k : Kt} {g : Nat} (I : List S → Prop) : ∀ (ds : List PyData) (E : List S), I E →
    (∀ d ∈ ds, ∀ E, I E → ∀ f : List S → Nat → Prop, (∀ E', I E' → f E' g) → y d E g fun E' => tb (ktLoop k f) E' g) → (∀ E, I E → k.nx E g) → forT y tb ds k E g
  | [], E, hi, _, hn => hn E hi
  | d :: r, E, hi, h, hn => h d List.mem_cons_self E hi (fun E2 g2 => forT y tb r k E2 g2) fun E' hi' => forT_inv I r E' hi' (fun e he => h e (List.mem_cons_of_mem _ he)) hn
theorem bools_map {α : Type} (l : List α) (f : α → Bool) : bools (l.map fun x => .bool (f x)) = some (l.map f) := by
  induction l with
  | nil => rfl
  | cons a r ih => simp [ih]
end TL

namespace TL
open PySem PySem.Spec PyProof.Rows L2 RZ
/-! ### the draws -/
abbrev kS (x : Str) : Key := Sum.inr x
def dk3 (c r : Addr) (n : Int) : List (Key × V) := [(kS "cells", .ref c), (kS "rest", .ref r), (kS "spot", .int n)]
theorem k_cr : ¬ (kS "cells" = kS "rest") := by decide +kernel
theorem k_cs : ¬ (kS "cells" = kS "spot") := by decide +kernel
theorem k_rs : ¬ (kS "rest" = kS "spot") := by decide +kernel
theorem k_sr : ¬ (kS "spot" = kS "rest") := by decide +kernel
theorem dk3_cells (c r : Addr) (n : Int) : valV (dk3 c r n) (kS "cells") = some (.ref c) := by
  unfold dk3
  exact valV_pos rfl
theorem dk3_rest (c r : Addr) (n : Int) : valV (dk3 c r n) (kS "rest") = some (.ref r) := by
  unfold dk3
  rw [valV_neg (show ¬ (kS "cells", V.ref c).1 = kS "rest" from k_cr)]
  exact valV_pos rfl
theorem dk3_spot (c r : Addr) (n : Int) : valV (dk3 c r n) (kS "spot") = some (.int n) := by
  unfold dk3
  rw [valV_neg (show ¬ (kS "cells", V.ref c).1 = kS "spot" from k_cs), valV_neg (show ¬ (kS "rest", V.ref r).1 = kS "spot" from k_rs)]
  exact valV_pos rfl
theorem s_cr : ¬ (Str.ofString "cells" = Str.ofString "rest") := by decide +kernel
theorem s_cs : ¬ (Str.ofString "cells" = Str.ofString "spot") := by decide +kernel
theorem s_rs : ¬ (Str.ofString "rest" = Str.ofString "spot") := by decide +kernel
theorem s_sr : ¬ (Str.ofString "spot" = Str.ofString "rest") := by decide +kernel
theorem dk3_len (c r : Addr) (n : Int) : (dk3 c r n).length < sizeLine := by
  show 3 < sizeLine
  decide
theorem dk3_putR (c r r' : Addr) (n : Int) : putK (dk3 c r n) (kS "rest") (.ref r') = dk3 c r' n := by
  simp [putK, dk3, s_cr, s_sr]
theorem dk3_putN (c r : Addr) (n n' : Int) : putK (dk3 c r n) (kS "spot") (.int n') = dk3 c r n' := by
  simp [putK, dk3, s_cs, s_rs]
/-- the draws' dict as it stands -/
structure PB (am c r : Addr) (cells rest : List Int) (n : Int) (u : Wd) : Prop where
  d : u.H am = some (.dK (dk3 c r n))
  hc : u.H c = some (.lst (cells.map V.int))
  hr : u.H r = some (.lst (rest.map V.int))
  ca : u.cl am = 2
  cc : u.cl c = 2
  cr : u.cl r = 2
  ne : r ≠ c
  lr : rest.length ≤ 63
def JB (am : Addr) (g : Nat) (u : Wd) : Prop := ∃ c r cells rest n, PB am c r cells rest n u ∧ cells.length ≤ 63 ∧ 0 ≤ n ∧ n + g ≤ 2 ^ 60
theorem JB.st (am : Addr) : ∀ g w u, (∀ a o, w.H a = some o → w.cl a = 2 → u.H a = some o ∧ u.cl a = 2) → JB am g w → JB am g u := by
  intro g w u h ⟨c, r, cells, rest, n, p, a1, a2, a3⟩
  exact ⟨c, r, cells, rest, n, ⟨(h _ _ p.d p.ca).1, (h _ _ p.hc p.cc).1, (h _ _ p.hr p.cr).1, (h _ _ p.d p.ca).2, (h _ _ p.hc p.cc).2, (h _ _ p.hr p.cr).2, p.ne, p.lr⟩, a1, a2, a3⟩
theorem JB.le {am : Addr} {g g' : Nat} {u : Wd} (h : JB am g u) (l : g' ≤ g) : JB am g' u := by
  obtain ⟨c, r, cells, rest, n, p, a1, a2, a3⟩ := h
  exact ⟨c, r, cells, rest, n, p, a1, a2, by omega⟩
theorem dp_ints {K : PySem.W.Frag} {H : Hp} : ∀ ns : List Int, DpAll K H (ns.map V.int) (ns.map PyData.int)
  | [] => .nil
  | n :: r => .cons (.int n) (dp_ints r)
theorem shaped_ints (ns : List Int) : SeqAt.shaped (.list (ns.map PyData.int)) = true := by
  have h1 : ∀ l : List Int, PyData.canLayAll0 (l.map PyData.int) = true := by
    intro l
    induction l with
    | nil => rfl
    | cons x r ih => simp [PyData.canLayAll0, PyData.canLay0, ih]
  have h2 : ∀ l : List Int, PyData.depthAll (l.map PyData.int) = 0 := by
    intro l
    induction l with
    | nil => rfl
    | cons x r ih => simp [PyData.depthAll, PyData.depth, ih]
  simp [SeqAt.shaped, PyData.canLay0, PyData.depth, h1, h2]
theorem eqv_intnil (ns : List Int) : PyData.eqv (.list (ns.map PyData.int)) (.list []) = ns.isEmpty := by
  cases ns <;> simp [PyData.eqv, PyData.eqvAll]
section
variable {P : Program} {w : World} {K : PySem.W.Frag} {mg : Str → Option Value} {base : Heap}
theorem PB.new {am c r : Addr} {cells rest : List Int} {n : Int} {u : Wd} (h : PB am c r cells rest n u) {p : Addr} {o : HO} (np : u.H p = none) (k : Nat) : PB am c r cells rest n (u.new p o k) := by
  have g := Go0.new (o := o) np k
  exact ⟨(g _ _ h.d).1, (g _ _ h.hc).1, (g _ _ h.hr).1, ((g _ _ h.d).2).trans h.ca, ((g _ _ h.hc).2).trans h.cc, ((g _ _ h.hr).2).trans h.cr, h.ne, h.lr⟩
/-- a class-2 object that stands is written -/
theorem go_write2 {u : Wd} {a : Addr} {o o' : HO} (h : u.H a = some o) (c : u.cl a = 2) : Go u ⟨upd u.H a o', u.cl⟩ := by
  refine ⟨fun b x e => ⟨rfl, fun n => ?_⟩, fun b x e => ?_⟩
  · have ne : b ≠ a := fun z => n (by rw [z]; exact c)
    show upd u.H a o' b = some x
    rw [upd_ne ne]; exact e
  · by_cases z : b = a
    · subst z; exact ⟨o', upd_same⟩
    · exact ⟨x, by show upd u.H a o' b = some x; rw [upd_ne z]; exact e⟩
def ptNext : PT' := fun ss g Q => ∃ n : Int, ss = [.tok, .v (.int n)] ∧ 0 < n ∧ n < 1073741824 ∧ 1 ≤ g ∧ ∀ k : Int, 0 ≤ k → k < n → Q (.int k) (g - 1)
theorem ptNext_mo : ∀ ss g Q Q', (∀ d g', Q d g' → Q' d g') → ptNext ss g Q → ptNext ss g Q' := fun ss g Q Q' hq ⟨n, e, h0, h1, h2, q⟩ => ⟨n, e, h0, h1, h2, fun k a b => hq _ _ (q k a b)⟩
theorem map_drop1 (rest : List Int) : cutV (rest.map V.int) (some 1) none = (rest.drop 1).map V.int := by
  have h : ∀ xs : List V, cutV xs (some 1) none = xs.drop 1 := by
    intro xs
    unfold cutV
    rw [show HT.sIx xs.length 0 (some 1) = min 1 xs.length from HT.sIx_nat xs.length 0 1, HT.sIx_none]
    cases xs with
    | nil => rfl
    | cons x r =>
      have e : min 1 (x :: r).length = 1 := by rw [List.length_cons]; omega
      rw [e]
      show List.take ((x :: r).length - 1) r = r
      rw [List.length_cons, Nat.add_sub_cancel, List.take_length]
  rw [h, List.map_drop]
def spBegun (K : PySem.W.Frag) : Sp := fun vs H Q _ => ∃ (a : Addr) (ns : List Int), vs = [.ref a] ∧ SqL K H a (ns.map V.int) ∧ ns.length ≤ 63 ∧
  ∀ p c r (rest : List Int) H', H p = none → H c = none → H r = none → Same H H' → H' p = some (.dK (dk3 c r 0)) → H' c = some (.lst (ns.map V.int)) → H' r = some (.lst (rest.map V.int)) → r ≠ c → rest.length ≤ 63 → Q (.ref p) H'
theorem same_new {H : Hp} {p : Addr} {o : HO} (h : H p = none) : Same H (upd H p o) := fun b x e => by
  rw [upd_ne (ne_of_none e h)]; exact e
theorem same_free {H H' : Hp} {p : Addr} (h : Same H H') (n : H' p = none) : H p = none := h.free n
end
/-! ### the signs of a text -/
def signsD (x : Str) : List PyData := x.cps.toList.map fun c => .str ⟨#[c]⟩
section
variable {G : Ct} {X : Cx} {tg e a b : Expr} {te ta tb : TX}
theorem wk_str {K : PySem.W.Frag} {x : Str} : Wk K false (Its x) (signsD x) fun _ => True where
  pu := fun w u h p => h
  go := fun i w h l => by
    have l' : i < x.cps.size := by simpa [signsD] using l
    exact l'
  stop := fun i w h l => by
    have l' : x.cps.size ≤ i := by simpa [signsD] using l
    exact l'
  yld := fun i w v H' d h e y => by
    obtain ⟨e1, c, e2, e3⟩ := y
    subst e3
    refine ⟨w, e1.symm, Go0.refl w, .of ?_⟩
    have e4 : (signsD x)[i]? = some (.str ⟨#[c]⟩) := by simp [signsD, e2]
    rw [e] at e4
    cases e4
    exact .str _
@[simp] def xiStr (te : TX) : TWk := fun E g Q => te E g fun d g' => ∃ x, d = .str x ∧ Q (signsD x) g'
theorem xi_str (h : XE G X e te) : XI G X false tg e (xiStr te) := by
  refine ⟨fun E g Q Q' hq q => h.mo _ _ _ _ (fun d g1 ⟨ds, e, q⟩ => ⟨ds, e, hq _ _ q⟩) q, (pi_str h.pe).imp fun σ H R ⟨cl, E, g, as, j, r, q⟩ => ?_⟩
  refine ⟨cl, E, g, as, j, r, h.mo _ _ _ _ (fun d g1 ⟨x, e, q1⟩ u v go1 j1 rv => ?_) q⟩
  subst e
  cases rv
  exact ⟨x, rfl, q1 u _ _ go1 j1 (wk_str (K := X.K)) trivial⟩
/-- a, b, c = x, y, [] with plain local names, the third a list of the frame's own -/
@[simp] def xPar3o (i j l : Nat) (ta tb : TX) : TSt := fun k E g => l < E.length ∧ ta E g fun d g1 => tb E g1 fun e g2 => k.nx (((E.set i (.v d)).set j (.v e)).set l (.hl [])) g2
theorem xs_par3o (i j l : Nat) {s : Stmt} (ha : XE G X a ta) (hb : XE G X b tb) (h : ∀ ta' tb', PE X a ta' → PE X b tb' → PS X s (tPar3 i j l (tCons ta' (tCons tb' (tCons (tLst tNil) tNil))))) : XS G X s (xPar3o i j l ta tb) := by
  refine ⟨fun k k' E g h ⟨l, q⟩ => ⟨l, ha.mo _ _ _ _ (fun d g1 q1 => hb.mo _ _ _ _ (fun e g2 q2 => h.nx _ _ q2) q1) q⟩, (h _ _ ha.pe hb.pe).imp fun D σ H ⟨cl, E, g, as, j0, go, r, hl, q⟩ => ?_⟩
  refine ⟨cl, E, g, as, j0, r, ha.mo _ _ _ _ (fun d g1 q1 u v go1 j1 rv => ?_) q⟩
  refine ⟨u.cl, E, g1, as, j1, r.go go1, hb.mo _ _ _ _ (fun e g2 q2 u2 v2 go2 j2 rv2 => ?_) q1⟩
  refine ⟨Nat.zero_le _, fun p np => ⟨v, v2, .ref p, rfl, ?_⟩⟩
  obtain ⟨bs, r1, _⟩ := ((r.go go1).go go2).set i (rv.go go2)
  obtain ⟨cs, r2, _⟩ := r1.set j rv2
  have go3 := go.trans (go1.trans go2)
  obtain ⟨ds, r3, _⟩ := r2.newHl l np (go_fresh go3 np) (by simpa using hl)
  exact q2 (u2.new p (.lst []) 1) _ ds (G.st0 (Go0.new np 1) j2) (go3.trans (Go.new' np 1)) ((go1.trans go2).pu.trans (Go.new' np 1).pu) r3
end
/-! ### loops over a range that add to a list -/
theorem rangeD_s (i : Int) (n : Nat) : rangeD i (n + 1) = .int i :: rangeD (i + 1) n := by
  unfold rangeD
  rw [List.range_succ_eq_map, List.map_cons, List.map_map]
  congr 1
  · simp
  · refine List.map_congr_left fun k _ => ?_
    simp only [Function.comp_apply, PyData.int.injEq]
    omega
theorem rangeD_0 (i : Int) : rangeD i 0 = [] := rfl
def flatI {α : Type} (f : Int → List α) : Int → Nat → List α
  | _, 0 => []
  | lo, n + 1 => f lo ++ flatI f (lo + 1) n
theorem flatI_mem {α : Type} {f : Int → List α} {x : α} : ∀ {n : Nat} {lo : Int}, x ∈ flatI f lo n ↔ ∃ j, lo ≤ j ∧ j < lo + n ∧ x ∈ f j
  | 0, lo => by
    refine ⟨fun h => (by cases h), fun ⟨j, a, b, _⟩ => absurd b (by omega)⟩
  | n + 1, lo => by
    rw [flatI, List.mem_append, flatI_mem (n := n)]
    refine ⟨fun h => ?_, fun ⟨j, a, b, h⟩ => ?_⟩
    · rcases h with h | ⟨j, a, b, h⟩
      · exact ⟨lo, by omega, by omega, h⟩
      · exact ⟨j, by omega, by omega, h⟩
    · by_cases e : j = lo
      · subst e; exact .inl h
      · exact .inr ⟨j, by omega, by omega, h⟩
theorem flatI_len {α : Type} {f : Int → List α} {c : Nat} (hf : ∀ j, (f j).length ≤ c) : ∀ (n : Nat) (lo : Int), (flatI f lo n).length ≤ n * c
  | 0, _ => by simp [flatI]
  | n + 1, lo => by
    have := flatI_len hf n (lo + 1)
    have := hf lo
    rw [flatI, List.length_append, Nat.succ_mul]
    omega
theorem forT_ap {y : TT'} {tb : TSt} {k : Kt} {g : Nat} (I : List S → List PyData → Prop) (f : Int → List PyData) (c B : Nat) (hf : ∀ j, (f j).length ≤ c) : ∀ (n : Nat) (lo : Int) (E : List S) (acc : List PyData), I E acc → acc.length + n * c ≤ B →
    (∀ j, lo ≤ j → j < lo + n → ∀ E acc, I E acc → acc.length + c ≤ B → ∀ h : List S → Nat → Prop, (∀ E', I E' (acc ++ f j) → h E' g) → y (.int j) E g fun E' => tb (ktLoop k h) E' g) →
    (∀ E, I E (acc ++ flatI f lo n) → k.nx E g) → forT y tb (rangeD lo n) k E g
  | 0, lo, E, acc, hi, _, _, q => q E (by simpa [flatI] using hi)
  | n + 1, lo, E, acc, hi, hB, hb, q => by
    rw [rangeD_s]
    rw [Nat.succ_mul] at hB
    refine hb lo (by omega) (by omega) E acc hi (by omega) (fun E2 g2 => forT y tb (rangeD (lo + 1) n) k E2 g2) fun E' hi' => ?_
    refine forT_ap I f c B hf n (lo + 1) E' _ hi' ?_ (fun j a b => hb j (by omega) (by omega)) fun E2 h2 => q E2 (by rw [flatI, ← List.append_assoc]; exact h2)
    have := hf lo
    rw [List.length_append]
    omega
/-! ### what draws -/
/-- a def that draws: of arguments args a under pre a, with at most cost a draws, some d with res a d -/
def ptG {α : Type} (args : α → List S) (pre : α → Prop) (cost : α → Nat) (res : α → PyData → Prop) : PT' := fun ss g Q => ∃ a, ss = args a ∧ pre a ∧ cost a ≤ g ∧ ∀ d g', res a d → g ≤ g' + cost a → Q d g'
theorem ptG_mo {α : Type} {args : α → List S} {pre : α → Prop} {cost : α → Nat} {res : α → PyData → Prop} : ∀ ss g Q Q', (∀ d g', Q d g' → Q' d g') → ptG args pre cost res ss g Q → ptG args pre cost res ss g Q' :=
  fun ss g Q Q' hq ⟨a, e, p, c, q⟩ => ⟨a, e, p, c, fun d g' r l => hq _ _ (q d g' r l)⟩
inductive Rel2 {α β : Type} (R : α → β → Prop) : List α → List β → Prop
  | nil : Rel2 R [] []
  | cons {a : α} {b : β} {l : List α} {m : List β} : R a b → Rel2 R l m → Rel2 R (a :: l) (b :: m)
theorem Rel2.len {α β : Type} {R : α → β → Prop} {l : List α} {m : List β} (h : Rel2 R l m) : l.length = m.length := by
  induction h with
  | nil => rfl
  | cons _ _ ih => simp [ih]
inductive Pk {α β : Type} (R : α → β → Prop) : List α → List β → Prop
  | nil : Pk R [] []
  | cons {a : α} {b : β} {l : List α} {m : List β} : R a b → Pk R l m → Pk R (a :: l) (b :: m)
  | skip {a : α} {l : List α} {m : List β} : Pk R l m → Pk R (a :: l) m
theorem compT_all {y : TT'} {tt : TC} {te : TX} {c : Nat} {R : PyData → PyData → Prop} : ∀ (ds : List PyData) (E : List S) (acc : List PyData) (g : Nat) (Q : List PyData → Nat → Prop), ds.length * c ≤ g →
    (∀ d ∈ ds, ∀ g, c ≤ g → ∀ (k : PyData → Nat → Prop) (k' : Nat → Prop), (∀ z g', R d z → g ≤ g' + c → k z g') → y d E g fun E' => tt E' g fun b g1 => if b = true then te E' g1 k else k' g1) →
    (∀ l g', Rel2 R ds l → g ≤ g' + ds.length * c → Q (acc ++ l) g') → compT y tt te ds E acc g Q
  | [], E, acc, g, Q, _, _, q => by simpa using q [] g .nil (by simp)
  | d :: r, E, acc, g, Q, hc, h, q => by
    rw [List.length_cons, Nat.succ_mul] at hc
    refine h d List.mem_cons_self g (by omega) (fun z g2 => compT y tt te r E (acc ++ [z]) g2 Q) (fun g1 => compT y tt te r E acc g1 Q) fun z g' hz hg => ?_
    refine compT_all r E _ g' Q (by omega) (fun e he => h e (List.mem_cons_of_mem _ he)) fun l g2 hl hg2 => ?_
    rw [List.append_assoc]
    exact q (z :: l) g2 (.cons hz hl) (by rw [List.length_cons, Nat.succ_mul]; omega)
theorem compT_some {y : TT'} {tt : TC} {te : TX} {c : Nat} {R : PyData → PyData → Prop} : ∀ (ds : List PyData) (E : List S) (acc : List PyData) (g : Nat) (Q : List PyData → Nat → Prop), ds.length * c ≤ g →
    (∀ d ∈ ds, ∀ g, c ≤ g → ∀ (k : PyData → Nat → Prop) (k' : Nat → Prop), (∀ z g', R d z → g ≤ g' + c → k z g') → (∀ g', g ≤ g' + c → k' g') → y d E g fun E' => tt E' g fun b g1 => if b = true then te E' g1 k else k' g1) →
    (∀ l g', Pk R ds l → g ≤ g' + ds.length * c → Q (acc ++ l) g') → compT y tt te ds E acc g Q
  | [], E, acc, g, Q, _, _, q => by simpa using q [] g .nil (by simp)
  | d :: r, E, acc, g, Q, hc, h, q => by
    rw [List.length_cons, Nat.succ_mul] at hc
    refine h d List.mem_cons_self g (by omega) (fun z g2 => compT y tt te r E (acc ++ [z]) g2 Q) (fun g1 => compT y tt te r E acc g1 Q) (fun z g' hz hg => ?_) fun g' hg => ?_
    · refine compT_some r E _ g' Q (by omega) (fun e he => h e (List.mem_cons_of_mem _ he)) fun l g2 hl hg2 => ?_
      rw [List.append_assoc]
      exact q (z :: l) g2 (.cons hz hl) (by rw [List.length_cons, Nat.succ_mul]; omega)
    · refine compT_some r E _ g' Q (by omega) (fun e he => h e (List.mem_cons_of_mem _ he)) fun l g2 hl hg2 => ?_
      exact q l g2 (.skip hl) (by rw [List.length_cons, Nat.succ_mul]; omega)
/-- a draw -/
theorem next_of {n : Int} {g : Nat} {Q : PyData → Nat → Prop} (h0 : 0 < n) (h1 : n < 1073741824) (hg : 1 ≤ g) (q : ∀ k : Int, 0 ≤ k → k < n → Q (.int k) (g - 1)) : ptNext [.tok, .v (.int n)] g Q := ⟨n, rfl, h0, h1, hg, q⟩
end TL

namespace TL
open PySem PySem.Spec PyProof.Rows L2 RZ
/-! ### repr -/
section
variable {G : Ct} {X : Cx} {K : PySem.W.Frag}
def rRepr (K : PySem.W.Frag) : List V → Hp → VK → Prop := fun xs H Q => ∃ p d, xs = [.ref p] ∧ Dp K H (.ref p) d ∧ d.showable = true ∧ d.hasDict = false ∧ d.depth ≤ 64 ∧ d.shown.length ≤ sizeLine ∧ Q (.str d.shown) H
theorem call_reprD (hg : X.A.guards = some []) (hu : X.A.units + 66 < cLine) : CallR X (.builtin "repr") (rRepr X.K) := by
  intro pins s σ H xs us Q I rv h
  obtain ⟨p, d, e, hd, h1, h2, h3, h4, q⟩ := h
  subst e
  cases rv with
  | cons r rr =>
    cases rr
    cases r
    obtain ⟨as, rd⟩ := Dp.reads I d _ _ hd rfl
    exact repr_of_reads' rd h1 (PyData.noDict_hsm h2) hg (by omega) (fun _ _ e => e) (fun h' u tk hk => ⟨.str d.shown, H, I.kept hk, ⟨u, rfl⟩, q⟩) h4
def cRepr : CD := fun ds g Q => ∃ d l, ds = [d] ∧ (d = .list l ∨ d = .tuple l) ∧ noDict d = true ∧ d.showable = true ∧ d.hasDict = false ∧ d.depth ≤ 64 ∧ d.shown.length ≤ sizeLine ∧ Q (.str d.shown) g
theorem cd_repr : CallD G K (rRepr K) cRepr := by
  refine ⟨fun ds g Q Q' hq ⟨d, l, a, b, c, h1, h2, h3, h4, q⟩ => ⟨d, l, a, b, c, h1, h2, h3, h4, hq _ _ q⟩, fun w g vs ds Q j r ⟨d, l, a, b, c, h1, h2, h3, h4, q⟩ => ?_⟩
  subst a
  cases r with
  | cons h t =>
    cases t
    have hp : ∀ v0, Rv K w v0 d → ∃ p, v0 = V.ref p := by
      intro v0 h
      rcases b with b | b <;> subst b <;> cases h <;> exact ⟨_, rfl⟩
    obtain ⟨p, rfl⟩ := hp _ h
    exact ⟨p, d, rfl, h.dp c, h1, h2, h3, h4, q w _ (Go.refl w) j (.str _)⟩
theorem un66 {k : Nat} {A : Around} (r : Room k A) : A.units + 66 < cLine := by have := r.un; omega
end
/-! ### texts: != -/
section
variable {G : Ct} {X : Cx}
@[simp] def oNeS : OD := fun d e g Q => ∃ x y, d = .str x ∧ e = .str y ∧ Q (.bool (!decide (x = y))) g
@[simp] def oEqS : OD := fun d e g Q => ∃ x y, d = .str x ∧ e = .str y ∧ Q (.bool (decide (x = y))) g
theorem dec_vs (x y : Str) : decide (V.str x = V.str y) = decide (x = y) := by
  rw [Bool.eq_iff_iff]
  simp
theorem co_neS : CO G X .NotEq oNeS := by
  refine ⟨rNe, op_ne, fun d e g Q Q' hq ⟨x, y, a, b, q⟩ => ⟨x, y, a, b, hq _ _ q⟩, fun w g v1 v2 d e Q j rx ry ⟨x, y, a, b, q⟩ => ?_⟩
  subst a b
  cases rx
  cases ry
  refine ⟨rfl, ?_⟩
  rw [dec_vs]
  exact q w _ (Go.refl w) j (.bl _)
theorem co_eqS : CO G X .Eq oEqS := by
  refine ⟨rEq, op_eq, fun d e g Q Q' hq ⟨x, y, a, b, q⟩ => ⟨x, y, a, b, hq _ _ q⟩, fun w g v1 v2 d e Q j rx ry ⟨x, y, a, b, q⟩ => ?_⟩
  subst a b
  cases rx
  cases ry
  refine ⟨rfl, ?_⟩
  rw [dec_vs]
  exact q w _ (Go.refl w) j (.bl _)
end
/-! ### a loop that draws -/
theorem forT_dr {y : TT'} {tb : TSt} {k : Kt} {c : Nat} (I : List S → Prop) : ∀ (ds : List PyData) (E : List S) (g : Nat), I E → ds.length * c ≤ g →
    (∀ d ∈ ds, ∀ E g, I E → c ≤ g → ∀ h : List S → Nat → Prop, (∀ E' g', I E' → g ≤ g' + c → h E' g') → y d E g fun E' => tb (ktLoop k h) E' g) → (∀ E g', I E → g ≤ g' + ds.length * c → k.nx E g') → forT y tb ds k E g
  | [], E, g, hi, _, _, q => q E g hi (by simp)
  | d :: r, E, g, hi, hc, h, q => by
    rw [List.length_cons, Nat.succ_mul] at hc
    refine h d List.mem_cons_self E g hi (by omega) (fun E2 g2 => forT y tb r k E2 g2) fun E' g' hi' hg' => ?_
    exact forT_dr I r E' g' hi' (by omega) (fun e he => h e (List.mem_cons_of_mem _ he)) fun E2 g2 h2 hg2 => q E2 g2 h2 (by rw [List.length_cons, Nat.succ_mul]; omega)
/-! ### a block whose reading is one of many -/
theorem pss_ex {X : Cx} {b : List Stmt} {α : Type} {t : α → TS} (h : ∀ a, PSs X b (t a)) : PSs X b fun D σ H => ∃ a, t a D σ H :=
  ⟨fun pins s σ H D I ⟨a, q⟩ => (h a).run pins s σ H D I q⟩
/-! ### the law's def, at the caller: nothing is being shown there -/
section
variable {P : Program} {w : World} {K : PySem.W.Frag} {mg mb : Str → Option Value}
theorem fn_at {base : Heap} {x qual : Str} {st : Stmt} {f : Addr} {fd : FuncData} {N ps : List Str} {k : Nat} {A : Around} {outer : List Env} {s : Shared} {H : Hp} {args : Args} {us : List Value} {vs : List V} {Q : VK}
    (F : Fun K x qual st f fd) (Sc : FnScope N ps (defScope st)) (room : Room (k + 1) A) (e0 : Env0 P w K mg base A outer s H) (bind : BindsTo s fd args (ps.zip us)) (rel : Vals vs us) (ln : vs.length = ps.length)
    (body : ∀ cdv : Value, Room k (A.deeper (envOfC qual (defScope st) s.heap.objs.size f cdv)) →
      ∃ t, PSs (cxOf CX0 P w K mg base N qual (defScope st) f cdv A outer s H fun _ _ _ => False).nox (defBody st) t ∧ t { nx := fun _ H' => Q .non H', rt := Q } (start N vs) H) :
    codeAny (model P w) A (.call (.ref f) args) (fun r s' => ∃ u, r = .ok (.ret u) ∧ CE outer P w H s Q u s') s := by
  obtain ⟨oc, od, kV, doc, pm, an, cdv, ct, osl, efd, look, code⟩ := F.ex
  subst efd
  have inK : K.In s.heap := e0.mod.kin.keeps fun b o z => (e0.bs b o z).1
  have noLim : s.heap.NoLimit := e0.mod.nolimit.keeps fun b o z => (e0.bs b o z).1
  have kinds : ∀ y ∈ ps.zip us, (defScope st).names.lookup y.1 = some .local ∨ ((defScope st).names.lookup y.1 = some .cell ∧ ((cellsFrom (s.heap.objs.size + 1) (defScope st).names []).lookup y.1).isSome = true) := by
    rintro ⟨n, v⟩ hy
    rcases Sc.par n (List.of_mem_zip hy).1 with z | z
    · exact Or.inl z
    · exact Or.inr ⟨z, PySem.W.cellsFrom_some _ _ _ (Or.inl z)⟩
  refine codeAny_call_function room.depth (inK _ _ look) rfl Sc.co Sc.gen rfl (PySem.W.codeRec_of inK code) (bind _ _ _ _ ?_)
  refine wpAny_newFunctionEnv_cells Sc.kind kinds fun env hev s1 xc => ?_
  subst hev
  refine ⟨noLim.keeps xc.toInCall.keep, codeAny_func ?_⟩
  obtain ⟨t, ht, hq⟩ := body cdv (room.deeper _)
  have I0 : Inv (cxOf CX0 P w K mg base N qual (defScope st) f cdv A outer s H fun _ _ _ => False) [] (start N vs) H s1 := inv_start Sc room.hd e0 ln rel xc
  refine wpAny_mono (ht.nox.run [] s1 (start N vs) H _ I0 hq) (fun fl s2 z => ?_) fun e s2 z => ?_
  · cases fl with
    | ret u =>
      obtain ⟨v, σ2, H2, J, rv, q⟩ := z
      exact ⟨u, rfl, v, H2, J.os, J.bare, J.base, J.hok, rv, q⟩
    | next =>
      obtain ⟨σ2, H2, J, q⟩ := z
      exact ⟨.none, rfl, .non, H2, J.os, J.bare, J.base, J.hok, rfl, q⟩
    | brk => exact z.elim fun _ z => z.elim fun _ z => z.2.elim
    | cont => exact z.elim fun _ z => z.elim fun _ z => z.2.elim
  · exact wpAny_mono z (fun _ _ no => False.elim no) fun _ _ no => False.elim no
/-- what is tracked at the law's call: the script, unless the module holds it -/
def hpOf (K : PySem.W.Frag) (a : Addr) (vs : List Value) (ns : List Int) : Hp := fun b => if b = a ∧ K.lookup a = none then some (.frz { cls := .type "list", data := .seq vs.toArray } (.lst (ns.map V.int))) else none
theorem hpOf_some {K : PySem.W.Frag} {a b : Addr} {vs : List Value} {ns : List Int} {u : HO} (h : hpOf K a vs ns b = some u) : b = a ∧ K.lookup a = none ∧ u = .frz { cls := .type "list", data := .seq vs.toArray } (.lst (ns.map V.int)) := by
  unfold hpOf at h
  by_cases c : b = a ∧ K.lookup a = none
  · rw [if_pos c] at h
    exact ⟨c.1, c.2, (Option.some.inj h).symm⟩
  · rw [if_neg c] at h
    cases h
theorem ints_vals : ∀ {vs : List Value} {ns : List Int}, IntsAre vs ns → Vals (ns.map V.int) vs
  | _, _, .nil => .nil
  | _, _, .cons n t h => .cons ⟨t, rfl⟩ (ints_vals h)
theorem law_at {x qual xn : Str} {st : Stmt} {fa a : Addr} {fd : FuncData} {N : List Str} {k : Nat} {s1 : Shared} {vs : List Value} {ns : List Int}
    (inK : K.In s1.heap) (nsM : s1.heap.Ns mainGlobals mg) (nsB : s1.heap.Ns builtinsNs mb) (boot : ∀ y : Str, y ≠ "__name__" → mb y = bootBuiltins y) (noLim : s1.heap.NoLimit) (gens : s1.gens = #[])
    (scr : s1.heap.get? a = some { cls := .type "list", data := .seq vs.toArray }) (areInts : IntsAre vs ns) (few : ns.length ≤ sizeLine) (room : Room (k + 1) callerA)
    (F : Fun K x qual st fa fd) (Sc : FnScope N [xn] (defScope st)) (bind : ∀ (s : Shared) (u : Value), BindsTo s fd ⟨[u], []⟩ [(xn, u)])
    (body : ∀ (base : Heap) (cdv : Value), K.In base → base.Ns mainGlobals mg → SqL K (hpOf K a vs ns) a (ns.map V.int) → Room k (callerA.deeper (envOfC qual (defScope st) s1.heap.objs.size fa cdv)) →
      ∃ t, PSs (cxOf CX0 P w K mg base N qual (defScope st) fa cdv callerA [] s1 (hpOf K a vs ns) fun _ _ _ => False).nox (defBody st) t ∧ t { nx := fun _ _ => V.non = V.bl true, rt := fun v _ => v = V.bl true } (start N [.ref a]) (hpOf K a vs ns)) :
    codeAny (model P w) callerA (.call (.ref fa) ⟨[.ref a], []⟩) (fun r s' => r = .ok (.ret (.bool true)) ∧ OldK s1.heap s'.heap ∧ s'.os = s1.os ∧ AllBare s'.gens) s1 := by
  have rel := ints_vals areInts
  have same := areInts.length
  have tracked : ∀ b, hpOf K a vs ns b ≠ none → b = a ∧ K.lookup a = none := fun b z => by
    cases q : hpOf K a vs ns b with
    | none => exact absurd q z
    | some u => exact ⟨(hpOf_some q).1, (hpOf_some q).2.1⟩
  have free : ∀ {b : Addr} {o : Obj} {es : Array DictEntry} {ep : Nat}, s1.heap.get? b = some o → o.data = .dict es ep → hpOf K a vs ns b = none := fun {b o es ep} e d => by
    cases q : hpOf K a vs ns b with
    | none => rfl
    | some u =>
      obtain ⟨e1, _, _⟩ := hpOf_some q
      subst e1
      rw [scr] at e
      cases e
      cases (show Data.seq vs.toArray _ = Data.dict es ep from d)
  have nsH : ∀ {b : Addr} {m : Str → Option Value}, s1.heap.Ns b m → (hidT s1.heap (hpOf K a vs ns)).Ns b m := fun {b m} ⟨o, es, ep, e, d, r⟩ => ⟨o, es, ep, hidT_get e (free e d), d, r⟩
  have inB : K.In (hidT s1.heap (hpOf K a vs ns)) := fun b o e => hidT_get (inK b o e) (by
    cases q : hpOf K a vs ns b with
    | none => rfl
    | some u =>
      obtain ⟨e1, e2, _⟩ := hpOf_some q
      subst e1
      rw [e2] at e
      cases e)
  have sq : SqL K (hpOf K a vs ns) a (ns.map V.int) := by
    cases q : K.lookup a with
    | none => exact .inl (.inr ⟨_, if_pos ⟨rfl, q⟩⟩)
    | some o =>
      have e := inK a o q
      rw [scr] at e
      cases e
      exact .inr ⟨_, vs.toArray, _, q, rfl, rfl, rfl, by rw [List.size_toArray, same]; exact few, by simpa using rel⟩
  have okH : HOk P w (hpOf K a vs ns) s1.heap := fun b u z => by
    obtain ⟨e1, _, e3⟩ := hpOf_some z
    subst e1 e3
    exact ⟨scr, by rw [List.length_map]; exact few, vs, _, rel, scr⟩
  have env : Env0 P w K mg (hidT s1.heap (hpOf K a vs ns)) callerA [] s1 (hpOf K a vs ns) :=
    ⟨rfl, ⟨inB, nsH nsM, ⟨mb, nsH nsB, boot⟩, let ⟨mc, h1, h2⟩ := noLim; ⟨mc, nsH h1, h2⟩⟩, fun b o e => of_hidT e, Nat.le_of_eq (hidT_size _ _), trivial, fun b hb => absurd (show b ∈ ([] : List Addr) from hb) (by simp), okH, .of_eq gens⟩
  refine codeAny_mono (fn_at (us := [.ref a]) (vs := [.ref a]) (ps := [xn]) (Q := fun v _ => v = V.bl true) F Sc room env (bind s1 (.ref a)) (.cons rfl .nil) rfl fun cdv r => body _ cdv inB (nsH nsM) sq r) fun r s' z => ?_
  obtain ⟨u, e, v, H', os, bare, un, ok', rv, q⟩ := z
  subst e
  have q' : v = V.bl true := q
  subst q'
  obtain rfl : u = Value.bool true := rv
  refine ⟨rfl, OldK.of_keep fun b o e => ?_, os, bare⟩
  cases t : hpOf K a vs ns b with
  | none => exact un.keep b o e t (by intro y; exact absurd (show b ∈ ([] : List Addr) from y) (by simp)) (by simp)
  | some u =>
    obtain ⟨e1, _, e3⟩ := hpOf_some t
    subst e1 e3
    have y := un.frzs b _ _ t
    obtain ⟨e4, _⟩ := ok' b _ y
    rw [scr] at e
    cases e
    exact e4
/-- the goal that k_head leaves, from the law's body -/
theorem walk_at {l : PySem.W.OpenLaw} {n k : Nat} {q : Program} {loose : List Str} {XP : (Str → Option Value) → Heap → Prop} {YP : World → Heap → Prop} {d : DefRec} {KK : Params → PySem.W.Frag} {x qual xn : Str} {st : Stmt} {N : List Str}
    (most : l.most = some n) (small : n ≤ sizeLine) (nodef : d.params.defaults = []) (room : Room (k + 1) callerA) (Sc : FnScope N [xn] (defScope st)) (inY : ∀ (w : World) (h : Heap), YP w h → (KK w.params).In h)
    (F : ∀ (w : World) (mg : Str → Option Value) (fa : Addr) (h : Heap), (KK w.params).In h → h.Ns mainGlobals mg → mg d.name = some (.ref fa) →
      ∃ fd : FuncData, Fun (KK w.params) x qual st fa fd ∧ (∀ (s : Shared) (u : Value), BindsTo s fd ⟨[u], []⟩ [(xn, u)]) ∧
        ∀ (s1 : Shared) (a : Addr) (vs : List Value) (ns : List Int) (base : Heap) (cdv : Value), ns.length ≤ n → (KK w.params).In base → base.Ns mainGlobals mg → SqL (KK w.params) (hpOf (KK w.params) a vs ns) a (ns.map V.int) → Room k (callerA.deeper (envOfC qual (defScope st) s1.heap.objs.size fa cdv)) →
          ∃ t, PSs (cxOf CX0 l.prog w (KK w.params) mg base N qual (defScope st) fa cdv callerA [] s1 (hpOf (KK w.params) a vs ns) fun _ _ _ => False).nox (defBody st) t ∧ t { nx := fun _ _ => V.non = V.bl true, rt := fun v _ => v = V.bl true } (start N [.ref a]) (hpOf (KK w.params) a vs ns)) :
    PySem.W.WalkO q loose XP YP l.row.toRowW d [] (fun f vs => PySem.call f vs) := by
  refine Att.attach_call most nodef fun w s0 s1 mg mb fa o pm cd doc a vs ns gr yp h1 h2 h3 glob obj ai few gens => ?_
  obtain ⟨fd, fn, bind, rest⟩ := F w mg fa _ (inY w _ yp) gr.T.g glob
  exact law_at (inY w _ yp) gr.T.g gr.T.b gr.T.builtins gr.T.nolimit gens obj ai (Nat.le_trans few small) room fn Sc bind fun base cdv b1 b2 b3 b4 => rest s1 a vs ns base cdv few b1 b2 b3 b4
end
end TL

namespace TL
open PySem PySem.Spec PyProof.Rows L2 RZ
/-! ### the module's constants -/
section
variable {K : PySem.W.Frag} {w : World} {mg : Str → Option Value} {h : Heap}
/-- a value of the written part, as data -/
def ValK (K : PySem.W.Frag) (u : Value) (d : PyData) : Prop := ∃ v, RelV v u ∧ ∀ wd, Rv K wd v d
theorem valk_int (i : Int) (t : Tok) : ValK K (.int i t) (.int i) := ⟨.int i, ⟨t, rfl⟩, fun _ => .int i⟩
theorem valk_str (x : Str) (t : Tok) : ValK K (.str x t) (.str x) := ⟨.str x, ⟨t, rfl⟩, fun _ => .str x⟩
inductive FlatL : List Value → List PyData → Prop
  | nil : FlatL [] []
  | int {i : Int} {t : Tok} {r : List Value} {m : List PyData} : FlatL r m → FlatL (.int i t :: r) (.int i :: m)
  | str {x : Str} {t : Tok} {r : List Value} {m : List PyData} : FlatL r m → FlatL (.str x t :: r) (.str x :: m)
theorem FlatL.vals {us : List Value} {ds : List PyData} (f : FlatL us ds) : ∃ xs : List V, Vals xs us ∧ (∀ wd, RvL K wd xs ds) ∧ us.length = ds.length := by
  induction f with
  | nil => exact ⟨[], .nil, fun _ => .nil, rfl⟩
  | @int i t r m _ ih =>
    obtain ⟨xs, h1, h2, h3⟩ := ih
    exact ⟨.int i :: xs, .cons ⟨t, rfl⟩ h1, fun wd => .cons (.int i) (h2 wd), by simp [h3]⟩
  | @str x t r m _ ih =>
    obtain ⟨xs, h1, h2, h3⟩ := ih
    exact ⟨.str x :: xs, .cons ⟨t, rfl⟩ h1, fun wd => .cons (.str x) (h2 wd), by simp [h3]⟩
theorem valk_tup {a : Addr} {its : Array Value} {n : Nat} {sl : Array (Option Value)} {ds : List PyData} (l : K.lookup a = some ⟨.type "tuple", none, .seq its n, sl⟩) (f : FlatL its.toList ds) (hz : ds.length ≤ sizeLine) : ValK K (.ref a) (.tuple ds) := by
  obtain ⟨xs, h1, h2, h3⟩ := f.vals (K := K)
  have hs : its.size ≤ sizeLine := by
    rw [← Array.length_toList, h3]
    exact hz
  exact ⟨.ref a, rfl, fun wd => .tup (.inr ⟨.inr ⟨_, its, n, l, rfl, rfl, hs, h1⟩, fun o e => by rw [l] at e; cases e; rfl⟩) (h2 wd)⟩
theorem cst_of {x : Str} {u : Value} {d : PyData} (X : K.In h) (G : h.Ns mainGlobals mg) (e : PySem.W.nsIn K mainGlobals x = some (some u)) (v : ValK K u d) : Cst K mg x d :=
  let ⟨v, h1, h2⟩ := v; ⟨v, u, PySem.W.mg_of X G e, h1, h2⟩
/-! ### a constant dict -/
inductive EntL (P : Params) : List DictEntry → List (Str × Value) → Prop
  | nil : EntL P [] []
  | cons {hh : Int} {k : Str} {t : Tok} {v : Value} {r : List DictEntry} {m : List (Str × Value)} (e : hh = PyData.keyHash P k) : EntL P r m → EntL P (⟨hh, .str k t, v⟩ :: r) ((k, v) :: m)
theorem EntL.lit {P : Params} {es : List DictEntry} {m : List (Str × Value)} (h : EntL P es m) : PySem.W.KeysLit P es := by
  induction h with
  | nil => trivial
  | cons e _ ih => exact ⟨⟨_, _, rfl, e⟩, ih⟩
theorem EntL.look {P : Params} {es : List DictEntry} {m : List (Str × Value)} (h : EntL P es m) (z : Str) : (match es.find? (·.key.isStr z) with
      | some e => some (some e.val)
      | none => if es.any (·.refKey) then none else some none) = some (m.lookup z) := by
  have nr : es.any (·.refKey) = false := by
    induction h with
    | nil => rfl
    | cons _ _ ih => rw [List.any_cons, ih]; rfl
  have fd : es.find? (·.key.isStr z) = none ∧ m.lookup z = none ∨ ∃ e, es.find? (·.key.isStr z) = some e ∧ m.lookup z = some e.val := by
    clear nr
    induction h with
    | nil => exact .inl ⟨rfl, rfl⟩
    | @cons hh k t v r m e _ ih =>
      by_cases q : k = z
      · subst q
        have e1 : (Value.str k t).isStr k = true := by simp [Value.isStr]
        refine .inr ⟨⟨hh, .str k t, v⟩, by rw [List.find?_cons]; simp only [e1], ?_⟩
        simp [List.lookup]
      · have e1 : (Value.str k t).isStr z = false := by simp [Value.isStr, q]
        have e2 : (z == k) = false := by simpa using fun y => q y.symm
        rw [List.find?_cons]
        simp only [e1, List.lookup, e2]
        exact ih
  rcases fd with ⟨h1, h2⟩ | ⟨e, h1, h2⟩
  · rw [h1, h2, nr]
    rfl
  · rw [h1, h2]
inductive Tab2 (K : PySem.W.Frag) : List (Str × Value) → List (Str × PyData) → Prop
  | nil : Tab2 K [] []
  | cons {k : Str} {u : Value} {d : PyData} {r : List (Str × Value)} {m : List (Str × PyData)} (v : ValK K u d) : Tab2 K r m → Tab2 K ((k, u) :: r) ((k, d) :: m)
theorem Tab2.look {m : List (Str × Value)} {tbl : List (Str × PyData)} (h : Tab2 K m tbl) (z : Str) : (match tbl.lookup z with
    | some dt => ∃ u v, m.lookup z = some u ∧ RelV v u ∧ ∀ wd, Rv K wd v dt
    | none => m.lookup z = none) := by
  induction h with
  | nil => rfl
  | @cons k u d r m v _ ih =>
    cases q : (z == k) with
    | true =>
      obtain ⟨v, h1, h2⟩ := v
      simp only [List.lookup, q]
      exact ⟨u, v, rfl, h1, h2⟩
    | false =>
      simp only [List.lookup, q]
      exact ih
theorem ktab_of {d : Addr} {es : Array DictEntry} {n : Nat} {m : List (Str × Value)} {tbl : List (Str × PyData)} (l : K.lookup d = some ⟨.type "dict", none, .dict es n, #[]⟩) (e : EntL w.params es.toList m) (t : Tab2 K m tbl) (lo : (d == sysModules) = false) : KTab K w d tbl := by
  refine ⟨⟨es, n, l, e.lit, lo⟩, fun z => ⟨m.lookup z, ?_, t.look z⟩⟩
  unfold PySem.W.nsIn
  rw [l]
  exact e.look z
end
end TL

namespace TL
open PySem PySem.Spec PyProof.Rows L2 RZ

def tbl_COMMAND_KINDS : List (Str × PyData) := [("home", (.tuple [(.str "place"), (.str "place")])), ("move", (.tuple [(.str "place"), (.str "place")])), ("turn", (.tuple [(.str "turn")])), ("font", (.tuple [(.str "font")])), ("scale", (.tuple [(.str "scale")])), ("ink", (.tuple [(.str "ink")])), ("plain", (.tuple [])), ("box", (.tuple [(.str "place"), (.str "place"), (.str "length"), (.str "length")])), ("clear", (.tuple [(.str "place"), (.str "place"), (.str "length"), (.str "length")])), ("field", (.tuple [(.str "place"), (.str "place"), (.str "name")]))]
def tbl_SETTING_PLACES : List (Str × PyData) := [("turn", (.int 2)), ("font", (.int 3)), ("scale", (.int 4)), ("ink", (.int 5))]
abbrev n_is_row : List Str := ["value", "many"]
abbrev n_is_whole : List Str := ["value"]
abbrev n_is_between : List Str := ["value", "low", "high"]
abbrev n_is_size : List Str := ["value"]
abbrev n_is_font : List Str := ["value"]
abbrev n_are_fonts : List Str := ["value", "font"]
abbrev n_is_one_of : List Str := ["value", "words"]
abbrev n_is_field : List Str := ["value"]
abbrev n_are_fields : List Str := ["value", "names", "name", "_", "one", "other", "field"]
abbrev n_need_machine : List Str := ["thing"]
abbrev n_is_part : List Str := ["machine", "kind", "value", "name", "_"]
abbrev n_are_parts : List Str := ["machine", "kinds", "value", "kind", "part"]
abbrev n_is_settings : List Str := ["machine", "value"]
abbrev n_need_settings : List Str := ["machine", "settings"]
abbrev n_fits_command : List Str := ["machine", "value", "word"]
abbrev n_need_program : List Str := ["machine", "program", "number", "command"]
abbrev n_need_start : List Str := ["machine", "settings", "program"]
abbrev n_overlap : List Str := ["one", "other", "left", "top", "right", "bottom"]
abbrev n_extent : List Str := ["machine", "settings", "command", "signs", "cell", "tall"]
abbrev n_dot_of : List Str := ["settings", "point", "left", "top", "turn", "x", "y"]
abbrev n_reach : List Str := ["machine", "settings", "command", "signs", "wide", "high", "x", "y", "ax", "ay", "bx", "by"]
abbrev n_label_area : List Str := ["machine", "wide", "high"]
abbrev n_visible : List Str := ["machine", "settings", "command", "signs"]
abbrev n_is_cut : List Str := ["machine", "settings", "command", "signs"]
abbrev n_signs_of : List Str := ["machine", "command"]
abbrev n_least_cut : List Str := ["machine", "settings", "command", "signs"]
abbrev n_settings_after : List Str := ["settings", "command", "word", "at"]
abbrev n_steps : List Str := ["settings", "program", "done", "command"]
abbrev n_cuts : List Str := ["machine", "settings", "program", "now", "command"]
abbrev n__law_after : List Str := ["state", "command", "x", "y", "turn", "font", "scale", "ink", "word"]
abbrev n__law_spot : List Str := ["state", "px", "py", "x", "y", "turn"]
abbrev n__law_reached : List Str := ["unit", "state", "command", "signs", "found", "i", "j", "cell", "tall", "k", "a", "b", "point"]
abbrev n__law_most : List Str := ["unit", "command", "found", "name", "most"]
abbrev n__law_cut_of : List Str := ["unit", "state", "command", "wide", "tall", "signs", "points", "point", "source"]
abbrev n__law_next : List Str := ["m", "total", "rest", "k", "cell", "mixed"]
abbrev n__law_machine : List Str := ["m", "wide", "tall", "fonts", "names", "fields", "name", "k"]
abbrev n__law_of : List Str := ["m", "some"]
abbrev n__law_settings : List Str := ["m", "unit", "spot", "rest"]
abbrev n__law_command : List Str := ["m", "unit", "x", "y", "way", "some"]
abbrev n__law_steps : List Str := ["m", "unit", "most", "k"]
abbrev n__law_begun : List Str := ["script", "cell"]
abbrev n_law : List Str := ["script", "m", "turn", "unit", "state", "steps_v", "due", "here", "command"]
/-! ### machines, settings, commands -/
def NML : List Str := ["A", "B", "C", "D", "E", "F", "G", "H"]
structure Mch where
  wide : Int
  high : Int
  fonts : List (Int × Int)
  fields : List (Str × Int)
def fontD (p : Int × Int) : PyData := .tuple [.int p.1, .int p.2]
def fieldD (p : Str × Int) : PyData := .tuple [.str p.1, .int p.2]
def Mch.d (m : Mch) : PyData := .tuple [.tuple [.int m.wide, .int m.high], .tuple (m.fonts.map fontD), .tuple (m.fields.map fieldD)]
def upS : List Str → Bool
  | a :: b :: r => decide (a.cps.toList < b.cps.toList) && upS (b :: r)
  | _ => true
structure Mch.Ok (m : Mch) : Prop where
  w : 1 ≤ m.wide ∧ m.wide ≤ 40
  h : 1 ≤ m.high ∧ m.high ≤ 40
  nf : 1 ≤ m.fonts.length ∧ m.fonts.length ≤ 3
  f : ∀ p ∈ m.fonts, (1 ≤ p.1 ∧ p.1 ≤ 8) ∧ 1 ≤ p.2 ∧ p.2 ≤ 8
  nl : m.fields.length ≤ 8
  l : ∀ p ∈ m.fields, p.1 ∈ NML ∧ 1 ≤ p.2 ∧ p.2 ≤ 12
  up : upS (m.fields.map (·.1)) = true
structure Stg where
  x : Int
  y : Int
  turn : Int
  font : Int
  scale : Int
  ink : Str
def Stg.d (s : Stg) : PyData := .tuple [.int s.x, .int s.y, .int s.turn, .int s.font, .int s.scale, .str s.ink]
def inkOk (s : Str) : Prop := s = "set" ∨ s = "flip"
structure Stg.Ok (m : Mch) (s : Stg) : Prop where
  turn : 0 ≤ s.turn ∧ s.turn ≤ 3
  font : 0 ≤ s.font ∧ s.font ≤ m.fonts.length - 1
  scale : 1 ≤ s.scale ∧ s.scale ≤ 3
  ink : inkOk s.ink
inductive Cmd where
  | home (x y : Int) | move (x y : Int) | turn (n : Int) | font (n : Int) | scale (n : Int) | ink (s : Str) | plain
  | box (x y a b : Int) | clear (x y a b : Int) | field (x y : Int) (s : Str)
def Cmd.word : Cmd → Str
  | .home _ _ => "home" | .move _ _ => "move" | .turn _ => "turn" | .font _ => "font" | .scale _ => "scale" | .ink _ => "ink" | .plain => "plain"
  | .box _ _ _ _ => "box" | .clear _ _ _ _ => "clear" | .field _ _ _ => "field"
def Cmd.rest : Cmd → List PyData
  | .home x y => [.int x, .int y] | .move x y => [.int x, .int y] | .turn n => [.int n] | .font n => [.int n] | .scale n => [.int n] | .ink s => [.str s] | .plain => []
  | .box x y a b => [.int x, .int y, .int a, .int b] | .clear x y a b => [.int x, .int y, .int a, .int b] | .field x y s => [.int x, .int y, .str s]
def Cmd.kinds : Cmd → List Str
  | .home _ _ => ["place", "place"] | .move _ _ => ["place", "place"] | .turn _ => ["turn"] | .font _ => ["font"] | .scale _ => ["scale"] | .ink _ => ["ink"] | .plain => []
  | .box _ _ _ _ => ["place", "place", "length", "length"] | .clear _ _ _ _ => ["place", "place", "length", "length"] | .field _ _ _ => ["place", "place", "name"]
def Cmd.d (c : Cmd) : PyData := .tuple (.str c.word :: c.rest)
/-- a thing of a kind -/
inductive PartOk (m : Mch) : Str → PyData → Prop
  | origin (i : Int) : PartOk m "origin" (.int i)
  | place {i : Int} (h : -1000000 ≤ i ∧ i ≤ 1000000) : PartOk m "place" (.int i)
  | length {i : Int} (h : 1 ≤ i ∧ i ≤ 40) : PartOk m "length" (.int i)
  | turn {i : Int} (h : 0 ≤ i ∧ i ≤ 3) : PartOk m "turn" (.int i)
  | font {i : Int} (h : 0 ≤ i ∧ i ≤ m.fonts.length - 1) : PartOk m "font" (.int i)
  | scale {i : Int} (h : 1 ≤ i ∧ i ≤ 3) : PartOk m "scale" (.int i)
  | ink {s : Str} (h : inkOk s) : PartOk m "ink" (.str s)
  | name {s : Str} (h : s ∈ m.fields.map (·.1)) : PartOk m "name" (.str s)
inductive PartsOk (m : Mch) : List Str → List PyData → Prop
  | nil : PartsOk m [] []
  | cons {k : Str} {v : PyData} {ks : List Str} {vs : List PyData} : PartOk m k v → PartsOk m ks vs → PartsOk m (k :: ks) (v :: vs)
def Cmd.Ok (m : Mch) (c : Cmd) : Prop := PartsOk m c.kinds c.rest
theorem PartsOk.len {m : Mch} {ks : List Str} {vs : List PyData} (h : PartsOk m ks vs) : ks.length = vs.length := by
  induction h with
  | nil => rfl
  | cons _ _ ih => simp [ih]
theorem nml_ok : ∀ s ∈ NML, PyData.strOk s = true := by decide +kernel
theorem Cmd.word_ok (c : Cmd) : PyData.strOk c.word = true := by cases c <;> (simp only [Cmd.word]; decide +kernel)
abbrev B1 : PyData := .bool true
theorem bools_true {α : Type} : ∀ l : List α, ∃ bs, bools (l.map fun _ => B1) = some bs ∧ bs.all id = true
  | [] => ⟨[], rfl, rfl⟩
  | _ :: r => let ⟨bs, e, h⟩ := bools_true r; ⟨true :: bs, by simp [e], by simpa using h⟩

/-! ### is_row -/
def tb_is_row : TSt := (xRet (xAndV (xIsi "tuple" (xVar 0)) (xBin (xCB (xaCons (xVar 0) xaNil) cLen) (xVar 1) oEq)))
abbrev pt_is_row : PT' := ptA (fun a : List PyData × Int => [.v (.tuple a.1), .v (.int a.2)]) (fun _ => True) fun a => .bool ((a.1.length : Int) == a.2)
abbrev pt_is_row_mo := @ptA_mo _ (fun a : List PyData × Int => [.v (.tuple a.1), .v (.int a.2)]) (fun _ => True) fun a => .bool ((a.1.length : Int) == a.2)
theorem sp_is_row : ∀ ss g Q, ss.length = 2 → pt_is_row ss g Q → tb_is_row { nx := fun _ g' => Q .none g', rt := Q } (envOf n_is_row ss) g := by
  rintro ss g Q _ ⟨⟨l, n⟩, rfl, -, q⟩
  simpa [tb_is_row] using q
/-! ### is_whole -/
def tb_is_whole : TSt := (xRet (xAndV (xIsi "int" (xVar 0)) (xNotV (xIsi "bool" (xVar 0)))))
abbrev pt_is_whole : PT' := ptA (fun i : Int => [.v (.int i)]) (fun _ => True) fun _ => B1
abbrev pt_is_whole_mo := @ptA_mo _ (fun i : Int => [.v (.int i)]) (fun _ => True) fun _ => B1
theorem sp_is_whole : ∀ ss g Q, ss.length = 1 → pt_is_whole ss g Q → tb_is_whole { nx := fun _ g' => Q .none g', rt := Q } (envOf n_is_whole ss) g := by
  rintro ss g Q _ ⟨i, rfl, -, q⟩
  simpa [tb_is_whole] using q
/-! ### is_between -/
def tb_is_between : TSt := (xRet (xAndV (xCall (xaCons (xVar 0) xaNil) pt_is_whole) (xChain (xVar 1) (xVar 0) (xVar 2) oLe oLe)))
abbrev pt_is_between : PT' := ptA (fun a : Int × Int × Int => [.v (.int a.1), .v (.int a.2.1), .v (.int a.2.2)]) (fun _ => True) fun a => .bool (decide (a.2.1 ≤ a.1) && decide (a.1 ≤ a.2.2))
abbrev pt_is_between_mo := @ptA_mo _ (fun a : Int × Int × Int => [.v (.int a.1), .v (.int a.2.1), .v (.int a.2.2)]) (fun _ => True) fun a => .bool (decide (a.2.1 ≤ a.1) && decide (a.1 ≤ a.2.2))
theorem sp_is_between : ∀ ss g Q, ss.length = 3 → pt_is_between ss g Q → tb_is_between { nx := fun _ g' => Q .none g', rt := Q } (envOf n_is_between ss) g := by
  rintro ss g Q _ ⟨⟨i, lo, hi⟩, rfl, -, q⟩
  by_cases h : lo ≤ i
  · have h' : ¬ i < lo := by omega
    simpa [tb_is_between, ptA, h, h'] using q
  · have h' : i < lo := by omega
    simpa [tb_is_between, ptA, h, h'] using q
/-! ### is_size -/
def tb_is_size : TSt := (xRet (xAndV (xCall (xaCons (xVar 0) (xaCons (xC (.int 2)) xaNil)) pt_is_row) (xAndV (xCall (xaCons (xBin (xVar 0) (xC (.int 0)) oIx) (xaCons (xC (.int 1)) (xaCons (xC (.int 40)) xaNil))) pt_is_between) (xCall (xaCons (xBin (xVar 0) (xC (.int 1)) oIx) (xaCons (xC (.int 1)) (xaCons (xC (.int 40)) xaNil))) pt_is_between))))
abbrev pt_is_size : PT' := ptA (fun m : Mch => [.v (.tuple [.int m.wide, .int m.high])]) (fun m => m.Ok) fun _ => B1
abbrev pt_is_size_mo := @ptA_mo _ (fun m : Mch => [.v (.tuple [.int m.wide, .int m.high])]) (fun m => m.Ok) fun _ => B1
theorem sp_is_size : ∀ ss g Q, ss.length = 1 → pt_is_size ss g Q → tb_is_size { nx := fun _ g' => Q .none g', rt := Q } (envOf n_is_size ss) g := by
  rintro ss g Q _ ⟨m, rfl, ok, q⟩
  have h1 := ok.w
  have h2 := ok.h
  simp [tb_is_size, ptA, atI, ixN, and_assoc, h1, h2]
  exact Or.inr q
/-! ### is_font -/
def tb_is_font : TSt := (xRet (xAndV (xCall (xaCons (xVar 0) (xaCons (xC (.int 2)) xaNil)) pt_is_row) (xAndV (xCall (xaCons (xBin (xVar 0) (xC (.int 0)) oIx) (xaCons (xC (.int 1)) (xaCons (xC (.int 8)) xaNil))) pt_is_between) (xCall (xaCons (xBin (xVar 0) (xC (.int 1)) oIx) (xaCons (xC (.int 1)) (xaCons (xC (.int 8)) xaNil))) pt_is_between))))
abbrev pt_is_font : PT' := ptA (fun p : Int × Int => [.v (fontD p)]) (fun p => (1 ≤ p.1 ∧ p.1 ≤ 8) ∧ 1 ≤ p.2 ∧ p.2 ≤ 8) fun _ => B1
abbrev pt_is_font_mo := @ptA_mo _ (fun p : Int × Int => [.v (fontD p)]) (fun p => (1 ≤ p.1 ∧ p.1 ≤ 8) ∧ 1 ≤ p.2 ∧ p.2 ≤ 8) fun _ => B1
theorem sp_is_font : ∀ ss g Q, ss.length = 1 → pt_is_font ss g Q → tb_is_font { nx := fun _ g' => Q .none g', rt := Q } (envOf n_is_font ss) g := by
  rintro ss g Q _ ⟨⟨a, b⟩, rfl, ⟨h1, h2⟩, q⟩
  simp at h1 h2
  simp [tb_is_font, ptA, atI, ixN, and_assoc, fontD, h1, h2]
  exact Or.inr q
/-! ### are_fonts -/
def tb_are_fonts : TSt := (xSeq (xIfS (xOr (xNot (xTest (xIsi "tuple" (xVar 0)))) (xNot (xTest (xChain (xC (.int 1)) (xCB (xaCons (xVar 0) xaNil) cLen) (xC (.int 3)) oLe oLe))))
    (xRet (xC (.bool false)))
    xNext)
    (xRet (xCB (xaCons (xComp (xiTup (xVar 0)) (yName 1) xYes (xCall (xaCons (xVar 1) xaNil) pt_is_font) [1]) xaNil) cAll)))
abbrev pt_are_fonts : PT' := ptA (fun m : Mch => [.v (.tuple (m.fonts.map fontD))]) (fun m => m.Ok) fun _ => B1
abbrev pt_are_fonts_mo := @ptA_mo _ (fun m : Mch => [.v (.tuple (m.fonts.map fontD))]) (fun m => m.Ok) fun _ => B1
theorem sp_are_fonts : ∀ ss g Q, ss.length = 1 → pt_are_fonts ss g Q → tb_are_fonts { nx := fun _ g' => Q .none g', rt := Q } (envOf n_are_fonts ss) g := by
  rintro ss g Q _ ⟨m, rfl, ok, q⟩
  have h1 := ok.nf
  have h3 : m.fonts.length ≤ sizeLine := by have : 3 ≤ sizeLine := by decide +kernel
                                            omega
  have h4 : (1 : Int) ≤ m.fonts.length := by omega
  have h5 : (m.fonts.length : Int) ≤ 3 := by omega
  simp [tb_are_fonts, h1, h3, h4, h5, -compT]
  refine compT_pure (p := fun _ => true) (f := fun _ => B1) _ _ _ _ _ (fun d hd k k' hk _ => ?_) ?_
  · obtain ⟨p, hp, rfl⟩ := List.mem_map.1 hd
    have := ok.f p hp
    simp [ptA]
    exact ⟨_, _, rfl, this, hk rfl⟩
  · obtain ⟨bs, e1, e2⟩ := bools_true ((m.fonts.map fontD).filter fun _ => true)
    exact ⟨bs, e1, by rw [e2]; exact q⟩
/-! ### is_one_of -/
def tb_is_one_of : TSt := (xRet (xAndV (xIsi "str" (xVar 0)) (xBin (xVar 0) (xVar 1) oIn)))
def wordsD (tup : Bool) (ws : List Str) : PyData := if tup then .tuple (ws.map .str) else .list (ws.map .str)
abbrev pt_is_one_of : PT' := ptA (fun a : Str × Bool × List Str => [.v (.str a.1), .v (wordsD a.2.1 a.2.2)]) (fun a => PyData.strOk a.1 = true ∧ ∀ s ∈ a.2.2, PyData.strOk s = true) fun a => .bool (a.2.2.any (· == a.1))
abbrev pt_is_one_of_mo := @ptA_mo _ (fun a : Str × Bool × List Str => [.v (.str a.1), .v (wordsD a.2.1 a.2.2)]) (fun a => PyData.strOk a.1 = true ∧ ∀ s ∈ a.2.2, PyData.strOk s = true) fun a => .bool (a.2.2.any (· == a.1))
theorem words_shaped : ∀ ws : List Str, (∀ s ∈ ws, PyData.strOk s = true) → SeqAt.shaped (.tuple (ws.map .str)) = true ∧ noDicts (ws.map .str) = true := by
  intro ws h
  have a : PyData.canLayAll0 (ws.map .str) = true ∧ noDicts (ws.map .str) = true ∧ PyData.depthAll (ws.map .str) ≤ 1 := by
    induction ws with
    | nil => simp [PyData.canLayAll0, PyData.depthAll]
    | cons w r ih =>
      obtain ⟨i1, i2, i3⟩ := ih fun s hs => h s (List.mem_cons_of_mem _ hs)
      have := h w List.mem_cons_self
      simp [PyData.canLayAll0, PyData.canLay0, PyData.depthAll, PyData.depth, i1, i2, i3, this]
  refine ⟨?_, a.2.1⟩
  simp [SeqAt.shaped, PyData.canLay0, PyData.depth, a.1]
  omega
theorem sp_is_one_of : ∀ ss g Q, ss.length = 2 → pt_is_one_of ss g Q → tb_is_one_of { nx := fun _ g' => Q .none g', rt := Q } (envOf n_is_one_of ss) g := by
  rintro ss g Q _ ⟨⟨s, tup, ws⟩, rfl, ⟨h1, h2⟩, q⟩
  obtain ⟨a, b⟩ := words_shaped ws h2
  simp at h1
  simp [tb_is_one_of]
  refine ⟨ws.map .str, by cases tup <;> simp [wordsD], ⟨b, h1, a⟩, ?_⟩
  simpa [List.any_map, Function.comp_def] using q
/-! ### is_field -/
def tb_is_field : TSt := (xRet (xAndV (xCall (xaCons (xVar 0) (xaCons (xC (.int 2)) xaNil)) pt_is_row) (xAndV (xCall (xaCons (xBin (xVar 0) (xC (.int 0)) oIx) (xaCons (xC (.tuple [(.str "A"), (.str "B"), (.str "C"), (.str "D"), (.str "E"), (.str "F"), (.str "G"), (.str "H")])) xaNil)) pt_is_one_of) (xCall (xaCons (xBin (xVar 0) (xC (.int 1)) oIx) (xaCons (xC (.int 1)) (xaCons (xC (.int 12)) xaNil))) pt_is_between))))
abbrev pt_is_field : PT' := ptA (fun p : Str × Int => [.v (fieldD p)]) (fun p => p.1 ∈ NML ∧ 1 ≤ p.2 ∧ p.2 ≤ 12) fun _ => B1
abbrev pt_is_field_mo := @ptA_mo _ (fun p : Str × Int => [.v (fieldD p)]) (fun p => p.1 ∈ NML ∧ 1 ≤ p.2 ∧ p.2 ≤ 12) fun _ => B1
theorem sp_is_field : ∀ ss g Q, ss.length = 1 → pt_is_field ss g Q → tb_is_field { nx := fun _ g' => Q .none g', rt := Q } (envOf n_is_field ss) g := by
  rintro ss g Q _ ⟨⟨a, b⟩, rfl, ⟨h1, h2⟩, q⟩
  simp at h1 h2
  simp [tb_is_field, ptA, atI, ixN, and_assoc, fieldD, h2]
  exact Or.inr ⟨NML, rfl, nml_ok a h1, nml_ok, Or.inr ⟨h1, q⟩⟩
/-! ### are_fields -/
def tb_are_fields : TSt := (xSeq (xIfS (xOr (xNot (xTest (xIsi "tuple" (xVar 0)))) (xTest (xBin (xCB (xaCons (xVar 0) xaNil) cLen) (xCB (xaCons (xC (.tuple [(.str "A"), (.str "B"), (.str "C"), (.str "D"), (.str "E"), (.str "F"), (.str "G"), (.str "H")])) xaNil) cLen) oGt)))
    (xRet (xC (.bool false)))
    xNext)
    (xSeq (xIfS (xNot (xTest (xCB (xaCons (xComp (xiTup (xVar 0)) (yName 6) xYes (xCall (xaCons (xVar 6) xaNil) pt_is_field) [6]) xaNil) cAll)))
    (xRet (xC (.bool false)))
    xNext)
    (xSeq (xAsg (xComp (xiTup (xVar 0)) (yTup 2 (yCons (yName 2) (yCons (yName 3) yNil))) xYes (xVar 2) [2, 3]) (yName 1))
    (xRet (xCB (xaCons (xComp (xiZip (xaCons (xVar 1) (xaCons (xSlice (xVar 1) (xoSome (xC (.int 1))) xoNone) xaNil))) (yTup 2 (yCons (yName 4) (yCons (yName 5) yNil))) xYes (xBin (xVar 4) (xVar 5) oLt2) [4, 5]) xaNil) cAll)))))
abbrev pt_are_fields : PT' := ptA (fun m : Mch => [.v (.tuple (m.fields.map fieldD))]) (fun m => m.Ok) fun _ => B1
abbrev pt_are_fields_mo := @ptA_mo _ (fun m : Mch => [.v (.tuple (m.fields.map fieldD))]) (fun m => m.Ok) fun _ => B1
theorem zip_up : ∀ l : List Str, upS l = true → ∀ d ∈ zipD (l.map PyData.str) ((l.map PyData.str).drop 1), ∃ a b : Str, d = .tuple [.str a, .str b] ∧ a.cps.toList < b.cps.toList
  | [], _ => by intro d hd; simp [zipD] at hd
  | [a], _ => by intro d hd; simp [zipD] at hd
  | a :: b :: r, h => by
    intro d hd
    simp only [upS, Bool.and_eq_true, decide_eq_true_eq] at h
    rcases List.mem_cons.1 (show d ∈ PyData.tuple [.str a, .str b] :: zipD ((b :: r).map PyData.str) (((b :: r).map PyData.str).drop 1) from hd) with e | e
    · exact ⟨a, b, e, h.1⟩
    · exact zip_up (b :: r) h.2 d e
theorem zip_len : ∀ l m : List PyData, (zipD l m).length ≤ l.length
  | [], _ => by simp [zipD]
  | _ :: _, [] => by simp [zipD]
  | _ :: l, _ :: m => by have := zip_len l m; simp [zipD]; omega
theorem filter_tt {α : Type} (l : List α) : l.filter (fun _ => true) = l := List.filter_eq_self.2 fun _ _ => rfl
def fstD : PyData → PyData
  | .tuple (a :: _) => a
  | d => d
theorem fst_fields (m : Mch) : (m.fields.map fieldD).map fstD = (m.fields.map (·.1)).map PyData.str := by simp [Function.comp_def, fstD, fieldD]
theorem bools_nf {l : List PyData} : ∃ bs, bools (l.map fun _ => B1) = some bs ∧ false ∉ bs := by
  obtain ⟨bs, e, h⟩ := bools_true l
  exact ⟨bs, e, fun hf => by have := List.all_eq_true.1 h _ hf; cases this⟩
theorem sp_are_fields : ∀ ss g Q, ss.length = 1 → pt_are_fields ss g Q → tb_are_fields { nx := fun _ g' => Q .none g', rt := Q } (envOf n_are_fields ss) g := by
  rintro ss g Q _ ⟨m, rfl, ok, q⟩
  have h1 := ok.nl
  have h3 : m.fields.length ≤ sizeLine := by have : 8 ≤ sizeLine := by decide +kernel
                                             omega
  have h5 : ¬ 8 < m.fields.length := by omega
  have h6 : (m.fields.length : Int) ≤ 8 := by omega
  have h7 : ¬ (8 : Int) < m.fields.length := by omega
  simp [tb_are_fields, h1, h3, h5, h6, h7, -compT]
  refine compT_pure (p := fun _ => true) (f := fun _ => B1) _ _ _ _ _ (fun d hd k k' hk _ => ?_) ?_
  · obtain ⟨p, hp, rfl⟩ := List.mem_map.1 hd
    simp
    exact ⟨p, rfl, ok.l p hp, hk rfl⟩
  · obtain ⟨bs, e1, e2⟩ := bools_nf (l := (m.fields.map fieldD).filter fun _ => true)
    refine ⟨bs, by simpa using e1, ?_⟩
    rw [if_neg e2]
    refine compT_pure (p := fun _ => true) (f := fstD) _ _ _ _ _ (fun d hd k k' hk _ => ?_) ?_
    · obtain ⟨p, hp, rfl⟩ := List.mem_map.1 hd
      simpa [fieldD, fstD, and_assoc] using hk rfl
    · rw [filter_tt, fst_fields]
      refine ⟨_, _, ⟨rfl, rfl⟩, ?_, ?_⟩
      · exact Nat.le_trans (zip_len _ _) (by simpa using h3)
      · refine compT_pure (p := fun _ => true) (f := fun _ => B1) _ _ _ _ _ (fun d hd k k' hk _ => ?_) ?_
        · obtain ⟨a, b, rfl, hab⟩ := zip_up _ ok.up d (by simpa using hd)
          have hab' : a.cps < b.cps := by simpa using hab
          simpa [hab', and_assoc] using hk rfl
        · obtain ⟨bs, e1, e2⟩ := bools_true ((zipD (List.map PyData.str (List.map (fun x => x.fst) m.fields)) (cutD ([] ++ List.map PyData.str (List.map (fun x => x.fst) m.fields)) (some 1) none)).filter fun _ => true)
          refine ⟨bs, by simpa using e1, by rw [e2]; exact q⟩
/-! ### need_machine -/
def tb_need_machine : TSt := (xSeq (xIfS (xNot (xTest (xCall (xaCons (xVar 0) (xaCons (xC (.int 3)) xaNil)) pt_is_row)))
    xNever
    xNext)
    (xSeq (xIfS (xNot (xTest (xCall (xaCons (xBin (xVar 0) (xC (.int 0)) oIx) xaNil) pt_is_size)))
    xNever
    xNext)
    (xSeq (xIfS (xNot (xTest (xCall (xaCons (xBin (xVar 0) (xC (.int 1)) oIx) xaNil) pt_are_fonts)))
    xNever
    xNext)
    (xSeq (xIfS (xNot (xTest (xCall (xaCons (xBin (xVar 0) (xC (.int 2)) oIx) xaNil) pt_are_fields)))
    xNever
    xNext)
    (xRet (xVar 0))))))
abbrev pt_need_machine : PT' := ptA (fun m : Mch => [.v m.d]) (fun m => m.Ok) fun m => m.d
abbrev pt_need_machine_mo := @ptA_mo _ (fun m : Mch => [.v m.d]) (fun m => m.Ok) fun m => m.d
theorem sp_need_machine : ∀ ss g Q, ss.length = 1 → pt_need_machine ss g Q → tb_need_machine { nx := fun _ g' => Q .none g', rt := Q } (envOf n_need_machine ss) g := by
  rintro ss g Q _ ⟨m, rfl, ok, q⟩
  simp [tb_need_machine, ptA, Mch.d, atI, ixN, and_assoc]
  exact ⟨m, rfl, rfl, ok, m, rfl, ok, m, rfl, ok, q⟩
/-! ### is_part -/
def tb_is_part : TSt := (xSeq (xIfS (xTest (xBin (xVar 1) (xC (.str "origin")) oEq))
    (xRet (xCall (xaCons (xVar 2) xaNil) pt_is_whole))
    xNext)
    (xSeq (xIfS (xTest (xBin (xVar 1) (xC (.str "place")) oEq))
    (xRet (xCall (xaCons (xVar 2) (xaCons (xNeg (xC (.int 1000000))) (xaCons (xC (.int 1000000)) xaNil))) pt_is_between))
    xNext)
    (xSeq (xIfS (xTest (xBin (xVar 1) (xC (.str "length")) oEq))
    (xRet (xCall (xaCons (xVar 2) (xaCons (xC (.int 1)) (xaCons (xC (.int 40)) xaNil))) pt_is_between))
    xNext)
    (xSeq (xIfS (xTest (xBin (xVar 1) (xC (.str "turn")) oEq))
    (xRet (xCall (xaCons (xVar 2) (xaCons (xC (.int 0)) (xaCons (xC (.int 3)) xaNil))) pt_is_between))
    xNext)
    (xSeq (xIfS (xTest (xBin (xVar 1) (xC (.str "font")) oEq))
    (xRet (xCall (xaCons (xVar 2) (xaCons (xC (.int 0)) (xaCons (xBin (xCB (xaCons (xBin (xVar 0) (xC (.int 1)) oIx) xaNil) cLen) (xC (.int 1)) oSub) xaNil))) pt_is_between))
    xNext)
    (xSeq (xIfS (xTest (xBin (xVar 1) (xC (.str "scale")) oEq))
    (xRet (xCall (xaCons (xVar 2) (xaCons (xC (.int 1)) (xaCons (xC (.int 3)) xaNil))) pt_is_between))
    xNext)
    (xSeq (xIfS (xTest (xBin (xVar 1) (xC (.str "ink")) oEq))
    (xRet (xCall (xaCons (xVar 2) (xaCons (xC (.tuple [(.str "set"), (.str "flip")])) xaNil)) pt_is_one_of))
    xNext)
    (xRet (xCall (xaCons (xVar 2) (xaCons (xComp (xiTup (xBin (xVar 0) (xC (.int 2)) oIx)) (yTup 2 (yCons (yName 3) (yCons (yName 4) yNil))) xYes (xVar 3) [3, 4]) xaNil)) pt_is_one_of)))))))))
abbrev pt_is_part : PT' := ptA (fun a : Mch × Str × PyData => [.v a.1.d, .v (.str a.2.1), .v a.2.2]) (fun a => a.1.Ok ∧ PartOk a.1 a.2.1 a.2.2) fun _ => B1
abbrev pt_is_part_mo := @ptA_mo _ (fun a : Mch × Str × PyData => [.v a.1.d, .v (.str a.2.1), .v a.2.2]) (fun a => a.1.Ok ∧ PartOk a.1 a.2.1 a.2.2) fun _ => B1
theorem sp_is_part : ∀ ss g Q, ss.length = 3 → pt_is_part ss g Q → tb_is_part { nx := fun _ g' => Q .none g', rt := Q } (envOf n_is_part ss) g := by
  rintro ss g Q _ ⟨⟨m, k, v⟩, rfl, ⟨ok, h⟩, q⟩
  have q' : Q B1 g := q
  simp only at ok h
  cases h with
  | origin i =>
    simpa [tb_is_part, ptA, Mch.d, atI, ixN, and_assoc] using q'
  | place h =>
    simpa [tb_is_part, ptA, Mch.d, atI, ixN, and_assoc, h] using q'
  | length h =>
    simpa [tb_is_part, ptA, Mch.d, atI, ixN, and_assoc, h] using q'
  | turn h =>
    simpa [tb_is_part, ptA, Mch.d, atI, ixN, and_assoc, h] using q'
  | font h =>
    simpa [tb_is_part, ptA, Mch.d, atI, ixN, and_assoc, h] using q'
  | scale h =>
    simpa [tb_is_part, ptA, Mch.d, atI, ixN, and_assoc, h] using q'
  | @ink s h =>
    simp [tb_is_part, ptA, Mch.d, atI, ixN, and_assoc, h]
    have hs : PyData.strOk s = true ∧ (["set", "flip"] : List Str).any (fun x => x == s) = true := by
      rcases h with h | h <;> subst h <;> decide +kernel
    exact Or.inr ⟨["set", "flip"], rfl, hs.1, by decide +kernel, by rw [hs.2]; exact q'⟩
  | @name s h =>
    simp [tb_is_part, ptA, Mch.d, atI, ixN, and_assoc, -compT]
    have h3 : m.fields.length ≤ sizeLine := Nat.le_trans ok.nl (by decide +kernel)
    have hs : ∀ z ∈ m.fields.map (·.1), PyData.strOk z = true := fun z hz => by
      obtain ⟨p, hp, rfl⟩ := List.mem_map.1 hz
      exact nml_ok _ (ok.l p hp).1
    refine ⟨h3, compT_pure (p := fun _ => true) (f := fstD) _ _ _ _ _ (fun d hd k k' hk _ => ?_) ?_⟩
    · obtain ⟨p, hp, rfl⟩ := List.mem_map.1 hd
      simpa [fieldD, fstD, and_assoc] using hk rfl
    · rw [filter_tt, fst_fields]
      refine Or.inl ⟨m.fields.map (·.1), rfl, hs s h, hs, ?_⟩
      have : (m.fields.map (·.1)).any (fun x => x == s) = true := List.any_eq_true.2 ⟨s, h, by simp⟩
      rw [this]
      exact q'
/-! ### are_parts -/
def tb_are_parts : TSt := (xSeq (xIfS (xNot (xTest (xCall (xaCons (xVar 2) (xaCons (xCB (xaCons (xVar 1) xaNil) cLen) xaNil)) pt_is_row)))
    (xRet (xC (.bool false)))
    xNext)
    (xRet (xCB (xaCons (xComp (xiZip (xaCons (xVar 1) (xaCons (xVar 2) xaNil))) (yTup 2 (yCons (yName 3) (yCons (yName 4) yNil))) xYes (xCall (xaCons (xVar 0) (xaCons (xVar 3) (xaCons (xVar 4) xaNil))) pt_is_part) [3, 4]) xaNil) cAll)))
abbrev pt_are_parts : PT' := ptA (fun a : Mch × List Str × List PyData => [.v a.1.d, .v (.tuple (a.2.1.map .str)), .v (.tuple a.2.2)]) (fun a => a.1.Ok ∧ PartsOk a.1 a.2.1 a.2.2 ∧ a.2.1.length ≤ 60) fun a => B1
abbrev pt_are_parts_mo := @ptA_mo _ (fun a : Mch × List Str × List PyData => [.v a.1.d, .v (.tuple (a.2.1.map .str)), .v (.tuple a.2.2)]) (fun a => a.1.Ok ∧ PartsOk a.1 a.2.1 a.2.2 ∧ a.2.1.length ≤ 60) fun a => B1
theorem PartsOk.zip {m : Mch} {ks : List Str} {vs : List PyData} (h : PartsOk m ks vs) : ∀ d ∈ zipD (ks.map PyData.str) vs, ∃ k v, d = .tuple [.str k, v] ∧ PartOk m k v := by
  induction h with
  | nil => intro d hd; simp [zipD] at hd
  | @cons k v ks vs h _ ih =>
    intro d hd
    rcases List.mem_cons.1 (show d ∈ PyData.tuple [.str k, v] :: zipD (ks.map PyData.str) vs from hd) with e | e
    · exact ⟨k, v, e, h⟩
    · exact ih d e
theorem sp_are_parts : ∀ ss g Q, ss.length = 3 → pt_are_parts ss g Q → tb_are_parts { nx := fun _ g' => Q .none g', rt := Q } (envOf n_are_parts ss) g := by
  rintro ss g Q _ ⟨⟨m, ks, vs⟩, rfl, ⟨ok, h, hl⟩, q⟩
  have q' : Q B1 g := q
  have hn := h.len
  simp only at ok h hl hn
  have hz : (zipD (ks.map PyData.str) vs).length ≤ sizeLine := Nat.le_trans (zip_len _ _) (by simpa using Nat.le_trans hl (by decide +kernel))
  simp [tb_are_parts, ptA, and_assoc, -compT, hn]
  refine ⟨hz, compT_pure (p := fun _ => true) (f := fun _ => B1) _ _ _ _ _ (fun d hd k k' hk _ => ?_) ?_⟩
  · obtain ⟨k1, v, rfl, hp⟩ := h.zip d hd
    simp [and_assoc, ptA]
    exact ⟨m, rfl, ok, hp, hk rfl⟩
  · obtain ⟨bs, e1, e2⟩ := bools_true ((zipD (ks.map PyData.str) vs).filter fun _ => true)
    exact ⟨bs, by simpa using e1, by rw [e2]; exact q'⟩
/-! ### is_settings -/
def tb_is_settings : TSt := (xSeq (xDrop (xCall (xaCons (xVar 0) xaNil) pt_need_machine))
    (xRet (xCall (xaCons (xVar 0) (xaCons (xC (.tuple [(.str "origin"), (.str "origin"), (.str "turn"), (.str "font"), (.str "scale"), (.str "ink")])) (xaCons (xVar 1) xaNil))) pt_are_parts)))
abbrev pt_is_settings : PT' := ptA (fun a : Mch × Stg => [.v a.1.d, .v a.2.d]) (fun a => a.1.Ok ∧ a.2.Ok a.1) fun a => B1
abbrev pt_is_settings_mo := @ptA_mo _ (fun a : Mch × Stg => [.v a.1.d, .v a.2.d]) (fun a => a.1.Ok ∧ a.2.Ok a.1) fun a => B1
def SETK : List Str := ["origin", "origin", "turn", "font", "scale", "ink"]
theorem Stg.parts {m : Mch} {s : Stg} (h : s.Ok m) : PartsOk m SETK [.int s.x, .int s.y, .int s.turn, .int s.font, .int s.scale, .str s.ink] :=
  .cons (.origin _) (.cons (.origin _) (.cons (.turn h.turn) (.cons (.font h.font) (.cons (.scale h.scale) (.cons (.ink h.ink) .nil)))))
theorem sp_is_settings : ∀ ss g Q, ss.length = 2 → pt_is_settings ss g Q → tb_is_settings { nx := fun _ g' => Q .none g', rt := Q } (envOf n_is_settings ss) g := by
  rintro ss g Q _ ⟨⟨m, s⟩, rfl, ⟨ok, h⟩, q⟩
  simp [tb_is_settings, ptA, and_assoc]
  exact ⟨m, rfl, ok, m, rfl, SETK, rfl, _, rfl, ok, Stg.parts h, by decide, q⟩
/-! ### need_settings -/
def tb_need_settings : TSt := (xIfS (xNot (xTest (xCall (xaCons (xVar 0) (xaCons (xVar 1) xaNil)) pt_is_settings)))
    xNever
    xNext)
abbrev pt_need_settings : PT' := ptA (fun a : Mch × Stg => [.v a.1.d, .v a.2.d]) (fun a => a.1.Ok ∧ a.2.Ok a.1) fun a => .none
abbrev pt_need_settings_mo := @ptA_mo _ (fun a : Mch × Stg => [.v a.1.d, .v a.2.d]) (fun a => a.1.Ok ∧ a.2.Ok a.1) fun a => .none
theorem sp_need_settings : ∀ ss g Q, ss.length = 2 → pt_need_settings ss g Q → tb_need_settings { nx := fun _ g' => Q .none g', rt := Q } (envOf n_need_settings ss) g := by
  rintro ss g Q _ ⟨⟨m, s⟩, rfl, ⟨ok, h⟩, q⟩
  simp [tb_need_settings, ptA, and_assoc]
  exact ⟨m, rfl, s, rfl, ok, h, q⟩
/-! ### fits_command -/
def tb_fits_command : TSt := (xSeq (xIfS (xOr (xNot (xTest (xIsi "tuple" (xVar 1)))) (xTest (xBin (xCB (xaCons (xVar 1) xaNil) cLen) (xC (.int 0)) oEq)))
    (xRet (xC (.bool false)))
    xNext)
    (xSeq (xAsg (xBin (xVar 1) (xC (.int 0)) oIx) (yName 2))
    (xSeq (xIfS (xOr (xNot (xTest (xIsi "str" (xVar 2)))) (xTest (xKIn true tbl_COMMAND_KINDS (xVar 2))))
    (xRet (xC (.bool false)))
    xNext)
    (xRet (xCall (xaCons (xVar 0) (xaCons (xKGet tbl_COMMAND_KINDS (xVar 2)) (xaCons (xSlice (xVar 1) (xoSome (xC (.int 1))) xoNone) xaNil))) pt_are_parts)))))
abbrev pt_fits_command : PT' := ptA (fun a : Mch × Cmd => [.v a.1.d, .v a.2.d]) (fun a => a.1.Ok ∧ a.2.Ok a.1) fun a => B1
abbrev pt_fits_command_mo := @ptA_mo _ (fun a : Mch × Cmd => [.v a.1.d, .v a.2.d]) (fun a => a.1.Ok ∧ a.2.Ok a.1) fun a => B1
theorem kinds_at (c : Cmd) : tbl_COMMAND_KINDS.lookup c.word = some (.tuple (c.kinds.map .str)) := by
  cases c <;> rfl
theorem Cmd.kinds_len (c : Cmd) : c.kinds.length ≤ 60 := by cases c <;> simp [Cmd.kinds]
theorem sp_fits_command : ∀ ss g Q, ss.length = 2 → pt_fits_command ss g Q → tb_fits_command { nx := fun _ g' => Q .none g', rt := Q } (envOf n_fits_command ss) g := by
  rintro ss g Q _ ⟨⟨m, c⟩, rfl, ⟨ok, h⟩, q⟩
  simp only at ok h
  simp [tb_fits_command, ptA, and_assoc, Cmd.d, atI, ixN, kinds_at]
  have h0 : ¬ ((c.rest.length : Int) + 1 = 0) := by omega
  exact ⟨m, rfl, c.kinds, rfl, ok, h, c.kinds_len, q⟩
/-! ### need_program -/
def tb_need_program : TSt := (xSeq (xIfS (xOr (xNot (xTest (xIsi "tuple" (xVar 1)))) (xTest (xBin (xCB (xaCons (xVar 1) xaNil) cLen) (xC (.int 60)) oGt)))
    xNever
    xNext)
    (xFor (xiEnum (xaCons (xVar 1) xaNil)) (yTup 2 (yCons (yName 2) (yCons (yName 3) yNil)))
    (xIfS (xNot (xTest (xCall (xaCons (xVar 0) (xaCons (xVar 3) xaNil)) pt_fits_command)))
    xNever
    xNext)))
abbrev pt_need_program : PT' := ptA (fun a : Mch × List Cmd => [.v a.1.d, .v (.tuple (a.2.map Cmd.d))]) (fun a => a.1.Ok ∧ (∀ c ∈ a.2, c.Ok a.1) ∧ a.2.length ≤ 60) fun a => .none
abbrev pt_need_program_mo := @ptA_mo _ (fun a : Mch × List Cmd => [.v a.1.d, .v (.tuple (a.2.map Cmd.d))]) (fun a => a.1.Ok ∧ (∀ c ∈ a.2, c.Ok a.1) ∧ a.2.length ≤ 60) fun a => .none
theorem enum_mem : ∀ {cs : List Cmd} (n : Nat) (d : PyData), d ∈ enumD n (cs.map Cmd.d) → ∃ (i : Nat) (c : Cmd), c ∈ cs ∧ d = .tuple [.int i, c.d]
  | [], n, d, hd => by simp at hd
  | c :: r, n, d, hd => by
    rcases List.mem_cons.1 (show d ∈ PyData.tuple [.int n, c.d] :: enumD (n + 1) (r.map Cmd.d) from hd) with e | e
    · exact ⟨n, c, List.mem_cons_self, e⟩
    · obtain ⟨i, c', h1, h2⟩ := enum_mem (n + 1) d e
      exact ⟨i, c', List.mem_cons_of_mem _ h1, h2⟩
theorem sp_need_program : ∀ ss g Q, ss.length = 2 → pt_need_program ss g Q → tb_need_program { nx := fun _ g' => Q .none g', rt := Q } (envOf n_need_program ss) g := by
  rintro ss g Q _ ⟨⟨m, cs⟩, rfl, ⟨ok, h, hl⟩, q⟩
  have q' : Q .none g := q
  simp only at ok h hl
  have h5 : ¬ 60 < cs.length := by omega
  simp [tb_need_program, ptA, and_assoc, h5, -forT]
  refine ⟨by omega, forT_inv (fun E => ∃ a b, E = [S.v m.d, S.v (PyData.tuple (cs.map Cmd.d)), a, b]) _ _ ⟨_, _, rfl⟩ (fun d hd E hE f hf => ?_) fun E _ => q'⟩
  obtain ⟨a, b, rfl⟩ := hE
  obtain ⟨i, c, hc, rfl⟩ := enum_mem _ d hd
  simp [and_assoc, ptA]
  exact ⟨m, rfl, c, rfl, ok, h c hc, hf _ ⟨_, _, rfl⟩⟩
/-! ### need_start -/
def tb_need_start : TSt := (xSeq (xDrop (xCall (xaCons (xVar 0) (xaCons (xVar 1) xaNil)) pt_need_settings))
    (xDrop (xCall (xaCons (xVar 0) (xaCons (xVar 2) xaNil)) pt_need_program)))
abbrev pt_need_start : PT' := ptA (fun a : Mch × Stg × List Cmd => [.v a.1.d, .v a.2.1.d, .v (.tuple (a.2.2.map Cmd.d))]) (fun a => a.1.Ok ∧ a.2.1.Ok a.1 ∧ (∀ c ∈ a.2.2, c.Ok a.1) ∧ a.2.2.length ≤ 60) fun a => .none
abbrev pt_need_start_mo := @ptA_mo _ (fun a : Mch × Stg × List Cmd => [.v a.1.d, .v a.2.1.d, .v (.tuple (a.2.2.map Cmd.d))]) (fun a => a.1.Ok ∧ a.2.1.Ok a.1 ∧ (∀ c ∈ a.2.2, c.Ok a.1) ∧ a.2.2.length ≤ 60) fun a => .none
theorem sp_need_start : ∀ ss g Q, ss.length = 3 → pt_need_start ss g Q → tb_need_start { nx := fun _ g' => Q .none g', rt := Q } (envOf n_need_start ss) g := by
  rintro ss g Q _ ⟨⟨m, s, cs⟩, rfl, ⟨ok, h, hc, hl⟩, q⟩
  simp [tb_need_start, ptA, and_assoc]
  exact ⟨m, rfl, s, rfl, ok, h, m, rfl, cs, rfl, ok, hc, hl, q⟩
end TL

namespace TL
open PySem PySem.Spec PyProof.Rows L2 RZ

/-! ### overlap -/
def tb_overlap : TSt := (xSeq (xPar2 2 3 (xaCons (xCB (xaCons (xBin (xVar 0) (xC (.int 0)) oIx) (xaCons (xBin (xVar 1) (xC (.int 0)) oIx) xaNil)) cMax) (xaCons (xCB (xaCons (xBin (xVar 0) (xC (.int 1)) oIx) (xaCons (xBin (xVar 1) (xC (.int 1)) oIx) xaNil)) cMax) xaNil)))
    (xSeq (xPar2 4 5 (xaCons (xCB (xaCons (xBin (xVar 0) (xC (.int 2)) oIx) (xaCons (xBin (xVar 1) (xC (.int 2)) oIx) xaNil)) cMin) (xaCons (xCB (xaCons (xBin (xVar 0) (xC (.int 3)) oIx) (xaCons (xBin (xVar 1) (xC (.int 3)) oIx) xaNil)) cMin) xaNil)))
    (xSeq (xIfS (xOr (xTest (xBin (xVar 2) (xVar 4) oGt)) (xTest (xBin (xVar 3) (xVar 5) oGt)))
    (xRet (xC .none))
    xNext)
    (xRet (xTup (xaCons (xVar 2) (xaCons (xVar 3) (xaCons (xVar 4) (xaCons (xVar 5) xaNil)))))))))
@[simp] theorem sz1 : 1 ≤ sizeLine := by decide +kernel
@[simp] theorem sz2 : 2 ≤ sizeLine := by decide +kernel
@[simp] theorem sz3 : 3 ≤ sizeLine := by decide +kernel
@[simp] theorem sz4 : 4 ≤ sizeLine := by decide +kernel
@[simp] theorem sz5 : 5 ≤ sizeLine := by decide +kernel
@[simp] theorem sz6 : 6 ≤ sizeLine := by decide +kernel
@[simp] theorem sz7 : 7 ≤ sizeLine := by decide +kernel
theorem fontD_inj {p q : Int × Int} (h : fontD p = fontD q) : p = q := by
  cases p; cases q; simpa [fontD] using h
theorem fieldD_inj {p q : Str × Int} (h : fieldD p = fieldD q) : p = q := by
  cases p; cases q; simpa [fieldD] using h
@[simp] theorem Mch.d_inj (m a : Mch) : m.d = a.d ↔ m = a := by
  refine ⟨fun h => ?_, fun h => by rw [h]⟩
  cases m; cases a
  simp only [Mch.d, PyData.tuple.injEq, List.cons.injEq, PyData.int.injEq] at h
  obtain ⟨⟨h1, h2, _⟩, h3, h4, _⟩ := h
  subst h1 h2
  have e3 := (List.map_inj_right (f := fontD) fun _ _ e => fontD_inj e).1 h3
  have e4 := (List.map_inj_right (f := fieldD) fun _ _ e => fieldD_inj e).1 h4
  subst e3 e4
  rfl
@[simp] theorem Stg.d_inj (m a : Stg) : m.d = a.d ↔ m = a := by
  refine ⟨fun h => ?_, fun h => by rw [h]⟩
  cases m; cases a
  simpa [Stg.d] using h
@[simp] theorem Cmd.d_inj (c a : Cmd) : c.d = a.d ↔ c = a := by
  refine ⟨fun h => ?_, fun h => by rw [h]⟩
  cases c <;> cases a <;> simp [Cmd.d, Cmd.word, Cmd.rest] at h ⊢ <;> exact h
/-! ### rectangles -/
abbrev Rect := Int × Int × Int × Int
def rectD (r : Rect) : PyData := .tuple [.int r.1, .int r.2.1, .int r.2.2.1, .int r.2.2.2]
@[simp] theorem rectD_inj (a b : Rect) : rectD a = rectD b ↔ a = b := by
  obtain ⟨a1, a2, a3, a4⟩ := a
  obtain ⟨b1, b2, b3, b4⟩ := b
  simp [rectD]
def orectD : Option Rect → PyData
  | none => .none
  | some r => rectD r
def mx (i j : Int) : Int := if i < j then j else i
def mn (i j : Int) : Int := if j < i then j else i
def lapR (a b : Rect) : Option Rect :=
  if mn a.2.2.1 b.2.2.1 < mx a.1 b.1 ∨ mn a.2.2.2 b.2.2.2 < mx a.2.1 b.2.1 then none else some (mx a.1 b.1, mx a.2.1 b.2.1, mn a.2.2.1 b.2.2.1, mn a.2.2.2 b.2.2.2)
abbrev pt_overlap : PT' := ptA (fun a : Rect × Rect => [.v (rectD a.1), .v (rectD a.2)]) (fun a => True) fun a => orectD (lapR a.1 a.2)
abbrev pt_overlap_mo := @ptA_mo _ (fun a : Rect × Rect => [.v (rectD a.1), .v (rectD a.2)]) (fun a => True) fun a => orectD (lapR a.1 a.2)
theorem sp_overlap : ∀ ss g Q, ss.length = 2 → pt_overlap ss g Q → tb_overlap { nx := fun _ g' => Q .none g', rt := Q } (envOf n_overlap ss) g := by
  rintro ss g Q _ ⟨⟨⟨a1, a2, a3, a4⟩, ⟨b1, b2, b3, b4⟩⟩, rfl, -, q⟩
  simp [tb_overlap, ptA, rectD, atI, ixN, and_assoc]
  simp only [lapR, mx, mn] at q
  generalize (if b3 < a3 then b3 else a3) = z3 at *
  generalize (if b4 < a4 then b4 else a4) = z4 at *
  generalize (if a1 < b1 then b1 else a1) = z1 at *
  generalize (if a2 < b2 then b2 else a2) = z2 at *
  by_cases h : z3 < z1
  · have h' : ¬ z1 ≤ z3 := by omega
    rw [if_pos (Or.inl h)] at q
    simpa [orectD, rectD, h, h'] using q
  · have h' : z1 ≤ z3 := by omega
    by_cases h1 : z4 < z2
    · have h1' : ¬ z2 ≤ z4 := by omega
      rw [if_pos (Or.inr h1)] at q
      simpa [orectD, rectD, h, h', h1, h1'] using q
    · have h1' : z2 ≤ z4 := by omega
      rw [if_neg (fun e => e.elim h h1)] at q
      simpa [orectD, rectD, h, h', h1, h1'] using q
/-! ### extent -/
def tb_extent : TSt := (xSeq (xIfS (xTest (xBin (xBin (xVar 2) (xC (.int 0)) oIx) (xC (.str "field")) oEq))
    (xSeq (xAsg (xBin (xBin (xVar 0) (xC (.int 1)) oIx) (xBin (xVar 1) (xC (.int 3)) oIx) oIx) (yTup 2 (yCons (yName 4) (yCons (yName 5) yNil))))
    (xRet (xTup (xaCons (xBin (xBin (xVar 3) (xVar 4) oMul) (xBin (xVar 1) (xC (.int 4)) oIx) oMul) (xaCons (xBin (xVar 5) (xBin (xVar 1) (xC (.int 4)) oIx) oMul) xaNil)))))
    xNext)
    (xRet (xTup (xaCons (xBin (xVar 2) (xC (.int 3)) oIx) (xaCons (xBin (xVar 2) (xC (.int 4)) oIx) xaNil)))))
def Cmd.drawn : Cmd → Bool
  | .box _ _ _ _ => true
  | .clear _ _ _ _ => true
  | .field _ _ _ => true
  | _ => false
def Mch.fontAt (m : Mch) (i : Int) : Int × Int := (m.fonts[i.toNat]?).getD (1, 1)
/-- how many local points a drawing command is wide and high -/
def extR (m : Mch) (s : Stg) (c : Cmd) (n : Int) : Int × Int := match c with
  | .field _ _ _ => (n * (m.fontAt s.font).1 * s.scale, (m.fontAt s.font).2 * s.scale)
  | .box _ _ a b => (a, b)
  | .clear _ _ a b => (a, b)
  | _ => (0, 0)
abbrev pt_extent : PT' := ptA (fun a : Mch × Stg × Cmd × Int => [.v a.1.d, .v a.2.1.d, .v a.2.2.1.d, .v (.int a.2.2.2)]) (fun a => a.1.Ok ∧ a.2.1.Ok a.1 ∧ a.2.2.1.drawn = true) fun a => .tuple [.int (extR a.1 a.2.1 a.2.2.1 a.2.2.2).1, .int (extR a.1 a.2.1 a.2.2.1 a.2.2.2).2]
abbrev pt_extent_mo := @ptA_mo _ (fun a : Mch × Stg × Cmd × Int => [.v a.1.d, .v a.2.1.d, .v a.2.2.1.d, .v (.int a.2.2.2)]) (fun a => a.1.Ok ∧ a.2.1.Ok a.1 ∧ a.2.2.1.drawn = true) fun a => .tuple [.int (extR a.1 a.2.1 a.2.2.1 a.2.2.2).1, .int (extR a.1 a.2.1 a.2.2.1 a.2.2.2).2]
theorem font_at {m : Mch} {i : Int} (h : 0 ≤ i ∧ i ≤ m.fonts.length - 1) : atI (m.fonts.map fontD) i = some (fontD (m.fontAt i)) := by
  have h1 : i < (m.fonts.length : Int) := by omega
  have h2 : i.toNat < m.fonts.length := by omega
  unfold atI ixN Mch.fontAt
  rw [List.length_map, if_pos h.1, if_pos h1]
  simp [h2]
theorem font_bd {m : Mch} {i : Int} (ok : m.Ok) (h : 0 ≤ i ∧ i ≤ m.fonts.length - 1) : (1 ≤ (m.fontAt i).1 ∧ (m.fontAt i).1 ≤ 8) ∧ 1 ≤ (m.fontAt i).2 ∧ (m.fontAt i).2 ≤ 8 := by
  have h2 : i.toNat < m.fonts.length := by omega
  have e : m.fontAt i = m.fonts[i.toNat] := by simp [Mch.fontAt, h2]
  rw [e]
  exact ok.f _ (List.getElem_mem h2)
theorem at_0 (a : PyData) (r : List PyData) : atI (a :: r) 0 = some a := by
  have : (0 : Int) < (r.length : Int) + 1 := by omega
  simp [atI, ixN, this]
theorem at_1 (a b : PyData) (r : List PyData) : atI (a :: b :: r) 1 = some b := by
  have : (1 : Int) < (r.length : Int) + 1 + 1 := by omega
  simp [atI, ixN, this]
theorem at_2 (a b c : PyData) (r : List PyData) : atI (a :: b :: c :: r) 2 = some c := by
  have : (2 : Int) < (r.length : Int) + 1 + 1 + 1 := by omega
  simp [atI, ixN, this]
theorem at_3 (a b c d : PyData) (r : List PyData) : atI (a :: b :: c :: d :: r) 3 = some d := by
  have : (3 : Int) < (r.length : Int) + 1 + 1 + 1 + 1 := by omega
  simp [atI, ixN, this]
theorem at_4 (a b c d e : PyData) (r : List PyData) : atI (a :: b :: c :: d :: e :: r) 4 = some e := by
  have : (4 : Int) < (r.length : Int) + 1 + 1 + 1 + 1 + 1 := by omega
  simp [atI, ixN, this]
theorem mch_d1 (m : Mch) (g : Nat) (Q : PyData → Nat → Prop) : oIx m.d (.int 1) g Q = Q (.tuple (m.fonts.map fontD)) g := by
  simp [Mch.d, at_1]
theorem mch_d0 (m : Mch) (g : Nat) (Q : PyData → Nat → Prop) : oIx m.d (.int 0) g Q = Q (.tuple [.int m.wide, .int m.high]) g := by
  simp [Mch.d, at_0]
theorem mch_d2 (m : Mch) (g : Nat) (Q : PyData → Nat → Prop) : oIx m.d (.int 2) g Q = Q (.tuple (m.fields.map fieldD)) g := by
  simp [Mch.d, at_2]
theorem sp_extent : ∀ ss g Q, ss.length = 4 → pt_extent ss g Q → tb_extent { nx := fun _ g' => Q .none g', rt := Q } (envOf n_extent ss) g := by
  rintro ss g Q _ ⟨⟨m, s, c, n⟩, rfl, ⟨ok, hs, hc⟩, q⟩
  simp only at ok hs hc q
  have hf := font_at hs.font
  cases c <;> simp only [Cmd.drawn, Bool.false_eq_true] at hc
  · simpa [tb_extent, ptA, Cmd.d, Cmd.word, Cmd.rest, atI, ixN, extR] using q
  · simpa [tb_extent, ptA, Cmd.d, Cmd.word, Cmd.rest, atI, ixN, extR] using q
  · have b1 := font_bd ok hs.font
    have b2 := hs.scale
    simp only [tb_extent, xSeq, xIfS, xTest, xBin, xVar, xC]
    simp [Cmd.d, Cmd.word, Cmd.rest, at_0, at_3, at_4, Stg.d, mch_d1, hf, fontD, and_assoc]
    refine ⟨Or.inr (by omega), Or.inr (by omega), Or.inr (by omega), q⟩
/-! ### dot_of -/
def tb_dot_of : TSt := (xSeq (xAsg (xSlice (xVar 0) xoNone (xoSome (xC (.int 3)))) (yTup 3 (yCons (yName 2) (yCons (yName 3) (yCons (yName 4) yNil)))))
    (xSeq (xAsg (xVar 1) (yTup 2 (yCons (yName 5) (yCons (yName 6) yNil))))
    (xSeq (xIfS (xTest (xBin (xVar 4) (xC (.int 0)) oEq))
    (xRet (xTup (xaCons (xBin (xVar 2) (xVar 5) oAdd) (xaCons (xBin (xVar 3) (xVar 6) oAdd) xaNil))))
    xNext)
    (xSeq (xIfS (xTest (xBin (xVar 4) (xC (.int 1)) oEq))
    (xRet (xTup (xaCons (xBin (xVar 2) (xVar 6) oSub) (xaCons (xBin (xVar 3) (xVar 5) oAdd) xaNil))))
    xNext)
    (xSeq (xIfS (xTest (xBin (xVar 4) (xC (.int 2)) oEq))
    (xRet (xTup (xaCons (xBin (xVar 2) (xVar 5) oSub) (xaCons (xBin (xVar 3) (xVar 6) oSub) xaNil))))
    xNext)
    (xRet (xTup (xaCons (xBin (xVar 2) (xVar 6) oAdd) (xaCons (xBin (xVar 3) (xVar 5) oSub) xaNil)))))))))
def dotR (s : Stg) (x y : Int) : Int × Int :=
  if s.turn = 0 then (s.x + x, s.y + y) else if s.turn = 1 then (s.x - y, s.y + x) else if s.turn = 2 then (s.x - x, s.y - y) else (s.x + y, s.y - x)
abbrev pt_dot_of : PT' := ptA (fun a : Stg × Int × Int => [.v a.1.d, .v (.tuple [.int a.2.1, .int a.2.2])]) (fun a => True) fun a => .tuple [.int (dotR a.1 a.2.1 a.2.2).1, .int (dotR a.1 a.2.1 a.2.2).2]
abbrev pt_dot_of_mo := @ptA_mo _ (fun a : Stg × Int × Int => [.v a.1.d, .v (.tuple [.int a.2.1, .int a.2.2])]) (fun a => True) fun a => .tuple [.int (dotR a.1 a.2.1 a.2.2).1, .int (dotR a.1 a.2.1 a.2.2).2]
theorem sp_dot_of : ∀ ss g Q, ss.length = 2 → pt_dot_of ss g Q → tb_dot_of { nx := fun _ g' => Q .none g', rt := Q } (envOf n_dot_of ss) g := by
  rintro ss g Q _ ⟨⟨s, x, y⟩, rfl, -, q⟩
  simp only [dotR] at q
  simp [tb_dot_of, ptA, Stg.d, and_assoc]
  split at q
  · next h => simpa [h] using q
  · next h =>
    split at q
    · next h1 => simpa [h, h1] using q
    · next h1 =>
      split at q
      · next h2 => simpa [h, h1, h2] using q
      · next h2 => simpa [h, h1, h2] using q
/-! ### reach -/
def tb_reach : TSt := (xSeq (xAsg (xCall (xaCons (xVar 0) (xaCons (xVar 1) (xaCons (xVar 2) (xaCons (xVar 3) xaNil)))) pt_extent) (yTup 2 (yCons (yName 4) (yCons (yName 5) yNil))))
    (xSeq (xPar2 6 7 (xaCons (xBin (xVar 2) (xC (.int 1)) oIx) (xaCons (xBin (xVar 2) (xC (.int 2)) oIx) xaNil)))
    (xSeq (xAsg (xCall (xaCons (xVar 1) (xaCons (xTup (xaCons (xVar 6) (xaCons (xVar 7) xaNil))) xaNil)) pt_dot_of) (yTup 2 (yCons (yName 8) (yCons (yName 9) yNil))))
    (xSeq (xAsg (xCall (xaCons (xVar 1) (xaCons (xTup (xaCons (xBin (xBin (xVar 6) (xVar 4) oAdd) (xC (.int 1)) oSub) (xaCons (xBin (xBin (xVar 7) (xVar 5) oAdd) (xC (.int 1)) oSub) xaNil))) xaNil)) pt_dot_of) (yTup 2 (yCons (yName 10) (yCons (yName 11) yNil))))
    (xRet (xTup (xaCons (xCB (xaCons (xVar 8) (xaCons (xVar 10) xaNil)) cMin) (xaCons (xCB (xaCons (xVar 9) (xaCons (xVar 11) xaNil)) cMin) (xaCons (xCB (xaCons (xVar 8) (xaCons (xVar 10) xaNil)) cMax) (xaCons (xCB (xaCons (xVar 9) (xaCons (xVar 11) xaNil)) cMax) xaNil))))))))))
def Cmd.px : Cmd → Int
  | .box x _ _ _ => x
  | .clear x _ _ _ => x
  | .field x _ _ => x
  | _ => 0
def Cmd.py : Cmd → Int
  | .box _ y _ _ => y
  | .clear _ y _ _ => y
  | .field _ y _ => y
  | _ => 0
def reachR (m : Mch) (s : Stg) (c : Cmd) (n : Int) : Rect :=
  let a := dotR s c.px c.py
  let b := dotR s (c.px + (extR m s c n).1 - 1) (c.py + (extR m s c n).2 - 1)
  (mn a.1 b.1, mn a.2 b.2, mx a.1 b.1, mx a.2 b.2)
abbrev pt_reach : PT' := ptA (fun a : Mch × Stg × Cmd × Int => [.v a.1.d, .v a.2.1.d, .v a.2.2.1.d, .v (.int a.2.2.2)]) (fun a => a.1.Ok ∧ a.2.1.Ok a.1 ∧ a.2.2.1.drawn = true) fun a => rectD (reachR a.1 a.2.1 a.2.2.1 a.2.2.2)
abbrev pt_reach_mo := @ptA_mo _ (fun a : Mch × Stg × Cmd × Int => [.v a.1.d, .v a.2.1.d, .v a.2.2.1.d, .v (.int a.2.2.2)]) (fun a => a.1.Ok ∧ a.2.1.Ok a.1 ∧ a.2.2.1.drawn = true) fun a => rectD (reachR a.1 a.2.1 a.2.2.1 a.2.2.2)
theorem drawn_d {c : Cmd} (h : c.drawn = true) : ∃ r, c.d = .tuple (.str c.word :: .int c.px :: .int c.py :: r) := by
  cases c <;> first | exact ⟨_, rfl⟩ | cases h
theorem cmd_d1 {c : Cmd} (h : c.drawn = true) (g : Nat) (Q : PyData → Nat → Prop) : oIx c.d (.int 1) g Q = Q (.int c.px) g := by
  obtain ⟨r, e⟩ := drawn_d h
  rw [e]
  simp [at_1]
theorem cmd_d2 {c : Cmd} (h : c.drawn = true) (g : Nat) (Q : PyData → Nat → Prop) : oIx c.d (.int 2) g Q = Q (.int c.py) g := by
  obtain ⟨r, e⟩ := drawn_d h
  rw [e]
  simp [at_2]
theorem sp_reach : ∀ ss g Q, ss.length = 4 → pt_reach ss g Q → tb_reach { nx := fun _ g' => Q .none g', rt := Q } (envOf n_reach ss) g := by
  rintro ss g Q _ ⟨⟨m, s, c, n⟩, rfl, ⟨ok, hs, hc⟩, q⟩
  simp only at ok hs hc q
  simp [tb_reach, ptA, and_assoc, ok, hs, hc, cmd_d1 hc, cmd_d2 hc]
  exact q
/-! ### label_area -/
def tb_label_area : TSt := (xSeq (xAsg (xBin (xVar 0) (xC (.int 0)) oIx) (yTup 2 (yCons (yName 1) (yCons (yName 2) yNil))))
    (xRet (xTup (xaCons (xC (.int 0)) (xaCons (xC (.int 0)) (xaCons (xBin (xVar 1) (xC (.int 1)) oSub) (xaCons (xBin (xVar 2) (xC (.int 1)) oSub) xaNil)))))))
abbrev pt_label_area : PT' := ptA (fun a : Mch => [.v a.d]) (fun a => True) fun a => rectD (0, 0, a.wide - 1, a.high - 1)
abbrev pt_label_area_mo := @ptA_mo _ (fun a : Mch => [.v a.d]) (fun a => True) fun a => rectD (0, 0, a.wide - 1, a.high - 1)
theorem sp_label_area : ∀ ss g Q, ss.length = 1 → pt_label_area ss g Q → tb_label_area { nx := fun _ g' => Q .none g', rt := Q } (envOf n_label_area ss) g := by
  rintro ss g Q _ ⟨m, rfl, -, q⟩
  simpa [tb_label_area, ptA, Mch.d, rectD, atI, ixN, and_assoc] using q
/-! ### visible -/
def tb_visible : TSt := (xRet (xCall (xaCons (xCall (xaCons (xVar 0) (xaCons (xVar 1) (xaCons (xVar 2) (xaCons (xVar 3) xaNil)))) pt_reach) (xaCons (xCall (xaCons (xVar 0) xaNil) pt_label_area) xaNil)) pt_overlap))
def seeR (m : Mch) (s : Stg) (c : Cmd) (n : Int) : Option Rect := lapR (reachR m s c n) (0, 0, m.wide - 1, m.high - 1)
abbrev pt_visible : PT' := ptA (fun a : Mch × Stg × Cmd × Int => [.v a.1.d, .v a.2.1.d, .v a.2.2.1.d, .v (.int a.2.2.2)]) (fun a => a.1.Ok ∧ a.2.1.Ok a.1 ∧ a.2.2.1.drawn = true) fun a => orectD (seeR a.1 a.2.1 a.2.2.1 a.2.2.2)
abbrev pt_visible_mo := @ptA_mo _ (fun a : Mch × Stg × Cmd × Int => [.v a.1.d, .v a.2.1.d, .v a.2.2.1.d, .v (.int a.2.2.2)]) (fun a => a.1.Ok ∧ a.2.1.Ok a.1 ∧ a.2.2.1.drawn = true) fun a => orectD (seeR a.1 a.2.1 a.2.2.1 a.2.2.2)
theorem sp_visible : ∀ ss g Q, ss.length = 4 → pt_visible ss g Q → tb_visible { nx := fun _ g' => Q .none g', rt := Q } (envOf n_visible ss) g := by
  rintro ss g Q _ ⟨⟨m, s, c, n⟩, rfl, ⟨ok, hs, hc⟩, q⟩
  simp only at ok hs hc q
  simp [tb_visible, ptA, and_assoc, ok, hs, hc]
  exact ⟨_, _, _, _, rfl, q⟩
/-! ### is_cut -/
def tb_is_cut : TSt := (xRet (xBin (xCall (xaCons (xVar 0) (xaCons (xVar 1) (xaCons (xVar 2) (xaCons (xVar 3) xaNil)))) pt_visible) (xCall (xaCons (xVar 0) (xaCons (xVar 1) (xaCons (xVar 2) (xaCons (xVar 3) xaNil)))) pt_reach) oNe))
def isCut (m : Mch) (s : Stg) (c : Cmd) (n : Int) : Bool := seeR m s c n != some (reachR m s c n)
abbrev pt_is_cut : PT' := ptA (fun a : Mch × Stg × Cmd × Int => [.v a.1.d, .v a.2.1.d, .v a.2.2.1.d, .v (.int a.2.2.2)]) (fun a => a.1.Ok ∧ a.2.1.Ok a.1 ∧ a.2.2.1.drawn = true) fun a => .bool (isCut a.1 a.2.1 a.2.2.1 a.2.2.2)
abbrev pt_is_cut_mo := @ptA_mo _ (fun a : Mch × Stg × Cmd × Int => [.v a.1.d, .v a.2.1.d, .v a.2.2.1.d, .v (.int a.2.2.2)]) (fun a => a.1.Ok ∧ a.2.1.Ok a.1 ∧ a.2.2.1.drawn = true) fun a => .bool (isCut a.1 a.2.1 a.2.2.1 a.2.2.2)
theorem orect_ok (r : Option Rect) : noDict (orectD r) = true ∧ SeqAt.shaped (orectD r) = true := by
  cases r with
  | none => exact ⟨rfl, rfl⟩
  | some r =>
    refine ⟨by simp [orectD, rectD], ?_⟩
    simp [orectD, rectD, SeqAt.shaped, PyData.canLay0, PyData.canLayAll0, PyData.depth, PyData.depthAll]
theorem sp_is_cut : ∀ ss g Q, ss.length = 4 → pt_is_cut ss g Q → tb_is_cut { nx := fun _ g' => Q .none g', rt := Q } (envOf n_is_cut ss) g := by
  rintro ss g Q _ ⟨⟨m, s, c, n⟩, rfl, ⟨ok, hs, hc⟩, q⟩
  simp only at ok hs hc q
  have e : (!(orectD (seeR m s c n)).eqv (rectD (reachR m s c n))) = isCut m s c n := by
    unfold isCut
    cases seeR m s c n with
    | none => rfl
    | some r =>
      obtain ⟨a1, a2, a3, a4⟩ := r
      generalize reachR m s c n = z
      obtain ⟨b1, b2, b3, b4⟩ := z
      simp only [orectD, rectD, eqv_tt, eqv_cons, eqv_ii, eqv_nil]
      simp [bne, Bool.beq_eq_decide_eq]
  obtain ⟨n1, n2⟩ := orect_ok (seeR m s c n)
  obtain ⟨n3, n4⟩ := orect_ok (some (reachR m s c n))
  simp [tb_is_cut, ptA, and_assoc, ok, hs, hc]
  exact ⟨n1, n3, n2, n4, by rw [e]; exact q⟩
/-! ### signs_of -/
def tb_signs_of : TSt := (xSeq (xIfS (xTest (xBin (xBin (xVar 1) (xC (.int 0)) oIx) (xC (.str "field")) oEq))
    (xRet (xDGet (xCB (xaCons (xBin (xVar 0) (xC (.int 2)) oIx) xaNil) cDict) (xBin (xVar 1) (xC (.int 3)) oIx)))
    xNext)
    (xRet (xC (.int 1))))
/-- how many signs the field with a name has at most -/
def Mch.most (m : Mch) (x : Str) : Int := ((m.fields.find? fun p => p.1 == x).map (·.2)).getD 1
def Cmd.signs (m : Mch) : Cmd → Int
  | .field _ _ x => m.most x
  | _ => 1
theorem up_lt : ∀ (a : Str) (l : List Str), upS (a :: l) = true → ∀ b ∈ l, a.cps.toList < b.cps.toList
  | a, [], _, b, hb => by cases hb
  | a, c :: r, h, b, hb => by
    simp only [upS, Bool.and_eq_true, decide_eq_true_eq] at h
    rcases List.mem_cons.1 hb with e | e
    · rw [e]; exact h.1
    · exact List.lt_trans h.1 (up_lt c r h.2 b e)
theorem up_tail {a : Str} {l : List Str} (h : upS (a :: l) = true) : upS l = true := by
  cases l with
  | nil => rfl
  | cons b r => simp only [upS, Bool.and_eq_true] at h; exact h.2
theorem up_nodup : ∀ l : List Str, upS l = true → l.Nodup
  | [], _ => List.nodup_nil
  | a :: l, h => List.nodup_cons.2 ⟨fun hm => List.lt_irrefl _ (up_lt a l h a hm), up_nodup l (up_tail h)⟩
theorem pairs_fields : ∀ l : List (Str × Int), pairsD (l.map fieldD) = some (l.map fun p => (.inr p.1, .int p.2))
  | [] => rfl
  | p :: r => by simp [pairsD, pairs_fields r, fieldD, pairD, keyD]
theorem look_fields (x : Str) : ∀ l : List (Str × Int), x ∈ l.map (·.1) → lookD ((l.map fun p => ((.inr p.1 : Key), PyData.int p.2)).map fun p => (kD p.1, p.2)) (.str x) = some (.int (((l.find? fun p => p.1 == x).map (·.2)).getD 1))
  | [], h => by cases h
  | p :: r, h => by
    simp only [List.map_cons, lookD]
    by_cases e : p.1 = x
    · subst e
      simp [keyEq, kD]
    · have : x ∈ r.map (·.1) := by
        rcases List.mem_cons.1 h with h | h
        · exact absurd h.symm e
        · exact h
      have ih := look_fields x r this
      have e' : (p.1 == x) = false := by simpa using e
      simp only [List.find?_cons, e']
      rw [← ih]
      simp [keyEq, kD, e]
abbrev pt_signs_of : PT' := ptA (fun a : Mch × Cmd => [.v a.1.d, .v a.2.d]) (fun a => a.1.Ok ∧ a.2.Ok a.1 ∧ a.2.drawn = true) fun a => .int (a.2.signs a.1)
abbrev pt_signs_of_mo := @ptA_mo _ (fun a : Mch × Cmd => [.v a.1.d, .v a.2.d]) (fun a => a.1.Ok ∧ a.2.Ok a.1 ∧ a.2.drawn = true) fun a => .int (a.2.signs a.1)
theorem name_of {m : Mch} {x y : Int} {s : Str} (h : Cmd.Ok m (.field x y s)) : s ∈ m.fields.map (·.1) := by
  unfold Cmd.Ok Cmd.kinds Cmd.rest at h
  cases h with
  | cons _ h => cases h with
    | cons _ h => cases h with
      | cons h _ =>
        generalize hk : (Str.ofString "name") = k at h
        generalize hv : PyData.str s = v at h
        cases h with
        | name h => cases hv; exact h
        | ink h => simp at hk
        | _ => cases hv
theorem sp_signs_of : ∀ ss g Q, ss.length = 2 → pt_signs_of ss g Q → tb_signs_of { nx := fun _ g' => Q .none g', rt := Q } (envOf n_signs_of ss) g := by
  rintro ss g Q _ ⟨⟨m, c⟩, rfl, ⟨ok, hc, hd⟩, q⟩
  simp only at ok hc hd q
  cases c <;> simp only [Cmd.drawn, Bool.false_eq_true] at hd
  · simpa [tb_signs_of, ptA, Cmd.d, Cmd.word, Cmd.rest, at_0, Cmd.signs] using q
  · simpa [tb_signs_of, ptA, Cmd.d, Cmd.word, Cmd.rest, at_0, Cmd.signs] using q
  · rename_i x y s
    have hn := name_of hc
    simp [tb_signs_of, ptA, Cmd.d, Cmd.word, Cmd.rest, at_0, at_3, mch_d2, pairs_fields]
    refine ⟨fun e => by simp [e] at hn, ?_, _, ?_, q⟩
    · have h1 : m.fields.Pairwise fun a b => a.1 ≠ b.1 := List.pairwise_map.1 (up_nodup _ ok.up)
      exact List.pairwise_map.2 (h1.imp fun {a b} hab e => hab (Sum.inr.inj e))
    · have := look_fields y m.fields hn
      rw [List.map_map] at this
      exact this
/-! ### least_cut -/
def tb_least_cut : TSt := (xSeq (xIfS (xTest (xBin (xBin (xVar 2) (xC (.int 0)) oIx) (xC (.tuple [(.str "box"), (.str "clear"), (.str "field")])) oNotIn))
    (xRet (xC .none))
    xNext)
    (xSeq (xFor (xiRng2 (xaCons (xC (.int 1)) (xaCons (xBin (xCall (xaCons (xVar 0) (xaCons (xVar 2) xaNil)) pt_signs_of) (xC (.int 1)) oAdd) xaNil))) (yName 3)
    (xIfS (xTest (xCall (xaCons (xVar 0) (xaCons (xVar 1) (xaCons (xVar 2) (xaCons (xVar 3) xaNil)))) pt_is_cut))
    (xRet (xVar 3))
    xNext))
    (xRet (xC .none))))
def ointD : Option Int → PyData
  | none => .none
  | some i => .int i
/-- the first of so many numbers for which p holds -/
def firstFrom (p : Int → Bool) : Nat → Int → Option Int
  | 0, _ => none
  | n + 1, i => if p i = true then some i else firstFrom p n (i + 1)
def leastCut (m : Mch) (s : Stg) (c : Cmd) : Option Int := if c.drawn = true then firstFrom (isCut m s c) (c.signs m).toNat 1 else none
theorem most_bd {m : Mch} (ok : m.Ok) (x : Str) : 1 ≤ m.most x ∧ m.most x ≤ 12 := by
  unfold Mch.most
  cases h : m.fields.find? fun p => p.1 == x with
  | none => simp
  | some p => exact (ok.l p (List.mem_of_find?_eq_some h)).2
theorem signs_bd {m : Mch} (ok : m.Ok) (c : Cmd) : 1 ≤ c.signs m ∧ c.signs m ≤ 12 := by
  cases c <;> simp only [Cmd.signs] <;> first | exact most_bd ok _ | omega
theorem word_0 (c : Cmd) (g : Nat) (Q : PyData → Nat → Prop) : oIx c.d (.int 0) g Q = Q (.str c.word) g := by
  simp [Cmd.d, at_0]
theorem first_loop {m : Mch} {s : Stg} {c : Cmd} {Q : PyData → Nat → Prop} {g : Nat} (ok : m.Ok) (hs : s.Ok m) (hc : c.drawn = true) : ∀ (n : Nat) (i : Int) (x : S), Q (ointD (firstFrom (isCut m s c) n i)) g →
    forT (yName 3) (xIfS (xTest (xCall (xaCons (xVar 0) (xaCons (xVar 1) (xaCons (xVar 2) (xaCons (xVar 3) xaNil)))) pt_is_cut)) (xRet (xVar 3)) xNext) (rangeD i n)
      { nx := xRet (xC PyData.none) { nx := fun x g' => Q PyData.none g', rt := Q }, rt := Q } [S.v m.d, S.v s.d, S.v c.d, x] g
  | 0, i, x, q => by simpa [rangeD_0, firstFrom, ointD] using q
  | n + 1, i, x, q => by
    simp only [firstFrom] at q
    have ih := first_loop (Q := Q) (g := g) ok hs hc n (i + 1) (.v (.int i))
    rw [rangeD_s]
    simp only [forT]
    simp [ptA, and_assoc, ok, hs, hc, -forT]
    by_cases h : isCut m s c i = true
    · rw [if_pos h] at q
      simpa [h, ointD] using q
    · rw [if_neg h] at q
      simpa [h] using ih q
abbrev pt_least_cut : PT' := ptA (fun a : Mch × Stg × Cmd => [.v a.1.d, .v a.2.1.d, .v a.2.2.d]) (fun a => a.1.Ok ∧ a.2.1.Ok a.1 ∧ a.2.2.Ok a.1) fun a => ointD (leastCut a.1 a.2.1 a.2.2)
abbrev pt_least_cut_mo := @ptA_mo _ (fun a : Mch × Stg × Cmd => [.v a.1.d, .v a.2.1.d, .v a.2.2.d]) (fun a => a.1.Ok ∧ a.2.1.Ok a.1 ∧ a.2.2.Ok a.1) fun a => ointD (leastCut a.1 a.2.1 a.2.2)
theorem sp_least_cut : ∀ ss g Q, ss.length = 3 → pt_least_cut ss g Q → tb_least_cut { nx := fun _ g' => Q .none g', rt := Q } (envOf n_least_cut ss) g := by
  rintro ss g Q _ ⟨⟨m, s, c⟩, rfl, ⟨ok, hs, hc⟩, q⟩
  simp only at ok hs hc q
  have hb := signs_bd ok c
  have e1 : (c.signs m + 1).toNat - 1 = (c.signs m).toNat := by omega
  have h1 : -(2 ^ 62) ≤ c.signs m + 1 := by omega
  have h2 : c.signs m + 1 < 2 ^ 62 := by omega
  unfold leastCut at q
  by_cases hd : c.drawn = true
  · rw [if_pos hd] at q
    have hw : c.word = "box" ∨ c.word = "clear" ∨ c.word = "field" := by
      cases c <;> simp [Cmd.drawn] at hd <;> simp [Cmd.word]
    have L := first_loop (Q := Q) (g := g) ok hs hd (c.signs m).toNat 1 .un q
    simp only [tb_least_cut, xSeq, xIfS, xTest, xBin, xVar, xC]
    simp [ptA, and_assoc, -forT, word_0, ok, hc, hd, e1, L]
    refine ⟨c.word_ok, by simp [SeqAt.shaped, PyData.canLay0, PyData.canLayAll0, PyData.depth, PyData.depthAll], Or.inl ⟨?_, by omega, by omega⟩⟩
    rcases hw with hw | hw | hw <;> rw [hw] <;> simp
  · rw [if_neg hd] at q
    have hw : c.word ≠ "box" ∧ c.word ≠ "clear" ∧ c.word ≠ "field" := by
      cases c <;> simp [Cmd.drawn] at hd <;> simp [Cmd.word]
    simp only [tb_least_cut, xSeq, xIfS, xTest, xBin, xVar, xC]
    simp [ptA, and_assoc, -forT, word_0, Ne.symm hw.1, Ne.symm hw.2.1, Ne.symm hw.2.2]
    exact ⟨c.word_ok, by simp [SeqAt.shaped, PyData.canLay0, PyData.canLayAll0, PyData.depth, PyData.depthAll], q⟩
/-! ### settings_after -/
def tb_settings_after : TSt := (xSeq (xAsg (xBin (xVar 1) (xC (.int 0)) oIx) (yName 2))
    (xSeq (xIfS (xTest (xBin (xVar 2) (xC (.str "plain")) oEq))
    (xRet (xC (.tuple [(.int 0), (.int 0), (.int 0), (.int 0), (.int 1), (.str "set")])))
    xNext)
    (xSeq (xIfS (xTest (xBin (xVar 2) (xC (.str "home")) oEq))
    (xRet (xBin (xSlice (xVar 1) (xoSome (xC (.int 1))) xoNone) (xSlice (xVar 0) (xoSome (xC (.int 2))) xoNone) oAdd))
    xNext)
    (xSeq (xIfS (xTest (xBin (xVar 2) (xC (.str "move")) oEq))
    (xRet (xBin (xTup (xaCons (xBin (xBin (xVar 0) (xC (.int 0)) oIx) (xBin (xVar 1) (xC (.int 1)) oIx) oAdd) (xaCons (xBin (xBin (xVar 0) (xC (.int 1)) oIx) (xBin (xVar 1) (xC (.int 2)) oIx) oAdd) xaNil))) (xSlice (xVar 0) (xoSome (xC (.int 2))) xoNone) oAdd))
    xNext)
    (xSeq (xIfS (xTest (xKIn false tbl_SETTING_PLACES (xVar 2)))
    (xSeq (xAsg (xKGet tbl_SETTING_PLACES (xVar 2)) (yName 3))
    (xRet (xBin (xBin (xSlice (xVar 0) xoNone (xoSome (xVar 3))) (xSlice (xVar 1) (xoSome (xC (.int 1))) xoNone) oAdd) (xSlice (xVar 0) (xoSome (xBin (xVar 3) (xC (.int 1)) oAdd)) xoNone) oAdd)))
    xNext)
    (xRet (xVar 0)))))))
def Stg.after (s : Stg) : Cmd → Stg
  | .plain => ⟨0, 0, 0, 0, 1, "set"⟩
  | .home x y => ⟨x, y, s.turn, s.font, s.scale, s.ink⟩
  | .move x y => ⟨s.x + x, s.y + y, s.turn, s.font, s.scale, s.ink⟩
  | .turn n => ⟨s.x, s.y, n, s.font, s.scale, s.ink⟩
  | .font n => ⟨s.x, s.y, s.turn, n, s.scale, s.ink⟩
  | .scale n => ⟨s.x, s.y, s.turn, s.font, n, s.ink⟩
  | .ink x => ⟨s.x, s.y, s.turn, s.font, s.scale, x⟩
  | _ => s
abbrev pt_settings_after : PT' := ptA (fun a : Stg × Cmd => [.v a.1.d, .v a.2.d]) (fun a => True) fun a => (a.1.after a.2).d
abbrev pt_settings_after_mo := @ptA_mo _ (fun a : Stg × Cmd => [.v a.1.d, .v a.2.d]) (fun a => True) fun a => (a.1.after a.2).d
theorem sp_settings_after : ∀ ss g Q, ss.length = 2 → pt_settings_after ss g Q → tb_settings_after { nx := fun _ g' => Q .none g', rt := Q } (envOf n_settings_after ss) g := by
  rintro ss g Q _ ⟨⟨s, c⟩, rfl, -, q⟩
  simp only at q
  cases c <;> simp [tb_settings_after, ptA, Cmd.d, Cmd.word, Cmd.rest, Stg.d, at_0, at_1, at_2, and_assoc, tbl_SETTING_PLACES, List.lookup]
  all_goals exact q
/-! ### steps -/
def tb_steps : TSt := (xSeq (xOwn 2)
    (xSeq (xFor (xiTup (xVar 1)) (yName 3)
    (xSeq (xApp 2 (xTup (xaCons (xVar 0) (xaCons (xVar 3) xaNil))))
    (xAsg (xCall (xaCons (xVar 0) (xaCons (xVar 3) xaNil)) pt_settings_after) (yName 0))))
    (xFrz 2 (xRet (xVar 2)))))
def stepsR : Stg → List Cmd → List (Stg × Cmd)
  | _, [] => []
  | s, c :: r => (s, c) :: stepsR (s.after c) r
def stepD (p : Stg × Cmd) : PyData := .tuple [p.1.d, p.2.d]
abbrev pt_steps : PT' := ptA (fun a : Stg × List Cmd => [.v a.1.d, .v (.tuple (a.2.map Cmd.d))]) (fun a => a.2.length ≤ 60) fun a => .list ((stepsR a.1 a.2).map stepD)
abbrev pt_steps_mo := @ptA_mo _ (fun a : Stg × List Cmd => [.v a.1.d, .v (.tuple (a.2.map Cmd.d))]) (fun a => a.2.length ≤ 60) fun a => .list ((stepsR a.1 a.2).map stepD)
theorem steps_loop {cs0 : PyData} {Q : PyData → Nat → Prop} {g : Nat} : ∀ (cs : List Cmd) (s : Stg) (acc : List PyData) (x : S) (k : Kt), acc.length + cs.length ≤ 60 → (∀ E, E[2]? = some (.hl (acc ++ (stepsR s cs).map stepD)) → k.nx E g) →
    forT (yName 3) (xSeq (xApp 2 (xTup (xaCons (xVar 0) (xaCons (xVar 3) xaNil)))) (xAsg (xCall (xaCons (xVar 0) (xaCons (xVar 3) xaNil)) pt_settings_after) (yName 0))) (cs.map Cmd.d) k [S.v s.d, S.v cs0, S.hl acc, x] g
  | [], s, acc, x, k, _, q => by simpa [stepsR] using q [S.v s.d, S.v cs0, S.hl acc, x] (by simp [stepsR])
  | c :: r, s, acc, x, k, hl, q => by
    simp only [List.length_cons] at hl
    have h0 : acc.length < sizeLine := Nat.lt_of_lt_of_le (by omega) (show 61 ≤ sizeLine by decide +kernel)
    have ih := steps_loop (cs0 := cs0) (Q := Q) (g := g) r (s.after c) (acc ++ [stepD (s, c)]) (.v c.d) k (by simp; omega) (fun E hE => q E (by rw [hE]; simp [stepsR]))
    simp only [List.map_cons, forT]
    simp [and_assoc, -forT, -pt_settings_after]
    exact ⟨h0, (s, c), rfl, trivial, by simpa [stepD] using ih⟩
theorem sp_steps : ∀ ss g Q, ss.length = 2 → pt_steps ss g Q → tb_steps { nx := fun _ g' => Q .none g', rt := Q } (envOf n_steps ss) g := by
  rintro ss g Q _ ⟨⟨s, cs⟩, rfl, hl, q⟩
  simp only at hl q
  simp only [tb_steps, xSeq, xOwn, xFor]
  simp [-forT]
  refine steps_loop (Q := Q) cs s [] .un _ (by simpa using hl) fun E hE => ?_
  simp at hE
  simp [hE]
  have hl2 : 2 < E.length := (List.getElem?_eq_some_iff.1 hE).1
  exact ⟨_, by simp [hl2], q⟩
/-! ### cuts -/
def tb_cuts : TSt := (xSeq (xDrop (xCall (xaCons (xVar 0) (xaCons (xVar 1) (xaCons (xVar 2) xaNil))) pt_need_start))
    (xRet (xCB (xaCons (xComp (xiList (xCall (xaCons (xVar 1) (xaCons (xVar 2) xaNil)) pt_steps)) (yTup 2 (yCons (yName 3) (yCons (yName 4) yNil))) xYes (xCall (xaCons (xVar 0) (xaCons (xVar 3) (xaCons (xVar 4) xaNil))) pt_least_cut) [3, 4]) xaNil) cTup)))
def cutsR (m : Mch) (s : Stg) (cs : List Cmd) : PyData := .tuple ((stepsR s cs).map fun p => ointD (leastCut m p.1 p.2))
abbrev pt_cuts : PT' := ptA (fun a : Mch × Stg × List Cmd => [.v a.1.d, .v a.2.1.d, .v (.tuple (a.2.2.map Cmd.d))]) (fun a => a.1.Ok ∧ a.2.1.Ok a.1 ∧ (∀ c ∈ a.2.2, c.Ok a.1) ∧ a.2.2.length ≤ 60) fun a => cutsR a.1 a.2.1 a.2.2
abbrev pt_cuts_mo := @ptA_mo _ (fun a : Mch × Stg × List Cmd => [.v a.1.d, .v a.2.1.d, .v (.tuple (a.2.2.map Cmd.d))]) (fun a => a.1.Ok ∧ a.2.1.Ok a.1 ∧ (∀ c ∈ a.2.2, c.Ok a.1) ∧ a.2.2.length ≤ 60) fun a => cutsR a.1 a.2.1 a.2.2
theorem stepsR_len : ∀ (cs : List Cmd) (s : Stg), (stepsR s cs).length = cs.length
  | [], _ => rfl
  | c :: r, s => by simp [stepsR, stepsR_len r]
theorem turn_inv {m : Mch} {i : Int} : PartOk m "turn" (.int i) → 0 ≤ i ∧ i ≤ 3 := by
  generalize hk : (Str.ofString "turn") = k
  generalize hv : PyData.int i = v
  intro h
  cases h <;> first | (cases hv; assumption) | (simp at hk) | (cases hv)
theorem font_inv {m : Mch} {i : Int} : PartOk m "font" (.int i) → 0 ≤ i ∧ i ≤ m.fonts.length - 1 := by
  generalize hk : (Str.ofString "font") = k
  generalize hv : PyData.int i = v
  intro h
  cases h <;> first | (cases hv; assumption) | (simp at hk) | (cases hv)
theorem scale_inv {m : Mch} {i : Int} : PartOk m "scale" (.int i) → 1 ≤ i ∧ i ≤ 3 := by
  generalize hk : (Str.ofString "scale") = k
  generalize hv : PyData.int i = v
  intro h
  cases h <;> first | (cases hv; assumption) | (simp at hk) | (cases hv)
theorem length_inv {m : Mch} {i : Int} : PartOk m "length" (.int i) → 1 ≤ i ∧ i ≤ 40 := by
  generalize hk : (Str.ofString "length") = k
  generalize hv : PyData.int i = v
  intro h
  cases h <;> first | (cases hv; assumption) | (simp at hk) | (cases hv)
theorem ink_inv {m : Mch} {s : Str} : PartOk m "ink" (.str s) → inkOk s := by
  generalize hk : (Str.ofString "ink") = k
  generalize hv : PyData.str s = v
  intro h
  cases h <;> first | (cases hv; assumption) | (simp at hk) | (cases hv)
theorem PartsOk.hd {m : Mch} {k : Str} {v : PyData} {ks : List Str} {vs : List PyData} (h : PartsOk m (k :: ks) (v :: vs)) : PartOk m k v := by
  cases h; assumption
theorem PartsOk.tl {m : Mch} {k : Str} {v : PyData} {ks : List Str} {vs : List PyData} (h : PartsOk m (k :: ks) (v :: vs)) : PartsOk m ks vs := by
  cases h; assumption
theorem after_ok {m : Mch} {s : Stg} {c : Cmd} (ok : m.Ok) (hs : s.Ok m) (hc : c.Ok m) : (s.after c).Ok m := by
  have hf := ok.nf
  cases c with
  | plain => exact ⟨⟨by simp [Stg.after], by simp [Stg.after]⟩, ⟨by simp [Stg.after], by simp only [Stg.after]; omega⟩, ⟨by simp [Stg.after], by simp [Stg.after]⟩, Or.inl rfl⟩
  | home x y => exact ⟨hs.turn, hs.font, hs.scale, hs.ink⟩
  | move x y => exact ⟨hs.turn, hs.font, hs.scale, hs.ink⟩
  | turn n => exact ⟨turn_inv (PartsOk.hd hc), hs.font, hs.scale, hs.ink⟩
  | font n => exact ⟨hs.turn, font_inv (PartsOk.hd hc), hs.scale, hs.ink⟩
  | scale n => exact ⟨hs.turn, hs.font, scale_inv (PartsOk.hd hc), hs.ink⟩
  | ink x => exact ⟨hs.turn, hs.font, hs.scale, ink_inv (PartsOk.hd hc)⟩
  | box x y a b => exact hs
  | clear x y a b => exact hs
  | field x y n => exact hs
theorem stepsR_ok {m : Mch} (ok : m.Ok) : ∀ {cs : List Cmd} {s : Stg}, (∀ c ∈ cs, c.Ok m) → s.Ok m → ∀ p ∈ stepsR s cs, p.1.Ok m ∧ p.2.Ok m
  | [], s, _, _, p, hp => by cases hp
  | c :: r, s, hc, hs, p, hp => by
    rcases List.mem_cons.1 hp with e | e
    · subst e; exact ⟨hs, hc c List.mem_cons_self⟩
    · exact stepsR_ok ok (fun d hd => hc d (List.mem_cons_of_mem _ hd)) (after_ok ok hs (hc c List.mem_cons_self)) p e
open Classical in
noncomputable def cutD1 (m : Mch) (d : PyData) : PyData := if h : ∃ p : Stg × Cmd, d = stepD p then ointD (leastCut m h.choose.1 h.choose.2) else .none
theorem stepD_inj {p q : Stg × Cmd} (h : stepD p = stepD q) : p = q := by
  obtain ⟨a, b⟩ := p
  obtain ⟨c, d⟩ := q
  simpa [stepD] using h
theorem cutD1_of (m : Mch) (p : Stg × Cmd) : cutD1 m (stepD p) = ointD (leastCut m p.1 p.2) := by
  have h : ∃ q : Stg × Cmd, stepD p = stepD q := ⟨p, rfl⟩
  unfold cutD1
  rw [dif_pos h]
  have e := stepD_inj h.choose_spec
  rw [← e]
theorem sp_cuts : ∀ ss g Q, ss.length = 3 → pt_cuts ss g Q → tb_cuts { nx := fun _ g' => Q .none g', rt := Q } (envOf n_cuts ss) g := by
  rintro ss g Q _ ⟨⟨m, s, cs⟩, rfl, ⟨ok, hs, hc, hl⟩, q⟩
  simp only at ok hs hc hl q
  have hn : (stepsR s cs).length ≤ sizeLine := by rw [stepsR_len]; exact Nat.le_trans hl (by decide +kernel)
  simp [tb_cuts, ptA, and_assoc, -compT, ok, hs, hl]
  refine ⟨cs, rfl, hc, hl, cs, rfl, hl, hn, compT_pure (p := fun _ => true) (f := cutD1 m) _ _ _ _ _ (fun d hd k k' hk _ => ?_) ?_⟩
  · obtain ⟨p, hp, rfl⟩ := List.mem_map.1 hd
    obtain ⟨o1, o2⟩ := stepsR_ok ok hc hs p hp
    simp [stepD, and_assoc, ptA]
    exact ⟨ok, o1, o2, by have := hk rfl; rwa [cutD1_of] at this⟩
  · rw [filter_tt]
    simpa [cutsR, Function.comp_def, cutD1_of] using q
end TL

namespace TL
open PySem PySem.Spec PyProof.Rows L2 RZ

/-! ### _law_after -/
def tb__law_after : TSt := (xSeq (xAsg (xVar 0) (yTup 6 (yCons (yName 2) (yCons (yName 3) (yCons (yName 4) (yCons (yName 5) (yCons (yName 6) (yCons (yName 7) yNil))))))))
    (xSeq (xAsg (xBin (xVar 1) (xC (.int 0)) oIx) (yName 8))
    (xSeq (xIfS (xTest (xBin (xVar 8) (xC (.str "home")) oEq))
    (xRet (xTup (xaCons (xBin (xVar 1) (xC (.int 1)) oIx) (xaCons (xBin (xVar 1) (xC (.int 2)) oIx) (xaCons (xVar 4) (xaCons (xVar 5) (xaCons (xVar 6) (xaCons (xVar 7) xaNil))))))))
    xNext)
    (xSeq (xIfS (xTest (xBin (xVar 8) (xC (.str "move")) oEq))
    (xRet (xTup (xaCons (xBin (xVar 2) (xBin (xVar 1) (xC (.int 1)) oIx) oAdd) (xaCons (xBin (xVar 3) (xBin (xVar 1) (xC (.int 2)) oIx) oAdd) (xaCons (xVar 4) (xaCons (xVar 5) (xaCons (xVar 6) (xaCons (xVar 7) xaNil))))))))
    xNext)
    (xSeq (xIfS (xTest (xBin (xVar 8) (xC (.str "plain")) oEq))
    (xRet (xTup (xaCons (xC (.int 0)) (xaCons (xC (.int 0)) (xaCons (xC (.int 0)) (xaCons (xC (.int 0)) (xaCons (xC (.int 1)) (xaCons (xC (.str "set")) xaNil))))))))
    xNext)
    (xSeq (xIfS (xTest (xBin (xVar 8) (xC (.str "turn")) oEq))
    (xRet (xTup (xaCons (xVar 2) (xaCons (xVar 3) (xaCons (xBin (xVar 1) (xC (.int 1)) oIx) (xaCons (xVar 5) (xaCons (xVar 6) (xaCons (xVar 7) xaNil))))))))
    xNext)
    (xSeq (xIfS (xTest (xBin (xVar 8) (xC (.str "font")) oEq))
    (xRet (xTup (xaCons (xVar 2) (xaCons (xVar 3) (xaCons (xVar 4) (xaCons (xBin (xVar 1) (xC (.int 1)) oIx) (xaCons (xVar 6) (xaCons (xVar 7) xaNil))))))))
    xNext)
    (xSeq (xIfS (xTest (xBin (xVar 8) (xC (.str "scale")) oEq))
    (xRet (xTup (xaCons (xVar 2) (xaCons (xVar 3) (xaCons (xVar 4) (xaCons (xVar 5) (xaCons (xBin (xVar 1) (xC (.int 1)) oIx) (xaCons (xVar 7) xaNil))))))))
    xNext)
    (xRet (xIf (xTest (xBin (xVar 8) (xC (.str "ink")) oEq)) (xTup (xaCons (xVar 2) (xaCons (xVar 3) (xaCons (xVar 4) (xaCons (xVar 5) (xaCons (xVar 6) (xaCons (xBin (xVar 1) (xC (.int 1)) oIx) xaNil))))))) (xVar 0)))))))))))
abbrev pt__law_after : PT' := ptA (fun a : Stg × Cmd => [.v a.1.d, .v a.2.d]) (fun a => True) fun a => (a.1.after a.2).d
abbrev pt__law_after_mo := @ptA_mo _ (fun a : Stg × Cmd => [.v a.1.d, .v a.2.d]) (fun a => True) fun a => (a.1.after a.2).d
theorem sp__law_after : ∀ ss g Q, ss.length = 2 → pt__law_after ss g Q → tb__law_after { nx := fun _ g' => Q .none g', rt := Q } (envOf n__law_after ss) g := by
  rintro ss g Q _ ⟨⟨s, c⟩, rfl, -, q⟩
  simp only at q
  cases c <;> simp [tb__law_after, ptA, Cmd.d, Cmd.word, Cmd.rest, Stg.d, at_0, at_1, at_2, and_assoc]
  all_goals exact q
/-! ### _law_spot -/
def tb__law_spot : TSt := (xSeq (xAsg (xSlice (xVar 0) xoNone (xoSome (xC (.int 3)))) (yTup 3 (yCons (yName 3) (yCons (yName 4) (yCons (yName 5) yNil)))))
    (xRet (xBin (xLst (xaCons (xTup (xaCons (xBin (xVar 3) (xVar 1) oAdd) (xaCons (xBin (xVar 4) (xVar 2) oAdd) xaNil))) (xaCons (xTup (xaCons (xBin (xVar 3) (xVar 2) oSub) (xaCons (xBin (xVar 4) (xVar 1) oAdd) xaNil))) (xaCons (xTup (xaCons (xBin (xVar 3) (xVar 1) oSub) (xaCons (xBin (xVar 4) (xVar 2) oSub) xaNil))) (xaCons (xTup (xaCons (xBin (xVar 3) (xVar 2) oAdd) (xaCons (xBin (xVar 4) (xVar 1) oSub) xaNil))) xaNil))))) (xVar 5) oIx)))
abbrev pt__law_spot : PT' := ptA (fun a : Mch × Stg × Int × Int => [.v a.2.1.d, .v (.int a.2.2.1), .v (.int a.2.2.2)]) (fun a => a.2.1.Ok a.1) fun a => .tuple [.int (dotR a.2.1 a.2.2.1 a.2.2.2).1, .int (dotR a.2.1 a.2.2.1 a.2.2.2).2]
abbrev pt__law_spot_mo := @ptA_mo _ (fun a : Mch × Stg × Int × Int => [.v a.2.1.d, .v (.int a.2.2.1), .v (.int a.2.2.2)]) (fun a => a.2.1.Ok a.1) fun a => .tuple [.int (dotR a.2.1 a.2.2.1 a.2.2.2).1, .int (dotR a.2.1 a.2.2.1 a.2.2.2).2]
theorem sp__law_spot : ∀ ss g Q, ss.length = 3 → pt__law_spot ss g Q → tb__law_spot { nx := fun _ g' => Q .none g', rt := Q } (envOf n__law_spot ss) g := by
  rintro ss g Q _ ⟨⟨m, s, x, y⟩, rfl, hs, q⟩
  simp only [dotR] at q hs
  have ht := hs.turn
  simp [tb__law_spot, ptA, Stg.d, and_assoc]
  have h4 : s.turn = 0 ∨ s.turn = 1 ∨ s.turn = 2 ∨ s.turn = 3 := by omega
  rcases h4 with h | h | h | h <;> rw [h] at q ⊢ <;> simp [at_0, at_1, at_2, at_3] at q ⊢ <;> exact q
/-! ### _law_reached -/
def tb__law_reached : TSt := (xSeq (xOwn 4)
    (xSeq (xIfS (xTest (xBin (xBin (xVar 2) (xC (.int 0)) oIx) (xTup (xaCons (xC (.str "box")) (xaCons (xC (.str "clear")) xaNil))) oIn))
    (xFor (xiRng1 (xaCons (xBin (xVar 2) (xC (.int 3)) oIx) xaNil)) (yName 5)
    (xFor (xiRng1 (xaCons (xBin (xVar 2) (xC (.int 4)) oIx) xaNil)) (yName 6)
    (xApp 4 (xTup (xaCons (xCall (xaCons (xVar 1) (xaCons (xBin (xBin (xVar 2) (xC (.int 1)) oIx) (xVar 5) oAdd) (xaCons (xBin (xBin (xVar 2) (xC (.int 2)) oIx) (xVar 6) oAdd) xaNil))) pt__law_spot) (xaCons (xTup xaNil) xaNil))))))
    xNext)
    (xSeq (xIfS (xTest (xBin (xBin (xVar 2) (xC (.int 0)) oIx) (xC (.str "field")) oEq))
    (xSeq (xAsg (xBin (xBin (xVar 0) (xC (.int 1)) oIx) (xBin (xVar 1) (xC (.int 3)) oIx) oIx) (yTup 2 (yCons (yName 7) (yCons (yName 8) yNil))))
    (xFor (xiRng1 (xaCons (xBin (xVar 7) (xVar 3) oMul) xaNil)) (yName 5)
    (xFor (xiRng1 (xaCons (xVar 8) xaNil)) (yName 6)
    (xFor (xiRng1 (xaCons (xBin (xBin (xVar 1) (xC (.int 4)) oIx) (xBin (xVar 1) (xC (.int 4)) oIx) oMul) xaNil)) (yName 9)
    (xSeq (xPar2 10 11 (xaCons (xBin (xVar 9) (xBin (xVar 1) (xC (.int 4)) oIx) oDiv) (xaCons (xBin (xCB (xaCons (xVar 9) xaNil) cInt) (xBin (xVar 1) (xC (.int 4)) oIx) oMod) xaNil)))
    (xSeq (xAsg (xCall (xaCons (xVar 1) (xaCons (xBin (xBin (xBin (xVar 2) (xC (.int 1)) oIx) (xBin (xVar 5) (xBin (xVar 1) (xC (.int 4)) oIx) oMul) oAdd) (xVar 10) oAdd) (xaCons (xBin (xBin (xBin (xVar 2) (xC (.int 2)) oIx) (xBin (xVar 6) (xBin (xVar 1) (xC (.int 4)) oIx) oMul) oAdd) (xVar 11) oAdd) xaNil))) pt__law_spot) (yName 12))
    (xApp 4 (xTup (xaCons (xVar 12) (xaCons (xTup (xaCons (xBin (xVar 2) (xC (.int 3)) oIx) (xaCons (xBin (xVar 1) (xC (.int 3)) oIx) (xaCons (xVar 5) (xaCons (xVar 6) xaNil))))) xaNil))))))))))
    xNext)
    (xFrz 4 (xRet (xVar 4))))))
def ptD (p : Int × Int) (src : PyData) : PyData := .tuple [.tuple [.int p.1, .int p.2], src]
def boxPts (s : Stg) (x y a b : Int) : List PyData := flatI (fun i => flatI (fun j => [ptD (dotR s (x + i) (y + j)) (.tuple [])]) 0 b.toNat) 0 a.toNat
def fieldPts (m : Mch) (s : Stg) (x y : Int) (z : Str) (n : Int) : List PyData :=
  flatI (fun i => flatI (fun j => flatI (fun k => [ptD (dotR s (x + i * s.scale + k / s.scale) (y + j * s.scale + k % s.scale)) (.tuple [.str z, .int s.font, .int i, .int j])]) 0 (s.scale * s.scale).toNat) 0 (m.fontAt s.font).2.toNat) 0 ((m.fontAt s.font).1 * n).toNat
def lawPts (m : Mch) (s : Stg) (c : Cmd) (n : Int) : List PyData := match c with
  | .box x y a b => boxPts s x y a b
  | .clear x y a b => boxPts s x y a b
  | .field x y z => fieldPts m s x y z n
  | _ => []
abbrev pt__law_reached : PT' := ptA (fun a : Mch × Stg × Cmd × Int => [.v a.1.d, .v a.2.1.d, .v a.2.2.1.d, .v (.int a.2.2.2)]) (fun a => a.1.Ok ∧ a.2.1.Ok a.1 ∧ a.2.2.1.Ok a.1 ∧ 1 ≤ a.2.2.2 ∧ a.2.2.2 ≤ 12) fun a => .list (lawPts a.1 a.2.1 a.2.2.1 a.2.2.2)
abbrev pt__law_reached_mo := @ptA_mo _ (fun a : Mch × Stg × Cmd × Int => [.v a.1.d, .v a.2.1.d, .v a.2.2.1.d, .v (.int a.2.2.2)]) (fun a => a.1.Ok ∧ a.2.1.Ok a.1 ∧ a.2.2.1.Ok a.1 ∧ 1 ≤ a.2.2.2 ∧ a.2.2.2 ≤ 12) fun a => .list (lawPts a.1 a.2.1 a.2.2.1 a.2.2.2)
theorem word_1 (c : Cmd) (g : Nat) (Q : PyData → Nat → Prop) : oIx c.d (.int 0) g Q = Q (.str c.word) g := by
  simp [Cmd.d, at_0]
theorem box_loop {m : Mch} {s : Stg} (hs : s.Ok m) {u cd : PyData} {g : Nat} {w : Str} {x y a b n : Int} (ha : 1 ≤ a ∧ a ≤ 40) (hb : 1 ≤ b ∧ b ≤ 40) (hcd : cd = .tuple [.str w, .int x, .int y, .int a, .int b]) (k : Kt) (e5 e6 e7 e8 e9 e10 e11 e12 : S)
    (q : ∀ E, (∃ e5 e6, E = [.v u, .v s.d, .v cd, .v (.int n), .hl (boxPts s x y a b), e5, e6, e7, e8, e9, e10, e11, e12]) → k.nx E g) :
    xFor (xiRng1 (xaCons (xBin (xVar 2) (xC (.int 3)) oIx) xaNil)) (yName 5)
    (xFor (xiRng1 (xaCons (xBin (xVar 2) (xC (.int 4)) oIx) xaNil)) (yName 6)
    (xApp 4 (xTup (xaCons (xCall (xaCons (xVar 1) (xaCons (xBin (xBin (xVar 2) (xC (.int 1)) oIx) (xVar 5) oAdd) (xaCons (xBin (xBin (xVar 2) (xC (.int 2)) oIx) (xVar 6) oAdd) xaNil))) pt__law_spot) (xaCons (xTup xaNil) xaNil))))) k [.v u, .v s.d, .v cd, .v (.int n), .hl [], e5, e6, e7, e8, e9, e10, e11, e12] g := by
  subst hcd
  simp only [xFor, xiRng1, xaCons, xBin, xVar, xC]
  simp [at_3, -forT]
  refine ⟨by omega, by omega, ?_⟩
  have hf : ∀ i : Int, (flatI (fun j => [ptD (dotR s (x + i) (y + j)) (.tuple [])]) 0 b.toNat).length ≤ 40 := fun i => Nat.le_trans (flatI_len (c := 1) (fun _ => Nat.le_refl _) _ _) (by omega)
  refine forT_ap (fun E acc => ∃ e5 e6, E = [.v u, .v s.d, .v (.tuple [.str w, .int x, .int y, .int a, .int b]), .v (.int n), .hl acc, e5, e6, e7, e8, e9, e10, e11, e12]) (fun i => flatI (fun j => [ptD (dotR s (x + i) (y + j)) (.tuple [])]) 0 b.toNat) 40 1600 hf a.toNat 0 _ [] ⟨e5, e6, rfl⟩ (by simp; omega) (fun i i0 i1 E acc hE hB h hq => ?_) fun E hE => q E (by simpa [boxPts] using hE)
  obtain ⟨e5', e6', rfl⟩ := hE
  simp [at_4, -forT]
  refine ⟨by omega, by omega, ?_⟩
  refine forT_ap (fun E acc => ∃ e6, E = [.v u, .v s.d, .v (.tuple [.str w, .int x, .int y, .int a, .int b]), .v (.int n), .hl acc, .v (.int i), e6, e7, e8, e9, e10, e11, e12]) (fun j => [ptD (dotR s (x + i) (y + j)) (.tuple [])]) 1 1600 (fun _ => Nat.le_refl _) b.toNat 0 _ acc ⟨e6', rfl⟩ (by omega) (fun j j0 j1 E acc hE hB h2 hq2 => ?_) fun E ⟨e6, hE⟩ => hq E ⟨_, e6, hE⟩
  obtain ⟨e6', rfl⟩ := hE
  have hz : acc.length < sizeLine := Nat.lt_of_lt_of_le (by omega) (show 1600 ≤ sizeLine by decide +kernel)
  simp [at_1, at_2, hz, ptA, and_assoc]
  exact ⟨⟨m, hs⟩, hq2 _ ⟨_, rfl⟩⟩
theorem field_loop {m : Mch} {s : Stg} (ok : m.Ok) (hs : s.Ok m) {g : Nat} {w z : Str} {x y n : Int} (n1 : 1 ≤ n) (n2 : n ≤ 12) (k : Kt) (e5 e6 e7 e8 e9 e10 e11 e12 : S)
    (q : ∀ E, (∃ e5 e6 e7 e8 e9 e10 e11 e12, E = [.v m.d, .v s.d, .v (.tuple [.str w, .int x, .int y, .str z]), .v (.int n), .hl (fieldPts m s x y z n), e5, e6, e7, e8, e9, e10, e11, e12]) → k.nx E g) :
    xSeq (xAsg (xBin (xBin (xVar 0) (xC (.int 1)) oIx) (xBin (xVar 1) (xC (.int 3)) oIx) oIx) (yTup 2 (yCons (yName 7) (yCons (yName 8) yNil))))
    (xFor (xiRng1 (xaCons (xBin (xVar 7) (xVar 3) oMul) xaNil)) (yName 5)
    (xFor (xiRng1 (xaCons (xVar 8) xaNil)) (yName 6)
    (xFor (xiRng1 (xaCons (xBin (xBin (xVar 1) (xC (.int 4)) oIx) (xBin (xVar 1) (xC (.int 4)) oIx) oMul) xaNil)) (yName 9)
    (xSeq (xPar2 10 11 (xaCons (xBin (xVar 9) (xBin (xVar 1) (xC (.int 4)) oIx) oDiv) (xaCons (xBin (xCB (xaCons (xVar 9) xaNil) cInt) (xBin (xVar 1) (xC (.int 4)) oIx) oMod) xaNil)))
    (xSeq (xAsg (xCall (xaCons (xVar 1) (xaCons (xBin (xBin (xBin (xVar 2) (xC (.int 1)) oIx) (xBin (xVar 5) (xBin (xVar 1) (xC (.int 4)) oIx) oMul) oAdd) (xVar 10) oAdd) (xaCons (xBin (xBin (xBin (xVar 2) (xC (.int 2)) oIx) (xBin (xVar 6) (xBin (xVar 1) (xC (.int 4)) oIx) oMul) oAdd) (xVar 11) oAdd) xaNil))) pt__law_spot) (yName 12))
    (xApp 4 (xTup (xaCons (xVar 12) (xaCons (xTup (xaCons (xBin (xVar 2) (xC (.int 3)) oIx) (xaCons (xBin (xVar 1) (xC (.int 3)) oIx) (xaCons (xVar 5) (xaCons (xVar 6) xaNil))))) xaNil)))))))))
    k [.v m.d, .v s.d, .v (.tuple [.str w, .int x, .int y, .str z]), .v (.int n), .hl [], e5, e6, e7, e8, e9, e10, e11, e12] g := by
  have hf := font_at hs.font
  have fb := font_bd ok hs.font
  have sb := hs.scale
  have sd3 : ∀ (g : Nat) (Q : PyData → Nat → Prop), oIx s.d (.int 3) g Q = Q (.int s.font) g := fun g Q => by simp [Stg.d, at_3]
  have sd4 : ∀ (g : Nat) (Q : PyData → Nat → Prop), oIx s.d (.int 4) g Q = Q (.int s.scale) g := fun g Q => by simp [Stg.d, at_4]
  have c1 : 0 < (m.fontAt s.font).1 * n := Int.mul_pos (by omega) (by omega)
  have c2 : (m.fontAt s.font).1 * n ≤ 8 * 12 := Int.mul_le_mul (by omega) n2 (by omega) (by omega)
  have c3 : 0 < s.scale * s.scale := Int.mul_pos (by omega) (by omega)
  have c4 : s.scale * s.scale ≤ 3 * 3 := Int.mul_le_mul sb.2 sb.2 (by omega) (by omega)
  simp [hf, fontD, mch_d1, sd3, -forT, and_assoc]
  refine ⟨Or.inr (by omega), by omega, by omega, ?_⟩
  let f3 : Int → Int → Int → List PyData := fun i j k => [ptD (dotR s (x + i * s.scale + k / s.scale) (y + j * s.scale + k % s.scale)) (.tuple [.str z, .int s.font, .int i, .int j])]
  have h3 : ∀ i j : Int, (flatI (f3 i j) 0 (s.scale * s.scale).toNat).length ≤ 9 := fun i j => Nat.le_trans (flatI_len (c := 1) (fun _ => Nat.le_refl _) _ _) (by omega)
  have h2 : ∀ i : Int, (flatI (fun j => flatI (f3 i j) 0 (s.scale * s.scale).toNat) 0 (m.fontAt s.font).2.toNat).length ≤ 72 := fun i => Nat.le_trans (flatI_len (c := 9) (fun j => h3 i j) _ _) (by omega)
  refine forT_ap (fun E acc => ∃ e5 e6 e9 e10 e11 e12, E = [.v m.d, .v s.d, .v (.tuple [.str w, .int x, .int y, .str z]), .v (.int n), .hl acc, e5, e6, .v (.int (m.fontAt s.font).1), .v (.int (m.fontAt s.font).2), e9, e10, e11, e12]) (fun i => flatI (fun j => flatI (f3 i j) 0 (s.scale * s.scale).toNat) 0 (m.fontAt s.font).2.toNat) 72 6912 h2 _ 0 _ [] ⟨e5, e6, e9, e10, e11, e12, rfl⟩ (by simp; omega) (fun i i0 i1 E acc hE hB h hq => ?_) fun E ⟨e5, e6, e9, e10, e11, e12, hE⟩ => q E ⟨e5, e6, _, _, e9, e10, e11, e12, by simpa [fieldPts] using hE⟩
  obtain ⟨e5', e6', e9', e10', e11', e12', rfl⟩ := hE
  simp [-forT]
  refine ⟨by omega, by omega, ?_⟩
  refine forT_ap (fun E acc => ∃ e6 e9 e10 e11 e12, E = [.v m.d, .v s.d, .v (.tuple [.str w, .int x, .int y, .str z]), .v (.int n), .hl acc, .v (.int i), e6, .v (.int (m.fontAt s.font).1), .v (.int (m.fontAt s.font).2), e9, e10, e11, e12]) (fun j => flatI (f3 i j) 0 (s.scale * s.scale).toNat) 9 6912 (h3 i) _ 0 _ acc ⟨e6', e9', e10', e11', e12', rfl⟩ (by omega) (fun j j0 j1 E acc hE hB h hq2 => ?_) fun E ⟨e6, e9, e10, e11, e12, hE⟩ => hq E ⟨_, e6, e9, e10, e11, e12, hE⟩
  obtain ⟨e6', e9', e10', e11', e12', rfl⟩ := hE
  simp [-forT, sd4]
  refine ⟨by omega, by omega, by omega, ?_⟩
  refine forT_ap (fun E acc => ∃ e9 e10 e11 e12, E = [.v m.d, .v s.d, .v (.tuple [.str w, .int x, .int y, .str z]), .v (.int n), .hl acc, .v (.int i), .v (.int j), .v (.int (m.fontAt s.font).1), .v (.int (m.fontAt s.font).2), e9, e10, e11, e12]) (f3 i j) 1 6912 (fun _ => Nat.le_refl _) _ 0 _ acc ⟨e9', e10', e11', e12', rfl⟩ (by omega) (fun t t0 t1 E acc hE hB h hq3 => ?_) fun E ⟨e9, e10, e11, e12, hE⟩ => hq2 E ⟨_, e9, e10, e11, e12, hE⟩
  obtain ⟨e9', e10', e11', e12', rfl⟩ := hE
  have hz : acc.length < sizeLine := Nat.lt_of_lt_of_le (by omega) (show 6912 ≤ sizeLine by decide +kernel)
  simp [at_1, at_2, at_3, hz, ptA, and_assoc, sd3, sd4, cInt]
  exact ⟨by omega, by omega, by omega, Or.inr (by omega), Or.inr (by omega), ⟨m, hs⟩, hq3 _ ⟨_, _, _, _, rfl⟩⟩
theorem xSeq_eq (t u : TSt) (k : Kt) (E : List S) (g : Nat) : xSeq t u k E g = t { k with nx := u k } E g := rfl
theorem sp__law_reached : ∀ ss g Q, ss.length = 4 → pt__law_reached ss g Q → tb__law_reached { nx := fun _ g' => Q .none g', rt := Q } (envOf n__law_reached ss) g := by
  rintro ss g Q _ ⟨⟨m, s, c, n⟩, rfl, ⟨ok, hs, hc, n1, n2⟩, q⟩
  simp only at ok hs hc q n1 n2
  have tw := c.word_ok
  have sh : SeqAt.shaped (.tuple [.str "box", .str "clear"]) = true := by simp [SeqAt.shaped, PyData.canLay0, PyData.canLayAll0, PyData.depth, PyData.depthAll]
  cases c with
  | box x y a b =>
    have h1 := length_inv (PartsOk.hd (PartsOk.tl (PartsOk.tl hc)))
    have h2 := length_inv (PartsOk.hd (PartsOk.tl (PartsOk.tl (PartsOk.tl hc))))
    simp only [tb__law_reached, xSeq, xOwn, xIfS, xTest, xBin, xVar, xC]
    simp [Cmd.word, Cmd.d, Cmd.rest, at_0, sh, -forT, -xFor, -oMul, -oDiv, -oMod, -xAsg, -xSeq]
    refine box_loop hs (u := m.d) (w := "box") (n := n) h1 h2 rfl _ _ _ _ _ _ _ _ _ fun E ⟨e5, e6, hE⟩ => ?_
    subst hE
    simp [at_0]
    exact q
  | clear x y a b =>
    have h1 := length_inv (PartsOk.hd (PartsOk.tl (PartsOk.tl hc)))
    have h2 := length_inv (PartsOk.hd (PartsOk.tl (PartsOk.tl (PartsOk.tl hc))))
    simp only [tb__law_reached, xSeq, xOwn, xIfS, xTest, xBin, xVar, xC]
    simp [Cmd.word, Cmd.d, Cmd.rest, at_0, sh, -forT, -xFor, -oMul, -oDiv, -oMod, -xAsg, -xSeq]
    refine box_loop hs (u := m.d) (w := "clear") (n := n) h1 h2 rfl _ _ _ _ _ _ _ _ _ fun E ⟨e5, e6, hE⟩ => ?_
    subst hE
    simp [at_0]
    exact q
  | field x y z =>
    simp only [tb__law_reached, xSeq, xOwn, xIfS, xTest, xBin, xVar, xC]
    simp [Cmd.word, Cmd.d, Cmd.rest, at_0, sh, -forT, -xFor, -oMul, -oDiv, -oMod, -xAsg, -xSeq]
    rw [xSeq_eq]
    simp [at_0, -forT, -xFor, -oMul, -oDiv, -oMod, -xAsg, -xSeq]
    refine field_loop ok hs (w := "field") (x := x) (y := y) (z := z) n1 n2 _ _ _ _ _ _ _ _ _ fun E ⟨e5, e6, e7, e8, e9, e10, e11, e12, hE⟩ => ?_
    subst hE
    simp
    exact q
  | home x y =>
    simp only [tb__law_reached, xSeq, xOwn, xIfS, xTest, xBin, xVar, xC]
    simp [Cmd.word, Cmd.d, Cmd.rest, at_0, sh, -forT, -xFor, -oMul, -oDiv, -oMod, -xAsg, -xSeq]
    rw [xSeq_eq]
    simp [at_0, -forT, -xFor, -oMul, -oDiv, -oMod, -xAsg, -xSeq]
    exact q
  | move x y =>
    simp only [tb__law_reached, xSeq, xOwn, xIfS, xTest, xBin, xVar, xC]
    simp [Cmd.word, Cmd.d, Cmd.rest, at_0, sh, -forT, -xFor, -oMul, -oDiv, -oMod, -xAsg, -xSeq]
    rw [xSeq_eq]
    simp [at_0, -forT, -xFor, -oMul, -oDiv, -oMod, -xAsg, -xSeq]
    exact q
  | turn n =>
    simp only [tb__law_reached, xSeq, xOwn, xIfS, xTest, xBin, xVar, xC]
    simp [Cmd.word, Cmd.d, Cmd.rest, at_0, sh, -forT, -xFor, -oMul, -oDiv, -oMod, -xAsg, -xSeq]
    rw [xSeq_eq]
    simp [at_0, -forT, -xFor, -oMul, -oDiv, -oMod, -xAsg, -xSeq]
    exact q
  | font n =>
    simp only [tb__law_reached, xSeq, xOwn, xIfS, xTest, xBin, xVar, xC]
    simp [Cmd.word, Cmd.d, Cmd.rest, at_0, sh, -forT, -xFor, -oMul, -oDiv, -oMod, -xAsg, -xSeq]
    rw [xSeq_eq]
    simp [at_0, -forT, -xFor, -oMul, -oDiv, -oMod, -xAsg, -xSeq]
    exact q
  | scale n =>
    simp only [tb__law_reached, xSeq, xOwn, xIfS, xTest, xBin, xVar, xC]
    simp [Cmd.word, Cmd.d, Cmd.rest, at_0, sh, -forT, -xFor, -oMul, -oDiv, -oMod, -xAsg, -xSeq]
    rw [xSeq_eq]
    simp [at_0, -forT, -xFor, -oMul, -oDiv, -oMod, -xAsg, -xSeq]
    exact q
  | ink n =>
    simp only [tb__law_reached, xSeq, xOwn, xIfS, xTest, xBin, xVar, xC]
    simp [Cmd.word, Cmd.d, Cmd.rest, at_0, sh, -forT, -xFor, -oMul, -oDiv, -oMod, -xAsg, -xSeq]
    rw [xSeq_eq]
    simp [at_0, -forT, -xFor, -oMul, -oDiv, -oMod, -xAsg, -xSeq]
    exact q
  | plain =>
    simp only [tb__law_reached, xSeq, xOwn, xIfS, xTest, xBin, xVar, xC]
    simp [Cmd.word, Cmd.d, Cmd.rest, at_0, sh, -forT, -xFor, -oMul, -oDiv, -oMod, -xAsg, -xSeq]
    rw [xSeq_eq]
    simp [at_0, -forT, -xFor, -oMul, -oDiv, -oMod, -xAsg, -xSeq]
    exact q
/-! ### _law_most -/
def tb__law_most : TSt := (xSeq (xAsg (xComp (xiTup (xBin (xVar 0) (xC (.int 2)) oIx)) (yTup 2 (yCons (yName 3) (yCons (yName 4) yNil))) (xAnd (xTest (xBin (xBin (xVar 1) (xC (.int 0)) oIx) (xC (.str "field")) oEq)) (xTest (xBin (xVar 3) (xBin (xVar 1) (xC (.int 3)) oIx) oEq))) (xVar 4) [3, 4]) (yName 2))
    (xRet (xBin (xBin (xVar 2) (xLst (xaCons (xC (.int 1)) xaNil)) oAdd) (xC (.int 0)) oIx)))
def sndD : PyData → PyData
  | .tuple [_, b] => b
  | d => d
def isNm (z : Str) : PyData → Bool
  | .tuple (.str a :: _) => a == z
  | _ => false
abbrev pt__law_most : PT' := ptA (fun a : Mch × Cmd => [.v a.1.d, .v a.2.d]) (fun a => a.1.Ok ∧ a.2.Ok a.1) fun a => .int (a.2.signs a.1)
abbrev pt__law_most_mo := @ptA_mo _ (fun a : Mch × Cmd => [.v a.1.d, .v a.2.d]) (fun a => a.1.Ok ∧ a.2.Ok a.1) fun a => .int (a.2.signs a.1)
theorem field_first (z : Str) : ∀ l : List (Str × Int), (((l.map fieldD).filter (isNm z)).map sndD ++ [PyData.int 1])[0]? = some (.int (((l.find? fun p => p.1 == z).map (·.2)).getD 1))
  | [] => rfl
  | p :: r => by
    by_cases e : p.1 = z
    · simp [fieldD, isNm, sndD, e]
    · have e' : (p.1 == z) = false := by simpa using e
      have ih := field_first z r
      simp only [List.map_cons, fieldD, isNm, List.filter_cons, e', List.find?_cons]
      simpa [fieldD] using ih
theorem at_first (l : List PyData) (x : PyData) (h : l[0]? = some x) : atI l 0 = some x := by
  cases l with
  | nil => cases h
  | cons a r => rw [at_0]; simpa using h
theorem filter_ff {α : Type} (l : List α) : l.filter (fun _ => false) = [] := by simp
theorem sp__law_most : ∀ ss g Q, ss.length = 2 → pt__law_most ss g Q → tb__law_most { nx := fun _ g' => Q .none g', rt := Q } (envOf n__law_most ss) g := by
  rintro ss g Q _ ⟨⟨m, c⟩, rfl, ⟨ok, hc⟩, q⟩
  simp only at ok hc q
  have hl := ok.nl
  have hw := c.word_ok
  have hn : m.fields.length ≤ sizeLine := Nat.le_trans hl (by decide +kernel)
  have hs : ∀ (l : List PyData), l.length ≤ 8 → l.length + 1 ≤ sizeLine := fun l h => Nat.le_trans (by omega) (show 9 ≤ sizeLine by decide +kernel)
  simp only [tb__law_most, xSeq, xAsg]
  by_cases hf : ∃ x y z, c = .field x y z
  · obtain ⟨x, y, z, rfl⟩ := hf
    have hz : PyData.strOk z = true := by
      obtain ⟨p, hp, e⟩ := List.mem_map.1 (name_of hc)
      rw [← e]
      exact nml_ok _ (ok.l p hp).1
    simp [mch_d2, -compT, hn]
    refine compT_pure (p := isNm z) (f := sndD) _ _ _ _ _ (fun d hd k k' hk hk' => ?_) ?_
    · obtain ⟨p, hp, rfl⟩ := List.mem_map.1 hd
      have hps := nml_ok _ (ok.l p hp).1
      simp [fieldD, and_assoc, Cmd.d, Cmd.word, Cmd.rest, at_0, at_3, hz, hps]
      by_cases e : p.1 = z
      · simpa [e, sndD, fieldD] using hk (by simp [fieldD, isNm, e])
      · simpa [e] using hk' (by simp [fieldD, isNm, e])
    · have h8 : (((m.fields.map fieldD).filter (isNm z)).map sndD).length ≤ 8 := by
        rw [List.length_map]
        exact Nat.le_trans (List.length_filter_le _ _) (by simpa using hl)
      simp [-List.map_map, -List.filter_map] 
      refine ⟨by simpa using hs _ h8, _, at_first _ _ (field_first z m.fields), q⟩
  · have hw2 : ¬ c.word = "field" := by
      cases c <;> first | exact absurd ⟨_, _, _, rfl⟩ hf | simp [Cmd.word]
    have hsg : c.signs m = 1 := by
      cases c <;> first | exact absurd ⟨_, _, _, rfl⟩ hf | rfl
    simp [mch_d2, -compT, hn]
    refine compT_pure (p := fun _ => false) (f := sndD) _ _ _ _ _ (fun d hd k k' hk hk' => ?_) ?_
    · obtain ⟨p, hp, rfl⟩ := List.mem_map.1 hd
      simp [fieldD, and_assoc, word_1, hw, hw2]
      exact hk' rfl
    · rw [filter_ff]
      rw [hsg] at q
      simpa [at_0] using q
/-! ### _law_cut_of -/
def tb__law_cut_of : TSt := (xSeq (xAsg (xBin (xVar 0) (xC (.int 0)) oIx) (yTup 2 (yCons (yName 3) (yCons (yName 4) yNil))))
    (xSeq (xFor (xiRng2 (xaCons (xC (.int 1)) (xaCons (xBin (xCall (xaCons (xVar 0) (xaCons (xVar 2) xaNil)) pt__law_most) (xC (.int 1)) oAdd) xaNil))) (yName 5)
    (xSeq (xAsg (xComp (xiList (xCall (xaCons (xVar 0) (xaCons (xVar 1) (xaCons (xVar 2) (xaCons (xVar 5) xaNil)))) pt__law_reached)) (yTup 2 (yCons (yName 7) (yCons (yName 8) yNil))) xYes (xVar 7) [7, 8]) (yName 6))
    (xIfS (xTest (xBin (xComp (xiList (xVar 6)) (yName 7) (xOr (xNot (xTest (xChain (xC (.int 0)) (xBin (xVar 7) (xC (.int 0)) oIx) (xVar 3) oLe oLt2))) (xNot (xTest (xChain (xC (.int 0)) (xBin (xVar 7) (xC (.int 1)) oIx) (xVar 4) oLe oLt2)))) (xVar 7) [7]) (xLst xaNil) oNe))
    (xRet (xVar 5))
    xNext)))
    (xRet (xC .none))))
def isOut (m : Mch) : PyData → Bool
  | .tuple [.int x, .int y] => !(decide (0 ≤ x) && decide (x < m.wide)) || !(decide (0 ≤ y) && decide (y < m.high))
  | _ => false
def lawOut (m : Mch) (s : Stg) (c : Cmd) (n : Int) : Bool := (lawPts m s c n).any fun d => isOut m (fstD d)
def lawCut (m : Mch) (s : Stg) (c : Cmd) : Option Int := firstFrom (lawOut m s c) (c.signs m).toNat 1
abbrev pt__law_cut_of : PT' := ptA (fun a : Mch × Stg × Cmd => [.v a.1.d, .v a.2.1.d, .v a.2.2.d]) (fun a => a.1.Ok ∧ a.2.1.Ok a.1 ∧ a.2.2.Ok a.1) fun a => ointD (lawCut a.1 a.2.1 a.2.2)
abbrev pt__law_cut_of_mo := @ptA_mo _ (fun a : Mch × Stg × Cmd => [.v a.1.d, .v a.2.1.d, .v a.2.2.d]) (fun a => a.1.Ok ∧ a.2.1.Ok a.1 ∧ a.2.2.Ok a.1) fun a => ointD (lawCut a.1 a.2.1 a.2.2)
theorem box_pts {s : Stg} {x y a b : Int} : ∀ d ∈ boxPts s x y a b, ∃ p src, d = ptD p src := by
  intro d hd
  obtain ⟨i, _, _, hd⟩ := flatI_mem.1 hd
  obtain ⟨j, _, _, hd⟩ := flatI_mem.1 hd
  exact ⟨_, _, List.mem_singleton.1 hd⟩
theorem law_pts {m : Mch} {s : Stg} {c : Cmd} {n : Int} : ∀ d ∈ lawPts m s c n, ∃ p src, d = ptD p src := by
  intro d hd
  cases c with
  | box x y a b => exact box_pts d hd
  | clear x y a b => exact box_pts d hd
  | field x y z =>
    obtain ⟨i, _, _, hd⟩ := flatI_mem.1 hd
    obtain ⟨j, _, _, hd⟩ := flatI_mem.1 hd
    obtain ⟨k, _, _, hd⟩ := flatI_mem.1 hd
    exact ⟨_, _, List.mem_singleton.1 hd⟩
  | _ => cases hd
theorem box_len {s : Stg} {x y a b : Int} (ha : 1 ≤ a ∧ a ≤ 40) (hb : 1 ≤ b ∧ b ≤ 40) : (boxPts s x y a b).length ≤ 1600 := by
  have h1 : ∀ i : Int, (flatI (fun j => [ptD (dotR s (x + i) (y + j)) (.tuple [])]) 0 b.toNat).length ≤ 40 := fun i => Nat.le_trans (flatI_len (c := 1) (fun _ => Nat.le_refl _) _ _) (by omega)
  exact Nat.le_trans (flatI_len h1 _ _) (by omega)
theorem law_len {m : Mch} {s : Stg} {c : Cmd} {n : Int} (ok : m.Ok) (hs : s.Ok m) (hc : c.Ok m) (n1 : 1 ≤ n) (n2 : n ≤ 12) : (lawPts m s c n).length ≤ 6912 := by
  cases c with
  | box x y a b => exact Nat.le_trans (box_len (length_inv (PartsOk.hd (PartsOk.tl (PartsOk.tl hc)))) (length_inv (PartsOk.hd (PartsOk.tl (PartsOk.tl (PartsOk.tl hc)))))) (by decide)
  | clear x y a b => exact Nat.le_trans (box_len (length_inv (PartsOk.hd (PartsOk.tl (PartsOk.tl hc)))) (length_inv (PartsOk.hd (PartsOk.tl (PartsOk.tl (PartsOk.tl hc)))))) (by decide)
  | field x y z =>
    have fb := font_bd ok hs.font
    have sb := hs.scale
    have c2 : (m.fontAt s.font).1 * n ≤ 8 * 12 := Int.mul_le_mul (by omega) n2 (by omega) (by omega)
    have c4 : s.scale * s.scale ≤ 3 * 3 := Int.mul_le_mul sb.2 sb.2 (by omega) (by omega)
    have h3 : ∀ i j : Int, (flatI (fun k => [ptD (dotR s (x + i * s.scale + k / s.scale) (y + j * s.scale + k % s.scale)) (.tuple [.str z, .int s.font, .int i, .int j])]) 0 (s.scale * s.scale).toNat).length ≤ 9 := fun i j => Nat.le_trans (flatI_len (c := 1) (fun _ => Nat.le_refl _) _ _) (by omega)
    have h2 : ∀ i : Int, (flatI (fun j => flatI (fun k => [ptD (dotR s (x + i * s.scale + k / s.scale) (y + j * s.scale + k % s.scale)) (.tuple [.str z, .int s.font, .int i, .int j])]) 0 (s.scale * s.scale).toNat) 0 (m.fontAt s.font).2.toNat).length ≤ 72 := fun i => Nat.le_trans (flatI_len (c := 9) (fun j => h3 i j) _ _) (by omega)
    exact Nat.le_trans (flatI_len h2 _ _) (by omega)
  | _ => exact Nat.zero_le _
theorem pts_shaped : ∀ l : List PyData, (∀ d ∈ l, ∃ x y : Int, d = .tuple [.int x, .int y]) → SeqAt.shaped (.list l) = true ∧ noDicts l = true := by
  intro l h
  have a : PyData.canLayAll0 l = true ∧ noDicts l = true ∧ PyData.depthAll l ≤ 1 := by
    induction l with
    | nil => simp [PyData.canLayAll0, PyData.depthAll]
    | cons w r ih =>
      obtain ⟨i1, i2, i3⟩ := ih fun s hs => h s (List.mem_cons_of_mem _ hs)
      obtain ⟨x, y, rfl⟩ := h w List.mem_cons_self
      simp [PyData.canLayAll0, PyData.canLay0, PyData.depthAll, PyData.depth, i1, i2, i3]
  refine ⟨?_, a.2.1⟩
  simp [SeqAt.shaped, PyData.canLay0, PyData.depth, a.1]
  omega
theorem eqv_isnil (l : List PyData) : PyData.eqvAll l [] = l.isEmpty := by cases l <;> rfl
theorem filter_isEmpty {α : Type} (p : α → Bool) : ∀ l : List α, (l.filter p).isEmpty = !(l.any p)
  | [] => rfl
  | a :: r => by
    cases h : p a <;> simp [List.filter_cons, h, filter_isEmpty p r]
theorem cut_loop {m : Mch} {s : Stg} {c : Cmd} (ok : m.Ok) (hs : s.Ok m) (hc : c.Ok m) {Q : PyData → Nat → Prop} {g : Nat} : ∀ (n : Nat) (i : Int) (e5 e6 : S), 1 ≤ i → i + n ≤ 13 → Q (ointD (firstFrom (lawOut m s c) n i)) g →
    forT (yName 5) (xSeq (xAsg (xComp (xiList (xCall (xaCons (xVar 0) (xaCons (xVar 1) (xaCons (xVar 2) (xaCons (xVar 5) xaNil)))) pt__law_reached)) (yTup 2 (yCons (yName 7) (yCons (yName 8) yNil))) xYes (xVar 7) [7, 8]) (yName 6))
    (xIfS (xTest (xBin (xComp (xiList (xVar 6)) (yName 7) (xOr (xNot (xTest (xChain (xC (.int 0)) (xBin (xVar 7) (xC (.int 0)) oIx) (xVar 3) oLe oLt2))) (xNot (xTest (xChain (xC (.int 0)) (xBin (xVar 7) (xC (.int 1)) oIx) (xVar 4) oLe oLt2)))) (xVar 7) [7]) (xLst xaNil) oNe))
    (xRet (xVar 5))
    xNext)) (rangeD i n) { nx := xRet (xC PyData.none) { nx := fun x g' => Q PyData.none g', rt := Q }, rt := Q } [S.v m.d, S.v s.d, S.v c.d, S.v (PyData.int m.wide), S.v (PyData.int m.high), e5, e6, S.un, S.un] g
  | 0, i, e5, e6, _, _, q => by simpa [rangeD_0, firstFrom, ointD] using q
  | n + 1, i, e5, e6, i1, i2, q => by
    simp only [firstFrom] at q
    have hl := law_len ok hs hc i1 (show i ≤ 12 by omega)
    have hz : (lawPts m s c i).length ≤ sizeLine := Nat.le_trans hl (by decide +kernel)
    rw [rangeD_s]
    simp only [forT, yName, xSeq, xAsg, xComp, xiList, xCall, xaCons, xaNil, xVar]
    simp [ptA, and_assoc, -oLe, -forT, -compT]
    refine ⟨ok, hs, hc, i1, by omega, hz, compT_pure (p := fun _ => true) (f := fstD) _ _ _ _ _ (fun d hd k k' hk _ => ?_) ?_⟩
    · obtain ⟨p, src, rfl⟩ := law_pts d hd
      simpa [ptD, fstD, and_assoc] using hk rfl
    rw [filter_tt, List.nil_append]
    have hp : ∀ d ∈ (lawPts m s c i).map fstD, ∃ x y : Int, d = .tuple [.int x, .int y] := fun d hd => by
      obtain ⟨z, hz, rfl⟩ := List.mem_map.1 hd
      obtain ⟨p, src, rfl⟩ := law_pts z hz
      exact ⟨_, _, rfl⟩
    refine ⟨by simpa using hz, compT_pure (p := isOut m) (f := id) _ _ _ _ _ (fun d hd k k' hk hk' => ?_) ?_⟩
    · obtain ⟨x, y, rfl⟩ := hp d hd
      simp [at_0, at_1]
      simp only [isOut] at hk hk'
      by_cases a1 : x < 0
      · exact Or.inl ⟨a1, hk (by simp; omega)⟩
      · refine Or.inr ⟨by omega, ?_⟩
        by_cases a2 : m.wide ≤ x
        · exact Or.inl ⟨a2, hk (by simp; omega)⟩
        · refine Or.inr ⟨by omega, ?_⟩
          by_cases a3 : y < 0
          · exact Or.inl ⟨a3, hk (by simp; omega)⟩
          · refine Or.inr ⟨by omega, ?_⟩
            by_cases a4 : m.high ≤ y
            · exact Or.inl ⟨a4, hk (by simp; omega)⟩
            · exact Or.inr ⟨by omega, hk' (by simp; omega)⟩
    · rw [List.nil_append, List.map_id]
      obtain ⟨s1, s2⟩ := pts_shaped (((lawPts m s c i).map fstD).filter (isOut m)) fun d hd => hp d (List.mem_filter.1 hd).1
      have s3 : SeqAt.shaped (.list []) = true := rfl
      refine ⟨s2, s1, s3, ?_⟩
      rw [eqv_isnil]
      have e : (((lawPts m s c i).map fstD).filter (isOut m)).isEmpty = !(lawOut m s c i) := by
        rw [filter_isEmpty, List.any_map]
        rfl
      rw [e]
      by_cases ho : lawOut m s c i = true
      · rw [if_pos ho] at q
        exact Or.inr ⟨by rw [ho]; rfl, q⟩
      · rw [if_neg ho] at q
        have ho' : lawOut m s c i = false := by simpa using ho
        exact Or.inl ⟨by rw [ho']; rfl, cut_loop ok hs hc n (i + 1) _ _ (by omega) (by omega) q⟩
theorem sp__law_cut_of : ∀ ss g Q, ss.length = 3 → pt__law_cut_of ss g Q → tb__law_cut_of { nx := fun _ g' => Q .none g', rt := Q } (envOf n__law_cut_of ss) g := by
  rintro ss g Q _ ⟨⟨m, s, c⟩, rfl, ⟨ok, hs, hc⟩, q⟩
  simp only at ok hs hc q
  have hb := signs_bd ok c
  have e1 : (c.signs m + 1).toNat - 1 = (c.signs m).toNat := by omega
  simp [tb__law_cut_of, mch_d0, -compT, -forT, -oLe, ptA, and_assoc, ok, hc]
  rw [e1]
  refine ⟨by omega, by omega, ?_⟩
  exact cut_loop ok hs hc _ 1 _ _ (by omega) (by omega) q
end TL

namespace TL
open PySem PySem.Spec PyProof.Rows L2 RZ

/-! ### _law_next -/
abbrev pt__law_next : PT' := ptNext
abbrev pt__law_next_mo := @ptNext_mo

/-! ### _law_machine -/
def tb__law_machine : TSt := (xSeq (xAsg (xCB (xaCons (xComp (xiRng1 (xaCons (xBin (xC (.int 1)) (xCall (xaTok 0 (xaCons (xC (.int 2)) xaNil)) pt__law_next) oAdd) xaNil)) (yName 7) xYes (xTup (xaCons (xBin (xC (.int 1)) (xCall (xaTok 0 (xaCons (xC (.int 3)) xaNil)) pt__law_next) oAdd) (xaCons (xBin (xC (.int 1)) (xCall (xaTok 0 (xaCons (xC (.int 3)) xaNil)) pt__law_next) oAdd) xaNil))) [7]) xaNil) cTup) (yName 3))
    (xSeq (xAsg (xComp (xiStr (xC (.str "ABH"))) (yName 6) (xTest (xBin (xCall (xaTok 0 (xaCons (xC (.int 3)) xaNil)) pt__law_next) (xC (.int 0)) oGt)) (xVar 6) [6]) (yName 4))
    (xSeq (xAsg (xCB (xaCons (xComp (xiList (xVar 4)) (yName 6) xYes (xTup (xaCons (xVar 6) (xaCons (xBin (xC (.int 1)) (xCall (xaTok 0 (xaCons (xC (.int 3)) xaNil)) pt__law_next) oAdd) xaNil))) [6]) xaNil) cTup) (yName 5))
    (xRet (xTup (xaCons (xTup (xaCons (xBin (xC (.int 1)) (xCall (xaTok 0 (xaCons (xVar 1) xaNil)) pt__law_next) oAdd) (xaCons (xBin (xC (.int 1)) (xCall (xaTok 0 (xaCons (xVar 2) xaNil)) pt__law_next) oAdd) xaNil))) (xaCons (xVar 3) (xaCons (xVar 5) xaNil))))))))
abbrev pt__law_machine : PT' := ptG (fun a : Int × Int => [.tok, .v (.int a.1), .v (.int a.2)]) (fun a => (1 ≤ a.1 ∧ a.1 ≤ 40) ∧ 1 ≤ a.2 ∧ a.2 ≤ 40) (fun a => 13) fun a d => ∃ m : Mch, m.Ok ∧ d = m.d
abbrev pt__law_machine_mo := @ptG_mo _ (fun a : Int × Int => [.tok, .v (.int a.1), .v (.int a.2)]) (fun a => (1 ≤ a.1 ∧ a.1 ≤ 40) ∧ 1 ≤ a.2 ∧ a.2 ≤ 40) (fun a => 13) fun a d => ∃ m : Mch, m.Ok ∧ d = m.d
theorem abh_signs : signsD "ABH" = [PyData.str "A", PyData.str "B", PyData.str "H"] := by
  have e0 : Str.ofString "ABH" = ⟨#[65, 66, 72]⟩ := by decide +kernel
  have e1 : Str.ofString "A" = ⟨#[65]⟩ := by decide +kernel
  have e2 : Str.ofString "B" = ⟨#[66]⟩ := by decide +kernel
  have e3 : Str.ofString "H" = ⟨#[72]⟩ := by decide +kernel
  rw [e0, e1, e2, e3]
  rfl
theorem rangeD_len (i : Int) (n : Nat) : (rangeD i n).length = n := by simp [rangeD]
theorem abh_pk {l : List PyData} (h : Pk (fun a b => b = a) [PyData.str "A", PyData.str "B", PyData.str "H"] l) : ∃ ns : List Str, l = ns.map PyData.str ∧ (∀ n ∈ ns, n ∈ NML) ∧ upS ns = true ∧ ns.length ≤ 3 := by
  have f : ∀ ns : List Str, ((∀ n ∈ ns, n ∈ NML) ∧ upS ns = true ∧ ns.length ≤ 3) → ∃ ms : List Str, ns.map PyData.str = ms.map PyData.str ∧ (∀ n ∈ ms, n ∈ NML) ∧ upS ms = true ∧ ms.length ≤ 3 := fun ns h => ⟨ns, rfl, h⟩
  cases h with
  | cons e h =>
    subst e
    cases h with
    | cons e h =>
      subst e
      cases h with
      | cons e h => subst e; cases h; exact f ["A", "B", "H"] (by decide +kernel)
      | skip h => cases h; exact f ["A", "B"] (by decide +kernel)
    | skip h =>
      cases h with
      | cons e h => subst e; cases h; exact f ["A", "H"] (by decide +kernel)
      | skip h => cases h; exact f ["A"] (by decide +kernel)
  | skip h =>
    cases h with
    | cons e h =>
      subst e
      cases h with
      | cons e h => subst e; cases h; exact f ["B", "H"] (by decide +kernel)
      | skip h => cases h; exact f ["B"] (by decide +kernel)
    | skip h =>
      cases h with
      | cons e h => subst e; cases h; exact f ["H"] (by decide +kernel)
      | skip h => cases h; exact f [] (by decide +kernel)
/-- a drawn font, a drawn field -/
def FontR (_ d : PyData) : Prop := ∃ p : Int × Int, d = fontD p ∧ (1 ≤ p.1 ∧ p.1 ≤ 8) ∧ 1 ≤ p.2 ∧ p.2 ≤ 8
def FieldR (a d : PyData) : Prop := ∃ p : Str × Int, a = .str p.1 ∧ d = fieldD p ∧ 1 ≤ p.2 ∧ p.2 ≤ 12
theorem fonts_of {ds l : List PyData} (h : Rel2 FontR ds l) : ∃ fs : List (Int × Int), l = fs.map fontD ∧ ∀ p ∈ fs, (1 ≤ p.1 ∧ p.1 ≤ 8) ∧ 1 ≤ p.2 ∧ p.2 ≤ 8 := by
  induction h with
  | nil => exact ⟨[], rfl, fun p hp => by cases hp⟩
  | cons hr _ ih =>
    obtain ⟨p, rfl, hp⟩ := hr
    obtain ⟨fs, rfl, hf⟩ := ih
    exact ⟨p :: fs, rfl, fun q hq => by
      rcases List.mem_cons.1 hq with e | e
      · subst e; exact hp
      · exact hf q e⟩
theorem fields_of : ∀ {ns : List Str} {l : List PyData}, Rel2 FieldR (ns.map PyData.str) l → ∃ fs : List (Str × Int), l = fs.map fieldD ∧ fs.map (·.1) = ns ∧ ∀ p ∈ fs, 1 ≤ p.2 ∧ p.2 ≤ 12
  | [], l, h => by cases h; exact ⟨[], rfl, rfl, fun p hp => by cases hp⟩
  | n :: ns, l, h => by
    cases h with
    | cons hr h =>
      obtain ⟨p, e, rfl, hp⟩ := hr
      obtain ⟨fs, rfl, e2, hf⟩ := fields_of h
      cases e
      exact ⟨p :: fs, rfl, by simp [e2], fun q hq => by
        rcases List.mem_cons.1 hq with e | e
        · subst e; exact hp
        · exact hf q e⟩
theorem sp__law_machine : ∀ ss g Q, ss.length = 3 → pt__law_machine ss g Q → tb__law_machine { nx := fun _ g' => Q .none g', rt := Q } (envOf n__law_machine ss) g := by
  rintro ss g Q _ ⟨⟨wide, tall⟩, rfl, ⟨hw, ht⟩, hg, q⟩
  simp only at hw ht hg q
  simp only [tb__law_machine, xSeq, xAsg, xCB, xaCons, xComp, xiRng1]
  simp [-compT, abh_signs]
  refine next_of (by omega) (by omega) (by omega) fun k0 h0 h1 => ?_
  simp [-compT]
  have hk0 : (1 + k0).toNat ≤ 2 := by omega
  have hk1 : 1 ≤ (1 + k0).toNat := by omega
  refine ⟨by omega, by omega, by rw [rangeD_len]; exact Nat.le_trans hk0 (by decide +kernel), ?_⟩
  refine compT_all (c := 2) (R := FontR) _ _ _ _ _ (by rw [rangeD_len]; omega) (fun d hd g1 hg1 k k' hk => ?_) fun l g1 hl hg1 => ?_
  · simp
    refine next_of (by omega) (by omega) (by omega) fun k1 a0 a1 => ?_
    simp
    refine next_of (by omega) (by omega) (by omega) fun k2 b0 b1 => ?_
    simp
    exact hk _ _ ⟨(1 + k1, 1 + k2), rfl, ⟨by show 1 ≤ 1 + k1; omega, by show 1 + k1 ≤ 8; omega⟩, by show 1 ≤ 1 + k2; omega, by show 1 + k2 ≤ 8; omega⟩ (by omega)
  rw [rangeD_len] at hg1
  have hll := hl.len
  rw [rangeD_len] at hll
  obtain ⟨fonts, rfl, hfo⟩ := fonts_of hl
  rw [List.length_map] at hll
  simp [-compT]
  refine compT_some (c := 1) (R := fun a b => b = a) _ _ _ _ _ (by simp; omega) (fun d hd g2 hg2 k k' hk hk' => ?_) fun l2 g2 hl2 hg2 => ?_
  · simp
    refine next_of (by omega) (by omega) (by omega) fun k1 a0 a1 => ?_
    simp
    by_cases h : 0 < k1
    · exact Or.inr ⟨h, hk d (g2 - 1) rfl (by omega)⟩
    · exact Or.inl ⟨by omega, hk' (g2 - 1) (by omega)⟩
  obtain ⟨ns, rfl, n1, n2, n3⟩ := abh_pk hl2
  simp at hg2
  simp [-compT]
  refine ⟨Nat.le_trans n3 (by decide +kernel), ?_⟩
  refine compT_all (c := 1) (R := FieldR) _ _ _ _ _ (by simp; omega) (fun d hd g3 hg3 k k' hk => ?_) fun l3 g3 hl3 hg3 => ?_
  · obtain ⟨n, hn, rfl⟩ := List.mem_map.1 hd
    simp
    refine next_of (by omega) (by omega) (by omega) fun k1 a0 a1 => ?_
    simp
    exact hk _ _ ⟨(n, 1 + k1), rfl, rfl, by show 1 ≤ 1 + k1; omega, by show 1 + k1 ≤ 12; omega⟩ (by omega)
  obtain ⟨fields, rfl, hnm, hfi⟩ := fields_of hl3
  rw [List.length_map] at hg3
  simp
  refine next_of (by omega) (by omega) (by omega) fun k1 a0 a1 => ?_
  simp
  refine next_of (by omega) (by omega) (by omega) fun k2 b0 b1 => ?_
  simp
  refine q _ _ ⟨⟨1 + k1, 1 + k2, fonts, fields⟩, ⟨⟨by show 1 ≤ 1 + k1; omega, by show 1 + k1 ≤ 40; omega⟩, ⟨by show 1 ≤ 1 + k2; omega, by show 1 + k2 ≤ 40; omega⟩, ⟨by show 1 ≤ fonts.length; omega, by show fonts.length ≤ 3; omega⟩, hfo, ?_, fun p hp => ⟨n1 _ (by rw [← hnm]; exact List.mem_map_of_mem hp), hfi p hp⟩, by show upS (fields.map (·.1)) = true; rw [hnm]; exact n2⟩, rfl⟩ (by omega)
  show fields.length ≤ 8
  have := congrArg List.length hnm
  rw [List.length_map] at this
  omega
/-! ### _law_of -/
def tb__law_of : TSt := (xRet (xBin (xVar 1) (xCall (xaTok 0 (xaCons (xCB (xaCons (xVar 1) xaNil) cLen) xaNil)) pt__law_next) oIx))
def seqD (tup : Bool) (l : List PyData) : PyData := if tup then .tuple l else .list l
abbrev pt__law_of : PT' := ptG (fun a : Bool × List PyData => [.tok, .v (seqD a.1 a.2)]) (fun a => 0 < a.2.length ∧ a.2.length < 1000) (fun a => 1) fun a d => d ∈ a.2
abbrev pt__law_of_mo := @ptG_mo _ (fun a : Bool × List PyData => [.tok, .v (seqD a.1 a.2)]) (fun a => 0 < a.2.length ∧ a.2.length < 1000) (fun a => 1) fun a d => d ∈ a.2
theorem sp__law_of : ∀ ss g Q, ss.length = 2 → pt__law_of ss g Q → tb__law_of { nx := fun _ g' => Q .none g', rt := Q } (envOf n__law_of ss) g := by
  rintro ss g Q _ ⟨⟨tup, l⟩, rfl, ⟨h0, h1⟩, hg, q⟩
  simp only at h0 h1 hg q
  have key : ∀ k : Int, 0 ≤ k → k < l.length → ∃ z, atI l k = some z ∧ Q z (g - 1) := fun k a b => by
    have h2 : k.toNat < l.length := by omega
    refine ⟨l[k.toNat], ?_, q _ _ (List.getElem_mem h2) (by omega)⟩
    unfold atI ixN
    rw [if_pos a, if_pos b]
    simp [h2]
  cases tup
  · simp [tb__law_of, seqD]
    exact next_of (by omega) (by omega) hg fun k a b => by simpa using key k a b
  · simp [tb__law_of, seqD]
    exact next_of (by omega) (by omega) hg fun k a b => by simpa using key k a b
theorem of_list {l : List PyData} {g : Nat} {Q : PyData → Nat → Prop} (h0 : 0 < l.length) (h1 : l.length < 1000) (hg : 1 ≤ g) (q : ∀ d g', d ∈ l → g ≤ g' + 1 → Q d g') : pt__law_of [.tok, .v (.list l)] g Q := ⟨(false, l), rfl, ⟨h0, h1⟩, hg, q⟩
theorem of_tup {l : List PyData} {g : Nat} {Q : PyData → Nat → Prop} (h0 : 0 < l.length) (h1 : l.length < 1000) (hg : 1 ≤ g) (q : ∀ d g', d ∈ l → g ≤ g' + 1 → Q d g') : pt__law_of [.tok, .v (.tuple l)] g Q := ⟨(true, l), rfl, ⟨h0, h1⟩, hg, q⟩
/-! ### _law_settings -/
def tb__law_settings : TSt := (xSeq (xAsg (xTup (xaCons (xBin (xCall (xaTok 0 (xaCons (xC (.int 7)) xaNil)) pt__law_next) (xC (.int 2)) oSub) (xaCons (xBin (xCall (xaTok 0 (xaCons (xC (.int 7)) xaNil)) pt__law_next) (xC (.int 2)) oSub) xaNil))) (yName 2))
    (xSeq (xAsg (xTup (xaCons (xCall (xaTok 0 (xaCons (xC (.int 4)) xaNil)) pt__law_next) (xaCons (xCall (xaTok 0 (xaCons (xCB (xaCons (xBin (xVar 1) (xC (.int 1)) oIx) xaNil) cLen) xaNil)) pt__law_next) (xaCons (xBin (xC (.int 1)) (xCall (xaTok 0 (xaCons (xC (.int 2)) xaNil)) pt__law_next) oAdd) xaNil)))) (yName 3))
    (xRet (xBin (xBin (xVar 2) (xVar 3) oAdd) (xTup (xaCons (xCall (xaTok 0 (xaCons (xLst (xaCons (xC (.str "set")) (xaCons (xC (.str "flip")) xaNil))) xaNil)) pt__law_of) xaNil)) oAdd))))
abbrev pt__law_settings : PT' := ptG (fun a : Mch => [.tok, .v a.d]) (fun a => a.Ok) (fun a => 6) fun a d => ∃ s : Stg, s.Ok a ∧ d = s.d
abbrev pt__law_settings_mo := @ptG_mo _ (fun a : Mch => [.tok, .v a.d]) (fun a => a.Ok) (fun a => 6) fun a d => ∃ s : Stg, s.Ok a ∧ d = s.d
theorem sp__law_settings : ∀ ss g Q, ss.length = 2 → pt__law_settings ss g Q → tb__law_settings { nx := fun _ g' => Q .none g', rt := Q } (envOf n__law_settings ss) g := by
  rintro ss g Q _ ⟨m, rfl, ok, hg, q⟩
  simp only at hg q
  have hf := ok.nf
  simp [tb__law_settings, -Mch.d_inj]
  refine next_of (by omega) (by omega) (by omega) fun k1 a1 b1 => ?_
  simp
  refine next_of (by omega) (by omega) (by omega) fun k2 a2 b2 => ?_
  simp
  refine next_of (by omega) (by omega) (by omega) fun k3 a3 b3 => ?_
  try simp [mch_d1]
  refine next_of (by omega) (by omega) (by omega) fun k4 a4 b4 => ?_
  try simp
  refine next_of (by omega) (by omega) (by omega) fun k5 a5 b5 => ?_
  simp
  refine of_list (by simp) (by simp) (by omega) fun d g' hd hg' => ?_
  have hi : ∃ z : Str, d = .str z ∧ inkOk z := by
    simp at hd
    rcases hd with e | e
    · exact ⟨_, e, Or.inl rfl⟩
    · exact ⟨_, e, Or.inr rfl⟩
  obtain ⟨z, rfl, hz⟩ := hi
  exact q _ _ ⟨⟨k1 - 2, k2 - 2, k3, k4, 1 + k5, z⟩, ⟨⟨a3, by show k3 ≤ 3; omega⟩, ⟨a4, by show k4 ≤ _; omega⟩, ⟨by show 1 ≤ 1 + k5; omega, by show 1 + k5 ≤ 3; omega⟩, hz⟩, rfl⟩ (by omega)
/-! ### _law_command -/
def tb__law_command : TSt := (xSeq (xPar3 2 3 4 (xaCons (xBin (xCall (xaTok 0 (xaCons (xC (.int 6)) xaNil)) pt__law_next) (xC (.int 2)) oSub) (xaCons (xBin (xCall (xaTok 0 (xaCons (xC (.int 6)) xaNil)) pt__law_next) (xC (.int 2)) oSub) (xaCons (xCall (xaTok 0 (xaCons (xC (.int 14)) xaNil)) pt__law_next) xaNil))))
    (xSeq (xIfS (xAnd (xTest (xBin (xVar 4) (xC (.int 5)) oLt2)) (xTest (xBin (xBin (xVar 1) (xC (.int 2)) oIx) (xTup xaNil) oNe)))
    (xRet (xTup (xaCons (xC (.str "field")) (xaCons (xVar 2) (xaCons (xVar 3) (xaCons (xBin (xCall (xaTok 0 (xaCons (xBin (xVar 1) (xC (.int 2)) oIx) xaNil)) pt__law_of) (xC (.int 0)) oIx) xaNil))))))
    xNext)
    (xSeq (xIfS (xTest (xBin (xVar 4) (xC (.int 8)) oLt2))
    (xRet (xTup (xaCons (xCall (xaTok 0 (xaCons (xLst (xaCons (xC (.str "box")) (xaCons (xC (.str "box")) (xaCons (xC (.str "box")) (xaCons (xC (.str "clear")) xaNil))))) xaNil)) pt__law_of) (xaCons (xVar 2) (xaCons (xVar 3) (xaCons (xBin (xC (.int 1)) (xCall (xaTok 0 (xaCons (xC (.int 4)) xaNil)) pt__law_next) oAdd) (xaCons (xBin (xC (.int 1)) (xCall (xaTok 0 (xaCons (xC (.int 4)) xaNil)) pt__law_next) oAdd) xaNil)))))))
    xNext)
    (xSeq (xIfS (xTest (xBin (xVar 4) (xC (.int 10)) oLt2))
    (xRet (xTup (xaCons (xCall (xaTok 0 (xaCons (xLst (xaCons (xC (.str "home")) (xaCons (xC (.str "move")) xaNil))) xaNil)) pt__law_of) (xaCons (xVar 2) (xaCons (xVar 3) xaNil)))))
    xNext)
    (xSeq (xAsg (xLst (xaCons (xTup (xaCons (xC (.str "turn")) (xaCons (xCall (xaTok 0 (xaCons (xC (.int 4)) xaNil)) pt__law_next) xaNil))) (xaCons (xTup (xaCons (xC (.str "font")) (xaCons (xCall (xaTok 0 (xaCons (xCB (xaCons (xBin (xVar 1) (xC (.int 1)) oIx) xaNil) cLen) xaNil)) pt__law_next) xaNil))) (xaCons (xTup (xaCons (xC (.str "scale")) (xaCons (xBin (xC (.int 1)) (xCall (xaTok 0 (xaCons (xC (.int 3)) xaNil)) pt__law_next) oAdd) xaNil))) xaNil)))) (yName 5))
    (xRet (xCall (xaTok 0 (xaCons (xBin (xVar 5) (xLst (xaCons (xTup (xaCons (xC (.str "ink")) (xaCons (xC (.str "set")) xaNil))) (xaCons (xTup (xaCons (xC (.str "ink")) (xaCons (xC (.str "flip")) xaNil))) (xaCons (xTup (xaCons (xC (.str "ink")) (xaCons (xC (.str "flip")) xaNil))) (xaCons (xTup (xaCons (xC (.str "plain")) xaNil)) xaNil))))) oAdd) xaNil)) pt__law_of)))))))
abbrev pt__law_command : PT' := ptG (fun a : Mch => [.tok, .v a.d]) (fun a => a.Ok) (fun a => 7) fun a d => ∃ c : Cmd, c.Ok a ∧ d = c.d
abbrev pt__law_command_mo := @ptG_mo _ (fun a : Mch => [.tok, .v a.d]) (fun a => a.Ok) (fun a => 7) fun a d => ∃ c : Cmd, c.Ok a ∧ d = c.d
theorem cmd_box {m : Mch} {x y : Int} {g g1 : Nat} {Q : PyData → Nat → Prop} (hx : -1000000 ≤ x ∧ x ≤ 1000000) (hy : -1000000 ≤ y ∧ y ≤ 1000000) (hg : 7 ≤ g) (hg1 : g ≤ g1 + 3) (q : ∀ (d : PyData) (g' : Nat), (∃ c : Cmd, c.Ok m ∧ d = c.d) → g ≤ g' + 7 → Q d g') :
    pt__law_of [S.tok, S.v (.list [.str "box", .str "box", .str "box", .str "clear"])] g1 fun d g1 => pt__law_next [S.tok, S.v (.int 4)] g1 fun e g2 => oAdd (.int 1) e g2 fun d1 g1 => pt__law_next [S.tok, S.v (.int 4)] g1 fun e g2 => oAdd (.int 1) e g2 fun d2 g1 => Q (.tuple [d, .int x, .int y, d1, d2]) g1 := by
  refine of_list (by simp) (by simp) (by omega) fun d g' hd hg' => ?_
  refine next_of (by omega) (by omega) (by omega) fun k1 c1 e1 => ?_
  simp
  refine next_of (by omega) (by omega) (by omega) fun k2 c2 e2 => ?_
  simp
  have l1 : 1 ≤ 1 + k1 ∧ 1 + k1 ≤ 40 := by omega
  have l2 : 1 ≤ 1 + k2 ∧ 1 + k2 ≤ 40 := by omega
  simp at hd
  rcases hd with rfl | rfl
  · exact q _ _ ⟨.box x y (1 + k1) (1 + k2), .cons (.place hx) (.cons (.place hy) (.cons (.length l1) (.cons (.length l2) .nil))), rfl⟩ (by omega)
  · exact q _ _ ⟨.clear x y (1 + k1) (1 + k2), .cons (.place hx) (.cons (.place hy) (.cons (.length l1) (.cons (.length l2) .nil))), rfl⟩ (by omega)
theorem fields_shaped {m : Mch} (ok : m.Ok) : SeqAt.shaped (.tuple (m.fields.map fieldD)) = true ∧ noDicts (m.fields.map fieldD) = true := by
  have h : ∀ l : List (Str × Int), (∀ p ∈ l, PyData.strOk p.1 = true) → PyData.canLayAll0 (l.map fieldD) = true ∧ noDicts (l.map fieldD) = true ∧ PyData.depthAll (l.map fieldD) ≤ 1 := by
    intro l
    induction l with
    | nil => intro _; simp [PyData.canLayAll0, PyData.depthAll]
    | cons w r ih =>
      intro h
      obtain ⟨i1, i2, i3⟩ := ih fun s hs => h s (List.mem_cons_of_mem _ hs)
      have := h w List.mem_cons_self
      simp [fieldD, PyData.canLayAll0, PyData.canLay0, PyData.depthAll, PyData.depth, this] at i1 i2 i3 ⊢
      exact ⟨i1, i2, Nat.max_le.2 ⟨Nat.le_refl _, i3⟩⟩
  obtain ⟨a1, a2, a3⟩ := h m.fields fun p hp => nml_ok _ (ok.l p hp).1
  refine ⟨?_, a2⟩
  simp [SeqAt.shaped, PyData.canLay0, PyData.depth, a1]
  omega
theorem sp__law_command : ∀ ss g Q, ss.length = 2 → pt__law_command ss g Q → tb__law_command { nx := fun _ g' => Q .none g', rt := Q } (envOf n__law_command ss) g := by
  rintro ss g Q _ ⟨m, rfl, ok, hg, q⟩
  simp only at hg q
  have hf := ok.nf
  simp [tb__law_command, -Mch.d_inj]
  refine next_of (by omega) (by omega) (by omega) fun x a1 b1 => ?_
  simp
  refine next_of (by omega) (by omega) (by omega) fun y a2 b2 => ?_
  simp
  refine next_of (by omega) (by omega) (by omega) fun w a3 b3 => ?_
  simp [mch_d1, mch_d2]
  refine ⟨_, _, _, ⟨rfl, rfl, rfl⟩, ?_⟩
  have hg1 : g ≤ g - 1 - 1 - 1 + 3 := by omega
  have hx : -1000000 ≤ x - 2 ∧ x - 2 ≤ 1000000 := by omega
  have hy : -1000000 ≤ y - 2 ∧ y - 2 ≤ 1000000 := by omega
  have hs0 : SeqAt.shaped (.tuple []) = true := rfl
  obtain ⟨f1, f2⟩ := fields_shaped ok
  generalize g - 1 - 1 - 1 = g1 at hg1 ⊢
  by_cases h5 : w < 5
  · by_cases he : m.fields = []
    · have h8 : w < 8 := by omega
      simp [mch_d1, mch_d2, h5, he, hs0, h8]
      exact cmd_box hx hy hg hg1 q
    · simp [mch_d1, mch_d2, h5, hs0, f1, f2]
      rw [eqv_isnil]
      have he' : (m.fields.map fieldD).isEmpty = false := by
        cases hh : m.fields with
        | nil => exact absurd hh he
        | cons p r => rfl
      refine Or.inr ⟨he', ?_⟩
      have hl : 0 < (m.fields.map fieldD).length := by
        rw [List.length_map]
        exact List.length_pos_iff.2 he
      refine of_tup hl (by rw [List.length_map]; exact Nat.lt_of_le_of_lt ok.nl (by decide)) (by omega) fun d g' hd hg' => ?_
      obtain ⟨p, hp, rfl⟩ := List.mem_map.1 hd
      simp [fieldD, at_0]
      exact q _ _ ⟨.field (x - 2) (y - 2) p.1, .cons (.place hx) (.cons (.place hy) (.cons (.name (List.mem_map_of_mem hp)) .nil)), rfl⟩ (by omega)
  · by_cases h8 : w < 8
    · simp [mch_d1, mch_d2, h5, h8]
      exact cmd_box hx hy hg hg1 q
    · by_cases h10 : w < 10
      · simp [mch_d1, mch_d2, h5, h8, h10]
        refine of_list (by simp) (by simp) (by omega) fun d g' hd hg' => ?_
        simp at hd
        rcases hd with rfl | rfl
        · exact q _ _ ⟨.home (x - 2) (y - 2), .cons (.place hx) (.cons (.place hy) .nil), rfl⟩ (by omega)
        · exact q _ _ ⟨.move (x - 2) (y - 2), .cons (.place hx) (.cons (.place hy) .nil), rfl⟩ (by omega)
      · simp [mch_d1, mch_d2, h5, h8, h10]
        refine next_of (by omega) (by omega) (by omega) fun k1 c1 e1 => ?_
        try simp
        refine next_of (by omega) (by omega) (by omega) fun k2 c2 e2 => ?_
        try simp
        refine next_of (by omega) (by omega) (by omega) fun k3 c3 e3 => ?_
        try simp
        refine of_list (by simp) (by simp) (by omega) fun d g' hd hg' => ?_
        simp at hd
        rcases hd with rfl | rfl | rfl | rfl | rfl | rfl
        · exact q _ _ ⟨.turn k1, .cons (.turn (by omega)) .nil, rfl⟩ (by omega)
        · exact q _ _ ⟨.font k2, .cons (.font (by omega)) .nil, rfl⟩ (by omega)
        · exact q _ _ ⟨.scale (1 + k3), .cons (.scale (by omega)) .nil, rfl⟩ (by omega)
        · exact q _ _ ⟨.ink "set", .cons (.ink (Or.inl rfl)) .nil, rfl⟩ (by omega)
        · exact q _ _ ⟨.ink "flip", .cons (.ink (Or.inr rfl)) .nil, rfl⟩ (by omega)
        · exact q _ _ ⟨.plain, .nil, rfl⟩ (by omega)
/-! ### _law_steps -/
def tb__law_steps : TSt := (xRet (xCB (xaCons (xComp (xiRng1 (xaCons (xCall (xaTok 0 (xaCons (xBin (xVar 2) (xC (.int 1)) oAdd) xaNil)) pt__law_next) xaNil)) (yName 3) xYes (xCall (xaTok 0 (xaCons (xVar 1) xaNil)) pt__law_command) [3]) xaNil) cTup))
abbrev pt__law_steps : PT' := ptG (fun a : Mch × Int => [.tok, .v a.1.d, .v (.int a.2)]) (fun a => a.1.Ok ∧ 0 ≤ a.2 ∧ a.2 ≤ 60) (fun a => 421) fun a d => ∃ cs : List Cmd, (∀ c ∈ cs, c.Ok a.1) ∧ cs.length ≤ 60 ∧ d = .tuple (cs.map Cmd.d)
abbrev pt__law_steps_mo := @ptG_mo _ (fun a : Mch × Int => [.tok, .v a.1.d, .v (.int a.2)]) (fun a => a.1.Ok ∧ 0 ≤ a.2 ∧ a.2 ≤ 60) (fun a => 421) fun a d => ∃ cs : List Cmd, (∀ c ∈ cs, c.Ok a.1) ∧ cs.length ≤ 60 ∧ d = .tuple (cs.map Cmd.d)
def CmdR (m : Mch) (_ d : PyData) : Prop := ∃ c : Cmd, c.Ok m ∧ d = c.d
theorem cmds_of {m : Mch} {ds l : List PyData} (h : Rel2 (CmdR m) ds l) : ∃ cs : List Cmd, l = cs.map Cmd.d ∧ ∀ c ∈ cs, c.Ok m := by
  induction h with
  | nil => exact ⟨[], rfl, fun p hp => by cases hp⟩
  | cons hr _ ih =>
    obtain ⟨c, hc, rfl⟩ := hr
    obtain ⟨cs, rfl, hf⟩ := ih
    exact ⟨c :: cs, rfl, fun q hq => by
      rcases List.mem_cons.1 hq with e | e
      · subst e; exact hc
      · exact hf q e⟩
theorem sp__law_steps : ∀ ss g Q, ss.length = 3 → pt__law_steps ss g Q → tb__law_steps { nx := fun _ g' => Q .none g', rt := Q } (envOf n__law_steps ss) g := by
  rintro ss g Q _ ⟨⟨m, n⟩, rfl, ⟨ok, n0, n1⟩, hg, q⟩
  simp only at hg q n0 n1
  simp [tb__law_steps, -compT]
  refine next_of (by omega) (by omega) (by omega) fun k a b => ?_
  simp [-compT]
  have hk : k.toNat ≤ 60 := by omega
  refine ⟨by omega, by omega, by rw [rangeD_len]; exact Nat.le_trans hk (by decide +kernel), ?_⟩
  refine compT_all (c := 7) (R := CmdR m) _ _ _ _ _ (by rw [rangeD_len]; omega) (fun d hd g1 hg1 k k' hk => ?_) fun l g1 hl hg1 => ?_
  · simp
    exact ⟨m, rfl, ok, hg1, fun d g' ⟨c, hc, e⟩ h => hk d g' ⟨c, hc, e⟩ h⟩
  rw [rangeD_len] at hg1
  have hll := hl.len
  rw [rangeD_len] at hll
  obtain ⟨cs, rfl, hcs⟩ := cmds_of hl
  rw [List.length_map] at hll
  exact q _ _ ⟨cs, hcs, by omega, rfl⟩ (by omega)
end TL

namespace TL
open PySem PySem.Spec PyProof.Rows L2 RZ

/-! ### _law_begun -/

/-! ### the law, behind its first statement -/
def tb_law : TSt := (xSeq (xFor (xiRng1 (xaCons (xBin (xC (.int 6)) (xCB (xaCons (xCB (xaCons (xVar 0) xaNil) cLen) (xaCons (xC (.int 10)) xaNil)) cMin) oAdd) xaNil)) (yName 2)
    (xSeq (xAsg (xCall (xaTok 1 (xaCons (xC (.int 9)) (xaCons (xC (.int 7)) xaNil))) pt__law_machine) (yName 3))
    (xSeq (xPar3o 4 5 6 (xCall (xaTok 1 (xaCons (xVar 3) xaNil)) pt__law_settings) (xCall (xaTok 1 (xaCons (xVar 3) (xaCons (xC (.int 9)) xaNil))) pt__law_steps))
    (xSeq (xAsg (xVar 4) (yName 7))
    (xSeq (xFor (xiTup (xVar 5)) (yName 8)
    (xSeq (xApp 6 (xCall (xaCons (xVar 3) (xaCons (xVar 7) (xaCons (xVar 8) xaNil))) pt__law_cut_of))
    (xAsg (xCall (xaCons (xVar 7) (xaCons (xVar 8) xaNil)) pt__law_after) (yName 7))))
    (xFrz 6 (xIfS (xTest (xBin (xCB (xaCons (xLst (xaCons (xCall (xaCons (xVar 3) (xaCons (xVar 4) (xaCons (xVar 5) xaNil))) pt_cuts) (xaCons (xCall (xaCons (xVar 3) (xaCons (xVar 4) (xaCons (xVar 5) xaNil))) pt_cuts) xaNil))) xaNil) cRepr) (xCB (xaCons (xLst (xaCons (xCB (xaCons (xVar 6) xaNil) cTup) (xaCons (xCB (xaCons (xVar 6) xaNil) cTup) xaNil))) xaNil) cRepr) oNeS))
    (xRet (xC (.bool false)))
    xNext)))))))
    (xSeq (xAsg (xTup (xaCons (xTup (xaCons (xC (.int 5)) (xaCons (xC (.int 3)) xaNil))) (xaCons (xTup (xaCons (xTup (xaCons (xC (.int 2)) (xaCons (xC (.int 2)) xaNil))) xaNil)) (xaCons (xTup (xaCons (xTup (xaCons (xC (.str "A")) (xaCons (xC (.int 4)) xaNil))) xaNil)) xaNil)))) (yName 3))
    (xSeq (xAsg (xTup (xaCons (xTup (xaCons (xC (.str "field")) (xaCons (xC (.int 0)) (xaCons (xC (.int 0)) (xaCons (xC (.str "A")) xaNil))))) (xaCons (xTup (xaCons (xC (.str "scale")) (xaCons (xC (.int 2)) xaNil))) (xaCons (xTup (xaCons (xC (.str "field")) (xaCons (xC (.int 0)) (xaCons (xC (.int 0)) (xaCons (xC (.str "A")) xaNil))))) (xaCons (xTup (xaCons (xC (.str "turn")) (xaCons (xC (.int 1)) xaNil))) xaNil))))) (yName 5))
    (xSeq (xAsg (xBin (xVar 5) (xTup (xaCons (xTup (xaCons (xC (.str "box")) (xaCons (xC (.int 0)) (xaCons (xC (.int 0)) (xaCons (xC (.int 1)) (xaCons (xC (.int 1)) xaNil)))))) (xaCons (xTup (xaCons (xC (.str "clear")) (xaCons (xC (.int 0)) (xaCons (xC (.int 1)) (xaCons (xC (.int 2)) (xaCons (xC (.int 2)) xaNil)))))) xaNil))) oAdd) (yName 5))
    (xSeq (xIfS (xTest (xBin (xCall (xaCons (xVar 3) (xaCons (xTup (xaCons (xC (.int 0)) (xaCons (xC (.int 0)) (xaCons (xC (.int 0)) (xaCons (xC (.int 0)) (xaCons (xC (.int 1)) (xaCons (xC (.str "set")) xaNil))))))) (xaCons (xVar 5) xaNil))) pt_cuts) (xTup (xaCons (xC (.int 3)) (xaCons (xC .none) (xaCons (xC (.int 1)) (xaCons (xC .none) (xaCons (xC .none) (xaCons (xC (.int 1)) xaNil))))))) oNe))
    (xRet (xC (.bool false)))
    xNext)
    (xSeq (xAsg (xTup (xaCons (xTup (xaCons (xC (.str "field")) (xaCons (xC (.int 0)) (xaCons (xC (.int 0)) (xaCons (xC (.str "A")) xaNil))))) (xaCons (xTup (xaCons (xC (.str "field")) (xaCons (xC (.int 0)) (xaCons (xC (.int 4)) (xaCons (xC (.str "A")) xaNil))))) (xaCons (xTup (xaCons (xC (.str "plain")) xaNil)) xaNil)))) (yName 5))
    (xRet (xBin (xCall (xaCons (xVar 3) (xaCons (xTup (xaCons (xC (.int 4)) (xaCons (xC (.int 0)) (xaCons (xC (.int 1)) (xaCons (xC (.int 0)) (xaCons (xC (.int 1)) (xaCons (xC (.str "set")) xaNil))))))) (xaCons (xVar 5) xaNil))) pt_cuts) (xTup (xaCons (xC (.int 2)) (xaCons (xC (.int 1)) (xaCons (xC .none) xaNil)))) oEq))))))))
end TL

namespace TL
open PySem PySem.Spec PyProof.Rows L2 RZ
def inLab (m : Mch) (p : Int × Int) : Prop := 0 ≤ p.1 ∧ p.1 < m.wide ∧ 0 ≤ p.2 ∧ p.2 < m.high
theorem isOut_iff (m : Mch) (p : Int × Int) (src : PyData) : isOut m (fstD (ptD p src)) = true ↔ ¬ inLab m p := by
  simp [isOut, fstD, ptD, inLab]
  omega
theorem lawOut_iff (m : Mch) (s : Stg) (c : Cmd) (n : Int) : lawOut m s c n = true ↔ ∃ p src, ptD p src ∈ lawPts m s c n ∧ ¬ inLab m p := by
  unfold lawOut
  rw [List.any_eq_true]
  refine ⟨fun ⟨d, hd, ho⟩ => ?_, fun ⟨p, src, hd, ho⟩ => ⟨_, hd, (isOut_iff m p src).2 ho⟩⟩
  obtain ⟨p, src, rfl⟩ := law_pts d hd
  exact ⟨p, src, hd, (isOut_iff m p src).1 ho⟩
theorem ptD_inj {p q : Int × Int} {a b : PyData} (h : ptD p a = ptD q b) : p = q ∧ a = b := by
  cases p; cases q
  simp [ptD] at h
  simp [h]
/-- the points of a drawing command: a box of dots, told by its two corners -/
theorem pts_box {m : Mch} {s : Stg} {c : Cmd} {n : Int} (ok : m.Ok) (hs : s.Ok m) (hc : c.Ok m) (hd : c.drawn = true) (n1 : 1 ≤ n) :
    (1 ≤ (extR m s c n).1 ∧ 1 ≤ (extR m s c n).2) ∧
    (∀ p src, ptD p src ∈ lawPts m s c n → ∃ i j, (0 ≤ i ∧ i < (extR m s c n).1) ∧ (0 ≤ j ∧ j < (extR m s c n).2) ∧ p = dotR s (c.px + i) (c.py + j)) ∧
    (∃ src, ptD (dotR s c.px c.py) src ∈ lawPts m s c n) ∧
    ∃ src, ptD (dotR s (c.px + (extR m s c n).1 - 1) (c.py + (extR m s c n).2 - 1)) src ∈ lawPts m s c n := by
  have bx : ∀ x y a b : Int, (1 ≤ a ∧ a ≤ 40) → (1 ≤ b ∧ b ≤ 40) → (1 ≤ a ∧ 1 ≤ b) ∧
      (∀ p src, ptD p src ∈ boxPts s x y a b → ∃ i j, (0 ≤ i ∧ i < a) ∧ (0 ≤ j ∧ j < b) ∧ p = dotR s (x + i) (y + j)) ∧
      (∃ src, ptD (dotR s x y) src ∈ boxPts s x y a b) ∧ ∃ src, ptD (dotR s (x + a - 1) (y + b - 1)) src ∈ boxPts s x y a b := by
    intro x y a b ha hb
    refine ⟨⟨ha.1, hb.1⟩, fun p src h => ?_, ⟨.tuple [], ?_⟩, ⟨.tuple [], ?_⟩⟩
    · obtain ⟨i, i0, i1, h⟩ := flatI_mem.1 h
      obtain ⟨j, j0, j1, h⟩ := flatI_mem.1 h
      exact ⟨i, j, ⟨i0, by omega⟩, ⟨j0, by omega⟩, (ptD_inj (List.mem_singleton.1 h)).1⟩
    · refine flatI_mem.2 ⟨0, by omega, by omega, flatI_mem.2 ⟨0, by omega, by omega, List.mem_singleton.2 ?_⟩⟩
      rw [Int.add_zero, Int.add_zero]
    · refine flatI_mem.2 ⟨a - 1, by omega, by omega, flatI_mem.2 ⟨b - 1, by omega, by omega, List.mem_singleton.2 ?_⟩⟩
      rw [← Int.add_sub_assoc, ← Int.add_sub_assoc]
  cases c with
  | box x y a b => exact bx x y a b (length_inv (PartsOk.hd (PartsOk.tl (PartsOk.tl hc)))) (length_inv (PartsOk.hd (PartsOk.tl (PartsOk.tl (PartsOk.tl hc)))))
  | clear x y a b => exact bx x y a b (length_inv (PartsOk.hd (PartsOk.tl (PartsOk.tl hc)))) (length_inv (PartsOk.hd (PartsOk.tl (PartsOk.tl (PartsOk.tl hc)))))
  | field x y z =>
    have fb := font_bd ok hs.font
    have sb := hs.scale
    have c1 : 0 < (m.fontAt s.font).1 * n := Int.mul_pos (by omega) (by omega)
    have e1 : n * (m.fontAt s.font).1 = (m.fontAt s.font).1 * n := Int.mul_comm _ _
    simp only [extR, lawPts, fieldPts, Cmd.px, Cmd.py]
    rw [e1]
    generalize (m.fontAt s.font).1 * n = C at *
    generalize (m.fontAt s.font).2 = T at *
    have hsc : s.scale = 1 ∨ s.scale = 2 ∨ s.scale = 3 := by omega
    generalize s.scale = sc at *
    rcases hsc with rfl | rfl | rfl
    all_goals
      refine ⟨⟨by omega, by omega⟩, fun p src h => ?_, ⟨.tuple [.str z, .int s.font, .int 0, .int 0], ?_⟩, ⟨.tuple [.str z, .int s.font, .int (C - 1), .int (T - 1)], ?_⟩⟩
    all_goals first
      | (obtain ⟨i, i0, i1, h⟩ := flatI_mem.1 h
         obtain ⟨j, j0, j1, h⟩ := flatI_mem.1 h
         obtain ⟨k, k0, k1, h⟩ := flatI_mem.1 h
         have e := (ptD_inj (List.mem_singleton.1 h)).1
         first
           | exact ⟨i * 1 + k / 1, j * 1 + k % 1, ⟨by omega, by omega⟩, ⟨by omega, by omega⟩, by rw [e]; congr 1 <;> omega⟩
           | exact ⟨i * 2 + k / 2, j * 2 + k % 2, ⟨by omega, by omega⟩, ⟨by omega, by omega⟩, by rw [e]; congr 1 <;> omega⟩
           | exact ⟨i * 3 + k / 3, j * 3 + k % 3, ⟨by omega, by omega⟩, ⟨by omega, by omega⟩, by rw [e]; congr 1 <;> omega⟩)
      | (refine flatI_mem.2 ⟨0, by omega, by omega, flatI_mem.2 ⟨0, by omega, by omega, flatI_mem.2 ⟨0, by omega, by decide, List.mem_singleton.2 ?_⟩⟩⟩
         simp
         done)
      | (refine flatI_mem.2 ⟨C - 1, by omega, by omega, flatI_mem.2 ⟨T - 1, by omega, by omega, flatI_mem.2 ⟨0, by omega, by decide, List.mem_singleton.2 ?_⟩⟩⟩
         congr 2 <;> omega)
      | (refine flatI_mem.2 ⟨C - 1, by omega, by omega, flatI_mem.2 ⟨T - 1, by omega, by omega, flatI_mem.2 ⟨3, by omega, by decide, List.mem_singleton.2 ?_⟩⟩⟩
         congr 2 <;> omega)
      | (refine flatI_mem.2 ⟨C - 1, by omega, by omega, flatI_mem.2 ⟨T - 1, by omega, by omega, flatI_mem.2 ⟨8, by omega, by decide, List.mem_singleton.2 ?_⟩⟩⟩
         congr 2 <;> omega)
  | _ => cases hd
theorem lap_some {l t r b w h : Int} (e : lapR (l, t, r, b) (0, 0, w - 1, h - 1) = some (l, t, r, b)) : mx l 0 = l ∧ mx t 0 = t ∧ mn r (w - 1) = r ∧ mn b (h - 1) = b := by
  unfold lapR at e
  by_cases q : mn r (w - 1) < mx l 0 ∨ mn b (h - 1) < mx t 0
  · rw [if_pos q] at e
    cases e
  · rw [if_neg q] at e
    have e2 := Option.some.inj e
    simp only [Prod.mk.injEq] at e2
    exact e2
theorem lap_in {l t r b w h : Int} (lr : l ≤ r) (tb : t ≤ b) : (lapR (l, t, r, b) (0, 0, w - 1, h - 1) != some (l, t, r, b)) = true ↔ ¬ (0 ≤ l ∧ 0 ≤ t ∧ r < w ∧ b < h) := by
  by_cases h1 : 0 ≤ l ∧ 0 ≤ t ∧ r < w ∧ b < h
  · unfold lapR mx mn
    have e : (if (if w - 1 < r then w - 1 else r) < (if l < 0 then 0 else l) ∨ (if h - 1 < b then h - 1 else b) < (if t < 0 then 0 else t) then none else some ((if l < 0 then (0 : Int) else l), (if t < 0 then (0 : Int) else t), (if w - 1 < r then w - 1 else r), (if h - 1 < b then h - 1 else b))) = some (l, t, r, b) := by
      have a1 : ¬ w - 1 < r := by omega
      have a2 : ¬ h - 1 < b := by omega
      have a3 : ¬ l < 0 := by omega
      have a4 : ¬ t < 0 := by omega
      rw [if_neg a1, if_neg a2, if_neg a3, if_neg a4]
      exact if_neg (by omega)
    simp only [e]
    simp [h1]
  · refine ⟨fun _ => h1, fun _ => ?_⟩
    rw [bne_iff_ne]
    intro e
    apply h1
    obtain ⟨e3, e4, e5, e6⟩ := lap_some e
    unfold mx at e3 e4
    unfold mn at e5 e6
    refine ⟨?_, ?_, ?_, ?_⟩
    · split at e3 <;> omega
    · split at e4 <;> omega
    · split at e5 <;> omega
    · split at e6 <;> omega
theorem dot_mid {s : Stg} {x y i j W H : Int} (hi : 0 ≤ i ∧ i < W) (hj : 0 ≤ j ∧ j < H) :
    (mn (dotR s x y).1 (dotR s (x + W - 1) (y + H - 1)).1 ≤ (dotR s (x + i) (y + j)).1 ∧ (dotR s (x + i) (y + j)).1 ≤ mx (dotR s x y).1 (dotR s (x + W - 1) (y + H - 1)).1) ∧
    mn (dotR s x y).2 (dotR s (x + W - 1) (y + H - 1)).2 ≤ (dotR s (x + i) (y + j)).2 ∧ (dotR s (x + i) (y + j)).2 ≤ mx (dotR s x y).2 (dotR s (x + W - 1) (y + H - 1)).2 := by
  unfold dotR mn mx
  by_cases h0 : s.turn = 0
  · simp only [h0, if_true]
    refine ⟨⟨?_, ?_⟩, ?_, ?_⟩ <;> split <;> omega
  · by_cases h1 : s.turn = 1
    · simp only [h0, h1, if_true, if_false]
      refine ⟨⟨?_, ?_⟩, ?_, ?_⟩ <;> simp <;> split <;> omega
    · by_cases h2 : s.turn = 2
      · simp only [h0, h1, h2, if_true, if_false]
        refine ⟨⟨?_, ?_⟩, ?_, ?_⟩ <;> simp <;> split <;> omega
      · simp only [h0, h1, h2, if_true, if_false]
        refine ⟨⟨?_, ?_⟩, ?_, ?_⟩ <;> split <;> omega
theorem mn_le (a b : Int) : mn a b ≤ mx a b := by unfold mn mx; split <;> split <;> omega
theorem mn_or (a b : Int) : mn a b = a ∨ mn a b = b := by unfold mn; split <;> simp
theorem mx_or (a b : Int) : mx a b = a ∨ mx a b = b := by unfold mx; split <;> simp
theorem out_cut {m : Mch} {s : Stg} {c : Cmd} {n : Int} (ok : m.Ok) (hs : s.Ok m) (hc : c.Ok m) (hd : c.drawn = true) (n1 : 1 ≤ n) : lawOut m s c n = isCut m s c n := by
  obtain ⟨⟨w1, h1⟩, inn, ⟨s1, m1⟩, ⟨s2, m2⟩⟩ := pts_box ok hs hc hd n1
  rw [Bool.eq_iff_iff, lawOut_iff]
  unfold isCut seeR reachR
  simp only []
  rw [lap_in (mn_le _ _) (mn_le _ _)]
  refine ⟨fun ⟨p, src, hm, ho⟩ hin => ?_, fun hno => ?_⟩
  · obtain ⟨i, j, hi, hj, rfl⟩ := inn p src hm
    obtain ⟨⟨a1, a2⟩, a3, a4⟩ := dot_mid (s := s) (x := c.px) (y := c.py) hi hj
    exact ho ⟨by omega, by omega, by omega, by omega⟩
  · by_cases ha : inLab m (dotR s c.px c.py)
    · refine ⟨_, s2, m2, fun hb => hno ?_⟩
      obtain ⟨a1, a2, a3, a4⟩ := ha
      obtain ⟨b1, b2, b3, b4⟩ := hb
      refine ⟨?_, ?_, ?_, ?_⟩
      · rcases mn_or (dotR s c.px c.py).1 (dotR s (c.px + (extR m s c n).1 - 1) (c.py + (extR m s c n).2 - 1)).1 with e | e <;> rw [e] <;> assumption
      · rcases mn_or (dotR s c.px c.py).2 (dotR s (c.px + (extR m s c n).1 - 1) (c.py + (extR m s c n).2 - 1)).2 with e | e <;> rw [e] <;> assumption
      · rcases mx_or (dotR s c.px c.py).1 (dotR s (c.px + (extR m s c n).1 - 1) (c.py + (extR m s c n).2 - 1)).1 with e | e <;> rw [e] <;> assumption
      · rcases mx_or (dotR s c.px c.py).2 (dotR s (c.px + (extR m s c n).1 - 1) (c.py + (extR m s c n).2 - 1)).2 with e | e <;> rw [e] <;> assumption
    · exact ⟨_, s1, m1, ha⟩
theorem first_congr {p q : Int → Bool} : ∀ (n : Nat) (i : Int), (∀ j, i ≤ j → p j = q j) → firstFrom p n i = firstFrom q n i
  | 0, _, _ => rfl
  | n + 1, i, h => by
    unfold firstFrom
    rw [h i (by omega), first_congr n (i + 1) fun j hj => h j (by omega)]
theorem first_ff : ∀ (n : Nat) (i : Int), firstFrom (fun _ => false) n i = none
  | 0, _ => rfl
  | n + 1, i => by simp [firstFrom, first_ff n]
theorem law_cut {m : Mch} {s : Stg} {c : Cmd} (ok : m.Ok) (hs : s.Ok m) (hc : c.Ok m) : lawCut m s c = leastCut m s c := by
  unfold lawCut leastCut
  by_cases hd : c.drawn = true
  · rw [if_pos hd]
    exact first_congr _ _ fun j hj => out_cut ok hs hc hd hj
  · rw [if_neg hd]
    have e : ∀ n, lawOut m s c n = false := fun n => by
      cases c <;> first | rfl | exact absurd rfl hd
    rw [first_congr (q := fun _ => false) _ _ fun j _ => e j, first_ff]
end TL

namespace TL
open PySem PySem.Spec PyProof.Rows L2 RZ

def topS (i : Nat) : Stmt := PySem.Challenge.pw_labelhouse_k59_whole_cuts.main.body.getD i (.Pass ⟨0, 0, 0, 0⟩)
abbrev s_is_row : Stmt := topS 15
theorem sc_is_row : FnScope n_is_row ["value", "many"] (defScope s_is_row) := ⟨rfl, rfl, rfl, by decide +kernel, rfl, by decide +kernel, by decide +kernel⟩
abbrev s_is_whole : Stmt := topS 13
theorem sc_is_whole : FnScope n_is_whole ["value"] (defScope s_is_whole) := ⟨rfl, rfl, rfl, by decide +kernel, rfl, by decide +kernel, by decide +kernel⟩
abbrev s_is_between : Stmt := topS 14
theorem sc_is_between : FnScope n_is_between ["value", "low", "high"] (defScope s_is_between) := ⟨rfl, rfl, rfl, by decide +kernel, rfl, by decide +kernel, by decide +kernel⟩
abbrev s_is_size : Stmt := topS 27
theorem sc_is_size : FnScope n_is_size ["value"] (defScope s_is_size) := ⟨rfl, rfl, rfl, by decide +kernel, rfl, by decide +kernel, by decide +kernel⟩
abbrev s_is_font : Stmt := topS 28
theorem sc_is_font : FnScope n_is_font ["value"] (defScope s_is_font) := ⟨rfl, rfl, rfl, by decide +kernel, rfl, by decide +kernel, by decide +kernel⟩
abbrev s_are_fonts : Stmt := topS 29
theorem sc_are_fonts : FnScope n_are_fonts ["value"] (defScope s_are_fonts) := ⟨rfl, rfl, rfl, by decide +kernel, rfl, by decide +kernel, by decide +kernel⟩
abbrev s_is_one_of : Stmt := topS 16
theorem sc_is_one_of : FnScope n_is_one_of ["value", "words"] (defScope s_is_one_of) := ⟨rfl, rfl, rfl, by decide +kernel, rfl, by decide +kernel, by decide +kernel⟩
abbrev s_is_field : Stmt := topS 30
theorem sc_is_field : FnScope n_is_field ["value"] (defScope s_is_field) := ⟨rfl, rfl, rfl, by decide +kernel, rfl, by decide +kernel, by decide +kernel⟩
abbrev s_are_fields : Stmt := topS 31
theorem sc_are_fields : FnScope n_are_fields ["value"] (defScope s_are_fields) := ⟨rfl, rfl, rfl, by decide +kernel, rfl, by decide +kernel, by decide +kernel⟩
abbrev s_need_machine : Stmt := topS 32
theorem sc_need_machine : FnScope n_need_machine ["thing"] (defScope s_need_machine) := ⟨rfl, rfl, rfl, by decide +kernel, rfl, by decide +kernel, by decide +kernel⟩
abbrev s_is_part : Stmt := topS 33
theorem sc_is_part : FnScope n_is_part ["machine", "kind", "value"] (defScope s_is_part) := ⟨rfl, rfl, rfl, by decide +kernel, rfl, by decide +kernel, by decide +kernel⟩
abbrev s_are_parts : Stmt := topS 34
theorem sc_are_parts : FnScope n_are_parts ["machine", "kinds", "value"] (defScope s_are_parts) := ⟨rfl, rfl, rfl, by decide +kernel, rfl, by decide +kernel, by decide +kernel⟩
abbrev s_is_settings : Stmt := topS 36
theorem sc_is_settings : FnScope n_is_settings ["machine", "value"] (defScope s_is_settings) := ⟨rfl, rfl, rfl, by decide +kernel, rfl, by decide +kernel, by decide +kernel⟩
abbrev s_need_settings : Stmt := topS 37
theorem sc_need_settings : FnScope n_need_settings ["machine", "settings"] (defScope s_need_settings) := ⟨rfl, rfl, rfl, by decide +kernel, rfl, by decide +kernel, by decide +kernel⟩
abbrev s_fits_command : Stmt := topS 35
theorem sc_fits_command : FnScope n_fits_command ["machine", "value"] (defScope s_fits_command) := ⟨rfl, rfl, rfl, by decide +kernel, rfl, by decide +kernel, by decide +kernel⟩
abbrev s_need_program : Stmt := topS 38
theorem sc_need_program : FnScope n_need_program ["machine", "program"] (defScope s_need_program) := ⟨rfl, rfl, rfl, by decide +kernel, rfl, by decide +kernel, by decide +kernel⟩
abbrev s_need_start : Stmt := topS 39
theorem sc_need_start : FnScope n_need_start ["machine", "settings", "program"] (defScope s_need_start) := ⟨rfl, rfl, rfl, by decide +kernel, rfl, by decide +kernel, by decide +kernel⟩
abbrev s_overlap : Stmt := topS 3
theorem sc_overlap : FnScope n_overlap ["one", "other"] (defScope s_overlap) := ⟨rfl, rfl, rfl, by decide +kernel, rfl, by decide +kernel, by decide +kernel⟩
abbrev s_extent : Stmt := topS 5
theorem sc_extent : FnScope n_extent ["machine", "settings", "command", "signs"] (defScope s_extent) := ⟨rfl, rfl, rfl, by decide +kernel, rfl, by decide +kernel, by decide +kernel⟩
abbrev s_dot_of : Stmt := topS 1
theorem sc_dot_of : FnScope n_dot_of ["settings", "point"] (defScope s_dot_of) := ⟨rfl, rfl, rfl, by decide +kernel, rfl, by decide +kernel, by decide +kernel⟩
abbrev s_reach : Stmt := topS 6
theorem sc_reach : FnScope n_reach ["machine", "settings", "command", "signs"] (defScope s_reach) := ⟨rfl, rfl, rfl, by decide +kernel, rfl, by decide +kernel, by decide +kernel⟩
abbrev s_label_area : Stmt := topS 2
theorem sc_label_area : FnScope n_label_area ["machine"] (defScope s_label_area) := ⟨rfl, rfl, rfl, by decide +kernel, rfl, by decide +kernel, by decide +kernel⟩
abbrev s_visible : Stmt := topS 7
theorem sc_visible : FnScope n_visible ["machine", "settings", "command", "signs"] (defScope s_visible) := ⟨rfl, rfl, rfl, by decide +kernel, rfl, by decide +kernel, by decide +kernel⟩
abbrev s_is_cut : Stmt := topS 43
theorem sc_is_cut : FnScope n_is_cut ["machine", "settings", "command", "signs"] (defScope s_is_cut) := ⟨rfl, rfl, rfl, by decide +kernel, rfl, by decide +kernel, by decide +kernel⟩
abbrev s_signs_of : Stmt := topS 4
theorem sc_signs_of : FnScope n_signs_of ["machine", "command"] (defScope s_signs_of) := ⟨rfl, rfl, rfl, by decide +kernel, rfl, by decide +kernel, by decide +kernel⟩
abbrev s_least_cut : Stmt := topS 44
theorem sc_least_cut : FnScope n_least_cut ["machine", "settings", "command"] (defScope s_least_cut) := ⟨rfl, rfl, rfl, by decide +kernel, rfl, by decide +kernel, by decide +kernel⟩
abbrev s_settings_after : Stmt := topS 40
theorem sc_settings_after : FnScope n_settings_after ["settings", "command"] (defScope s_settings_after) := ⟨rfl, rfl, rfl, by decide +kernel, rfl, by decide +kernel, by decide +kernel⟩
abbrev s_steps : Stmt := topS 41
theorem sc_steps : FnScope n_steps ["settings", "program"] (defScope s_steps) := ⟨rfl, rfl, rfl, by decide +kernel, rfl, by decide +kernel, by decide +kernel⟩
abbrev s_cuts : Stmt := topS 45
theorem sc_cuts : FnScope n_cuts ["machine", "settings", "program"] (defScope s_cuts) := ⟨rfl, rfl, rfl, by decide +kernel, rfl, by decide +kernel, by decide +kernel⟩
abbrev s__law_after : Stmt := topS 54
theorem sc__law_after : FnScope n__law_after ["state", "command"] (defScope s__law_after) := ⟨rfl, rfl, rfl, by decide +kernel, rfl, by decide +kernel, by decide +kernel⟩
abbrev s__law_spot : Stmt := topS 55
theorem sc__law_spot : FnScope n__law_spot ["state", "px", "py"] (defScope s__law_spot) := ⟨rfl, rfl, rfl, by decide +kernel, rfl, by decide +kernel, by decide +kernel⟩
abbrev s__law_reached : Stmt := topS 56
theorem sc__law_reached : FnScope n__law_reached ["unit", "state", "command", "signs"] (defScope s__law_reached) := ⟨rfl, rfl, rfl, by decide +kernel, rfl, by decide +kernel, by decide +kernel⟩
abbrev s__law_most : Stmt := topS 57
theorem sc__law_most : FnScope n__law_most ["unit", "command"] (defScope s__law_most) := ⟨rfl, rfl, rfl, by decide +kernel, rfl, by decide +kernel, by decide +kernel⟩
abbrev s__law_cut_of : Stmt := topS 58
theorem sc__law_cut_of : FnScope n__law_cut_of ["unit", "state", "command"] (defScope s__law_cut_of) := ⟨rfl, rfl, rfl, by decide +kernel, rfl, by decide +kernel, by decide +kernel⟩
abbrev s__law_next : Stmt := topS 48
theorem sc__law_next : FnScope n__law_next ["m", "total"] (defScope s__law_next) := ⟨rfl, rfl, rfl, by decide +kernel, rfl, by decide +kernel, by decide +kernel⟩
abbrev s__law_machine : Stmt := topS 50
theorem sc__law_machine : FnScope n__law_machine ["m", "wide", "tall"] (defScope s__law_machine) := ⟨rfl, rfl, rfl, by decide +kernel, rfl, by decide +kernel, by decide +kernel⟩
abbrev s__law_of : Stmt := topS 49
theorem sc__law_of : FnScope n__law_of ["m", "some"] (defScope s__law_of) := ⟨rfl, rfl, rfl, by decide +kernel, rfl, by decide +kernel, by decide +kernel⟩
abbrev s__law_settings : Stmt := topS 51
theorem sc__law_settings : FnScope n__law_settings ["m", "unit"] (defScope s__law_settings) := ⟨rfl, rfl, rfl, by decide +kernel, rfl, by decide +kernel, by decide +kernel⟩
abbrev s__law_command : Stmt := topS 52
theorem sc__law_command : FnScope n__law_command ["m", "unit"] (defScope s__law_command) := ⟨rfl, rfl, rfl, by decide +kernel, rfl, by decide +kernel, by decide +kernel⟩
abbrev s__law_steps : Stmt := topS 53
theorem sc__law_steps : FnScope n__law_steps ["m", "unit", "most"] (defScope s__law_steps) := ⟨rfl, rfl, rfl, by decide +kernel, rfl, by decide +kernel, by decide +kernel⟩
abbrev s__law_begun : Stmt := topS 47
theorem sc__law_begun : FnScope n__law_begun ["script"] (defScope s__law_begun) := ⟨rfl, rfl, rfl, by decide +kernel, rfl, by decide +kernel, by decide +kernel⟩
abbrev s_law : Stmt := topS 59
theorem sc_law : FnScope n_law ["script"] (defScope s_law) := ⟨rfl, rfl, rfl, by decide +kernel, rfl, by decide +kernel, by decide +kernel⟩
/-- what the top has left -/
structure Tp (K : PySem.W.Frag) (w : World) (mg : Str → Option Value) where
  f_is_row : Addr
  fd_is_row : FuncData
  F_is_row : Fun K "is_row" "is_row" s_is_row f_is_row fd_is_row
  g_is_row : mg "is_row" = some (.ref f_is_row)
  b_is_row : Binds K fd_is_row ["value", "many"] []
  f_is_whole : Addr
  fd_is_whole : FuncData
  F_is_whole : Fun K "is_whole" "is_whole" s_is_whole f_is_whole fd_is_whole
  g_is_whole : mg "is_whole" = some (.ref f_is_whole)
  b_is_whole : Binds K fd_is_whole ["value"] []
  f_is_between : Addr
  fd_is_between : FuncData
  F_is_between : Fun K "is_between" "is_between" s_is_between f_is_between fd_is_between
  g_is_between : mg "is_between" = some (.ref f_is_between)
  b_is_between : Binds K fd_is_between ["value", "low", "high"] []
  f_is_size : Addr
  fd_is_size : FuncData
  F_is_size : Fun K "is_size" "is_size" s_is_size f_is_size fd_is_size
  g_is_size : mg "is_size" = some (.ref f_is_size)
  b_is_size : Binds K fd_is_size ["value"] []
  f_is_font : Addr
  fd_is_font : FuncData
  F_is_font : Fun K "is_font" "is_font" s_is_font f_is_font fd_is_font
  g_is_font : mg "is_font" = some (.ref f_is_font)
  b_is_font : Binds K fd_is_font ["value"] []
  f_are_fonts : Addr
  fd_are_fonts : FuncData
  F_are_fonts : Fun K "are_fonts" "are_fonts" s_are_fonts f_are_fonts fd_are_fonts
  g_are_fonts : mg "are_fonts" = some (.ref f_are_fonts)
  b_are_fonts : Binds K fd_are_fonts ["value"] []
  f_is_one_of : Addr
  fd_is_one_of : FuncData
  F_is_one_of : Fun K "is_one_of" "is_one_of" s_is_one_of f_is_one_of fd_is_one_of
  g_is_one_of : mg "is_one_of" = some (.ref f_is_one_of)
  b_is_one_of : Binds K fd_is_one_of ["value", "words"] []
  f_is_field : Addr
  fd_is_field : FuncData
  F_is_field : Fun K "is_field" "is_field" s_is_field f_is_field fd_is_field
  g_is_field : mg "is_field" = some (.ref f_is_field)
  b_is_field : Binds K fd_is_field ["value"] []
  f_are_fields : Addr
  fd_are_fields : FuncData
  F_are_fields : Fun K "are_fields" "are_fields" s_are_fields f_are_fields fd_are_fields
  g_are_fields : mg "are_fields" = some (.ref f_are_fields)
  b_are_fields : Binds K fd_are_fields ["value"] []
  f_need_machine : Addr
  fd_need_machine : FuncData
  F_need_machine : Fun K "need_machine" "need_machine" s_need_machine f_need_machine fd_need_machine
  g_need_machine : mg "need_machine" = some (.ref f_need_machine)
  b_need_machine : Binds K fd_need_machine ["thing"] []
  f_is_part : Addr
  fd_is_part : FuncData
  F_is_part : Fun K "is_part" "is_part" s_is_part f_is_part fd_is_part
  g_is_part : mg "is_part" = some (.ref f_is_part)
  b_is_part : Binds K fd_is_part ["machine", "kind", "value"] []
  f_are_parts : Addr
  fd_are_parts : FuncData
  F_are_parts : Fun K "are_parts" "are_parts" s_are_parts f_are_parts fd_are_parts
  g_are_parts : mg "are_parts" = some (.ref f_are_parts)
  b_are_parts : Binds K fd_are_parts ["machine", "kinds", "value"] []
  f_is_settings : Addr
  fd_is_settings : FuncData
  F_is_settings : Fun K "is_settings" "is_settings" s_is_settings f_is_settings fd_is_settings
  g_is_settings : mg "is_settings" = some (.ref f_is_settings)
  b_is_settings : Binds K fd_is_settings ["machine", "value"] []
  f_need_settings : Addr
  fd_need_settings : FuncData
  F_need_settings : Fun K "need_settings" "need_settings" s_need_settings f_need_settings fd_need_settings
  g_need_settings : mg "need_settings" = some (.ref f_need_settings)
  b_need_settings : Binds K fd_need_settings ["machine", "settings"] []
  f_fits_command : Addr
  fd_fits_command : FuncData
  F_fits_command : Fun K "fits_command" "fits_command" s_fits_command f_fits_command fd_fits_command
  g_fits_command : mg "fits_command" = some (.ref f_fits_command)
  b_fits_command : Binds K fd_fits_command ["machine", "value"] []
  f_need_program : Addr
  fd_need_program : FuncData
  F_need_program : Fun K "need_program" "need_program" s_need_program f_need_program fd_need_program
  g_need_program : mg "need_program" = some (.ref f_need_program)
  b_need_program : Binds K fd_need_program ["machine", "program"] []
  f_need_start : Addr
  fd_need_start : FuncData
  F_need_start : Fun K "need_start" "need_start" s_need_start f_need_start fd_need_start
  g_need_start : mg "need_start" = some (.ref f_need_start)
  b_need_start : Binds K fd_need_start ["machine", "settings", "program"] []
  f_overlap : Addr
  fd_overlap : FuncData
  F_overlap : Fun K "overlap" "overlap" s_overlap f_overlap fd_overlap
  g_overlap : mg "overlap" = some (.ref f_overlap)
  b_overlap : Binds K fd_overlap ["one", "other"] []
  f_extent : Addr
  fd_extent : FuncData
  F_extent : Fun K "extent" "extent" s_extent f_extent fd_extent
  g_extent : mg "extent" = some (.ref f_extent)
  b_extent : Binds K fd_extent ["machine", "settings", "command", "signs"] []
  f_dot_of : Addr
  fd_dot_of : FuncData
  F_dot_of : Fun K "dot_of" "dot_of" s_dot_of f_dot_of fd_dot_of
  g_dot_of : mg "dot_of" = some (.ref f_dot_of)
  b_dot_of : Binds K fd_dot_of ["settings", "point"] []
  f_reach : Addr
  fd_reach : FuncData
  F_reach : Fun K "reach" "reach" s_reach f_reach fd_reach
  g_reach : mg "reach" = some (.ref f_reach)
  b_reach : Binds K fd_reach ["machine", "settings", "command", "signs"] []
  f_label_area : Addr
  fd_label_area : FuncData
  F_label_area : Fun K "label_area" "label_area" s_label_area f_label_area fd_label_area
  g_label_area : mg "label_area" = some (.ref f_label_area)
  b_label_area : Binds K fd_label_area ["machine"] []
  f_visible : Addr
  fd_visible : FuncData
  F_visible : Fun K "visible" "visible" s_visible f_visible fd_visible
  g_visible : mg "visible" = some (.ref f_visible)
  b_visible : Binds K fd_visible ["machine", "settings", "command", "signs"] []
  f_is_cut : Addr
  fd_is_cut : FuncData
  F_is_cut : Fun K "is_cut" "is_cut" s_is_cut f_is_cut fd_is_cut
  g_is_cut : mg "is_cut" = some (.ref f_is_cut)
  b_is_cut : Binds K fd_is_cut ["machine", "settings", "command", "signs"] []
  f_signs_of : Addr
  fd_signs_of : FuncData
  F_signs_of : Fun K "signs_of" "signs_of" s_signs_of f_signs_of fd_signs_of
  g_signs_of : mg "signs_of" = some (.ref f_signs_of)
  b_signs_of : Binds K fd_signs_of ["machine", "command"] []
  f_least_cut : Addr
  fd_least_cut : FuncData
  F_least_cut : Fun K "least_cut" "least_cut" s_least_cut f_least_cut fd_least_cut
  g_least_cut : mg "least_cut" = some (.ref f_least_cut)
  b_least_cut : Binds K fd_least_cut ["machine", "settings", "command"] []
  f_settings_after : Addr
  fd_settings_after : FuncData
  F_settings_after : Fun K "settings_after" "settings_after" s_settings_after f_settings_after fd_settings_after
  g_settings_after : mg "settings_after" = some (.ref f_settings_after)
  b_settings_after : Binds K fd_settings_after ["settings", "command"] []
  f_steps : Addr
  fd_steps : FuncData
  F_steps : Fun K "steps" "steps" s_steps f_steps fd_steps
  g_steps : mg "steps" = some (.ref f_steps)
  b_steps : Binds K fd_steps ["settings", "program"] []
  f_cuts : Addr
  fd_cuts : FuncData
  F_cuts : Fun K "cuts" "cuts" s_cuts f_cuts fd_cuts
  g_cuts : mg "cuts" = some (.ref f_cuts)
  b_cuts : Binds K fd_cuts ["machine", "settings", "program"] []
  f__law_after : Addr
  fd__law_after : FuncData
  F__law_after : Fun K "_law_after" "_law_after" s__law_after f__law_after fd__law_after
  g__law_after : mg "_law_after" = some (.ref f__law_after)
  b__law_after : Binds K fd__law_after ["state", "command"] []
  f__law_spot : Addr
  fd__law_spot : FuncData
  F__law_spot : Fun K "_law_spot" "_law_spot" s__law_spot f__law_spot fd__law_spot
  g__law_spot : mg "_law_spot" = some (.ref f__law_spot)
  b__law_spot : Binds K fd__law_spot ["state", "px", "py"] []
  f__law_reached : Addr
  fd__law_reached : FuncData
  F__law_reached : Fun K "_law_reached" "_law_reached" s__law_reached f__law_reached fd__law_reached
  g__law_reached : mg "_law_reached" = some (.ref f__law_reached)
  b__law_reached : Binds K fd__law_reached ["unit", "state", "command", "signs"] []
  f__law_most : Addr
  fd__law_most : FuncData
  F__law_most : Fun K "_law_most" "_law_most" s__law_most f__law_most fd__law_most
  g__law_most : mg "_law_most" = some (.ref f__law_most)
  b__law_most : Binds K fd__law_most ["unit", "command"] []
  f__law_cut_of : Addr
  fd__law_cut_of : FuncData
  F__law_cut_of : Fun K "_law_cut_of" "_law_cut_of" s__law_cut_of f__law_cut_of fd__law_cut_of
  g__law_cut_of : mg "_law_cut_of" = some (.ref f__law_cut_of)
  b__law_cut_of : Binds K fd__law_cut_of ["unit", "state", "command"] []
  f__law_next : Addr
  fd__law_next : FuncData
  F__law_next : Fun K "_law_next" "_law_next" s__law_next f__law_next fd__law_next
  g__law_next : mg "_law_next" = some (.ref f__law_next)
  b__law_next : Binds K fd__law_next ["m", "total"] []
  f__law_machine : Addr
  fd__law_machine : FuncData
  F__law_machine : Fun K "_law_machine" "_law_machine" s__law_machine f__law_machine fd__law_machine
  g__law_machine : mg "_law_machine" = some (.ref f__law_machine)
  b__law_machine : Binds K fd__law_machine ["m", "wide", "tall"] []
  f__law_of : Addr
  fd__law_of : FuncData
  F__law_of : Fun K "_law_of" "_law_of" s__law_of f__law_of fd__law_of
  g__law_of : mg "_law_of" = some (.ref f__law_of)
  b__law_of : Binds K fd__law_of ["m", "some"] []
  f__law_settings : Addr
  fd__law_settings : FuncData
  F__law_settings : Fun K "_law_settings" "_law_settings" s__law_settings f__law_settings fd__law_settings
  g__law_settings : mg "_law_settings" = some (.ref f__law_settings)
  b__law_settings : Binds K fd__law_settings ["m", "unit"] []
  f__law_command : Addr
  fd__law_command : FuncData
  F__law_command : Fun K "_law_command" "_law_command" s__law_command f__law_command fd__law_command
  g__law_command : mg "_law_command" = some (.ref f__law_command)
  b__law_command : Binds K fd__law_command ["m", "unit"] []
  f__law_steps : Addr
  fd__law_steps : FuncData
  F__law_steps : Fun K "_law_steps" "_law_steps" s__law_steps f__law_steps fd__law_steps
  g__law_steps : mg "_law_steps" = some (.ref f__law_steps)
  b__law_steps : Binds K fd__law_steps ["m", "unit", "most"] []
  f__law_begun : Addr
  fd__law_begun : FuncData
  F__law_begun : Fun K "_law_begun" "_law_begun" s__law_begun f__law_begun fd__law_begun
  g__law_begun : mg "_law_begun" = some (.ref f__law_begun)
  b__law_begun : Binds K fd__law_begun ["script"] []
  f_law : Addr
  fd_law : FuncData
  F_law : Fun K "law" "law" s_law f_law fd_law
  g_law : mg "law" = some (.ref f_law)
  b_law : Binds K fd_law ["script"] []
  m_all : mg "all" = none
  m_bool : mg "bool" = none
  m_dict : mg "dict" = none
  m_enumerate : mg "enumerate" = none
  m_int : mg "int" = none
  m_isinstance : mg "isinstance" = none
  m_len : mg "len" = none
  m_list : mg "list" = none
  m_max : mg "max" = none
  m_min : mg "min" = none
  m_range : mg "range" = none
  m_repr : mg "repr" = none
  m_str : mg "str" = none
  m_tuple : mg "tuple" = none
  m_zip : mg "zip" = none
  c_NAMES : Cst K mg "NAMES" (.tuple [(.str "A"), (.str "B"), (.str "C"), (.str "D"), (.str "E"), (.str "F"), (.str "G"), (.str "H")])
  c_FARTHEST : Cst K mg "FARTHEST" (.int 1000000)
  c_INKS : Cst K mg "INKS" (.tuple [(.str "set"), (.str "flip")])
  c_SETTING_KINDS : Cst K mg "SETTING_KINDS" (.tuple [(.str "origin"), (.str "origin"), (.str "turn"), (.str "font"), (.str "scale"), (.str "ink")])
  a_COMMAND_KINDS : Addr
  g_COMMAND_KINDS : mg "COMMAND_KINDS" = some (.ref a_COMMAND_KINDS)
  k_COMMAND_KINDS : KTab K w a_COMMAND_KINDS tbl_COMMAND_KINDS
  c_MOST_COMMANDS : Cst K mg "MOST_COMMANDS" (.int 60)
  c_DRAWING : Cst K mg "DRAWING" (.tuple [(.str "box"), (.str "clear"), (.str "field")])
  c_PLAIN : Cst K mg "PLAIN" (.tuple [(.int 0), (.int 0), (.int 0), (.int 0), (.int 1), (.str "set")])
  a_SETTING_PLACES : Addr
  g_SETTING_PLACES : mg "SETTING_PLACES" = some (.ref a_SETTING_PLACES)
  k_SETTING_PLACES : KTab K w a_SETTING_PLACES tbl_SETTING_PLACES
end TL

namespace TL
open PySem PySem.Spec PyProof.Rows L2 RZ

section
variable {P : Program} {w : World} {K : PySem.W.Frag} {mg : Str → Option Value} {base : Heap}
theorem ok_is_row (T : Tp K w mg) (am : Addr) (J : Nat → Wd → Prop) (st : ∀ g w u, (∀ a o, w.H a = some o → w.cl a = 2 → u.H a = some o ∧ u.cl a = 2) → J g w → J g u) : FnOk P w K mg base CX0 1 T.f_is_row T.fd_is_row ["value", "many"] (spD K am J 2 pt_is_row) :=
  fn_ok (G := ⟨am, J, st, ⟨fun _ => none, fun _ => 0⟩⟩) (k := 0) T.F_is_row sc_is_row rfl pt_is_row_mo fun u X cdv A outer s H E hX hr => by
    subst hX
    exact ⟨tb_is_row, (xs_one (xs_ret (xe_and (xe_isi (T := "tuple") (isi_def "tuple" (by decide +kernel)) (by rfl) T.m_isinstance (by rfl) T.m_tuple (by decide +kernel) (xe_var 0 (pv 0))) (xe_one (xe_co (co_eq hr.units) (xe_callB call_lenA cd_len (by rfl) T.m_len (by decide +kernel) (xa_cons (xe_var 0 (pv 0)) xa_nil)) (xe_var 1 (pv 1)) (nomark _)))))), sp_is_row⟩
theorem ok_is_whole (T : Tp K w mg) (am : Addr) (J : Nat → Wd → Prop) (st : ∀ g w u, (∀ a o, w.H a = some o → w.cl a = 2 → u.H a = some o ∧ u.cl a = 2) → J g w → J g u) : FnOk P w K mg base CX0 1 T.f_is_whole T.fd_is_whole ["value"] (spD K am J 1 pt_is_whole) :=
  fn_ok (G := ⟨am, J, st, ⟨fun _ => none, fun _ => 0⟩⟩) (k := 0) T.F_is_whole sc_is_whole rfl pt_is_whole_mo fun u X cdv A outer s H E hX hr => by
    subst hX
    exact ⟨tb_is_whole, (xs_one (xs_ret (xe_and (xe_isi (T := "int") (isi_def "int" (by decide +kernel)) (by rfl) T.m_isinstance (by rfl) T.m_int (by decide +kernel) (xe_var 0 (pv 0))) (xe_one (xe_not (xe_isi (T := "bool") (isi_def "bool" (by decide +kernel)) (by rfl) T.m_isinstance (by rfl) T.m_bool (by decide +kernel) (xe_var 0 (pv 0)))))))), sp_is_whole⟩
theorem ok_is_between (T : Tp K w mg) (am : Addr) (J : Nat → Wd → Prop) (st : ∀ g w u, (∀ a o, w.H a = some o → w.cl a = 2 → u.H a = some o ∧ u.cl a = 2) → J g w → J g u) : FnOk P w K mg base CX0 2 T.f_is_between T.fd_is_between ["value", "low", "high"] (spD K am J 3 pt_is_between) :=
  fn_ok (G := ⟨am, J, st, ⟨fun _ => none, fun _ => 0⟩⟩) (k := 1) T.F_is_between sc_is_between rfl pt_is_between_mo fun u X cdv A outer s H E hX hr => by
    subst hX
    exact ⟨tb_is_between, (xs_one (xs_ret (xe_and (xe_callN (ok_is_whole T am J st) pt_is_whole_mo hr (by rfl) T.g_is_whole T.F_is_whole.kp T.b_is_whole (xl_cons (xe_var 0 (pv 0)) xl_nil)) (xe_one (xe_chain co_le co_le (xe_var 1 (pv 1)) (xe_var 0 (pv 0)) (xe_var 2 (pv 2))))))), sp_is_between⟩
theorem ok_is_size (T : Tp K w mg) (am : Addr) (J : Nat → Wd → Prop) (st : ∀ g w u, (∀ a o, w.H a = some o → w.cl a = 2 → u.H a = some o ∧ u.cl a = 2) → J g w → J g u) : FnOk P w K mg base CX0 3 T.f_is_size T.fd_is_size ["value"] (spD K am J 1 pt_is_size) :=
  fn_ok (G := ⟨am, J, st, ⟨fun _ => none, fun _ => 0⟩⟩) (k := 2) T.F_is_size sc_is_size rfl pt_is_size_mo fun u X cdv A outer s H E hX hr => by
    subst hX
    exact ⟨tb_is_size, (xs_one (xs_ret (xe_and (xe_callN (ok_is_row T am J st) pt_is_row_mo (hr.mono (by decide)) (by rfl) T.g_is_row T.F_is_row.kp T.b_is_row (xl_cons (xe_var 0 (pv 0)) (xl_cons xe_int xl_nil))) (xe_and (xe_callN (ok_is_between T am J st) pt_is_between_mo hr (by rfl) T.g_is_between T.F_is_between.kp T.b_is_between (xl_cons (xe_ix (xe_var 0 (pv 0)) xe_int (fun _ _ => rfl)) (xl_cons xe_int (xl_cons xe_int xl_nil)))) (xe_one (xe_callN (ok_is_between T am J st) pt_is_between_mo hr (by rfl) T.g_is_between T.F_is_between.kp T.b_is_between (xl_cons (xe_ix (xe_var 0 (pv 0)) xe_int (fun _ _ => rfl)) (xl_cons xe_int (xl_cons xe_int xl_nil))))))))), sp_is_size⟩
theorem ok_is_font (T : Tp K w mg) (am : Addr) (J : Nat → Wd → Prop) (st : ∀ g w u, (∀ a o, w.H a = some o → w.cl a = 2 → u.H a = some o ∧ u.cl a = 2) → J g w → J g u) : FnOk P w K mg base CX0 3 T.f_is_font T.fd_is_font ["value"] (spD K am J 1 pt_is_font) :=
  fn_ok (G := ⟨am, J, st, ⟨fun _ => none, fun _ => 0⟩⟩) (k := 2) T.F_is_font sc_is_font rfl pt_is_font_mo fun u X cdv A outer s H E hX hr => by
    subst hX
    exact ⟨tb_is_font, (xs_one (xs_ret (xe_and (xe_callN (ok_is_row T am J st) pt_is_row_mo (hr.mono (by decide)) (by rfl) T.g_is_row T.F_is_row.kp T.b_is_row (xl_cons (xe_var 0 (pv 0)) (xl_cons xe_int xl_nil))) (xe_and (xe_callN (ok_is_between T am J st) pt_is_between_mo hr (by rfl) T.g_is_between T.F_is_between.kp T.b_is_between (xl_cons (xe_ix (xe_var 0 (pv 0)) xe_int (fun _ _ => rfl)) (xl_cons xe_int (xl_cons xe_int xl_nil)))) (xe_one (xe_callN (ok_is_between T am J st) pt_is_between_mo hr (by rfl) T.g_is_between T.F_is_between.kp T.b_is_between (xl_cons (xe_ix (xe_var 0 (pv 0)) xe_int (fun _ _ => rfl)) (xl_cons xe_int (xl_cons xe_int xl_nil))))))))), sp_is_font⟩
theorem ok_are_fonts (T : Tp K w mg) (am : Addr) (J : Nat → Wd → Prop) (st : ∀ g w u, (∀ a o, w.H a = some o → w.cl a = 2 → u.H a = some o ∧ u.cl a = 2) → J g w → J g u) : FnOk P w K mg base CX0 4 T.f_are_fonts T.fd_are_fonts ["value"] (spD K am J 1 pt_are_fonts) :=
  fn_ok (G := ⟨am, J, st, ⟨fun _ => none, fun _ => 0⟩⟩) (k := 3) T.F_are_fonts sc_are_fonts rfl pt_are_fonts_mo fun u X cdv A outer s H E hX hr => by
    subst hX
    exact ⟨tb_are_fonts, (xs_cons (xs_if (XW.c (xw_or (xc_not (xc_val (xe_isi (T := "tuple") (isi_def "tuple" (by decide +kernel)) (by rfl) T.m_isinstance (by rfl) T.m_tuple (by decide +kernel) (xe_var 0 (pv 0))))) (xw_or1 (xc_not (xc_chain co_le co_le xe_int (xe_callB call_lenA cd_len (by rfl) T.m_len (by decide +kernel) (xa_cons (xe_var 0 (pv 0)) xa_nil)) xe_int)))))
    (xs_one (xs_ret xe_bl))
    xs_nil)
    (xs_one (xs_ret (xe_callB (cr_all (by rfl)) cd_all (by rfl) T.m_all (by decide +kernel) (xa_cons (xe_lc (own := [("font", 1)]) (by rfl) sc_are_fonts.nd (xi_tup (xe_var 0 (pv 0))) (blkOk_by (own := [("font", 1)]) (N := n_are_fonts) (sc := defScope s_are_fonts) (by decide +kernel)) (xgb_name 1 (fun _ _ _ _ _ => pg_name (i := 1) sc_are_fonts.nd rfl (by first | exact Or.inl rfl | exact Or.inr rfl))) (by decide) (fun _ _ _ _ _ => xts_nil) (fun _ _ _ _ _ => (xe_callN (ok_is_font T am J st) pt_is_font_mo hr (by rfl) T.g_is_font T.F_is_font.kp T.b_is_font (xl_cons (xe_var 1 (pv 1)) xl_nil)))) xa_nil))))), sp_are_fonts⟩
theorem ok_is_one_of (T : Tp K w mg) (am : Addr) (J : Nat → Wd → Prop) (st : ∀ g w u, (∀ a o, w.H a = some o → w.cl a = 2 → u.H a = some o ∧ u.cl a = 2) → J g w → J g u) : FnOk P w K mg base CX0 1 T.f_is_one_of T.fd_is_one_of ["value", "words"] (spD K am J 2 pt_is_one_of) :=
  fn_ok (G := ⟨am, J, st, ⟨fun _ => none, fun _ => 0⟩⟩) (k := 0) T.F_is_one_of sc_is_one_of rfl pt_is_one_of_mo fun u X cdv A outer s H E hX hr => by
    subst hX
    exact ⟨tb_is_one_of, (xs_one (xs_ret (xe_and (xe_isi (T := "str") (isi_def "str" (by decide +kernel)) (by rfl) T.m_isinstance (by rfl) T.m_str (by decide +kernel) (xe_var 0 (pv 0))) (xe_one (xe_co (co_in (un65 hr)) (xe_var 0 (pv 0)) (xe_var 1 (pv 1)) (by rfl)))))), sp_is_one_of⟩
theorem ok_is_field (T : Tp K w mg) (am : Addr) (J : Nat → Wd → Prop) (st : ∀ g w u, (∀ a o, w.H a = some o → w.cl a = 2 → u.H a = some o ∧ u.cl a = 2) → J g w → J g u) : FnOk P w K mg base CX0 3 T.f_is_field T.fd_is_field ["value"] (spD K am J 1 pt_is_field) :=
  fn_ok (G := ⟨am, J, st, ⟨fun _ => none, fun _ => 0⟩⟩) (k := 2) T.F_is_field sc_is_field rfl pt_is_field_mo fun u X cdv A outer s H E hX hr => by
    subst hX
    exact ⟨tb_is_field, (xs_one (xs_ret (xe_and (xe_callN (ok_is_row T am J st) pt_is_row_mo (hr.mono (by decide)) (by rfl) T.g_is_row T.F_is_row.kp T.b_is_row (xl_cons (xe_var 0 (pv 0)) (xl_cons xe_int xl_nil))) (xe_and (xe_callN (ok_is_one_of T am J st) pt_is_one_of_mo (hr.mono (by decide)) (by rfl) T.g_is_one_of T.F_is_one_of.kp T.b_is_one_of (xl_cons (xe_ix (xe_var 0 (pv 0)) xe_int (fun _ _ => rfl)) (xl_cons (T.c_NAMES.xe (by rfl)) xl_nil))) (xe_one (xe_callN (ok_is_between T am J st) pt_is_between_mo hr (by rfl) T.g_is_between T.F_is_between.kp T.b_is_between (xl_cons (xe_ix (xe_var 0 (pv 0)) xe_int (fun _ _ => rfl)) (xl_cons xe_int (xl_cons xe_int xl_nil))))))))), sp_is_field⟩
theorem ok_are_fields (T : Tp K w mg) (am : Addr) (J : Nat → Wd → Prop) (st : ∀ g w u, (∀ a o, w.H a = some o → w.cl a = 2 → u.H a = some o ∧ u.cl a = 2) → J g w → J g u) : FnOk P w K mg base CX0 4 T.f_are_fields T.fd_are_fields ["value"] (spD K am J 1 pt_are_fields) :=
  fn_ok (G := ⟨am, J, st, ⟨fun _ => none, fun _ => 0⟩⟩) (k := 3) T.F_are_fields sc_are_fields rfl pt_are_fields_mo fun u X cdv A outer s H E hX hr => by
    subst hX
    exact ⟨tb_are_fields, (xs_cons (xs_if (XW.c (xw_or (xc_not (xc_val (xe_isi (T := "tuple") (isi_def "tuple" (by decide +kernel)) (by rfl) T.m_isinstance (by rfl) T.m_tuple (by decide +kernel) (xe_var 0 (pv 0))))) (xw_or1 (xc_co co_gt (xe_callB call_lenA cd_len (by rfl) T.m_len (by decide +kernel) (xa_cons (xe_var 0 (pv 0)) xa_nil)) (xe_callB call_lenA cd_len (by rfl) T.m_len (by decide +kernel) (xa_cons (T.c_NAMES.xe (by rfl)) xa_nil)) (nomark _)))))
    (xs_one (xs_ret xe_bl))
    xs_nil)
    (xs_cons (xs_if (xc_not (xc_val (xe_callB (cr_all (by rfl)) cd_all (by rfl) T.m_all (by decide +kernel) (xa_cons (xe_lc (own := [("field", 6)]) (by rfl) sc_are_fields.nd (xi_tup (xe_var 0 (pv 0))) (blkOk_by (own := [("field", 6)]) (N := n_are_fields) (sc := defScope s_are_fields) (by decide +kernel)) (xgb_name 6 (fun _ _ _ _ _ => pg_name (i := 6) sc_are_fields.nd rfl (by first | exact Or.inl rfl | exact Or.inr rfl))) (by decide) (fun _ _ _ _ _ => xts_nil) (fun _ _ _ _ _ => (xe_callN (ok_is_field T am J st) pt_is_field_mo hr (by rfl) T.g_is_field T.F_is_field.kp T.b_is_field (xl_cons (xe_var 6 (pv 6)) xl_nil)))) xa_nil))))
    (xs_one (xs_ret xe_bl))
    xs_nil)
    (xs_cons (xs_setLc 1 (own := [("name", 2), ("_", 3)]) (by rfl) sc_are_fields.nd rfl rfl (sw_true rfl rfl rfl (by decide +kernel)) (xi_tup (xe_var 0 (pv 0))) (blkOk_by (own := [("name", 2), ("_", 3)]) (N := n_are_fields) (sc := defScope s_are_fields) (by decide +kernel)) (xgb_tup (by rfl) (xgbs_cons (xgb_name 2 (fun _ _ _ _ _ => pg_name (i := 2) sc_are_fields.nd rfl (by first | exact Or.inl rfl | exact Or.inr rfl))) (xgbs_cons (xgb_name 3 (fun _ _ _ _ _ => pg_name (i := 3) sc_are_fields.nd rfl (by first | exact Or.inl rfl | exact Or.inr rfl))) xgbs_nil))) (by decide) (fun _ _ _ _ _ => xts_nil) (fun _ _ _ _ _ => (xe_var 2 (pv 2))))
    (xs_one (xs_ret (xe_callB (cr_all (by rfl)) cd_all (by rfl) T.m_all (by decide +kernel) (xa_cons (xe_lc (own := [("one", 4), ("other", 5)]) (by rfl) sc_are_fields.nd (xi_zip (by rfl) T.m_zip (xa_cons (xe_var 1 (pv 1)) (xa_cons (xe_slice (xe_var 1 (pv 1)) (xo_some xe_int) xo_none) xa_nil))) (blkOk_by (own := [("one", 4), ("other", 5)]) (N := n_are_fields) (sc := defScope s_are_fields) (by decide +kernel)) (xgb_tup (by rfl) (xgbs_cons (xgb_name 4 (fun _ _ _ _ _ => pg_name (i := 4) sc_are_fields.nd rfl (by first | exact Or.inl rfl | exact Or.inr rfl))) (xgbs_cons (xgb_name 5 (fun _ _ _ _ _ => pg_name (i := 5) sc_are_fields.nd rfl (by first | exact Or.inl rfl | exact Or.inr rfl))) xgbs_nil))) (by decide) (fun _ _ _ _ _ => xts_nil) (fun _ _ _ _ _ => (xe_co co_lt2 (xe_var 4 (pv 4)) (xe_var 5 (pv 5)) (nomark _)))) xa_nil))))))), sp_are_fields⟩
theorem ok_need_machine (T : Tp K w mg) (am : Addr) (J : Nat → Wd → Prop) (st : ∀ g w u, (∀ a o, w.H a = some o → w.cl a = 2 → u.H a = some o ∧ u.cl a = 2) → J g w → J g u) : FnOk P w K mg base CX0 5 T.f_need_machine T.fd_need_machine ["thing"] (spD K am J 1 pt_need_machine) :=
  fn_ok (G := ⟨am, J, st, ⟨fun _ => none, fun _ => 0⟩⟩) (k := 4) T.F_need_machine sc_need_machine rfl pt_need_machine_mo fun u X cdv A outer s H E hX hr => by
    subst hX
    exact ⟨tb_need_machine, (xs_cons (xs_if (xc_not (xc_val (xe_callN (ok_is_row T am J st) pt_is_row_mo (hr.mono (by decide)) (by rfl) T.g_is_row T.F_is_row.kp T.b_is_row (xl_cons (xe_var 0 (pv 0)) (xl_cons xe_int xl_nil)))))
    xss_never
    xs_nil)
    (xs_cons (xs_if (xc_not (xc_val (xe_callN (ok_is_size T am J st) pt_is_size_mo (hr.mono (by decide)) (by rfl) T.g_is_size T.F_is_size.kp T.b_is_size (xl_cons (xe_ix (xe_var 0 (pv 0)) xe_int (fun _ _ => rfl)) xl_nil))))
    xss_never
    xs_nil)
    (xs_cons (xs_if (xc_not (xc_val (xe_callN (ok_are_fonts T am J st) pt_are_fonts_mo hr (by rfl) T.g_are_fonts T.F_are_fonts.kp T.b_are_fonts (xl_cons (xe_ix (xe_var 0 (pv 0)) xe_int (fun _ _ => rfl)) xl_nil))))
    xss_never
    xs_nil)
    (xs_cons (xs_if (xc_not (xc_val (xe_callN (ok_are_fields T am J st) pt_are_fields_mo hr (by rfl) T.g_are_fields T.F_are_fields.kp T.b_are_fields (xl_cons (xe_ix (xe_var 0 (pv 0)) xe_int (fun _ _ => rfl)) xl_nil))))
    xss_never
    xs_nil)
    (xs_one (xs_ret (xe_var 0 (pv 0)))))))), sp_need_machine⟩
theorem ok_is_part (T : Tp K w mg) (am : Addr) (J : Nat → Wd → Prop) (st : ∀ g w u, (∀ a o, w.H a = some o → w.cl a = 2 → u.H a = some o ∧ u.cl a = 2) → J g w → J g u) : FnOk P w K mg base CX0 3 T.f_is_part T.fd_is_part ["machine", "kind", "value"] (spD K am J 3 pt_is_part) :=
  fn_ok (G := ⟨am, J, st, ⟨fun _ => none, fun _ => 0⟩⟩) (k := 2) T.F_is_part sc_is_part rfl pt_is_part_mo fun u X cdv A outer s H E hX hr => by
    subst hX
    exact ⟨tb_is_part, (xs_cons (xs_if (xc_co (co_eq hr.units) (xe_var 1 (pv 1)) xe_str (nomark _))
    (xs_one (xs_ret (xe_callN (ok_is_whole T am J st) pt_is_whole_mo (hr.mono (by decide)) (by rfl) T.g_is_whole T.F_is_whole.kp T.b_is_whole (xl_cons (xe_var 2 (pv 2)) xl_nil))))
    xs_nil)
    (xs_cons (xs_if (xc_co (co_eq hr.units) (xe_var 1 (pv 1)) xe_str (nomark _))
    (xs_one (xs_ret (xe_callN (ok_is_between T am J st) pt_is_between_mo hr (by rfl) T.g_is_between T.F_is_between.kp T.b_is_between (xl_cons (xe_var 2 (pv 2)) (xl_cons (xe_neg (T.c_FARTHEST.xe (by rfl))) (xl_cons (T.c_FARTHEST.xe (by rfl)) xl_nil))))))
    xs_nil)
    (xs_cons (xs_if (xc_co (co_eq hr.units) (xe_var 1 (pv 1)) xe_str (nomark _))
    (xs_one (xs_ret (xe_callN (ok_is_between T am J st) pt_is_between_mo hr (by rfl) T.g_is_between T.F_is_between.kp T.b_is_between (xl_cons (xe_var 2 (pv 2)) (xl_cons xe_int (xl_cons xe_int xl_nil))))))
    xs_nil)
    (xs_cons (xs_if (xc_co (co_eq hr.units) (xe_var 1 (pv 1)) xe_str (nomark _))
    (xs_one (xs_ret (xe_callN (ok_is_between T am J st) pt_is_between_mo hr (by rfl) T.g_is_between T.F_is_between.kp T.b_is_between (xl_cons (xe_var 2 (pv 2)) (xl_cons xe_int (xl_cons xe_int xl_nil))))))
    xs_nil)
    (xs_cons (xs_if (xc_co (co_eq hr.units) (xe_var 1 (pv 1)) xe_str (nomark _))
    (xs_one (xs_ret (xe_callN (ok_is_between T am J st) pt_is_between_mo hr (by rfl) T.g_is_between T.F_is_between.kp T.b_is_between (xl_cons (xe_var 2 (pv 2)) (xl_cons xe_int (xl_cons (xe_sub (xe_callB call_lenA cd_len (by rfl) T.m_len (by decide +kernel) (xa_cons (xe_ix (xe_var 0 (pv 0)) xe_int (fun _ _ => rfl)) xa_nil)) xe_int) xl_nil))))))
    xs_nil)
    (xs_cons (xs_if (xc_co (co_eq hr.units) (xe_var 1 (pv 1)) xe_str (nomark _))
    (xs_one (xs_ret (xe_callN (ok_is_between T am J st) pt_is_between_mo hr (by rfl) T.g_is_between T.F_is_between.kp T.b_is_between (xl_cons (xe_var 2 (pv 2)) (xl_cons xe_int (xl_cons xe_int xl_nil))))))
    xs_nil)
    (xs_cons (xs_if (xc_co (co_eq hr.units) (xe_var 1 (pv 1)) xe_str (nomark _))
    (xs_one (xs_ret (xe_callN (ok_is_one_of T am J st) pt_is_one_of_mo (hr.mono (by decide)) (by rfl) T.g_is_one_of T.F_is_one_of.kp T.b_is_one_of (xl_cons (xe_var 2 (pv 2)) (xl_cons (T.c_INKS.xe (by rfl)) xl_nil)))))
    xs_nil)
    (xs_one (xs_ret (xe_callN (ok_is_one_of T am J st) pt_is_one_of_mo (hr.mono (by decide)) (by rfl) T.g_is_one_of T.F_is_one_of.kp T.b_is_one_of (xl_cons (xe_var 2 (pv 2)) (xl_cons (xe_lc (own := [("name", 3), ("_", 4)]) (by rfl) sc_is_part.nd (xi_tup (xe_ix (xe_var 0 (pv 0)) xe_int (fun _ _ => rfl))) (blkOk_by (own := [("name", 3), ("_", 4)]) (N := n_is_part) (sc := defScope s_is_part) (by decide +kernel)) (xgb_tup (by rfl) (xgbs_cons (xgb_name 3 (fun _ _ _ _ _ => pg_name (i := 3) sc_is_part.nd rfl (by first | exact Or.inl rfl | exact Or.inr rfl))) (xgbs_cons (xgb_name 4 (fun _ _ _ _ _ => pg_name (i := 4) sc_is_part.nd rfl (by first | exact Or.inl rfl | exact Or.inr rfl))) xgbs_nil))) (by decide) (fun _ _ _ _ _ => xts_nil) (fun _ _ _ _ _ => (xe_var 3 (pv 3)))) xl_nil)))))))))))), sp_is_part⟩
theorem ok_are_parts (T : Tp K w mg) (am : Addr) (J : Nat → Wd → Prop) (st : ∀ g w u, (∀ a o, w.H a = some o → w.cl a = 2 → u.H a = some o ∧ u.cl a = 2) → J g w → J g u) : FnOk P w K mg base CX0 4 T.f_are_parts T.fd_are_parts ["machine", "kinds", "value"] (spD K am J 3 pt_are_parts) :=
  fn_ok (G := ⟨am, J, st, ⟨fun _ => none, fun _ => 0⟩⟩) (k := 3) T.F_are_parts sc_are_parts rfl pt_are_parts_mo fun u X cdv A outer s H E hX hr => by
    subst hX
    exact ⟨tb_are_parts, (xs_cons (xs_if (xc_not (xc_val (xe_callN (ok_is_row T am J st) pt_is_row_mo (hr.mono (by decide)) (by rfl) T.g_is_row T.F_is_row.kp T.b_is_row (xl_cons (xe_var 2 (pv 2)) (xl_cons (xe_callB call_lenA cd_len (by rfl) T.m_len (by decide +kernel) (xa_cons (xe_var 1 (pv 1)) xa_nil)) xl_nil)))))
    (xs_one (xs_ret xe_bl))
    xs_nil)
    (xs_one (xs_ret (xe_callB (cr_all (by rfl)) cd_all (by rfl) T.m_all (by decide +kernel) (xa_cons (xe_lc (own := [("kind", 3), ("part", 4)]) (by rfl) sc_are_parts.nd (xi_zip (by rfl) T.m_zip (xa_cons (xe_var 1 (pv 1)) (xa_cons (xe_var 2 (pv 2)) xa_nil))) (blkOk_by (own := [("kind", 3), ("part", 4)]) (N := n_are_parts) (sc := defScope s_are_parts) (by decide +kernel)) (xgb_tup (by rfl) (xgbs_cons (xgb_name 3 (fun _ _ _ _ _ => pg_name (i := 3) sc_are_parts.nd rfl (by first | exact Or.inl rfl | exact Or.inr rfl))) (xgbs_cons (xgb_name 4 (fun _ _ _ _ _ => pg_name (i := 4) sc_are_parts.nd rfl (by first | exact Or.inl rfl | exact Or.inr rfl))) xgbs_nil))) (by decide) (fun _ _ _ _ _ => xts_nil) (fun _ _ _ _ _ => (xe_callN (ok_is_part T am J st) pt_is_part_mo hr (by rfl) T.g_is_part T.F_is_part.kp T.b_is_part (xl_cons (xe_var 0 (pv 0)) (xl_cons (xe_var 3 (pv 3)) (xl_cons (xe_var 4 (pv 4)) xl_nil)))))) xa_nil))))), sp_are_parts⟩
theorem ok_is_settings (T : Tp K w mg) (am : Addr) (J : Nat → Wd → Prop) (st : ∀ g w u, (∀ a o, w.H a = some o → w.cl a = 2 → u.H a = some o ∧ u.cl a = 2) → J g w → J g u) : FnOk P w K mg base CX0 6 T.f_is_settings T.fd_is_settings ["machine", "value"] (spD K am J 2 pt_is_settings) :=
  fn_ok (G := ⟨am, J, st, ⟨fun _ => none, fun _ => 0⟩⟩) (k := 5) T.F_is_settings sc_is_settings rfl pt_is_settings_mo fun u X cdv A outer s H E hX hr => by
    subst hX
    exact ⟨tb_is_settings, (xs_cons (xs_expr (xe_callN (ok_need_machine T am J st) pt_need_machine_mo hr (by rfl) T.g_need_machine T.F_need_machine.kp T.b_need_machine (xl_cons (xe_var 0 (pv 0)) xl_nil)))
    (xs_one (xs_ret (xe_callN (ok_are_parts T am J st) pt_are_parts_mo (hr.mono (by decide)) (by rfl) T.g_are_parts T.F_are_parts.kp T.b_are_parts (xl_cons (xe_var 0 (pv 0)) (xl_cons (T.c_SETTING_KINDS.xe (by rfl)) (xl_cons (xe_var 1 (pv 1)) xl_nil))))))), sp_is_settings⟩
theorem ok_need_settings (T : Tp K w mg) (am : Addr) (J : Nat → Wd → Prop) (st : ∀ g w u, (∀ a o, w.H a = some o → w.cl a = 2 → u.H a = some o ∧ u.cl a = 2) → J g w → J g u) : FnOk P w K mg base CX0 7 T.f_need_settings T.fd_need_settings ["machine", "settings"] (spD K am J 2 pt_need_settings) :=
  fn_ok (G := ⟨am, J, st, ⟨fun _ => none, fun _ => 0⟩⟩) (k := 6) T.F_need_settings sc_need_settings rfl pt_need_settings_mo fun u X cdv A outer s H E hX hr => by
    subst hX
    exact ⟨tb_need_settings, (xs_one (xs_if (xc_not (xc_val (xe_callN (ok_is_settings T am J st) pt_is_settings_mo hr (by rfl) T.g_is_settings T.F_is_settings.kp T.b_is_settings (xl_cons (xe_var 0 (pv 0)) (xl_cons (xe_var 1 (pv 1)) xl_nil)))))
    xss_never
    xs_nil)), sp_need_settings⟩
theorem ok_fits_command (T : Tp K w mg) (am : Addr) (J : Nat → Wd → Prop) (st : ∀ g w u, (∀ a o, w.H a = some o → w.cl a = 2 → u.H a = some o ∧ u.cl a = 2) → J g w → J g u) : FnOk P w K mg base CX0 5 T.f_fits_command T.fd_fits_command ["machine", "value"] (spD K am J 2 pt_fits_command) :=
  fn_ok (G := ⟨am, J, st, ⟨fun _ => none, fun _ => 0⟩⟩) (k := 4) T.F_fits_command sc_fits_command rfl pt_fits_command_mo fun u X cdv A outer s H E hX hr => by
    subst hX
    exact ⟨tb_fits_command, (xs_cons (xs_if (XW.c (xw_or (xc_not (xc_val (xe_isi (T := "tuple") (isi_def "tuple" (by decide +kernel)) (by rfl) T.m_isinstance (by rfl) T.m_tuple (by decide +kernel) (xe_var 1 (pv 1))))) (xw_or1 (xc_co (co_eq hr.units) (xe_callB call_lenA cd_len (by rfl) T.m_len (by decide +kernel) (xa_cons (xe_var 1 (pv 1)) xa_nil)) xe_int (nomark _)))))
    (xs_one (xs_ret xe_bl))
    xs_nil)
    (xs_cons (xs_set 2 (xe_ix (xe_var 1 (pv 1)) xe_int (fun _ _ => rfl)) (fun _ he => ps_set (i := 2) sc_fits_command.nd rfl (by first | exact Or.inl rfl | exact Or.inr rfl) he))
    (xs_cons (xs_if (XW.c (xw_or (xc_not (xc_val (xe_isi (T := "str") (isi_def "str" (by decide +kernel)) (by rfl) T.m_isinstance (by rfl) T.m_str (by decide +kernel) (xe_var 2 (pv 2))))) (xw_or1 (xc_knotIn T.k_COMMAND_KINDS (xe_var 2 (pv 2)) (by rfl) T.g_COMMAND_KINDS))))
    (xs_one (xs_ret xe_bl))
    xs_nil)
    (xs_one (xs_ret (xe_callN (ok_are_parts T am J st) pt_are_parts_mo hr (by rfl) T.g_are_parts T.F_are_parts.kp T.b_are_parts (xl_cons (xe_var 0 (pv 0)) (xl_cons (xe_kget T.k_COMMAND_KINDS (xe_var 2 (pv 2)) (by rfl) T.g_COMMAND_KINDS (fun _ _ => rfl)) (xl_cons (xe_slice (xe_var 1 (pv 1)) (xo_some xe_int) xo_none) xl_nil))))))))), sp_fits_command⟩
theorem ok_need_program (T : Tp K w mg) (am : Addr) (J : Nat → Wd → Prop) (st : ∀ g w u, (∀ a o, w.H a = some o → w.cl a = 2 → u.H a = some o ∧ u.cl a = 2) → J g w → J g u) : FnOk P w K mg base CX0 6 T.f_need_program T.fd_need_program ["machine", "program"] (spD K am J 2 pt_need_program) :=
  fn_ok (G := ⟨am, J, st, ⟨fun _ => none, fun _ => 0⟩⟩) (k := 5) T.F_need_program sc_need_program rfl pt_need_program_mo fun u X cdv A outer s H E hX hr => by
    subst hX
    exact ⟨tb_need_program, (xs_cons (xs_if (XW.c (xw_or (xc_not (xc_val (xe_isi (T := "tuple") (isi_def "tuple" (by decide +kernel)) (by rfl) T.m_isinstance (by rfl) T.m_tuple (by decide +kernel) (xe_var 1 (pv 1))))) (xw_or1 (xc_co co_gt (xe_callB call_lenA cd_len (by rfl) T.m_len (by decide +kernel) (xa_cons (xe_var 1 (pv 1)) xa_nil)) (T.c_MOST_COMMANDS.xe (by rfl)) (nomark _)))))
    xss_never
    xs_nil)
    (xs_one (xs_for PassesOwn.never (by rfl) (xi_enum (by rfl) T.m_enumerate (xa_cons (xe_var 1 (pv 1)) xa_nil)) (xg_tup (by rfl) (xgs_cons (xg_name 2 (pg_name (i := 2) sc_need_program.nd rfl (by first | exact Or.inl rfl | exact Or.inr rfl))) (xgs_cons (xg_name 3 (pg_name (i := 3) sc_need_program.nd rfl (by first | exact Or.inl rfl | exact Or.inr rfl))) xgs_nil)))
    (xs_one (xs_if (xc_not (xc_val (xe_callN (ok_fits_command T am J st) pt_fits_command_mo hr (by rfl) T.g_fits_command T.F_fits_command.kp T.b_fits_command (xl_cons (xe_var 0 (pv 0)) (xl_cons (xe_var 3 (pv 3)) xl_nil)))))
    xss_never
    xs_nil))))), sp_need_program⟩
theorem ok_need_start (T : Tp K w mg) (am : Addr) (J : Nat → Wd → Prop) (st : ∀ g w u, (∀ a o, w.H a = some o → w.cl a = 2 → u.H a = some o ∧ u.cl a = 2) → J g w → J g u) : FnOk P w K mg base CX0 8 T.f_need_start T.fd_need_start ["machine", "settings", "program"] (spD K am J 3 pt_need_start) :=
  fn_ok (G := ⟨am, J, st, ⟨fun _ => none, fun _ => 0⟩⟩) (k := 7) T.F_need_start sc_need_start rfl pt_need_start_mo fun u X cdv A outer s H E hX hr => by
    subst hX
    exact ⟨tb_need_start, (xs_cons (xs_expr (xe_callN (ok_need_settings T am J st) pt_need_settings_mo hr (by rfl) T.g_need_settings T.F_need_settings.kp T.b_need_settings (xl_cons (xe_var 0 (pv 0)) (xl_cons (xe_var 1 (pv 1)) xl_nil))))
    (xs_one (xs_expr (xe_callN (ok_need_program T am J st) pt_need_program_mo (hr.mono (by decide)) (by rfl) T.g_need_program T.F_need_program.kp T.b_need_program (xl_cons (xe_var 0 (pv 0)) (xl_cons (xe_var 2 (pv 2)) xl_nil)))))), sp_need_start⟩
end
end TL

namespace TL
open PySem PySem.Spec PyProof.Rows L2 RZ

section
variable {P : Program} {w : World} {K : PySem.W.Frag} {mg : Str → Option Value} {base : Heap}
theorem ok_overlap (T : Tp K w mg) (am : Addr) (J : Nat → Wd → Prop) (st : ∀ g w u, (∀ a o, w.H a = some o → w.cl a = 2 → u.H a = some o ∧ u.cl a = 2) → J g w → J g u) : FnOk P w K mg base CX0 1 T.f_overlap T.fd_overlap ["one", "other"] (spD K am J 2 pt_overlap) :=
  fn_ok (G := ⟨am, J, st, ⟨fun _ => none, fun _ => 0⟩⟩) (k := 0) T.F_overlap sc_overlap rfl pt_overlap_mo fun u X cdv A outer s H E hX hr => by
    subst hX
    exact ⟨tb_overlap, (xs_cons (xs_par2 2 3 (xa_cons (xe_callB (call_max2 (by rfl)) cd_I2 (by rfl) T.m_max (by decide +kernel) (xa_cons (xe_ix (xe_var 0 (pv 0)) xe_int (fun _ _ => rfl)) (xa_cons (xe_ix (xe_var 1 (pv 1)) xe_int (fun _ _ => rfl)) xa_nil))) (xa_cons (xe_callB (call_max2 (by rfl)) cd_I2 (by rfl) T.m_max (by decide +kernel) (xa_cons (xe_ix (xe_var 0 (pv 0)) xe_int (fun _ _ => rfl)) (xa_cons (xe_ix (xe_var 1 (pv 1)) xe_int (fun _ _ => rfl)) xa_nil))) xa_nil)) (fun _ ha => ps_par (i := 2) (j := 3) (by rfl) sc_overlap.nd rfl rfl (by decide) rfl rfl ha (by rfl)))
    (xs_cons (xs_par2 4 5 (xa_cons (xe_callB (call_min2 (by rfl)) cd_I2 (by rfl) T.m_min (by decide +kernel) (xa_cons (xe_ix (xe_var 0 (pv 0)) xe_int (fun _ _ => rfl)) (xa_cons (xe_ix (xe_var 1 (pv 1)) xe_int (fun _ _ => rfl)) xa_nil))) (xa_cons (xe_callB (call_min2 (by rfl)) cd_I2 (by rfl) T.m_min (by decide +kernel) (xa_cons (xe_ix (xe_var 0 (pv 0)) xe_int (fun _ _ => rfl)) (xa_cons (xe_ix (xe_var 1 (pv 1)) xe_int (fun _ _ => rfl)) xa_nil))) xa_nil)) (fun _ ha => ps_par (i := 4) (j := 5) (by rfl) sc_overlap.nd rfl rfl (by decide) rfl rfl ha (by rfl)))
    (xs_cons (xs_if (XW.c (xw_or (xc_co co_gt (xe_var 2 (pv 2)) (xe_var 4 (pv 4)) (nomark _)) (xw_or1 (xc_co co_gt (xe_var 3 (pv 3)) (xe_var 5 (pv 5)) (nomark _)))))
    (xs_one (xs_ret xe_non))
    xs_nil)
    (xs_one (xs_ret (xe_tup (xa_cons (xe_var 2 (pv 2)) (xa_cons (xe_var 3 (pv 3)) (xa_cons (xe_var 4 (pv 4)) (xa_cons (xe_var 5 (pv 5)) xa_nil)))))))))), sp_overlap⟩
theorem ok_extent (T : Tp K w mg) (am : Addr) (J : Nat → Wd → Prop) (st : ∀ g w u, (∀ a o, w.H a = some o → w.cl a = 2 → u.H a = some o ∧ u.cl a = 2) → J g w → J g u) : FnOk P w K mg base CX0 1 T.f_extent T.fd_extent ["machine", "settings", "command", "signs"] (spD K am J 4 pt_extent) :=
  fn_ok (G := ⟨am, J, st, ⟨fun _ => none, fun _ => 0⟩⟩) (k := 0) T.F_extent sc_extent rfl pt_extent_mo fun u X cdv A outer s H E hX hr => by
    subst hX
    exact ⟨tb_extent, (xs_cons (xs_if (xc_co (co_eq hr.units) (xe_ix (xe_var 2 (pv 2)) xe_int (fun _ _ => rfl)) xe_str (nomark _))
    (xs_cons (xs_asg (b := false) (xe_ix (xe_ix (xe_var 0 (pv 0)) xe_int (fun _ _ => rfl)) (xe_ix (xe_var 1 (pv 1)) xe_int (fun _ _ => rfl)) (fun _ _ => rfl)) (xg_tup (by rfl) (xgs_cons (xg_name 4 (pg_name (i := 4) sc_extent.nd rfl (by first | exact Or.inl rfl | exact Or.inr rfl))) (xgs_cons (xg_name 5 (pg_name (i := 5) sc_extent.nd rfl (by first | exact Or.inl rfl | exact Or.inr rfl))) xgs_nil))))
    (xs_one (xs_ret (xe_tup (xa_cons (xe_mul (xe_mul (xe_var 3 (pv 3)) (xe_var 4 (pv 4))) (xe_ix (xe_var 1 (pv 1)) xe_int (fun _ _ => rfl))) (xa_cons (xe_mul (xe_var 5 (pv 5)) (xe_ix (xe_var 1 (pv 1)) xe_int (fun _ _ => rfl))) xa_nil))))))
    xs_nil)
    (xs_one (xs_ret (xe_tup (xa_cons (xe_ix (xe_var 2 (pv 2)) xe_int (fun _ _ => rfl)) (xa_cons (xe_ix (xe_var 2 (pv 2)) xe_int (fun _ _ => rfl)) xa_nil)))))), sp_extent⟩
theorem ok_dot_of (T : Tp K w mg) (am : Addr) (J : Nat → Wd → Prop) (st : ∀ g w u, (∀ a o, w.H a = some o → w.cl a = 2 → u.H a = some o ∧ u.cl a = 2) → J g w → J g u) : FnOk P w K mg base CX0 1 T.f_dot_of T.fd_dot_of ["settings", "point"] (spD K am J 2 pt_dot_of) :=
  fn_ok (G := ⟨am, J, st, ⟨fun _ => none, fun _ => 0⟩⟩) (k := 0) T.F_dot_of sc_dot_of rfl pt_dot_of_mo fun u X cdv A outer s H E hX hr => by
    subst hX
    exact ⟨tb_dot_of, (xs_cons (xs_asg (b := false) (xe_slice (xe_var 0 (pv 0)) xo_none (xo_some xe_int)) (xg_tup (by rfl) (xgs_cons (xg_name 2 (pg_name (i := 2) sc_dot_of.nd rfl (by first | exact Or.inl rfl | exact Or.inr rfl))) (xgs_cons (xg_name 3 (pg_name (i := 3) sc_dot_of.nd rfl (by first | exact Or.inl rfl | exact Or.inr rfl))) (xgs_cons (xg_name 4 (pg_name (i := 4) sc_dot_of.nd rfl (by first | exact Or.inl rfl | exact Or.inr rfl))) xgs_nil)))))
    (xs_cons (xs_asg (b := false) (xe_var 1 (pv 1)) (xg_tup (by rfl) (xgs_cons (xg_name 5 (pg_name (i := 5) sc_dot_of.nd rfl (by first | exact Or.inl rfl | exact Or.inr rfl))) (xgs_cons (xg_name 6 (pg_name (i := 6) sc_dot_of.nd rfl (by first | exact Or.inl rfl | exact Or.inr rfl))) xgs_nil))))
    (xs_cons (xs_if (xc_co (co_eq hr.units) (xe_var 4 (pv 4)) xe_int (nomark _))
    (xs_one (xs_ret (xe_tup (xa_cons (xe_add (xe_var 2 (pv 2)) (xe_var 5 (pv 5))) (xa_cons (xe_add (xe_var 3 (pv 3)) (xe_var 6 (pv 6))) xa_nil)))))
    xs_nil)
    (xs_cons (xs_if (xc_co (co_eq hr.units) (xe_var 4 (pv 4)) xe_int (nomark _))
    (xs_one (xs_ret (xe_tup (xa_cons (xe_sub (xe_var 2 (pv 2)) (xe_var 6 (pv 6))) (xa_cons (xe_add (xe_var 3 (pv 3)) (xe_var 5 (pv 5))) xa_nil)))))
    xs_nil)
    (xs_cons (xs_if (xc_co (co_eq hr.units) (xe_var 4 (pv 4)) xe_int (nomark _))
    (xs_one (xs_ret (xe_tup (xa_cons (xe_sub (xe_var 2 (pv 2)) (xe_var 5 (pv 5))) (xa_cons (xe_sub (xe_var 3 (pv 3)) (xe_var 6 (pv 6))) xa_nil)))))
    xs_nil)
    (xs_one (xs_ret (xe_tup (xa_cons (xe_add (xe_var 2 (pv 2)) (xe_var 6 (pv 6))) (xa_cons (xe_sub (xe_var 3 (pv 3)) (xe_var 5 (pv 5))) xa_nil)))))))))), sp_dot_of⟩
theorem ok_reach (T : Tp K w mg) (am : Addr) (J : Nat → Wd → Prop) (st : ∀ g w u, (∀ a o, w.H a = some o → w.cl a = 2 → u.H a = some o ∧ u.cl a = 2) → J g w → J g u) : FnOk P w K mg base CX0 2 T.f_reach T.fd_reach ["machine", "settings", "command", "signs"] (spD K am J 4 pt_reach) :=
  fn_ok (G := ⟨am, J, st, ⟨fun _ => none, fun _ => 0⟩⟩) (k := 1) T.F_reach sc_reach rfl pt_reach_mo fun u X cdv A outer s H E hX hr => by
    subst hX
    exact ⟨tb_reach, (xs_cons (xs_asg (b := false) (xe_callN (ok_extent T am J st) pt_extent_mo hr (by rfl) T.g_extent T.F_extent.kp T.b_extent (xl_cons (xe_var 0 (pv 0)) (xl_cons (xe_var 1 (pv 1)) (xl_cons (xe_var 2 (pv 2)) (xl_cons (xe_var 3 (pv 3)) xl_nil))))) (xg_tup (by rfl) (xgs_cons (xg_name 4 (pg_name (i := 4) sc_reach.nd rfl (by first | exact Or.inl rfl | exact Or.inr rfl))) (xgs_cons (xg_name 5 (pg_name (i := 5) sc_reach.nd rfl (by first | exact Or.inl rfl | exact Or.inr rfl))) xgs_nil))))
    (xs_cons (xs_par2 6 7 (xa_cons (xe_ix (xe_var 2 (pv 2)) xe_int (fun _ _ => rfl)) (xa_cons (xe_ix (xe_var 2 (pv 2)) xe_int (fun _ _ => rfl)) xa_nil)) (fun _ ha => ps_par (i := 6) (j := 7) (by rfl) sc_reach.nd rfl rfl (by decide) rfl rfl ha (by rfl)))
    (xs_cons (xs_asg (b := false) (xe_callN (ok_dot_of T am J st) pt_dot_of_mo hr (by rfl) T.g_dot_of T.F_dot_of.kp T.b_dot_of (xl_cons (xe_var 1 (pv 1)) (xl_cons (xe_tup (xa_cons (xe_var 6 (pv 6)) (xa_cons (xe_var 7 (pv 7)) xa_nil))) xl_nil))) (xg_tup (by rfl) (xgs_cons (xg_name 8 (pg_name (i := 8) sc_reach.nd rfl (by first | exact Or.inl rfl | exact Or.inr rfl))) (xgs_cons (xg_name 9 (pg_name (i := 9) sc_reach.nd rfl (by first | exact Or.inl rfl | exact Or.inr rfl))) xgs_nil))))
    (xs_cons (xs_asg (b := false) (xe_callN (ok_dot_of T am J st) pt_dot_of_mo hr (by rfl) T.g_dot_of T.F_dot_of.kp T.b_dot_of (xl_cons (xe_var 1 (pv 1)) (xl_cons (xe_tup (xa_cons (xe_sub (xe_add (xe_var 6 (pv 6)) (xe_var 4 (pv 4))) xe_int) (xa_cons (xe_sub (xe_add (xe_var 7 (pv 7)) (xe_var 5 (pv 5))) xe_int) xa_nil))) xl_nil))) (xg_tup (by rfl) (xgs_cons (xg_name 10 (pg_name (i := 10) sc_reach.nd rfl (by first | exact Or.inl rfl | exact Or.inr rfl))) (xgs_cons (xg_name 11 (pg_name (i := 11) sc_reach.nd rfl (by first | exact Or.inl rfl | exact Or.inr rfl))) xgs_nil))))
    (xs_one (xs_ret (xe_tup (xa_cons (xe_callB (call_min2 (by rfl)) cd_I2 (by rfl) T.m_min (by decide +kernel) (xa_cons (xe_var 8 (pv 8)) (xa_cons (xe_var 10 (pv 10)) xa_nil))) (xa_cons (xe_callB (call_min2 (by rfl)) cd_I2 (by rfl) T.m_min (by decide +kernel) (xa_cons (xe_var 9 (pv 9)) (xa_cons (xe_var 11 (pv 11)) xa_nil))) (xa_cons (xe_callB (call_max2 (by rfl)) cd_I2 (by rfl) T.m_max (by decide +kernel) (xa_cons (xe_var 8 (pv 8)) (xa_cons (xe_var 10 (pv 10)) xa_nil))) (xa_cons (xe_callB (call_max2 (by rfl)) cd_I2 (by rfl) T.m_max (by decide +kernel) (xa_cons (xe_var 9 (pv 9)) (xa_cons (xe_var 11 (pv 11)) xa_nil))) xa_nil))))))))))), sp_reach⟩
theorem ok_label_area (T : Tp K w mg) (am : Addr) (J : Nat → Wd → Prop) (st : ∀ g w u, (∀ a o, w.H a = some o → w.cl a = 2 → u.H a = some o ∧ u.cl a = 2) → J g w → J g u) : FnOk P w K mg base CX0 1 T.f_label_area T.fd_label_area ["machine"] (spD K am J 1 pt_label_area) :=
  fn_ok (G := ⟨am, J, st, ⟨fun _ => none, fun _ => 0⟩⟩) (k := 0) T.F_label_area sc_label_area rfl pt_label_area_mo fun u X cdv A outer s H E hX hr => by
    subst hX
    exact ⟨tb_label_area, (xs_cons (xs_asg (b := false) (xe_ix (xe_var 0 (pv 0)) xe_int (fun _ _ => rfl)) (xg_tup (by rfl) (xgs_cons (xg_name 1 (pg_name (i := 1) sc_label_area.nd rfl (by first | exact Or.inl rfl | exact Or.inr rfl))) (xgs_cons (xg_name 2 (pg_name (i := 2) sc_label_area.nd rfl (by first | exact Or.inl rfl | exact Or.inr rfl))) xgs_nil))))
    (xs_one (xs_ret (xe_tup (xa_cons xe_int (xa_cons xe_int (xa_cons (xe_sub (xe_var 1 (pv 1)) xe_int) (xa_cons (xe_sub (xe_var 2 (pv 2)) xe_int) xa_nil)))))))), sp_label_area⟩
theorem ok_visible (T : Tp K w mg) (am : Addr) (J : Nat → Wd → Prop) (st : ∀ g w u, (∀ a o, w.H a = some o → w.cl a = 2 → u.H a = some o ∧ u.cl a = 2) → J g w → J g u) : FnOk P w K mg base CX0 3 T.f_visible T.fd_visible ["machine", "settings", "command", "signs"] (spD K am J 4 pt_visible) :=
  fn_ok (G := ⟨am, J, st, ⟨fun _ => none, fun _ => 0⟩⟩) (k := 2) T.F_visible sc_visible rfl pt_visible_mo fun u X cdv A outer s H E hX hr => by
    subst hX
    exact ⟨tb_visible, (xs_one (xs_ret (xe_callN (ok_overlap T am J st) pt_overlap_mo (hr.mono (by decide)) (by rfl) T.g_overlap T.F_overlap.kp T.b_overlap (xl_cons (xe_callN (ok_reach T am J st) pt_reach_mo hr (by rfl) T.g_reach T.F_reach.kp T.b_reach (xl_cons (xe_var 0 (pv 0)) (xl_cons (xe_var 1 (pv 1)) (xl_cons (xe_var 2 (pv 2)) (xl_cons (xe_var 3 (pv 3)) xl_nil))))) (xl_cons (xe_callN (ok_label_area T am J st) pt_label_area_mo (hr.mono (by decide)) (by rfl) T.g_label_area T.F_label_area.kp T.b_label_area (xl_cons (xe_var 0 (pv 0)) xl_nil)) xl_nil))))), sp_visible⟩
theorem ok_is_cut (T : Tp K w mg) (am : Addr) (J : Nat → Wd → Prop) (st : ∀ g w u, (∀ a o, w.H a = some o → w.cl a = 2 → u.H a = some o ∧ u.cl a = 2) → J g w → J g u) : FnOk P w K mg base CX0 4 T.f_is_cut T.fd_is_cut ["machine", "settings", "command", "signs"] (spD K am J 4 pt_is_cut) :=
  fn_ok (G := ⟨am, J, st, ⟨fun _ => none, fun _ => 0⟩⟩) (k := 3) T.F_is_cut sc_is_cut rfl pt_is_cut_mo fun u X cdv A outer s H E hX hr => by
    subst hX
    exact ⟨tb_is_cut, (xs_one (xs_ret (xe_co (co_ne hr.units) (xe_callN (ok_visible T am J st) pt_visible_mo hr (by rfl) T.g_visible T.F_visible.kp T.b_visible (xl_cons (xe_var 0 (pv 0)) (xl_cons (xe_var 1 (pv 1)) (xl_cons (xe_var 2 (pv 2)) (xl_cons (xe_var 3 (pv 3)) xl_nil))))) (xe_callN (ok_reach T am J st) pt_reach_mo (hr.mono (by decide)) (by rfl) T.g_reach T.F_reach.kp T.b_reach (xl_cons (xe_var 0 (pv 0)) (xl_cons (xe_var 1 (pv 1)) (xl_cons (xe_var 2 (pv 2)) (xl_cons (xe_var 3 (pv 3)) xl_nil))))) (nomark _)))), sp_is_cut⟩
theorem ok_signs_of (T : Tp K w mg) (am : Addr) (J : Nat → Wd → Prop) (st : ∀ g w u, (∀ a o, w.H a = some o → w.cl a = 2 → u.H a = some o ∧ u.cl a = 2) → J g w → J g u) : FnOk P w K mg base CX0 1 T.f_signs_of T.fd_signs_of ["machine", "command"] (spD K am J 2 pt_signs_of) :=
  fn_ok (G := ⟨am, J, st, ⟨fun _ => none, fun _ => 0⟩⟩) (k := 0) T.F_signs_of sc_signs_of rfl pt_signs_of_mo fun u X cdv A outer s H E hX hr => by
    subst hX
    exact ⟨tb_signs_of, (xs_cons (xs_if (xc_co (co_eq hr.units) (xe_ix (xe_var 1 (pv 1)) xe_int (fun _ _ => rfl)) xe_str (nomark _))
    (xs_one (xs_ret (xe_dget (hu_of hr) (xe_callTy (call_dictT (by rfl)) cd_dict (by rfl) T.m_dict (by decide +kernel) (xa_cons (xe_ix (xe_var 0 (pv 0)) xe_int (fun _ _ => rfl)) xa_nil)) (xe_ix (xe_var 1 (pv 1)) xe_int (fun _ _ => rfl)) (fun _ _ => rfl))))
    xs_nil)
    (xs_one (xs_ret xe_int))), sp_signs_of⟩
theorem ok_least_cut (T : Tp K w mg) (am : Addr) (J : Nat → Wd → Prop) (st : ∀ g w u, (∀ a o, w.H a = some o → w.cl a = 2 → u.H a = some o ∧ u.cl a = 2) → J g w → J g u) : FnOk P w K mg base CX0 5 T.f_least_cut T.fd_least_cut ["machine", "settings", "command"] (spD K am J 3 pt_least_cut) :=
  fn_ok (G := ⟨am, J, st, ⟨fun _ => none, fun _ => 0⟩⟩) (k := 4) T.F_least_cut sc_least_cut rfl pt_least_cut_mo fun u X cdv A outer s H E hX hr => by
    subst hX
    exact ⟨tb_least_cut, (xs_cons (xs_if (xc_co (co_notIn (un65 hr)) (xe_ix (xe_var 2 (pv 2)) xe_int (fun _ _ => rfl)) (T.c_DRAWING.xe (by rfl)) (by rfl))
    (xs_one (xs_ret xe_non))
    xs_nil)
    (xs_cons (xs_for PassesOwn.never (by rfl) (xi_rng2 (by rfl) T.m_range (xa_cons xe_int (xa_cons (xe_add (xe_callN (ok_signs_of T am J st) pt_signs_of_mo (hr.mono (by decide)) (by rfl) T.g_signs_of T.F_signs_of.kp T.b_signs_of (xl_cons (xe_var 0 (pv 0)) (xl_cons (xe_var 2 (pv 2)) xl_nil))) xe_int) xa_nil))) (xg_name 3 (pg_name (i := 3) sc_least_cut.nd rfl (by first | exact Or.inl rfl | exact Or.inr rfl)))
    (xs_one (xs_if (xc_val (xe_callN (ok_is_cut T am J st) pt_is_cut_mo hr (by rfl) T.g_is_cut T.F_is_cut.kp T.b_is_cut (xl_cons (xe_var 0 (pv 0)) (xl_cons (xe_var 1 (pv 1)) (xl_cons (xe_var 2 (pv 2)) (xl_cons (xe_var 3 (pv 3)) xl_nil))))))
    (xs_one (xs_ret (xe_var 3 (pv 3))))
    xs_nil)))
    (xs_one (xs_ret xe_non)))), sp_least_cut⟩
theorem ok_settings_after (T : Tp K w mg) (am : Addr) (J : Nat → Wd → Prop) (st : ∀ g w u, (∀ a o, w.H a = some o → w.cl a = 2 → u.H a = some o ∧ u.cl a = 2) → J g w → J g u) : FnOk P w K mg base CX0 1 T.f_settings_after T.fd_settings_after ["settings", "command"] (spD K am J 2 pt_settings_after) :=
  fn_ok (G := ⟨am, J, st, ⟨fun _ => none, fun _ => 0⟩⟩) (k := 0) T.F_settings_after sc_settings_after rfl pt_settings_after_mo fun u X cdv A outer s H E hX hr => by
    subst hX
    exact ⟨tb_settings_after, (xs_cons (xs_set 2 (xe_ix (xe_var 1 (pv 1)) xe_int (fun _ _ => rfl)) (fun _ he => ps_set (i := 2) sc_settings_after.nd rfl (by first | exact Or.inl rfl | exact Or.inr rfl) he))
    (xs_cons (xs_if (xc_co (co_eq hr.units) (xe_var 2 (pv 2)) xe_str (nomark _))
    (xs_one (xs_ret (T.c_PLAIN.xe (by rfl))))
    xs_nil)
    (xs_cons (xs_if (xc_co (co_eq hr.units) (xe_var 2 (pv 2)) xe_str (nomark _))
    (xs_one (xs_ret (xe_add (xe_slice (xe_var 1 (pv 1)) (xo_some xe_int) xo_none) (xe_slice (xe_var 0 (pv 0)) (xo_some xe_int) xo_none))))
    xs_nil)
    (xs_cons (xs_if (xc_co (co_eq hr.units) (xe_var 2 (pv 2)) xe_str (nomark _))
    (xs_one (xs_ret (xe_add (xe_tup (xa_cons (xe_add (xe_ix (xe_var 0 (pv 0)) xe_int (fun _ _ => rfl)) (xe_ix (xe_var 1 (pv 1)) xe_int (fun _ _ => rfl))) (xa_cons (xe_add (xe_ix (xe_var 0 (pv 0)) xe_int (fun _ _ => rfl)) (xe_ix (xe_var 1 (pv 1)) xe_int (fun _ _ => rfl))) xa_nil))) (xe_slice (xe_var 0 (pv 0)) (xo_some xe_int) xo_none))))
    xs_nil)
    (xs_cons (xs_if (xc_kin T.k_SETTING_PLACES (xe_var 2 (pv 2)) (by rfl) T.g_SETTING_PLACES)
    (xs_cons (xs_set 3 (xe_kget T.k_SETTING_PLACES (xe_var 2 (pv 2)) (by rfl) T.g_SETTING_PLACES (fun _ _ => rfl)) (fun _ he => ps_set (i := 3) sc_settings_after.nd rfl (by first | exact Or.inl rfl | exact Or.inr rfl) he))
    (xs_one (xs_ret (xe_add (xe_add (xe_slice (xe_var 0 (pv 0)) xo_none (xo_some (xe_var 3 (pv 3)))) (xe_slice (xe_var 1 (pv 1)) (xo_some xe_int) xo_none)) (xe_slice (xe_var 0 (pv 0)) (xo_some (xe_add (xe_var 3 (pv 3)) xe_int)) xo_none)))))
    xs_nil)
    (xs_one (xs_ret (xe_var 0 (pv 0))))))))), sp_settings_after⟩
theorem ok_steps (T : Tp K w mg) (am : Addr) (J : Nat → Wd → Prop) (st : ∀ g w u, (∀ a o, w.H a = some o → w.cl a = 2 → u.H a = some o ∧ u.cl a = 2) → J g w → J g u) : FnOk P w K mg base CX0 2 T.f_steps T.fd_steps ["settings", "program"] (spD K am J 2 pt_steps) :=
  fn_ok (G := ⟨am, J, st, ⟨fun _ => none, fun _ => 0⟩⟩) (k := 1) T.F_steps sc_steps rfl pt_steps_mo fun u X cdv A outer s H E hX hr => by
    subst hX
    exact ⟨tb_steps, (xs_cons (xs_own 2 (ps_set (i := 2) sc_steps.nd rfl (by first | exact Or.inl rfl | exact Or.inr rfl) (pe_lst pa_nil)))
    (xs_cons (xs_for PassesOwn.never (by rfl) (xi_tup (xe_var 1 (pv 1))) (xg_name 3 (pg_name (i := 3) sc_steps.nd rfl (by first | exact Or.inl rfl | exact Or.inr rfl)))
    (xs_cons (xs_app 2 (xe_tup (xa_cons (xe_var 0 (pv 0)) (xa_cons (xe_var 3 (pv 3)) xa_nil))) (fun _ he => ps_expr (pe_bm PySem.F.plainAttrs_list PySem.F.slot_list_append PySem.F.type_list_append mt_append (pv 2) (pa_cons he pa_nil))))
    (xs_one (xs_set 0 (xe_callN (ok_settings_after T am J st) pt_settings_after_mo hr (by rfl) T.g_settings_after T.F_settings_after.kp T.b_settings_after (xl_cons (xe_var 0 (pv 0)) (xl_cons (xe_var 3 (pv 3)) xl_nil))) (fun _ he => ps_set (i := 0) sc_steps.nd rfl (by first | exact Or.inl rfl | exact Or.inr rfl) he)))))
    (xss_frz 2 (xs_one (xs_ret (xe_var 2 (pv 2))))))), sp_steps⟩
theorem ok_cuts (T : Tp K w mg) (am : Addr) (J : Nat → Wd → Prop) (st : ∀ g w u, (∀ a o, w.H a = some o → w.cl a = 2 → u.H a = some o ∧ u.cl a = 2) → J g w → J g u) : FnOk P w K mg base CX0 9 T.f_cuts T.fd_cuts ["machine", "settings", "program"] (spD K am J 3 pt_cuts) :=
  fn_ok (G := ⟨am, J, st, ⟨fun _ => none, fun _ => 0⟩⟩) (k := 8) T.F_cuts sc_cuts rfl pt_cuts_mo fun u X cdv A outer s H E hX hr => by
    subst hX
    exact ⟨tb_cuts, (xs_cons (xs_expr (xe_callN (ok_need_start T am J st) pt_need_start_mo hr (by rfl) T.g_need_start T.F_need_start.kp T.b_need_start (xl_cons (xe_var 0 (pv 0)) (xl_cons (xe_var 1 (pv 1)) (xl_cons (xe_var 2 (pv 2)) xl_nil)))))
    (xs_one (xs_ret (xe_callTy call_tupF cd_tup (by rfl) T.m_tuple (by decide +kernel) (xa_cons (xe_lc (own := [("now", 3), ("command", 4)]) (by rfl) sc_cuts.nd (xi_list (xe_callN (ok_steps T am J st) pt_steps_mo (hr.mono (by decide)) (by rfl) T.g_steps T.F_steps.kp T.b_steps (xl_cons (xe_var 1 (pv 1)) (xl_cons (xe_var 2 (pv 2)) xl_nil)))) (blkOk_by (own := [("now", 3), ("command", 4)]) (N := n_cuts) (sc := defScope s_cuts) (by decide +kernel)) (xgb_tup (by rfl) (xgbs_cons (xgb_name 3 (fun _ _ _ _ _ => pg_name (i := 3) sc_cuts.nd rfl (by first | exact Or.inl rfl | exact Or.inr rfl))) (xgbs_cons (xgb_name 4 (fun _ _ _ _ _ => pg_name (i := 4) sc_cuts.nd rfl (by first | exact Or.inl rfl | exact Or.inr rfl))) xgbs_nil))) (by decide) (fun _ _ _ _ _ => xts_nil) (fun _ _ _ _ _ => (xe_callN (ok_least_cut T am J st) pt_least_cut_mo (hr.mono (by decide)) (by rfl) T.g_least_cut T.F_least_cut.kp T.b_least_cut (xl_cons (xe_var 0 (pv 0)) (xl_cons (xe_var 3 (pv 3)) (xl_cons (xe_var 4 (pv 4)) xl_nil)))))) xa_nil))))), sp_cuts⟩
end
end TL

namespace TL
open PySem PySem.Spec PyProof.Rows L2 RZ

section
variable {P : Program} {w : World} {K : PySem.W.Frag} {mg : Str → Option Value} {base : Heap}
theorem ok__law_after (T : Tp K w mg) (am : Addr) : FnOk P w K mg base CX0 1 T.f__law_after T.fd__law_after ["state", "command"] (spD K am (JB am) 2 pt__law_after) :=
  fn_ok (G := ⟨am, (JB am), (JB.st am), ⟨fun _ => none, fun _ => 0⟩⟩) (k := 0) T.F__law_after sc__law_after rfl pt__law_after_mo fun u X cdv A outer s H E hX hr => by
    subst hX
    exact ⟨tb__law_after, (xs_cons (xs_asg (b := false) (xe_var 0 (pv 0)) (xg_tup (by rfl) (xgs_cons (xg_name 2 (pg_name (i := 2) sc__law_after.nd rfl (by first | exact Or.inl rfl | exact Or.inr rfl))) (xgs_cons (xg_name 3 (pg_name (i := 3) sc__law_after.nd rfl (by first | exact Or.inl rfl | exact Or.inr rfl))) (xgs_cons (xg_name 4 (pg_name (i := 4) sc__law_after.nd rfl (by first | exact Or.inl rfl | exact Or.inr rfl))) (xgs_cons (xg_name 5 (pg_name (i := 5) sc__law_after.nd rfl (by first | exact Or.inl rfl | exact Or.inr rfl))) (xgs_cons (xg_name 6 (pg_name (i := 6) sc__law_after.nd rfl (by first | exact Or.inl rfl | exact Or.inr rfl))) (xgs_cons (xg_name 7 (pg_name (i := 7) sc__law_after.nd rfl (by first | exact Or.inl rfl | exact Or.inr rfl))) xgs_nil))))))))
    (xs_cons (xs_set 8 (xe_ix (xe_var 1 (pv 1)) xe_int (fun _ _ => rfl)) (fun _ he => ps_set (i := 8) sc__law_after.nd rfl (by first | exact Or.inl rfl | exact Or.inr rfl) he))
    (xs_cons (xs_if (xc_co (co_eq hr.units) (xe_var 8 (pv 8)) xe_str (nomark _))
    (xs_one (xs_ret (xe_tup (xa_cons (xe_ix (xe_var 1 (pv 1)) xe_int (fun _ _ => rfl)) (xa_cons (xe_ix (xe_var 1 (pv 1)) xe_int (fun _ _ => rfl)) (xa_cons (xe_var 4 (pv 4)) (xa_cons (xe_var 5 (pv 5)) (xa_cons (xe_var 6 (pv 6)) (xa_cons (xe_var 7 (pv 7)) xa_nil)))))))))
    xs_nil)
    (xs_cons (xs_if (xc_co (co_eq hr.units) (xe_var 8 (pv 8)) xe_str (nomark _))
    (xs_one (xs_ret (xe_tup (xa_cons (xe_add (xe_var 2 (pv 2)) (xe_ix (xe_var 1 (pv 1)) xe_int (fun _ _ => rfl))) (xa_cons (xe_add (xe_var 3 (pv 3)) (xe_ix (xe_var 1 (pv 1)) xe_int (fun _ _ => rfl))) (xa_cons (xe_var 4 (pv 4)) (xa_cons (xe_var 5 (pv 5)) (xa_cons (xe_var 6 (pv 6)) (xa_cons (xe_var 7 (pv 7)) xa_nil)))))))))
    xs_nil)
    (xs_cons (xs_if (xc_co (co_eq hr.units) (xe_var 8 (pv 8)) xe_str (nomark _))
    (xs_one (xs_ret (xe_tup (xa_cons xe_int (xa_cons xe_int (xa_cons xe_int (xa_cons xe_int (xa_cons xe_int (xa_cons xe_str xa_nil)))))))))
    xs_nil)
    (xs_cons (xs_if (xc_co (co_eq hr.units) (xe_var 8 (pv 8)) xe_str (nomark _))
    (xs_one (xs_ret (xe_tup (xa_cons (xe_var 2 (pv 2)) (xa_cons (xe_var 3 (pv 3)) (xa_cons (xe_ix (xe_var 1 (pv 1)) xe_int (fun _ _ => rfl)) (xa_cons (xe_var 5 (pv 5)) (xa_cons (xe_var 6 (pv 6)) (xa_cons (xe_var 7 (pv 7)) xa_nil)))))))))
    xs_nil)
    (xs_cons (xs_if (xc_co (co_eq hr.units) (xe_var 8 (pv 8)) xe_str (nomark _))
    (xs_one (xs_ret (xe_tup (xa_cons (xe_var 2 (pv 2)) (xa_cons (xe_var 3 (pv 3)) (xa_cons (xe_var 4 (pv 4)) (xa_cons (xe_ix (xe_var 1 (pv 1)) xe_int (fun _ _ => rfl)) (xa_cons (xe_var 6 (pv 6)) (xa_cons (xe_var 7 (pv 7)) xa_nil)))))))))
    xs_nil)
    (xs_cons (xs_if (xc_co (co_eq hr.units) (xe_var 8 (pv 8)) xe_str (nomark _))
    (xs_one (xs_ret (xe_tup (xa_cons (xe_var 2 (pv 2)) (xa_cons (xe_var 3 (pv 3)) (xa_cons (xe_var 4 (pv 4)) (xa_cons (xe_var 5 (pv 5)) (xa_cons (xe_ix (xe_var 1 (pv 1)) xe_int (fun _ _ => rfl)) (xa_cons (xe_var 7 (pv 7)) xa_nil)))))))))
    xs_nil)
    (xs_one (xs_ret (xe_if (xc_co (co_eq hr.units) (xe_var 8 (pv 8)) xe_str (nomark _)) (xe_tup (xa_cons (xe_var 2 (pv 2)) (xa_cons (xe_var 3 (pv 3)) (xa_cons (xe_var 4 (pv 4)) (xa_cons (xe_var 5 (pv 5)) (xa_cons (xe_var 6 (pv 6)) (xa_cons (xe_ix (xe_var 1 (pv 1)) xe_int (fun _ _ => rfl)) xa_nil))))))) (xe_var 0 (pv 0))))))))))))), sp__law_after⟩
theorem ok__law_spot (T : Tp K w mg) (am : Addr) : FnOk P w K mg base CX0 1 T.f__law_spot T.fd__law_spot ["state", "px", "py"] (spD K am (JB am) 3 pt__law_spot) :=
  fn_ok (G := ⟨am, (JB am), (JB.st am), ⟨fun _ => none, fun _ => 0⟩⟩) (k := 0) T.F__law_spot sc__law_spot rfl pt__law_spot_mo fun u X cdv A outer s H E hX hr => by
    subst hX
    exact ⟨tb__law_spot, (xs_cons (xs_asg (b := false) (xe_slice (xe_var 0 (pv 0)) xo_none (xo_some xe_int)) (xg_tup (by rfl) (xgs_cons (xg_name 3 (pg_name (i := 3) sc__law_spot.nd rfl (by first | exact Or.inl rfl | exact Or.inr rfl))) (xgs_cons (xg_name 4 (pg_name (i := 4) sc__law_spot.nd rfl (by first | exact Or.inl rfl | exact Or.inr rfl))) (xgs_cons (xg_name 5 (pg_name (i := 5) sc__law_spot.nd rfl (by first | exact Or.inl rfl | exact Or.inr rfl))) xgs_nil)))))
    (xs_one (xs_ret (xe_ix (xe_lst (xa_cons (xe_tup (xa_cons (xe_add (xe_var 3 (pv 3)) (xe_var 1 (pv 1))) (xa_cons (xe_add (xe_var 4 (pv 4)) (xe_var 2 (pv 2))) xa_nil))) (xa_cons (xe_tup (xa_cons (xe_sub (xe_var 3 (pv 3)) (xe_var 2 (pv 2))) (xa_cons (xe_add (xe_var 4 (pv 4)) (xe_var 1 (pv 1))) xa_nil))) (xa_cons (xe_tup (xa_cons (xe_sub (xe_var 3 (pv 3)) (xe_var 1 (pv 1))) (xa_cons (xe_sub (xe_var 4 (pv 4)) (xe_var 2 (pv 2))) xa_nil))) (xa_cons (xe_tup (xa_cons (xe_add (xe_var 3 (pv 3)) (xe_var 2 (pv 2))) (xa_cons (xe_sub (xe_var 4 (pv 4)) (xe_var 1 (pv 1))) xa_nil))) xa_nil))))) (xe_var 5 (pv 5)) (fun _ _ => rfl))))), sp__law_spot⟩
theorem ok__law_reached (T : Tp K w mg) (am : Addr) : FnOk P w K mg base CX0 2 T.f__law_reached T.fd__law_reached ["unit", "state", "command", "signs"] (spD K am (JB am) 4 pt__law_reached) :=
  fn_ok (G := ⟨am, (JB am), (JB.st am), ⟨fun _ => none, fun _ => 0⟩⟩) (k := 1) T.F__law_reached sc__law_reached rfl pt__law_reached_mo fun u X cdv A outer s H E hX hr => by
    subst hX
    exact ⟨tb__law_reached, (xs_cons (xs_own 4 (ps_set (i := 4) sc__law_reached.nd rfl (by first | exact Or.inl rfl | exact Or.inr rfl) (pe_lst pa_nil)))
    (xs_cons (xs_if (xc_co (co_in (un65 hr)) (xe_ix (xe_var 2 (pv 2)) xe_int (fun _ _ => rfl)) (xe_tup (xa_cons xe_str (xa_cons xe_str xa_nil))) (by rfl))
    (xs_one (xs_for PassesOwn.never (by rfl) (xi_rng1 (by rfl) T.m_range (xa_cons (xe_ix (xe_var 2 (pv 2)) xe_int (fun _ _ => rfl)) xa_nil)) (xg_name 5 (pg_name (i := 5) sc__law_reached.nd rfl (by first | exact Or.inl rfl | exact Or.inr rfl)))
    (xs_one (xs_for PassesOwn.never (by rfl) (xi_rng1 (by rfl) T.m_range (xa_cons (xe_ix (xe_var 2 (pv 2)) xe_int (fun _ _ => rfl)) xa_nil)) (xg_name 6 (pg_name (i := 6) sc__law_reached.nd rfl (by first | exact Or.inl rfl | exact Or.inr rfl)))
    (xs_one (xs_app 4 (xe_tup (xa_cons (xe_callN (ok__law_spot T am) pt__law_spot_mo hr (by rfl) T.g__law_spot T.F__law_spot.kp T.b__law_spot (xl_cons (xe_var 1 (pv 1)) (xl_cons (xe_add (xe_ix (xe_var 2 (pv 2)) xe_int (fun _ _ => rfl)) (xe_var 5 (pv 5))) (xl_cons (xe_add (xe_ix (xe_var 2 (pv 2)) xe_int (fun _ _ => rfl)) (xe_var 6 (pv 6))) xl_nil)))) (xa_cons (xe_tup xa_nil) xa_nil))) (fun _ he => ps_expr (pe_bm PySem.F.plainAttrs_list PySem.F.slot_list_append PySem.F.type_list_append mt_append (pv 4) (pa_cons he pa_nil)))))))))
    xs_nil)
    (xs_cons (xs_if (xc_co (co_eq hr.units) (xe_ix (xe_var 2 (pv 2)) xe_int (fun _ _ => rfl)) xe_str (nomark _))
    (xs_cons (xs_asg (b := false) (xe_ix (xe_ix (xe_var 0 (pv 0)) xe_int (fun _ _ => rfl)) (xe_ix (xe_var 1 (pv 1)) xe_int (fun _ _ => rfl)) (fun _ _ => rfl)) (xg_tup (by rfl) (xgs_cons (xg_name 7 (pg_name (i := 7) sc__law_reached.nd rfl (by first | exact Or.inl rfl | exact Or.inr rfl))) (xgs_cons (xg_name 8 (pg_name (i := 8) sc__law_reached.nd rfl (by first | exact Or.inl rfl | exact Or.inr rfl))) xgs_nil))))
    (xs_one (xs_for PassesOwn.never (by rfl) (xi_rng1 (by rfl) T.m_range (xa_cons (xe_mul (xe_var 7 (pv 7)) (xe_var 3 (pv 3))) xa_nil)) (xg_name 5 (pg_name (i := 5) sc__law_reached.nd rfl (by first | exact Or.inl rfl | exact Or.inr rfl)))
    (xs_one (xs_for PassesOwn.never (by rfl) (xi_rng1 (by rfl) T.m_range (xa_cons (xe_var 8 (pv 8)) xa_nil)) (xg_name 6 (pg_name (i := 6) sc__law_reached.nd rfl (by first | exact Or.inl rfl | exact Or.inr rfl)))
    (xs_one (xs_for PassesOwn.never (by rfl) (xi_rng1 (by rfl) T.m_range (xa_cons (xe_mul (xe_ix (xe_var 1 (pv 1)) xe_int (fun _ _ => rfl)) (xe_ix (xe_var 1 (pv 1)) xe_int (fun _ _ => rfl))) xa_nil)) (xg_name 9 (pg_name (i := 9) sc__law_reached.nd rfl (by first | exact Or.inl rfl | exact Or.inr rfl)))
    (xs_cons (xs_par2 10 11 (xa_cons (xe_div (xe_var 9 (pv 9)) (xe_ix (xe_var 1 (pv 1)) xe_int (fun _ _ => rfl))) (xa_cons (xe_mod (xe_callTy call_int1 cd_int (by rfl) T.m_int (by decide +kernel) (xa_cons (xe_var 9 (pv 9)) xa_nil)) (xe_ix (xe_var 1 (pv 1)) xe_int (fun _ _ => rfl))) xa_nil)) (fun _ ha => ps_par (i := 10) (j := 11) (by rfl) sc__law_reached.nd rfl rfl (by decide) rfl rfl ha (by rfl)))
    (xs_cons (xs_set 12 (xe_callN (ok__law_spot T am) pt__law_spot_mo hr (by rfl) T.g__law_spot T.F__law_spot.kp T.b__law_spot (xl_cons (xe_var 1 (pv 1)) (xl_cons (xe_add (xe_add (xe_ix (xe_var 2 (pv 2)) xe_int (fun _ _ => rfl)) (xe_mul (xe_var 5 (pv 5)) (xe_ix (xe_var 1 (pv 1)) xe_int (fun _ _ => rfl)))) (xe_var 10 (pv 10))) (xl_cons (xe_add (xe_add (xe_ix (xe_var 2 (pv 2)) xe_int (fun _ _ => rfl)) (xe_mul (xe_var 6 (pv 6)) (xe_ix (xe_var 1 (pv 1)) xe_int (fun _ _ => rfl)))) (xe_var 11 (pv 11))) xl_nil)))) (fun _ he => ps_set (i := 12) sc__law_reached.nd rfl (by first | exact Or.inl rfl | exact Or.inr rfl) he))
    (xs_one (xs_app 4 (xe_tup (xa_cons (xe_var 12 (pv 12)) (xa_cons (xe_tup (xa_cons (xe_ix (xe_var 2 (pv 2)) xe_int (fun _ _ => rfl)) (xa_cons (xe_ix (xe_var 1 (pv 1)) xe_int (fun _ _ => rfl)) (xa_cons (xe_var 5 (pv 5)) (xa_cons (xe_var 6 (pv 6)) xa_nil))))) xa_nil))) (fun _ he => ps_expr (pe_bm PySem.F.plainAttrs_list PySem.F.slot_list_append PySem.F.type_list_append mt_append (pv 4) (pa_cons he pa_nil))))))))))))))
    xs_nil)
    (xss_frz 4 (xs_one (xs_ret (xe_var 4 (pv 4)))))))), sp__law_reached⟩
theorem ok__law_most (T : Tp K w mg) (am : Addr) : FnOk P w K mg base CX0 1 T.f__law_most T.fd__law_most ["unit", "command"] (spD K am (JB am) 2 pt__law_most) :=
  fn_ok (G := ⟨am, (JB am), (JB.st am), ⟨fun _ => none, fun _ => 0⟩⟩) (k := 0) T.F__law_most sc__law_most rfl pt__law_most_mo fun u X cdv A outer s H E hX hr => by
    subst hX
    exact ⟨tb__law_most, (xs_cons (xs_setLc 2 (own := [("name", 3), ("most", 4)]) (by rfl) sc__law_most.nd rfl rfl (sw_true rfl rfl rfl (by decide +kernel)) (xi_tup (xe_ix (xe_var 0 (pv 0)) xe_int (fun _ _ => rfl))) (blkOk_by (own := [("name", 3), ("most", 4)]) (N := n__law_most) (sc := defScope s__law_most) (by decide +kernel)) (xgb_tup (by rfl) (xgbs_cons (xgb_name 3 (fun _ _ _ _ _ => pg_name (i := 3) sc__law_most.nd rfl (by first | exact Or.inl rfl | exact Or.inr rfl))) (xgbs_cons (xgb_name 4 (fun _ _ _ _ _ => pg_name (i := 4) sc__law_most.nd rfl (by first | exact Or.inl rfl | exact Or.inr rfl))) xgbs_nil))) (by decide) (fun _ _ _ _ _ => (xts_one (XW.c (xw_and (xc_co (co_eq hr.units) (xe_ix (xe_var 1 (pv 1)) xe_int (fun _ _ => rfl)) xe_str (nomark _)) (xw_and1 (xc_co (co_eq hr.units) (xe_var 3 (pv 3)) (xe_ix (xe_var 1 (pv 1)) xe_int (fun _ _ => rfl)) (nomark _))))))) (fun _ _ _ _ _ => (xe_var 4 (pv 4))))
    (xs_one (xs_ret (xe_ix (xe_add (xe_var 2 (pv 2)) (xe_lst (xa_cons xe_int xa_nil))) xe_int (fun _ _ => rfl))))), sp__law_most⟩
theorem ok__law_cut_of (T : Tp K w mg) (am : Addr) : FnOk P w K mg base CX0 3 T.f__law_cut_of T.fd__law_cut_of ["unit", "state", "command"] (spD K am (JB am) 3 pt__law_cut_of) :=
  fn_ok (G := ⟨am, (JB am), (JB.st am), ⟨fun _ => none, fun _ => 0⟩⟩) (k := 2) T.F__law_cut_of sc__law_cut_of rfl pt__law_cut_of_mo fun u X cdv A outer s H E hX hr => by
    subst hX
    exact ⟨tb__law_cut_of, (xs_cons (xs_asg (b := false) (xe_ix (xe_var 0 (pv 0)) xe_int (fun _ _ => rfl)) (xg_tup (by rfl) (xgs_cons (xg_name 3 (pg_name (i := 3) sc__law_cut_of.nd rfl (by first | exact Or.inl rfl | exact Or.inr rfl))) (xgs_cons (xg_name 4 (pg_name (i := 4) sc__law_cut_of.nd rfl (by first | exact Or.inl rfl | exact Or.inr rfl))) xgs_nil))))
    (xs_cons (xs_for PassesOwn.never (by rfl) (xi_rng2 (by rfl) T.m_range (xa_cons xe_int (xa_cons (xe_add (xe_callN (ok__law_most T am) pt__law_most_mo (hr.mono (by decide)) (by rfl) T.g__law_most T.F__law_most.kp T.b__law_most (xl_cons (xe_var 0 (pv 0)) (xl_cons (xe_var 2 (pv 2)) xl_nil))) xe_int) xa_nil))) (xg_name 5 (pg_name (i := 5) sc__law_cut_of.nd rfl (by first | exact Or.inl rfl | exact Or.inr rfl)))
    (xs_cons (xs_setLc 6 (own := [("point", 7), ("source", 8)]) (by rfl) sc__law_cut_of.nd rfl rfl (sw_true rfl rfl rfl (by decide +kernel)) (xi_list (xe_callN (ok__law_reached T am) pt__law_reached_mo hr (by rfl) T.g__law_reached T.F__law_reached.kp T.b__law_reached (xl_cons (xe_var 0 (pv 0)) (xl_cons (xe_var 1 (pv 1)) (xl_cons (xe_var 2 (pv 2)) (xl_cons (xe_var 5 (pv 5)) xl_nil)))))) (blkOk_by (own := [("point", 7), ("source", 8)]) (N := n__law_cut_of) (sc := defScope s__law_cut_of) (by decide +kernel)) (xgb_tup (by rfl) (xgbs_cons (xgb_name 7 (fun _ _ _ _ _ => pg_name (i := 7) sc__law_cut_of.nd rfl (by first | exact Or.inl rfl | exact Or.inr rfl))) (xgbs_cons (xgb_name 8 (fun _ _ _ _ _ => pg_name (i := 8) sc__law_cut_of.nd rfl (by first | exact Or.inl rfl | exact Or.inr rfl))) xgbs_nil))) (by decide) (fun _ _ _ _ _ => xts_nil) (fun _ _ _ _ _ => (xe_var 7 (pv 7))))
    (xs_one (xs_if (xc_co (co_ne hr.units) (xe_lc (own := [("point", 7)]) (by rfl) sc__law_cut_of.nd (xi_list (xe_var 6 (pv 6))) (blkOk_by (own := [("point", 7)]) (N := n__law_cut_of) (sc := defScope s__law_cut_of) (by decide +kernel)) (xgb_name 7 (fun _ _ _ _ _ => pg_name (i := 7) sc__law_cut_of.nd rfl (by first | exact Or.inl rfl | exact Or.inr rfl))) (by decide) (fun _ _ _ _ _ => (xts_one (XW.c (xw_or (xc_not (xc_chain co_le co_lt2 xe_int (xe_ix (xe_var 7 (pv 7)) xe_int (fun _ _ => rfl)) (xe_var 3 (pv 3)))) (xw_or1 (xc_not (xc_chain co_le co_lt2 xe_int (xe_ix (xe_var 7 (pv 7)) xe_int (fun _ _ => rfl)) (xe_var 4 (pv 4))))))))) (fun _ _ _ _ _ => (xe_var 7 (pv 7)))) (xe_lst xa_nil) (nomark _))
    (xs_one (xs_ret (xe_var 5 (pv 5))))
    xs_nil))))
    (xs_one (xs_ret xe_non)))), sp__law_cut_of⟩
end
end TL

namespace TL
open PySem PySem.Spec PyProof.Rows L2 RZ

section
variable {P : Program} {w : World} {K : PySem.W.Frag} {mg : Str → Option Value} {base : Heap}
theorem ok__law_next (T : Tp K w mg) (am : Addr) : FnOk P w K mg base CX0 1 T.f__law_next T.fd__law_next ["m", "total"] (spD K am (JB am) 2 ptNext) := by
  have mi := T.m_int
  have ml := T.m_len
  refine T.F__law_next.ok sc__law_next (fun vs H Q E h => ?_) (fun cdv A outer s H vs Q E hr h => ?_)
  · obtain ⟨cl, g, ss, l, _⟩ := h
    exact l
  obtain ⟨cl, g, ss, l, ⟨c, r0, cells, rest0, n, pb0, lc, n0, ng⟩, rs, tot, e, t0, t1, g1, q⟩ := h
  subst e
  have ev : vs = [.ref am, .int tot] := by
    cases rs with
    | tok t =>
      cases t with
      | v h t => cases t; cases h; rfl
  subst ev
  have hu := hu_of hr
  let tR : TS := fun D σ Hx => ∃ u r rest, σ = [some (.ref am), some (.int tot), none, none, none, none] ∧ Hx = u.H ∧ Go ⟨H, cl⟩ u ∧ PB am c r cells rest n u ∧ ∀ k u', 0 ≤ k → k < tot → Go ⟨H, cl⟩ u' → JB am (g - 1) u' → D.rt (.int k) u'.H
  let tR2 : TS := fun D σ Hx => ∃ (u : Wd) (cv n1 : Int), σ = [some (.ref am), some (.int tot), none, some (.int n1), some (.int cv), none] ∧ Hx = u.H ∧ 1 ≤ n1 ∧ n1 ≤ 2 ^ 60 ∧ ∀ k : Int, 0 ≤ k → k < tot → D.rt (.int k) u.H
  refine ⟨_, pss_cons (ps_while PassesOwn.never (PW.pt (pw_and (pt_cmpR (op_neD hr.units) (pe_dget hu (pv 0) pe_str (fun _ _ => rfl)) (pe_lst pa_nil) (nomark _)) (pw_and1 (pt_cmpR op_eq (pe_ix ix_list (pe_dget hu (pv 0) pe_str (fun _ _ => rfl)) pe_int (fun _ _ => rfl)) pe_int (nomark _)))))
      (pss_one (ps_dput hu (pv 0) pe_str (pe_slice sl_list (pe_dget hu (pv 0) pe_str (fun _ _ => rfl)) (po_some pe_int) po_none) rfl)))
    (L2.PSs.imp (t' := tR) (pss_cons (ps_if (pt_cmpR (op_neD hr.units) (pe_dget hu (pv 0) pe_str (fun _ _ => rfl)) (pe_lst pa_nil) (nomark _))
        (pss_cons (ps_set (i := 2) sc__law_next.nd rfl (.inl rfl) (pe_callTy call_int1 (by rfl) mi (by decide +kernel) (pa_cons (pe_ix ix_list (pe_dget hu (pv 0) pe_str (fun _ _ => rfl)) pe_int (fun _ _ => rfl)) pa_nil)))
        (pss_cons (ps_asg (pe_op op_fdiv (pv 2) (pv 1)) (pg_sub (pe_dget hu (pv 0) pe_str (fun _ _ => rfl)) pe_int set_list))
        (pss_one (ps_ret (pe_op op_mod (pv 2) (pv 1)))))) pss_nil)
    (pss_cons (ps_set (i := 3) sc__law_next.nd rfl (.inl rfl) (pe_op op_add (pe_dget hu (pv 0) pe_str (fun _ _ => rfl)) pe_int))
    (pss_cons (ps_dput hu (pv 0) pe_str (pv 3) rfl)
    (pss_cons (ps_set (i := 4) sc__law_next.nd rfl (.inl rfl) (pe_ifExp (pt_cmpR (op_neD hr.units) (pe_dget hu (pv 0) pe_str (fun _ _ => rfl)) (pe_lst pa_nil) (nomark _))
        (pe_ix ix_list (pe_dget hu (pv 0) pe_str (fun _ _ => rfl)) (pe_op op_mod (pe_callTy call_int1 (by rfl) mi (by decide +kernel) (pa_cons (pv 3) pa_nil)) (pe_callB call_len_seq (by rfl) ml (by decide +kernel) (pa_cons (pe_dget hu (pv 0) pe_str (fun _ _ => rfl)) pa_nil))) (fun _ _ => rfl)) pe_int))
    (L2.PSs.imp (t' := tR2) (pss_cons (ps_set (i := 5) sc__law_next.nd rfl (.inl rfl) (pe_op op_mul (pe_callTy call_int1 (by rfl) mi (by decide +kernel) (pa_cons (pe_op op_add (pe_op op_add (pe_op op_mod (pe_callTy call_int1 (by rfl) mi (by decide +kernel) (pa_cons (pv 4) pa_nil)) pe_int) (pe_op op_mul pe_int (pv 3))) (pe_op op_mul (pe_op op_mul pe_int (pv 3)) (pv 3))) pa_nil)) pe_int))
    (pss_cons (ps_set (i := 5) sc__law_next.nd rfl (.inl rfl) (pe_op op_mul (pe_callTy call_int1 (by rfl) mi (by decide +kernel) (pa_cons (pe_op op_add (pe_op op_mod (pe_callTy call_int1 (by rfl) mi (by decide +kernel) (pa_cons (pv 5) pa_nil)) pe_int) (pe_op op_mul pe_int (pv 3))) pa_nil)) pe_int))
    (pss_one (ps_ret (pe_op op_mod (pe_callTy call_int1 (by rfl) mi (by decide +kernel) (pa_cons (pe_op op_fdiv (pe_op op_mod (pe_callTy call_int1 (by rfl) mi (by decide +kernel) (pa_cons (pv 5) pa_nil)) pe_int) pe_int) pa_nil)) (pv 1)))))) ?C))))) ?B), ?A⟩
  case A =>
    refine ⟨fun m σ H' => σ = [some (.ref am), some (.int tot), none, none, none, none] ∧ ∃ u r rest, u.H = H' ∧ Go ⟨H, cl⟩ u ∧ PB am c r cells rest n u ∧ m = rest.length, ⟨rest0.length, rfl, ⟨H, cl⟩, r0, rest0, rfl, Go.refl _, pb0, rfl⟩, ?_⟩
    rintro m σ H1 ⟨rfl, u, r, rest, rfl, go, pb, rfl⟩
    refine ⟨_, rfl, am, .ref r, rfl, .inl ⟨_, kS "rest", .inl pb.d, rfl, (dk3_rest c r n).symm⟩, Nat.zero_le _, fun p np => ?_⟩
    have pb1 : PB am c r cells rest n (u.new p (.lst []) 0) := pb.new np 0
    have go1 : Go ⟨H, cl⟩ (u.new p (.lst []) 0) := go.trans (Go.new' np 0)
    refine ⟨.list (rest.map PyData.int), .list [], .lst (.inl (.inl pb1.hr)) (dp_ints rest), .lst (.inl (.inl upd_same)) .nil, shaped_ints rest, shaped_ints [], _, rfl, ?_⟩
    rw [eqv_intnil]
    have fin : ∀ (k : Int) (u' : Wd), 0 ≤ k → k < tot → Go ⟨H, cl⟩ u' → JB am (g - 1) u' → Q (.int k) u'.H := fun k u' a b go' jb => q k a b u' (.int k) go' jb (.int k)
    cases rest with
    | nil => exact ⟨u.new p (.lst []) 0, r, [], rfl, rfl, go1, pb1, fin⟩
    | cons x rs =>
      refine iteT ?_
      refine ⟨_, rfl, am, .ref r, rfl, .inl ⟨_, kS "rest", .inl pb1.d, rfl, (dk3_rest c r n).symm⟩, r, (x :: rs).map V.int, 0, .int x, rfl, rfl, .inl (.inl pb1.hr), atI_nat (j := 0) rfl, rfl, _, rfl, ?_⟩
      by_cases hx : x = 0
      · have e1 : decide (V.int x = V.int 0) = true := by rw [hx]; exact decide_eq_true rfl
        rw [e1]
        refine iteT ?_
        refine ⟨fun σ' H' => σ' = [some (.ref am), some (.int tot), none, none, none, none] ∧ ∃ u r rest, u.H = H' ∧ Go ⟨H, cl⟩ u ∧ PB am c r cells rest n u ∧ rs.length = rest.length, fun σ' H' ⟨e, u', r', rest', a1, a2, a3, a4⟩ => ⟨rest'.length, by rw [← a4]; exact Nat.lt_succ_self _, e, u', r', rest', a1, a2, a3, rfl⟩, ?_⟩
        refine ⟨_, rfl, am, .ref r, rfl, .inl ⟨_, kS "rest", .inl pb1.d, rfl, (dk3_rest c r n).symm⟩, 1, rfl, r, (x :: rs).map V.int, rfl, .inl (.inl pb1.hr), fun p2 np2' => ?_⟩
        have np2 : (u.new p (.lst []) 0).H p2 = none := np2'
        rw [map_drop1]
        have pb2 : PB am c r cells (x :: rs) n ((u.new p (.lst []) 0).new p2 (.lst (rs.map V.int)) 2) := pb1.new np2 2
        have go2 : Go ⟨H, cl⟩ ((u.new p (.lst []) 0).new p2 (.lst (rs.map V.int)) 2) := go1.trans (Go.new' np2 2)
        refine ⟨_, rfl, am, _, rfl, .inl ⟨_, kS "rest", pb2.d, rfl, dk3_len _ _ _, rfl⟩, rfl, ?_⟩
        rw [dk3_putR]
        have na : am ≠ p2 := fun z => by have := pb1.d; rw [z, np2] at this; cases this
        have nc : c ≠ p2 := fun z => by have := pb1.hc; rw [z, np2] at this; cases this
        have nd : am ≠ c := ne_of pb2.d pb2.hc (by intro z; cases z)
        refine ⟨⟨_, ((u.new p (.lst []) 0).new p2 (.lst (rs.map V.int)) 2).cl⟩, p2, rs, rfl, go2.trans (go_write2 pb2.d pb2.ca), ⟨upd_same, ?_, ?_, pb2.ca, pb2.cc, if_pos rfl, nc.symm, ?_⟩, rfl⟩
        · exact (upd_ne nd.symm).trans pb2.hc
        · exact (upd_ne na.symm).trans upd_same
        · have := pb2.lr
          rw [List.length_cons] at this
          omega
      · have e1 : decide (V.int x = V.int 0) = false := decide_eq_false fun z => hx (V.int.inj z)
        rw [e1]
        refine iteF ?_
        exact ⟨u.new p (.lst []) 0, r, x :: rs, rfl, rfl, go1, pb1, fin⟩
  case B =>
    intro D σ Hx ⟨u, r, rest, e1, e2, go, pb, fin⟩
    subst e1 e2
    refine ⟨_, rfl, am, .ref r, rfl, .inl ⟨_, kS "rest", .inl pb.d, rfl, (dk3_rest c r n).symm⟩, Nat.zero_le _, fun p np => ?_⟩
    have pb1 : PB am c r cells rest n (u.new p (.lst []) 0) := pb.new np 0
    have go1 : Go ⟨H, cl⟩ (u.new p (.lst []) 0) := go.trans (Go.new' np 0)
    refine ⟨.list (rest.map PyData.int), .list [], .lst (.inl (.inl pb1.hr)) (dp_ints rest), .lst (.inl (.inl upd_same)) .nil, shaped_ints rest, shaped_ints [], _, rfl, ?_⟩
    rw [eqv_intnil]
    cases rest with
    | cons x rs =>
      refine iteT ?_
      -- rest = int(m["rest"][0])
      refine ⟨_, rfl, am, .ref r, rfl, .inl ⟨_, kS "rest", .inl pb1.d, rfl, (dk3_rest c r n).symm⟩, r, (x :: rs).map V.int, 0, .int x, rfl, rfl, .inl (.inl pb1.hr), atI_nat (j := 0) rfl, .inl ⟨x, rfl, ?_⟩⟩
      -- m["rest"][0] = rest // total
      refine ⟨_, rfl, _, rfl, x, tot, rfl, rfl, ⟨t0, t1⟩, _, rfl, am, .ref r, rfl, .inl ⟨_, kS "rest", .inl pb1.d, rfl, (dk3_rest c r n).symm⟩, r, (x :: rs).map V.int, 0, 0, rfl, rfl, pb1.hr, (by simp [ixN] <;> omega), ?_⟩
      have e3 : ((x :: rs).map V.int).set 0 (V.int (x / tot)) = ((x / tot) :: rs).map V.int := rfl
      rw [e3]
      -- return rest % total
      refine ⟨_, rfl, _, rfl, x, tot, rfl, rfl, t0, ?_⟩
      have nd : am ≠ r := ne_of pb1.d pb1.hr (by intro z; cases z)
      refine fin (x % tot) ⟨_, (u.new p (.lst []) 0).cl⟩ (Int.emod_nonneg _ (by omega)) (Int.emod_lt_of_pos _ t0) (go1.trans (go_write2 pb1.hr pb1.cr)) ⟨c, r, cells, (x / tot) :: rs, n, ⟨(upd_ne nd).trans pb1.d, (upd_ne pb1.ne.symm).trans pb1.hc, upd_same, pb1.ca, pb1.cc, pb1.cr, pb1.ne, pb1.lr⟩, lc, n0, by omega⟩
    | nil =>
      refine iteF ?_
      -- k = m["spot"] + 1; m["spot"] = k
      refine ⟨_, rfl, am, .int n, rfl, .inl ⟨_, kS "spot", .inl pb1.d, rfl, (dk3_spot c r n).symm⟩, n, 1, rfl, rfl, ?_⟩
      refine ⟨_, rfl, _, rfl, am, _, rfl, .inl ⟨_, kS "spot", pb1.d, rfl, dk3_len _ _ _, rfl⟩, ?_⟩
      rw [dk3_putN]
      have nc : am ≠ c := ne_of pb1.d pb1.hc (by intro z; cases z)
      have nr : am ≠ r := ne_of pb1.d pb1.hr (by intro z; cases z)
      let u2 : Wd := ⟨upd (u.new p (.lst []) 0).H am (.dK (dk3 c r (n + 1))), (u.new p (.lst []) 0).cl⟩
      have pb2 : PB am c r cells [] (n + 1) u2 := ⟨upd_same, (upd_ne nc.symm).trans pb1.hc, (upd_ne nr.symm).trans pb1.hr, pb1.ca, pb1.cc, pb1.cr, pb1.ne, pb1.lr⟩
      have go2 : Go ⟨H, cl⟩ u2 := go1.trans (go_write2 pb1.d pb1.ca)
      refine ⟨_, rfl, am, .ref c, rfl, .inl ⟨_, kS "cells", .inl pb2.d, rfl, (dk3_cells c r (n + 1)).symm⟩, Nat.zero_le _, fun p3 np3 => ?_⟩
      have pb3 : PB am c r cells [] (n + 1) (u2.new p3 (.lst []) 0) := pb2.new np3 0
      have go3 : Go ⟨H, cl⟩ (u2.new p3 (.lst []) 0) := go2.trans (Go.new' np3 0)
      refine ⟨.list (cells.map PyData.int), .list [], .lst (.inl (.inl pb3.hc)) (dp_ints cells), .lst (.inl (.inl upd_same)) .nil, shaped_ints cells, shaped_ints [], _, rfl, ?_⟩
      rw [eqv_intnil]
      have end3 : ∀ k : Int, 0 ≤ k → k < tot → D.rt (.int k) (u2.new p3 (.lst []) 0).H := fun k a b => fin k _ a b go3 ⟨c, r, cells, [], n + 1, pb3, lc, by omega, by omega⟩
      have b1 : n + 1 ≤ 2 ^ 60 := by omega
      cases cells with
      | nil =>
        refine iteF ?_
        exact ⟨u2.new p3 (.lst []) 0, 29, n + 1, rfl, rfl, by omega, b1, end3⟩
      | cons x cs =>
        refine iteT ?_
        have hl : (0 : Int) < ((x :: cs).map V.int).length := by rw [List.length_map, List.length_cons]; omega
        have i0 : 0 ≤ (n + 1) % (((x :: cs).map V.int).length : Int) := Int.emod_nonneg _ (by omega)
        have i1 : (n + 1) % (((x :: cs).map V.int).length : Int) < (((x :: cs).map V.int).length : Int) := Int.emod_lt_of_pos _ hl
        obtain ⟨j, hj⟩ : ∃ j : Nat, (n + 1) % (((x :: cs).map V.int).length : Int) = (j : Int) := ⟨_, (Int.toNat_of_nonneg i0).symm⟩
        have jl : j < (x :: cs).length := by
          rw [hj, List.length_map] at i1
          omega
        have ej : ((x :: cs).map V.int)[j]? = some (.int (x :: cs)[j]) := by
          rw [List.getElem?_map, List.getElem?_eq_getElem jl]
          rfl
        refine ⟨_, rfl, am, .ref c, rfl, .inl ⟨_, kS "cells", .inl pb3.d, rfl, (dk3_cells c r (n + 1)).symm⟩, _, rfl, .inl ⟨n + 1, rfl, _, rfl, am, .ref c, rfl, .inl ⟨_, kS "cells", .inl pb3.d, rfl, (dk3_cells c r (n + 1)).symm⟩, c, _, rfl, .inl (.inl (.inl pb3.hc)), n + 1, _, rfl, rfl, hl, c, _, _, _, rfl, rfl, .inl (.inl pb3.hc), (by rw [hj]; exact atI_nat ej), ?_⟩⟩
        exact ⟨u2.new p3 (.lst []) 0, (x :: cs)[j], n + 1, rfl, rfl, by omega, b1, end3⟩
  case C =>
    intro D σ Hx ⟨u, cv, n1, e1, e2, l1, l2, fin⟩
    subst e1 e2
    have w1 : -(2 ^ 64) < n1 ∧ n1 < 2 ^ 64 := ⟨by omega, by omega⟩
    refine ⟨_, rfl, .inl ⟨cv, rfl, cv, 2147483563, rfl, rfl, (by show (0 : Int) < 2147483563; decide), _, rfl, 6029, n1, rfl, rfl, .inl ⟨by decide, by decide⟩, _, _, rfl, rfl, _, rfl, 37, n1, rfl, rfl, .inl ⟨by decide, by decide⟩, _, rfl, 37 * n1, n1, rfl, rfl, .inr w1, _, _, rfl, rfl, .inl ⟨_, rfl, _, 40014, rfl, rfl, .inr ⟨by decide, by decide⟩, ?_⟩⟩⟩
    refine ⟨_, rfl, .inl ⟨_, rfl, _, 2147483563, rfl, rfl, (by show (0 : Int) < 2147483563; decide), _, rfl, 88903, n1, rfl, rfl, .inl ⟨by decide, by decide⟩, _, _, rfl, rfl, .inl ⟨_, rfl, _, 742938285, rfl, rfl, .inr ⟨by decide, by decide⟩, ?_⟩⟩⟩
    refine ⟨_, rfl, .inl ⟨_, rfl, _, 2147483549, rfl, rfl, (by show (0 : Int) < 2147483549; decide), _, 17, rfl, rfl, ⟨by decide, by decide⟩, .inl ⟨_, rfl, _, rfl, _, tot, rfl, rfl, t0, ?_⟩⟩⟩
    exact fin _ (Int.emod_nonneg _ (by omega)) (Int.emod_lt_of_pos _ t0)

theorem ok__law_machine (T : Tp K w mg) (am : Addr) : FnOk P w K mg base CX0 2 T.f__law_machine T.fd__law_machine ["m", "wide", "tall"] (spD K am (JB am) 3 pt__law_machine) :=
  fn_ok (G := ⟨am, (JB am), (JB.st am), ⟨fun _ => none, fun _ => 0⟩⟩) (k := 1) T.F__law_machine sc__law_machine rfl pt__law_machine_mo fun u X cdv A outer s H E hX hr => by
    subst hX
    exact ⟨tb__law_machine, (xs_cons (xs_set 3 (xe_callTy call_tupF cd_tup (by rfl) T.m_tuple (by decide +kernel) (xa_cons (xe_lc (own := [("k", 7)]) (by rfl) sc__law_machine.nd (xi_rng1 (by rfl) T.m_range (xa_cons (xe_add xe_int (xe_callN (ok__law_next T am) pt__law_next_mo hr (by rfl) T.g__law_next T.F__law_next.kp T.b__law_next (xl_tok 0 (pv 0) (xl_cons xe_int xl_nil)))) xa_nil)) (blkOk_by (own := [("k", 7)]) (N := n__law_machine) (sc := defScope s__law_machine) (by decide +kernel)) (xgb_name 7 (fun _ _ _ _ _ => pg_name (i := 7) sc__law_machine.nd rfl (by first | exact Or.inl rfl | exact Or.inr rfl))) (by decide) (fun _ _ _ _ _ => xts_nil) (fun _ _ _ _ _ => (xe_tup (xa_cons (xe_add xe_int (xe_callN (ok__law_next T am) pt__law_next_mo hr (by rfl) T.g__law_next T.F__law_next.kp T.b__law_next (xl_tok 0 (pv 0) (xl_cons xe_int xl_nil)))) (xa_cons (xe_add xe_int (xe_callN (ok__law_next T am) pt__law_next_mo hr (by rfl) T.g__law_next T.F__law_next.kp T.b__law_next (xl_tok 0 (pv 0) (xl_cons xe_int xl_nil)))) xa_nil))))) xa_nil)) (fun _ he => ps_set (i := 3) sc__law_machine.nd rfl (by first | exact Or.inl rfl | exact Or.inr rfl) he))
    (xs_cons (xs_setLc 4 (own := [("name", 6)]) (by rfl) sc__law_machine.nd rfl rfl (sw_true rfl rfl rfl (by decide +kernel)) (xi_str xe_str) (blkOk_by (own := [("name", 6)]) (N := n__law_machine) (sc := defScope s__law_machine) (by decide +kernel)) (xgb_name 6 (fun _ _ _ _ _ => pg_name (i := 6) sc__law_machine.nd rfl (by first | exact Or.inl rfl | exact Or.inr rfl))) (by decide) (fun _ _ _ _ _ => (xts_one (xc_co co_gt (xe_callN (ok__law_next T am) pt__law_next_mo hr (by rfl) T.g__law_next T.F__law_next.kp T.b__law_next (xl_tok 0 (pv 0) (xl_cons xe_int xl_nil))) xe_int (nomark _)))) (fun _ _ _ _ _ => (xe_var 6 (pv 6))))
    (xs_cons (xs_set 5 (xe_callTy call_tupF cd_tup (by rfl) T.m_tuple (by decide +kernel) (xa_cons (xe_lc (own := [("name", 6)]) (by rfl) sc__law_machine.nd (xi_list (xe_var 4 (pv 4))) (blkOk_by (own := [("name", 6)]) (N := n__law_machine) (sc := defScope s__law_machine) (by decide +kernel)) (xgb_name 6 (fun _ _ _ _ _ => pg_name (i := 6) sc__law_machine.nd rfl (by first | exact Or.inl rfl | exact Or.inr rfl))) (by decide) (fun _ _ _ _ _ => xts_nil) (fun _ _ _ _ _ => (xe_tup (xa_cons (xe_var 6 (pv 6)) (xa_cons (xe_add xe_int (xe_callN (ok__law_next T am) pt__law_next_mo hr (by rfl) T.g__law_next T.F__law_next.kp T.b__law_next (xl_tok 0 (pv 0) (xl_cons xe_int xl_nil)))) xa_nil))))) xa_nil)) (fun _ he => ps_set (i := 5) sc__law_machine.nd rfl (by first | exact Or.inl rfl | exact Or.inr rfl) he))
    (xs_one (xs_ret (xe_tup (xa_cons (xe_tup (xa_cons (xe_add xe_int (xe_callN (ok__law_next T am) pt__law_next_mo hr (by rfl) T.g__law_next T.F__law_next.kp T.b__law_next (xl_tok 0 (pv 0) (xl_cons (xe_var 1 (pv 1)) xl_nil)))) (xa_cons (xe_add xe_int (xe_callN (ok__law_next T am) pt__law_next_mo hr (by rfl) T.g__law_next T.F__law_next.kp T.b__law_next (xl_tok 0 (pv 0) (xl_cons (xe_var 2 (pv 2)) xl_nil)))) xa_nil))) (xa_cons (xe_var 3 (pv 3)) (xa_cons (xe_var 5 (pv 5)) xa_nil))))))))), sp__law_machine⟩
theorem ok__law_of (T : Tp K w mg) (am : Addr) : FnOk P w K mg base CX0 2 T.f__law_of T.fd__law_of ["m", "some"] (spD K am (JB am) 2 pt__law_of) :=
  fn_ok (G := ⟨am, (JB am), (JB.st am), ⟨fun _ => none, fun _ => 0⟩⟩) (k := 1) T.F__law_of sc__law_of rfl pt__law_of_mo fun u X cdv A outer s H E hX hr => by
    subst hX
    exact ⟨tb__law_of, (xs_one (xs_ret (xe_ix (xe_var 1 (pv 1)) (xe_callN (ok__law_next T am) pt__law_next_mo hr (by rfl) T.g__law_next T.F__law_next.kp T.b__law_next (xl_tok 0 (pv 0) (xl_cons (xe_callB call_lenA cd_len (by rfl) T.m_len (by decide +kernel) (xa_cons (xe_var 1 (pv 1)) xa_nil)) xl_nil))) (fun _ _ => rfl)))), sp__law_of⟩
theorem ok__law_settings (T : Tp K w mg) (am : Addr) : FnOk P w K mg base CX0 3 T.f__law_settings T.fd__law_settings ["m", "unit"] (spD K am (JB am) 2 pt__law_settings) :=
  fn_ok (G := ⟨am, (JB am), (JB.st am), ⟨fun _ => none, fun _ => 0⟩⟩) (k := 2) T.F__law_settings sc__law_settings rfl pt__law_settings_mo fun u X cdv A outer s H E hX hr => by
    subst hX
    exact ⟨tb__law_settings, (xs_cons (xs_set 2 (xe_tup (xa_cons (xe_sub (xe_callN (ok__law_next T am) pt__law_next_mo (hr.mono (by decide)) (by rfl) T.g__law_next T.F__law_next.kp T.b__law_next (xl_tok 0 (pv 0) (xl_cons xe_int xl_nil))) xe_int) (xa_cons (xe_sub (xe_callN (ok__law_next T am) pt__law_next_mo (hr.mono (by decide)) (by rfl) T.g__law_next T.F__law_next.kp T.b__law_next (xl_tok 0 (pv 0) (xl_cons xe_int xl_nil))) xe_int) xa_nil))) (fun _ he => ps_set (i := 2) sc__law_settings.nd rfl (by first | exact Or.inl rfl | exact Or.inr rfl) he))
    (xs_cons (xs_set 3 (xe_tup (xa_cons (xe_callN (ok__law_next T am) pt__law_next_mo (hr.mono (by decide)) (by rfl) T.g__law_next T.F__law_next.kp T.b__law_next (xl_tok 0 (pv 0) (xl_cons xe_int xl_nil))) (xa_cons (xe_callN (ok__law_next T am) pt__law_next_mo (hr.mono (by decide)) (by rfl) T.g__law_next T.F__law_next.kp T.b__law_next (xl_tok 0 (pv 0) (xl_cons (xe_callB call_lenA cd_len (by rfl) T.m_len (by decide +kernel) (xa_cons (xe_ix (xe_var 1 (pv 1)) xe_int (fun _ _ => rfl)) xa_nil)) xl_nil))) (xa_cons (xe_add xe_int (xe_callN (ok__law_next T am) pt__law_next_mo (hr.mono (by decide)) (by rfl) T.g__law_next T.F__law_next.kp T.b__law_next (xl_tok 0 (pv 0) (xl_cons xe_int xl_nil)))) xa_nil)))) (fun _ he => ps_set (i := 3) sc__law_settings.nd rfl (by first | exact Or.inl rfl | exact Or.inr rfl) he))
    (xs_one (xs_ret (xe_add (xe_add (xe_var 2 (pv 2)) (xe_var 3 (pv 3))) (xe_tup (xa_cons (xe_callN (ok__law_of T am) pt__law_of_mo hr (by rfl) T.g__law_of T.F__law_of.kp T.b__law_of (xl_tok 0 (pv 0) (xl_cons (xe_lst (xa_cons xe_str (xa_cons xe_str xa_nil))) xl_nil))) xa_nil))))))), sp__law_settings⟩
theorem ok__law_command (T : Tp K w mg) (am : Addr) : FnOk P w K mg base CX0 3 T.f__law_command T.fd__law_command ["m", "unit"] (spD K am (JB am) 2 pt__law_command) :=
  fn_ok (G := ⟨am, (JB am), (JB.st am), ⟨fun _ => none, fun _ => 0⟩⟩) (k := 2) T.F__law_command sc__law_command rfl pt__law_command_mo fun u X cdv A outer s H E hX hr => by
    subst hX
    exact ⟨tb__law_command, (xs_cons (xs_par3 2 3 4 (xa_cons (xe_sub (xe_callN (ok__law_next T am) pt__law_next_mo (hr.mono (by decide)) (by rfl) T.g__law_next T.F__law_next.kp T.b__law_next (xl_tok 0 (pv 0) (xl_cons xe_int xl_nil))) xe_int) (xa_cons (xe_sub (xe_callN (ok__law_next T am) pt__law_next_mo (hr.mono (by decide)) (by rfl) T.g__law_next T.F__law_next.kp T.b__law_next (xl_tok 0 (pv 0) (xl_cons xe_int xl_nil))) xe_int) (xa_cons (xe_callN (ok__law_next T am) pt__law_next_mo (hr.mono (by decide)) (by rfl) T.g__law_next T.F__law_next.kp T.b__law_next (xl_tok 0 (pv 0) (xl_cons xe_int xl_nil))) xa_nil))) (fun _ ha => ps_par3 (i := 2) (j := 3) (l := 4) (by rfl) sc__law_command.nd rfl rfl rfl (by decide) (by decide) (by decide) rfl rfl rfl ha (by rfl)))
    (xs_cons (xs_if (XW.c (xw_and (xc_co co_lt2 (xe_var 4 (pv 4)) xe_int (nomark _)) (xw_and1 (xc_co (co_ne hr.units) (xe_ix (xe_var 1 (pv 1)) xe_int (fun _ _ => rfl)) (xe_tup xa_nil) (nomark _)))))
    (xs_one (xs_ret (xe_tup (xa_cons xe_str (xa_cons (xe_var 2 (pv 2)) (xa_cons (xe_var 3 (pv 3)) (xa_cons (xe_ix (xe_callN (ok__law_of T am) pt__law_of_mo hr (by rfl) T.g__law_of T.F__law_of.kp T.b__law_of (xl_tok 0 (pv 0) (xl_cons (xe_ix (xe_var 1 (pv 1)) xe_int (fun _ _ => rfl)) xl_nil))) xe_int (fun _ _ => rfl)) xa_nil)))))))
    xs_nil)
    (xs_cons (xs_if (xc_co co_lt2 (xe_var 4 (pv 4)) xe_int (nomark _))
    (xs_one (xs_ret (xe_tup (xa_cons (xe_callN (ok__law_of T am) pt__law_of_mo hr (by rfl) T.g__law_of T.F__law_of.kp T.b__law_of (xl_tok 0 (pv 0) (xl_cons (xe_lst (xa_cons xe_str (xa_cons xe_str (xa_cons xe_str (xa_cons xe_str xa_nil))))) xl_nil))) (xa_cons (xe_var 2 (pv 2)) (xa_cons (xe_var 3 (pv 3)) (xa_cons (xe_add xe_int (xe_callN (ok__law_next T am) pt__law_next_mo (hr.mono (by decide)) (by rfl) T.g__law_next T.F__law_next.kp T.b__law_next (xl_tok 0 (pv 0) (xl_cons xe_int xl_nil)))) (xa_cons (xe_add xe_int (xe_callN (ok__law_next T am) pt__law_next_mo (hr.mono (by decide)) (by rfl) T.g__law_next T.F__law_next.kp T.b__law_next (xl_tok 0 (pv 0) (xl_cons xe_int xl_nil)))) xa_nil))))))))
    xs_nil)
    (xs_cons (xs_if (xc_co co_lt2 (xe_var 4 (pv 4)) xe_int (nomark _))
    (xs_one (xs_ret (xe_tup (xa_cons (xe_callN (ok__law_of T am) pt__law_of_mo hr (by rfl) T.g__law_of T.F__law_of.kp T.b__law_of (xl_tok 0 (pv 0) (xl_cons (xe_lst (xa_cons xe_str (xa_cons xe_str xa_nil))) xl_nil))) (xa_cons (xe_var 2 (pv 2)) (xa_cons (xe_var 3 (pv 3)) xa_nil))))))
    xs_nil)
    (xs_cons (xs_set 5 (xe_lst (xa_cons (xe_tup (xa_cons xe_str (xa_cons (xe_callN (ok__law_next T am) pt__law_next_mo (hr.mono (by decide)) (by rfl) T.g__law_next T.F__law_next.kp T.b__law_next (xl_tok 0 (pv 0) (xl_cons xe_int xl_nil))) xa_nil))) (xa_cons (xe_tup (xa_cons xe_str (xa_cons (xe_callN (ok__law_next T am) pt__law_next_mo (hr.mono (by decide)) (by rfl) T.g__law_next T.F__law_next.kp T.b__law_next (xl_tok 0 (pv 0) (xl_cons (xe_callB call_lenA cd_len (by rfl) T.m_len (by decide +kernel) (xa_cons (xe_ix (xe_var 1 (pv 1)) xe_int (fun _ _ => rfl)) xa_nil)) xl_nil))) xa_nil))) (xa_cons (xe_tup (xa_cons xe_str (xa_cons (xe_add xe_int (xe_callN (ok__law_next T am) pt__law_next_mo (hr.mono (by decide)) (by rfl) T.g__law_next T.F__law_next.kp T.b__law_next (xl_tok 0 (pv 0) (xl_cons xe_int xl_nil)))) xa_nil))) xa_nil)))) (fun _ he => ps_set (i := 5) sc__law_command.nd rfl (by first | exact Or.inl rfl | exact Or.inr rfl) he))
    (xs_one (xs_ret (xe_callN (ok__law_of T am) pt__law_of_mo hr (by rfl) T.g__law_of T.F__law_of.kp T.b__law_of (xl_tok 0 (pv 0) (xl_cons (xe_add (xe_var 5 (pv 5)) (xe_lst (xa_cons (xe_tup (xa_cons xe_str (xa_cons xe_str xa_nil))) (xa_cons (xe_tup (xa_cons xe_str (xa_cons xe_str xa_nil))) (xa_cons (xe_tup (xa_cons xe_str (xa_cons xe_str xa_nil))) (xa_cons (xe_tup (xa_cons xe_str xa_nil)) xa_nil)))))) xl_nil)))))))))), sp__law_command⟩
theorem ok__law_steps (T : Tp K w mg) (am : Addr) : FnOk P w K mg base CX0 4 T.f__law_steps T.fd__law_steps ["m", "unit", "most"] (spD K am (JB am) 3 pt__law_steps) :=
  fn_ok (G := ⟨am, (JB am), (JB.st am), ⟨fun _ => none, fun _ => 0⟩⟩) (k := 3) T.F__law_steps sc__law_steps rfl pt__law_steps_mo fun u X cdv A outer s H E hX hr => by
    subst hX
    exact ⟨tb__law_steps, (xs_one (xs_ret (xe_callTy call_tupF cd_tup (by rfl) T.m_tuple (by decide +kernel) (xa_cons (xe_lc (own := [("k", 3)]) (by rfl) sc__law_steps.nd (xi_rng1 (by rfl) T.m_range (xa_cons (xe_callN (ok__law_next T am) pt__law_next_mo (hr.mono (by decide)) (by rfl) T.g__law_next T.F__law_next.kp T.b__law_next (xl_tok 0 (pv 0) (xl_cons (xe_add (xe_var 2 (pv 2)) xe_int) xl_nil))) xa_nil)) (blkOk_by (own := [("k", 3)]) (N := n__law_steps) (sc := defScope s__law_steps) (by decide +kernel)) (xgb_name 3 (fun _ _ _ _ _ => pg_name (i := 3) sc__law_steps.nd rfl (by first | exact Or.inl rfl | exact Or.inr rfl))) (by decide) (fun _ _ _ _ _ => xts_nil) (fun _ _ _ _ _ => (xe_callN (ok__law_command T am) pt__law_command_mo hr (by rfl) T.g__law_command T.F__law_command.kp T.b__law_command (xl_tok 0 (pv 0) (xl_cons (xe_var 1 (pv 1)) xl_nil))))) xa_nil)))), sp__law_steps⟩
end
end TL

namespace TL
open PySem PySem.Spec PyProof.Rows L2 RZ

section
variable {P : Program} {w : World} {K : PySem.W.Frag} {mg : Str → Option Value} {base : Heap}
theorem ok__law_begun (T : Tp K w mg) : FnOk P w K mg base CX0 1 T.f__law_begun T.fd__law_begun ["script"] (spBegun K) := by
  have mli := T.m_list
  refine T.F__law_begun.ok sc__law_begun (fun vs H Q E h => ?_) (fun cdv A outer s H vs Q E hr h => ?_)
  · obtain ⟨a, ns, e, _⟩ := h
    rw [e]
    rfl
  obtain ⟨a, ns, e, hS, hl, q⟩ := h
  subst e
  refine ⟨_, pss_one (ps_ret (pe_disp (pps_cons pe_str (pe_callTy call_list_of (by rfl) mli (by decide +kernel) (pa_cons (pv 0) pa_nil))
    (pps_cons pe_str (pe_lc (own := [("cell", 1)]) (g := gName 1) (by rfl) sc__law_begun.nd (pi_list (pv 0)) (blkOk_by (own := [("cell", 1)]) (N := ["script", "cell"]) (sc := defScope s__law_begun) (by decide +kernel))
        (fun _ _ _ _ _ => pg_name (i := 1) sc__law_begun.nd rfl (Or.inl rfl)) (fun _ _ _ _ _ => pts_one (pt_cmpR op_ge (pv 1) (pe_op op_pow pe_int pe_int) (nomark _))) (fun _ _ _ _ _ => pv 1))
    (pps_cons pe_str pe_int pps_nil))) (by rfl) (by rfl) (fun z => by cases z) (by decide))), ?_⟩
  intro p np
  have s1 : Same H (upd H p (.dK [])) := same_new np
  -- list(script)
  refine ⟨_, rfl, a, ns.map V.int, rfl, .inl (s1.seq hS), fun c nc => ?_⟩
  have s2 := s1.trans (same_new (o := .lst (ns.map V.int)) nc)
  -- the comprehension
  refine ⟨.ref a, rfl, a, rfl, ⟨_, s2.seq hS⟩, fun D nD => ?_⟩
  have ncp : c ≠ p := fun z => by rw [z, upd_same] at nc; cases nc
  have nDp : D ≠ p := fun z => by
    rw [z, upd_ne ncp.symm, upd_same] at nD
    cases nD
  have nDc : D ≠ c := fun z => by rw [z, upd_same] at nD; cases nD
  have nHc : H c = none := s1.free nc
  have nHD : H D = none := s2.free nD
  refine lc_list (K := K) (a := a) (xs := ns.map V.int) (fun i H' => ∃ rest : List Int, rest.length ≤ i ∧ H' D = some (.lst (rest.map V.int)) ∧ Same H H' ∧ H' p = some (.dK []) ∧ H' c = some (.lst (ns.map V.int))) ⟨[], Nat.le_refl _, upd_same, s2.trans (same_new nD), ?_, ?_⟩ (fun i H' _ ⟨rest, _, _, s3, _⟩ => s3.seq hS) (fun i x H' ex ⟨rest, lr, hD, s3, hp, hc⟩ => ?_) (fun H' ⟨rest, lr, hD, s3, hp, hc⟩ => ?_)
  · rw [upd_ne nDp.symm, upd_ne ncp.symm, upd_same]
  · rw [upd_ne nDc.symm, upd_same]
  · obtain ⟨n, en⟩ : ∃ n : Int, x = .int n := by
      rw [List.getElem?_map] at ex
      cases z : ns[i]? with
      | none => rw [z] at ex; cases ex
      | some n => rw [z] at ex; exact ⟨n, (Option.some.inj ex).symm⟩
    subst en
    refine ⟨rfl, _, rfl, 10, 18, rfl, rfl, ⟨by decide, by decide, by decide⟩, n, _, rfl, rfl, _, rfl, ?_⟩
    refine ite2 (fun _ => ?_) (fun _ => ?_)
    · refine ⟨_, rfl, _, hD, ?_, rest ++ [n], by simp; omega, by rw [upd_same]; simp, fun b o e => ?_, ?_, ?_⟩
      · rw [List.length_map]
        have : i < (ns.map V.int).length := (List.getElem?_eq_some_iff.mp ex).1
        rw [List.length_map] at this
        exact Nat.lt_of_lt_of_le (show rest.length < 64 by omega) (by decide)
      · rw [upd_ne (ne_of_none e nHD)]; exact s3 b o e
      · rw [upd_ne nDp.symm]; exact hp
      · rw [upd_ne nDc.symm]; exact hc
    · exact ⟨rest, by omega, hD, s3, hp, hc⟩
  · refine ⟨hp, [(kS "cells", .ref c), (kS "rest", .ref D), (kS "spot", .int 0)], rfl, (by show 3 ≤ 15; decide), ?_⟩
    have em : mergeK [] [(kS "cells", V.ref c), (kS "rest", V.ref D), (kS "spot", V.int 0)] = dk3 c D 0 := mergeK_nodup _ [] (by simp)
    rw [em]
    refine q p c D rest _ np nHc nHD (fun b o e => ?_) upd_same ?_ ?_ nDc ?_
    · rw [upd_ne (ne_of_none e np)]; exact s3 b o e
    · rw [upd_ne ncp]; exact hc
    · rw [upd_ne nDp]; exact hD
    · rw [List.length_map] at lr
      omega

theorem xs_law (T : Tp K w mg) (am : Addr) (w0 : Wd) {cdv : Value} {A : Around} {outer : List Env} {s : Shared} {H : Hp} {E : XK} (hg : (cxOf CX0 P w K mg base n_law "law" (defScope s_law) T.f_law cdv A outer s H E).nox.A.guards = some []) (hr : Room 9 (cxOf CX0 P w K mg base n_law "law" (defScope s_law) T.f_law cdv A outer s H E).nox.A) :
    XSs ⟨am, JB am, JB.st am, w0⟩ (cxOf CX0 P w K mg base n_law "law" (defScope s_law) T.f_law cdv A outer s H E).nox (defBody s_law).tail tb_law :=
  (xs_cons (xs_for PassesOwn.never (by rfl) (xi_rng1 (by rfl) T.m_range (xa_cons (xe_add xe_int (xe_callB (call_min2 (by rfl)) cd_I2 (by rfl) T.m_min (by decide +kernel) (xa_cons (xe_callB call_lenA cd_len (by rfl) T.m_len (by decide +kernel) (xa_cons (xe_var 0 (pv 0)) xa_nil)) (xa_cons xe_int xa_nil)))) xa_nil)) (xg_name 2 (pg_name (i := 2) sc_law.nd rfl (by first | exact Or.inl rfl | exact Or.inr rfl)))
    (xs_cons (xs_set 3 (xe_callN (ok__law_machine T am) pt__law_machine_mo (hr.mono (by decide)) (by rfl) T.g__law_machine T.F__law_machine.kp T.b__law_machine (xl_tok 1 (pv 1) (xl_cons xe_int (xl_cons xe_int xl_nil)))) (fun _ he => ps_set (i := 3) sc_law.nd rfl (by first | exact Or.inl rfl | exact Or.inr rfl) he))
    (xs_cons (xs_par3o 4 5 6 (xe_callN (ok__law_settings T am) pt__law_settings_mo (hr.mono (by decide)) (by rfl) T.g__law_settings T.F__law_settings.kp T.b__law_settings (xl_tok 1 (pv 1) (xl_cons (xe_var 3 (pv 3)) xl_nil))) (xe_callN (ok__law_steps T am) pt__law_steps_mo (hr.mono (by decide)) (by rfl) T.g__law_steps T.F__law_steps.kp T.b__law_steps (xl_tok 1 (pv 1) (xl_cons (xe_var 3 (pv 3)) (xl_cons xe_int xl_nil)))) (fun _ _ ha hb => ps_par3 (i := 4) (j := 5) (l := 6) (by rfl) sc_law.nd rfl rfl rfl (by decide) (by decide) (by decide) rfl rfl rfl (pa_cons ha (pa_cons hb (pa_cons (pe_lst pa_nil) pa_nil))) (by rfl)))
    (xs_cons (xs_set 7 (xe_var 4 (pv 4)) (fun _ he => ps_set (i := 7) sc_law.nd rfl (by first | exact Or.inl rfl | exact Or.inr rfl) he))
    (xs_cons (xs_for PassesOwn.never (by rfl) (xi_tup (xe_var 5 (pv 5))) (xg_name 8 (pg_name (i := 8) sc_law.nd rfl (by first | exact Or.inl rfl | exact Or.inr rfl)))
    (xs_cons (xs_app 6 (xe_callN (ok__law_cut_of T am) pt__law_cut_of_mo (hr.mono (by decide)) (by rfl) T.g__law_cut_of T.F__law_cut_of.kp T.b__law_cut_of (xl_cons (xe_var 3 (pv 3)) (xl_cons (xe_var 7 (pv 7)) (xl_cons (xe_var 8 (pv 8)) xl_nil)))) (fun _ he => ps_expr (pe_bm PySem.F.plainAttrs_list PySem.F.slot_list_append PySem.F.type_list_append mt_append (pv 6) (pa_cons he pa_nil))))
    (xs_one (xs_set 7 (xe_callN (ok__law_after T am) pt__law_after_mo (hr.mono (by decide)) (by rfl) T.g__law_after T.F__law_after.kp T.b__law_after (xl_cons (xe_var 7 (pv 7)) (xl_cons (xe_var 8 (pv 8)) xl_nil))) (fun _ he => ps_set (i := 7) sc_law.nd rfl (by first | exact Or.inl rfl | exact Or.inr rfl) he)))))
    (xss_frz 6 (xs_one (xs_if (xc_co co_neS (xe_callB (call_reprD hg (un66 hr)) cd_repr (by rfl) T.m_repr (by decide +kernel) (xa_cons (xe_lst (xa_cons (xe_callN (ok_cuts T am (JB am) (JB.st am)) pt_cuts_mo hr (by rfl) T.g_cuts T.F_cuts.kp T.b_cuts (xl_cons (xe_var 3 (pv 3)) (xl_cons (xe_var 4 (pv 4)) (xl_cons (xe_var 5 (pv 5)) xl_nil)))) (xa_cons (xe_callN (ok_cuts T am (JB am) (JB.st am)) pt_cuts_mo hr (by rfl) T.g_cuts T.F_cuts.kp T.b_cuts (xl_cons (xe_var 3 (pv 3)) (xl_cons (xe_var 4 (pv 4)) (xl_cons (xe_var 5 (pv 5)) xl_nil)))) xa_nil))) xa_nil)) (xe_callB (call_reprD hg (un66 hr)) cd_repr (by rfl) T.m_repr (by decide +kernel) (xa_cons (xe_lst (xa_cons (xe_callTy call_tupF cd_tup (by rfl) T.m_tuple (by decide +kernel) (xa_cons (xe_var 6 (pv 6)) xa_nil)) (xa_cons (xe_callTy call_tupF cd_tup (by rfl) T.m_tuple (by decide +kernel) (xa_cons (xe_var 6 (pv 6)) xa_nil)) xa_nil))) xa_nil)) (nomark _))
    (xs_one (xs_ret xe_bl))
    xs_nil))))))))
    (xs_cons (xs_set 3 (xe_tup (xa_cons (xe_tup (xa_cons xe_int (xa_cons xe_int xa_nil))) (xa_cons (xe_tup (xa_cons (xe_tup (xa_cons xe_int (xa_cons xe_int xa_nil))) xa_nil)) (xa_cons (xe_tup (xa_cons (xe_tup (xa_cons xe_str (xa_cons xe_int xa_nil))) xa_nil)) xa_nil)))) (fun _ he => ps_set (i := 3) sc_law.nd rfl (by first | exact Or.inl rfl | exact Or.inr rfl) he))
    (xs_cons (xs_set 5 (xe_tup (xa_cons (xe_tup (xa_cons xe_str (xa_cons xe_int (xa_cons xe_int (xa_cons xe_str xa_nil))))) (xa_cons (xe_tup (xa_cons xe_str (xa_cons xe_int xa_nil))) (xa_cons (xe_tup (xa_cons xe_str (xa_cons xe_int (xa_cons xe_int (xa_cons xe_str xa_nil))))) (xa_cons (xe_tup (xa_cons xe_str (xa_cons xe_int xa_nil))) xa_nil))))) (fun _ he => ps_set (i := 5) sc_law.nd rfl (by first | exact Or.inl rfl | exact Or.inr rfl) he))
    (xs_cons (xs_set 5 (xe_add (xe_var 5 (pv 5)) (xe_tup (xa_cons (xe_tup (xa_cons xe_str (xa_cons xe_int (xa_cons xe_int (xa_cons xe_int (xa_cons xe_int xa_nil)))))) (xa_cons (xe_tup (xa_cons xe_str (xa_cons xe_int (xa_cons xe_int (xa_cons xe_int (xa_cons xe_int xa_nil)))))) xa_nil)))) (fun _ he => ps_set (i := 5) sc_law.nd rfl (by first | exact Or.inl rfl | exact Or.inr rfl) he))
    (xs_cons (xs_if (xc_co (co_ne hr.units) (xe_callN (ok_cuts T am (JB am) (JB.st am)) pt_cuts_mo hr (by rfl) T.g_cuts T.F_cuts.kp T.b_cuts (xl_cons (xe_var 3 (pv 3)) (xl_cons (xe_tup (xa_cons xe_int (xa_cons xe_int (xa_cons xe_int (xa_cons xe_int (xa_cons xe_int (xa_cons xe_str xa_nil))))))) (xl_cons (xe_var 5 (pv 5)) xl_nil)))) (xe_tup (xa_cons xe_int (xa_cons xe_non (xa_cons xe_int (xa_cons xe_non (xa_cons xe_non (xa_cons xe_int xa_nil))))))) (nomark _))
    (xs_one (xs_ret xe_bl))
    xs_nil)
    (xs_cons (xs_set 5 (xe_tup (xa_cons (xe_tup (xa_cons xe_str (xa_cons xe_int (xa_cons xe_int (xa_cons xe_str xa_nil))))) (xa_cons (xe_tup (xa_cons xe_str (xa_cons xe_int (xa_cons xe_int (xa_cons xe_str xa_nil))))) (xa_cons (xe_tup (xa_cons xe_str xa_nil)) xa_nil)))) (fun _ he => ps_set (i := 5) sc_law.nd rfl (by first | exact Or.inl rfl | exact Or.inr rfl) he))
    (xs_one (xs_ret (xe_co (co_eq hr.units) (xe_callN (ok_cuts T am (JB am) (JB.st am)) pt_cuts_mo hr (by rfl) T.g_cuts T.F_cuts.kp T.b_cuts (xl_cons (xe_var 3 (pv 3)) (xl_cons (xe_tup (xa_cons xe_int (xa_cons xe_int (xa_cons xe_int (xa_cons xe_int (xa_cons xe_int (xa_cons xe_str xa_nil))))))) (xl_cons (xe_var 5 (pv 5)) xl_nil)))) (xe_tup (xa_cons xe_int (xa_cons xe_int (xa_cons xe_non xa_nil)))) (nomark _))))))))))
end
end TL

namespace TL
open PySem PySem.Spec PyProof.Rows L2 RZ
theorem law_inner {m : Mch} (ok : m.Ok) {sc pr : PyData} {e2 e4 : S} {g : Nat} : ∀ (cs : List Cmd) (s : Stg) (acc : List PyData) (e8 : S) (k : Kt), s.Ok m → (∀ c ∈ cs, c.Ok m) → acc.length + cs.length ≤ 60 →
    (∀ e7 e8, k.nx [.v sc, .tok, e2, .v m.d, e4, .v pr, .hl (acc ++ (stepsR s cs).map fun p => ointD (lawCut m p.1 p.2)), e7, e8] g) →
    forT (yName 8) (xSeq (xApp 6 (xCall (xaCons (xVar 3) (xaCons (xVar 7) (xaCons (xVar 8) xaNil))) pt__law_cut_of)) (xAsg (xCall (xaCons (xVar 7) (xaCons (xVar 8) xaNil)) pt__law_after) (yName 7))) (cs.map Cmd.d) k [.v sc, .tok, e2, .v m.d, e4, .v pr, .hl acc, .v s.d, e8] g
  | [], s, acc, e8, k, _, _, _, q => by
    have := q (.v s.d) e8
    simp only [stepsR, List.map_nil, List.append_nil] at this
    exact this
  | c :: r, s, acc, e8, k, hs, hc, hl, q => by
    simp only [List.length_cons] at hl
    have h0 : acc.length < sizeLine := Nat.lt_of_lt_of_le (by omega) (show 61 ≤ sizeLine by decide +kernel)
    have hc0 := hc c List.mem_cons_self
    have ih := law_inner ok (sc := sc) (pr := pr) (e2 := e2) (e4 := e4) (g := g) r (s.after c) (acc ++ [ointD (lawCut m s c)]) (.v c.d) k (after_ok ok hs hc0) (fun d hd => hc d (List.mem_cons_of_mem _ hd)) (by simp; omega) (fun e7 e8 => by
      have := q e7 e8
      simp only [stepsR, List.map_cons] at this
      rw [List.append_assoc]
      exact this)
    simp only [List.map_cons, forT]
    simp [and_assoc, -forT, ptA, ok, hs, hc0, h0]
    exact ih
/-- the numbers and Nones of an answer -/
def cutL (m : Mch) (s : Stg) (cs : List Cmd) : List PyData := (stepsR s cs).map fun p => ointD (leastCut m p.1 p.2)
theorem law_list {m : Mch} (ok : m.Ok) {s : Stg} {cs : List Cmd} (hs : s.Ok m) (hc : ∀ c ∈ cs, c.Ok m) : ((stepsR s cs).map fun p => ointD (lawCut m p.1 p.2)) = cutL m s cs :=
  List.map_congr_left fun p hp => by
    obtain ⟨h1, h2⟩ := stepsR_ok ok hc hs p hp
    rw [law_cut ok h1 h2]
theorem first_bd {p : Int → Bool} : ∀ (n : Nat) (i j : Int), firstFrom p n i = some j → i ≤ j ∧ j < i + n
  | 0, i, j, h => by cases h
  | n + 1, i, j, h => by
    unfold firstFrom at h
    split at h
    · cases h
      omega
    · have := first_bd n (i + 1) j h
      omega
theorem cut_bd {m : Mch} (ok : m.Ok) (s : Stg) (c : Cmd) : leastCut m s c = none ∨ ∃ j : Int, leastCut m s c = some j ∧ 1 ≤ j ∧ j ≤ 12 := by
  cases h : leastCut m s c with
  | none => exact .inl rfl
  | some j =>
    refine .inr ⟨j, rfl, ?_⟩
    have hb := signs_bd ok c
    unfold leastCut at h
    split at h
    · have := first_bd _ _ _ h
      omega
    · cases h
theorem cutL_ok {m : Mch} (ok : m.Ok) (s : Stg) (cs : List Cmd) : ∀ d ∈ cutL m s cs, d = .none ∨ ∃ j : Int, d = .int j ∧ 1 ≤ j ∧ j ≤ 12 := by
  intro d hd
  obtain ⟨p, _, rfl⟩ := List.mem_map.1 hd
  rcases cut_bd ok p.1 p.2 with h | ⟨j, h, hj⟩
  · exact .inl (by rw [h]; rfl)
  · exact .inr ⟨j, by rw [h]; rfl, hj⟩
theorem flat_list : ∀ l : List PyData, (∀ d ∈ l, d = .none ∨ ∃ j : Int, d = .int j ∧ 1 ≤ j ∧ j ≤ 12) →
    PyData.canLayAll0 l = true ∧ noDicts l = true ∧ PyData.depthAll l = 0 ∧ PyData.showableAll l = true ∧ PyData.hasDictAll l = false ∧ PyData.intsShortAll 13 l = true ∧ PyData.weightAll l ≤ 8 * l.length
  | [], _ => by simp [PyData.canLayAll0, PyData.depthAll, PyData.showableAll, PyData.hasDictAll, PyData.intsShortAll, PyData.weightAll]
  | d :: r, h => by
    obtain ⟨h1, h2, h3, h4, h5, h6, h7⟩ := flat_list r fun e he => h e (List.mem_cons_of_mem _ he)
    rcases h d List.mem_cons_self with rfl | ⟨j, rfl, hj⟩
    · simp [PyData.canLayAll0, PyData.canLay0, PyData.depthAll, PyData.depth, PyData.showableAll, PyData.showable, PyData.hasDictAll, PyData.hasDict, PyData.intsShortAll, PyData.intsShort, PyData.weightAll, PyData.weight, h1, h2, h3, h4, h5, h6]
      omega
    · have hj2 := PyData.shown_int_le (i := j) (by omega)
      have hj0 : ¬ j = 0 := by omega
      have hw : j.natAbs.log2 + 1 ≤ 5 := by
        have e : j = 1 ∨ j = 2 ∨ j = 3 ∨ j = 4 ∨ j = 5 ∨ j = 6 ∨ j = 7 ∨ j = 8 ∨ j = 9 ∨ j = 10 ∨ j = 11 ∨ j = 12 := by omega
        rcases e with rfl | rfl | rfl | rfl | rfl | rfl | rfl | rfl | rfl | rfl | rfl | rfl <;> decide +kernel
      simp [PyData.canLayAll0, PyData.canLay0, PyData.depthAll, PyData.depth, PyData.showableAll, PyData.showable, PyData.hasDictAll, PyData.hasDict, PyData.intsShortAll, PyData.intsShort, PyData.weightAll, PyData.weight, hj0, h1, h2, h3, h4, h5, h6, hj2]
      omega
theorem repr_ok {l : List PyData} (hl : l.length ≤ 60) (h : ∀ d ∈ l, d = .none ∨ ∃ j : Int, d = .int j ∧ 1 ≤ j ∧ j ≤ 12) {g : Nat} {Q : PyData → Nat → Prop} (q : Q (.str (PyData.shown (.list [.tuple l, .tuple l]))) g) : cRepr [.list [.tuple l, .tuple l]] g Q := by
  obtain ⟨h1, h2, h3, h4, h5, h6, h7⟩ := flat_list l h
  have hd : PyData.depth (.list [.tuple l, .tuple l]) ≤ 64 := by simp [PyData.depth, PyData.depthAll, h3]
  have hw : PyData.weight (.list [.tuple l, .tuple l]) ≤ 2 ^ 20 := by
    simp [PyData.weight, PyData.weightAll]
    omega
  refine ⟨_, _, rfl, .inl rfl, by simp [h2], by simp [PyData.showable, PyData.showableAll, h4], by simp [PyData.hasDict, PyData.hasDictAll, h5], hd, ?_, q⟩
  refine PyData.shown_fits_of_layable0 (B := 13) (by decide) (by decide) ?_ (by simp [PyData.intsShort, PyData.intsShortAll, h6])
  simp only [PyData.layable0, Bool.and_eq_true, decide_eq_true_eq]
  exact ⟨⟨by simp [PyData.canLay0, PyData.canLayAll0, h1], hd⟩, hw⟩
/-- one turn of the law -/
theorem law_turn {sc : PyData} {g : Nat} (hg : 500 ≤ g) {h : List S → Nat → Prop} {k : Kt} (e2 e3 e4 e5 e6 e7 e8 : S)
    (q : ∀ E' g', (∃ e2 e3 e4 e5 e6 e7 e8, E' = [S.v sc, S.tok, e2, e3, e4, e5, e6, e7, e8]) → g ≤ g' + 500 → h E' g') :
    (xSeq (xAsg (xCall (xaTok 1 (xaCons (xC (.int 9)) (xaCons (xC (.int 7)) xaNil))) pt__law_machine) (yName 3))
    (xSeq (xPar3o 4 5 6 (xCall (xaTok 1 (xaCons (xVar 3) xaNil)) pt__law_settings) (xCall (xaTok 1 (xaCons (xVar 3) (xaCons (xC (.int 9)) xaNil))) pt__law_steps))
    (xSeq (xAsg (xVar 4) (yName 7))
    (xSeq (xFor (xiTup (xVar 5)) (yName 8)
    (xSeq (xApp 6 (xCall (xaCons (xVar 3) (xaCons (xVar 7) (xaCons (xVar 8) xaNil))) pt__law_cut_of))
    (xAsg (xCall (xaCons (xVar 7) (xaCons (xVar 8) xaNil)) pt__law_after) (yName 7))))
    (xFrz 6 (xIfS (xTest (xBin (xCB (xaCons (xLst (xaCons (xCall (xaCons (xVar 3) (xaCons (xVar 4) (xaCons (xVar 5) xaNil))) pt_cuts) (xaCons (xCall (xaCons (xVar 3) (xaCons (xVar 4) (xaCons (xVar 5) xaNil))) pt_cuts) xaNil))) xaNil) cRepr) (xCB (xaCons (xLst (xaCons (xCB (xaCons (xVar 6) xaNil) cTup) (xaCons (xCB (xaCons (xVar 6) xaNil) cTup) xaNil))) xaNil) cRepr) oNeS))
    (xRet (xC (.bool false)))
    xNext)))))) (ktLoop k h) [S.v sc, S.tok, e2, e3, e4, e5, e6, e7, e8] g := by
  simp only [xSeq_eq, xAsg, xPar3o, xCall, xaTok, xaCons, xaNil, xC, yName, xVar]
  refine ⟨rfl, (9, 7), rfl, ⟨by decide, by decide⟩, by show 13 ≤ g; omega, fun d g1 ⟨m, ok, e⟩ hg1 => ?_⟩
  subst e
  have hg1 : g ≤ g1 + 13 := hg1
  simp [-forT]
  refine ⟨m, rfl, ok, by show 6 ≤ g1; omega, fun d g2 ⟨s, hs, e⟩ hg2 => ?_⟩
  subst e
  have hg2 : g1 ≤ g2 + 6 := hg2
  refine ⟨(m, 9), rfl, ⟨ok, by show (0 : Int) ≤ 9; decide, by show (9 : Int) ≤ 60; decide⟩, by show 421 ≤ g2; omega, fun d g3 ⟨cs, hc, hl, e⟩ hg3 => ?_⟩
  subst e
  have hg3 : g2 ≤ g3 + 421 := hg3
  simp [-forT]
  have hc : ∀ c ∈ cs, c.Ok m := hc
  refine law_inner ok cs s [] _ _ hs hc (by simpa using hl) fun e7 e8 => ?_
  rw [List.nil_append, law_list ok hs hc]
  have hcl : (cutL m s cs).length ≤ 60 := by
    unfold cutL
    rw [List.length_map, stepsR_len]
    exact hl
  simp [ptA, and_assoc, ok, hs, hl]
  refine ⟨cs, rfl, hc, hl, cs, rfl, hc, hl, ?_⟩
  refine repr_ok hcl (cutL_ok ok s cs) ?_
  refine repr_ok hcl (cutL_ok ok s cs) ?_
  simp
  exact q _ _ ⟨_, _, _, _, _, _, _, rfl⟩ (by omega)
/-! ### by hand: two programs -/
def m0 : Mch := ⟨5, 3, [(2, 2)], [("A", 4)]⟩
def s0 : Stg := ⟨0, 0, 0, 0, 1, "set"⟩
def s1 : Stg := ⟨4, 0, 1, 0, 1, "set"⟩
def cs0 : List Cmd := [.field 0 0 "A", .scale 2, .field 0 0 "A", .turn 1, .box 0 0 1 1, .clear 0 1 2 2]
def cs1 : List Cmd := [.field 0 0 "A", .field 0 4 "A", .plain]
theorem m0_ok : m0.Ok := ⟨by decide, by decide, by decide, by decide, by decide, by decide +kernel, by decide +kernel⟩
theorem s0_ok : s0.Ok m0 := ⟨by decide, by decide, by decide, Or.inl rfl⟩
theorem s1_ok : s1.Ok m0 := ⟨by decide, by decide, by decide, Or.inl rfl⟩
theorem nA : Str.ofString "A" ∈ m0.fields.map (·.1) := by decide +kernel
theorem cs0_ok : ∀ c ∈ cs0, c.Ok m0 := by
  intro c hc
  simp only [cs0, List.mem_cons, List.not_mem_nil, or_false] at hc
  rcases hc with rfl | rfl | rfl | rfl | rfl | rfl
  · exact .cons (.place (by decide)) (.cons (.place (by decide)) (.cons (.name nA) .nil))
  · exact .cons (.scale (by decide)) .nil
  · exact .cons (.place (by decide)) (.cons (.place (by decide)) (.cons (.name nA) .nil))
  · exact .cons (.turn (by decide)) .nil
  · exact .cons (.place (by decide)) (.cons (.place (by decide)) (.cons (.length (by decide)) (.cons (.length (by decide)) .nil)))
  · exact .cons (.place (by decide)) (.cons (.place (by decide)) (.cons (.length (by decide)) (.cons (.length (by decide)) .nil)))
theorem cs1_ok : ∀ c ∈ cs1, c.Ok m0 := by
  intro c hc
  simp only [cs1, List.mem_cons, List.not_mem_nil, or_false] at hc
  rcases hc with rfl | rfl | rfl
  · exact .cons (.place (by decide)) (.cons (.place (by decide)) (.cons (.name nA) .nil))
  · exact .cons (.place (by decide)) (.cons (.place (by decide)) (.cons (.name nA) .nil))
  · exact .nil
theorem most0 : m0.most "A" = 4 := by decide +kernel
theorem cuts0 : cutsR m0 s0 cs0 = .tuple [.int 3, .none, .int 1, .none, .none, .int 1] := by
  simp only [cutsR, cs0, stepsR, List.map_cons, List.map_nil, leastCut, Cmd.signs, most0, Cmd.drawn, Stg.after]
  rfl
theorem cuts1 : cutsR m0 s1 cs1 = .tuple [.int 2, .int 1, .none] := by
  simp only [cutsR, cs1, stepsR, List.map_cons, List.map_nil, leastCut, Cmd.signs, most0, Cmd.drawn, Stg.after]
  rfl
/-- the law's reading: True -/
theorem sp_law (ns : List Int) (hn : ns.length ≤ 63) (g : Nat) (hg : 10000 ≤ g) : tb_law { nx := fun _ _ => False, rt := fun d _ => d = .bool true } [S.v (.list (ns.map .int)), S.tok, S.un, S.un, S.un, S.un, S.un, S.un, S.un] g := by
  unfold tb_law
  rw [xSeq_eq]
  simp [-forT, -xSeq]
  refine ⟨by omega, by omega, ?_⟩
  have hl : (6 + if (10 : Int) < ns.length then 10 else (ns.length : Int)).toNat ≤ 16 := by split <;> omega
  refine forT_dr (c := 500) (fun E => ∃ e2 e3 e4 e5 e6 e7 e8, E = [S.v (.list (ns.map .int)), S.tok, e2, e3, e4, e5, e6, e7, e8]) _ _ _ ⟨_, _, _, _, _, _, _, rfl⟩ (by rw [rangeD_len]; omega) (fun d hd E g hE hg h q => ?_) fun E g' hE hg' => ?_
  · obtain ⟨e2, e3, e4, e5, e6, e7, e8, rfl⟩ := hE
    exact law_turn hg _ _ _ _ _ _ _ q
  · obtain ⟨e2, e3, e4, e5, e6, e7, e8, rfl⟩ := hE
    simp
    refine ⟨(m0, s0, cs0), rfl, ⟨m0_ok, s0_ok, cs0_ok, by decide⟩, ?_⟩
    show (noDict (cutsR m0 s0 cs0) = true ∧ _) ∧ _
    rw [cuts0]
    refine ⟨⟨rfl, rfl, rfl⟩, rfl, ⟨(m0, s1, cs1), rfl, ⟨m0_ok, s1_ok, cs1_ok, by decide⟩, ?_⟩⟩
    show (noDict (cutsR m0 s1 cs1) = true ∧ _) ∧ _
    rw [cuts1]
    exact ⟨⟨rfl, rfl, rfl⟩, rfl⟩
end TL

namespace TL
open PySem PySem.Spec PyProof.Rows L2 RZ
section
variable {P : Program} {w : World} {K : PySem.W.Frag} {mg : Str → Option Value}
theorem rv_script {a : Addr} {vs : List Value} {ns : List Int} {H' : Hp} {cl : Addr → Nat} (sq : SqL K (hpOf K a vs ns) a (ns.map V.int)) (same : Same (hpOf K a vs ns) H') (c0 : ∀ b o, hpOf K a vs ns b = some o → cl b = 0) : Rv K ⟨H', cl⟩ (.ref a) (.list (ns.map PyData.int)) := by
  have rl : ∀ l : List Int, RvL K ⟨H', cl⟩ (l.map V.int) (l.map PyData.int) := fun l => by
    induction l with
    | nil => exact .nil
    | cons n r ih => exact .cons (.int n) ih
  refine .lst ?_ (rl ns)
  rcases sq with (z | ⟨o, z⟩) | z
  · exact .inl ⟨.inl (same _ _ z), c0 _ _ z⟩
  · exact .inl ⟨.inr ⟨o, same _ _ z⟩, c0 _ _ z⟩
  · exact .inr (.inr z)
theorem law_body (T : Tp K w mg) {base : Heap} {cdv : Value} {s1 : Shared} {a : Addr} {vs : List Value} {ns : List Int} (few : ns.length ≤ 63) (sq : SqL K (hpOf K a vs ns) a (ns.map V.int))
    (hr : Room 9 (callerA.deeper (envOfC "law" (defScope s_law) s1.heap.objs.size T.f_law cdv))) :
    ∃ t, PSs (cxOf CX0 P w K mg base n_law "law" (defScope s_law) T.f_law cdv callerA [] s1 (hpOf K a vs ns) fun _ _ _ => False).nox (defBody s_law) t ∧ t { nx := fun _ _ => V.non = V.bl true, rt := fun v _ => v = V.bl true } (start n_law [.ref a]) (hpOf K a vs ns) := by
  refine ⟨_, pss_cons (ps_set (i := 1) sc_law.nd rfl (.inl rfl) (pe_call (dvs := []) (ok__law_begun T) (hr.mono (by decide)) (by rfl) T.g__law_begun T.F__law_begun.kp T.b__law_begun .nil pass0 (pa_cons (pv 0) pa_nil))) (pss_ex fun am => (xs_law T am ⟨hpOf K a vs ns, fun _ => 0⟩ rfl hr).ps), ?_⟩
  refine ⟨_, rfl, a, ns, rfl, sq, few, fun p c r rest H' np nc nr same hp hc hrr ne lr => ?_⟩
  have c0 : ∀ b o, hpOf K a vs ns b = some o → (if b = p ∨ b = c ∨ b = r then 2 else 0) = 0 := fun b o z => by
    refine if_neg fun y => ?_
    rcases y with y | y | y <;> rw [y] at z
    · rw [np] at z; cases z
    · rw [nc] at z; cases z
    · rw [nr] at z; cases z
  let u : Wd := ⟨H', fun b => if b = p ∨ b = c ∨ b = r then 2 else 0⟩
  refine ⟨p, u.cl, [S.v (.list (ns.map .int)), S.tok, S.un, S.un, S.un, S.un, S.un, S.un, S.un], 10000, [], ?_, ?_, ?_, ?_⟩
  · exact ⟨c, r, ns, rest, 0, ⟨hp, hc, hrr, if_pos (.inl rfl), if_pos (.inr (.inl rfl)), if_pos (.inr (.inr rfl)), ne, lr⟩, few, by omega, by omega⟩
  · exact ⟨fun b o z => ⟨c0 b o z, fun _ => same b o z⟩, fun b o z => ⟨o, same b o z⟩⟩
  · exact .v (rv_script sq same c0) (.tok (.un none (.un none (.un none (.un none (.un none (.un none (.un none .nil))))))))
  · refine (xs_law (P := P) (base := base) (outer := []) (s := s1) (H := hpOf K a vs ns) (E := fun _ _ _ => False) T p ⟨hpOf K a vs ns, fun _ => 0⟩ rfl hr).mo { nx := fun _ _ => False, rt := fun d _ => d = .bool true } _ _ _ ⟨fun _ _ z => z.elim, fun d g e x v _ _ rv => ?_, fun _ _ z => z.elim, fun _ _ z => z.elim⟩ (sp_law ns few 10000 (Nat.le_refl _))
    subst e
    cases rv
    rfl
theorem law_F (T : Tp K w mg) {fa : Addr} (hfa : mg "law" = some (.ref fa)) :
    ∃ fd : FuncData, Fun K "law" "law" s_law fa fd ∧ (∀ (s : Shared) (u : Value), BindsTo s fd ⟨[u], []⟩ [("script", u)]) ∧
      ∀ (s1 : Shared) (a : Addr) (vs : List Value) (ns : List Int) (base : Heap) (cdv : Value), ns.length ≤ 63 → K.In base → base.Ns mainGlobals mg → SqL K (hpOf K a vs ns) a (ns.map V.int) → Room 9 (callerA.deeper (envOfC "law" (defScope s_law) s1.heap.objs.size fa cdv)) →
        ∃ t, PSs (cxOf CX0 P w K mg base n_law "law" (defScope s_law) fa cdv callerA [] s1 (hpOf K a vs ns) fun _ _ _ => False).nox (defBody s_law) t ∧ t { nx := fun _ _ => V.non = V.bl true, rt := fun v _ => v = V.bl true } (start n_law [.ref a]) (hpOf K a vs ns) := by
  have e := T.g_law.symm.trans hfa
  cases e
  refine ⟨T.fd_law, T.F_law, fun s u => ?_, fun s1 a vs ns base cdv few _ _ sq hr => law_body T few sq hr⟩
  obtain ⟨oc, od, kV, doc, pm, an, cdv, ct, osl, efd, _, _⟩ := T.F_law.ex
  rw [efd]
  exact .of_eq rfl
end
end TL

namespace TL
open PySem PySem.Spec PyProof.Rows L2 RZ
set_option maxHeartbeats 0 in
theorem top_mk {w : World} {K : PySem.W.Frag} {mg : Str → Option Value} {h : Heap} (X : K.In h) (G : h.Ns mainGlobals mg)
    {f0 : Addr} {od0 an0 : Option Addr} {sl0 : Array (Option Value)} {oc0 kV0 dc0 pm0 cd0 ct0 : Value}
    {f1 : Addr} {od1 an1 : Option Addr} {sl1 : Array (Option Value)} {oc1 kV1 dc1 pm1 cd1 ct1 : Value}
    {f2 : Addr} {od2 an2 : Option Addr} {sl2 : Array (Option Value)} {oc2 kV2 dc2 pm2 cd2 ct2 : Value}
    {f3 : Addr} {od3 an3 : Option Addr} {sl3 : Array (Option Value)} {oc3 kV3 dc3 pm3 cd3 ct3 : Value}
    {f4 : Addr} {od4 an4 : Option Addr} {sl4 : Array (Option Value)} {oc4 kV4 dc4 pm4 cd4 ct4 : Value}
    {f5 : Addr} {od5 an5 : Option Addr} {sl5 : Array (Option Value)} {oc5 kV5 dc5 pm5 cd5 ct5 : Value}
    {f6 : Addr} {od6 an6 : Option Addr} {sl6 : Array (Option Value)} {oc6 kV6 dc6 pm6 cd6 ct6 : Value}
    {f7 : Addr} {od7 an7 : Option Addr} {sl7 : Array (Option Value)} {oc7 kV7 dc7 pm7 cd7 ct7 : Value}
    {f8 : Addr} {od8 an8 : Option Addr} {sl8 : Array (Option Value)} {oc8 kV8 dc8 pm8 cd8 ct8 : Value}
    {f9 : Addr} {od9 an9 : Option Addr} {sl9 : Array (Option Value)} {oc9 kV9 dc9 pm9 cd9 ct9 : Value}
    {f10 : Addr} {od10 an10 : Option Addr} {sl10 : Array (Option Value)} {oc10 kV10 dc10 pm10 cd10 ct10 : Value}
    {f11 : Addr} {od11 an11 : Option Addr} {sl11 : Array (Option Value)} {oc11 kV11 dc11 pm11 cd11 ct11 : Value}
    {f12 : Addr} {od12 an12 : Option Addr} {sl12 : Array (Option Value)} {oc12 kV12 dc12 pm12 cd12 ct12 : Value}
    {f13 : Addr} {od13 an13 : Option Addr} {sl13 : Array (Option Value)} {oc13 kV13 dc13 pm13 cd13 ct13 : Value}
    {f14 : Addr} {od14 an14 : Option Addr} {sl14 : Array (Option Value)} {oc14 kV14 dc14 pm14 cd14 ct14 : Value}
    {f15 : Addr} {od15 an15 : Option Addr} {sl15 : Array (Option Value)} {oc15 kV15 dc15 pm15 cd15 ct15 : Value}
    {f16 : Addr} {od16 an16 : Option Addr} {sl16 : Array (Option Value)} {oc16 kV16 dc16 pm16 cd16 ct16 : Value}
    {f17 : Addr} {od17 an17 : Option Addr} {sl17 : Array (Option Value)} {oc17 kV17 dc17 pm17 cd17 ct17 : Value}
    {f18 : Addr} {od18 an18 : Option Addr} {sl18 : Array (Option Value)} {oc18 kV18 dc18 pm18 cd18 ct18 : Value}
    {f19 : Addr} {od19 an19 : Option Addr} {sl19 : Array (Option Value)} {oc19 kV19 dc19 pm19 cd19 ct19 : Value}
    {f20 : Addr} {od20 an20 : Option Addr} {sl20 : Array (Option Value)} {oc20 kV20 dc20 pm20 cd20 ct20 : Value}
    {f21 : Addr} {od21 an21 : Option Addr} {sl21 : Array (Option Value)} {oc21 kV21 dc21 pm21 cd21 ct21 : Value}
    {f22 : Addr} {od22 an22 : Option Addr} {sl22 : Array (Option Value)} {oc22 kV22 dc22 pm22 cd22 ct22 : Value}
    {f23 : Addr} {od23 an23 : Option Addr} {sl23 : Array (Option Value)} {oc23 kV23 dc23 pm23 cd23 ct23 : Value}
    {f24 : Addr} {od24 an24 : Option Addr} {sl24 : Array (Option Value)} {oc24 kV24 dc24 pm24 cd24 ct24 : Value}
    {f25 : Addr} {od25 an25 : Option Addr} {sl25 : Array (Option Value)} {oc25 kV25 dc25 pm25 cd25 ct25 : Value}
    {f26 : Addr} {od26 an26 : Option Addr} {sl26 : Array (Option Value)} {oc26 kV26 dc26 pm26 cd26 ct26 : Value}
    {f27 : Addr} {od27 an27 : Option Addr} {sl27 : Array (Option Value)} {oc27 kV27 dc27 pm27 cd27 ct27 : Value}
    {f28 : Addr} {od28 an28 : Option Addr} {sl28 : Array (Option Value)} {oc28 kV28 dc28 pm28 cd28 ct28 : Value}
    {f29 : Addr} {od29 an29 : Option Addr} {sl29 : Array (Option Value)} {oc29 kV29 dc29 pm29 cd29 ct29 : Value}
    {f30 : Addr} {od30 an30 : Option Addr} {sl30 : Array (Option Value)} {oc30 kV30 dc30 pm30 cd30 ct30 : Value}
    {f31 : Addr} {od31 an31 : Option Addr} {sl31 : Array (Option Value)} {oc31 kV31 dc31 pm31 cd31 ct31 : Value}
    {f32 : Addr} {od32 an32 : Option Addr} {sl32 : Array (Option Value)} {oc32 kV32 dc32 pm32 cd32 ct32 : Value}
    {f33 : Addr} {od33 an33 : Option Addr} {sl33 : Array (Option Value)} {oc33 kV33 dc33 pm33 cd33 ct33 : Value}
    {f34 : Addr} {od34 an34 : Option Addr} {sl34 : Array (Option Value)} {oc34 kV34 dc34 pm34 cd34 ct34 : Value}
    {f35 : Addr} {od35 an35 : Option Addr} {sl35 : Array (Option Value)} {oc35 kV35 dc35 pm35 cd35 ct35 : Value}
    {f36 : Addr} {od36 an36 : Option Addr} {sl36 : Array (Option Value)} {oc36 kV36 dc36 pm36 cd36 ct36 : Value}
    {f37 : Addr} {od37 an37 : Option Addr} {sl37 : Array (Option Value)} {oc37 kV37 dc37 pm37 cd37 ct37 : Value}
    {f38 : Addr} {od38 an38 : Option Addr} {sl38 : Array (Option Value)} {oc38 kV38 dc38 pm38 cd38 ct38 : Value}
    {f39 : Addr} {od39 an39 : Option Addr} {sl39 : Array (Option Value)} {oc39 kV39 dc39 pm39 cd39 ct39 : Value}
    {f40 : Addr} {od40 an40 : Option Addr} {sl40 : Array (Option Value)} {oc40 kV40 dc40 pm40 cd40 ct40 : Value}
    {f41 : Addr} {od41 an41 : Option Addr} {sl41 : Array (Option Value)} {oc41 kV41 dc41 pm41 cd41 ct41 : Value}
    {t_NAMES : Addr} {i_NAMES : Array Value} {n_NAMES : Nat} {s_NAMES : Array (Option Value)}
    {u_FARTHEST : Tok}
    {t_INKS : Addr} {i_INKS : Array Value} {n_INKS : Nat} {s_INKS : Array (Option Value)}
    {t_SETTING_KINDS : Addr} {i_SETTING_KINDS : Array Value} {n_SETTING_KINDS : Nat} {s_SETTING_KINDS : Array (Option Value)}
    {d_COMMAND_KINDS : Addr} {e_COMMAND_KINDS : Array DictEntry} {n_COMMAND_KINDS : Nat}
    {t_COMMAND_KINDS_0 : Addr} {i_COMMAND_KINDS_0 : Array Value} {n_COMMAND_KINDS_0 : Nat} {s_COMMAND_KINDS_0 : Array (Option Value)}
    {t_COMMAND_KINDS_1 : Addr} {i_COMMAND_KINDS_1 : Array Value} {n_COMMAND_KINDS_1 : Nat} {s_COMMAND_KINDS_1 : Array (Option Value)}
    {t_COMMAND_KINDS_2 : Addr} {i_COMMAND_KINDS_2 : Array Value} {n_COMMAND_KINDS_2 : Nat} {s_COMMAND_KINDS_2 : Array (Option Value)}
    {t_COMMAND_KINDS_3 : Addr} {i_COMMAND_KINDS_3 : Array Value} {n_COMMAND_KINDS_3 : Nat} {s_COMMAND_KINDS_3 : Array (Option Value)}
    {t_COMMAND_KINDS_4 : Addr} {i_COMMAND_KINDS_4 : Array Value} {n_COMMAND_KINDS_4 : Nat} {s_COMMAND_KINDS_4 : Array (Option Value)}
    {t_COMMAND_KINDS_5 : Addr} {i_COMMAND_KINDS_5 : Array Value} {n_COMMAND_KINDS_5 : Nat} {s_COMMAND_KINDS_5 : Array (Option Value)}
    {t_COMMAND_KINDS_6 : Addr} {i_COMMAND_KINDS_6 : Array Value} {n_COMMAND_KINDS_6 : Nat} {s_COMMAND_KINDS_6 : Array (Option Value)}
    {t_COMMAND_KINDS_7 : Addr} {i_COMMAND_KINDS_7 : Array Value} {n_COMMAND_KINDS_7 : Nat} {s_COMMAND_KINDS_7 : Array (Option Value)}
    {t_COMMAND_KINDS_8 : Addr} {i_COMMAND_KINDS_8 : Array Value} {n_COMMAND_KINDS_8 : Nat} {s_COMMAND_KINDS_8 : Array (Option Value)}
    {t_COMMAND_KINDS_9 : Addr} {i_COMMAND_KINDS_9 : Array Value} {n_COMMAND_KINDS_9 : Nat} {s_COMMAND_KINDS_9 : Array (Option Value)}
    {u_MOST_COMMANDS : Tok}
    {t_DRAWING : Addr} {i_DRAWING : Array Value} {n_DRAWING : Nat} {s_DRAWING : Array (Option Value)}
    {t_PLAIN : Addr} {i_PLAIN : Array Value} {n_PLAIN : Nat} {s_PLAIN : Array (Option Value)}
    {d_SETTING_PLACES : Addr} {e_SETTING_PLACES : Array DictEntry} {n_SETTING_PLACES : Nat}
    {u_SETTING_PLACES_0 : Tok}
    {u_SETTING_PLACES_1 : Tok}
    {u_SETTING_PLACES_2 : Tok}
    {u_SETTING_PLACES_3 : Tok}
    (a0 : PySem.W.nsIn K mainGlobals "is_row" = some (some (.ref f0)))
    (l0 : K.lookup f0 = some ⟨oc0, od0, .func (PySem.W.fnOf "is_row" "is_row" (defArgs s_is_row) (defBody s_is_row) (defScope s_is_row) .none kV0 dc0 pm0 an0 cd0 ct0), sl0⟩)
    (c0 : PySem.W.codeIn K cd0 "is_row" = true)
    (k0 : PySem.W.keepIn K (.ref f0) = true)
    (a1 : PySem.W.nsIn K mainGlobals "is_whole" = some (some (.ref f1)))
    (l1 : K.lookup f1 = some ⟨oc1, od1, .func (PySem.W.fnOf "is_whole" "is_whole" (defArgs s_is_whole) (defBody s_is_whole) (defScope s_is_whole) .none kV1 dc1 pm1 an1 cd1 ct1), sl1⟩)
    (c1 : PySem.W.codeIn K cd1 "is_whole" = true)
    (k1 : PySem.W.keepIn K (.ref f1) = true)
    (a2 : PySem.W.nsIn K mainGlobals "is_between" = some (some (.ref f2)))
    (l2 : K.lookup f2 = some ⟨oc2, od2, .func (PySem.W.fnOf "is_between" "is_between" (defArgs s_is_between) (defBody s_is_between) (defScope s_is_between) .none kV2 dc2 pm2 an2 cd2 ct2), sl2⟩)
    (c2 : PySem.W.codeIn K cd2 "is_between" = true)
    (k2 : PySem.W.keepIn K (.ref f2) = true)
    (a3 : PySem.W.nsIn K mainGlobals "is_size" = some (some (.ref f3)))
    (l3 : K.lookup f3 = some ⟨oc3, od3, .func (PySem.W.fnOf "is_size" "is_size" (defArgs s_is_size) (defBody s_is_size) (defScope s_is_size) .none kV3 dc3 pm3 an3 cd3 ct3), sl3⟩)
    (c3 : PySem.W.codeIn K cd3 "is_size" = true)
    (k3 : PySem.W.keepIn K (.ref f3) = true)
    (a4 : PySem.W.nsIn K mainGlobals "is_font" = some (some (.ref f4)))
    (l4 : K.lookup f4 = some ⟨oc4, od4, .func (PySem.W.fnOf "is_font" "is_font" (defArgs s_is_font) (defBody s_is_font) (defScope s_is_font) .none kV4 dc4 pm4 an4 cd4 ct4), sl4⟩)
    (c4 : PySem.W.codeIn K cd4 "is_font" = true)
    (k4 : PySem.W.keepIn K (.ref f4) = true)
    (a5 : PySem.W.nsIn K mainGlobals "are_fonts" = some (some (.ref f5)))
    (l5 : K.lookup f5 = some ⟨oc5, od5, .func (PySem.W.fnOf "are_fonts" "are_fonts" (defArgs s_are_fonts) (defBody s_are_fonts) (defScope s_are_fonts) .none kV5 dc5 pm5 an5 cd5 ct5), sl5⟩)
    (c5 : PySem.W.codeIn K cd5 "are_fonts" = true)
    (k5 : PySem.W.keepIn K (.ref f5) = true)
    (a6 : PySem.W.nsIn K mainGlobals "is_one_of" = some (some (.ref f6)))
    (l6 : K.lookup f6 = some ⟨oc6, od6, .func (PySem.W.fnOf "is_one_of" "is_one_of" (defArgs s_is_one_of) (defBody s_is_one_of) (defScope s_is_one_of) .none kV6 dc6 pm6 an6 cd6 ct6), sl6⟩)
    (c6 : PySem.W.codeIn K cd6 "is_one_of" = true)
    (k6 : PySem.W.keepIn K (.ref f6) = true)
    (a7 : PySem.W.nsIn K mainGlobals "is_field" = some (some (.ref f7)))
    (l7 : K.lookup f7 = some ⟨oc7, od7, .func (PySem.W.fnOf "is_field" "is_field" (defArgs s_is_field) (defBody s_is_field) (defScope s_is_field) .none kV7 dc7 pm7 an7 cd7 ct7), sl7⟩)
    (c7 : PySem.W.codeIn K cd7 "is_field" = true)
    (k7 : PySem.W.keepIn K (.ref f7) = true)
    (a8 : PySem.W.nsIn K mainGlobals "are_fields" = some (some (.ref f8)))
    (l8 : K.lookup f8 = some ⟨oc8, od8, .func (PySem.W.fnOf "are_fields" "are_fields" (defArgs s_are_fields) (defBody s_are_fields) (defScope s_are_fields) .none kV8 dc8 pm8 an8 cd8 ct8), sl8⟩)
    (c8 : PySem.W.codeIn K cd8 "are_fields" = true)
    (k8 : PySem.W.keepIn K (.ref f8) = true)
    (a9 : PySem.W.nsIn K mainGlobals "need_machine" = some (some (.ref f9)))
    (l9 : K.lookup f9 = some ⟨oc9, od9, .func (PySem.W.fnOf "need_machine" "need_machine" (defArgs s_need_machine) (defBody s_need_machine) (defScope s_need_machine) .none kV9 dc9 pm9 an9 cd9 ct9), sl9⟩)
    (c9 : PySem.W.codeIn K cd9 "need_machine" = true)
    (k9 : PySem.W.keepIn K (.ref f9) = true)
    (a10 : PySem.W.nsIn K mainGlobals "is_part" = some (some (.ref f10)))
    (l10 : K.lookup f10 = some ⟨oc10, od10, .func (PySem.W.fnOf "is_part" "is_part" (defArgs s_is_part) (defBody s_is_part) (defScope s_is_part) .none kV10 dc10 pm10 an10 cd10 ct10), sl10⟩)
    (c10 : PySem.W.codeIn K cd10 "is_part" = true)
    (k10 : PySem.W.keepIn K (.ref f10) = true)
    (a11 : PySem.W.nsIn K mainGlobals "are_parts" = some (some (.ref f11)))
    (l11 : K.lookup f11 = some ⟨oc11, od11, .func (PySem.W.fnOf "are_parts" "are_parts" (defArgs s_are_parts) (defBody s_are_parts) (defScope s_are_parts) .none kV11 dc11 pm11 an11 cd11 ct11), sl11⟩)
    (c11 : PySem.W.codeIn K cd11 "are_parts" = true)
    (k11 : PySem.W.keepIn K (.ref f11) = true)
    (a12 : PySem.W.nsIn K mainGlobals "is_settings" = some (some (.ref f12)))
    (l12 : K.lookup f12 = some ⟨oc12, od12, .func (PySem.W.fnOf "is_settings" "is_settings" (defArgs s_is_settings) (defBody s_is_settings) (defScope s_is_settings) .none kV12 dc12 pm12 an12 cd12 ct12), sl12⟩)
    (c12 : PySem.W.codeIn K cd12 "is_settings" = true)
    (k12 : PySem.W.keepIn K (.ref f12) = true)
    (a13 : PySem.W.nsIn K mainGlobals "need_settings" = some (some (.ref f13)))
    (l13 : K.lookup f13 = some ⟨oc13, od13, .func (PySem.W.fnOf "need_settings" "need_settings" (defArgs s_need_settings) (defBody s_need_settings) (defScope s_need_settings) .none kV13 dc13 pm13 an13 cd13 ct13), sl13⟩)
    (c13 : PySem.W.codeIn K cd13 "need_settings" = true)
    (k13 : PySem.W.keepIn K (.ref f13) = true)
    (a14 : PySem.W.nsIn K mainGlobals "fits_command" = some (some (.ref f14)))
    (l14 : K.lookup f14 = some ⟨oc14, od14, .func (PySem.W.fnOf "fits_command" "fits_command" (defArgs s_fits_command) (defBody s_fits_command) (defScope s_fits_command) .none kV14 dc14 pm14 an14 cd14 ct14), sl14⟩)
    (c14 : PySem.W.codeIn K cd14 "fits_command" = true)
    (k14 : PySem.W.keepIn K (.ref f14) = true)
    (a15 : PySem.W.nsIn K mainGlobals "need_program" = some (some (.ref f15)))
    (l15 : K.lookup f15 = some ⟨oc15, od15, .func (PySem.W.fnOf "need_program" "need_program" (defArgs s_need_program) (defBody s_need_program) (defScope s_need_program) .none kV15 dc15 pm15 an15 cd15 ct15), sl15⟩)
    (c15 : PySem.W.codeIn K cd15 "need_program" = true)
    (k15 : PySem.W.keepIn K (.ref f15) = true)
    (a16 : PySem.W.nsIn K mainGlobals "need_start" = some (some (.ref f16)))
    (l16 : K.lookup f16 = some ⟨oc16, od16, .func (PySem.W.fnOf "need_start" "need_start" (defArgs s_need_start) (defBody s_need_start) (defScope s_need_start) .none kV16 dc16 pm16 an16 cd16 ct16), sl16⟩)
    (c16 : PySem.W.codeIn K cd16 "need_start" = true)
    (k16 : PySem.W.keepIn K (.ref f16) = true)
    (a17 : PySem.W.nsIn K mainGlobals "overlap" = some (some (.ref f17)))
    (l17 : K.lookup f17 = some ⟨oc17, od17, .func (PySem.W.fnOf "overlap" "overlap" (defArgs s_overlap) (defBody s_overlap) (defScope s_overlap) .none kV17 dc17 pm17 an17 cd17 ct17), sl17⟩)
    (c17 : PySem.W.codeIn K cd17 "overlap" = true)
    (k17 : PySem.W.keepIn K (.ref f17) = true)
    (a18 : PySem.W.nsIn K mainGlobals "extent" = some (some (.ref f18)))
    (l18 : K.lookup f18 = some ⟨oc18, od18, .func (PySem.W.fnOf "extent" "extent" (defArgs s_extent) (defBody s_extent) (defScope s_extent) .none kV18 dc18 pm18 an18 cd18 ct18), sl18⟩)
    (c18 : PySem.W.codeIn K cd18 "extent" = true)
    (k18 : PySem.W.keepIn K (.ref f18) = true)
    (a19 : PySem.W.nsIn K mainGlobals "dot_of" = some (some (.ref f19)))
    (l19 : K.lookup f19 = some ⟨oc19, od19, .func (PySem.W.fnOf "dot_of" "dot_of" (defArgs s_dot_of) (defBody s_dot_of) (defScope s_dot_of) .none kV19 dc19 pm19 an19 cd19 ct19), sl19⟩)
    (c19 : PySem.W.codeIn K cd19 "dot_of" = true)
    (k19 : PySem.W.keepIn K (.ref f19) = true)
    (a20 : PySem.W.nsIn K mainGlobals "reach" = some (some (.ref f20)))
    (l20 : K.lookup f20 = some ⟨oc20, od20, .func (PySem.W.fnOf "reach" "reach" (defArgs s_reach) (defBody s_reach) (defScope s_reach) .none kV20 dc20 pm20 an20 cd20 ct20), sl20⟩)
    (c20 : PySem.W.codeIn K cd20 "reach" = true)
    (k20 : PySem.W.keepIn K (.ref f20) = true)
    (a21 : PySem.W.nsIn K mainGlobals "label_area" = some (some (.ref f21)))
    (l21 : K.lookup f21 = some ⟨oc21, od21, .func (PySem.W.fnOf "label_area" "label_area" (defArgs s_label_area) (defBody s_label_area) (defScope s_label_area) .none kV21 dc21 pm21 an21 cd21 ct21), sl21⟩)
    (c21 : PySem.W.codeIn K cd21 "label_area" = true)
    (k21 : PySem.W.keepIn K (.ref f21) = true)
    (a22 : PySem.W.nsIn K mainGlobals "visible" = some (some (.ref f22)))
    (l22 : K.lookup f22 = some ⟨oc22, od22, .func (PySem.W.fnOf "visible" "visible" (defArgs s_visible) (defBody s_visible) (defScope s_visible) .none kV22 dc22 pm22 an22 cd22 ct22), sl22⟩)
    (c22 : PySem.W.codeIn K cd22 "visible" = true)
    (k22 : PySem.W.keepIn K (.ref f22) = true)
    (a23 : PySem.W.nsIn K mainGlobals "is_cut" = some (some (.ref f23)))
    (l23 : K.lookup f23 = some ⟨oc23, od23, .func (PySem.W.fnOf "is_cut" "is_cut" (defArgs s_is_cut) (defBody s_is_cut) (defScope s_is_cut) .none kV23 dc23 pm23 an23 cd23 ct23), sl23⟩)
    (c23 : PySem.W.codeIn K cd23 "is_cut" = true)
    (k23 : PySem.W.keepIn K (.ref f23) = true)
    (a24 : PySem.W.nsIn K mainGlobals "signs_of" = some (some (.ref f24)))
    (l24 : K.lookup f24 = some ⟨oc24, od24, .func (PySem.W.fnOf "signs_of" "signs_of" (defArgs s_signs_of) (defBody s_signs_of) (defScope s_signs_of) .none kV24 dc24 pm24 an24 cd24 ct24), sl24⟩)
    (c24 : PySem.W.codeIn K cd24 "signs_of" = true)
    (k24 : PySem.W.keepIn K (.ref f24) = true)
    (a25 : PySem.W.nsIn K mainGlobals "least_cut" = some (some (.ref f25)))
    (l25 : K.lookup f25 = some ⟨oc25, od25, .func (PySem.W.fnOf "least_cut" "least_cut" (defArgs s_least_cut) (defBody s_least_cut) (defScope s_least_cut) .none kV25 dc25 pm25 an25 cd25 ct25), sl25⟩)
    (c25 : PySem.W.codeIn K cd25 "least_cut" = true)
    (k25 : PySem.W.keepIn K (.ref f25) = true)
    (a26 : PySem.W.nsIn K mainGlobals "settings_after" = some (some (.ref f26)))
    (l26 : K.lookup f26 = some ⟨oc26, od26, .func (PySem.W.fnOf "settings_after" "settings_after" (defArgs s_settings_after) (defBody s_settings_after) (defScope s_settings_after) .none kV26 dc26 pm26 an26 cd26 ct26), sl26⟩)
    (c26 : PySem.W.codeIn K cd26 "settings_after" = true)
    (k26 : PySem.W.keepIn K (.ref f26) = true)
    (a27 : PySem.W.nsIn K mainGlobals "steps" = some (some (.ref f27)))
    (l27 : K.lookup f27 = some ⟨oc27, od27, .func (PySem.W.fnOf "steps" "steps" (defArgs s_steps) (defBody s_steps) (defScope s_steps) .none kV27 dc27 pm27 an27 cd27 ct27), sl27⟩)
    (c27 : PySem.W.codeIn K cd27 "steps" = true)
    (k27 : PySem.W.keepIn K (.ref f27) = true)
    (a28 : PySem.W.nsIn K mainGlobals "cuts" = some (some (.ref f28)))
    (l28 : K.lookup f28 = some ⟨oc28, od28, .func (PySem.W.fnOf "cuts" "cuts" (defArgs s_cuts) (defBody s_cuts) (defScope s_cuts) .none kV28 dc28 pm28 an28 cd28 ct28), sl28⟩)
    (c28 : PySem.W.codeIn K cd28 "cuts" = true)
    (k28 : PySem.W.keepIn K (.ref f28) = true)
    (a29 : PySem.W.nsIn K mainGlobals "_law_after" = some (some (.ref f29)))
    (l29 : K.lookup f29 = some ⟨oc29, od29, .func (PySem.W.fnOf "_law_after" "_law_after" (defArgs s__law_after) (defBody s__law_after) (defScope s__law_after) .none kV29 dc29 pm29 an29 cd29 ct29), sl29⟩)
    (c29 : PySem.W.codeIn K cd29 "_law_after" = true)
    (k29 : PySem.W.keepIn K (.ref f29) = true)
    (a30 : PySem.W.nsIn K mainGlobals "_law_spot" = some (some (.ref f30)))
    (l30 : K.lookup f30 = some ⟨oc30, od30, .func (PySem.W.fnOf "_law_spot" "_law_spot" (defArgs s__law_spot) (defBody s__law_spot) (defScope s__law_spot) .none kV30 dc30 pm30 an30 cd30 ct30), sl30⟩)
    (c30 : PySem.W.codeIn K cd30 "_law_spot" = true)
    (k30 : PySem.W.keepIn K (.ref f30) = true)
    (a31 : PySem.W.nsIn K mainGlobals "_law_reached" = some (some (.ref f31)))
    (l31 : K.lookup f31 = some ⟨oc31, od31, .func (PySem.W.fnOf "_law_reached" "_law_reached" (defArgs s__law_reached) (defBody s__law_reached) (defScope s__law_reached) .none kV31 dc31 pm31 an31 cd31 ct31), sl31⟩)
    (c31 : PySem.W.codeIn K cd31 "_law_reached" = true)
    (k31 : PySem.W.keepIn K (.ref f31) = true)
    (a32 : PySem.W.nsIn K mainGlobals "_law_most" = some (some (.ref f32)))
    (l32 : K.lookup f32 = some ⟨oc32, od32, .func (PySem.W.fnOf "_law_most" "_law_most" (defArgs s__law_most) (defBody s__law_most) (defScope s__law_most) .none kV32 dc32 pm32 an32 cd32 ct32), sl32⟩)
    (c32 : PySem.W.codeIn K cd32 "_law_most" = true)
    (k32 : PySem.W.keepIn K (.ref f32) = true)
    (a33 : PySem.W.nsIn K mainGlobals "_law_cut_of" = some (some (.ref f33)))
    (l33 : K.lookup f33 = some ⟨oc33, od33, .func (PySem.W.fnOf "_law_cut_of" "_law_cut_of" (defArgs s__law_cut_of) (defBody s__law_cut_of) (defScope s__law_cut_of) .none kV33 dc33 pm33 an33 cd33 ct33), sl33⟩)
    (c33 : PySem.W.codeIn K cd33 "_law_cut_of" = true)
    (k33 : PySem.W.keepIn K (.ref f33) = true)
    (a34 : PySem.W.nsIn K mainGlobals "_law_next" = some (some (.ref f34)))
    (l34 : K.lookup f34 = some ⟨oc34, od34, .func (PySem.W.fnOf "_law_next" "_law_next" (defArgs s__law_next) (defBody s__law_next) (defScope s__law_next) .none kV34 dc34 pm34 an34 cd34 ct34), sl34⟩)
    (c34 : PySem.W.codeIn K cd34 "_law_next" = true)
    (k34 : PySem.W.keepIn K (.ref f34) = true)
    (a35 : PySem.W.nsIn K mainGlobals "_law_machine" = some (some (.ref f35)))
    (l35 : K.lookup f35 = some ⟨oc35, od35, .func (PySem.W.fnOf "_law_machine" "_law_machine" (defArgs s__law_machine) (defBody s__law_machine) (defScope s__law_machine) .none kV35 dc35 pm35 an35 cd35 ct35), sl35⟩)
    (c35 : PySem.W.codeIn K cd35 "_law_machine" = true)
    (k35 : PySem.W.keepIn K (.ref f35) = true)
    (a36 : PySem.W.nsIn K mainGlobals "_law_of" = some (some (.ref f36)))
    (l36 : K.lookup f36 = some ⟨oc36, od36, .func (PySem.W.fnOf "_law_of" "_law_of" (defArgs s__law_of) (defBody s__law_of) (defScope s__law_of) .none kV36 dc36 pm36 an36 cd36 ct36), sl36⟩)
    (c36 : PySem.W.codeIn K cd36 "_law_of" = true)
    (k36 : PySem.W.keepIn K (.ref f36) = true)
    (a37 : PySem.W.nsIn K mainGlobals "_law_settings" = some (some (.ref f37)))
    (l37 : K.lookup f37 = some ⟨oc37, od37, .func (PySem.W.fnOf "_law_settings" "_law_settings" (defArgs s__law_settings) (defBody s__law_settings) (defScope s__law_settings) .none kV37 dc37 pm37 an37 cd37 ct37), sl37⟩)
    (c37 : PySem.W.codeIn K cd37 "_law_settings" = true)
    (k37 : PySem.W.keepIn K (.ref f37) = true)
    (a38 : PySem.W.nsIn K mainGlobals "_law_command" = some (some (.ref f38)))
    (l38 : K.lookup f38 = some ⟨oc38, od38, .func (PySem.W.fnOf "_law_command" "_law_command" (defArgs s__law_command) (defBody s__law_command) (defScope s__law_command) .none kV38 dc38 pm38 an38 cd38 ct38), sl38⟩)
    (c38 : PySem.W.codeIn K cd38 "_law_command" = true)
    (k38 : PySem.W.keepIn K (.ref f38) = true)
    (a39 : PySem.W.nsIn K mainGlobals "_law_steps" = some (some (.ref f39)))
    (l39 : K.lookup f39 = some ⟨oc39, od39, .func (PySem.W.fnOf "_law_steps" "_law_steps" (defArgs s__law_steps) (defBody s__law_steps) (defScope s__law_steps) .none kV39 dc39 pm39 an39 cd39 ct39), sl39⟩)
    (c39 : PySem.W.codeIn K cd39 "_law_steps" = true)
    (k39 : PySem.W.keepIn K (.ref f39) = true)
    (a40 : PySem.W.nsIn K mainGlobals "_law_begun" = some (some (.ref f40)))
    (l40 : K.lookup f40 = some ⟨oc40, od40, .func (PySem.W.fnOf "_law_begun" "_law_begun" (defArgs s__law_begun) (defBody s__law_begun) (defScope s__law_begun) .none kV40 dc40 pm40 an40 cd40 ct40), sl40⟩)
    (c40 : PySem.W.codeIn K cd40 "_law_begun" = true)
    (k40 : PySem.W.keepIn K (.ref f40) = true)
    (a41 : PySem.W.nsIn K mainGlobals "law" = some (some (.ref f41)))
    (l41 : K.lookup f41 = some ⟨oc41, od41, .func (PySem.W.fnOf "law" "law" (defArgs s_law) (defBody s_law) (defScope s_law) .none kV41 dc41 pm41 an41 cd41 ct41), sl41⟩)
    (c41 : PySem.W.codeIn K cd41 "law" = true)
    (k41 : PySem.W.keepIn K (.ref f41) = true)
    (z_all : PySem.W.nsIn K mainGlobals "all" = some none)
    (z_bool : PySem.W.nsIn K mainGlobals "bool" = some none)
    (z_dict : PySem.W.nsIn K mainGlobals "dict" = some none)
    (z_enumerate : PySem.W.nsIn K mainGlobals "enumerate" = some none)
    (z_int : PySem.W.nsIn K mainGlobals "int" = some none)
    (z_isinstance : PySem.W.nsIn K mainGlobals "isinstance" = some none)
    (z_len : PySem.W.nsIn K mainGlobals "len" = some none)
    (z_list : PySem.W.nsIn K mainGlobals "list" = some none)
    (z_max : PySem.W.nsIn K mainGlobals "max" = some none)
    (z_min : PySem.W.nsIn K mainGlobals "min" = some none)
    (z_range : PySem.W.nsIn K mainGlobals "range" = some none)
    (z_repr : PySem.W.nsIn K mainGlobals "repr" = some none)
    (z_str : PySem.W.nsIn K mainGlobals "str" = some none)
    (z_tuple : PySem.W.nsIn K mainGlobals "tuple" = some none)
    (z_zip : PySem.W.nsIn K mainGlobals "zip" = some none)
    (a_NAMES : PySem.W.nsIn K mainGlobals "NAMES" = some (some (.ref t_NAMES)))
    (l_NAMES : K.lookup t_NAMES = some ⟨.type "tuple", none, .seq i_NAMES n_NAMES, s_NAMES⟩)
    (q_NAMES : FlatL i_NAMES.toList [(.str "A"), (.str "B"), (.str "C"), (.str "D"), (.str "E"), (.str "F"), (.str "G"), (.str "H")])
    (a_FARTHEST : PySem.W.nsIn K mainGlobals "FARTHEST" = some (some (.int 1000000 u_FARTHEST)))
    (a_INKS : PySem.W.nsIn K mainGlobals "INKS" = some (some (.ref t_INKS)))
    (l_INKS : K.lookup t_INKS = some ⟨.type "tuple", none, .seq i_INKS n_INKS, s_INKS⟩)
    (q_INKS : FlatL i_INKS.toList [(.str "set"), (.str "flip")])
    (a_SETTING_KINDS : PySem.W.nsIn K mainGlobals "SETTING_KINDS" = some (some (.ref t_SETTING_KINDS)))
    (l_SETTING_KINDS : K.lookup t_SETTING_KINDS = some ⟨.type "tuple", none, .seq i_SETTING_KINDS n_SETTING_KINDS, s_SETTING_KINDS⟩)
    (q_SETTING_KINDS : FlatL i_SETTING_KINDS.toList [(.str "origin"), (.str "origin"), (.str "turn"), (.str "font"), (.str "scale"), (.str "ink")])
    (a_COMMAND_KINDS : PySem.W.nsIn K mainGlobals "COMMAND_KINDS" = some (some (.ref d_COMMAND_KINDS)))
    (l_COMMAND_KINDS : K.lookup d_COMMAND_KINDS = some ⟨.type "dict", none, .dict e_COMMAND_KINDS n_COMMAND_KINDS, #[]⟩)
    (e2_COMMAND_KINDS : EntL w.params e_COMMAND_KINDS.toList [("home", .ref t_COMMAND_KINDS_0), ("move", .ref t_COMMAND_KINDS_1), ("turn", .ref t_COMMAND_KINDS_2), ("font", .ref t_COMMAND_KINDS_3), ("scale", .ref t_COMMAND_KINDS_4), ("ink", .ref t_COMMAND_KINDS_5), ("plain", .ref t_COMMAND_KINDS_6), ("box", .ref t_COMMAND_KINDS_7), ("clear", .ref t_COMMAND_KINDS_8), ("field", .ref t_COMMAND_KINDS_9)])
    (l_COMMAND_KINDS_0 : K.lookup t_COMMAND_KINDS_0 = some ⟨.type "tuple", none, .seq i_COMMAND_KINDS_0 n_COMMAND_KINDS_0, s_COMMAND_KINDS_0⟩)
    (q_COMMAND_KINDS_0 : FlatL i_COMMAND_KINDS_0.toList [(.str "place"), (.str "place")])
    (l_COMMAND_KINDS_1 : K.lookup t_COMMAND_KINDS_1 = some ⟨.type "tuple", none, .seq i_COMMAND_KINDS_1 n_COMMAND_KINDS_1, s_COMMAND_KINDS_1⟩)
    (q_COMMAND_KINDS_1 : FlatL i_COMMAND_KINDS_1.toList [(.str "place"), (.str "place")])
    (l_COMMAND_KINDS_2 : K.lookup t_COMMAND_KINDS_2 = some ⟨.type "tuple", none, .seq i_COMMAND_KINDS_2 n_COMMAND_KINDS_2, s_COMMAND_KINDS_2⟩)
    (q_COMMAND_KINDS_2 : FlatL i_COMMAND_KINDS_2.toList [(.str "turn")])
    (l_COMMAND_KINDS_3 : K.lookup t_COMMAND_KINDS_3 = some ⟨.type "tuple", none, .seq i_COMMAND_KINDS_3 n_COMMAND_KINDS_3, s_COMMAND_KINDS_3⟩)
    (q_COMMAND_KINDS_3 : FlatL i_COMMAND_KINDS_3.toList [(.str "font")])
    (l_COMMAND_KINDS_4 : K.lookup t_COMMAND_KINDS_4 = some ⟨.type "tuple", none, .seq i_COMMAND_KINDS_4 n_COMMAND_KINDS_4, s_COMMAND_KINDS_4⟩)
    (q_COMMAND_KINDS_4 : FlatL i_COMMAND_KINDS_4.toList [(.str "scale")])
    (l_COMMAND_KINDS_5 : K.lookup t_COMMAND_KINDS_5 = some ⟨.type "tuple", none, .seq i_COMMAND_KINDS_5 n_COMMAND_KINDS_5, s_COMMAND_KINDS_5⟩)
    (q_COMMAND_KINDS_5 : FlatL i_COMMAND_KINDS_5.toList [(.str "ink")])
    (l_COMMAND_KINDS_6 : K.lookup t_COMMAND_KINDS_6 = some ⟨.type "tuple", none, .seq i_COMMAND_KINDS_6 n_COMMAND_KINDS_6, s_COMMAND_KINDS_6⟩)
    (q_COMMAND_KINDS_6 : FlatL i_COMMAND_KINDS_6.toList [])
    (l_COMMAND_KINDS_7 : K.lookup t_COMMAND_KINDS_7 = some ⟨.type "tuple", none, .seq i_COMMAND_KINDS_7 n_COMMAND_KINDS_7, s_COMMAND_KINDS_7⟩)
    (q_COMMAND_KINDS_7 : FlatL i_COMMAND_KINDS_7.toList [(.str "place"), (.str "place"), (.str "length"), (.str "length")])
    (l_COMMAND_KINDS_8 : K.lookup t_COMMAND_KINDS_8 = some ⟨.type "tuple", none, .seq i_COMMAND_KINDS_8 n_COMMAND_KINDS_8, s_COMMAND_KINDS_8⟩)
    (q_COMMAND_KINDS_8 : FlatL i_COMMAND_KINDS_8.toList [(.str "place"), (.str "place"), (.str "length"), (.str "length")])
    (l_COMMAND_KINDS_9 : K.lookup t_COMMAND_KINDS_9 = some ⟨.type "tuple", none, .seq i_COMMAND_KINDS_9 n_COMMAND_KINDS_9, s_COMMAND_KINDS_9⟩)
    (q_COMMAND_KINDS_9 : FlatL i_COMMAND_KINDS_9.toList [(.str "place"), (.str "place"), (.str "name")])
    (lo_COMMAND_KINDS : (d_COMMAND_KINDS == sysModules) = false)
    (a_MOST_COMMANDS : PySem.W.nsIn K mainGlobals "MOST_COMMANDS" = some (some (.int 60 u_MOST_COMMANDS)))
    (a_DRAWING : PySem.W.nsIn K mainGlobals "DRAWING" = some (some (.ref t_DRAWING)))
    (l_DRAWING : K.lookup t_DRAWING = some ⟨.type "tuple", none, .seq i_DRAWING n_DRAWING, s_DRAWING⟩)
    (q_DRAWING : FlatL i_DRAWING.toList [(.str "box"), (.str "clear"), (.str "field")])
    (a_PLAIN : PySem.W.nsIn K mainGlobals "PLAIN" = some (some (.ref t_PLAIN)))
    (l_PLAIN : K.lookup t_PLAIN = some ⟨.type "tuple", none, .seq i_PLAIN n_PLAIN, s_PLAIN⟩)
    (q_PLAIN : FlatL i_PLAIN.toList [(.int 0), (.int 0), (.int 0), (.int 0), (.int 1), (.str "set")])
    (a_SETTING_PLACES : PySem.W.nsIn K mainGlobals "SETTING_PLACES" = some (some (.ref d_SETTING_PLACES)))
    (l_SETTING_PLACES : K.lookup d_SETTING_PLACES = some ⟨.type "dict", none, .dict e_SETTING_PLACES n_SETTING_PLACES, #[]⟩)
    (e2_SETTING_PLACES : EntL w.params e_SETTING_PLACES.toList [("turn", .int 2 u_SETTING_PLACES_0), ("font", .int 3 u_SETTING_PLACES_1), ("scale", .int 4 u_SETTING_PLACES_2), ("ink", .int 5 u_SETTING_PLACES_3)])
    (lo_SETTING_PLACES : (d_SETTING_PLACES == sysModules) = false) : Nonempty (Tp K w mg) := ⟨{
    f_is_row := f0, fd_is_row := _, F_is_row := fun_mk (st := s_is_row) l0 c0 k0, g_is_row := PySem.W.mg_of X G a0, b_is_row := (fun_mk (st := s_is_row) l0 c0 k0).binds (ps := ["value", "many"]) fun _ _ _ _ _ _ us hl => match us, hl with | [_, _], _ => rfl,
    f_is_whole := f1, fd_is_whole := _, F_is_whole := fun_mk (st := s_is_whole) l1 c1 k1, g_is_whole := PySem.W.mg_of X G a1, b_is_whole := (fun_mk (st := s_is_whole) l1 c1 k1).binds (ps := ["value"]) fun _ _ _ _ _ _ us hl => match us, hl with | [_], _ => rfl,
    f_is_between := f2, fd_is_between := _, F_is_between := fun_mk (st := s_is_between) l2 c2 k2, g_is_between := PySem.W.mg_of X G a2, b_is_between := (fun_mk (st := s_is_between) l2 c2 k2).binds (ps := ["value", "low", "high"]) fun _ _ _ _ _ _ us hl => match us, hl with | [_, _, _], _ => rfl,
    f_is_size := f3, fd_is_size := _, F_is_size := fun_mk (st := s_is_size) l3 c3 k3, g_is_size := PySem.W.mg_of X G a3, b_is_size := (fun_mk (st := s_is_size) l3 c3 k3).binds (ps := ["value"]) fun _ _ _ _ _ _ us hl => match us, hl with | [_], _ => rfl,
    f_is_font := f4, fd_is_font := _, F_is_font := fun_mk (st := s_is_font) l4 c4 k4, g_is_font := PySem.W.mg_of X G a4, b_is_font := (fun_mk (st := s_is_font) l4 c4 k4).binds (ps := ["value"]) fun _ _ _ _ _ _ us hl => match us, hl with | [_], _ => rfl,
    f_are_fonts := f5, fd_are_fonts := _, F_are_fonts := fun_mk (st := s_are_fonts) l5 c5 k5, g_are_fonts := PySem.W.mg_of X G a5, b_are_fonts := (fun_mk (st := s_are_fonts) l5 c5 k5).binds (ps := ["value"]) fun _ _ _ _ _ _ us hl => match us, hl with | [_], _ => rfl,
    f_is_one_of := f6, fd_is_one_of := _, F_is_one_of := fun_mk (st := s_is_one_of) l6 c6 k6, g_is_one_of := PySem.W.mg_of X G a6, b_is_one_of := (fun_mk (st := s_is_one_of) l6 c6 k6).binds (ps := ["value", "words"]) fun _ _ _ _ _ _ us hl => match us, hl with | [_, _], _ => rfl,
    f_is_field := f7, fd_is_field := _, F_is_field := fun_mk (st := s_is_field) l7 c7 k7, g_is_field := PySem.W.mg_of X G a7, b_is_field := (fun_mk (st := s_is_field) l7 c7 k7).binds (ps := ["value"]) fun _ _ _ _ _ _ us hl => match us, hl with | [_], _ => rfl,
    f_are_fields := f8, fd_are_fields := _, F_are_fields := fun_mk (st := s_are_fields) l8 c8 k8, g_are_fields := PySem.W.mg_of X G a8, b_are_fields := (fun_mk (st := s_are_fields) l8 c8 k8).binds (ps := ["value"]) fun _ _ _ _ _ _ us hl => match us, hl with | [_], _ => rfl,
    f_need_machine := f9, fd_need_machine := _, F_need_machine := fun_mk (st := s_need_machine) l9 c9 k9, g_need_machine := PySem.W.mg_of X G a9, b_need_machine := (fun_mk (st := s_need_machine) l9 c9 k9).binds (ps := ["thing"]) fun _ _ _ _ _ _ us hl => match us, hl with | [_], _ => rfl,
    f_is_part := f10, fd_is_part := _, F_is_part := fun_mk (st := s_is_part) l10 c10 k10, g_is_part := PySem.W.mg_of X G a10, b_is_part := (fun_mk (st := s_is_part) l10 c10 k10).binds (ps := ["machine", "kind", "value"]) fun _ _ _ _ _ _ us hl => match us, hl with | [_, _, _], _ => rfl,
    f_are_parts := f11, fd_are_parts := _, F_are_parts := fun_mk (st := s_are_parts) l11 c11 k11, g_are_parts := PySem.W.mg_of X G a11, b_are_parts := (fun_mk (st := s_are_parts) l11 c11 k11).binds (ps := ["machine", "kinds", "value"]) fun _ _ _ _ _ _ us hl => match us, hl with | [_, _, _], _ => rfl,
    f_is_settings := f12, fd_is_settings := _, F_is_settings := fun_mk (st := s_is_settings) l12 c12 k12, g_is_settings := PySem.W.mg_of X G a12, b_is_settings := (fun_mk (st := s_is_settings) l12 c12 k12).binds (ps := ["machine", "value"]) fun _ _ _ _ _ _ us hl => match us, hl with | [_, _], _ => rfl,
    f_need_settings := f13, fd_need_settings := _, F_need_settings := fun_mk (st := s_need_settings) l13 c13 k13, g_need_settings := PySem.W.mg_of X G a13, b_need_settings := (fun_mk (st := s_need_settings) l13 c13 k13).binds (ps := ["machine", "settings"]) fun _ _ _ _ _ _ us hl => match us, hl with | [_, _], _ => rfl,
    f_fits_command := f14, fd_fits_command := _, F_fits_command := fun_mk (st := s_fits_command) l14 c14 k14, g_fits_command := PySem.W.mg_of X G a14, b_fits_command := (fun_mk (st := s_fits_command) l14 c14 k14).binds (ps := ["machine", "value"]) fun _ _ _ _ _ _ us hl => match us, hl with | [_, _], _ => rfl,
    f_need_program := f15, fd_need_program := _, F_need_program := fun_mk (st := s_need_program) l15 c15 k15, g_need_program := PySem.W.mg_of X G a15, b_need_program := (fun_mk (st := s_need_program) l15 c15 k15).binds (ps := ["machine", "program"]) fun _ _ _ _ _ _ us hl => match us, hl with | [_, _], _ => rfl,
    f_need_start := f16, fd_need_start := _, F_need_start := fun_mk (st := s_need_start) l16 c16 k16, g_need_start := PySem.W.mg_of X G a16, b_need_start := (fun_mk (st := s_need_start) l16 c16 k16).binds (ps := ["machine", "settings", "program"]) fun _ _ _ _ _ _ us hl => match us, hl with | [_, _, _], _ => rfl,
    f_overlap := f17, fd_overlap := _, F_overlap := fun_mk (st := s_overlap) l17 c17 k17, g_overlap := PySem.W.mg_of X G a17, b_overlap := (fun_mk (st := s_overlap) l17 c17 k17).binds (ps := ["one", "other"]) fun _ _ _ _ _ _ us hl => match us, hl with | [_, _], _ => rfl,
    f_extent := f18, fd_extent := _, F_extent := fun_mk (st := s_extent) l18 c18 k18, g_extent := PySem.W.mg_of X G a18, b_extent := (fun_mk (st := s_extent) l18 c18 k18).binds (ps := ["machine", "settings", "command", "signs"]) fun _ _ _ _ _ _ us hl => match us, hl with | [_, _, _, _], _ => rfl,
    f_dot_of := f19, fd_dot_of := _, F_dot_of := fun_mk (st := s_dot_of) l19 c19 k19, g_dot_of := PySem.W.mg_of X G a19, b_dot_of := (fun_mk (st := s_dot_of) l19 c19 k19).binds (ps := ["settings", "point"]) fun _ _ _ _ _ _ us hl => match us, hl with | [_, _], _ => rfl,
    f_reach := f20, fd_reach := _, F_reach := fun_mk (st := s_reach) l20 c20 k20, g_reach := PySem.W.mg_of X G a20, b_reach := (fun_mk (st := s_reach) l20 c20 k20).binds (ps := ["machine", "settings", "command", "signs"]) fun _ _ _ _ _ _ us hl => match us, hl with | [_, _, _, _], _ => rfl,
    f_label_area := f21, fd_label_area := _, F_label_area := fun_mk (st := s_label_area) l21 c21 k21, g_label_area := PySem.W.mg_of X G a21, b_label_area := (fun_mk (st := s_label_area) l21 c21 k21).binds (ps := ["machine"]) fun _ _ _ _ _ _ us hl => match us, hl with | [_], _ => rfl,
    f_visible := f22, fd_visible := _, F_visible := fun_mk (st := s_visible) l22 c22 k22, g_visible := PySem.W.mg_of X G a22, b_visible := (fun_mk (st := s_visible) l22 c22 k22).binds (ps := ["machine", "settings", "command", "signs"]) fun _ _ _ _ _ _ us hl => match us, hl with | [_, _, _, _], _ => rfl,
    f_is_cut := f23, fd_is_cut := _, F_is_cut := fun_mk (st := s_is_cut) l23 c23 k23, g_is_cut := PySem.W.mg_of X G a23, b_is_cut := (fun_mk (st := s_is_cut) l23 c23 k23).binds (ps := ["machine", "settings", "command", "signs"]) fun _ _ _ _ _ _ us hl => match us, hl with | [_, _, _, _], _ => rfl,
    f_signs_of := f24, fd_signs_of := _, F_signs_of := fun_mk (st := s_signs_of) l24 c24 k24, g_signs_of := PySem.W.mg_of X G a24, b_signs_of := (fun_mk (st := s_signs_of) l24 c24 k24).binds (ps := ["machine", "command"]) fun _ _ _ _ _ _ us hl => match us, hl with | [_, _], _ => rfl,
    f_least_cut := f25, fd_least_cut := _, F_least_cut := fun_mk (st := s_least_cut) l25 c25 k25, g_least_cut := PySem.W.mg_of X G a25, b_least_cut := (fun_mk (st := s_least_cut) l25 c25 k25).binds (ps := ["machine", "settings", "command"]) fun _ _ _ _ _ _ us hl => match us, hl with | [_, _, _], _ => rfl,
    f_settings_after := f26, fd_settings_after := _, F_settings_after := fun_mk (st := s_settings_after) l26 c26 k26, g_settings_after := PySem.W.mg_of X G a26, b_settings_after := (fun_mk (st := s_settings_after) l26 c26 k26).binds (ps := ["settings", "command"]) fun _ _ _ _ _ _ us hl => match us, hl with | [_, _], _ => rfl,
    f_steps := f27, fd_steps := _, F_steps := fun_mk (st := s_steps) l27 c27 k27, g_steps := PySem.W.mg_of X G a27, b_steps := (fun_mk (st := s_steps) l27 c27 k27).binds (ps := ["settings", "program"]) fun _ _ _ _ _ _ us hl => match us, hl with | [_, _], _ => rfl,
    f_cuts := f28, fd_cuts := _, F_cuts := fun_mk (st := s_cuts) l28 c28 k28, g_cuts := PySem.W.mg_of X G a28, b_cuts := (fun_mk (st := s_cuts) l28 c28 k28).binds (ps := ["machine", "settings", "program"]) fun _ _ _ _ _ _ us hl => match us, hl with | [_, _, _], _ => rfl,
    f__law_after := f29, fd__law_after := _, F__law_after := fun_mk (st := s__law_after) l29 c29 k29, g__law_after := PySem.W.mg_of X G a29, b__law_after := (fun_mk (st := s__law_after) l29 c29 k29).binds (ps := ["state", "command"]) fun _ _ _ _ _ _ us hl => match us, hl with | [_, _], _ => rfl,
    f__law_spot := f30, fd__law_spot := _, F__law_spot := fun_mk (st := s__law_spot) l30 c30 k30, g__law_spot := PySem.W.mg_of X G a30, b__law_spot := (fun_mk (st := s__law_spot) l30 c30 k30).binds (ps := ["state", "px", "py"]) fun _ _ _ _ _ _ us hl => match us, hl with | [_, _, _], _ => rfl,
    f__law_reached := f31, fd__law_reached := _, F__law_reached := fun_mk (st := s__law_reached) l31 c31 k31, g__law_reached := PySem.W.mg_of X G a31, b__law_reached := (fun_mk (st := s__law_reached) l31 c31 k31).binds (ps := ["unit", "state", "command", "signs"]) fun _ _ _ _ _ _ us hl => match us, hl with | [_, _, _, _], _ => rfl,
    f__law_most := f32, fd__law_most := _, F__law_most := fun_mk (st := s__law_most) l32 c32 k32, g__law_most := PySem.W.mg_of X G a32, b__law_most := (fun_mk (st := s__law_most) l32 c32 k32).binds (ps := ["unit", "command"]) fun _ _ _ _ _ _ us hl => match us, hl with | [_, _], _ => rfl,
    f__law_cut_of := f33, fd__law_cut_of := _, F__law_cut_of := fun_mk (st := s__law_cut_of) l33 c33 k33, g__law_cut_of := PySem.W.mg_of X G a33, b__law_cut_of := (fun_mk (st := s__law_cut_of) l33 c33 k33).binds (ps := ["unit", "state", "command"]) fun _ _ _ _ _ _ us hl => match us, hl with | [_, _, _], _ => rfl,
    f__law_next := f34, fd__law_next := _, F__law_next := fun_mk (st := s__law_next) l34 c34 k34, g__law_next := PySem.W.mg_of X G a34, b__law_next := (fun_mk (st := s__law_next) l34 c34 k34).binds (ps := ["m", "total"]) fun _ _ _ _ _ _ us hl => match us, hl with | [_, _], _ => rfl,
    f__law_machine := f35, fd__law_machine := _, F__law_machine := fun_mk (st := s__law_machine) l35 c35 k35, g__law_machine := PySem.W.mg_of X G a35, b__law_machine := (fun_mk (st := s__law_machine) l35 c35 k35).binds (ps := ["m", "wide", "tall"]) fun _ _ _ _ _ _ us hl => match us, hl with | [_, _, _], _ => rfl,
    f__law_of := f36, fd__law_of := _, F__law_of := fun_mk (st := s__law_of) l36 c36 k36, g__law_of := PySem.W.mg_of X G a36, b__law_of := (fun_mk (st := s__law_of) l36 c36 k36).binds (ps := ["m", "some"]) fun _ _ _ _ _ _ us hl => match us, hl with | [_, _], _ => rfl,
    f__law_settings := f37, fd__law_settings := _, F__law_settings := fun_mk (st := s__law_settings) l37 c37 k37, g__law_settings := PySem.W.mg_of X G a37, b__law_settings := (fun_mk (st := s__law_settings) l37 c37 k37).binds (ps := ["m", "unit"]) fun _ _ _ _ _ _ us hl => match us, hl with | [_, _], _ => rfl,
    f__law_command := f38, fd__law_command := _, F__law_command := fun_mk (st := s__law_command) l38 c38 k38, g__law_command := PySem.W.mg_of X G a38, b__law_command := (fun_mk (st := s__law_command) l38 c38 k38).binds (ps := ["m", "unit"]) fun _ _ _ _ _ _ us hl => match us, hl with | [_, _], _ => rfl,
    f__law_steps := f39, fd__law_steps := _, F__law_steps := fun_mk (st := s__law_steps) l39 c39 k39, g__law_steps := PySem.W.mg_of X G a39, b__law_steps := (fun_mk (st := s__law_steps) l39 c39 k39).binds (ps := ["m", "unit", "most"]) fun _ _ _ _ _ _ us hl => match us, hl with | [_, _, _], _ => rfl,
    f__law_begun := f40, fd__law_begun := _, F__law_begun := fun_mk (st := s__law_begun) l40 c40 k40, g__law_begun := PySem.W.mg_of X G a40, b__law_begun := (fun_mk (st := s__law_begun) l40 c40 k40).binds (ps := ["script"]) fun _ _ _ _ _ _ us hl => match us, hl with | [_], _ => rfl,
    f_law := f41, fd_law := _, F_law := fun_mk (st := s_law) l41 c41 k41, g_law := PySem.W.mg_of X G a41, b_law := (fun_mk (st := s_law) l41 c41 k41).binds (ps := ["script"]) fun _ _ _ _ _ _ us hl => match us, hl with | [_], _ => rfl,
    m_all := PySem.W.mg_none_of X G z_all,
    m_bool := PySem.W.mg_none_of X G z_bool,
    m_dict := PySem.W.mg_none_of X G z_dict,
    m_enumerate := PySem.W.mg_none_of X G z_enumerate,
    m_int := PySem.W.mg_none_of X G z_int,
    m_isinstance := PySem.W.mg_none_of X G z_isinstance,
    m_len := PySem.W.mg_none_of X G z_len,
    m_list := PySem.W.mg_none_of X G z_list,
    m_max := PySem.W.mg_none_of X G z_max,
    m_min := PySem.W.mg_none_of X G z_min,
    m_range := PySem.W.mg_none_of X G z_range,
    m_repr := PySem.W.mg_none_of X G z_repr,
    m_str := PySem.W.mg_none_of X G z_str,
    m_tuple := PySem.W.mg_none_of X G z_tuple,
    m_zip := PySem.W.mg_none_of X G z_zip,
    c_NAMES := cst_of X G a_NAMES (valk_tup l_NAMES q_NAMES (by decide +kernel)),
    c_FARTHEST := cst_of X G a_FARTHEST (valk_int _ _),
    c_INKS := cst_of X G a_INKS (valk_tup l_INKS q_INKS (by decide +kernel)),
    c_SETTING_KINDS := cst_of X G a_SETTING_KINDS (valk_tup l_SETTING_KINDS q_SETTING_KINDS (by decide +kernel)),
    a_COMMAND_KINDS := d_COMMAND_KINDS, g_COMMAND_KINDS := PySem.W.mg_of X G a_COMMAND_KINDS, k_COMMAND_KINDS := ktab_of l_COMMAND_KINDS e2_COMMAND_KINDS (.cons (valk_tup l_COMMAND_KINDS_0 q_COMMAND_KINDS_0 (by decide +kernel)) (.cons (valk_tup l_COMMAND_KINDS_1 q_COMMAND_KINDS_1 (by decide +kernel)) (.cons (valk_tup l_COMMAND_KINDS_2 q_COMMAND_KINDS_2 (by decide +kernel)) (.cons (valk_tup l_COMMAND_KINDS_3 q_COMMAND_KINDS_3 (by decide +kernel)) (.cons (valk_tup l_COMMAND_KINDS_4 q_COMMAND_KINDS_4 (by decide +kernel)) (.cons (valk_tup l_COMMAND_KINDS_5 q_COMMAND_KINDS_5 (by decide +kernel)) (.cons (valk_tup l_COMMAND_KINDS_6 q_COMMAND_KINDS_6 (by decide +kernel)) (.cons (valk_tup l_COMMAND_KINDS_7 q_COMMAND_KINDS_7 (by decide +kernel)) (.cons (valk_tup l_COMMAND_KINDS_8 q_COMMAND_KINDS_8 (by decide +kernel)) (.cons (valk_tup l_COMMAND_KINDS_9 q_COMMAND_KINDS_9 (by decide +kernel)) .nil)))))))))) lo_COMMAND_KINDS,
    c_MOST_COMMANDS := cst_of X G a_MOST_COMMANDS (valk_int _ _),
    c_DRAWING := cst_of X G a_DRAWING (valk_tup l_DRAWING q_DRAWING (by decide +kernel)),
    c_PLAIN := cst_of X G a_PLAIN (valk_tup l_PLAIN q_PLAIN (by decide +kernel)),
    a_SETTING_PLACES := d_SETTING_PLACES, g_SETTING_PLACES := PySem.W.mg_of X G a_SETTING_PLACES, k_SETTING_PLACES := ktab_of l_SETTING_PLACES e2_SETTING_PLACES (.cons (valk_int _ _) (.cons (valk_int _ _) (.cons (valk_int _ _) (.cons (valk_int _ _) .nil)))) lo_SETTING_PLACES }⟩
end TL
open PySem PySem.W PyProof.Rows
set_option maxHeartbeats 0 in
theorem PySem.Challenge.cw_labelhouse_k59_whole_cuts_holds : PySem.Challenge.rw_labelhouse_k59_whole_cuts.Holds := by
  w_on; o_law; k_head; (case hw => w_witness2)
  k_fill
  refine TL.walk_at (l := PySem.Challenge.rw_labelhouse_k59_whole_cuts) (n := 63) (k := 9) (x := "law") (qual := "law") (xn := "script") (st := TL.s_law) (N := TL.n_law) rfl (by decide) rfl ⟨rfl, by decide, by decide⟩ TL.sc_law (fun w h Y => PySem.W.kIn_of Y) ?F
  case F =>
    intro w mg fa h KX G hmg
    refine' Nonempty.elim (TL.top_mk KX G ?a0 ?l0 ?c0 ?k0 ?a1 ?l1 ?c1 ?k1 ?a2 ?l2 ?c2 ?k2 ?a3 ?l3 ?c3 ?k3 ?a4 ?l4 ?c4 ?k4 ?a5 ?l5 ?c5 ?k5 ?a6 ?l6 ?c6 ?k6 ?a7 ?l7 ?c7 ?k7 ?a8 ?l8 ?c8 ?k8 ?a9 ?l9 ?c9 ?k9 ?a10 ?l10 ?c10 ?k10 ?a11 ?l11 ?c11 ?k11 ?a12 ?l12 ?c12 ?k12 ?a13 ?l13 ?c13 ?k13 ?a14 ?l14 ?c14 ?k14 ?a15 ?l15 ?c15 ?k15 ?a16 ?l16 ?c16 ?k16 ?a17 ?l17 ?c17 ?k17 ?a18 ?l18 ?c18 ?k18 ?a19 ?l19 ?c19 ?k19 ?a20 ?l20 ?c20 ?k20 ?a21 ?l21 ?c21 ?k21 ?a22 ?l22 ?c22 ?k22 ?a23 ?l23 ?c23 ?k23 ?a24 ?l24 ?c24 ?k24 ?a25 ?l25 ?c25 ?k25 ?a26 ?l26 ?c26 ?k26 ?a27 ?l27 ?c27 ?k27 ?a28 ?l28 ?c28 ?k28 ?a29 ?l29 ?c29 ?k29 ?a30 ?l30 ?c30 ?k30 ?a31 ?l31 ?c31 ?k31 ?a32 ?l32 ?c32 ?k32 ?a33 ?l33 ?c33 ?k33 ?a34 ?l34 ?c34 ?k34 ?a35 ?l35 ?c35 ?k35 ?a36 ?l36 ?c36 ?k36 ?a37 ?l37 ?c37 ?k37 ?a38 ?l38 ?c38 ?k38 ?a39 ?l39 ?c39 ?k39 ?a40 ?l40 ?c40 ?k40 ?a41 ?l41 ?c41 ?k41 ?z_all ?z_bool ?z_dict ?z_enumerate ?z_int ?z_isinstance ?z_len ?z_list ?z_max ?z_min ?z_range ?z_repr ?z_str ?z_tuple ?z_zip ?a_NAMES ?l_NAMES ?q_NAMES ?a_FARTHEST ?a_INKS ?l_INKS ?q_INKS ?a_SETTING_KINDS ?l_SETTING_KINDS ?q_SETTING_KINDS ?a_COMMAND_KINDS ?l_COMMAND_KINDS ?e2_COMMAND_KINDS ?l_COMMAND_KINDS_0 ?q_COMMAND_KINDS_0 ?l_COMMAND_KINDS_1 ?q_COMMAND_KINDS_1 ?l_COMMAND_KINDS_2 ?q_COMMAND_KINDS_2 ?l_COMMAND_KINDS_3 ?q_COMMAND_KINDS_3 ?l_COMMAND_KINDS_4 ?q_COMMAND_KINDS_4 ?l_COMMAND_KINDS_5 ?q_COMMAND_KINDS_5 ?l_COMMAND_KINDS_6 ?q_COMMAND_KINDS_6 ?l_COMMAND_KINDS_7 ?q_COMMAND_KINDS_7 ?l_COMMAND_KINDS_8 ?q_COMMAND_KINDS_8 ?l_COMMAND_KINDS_9 ?q_COMMAND_KINDS_9 ?lo_COMMAND_KINDS ?a_MOST_COMMANDS ?a_DRAWING ?l_DRAWING ?q_DRAWING ?a_PLAIN ?l_PLAIN ?q_PLAIN ?a_SETTING_PLACES ?l_SETTING_PLACES ?e2_SETTING_PLACES ?lo_SETTING_PLACES) fun T => TL.law_F T hmg
    (case a0 => k_is)
    (case l0 => k_is)
    (case c0 => k_is)
    (case k0 => k_is)
    (case a1 => k_is)
    (case l1 => k_is)
    (case c1 => k_is)
    (case k1 => k_is)
    (case a2 => k_is)
    (case l2 => k_is)
    (case c2 => k_is)
    (case k2 => k_is)
    (case a3 => k_is)
    (case l3 => k_is)
    (case c3 => k_is)
    (case k3 => k_is)
    (case a4 => k_is)
    (case l4 => k_is)
    (case c4 => k_is)
    (case k4 => k_is)
    (case a5 => k_is)
    (case l5 => k_is)
    (case c5 => k_is)
    (case k5 => k_is)
    (case a6 => k_is)
    (case l6 => k_is)
    (case c6 => k_is)
    (case k6 => k_is)
    (case a7 => k_is)
    (case l7 => k_is)
    (case c7 => k_is)
    (case k7 => k_is)
    (case a8 => k_is)
    (case l8 => k_is)
    (case c8 => k_is)
    (case k8 => k_is)
    (case a9 => k_is)
    (case l9 => k_is)
    (case c9 => k_is)
    (case k9 => k_is)
    (case a10 => k_is)
    (case l10 => k_is)
    (case c10 => k_is)
    (case k10 => k_is)
    (case a11 => k_is)
    (case l11 => k_is)
    (case c11 => k_is)
    (case k11 => k_is)
    (case a12 => k_is)
    (case l12 => k_is)
    (case c12 => k_is)
    (case k12 => k_is)
    (case a13 => k_is)
    (case l13 => k_is)
    (case c13 => k_is)
    (case k13 => k_is)
    (case a14 => k_is)
    (case l14 => k_is)
    (case c14 => k_is)
    (case k14 => k_is)
    (case a15 => k_is)
    (case l15 => k_is)
    (case c15 => k_is)
    (case k15 => k_is)
    (case a16 => k_is)
    (case l16 => k_is)
    (case c16 => k_is)
    (case k16 => k_is)
    (case a17 => k_is)
    (case l17 => k_is)
    (case c17 => k_is)
    (case k17 => k_is)
    (case a18 => k_is)
    (case l18 => k_is)
    (case c18 => k_is)
    (case k18 => k_is)
    (case a19 => k_is)
    (case l19 => k_is)
    (case c19 => k_is)
    (case k19 => k_is)
    (case a20 => k_is)
    (case l20 => k_is)
    (case c20 => k_is)
    (case k20 => k_is)
    (case a21 => k_is)
    (case l21 => k_is)
    (case c21 => k_is)
    (case k21 => k_is)
    (case a22 => k_is)
    (case l22 => k_is)
    (case c22 => k_is)
    (case k22 => k_is)
    (case a23 => k_is)
    (case l23 => k_is)
    (case c23 => k_is)
    (case k23 => k_is)
    (case a24 => k_is)
    (case l24 => k_is)
    (case c24 => k_is)
    (case k24 => k_is)
    (case a25 => k_is)
    (case l25 => k_is)
    (case c25 => k_is)
    (case k25 => k_is)
    (case a26 => k_is)
    (case l26 => k_is)
    (case c26 => k_is)
    (case k26 => k_is)
    (case a27 => k_is)
    (case l27 => k_is)
    (case c27 => k_is)
    (case k27 => k_is)
    (case a28 => k_is)
    (case l28 => k_is)
    (case c28 => k_is)
    (case k28 => k_is)
    (case a29 => k_is)
    (case l29 => k_is)
    (case c29 => k_is)
    (case k29 => k_is)
    (case a30 => k_is)
    (case l30 => k_is)
    (case c30 => k_is)
    (case k30 => k_is)
    (case a31 => k_is)
    (case l31 => k_is)
    (case c31 => k_is)
    (case k31 => k_is)
    (case a32 => k_is)
    (case l32 => k_is)
    (case c32 => k_is)
    (case k32 => k_is)
    (case a33 => k_is)
    (case l33 => k_is)
    (case c33 => k_is)
    (case k33 => k_is)
    (case a34 => k_is)
    (case l34 => k_is)
    (case c34 => k_is)
    (case k34 => k_is)
    (case a35 => k_is)
    (case l35 => k_is)
    (case c35 => k_is)
    (case k35 => k_is)
    (case a36 => k_is)
    (case l36 => k_is)
    (case c36 => k_is)
    (case k36 => k_is)
    (case a37 => k_is)
    (case l37 => k_is)
    (case c37 => k_is)
    (case k37 => k_is)
    (case a38 => k_is)
    (case l38 => k_is)
    (case c38 => k_is)
    (case k38 => k_is)
    (case a39 => k_is)
    (case l39 => k_is)
    (case c39 => k_is)
    (case k39 => k_is)
    (case a40 => k_is)
    (case l40 => k_is)
    (case c40 => k_is)
    (case k40 => k_is)
    (case a41 => k_is)
    (case l41 => k_is)
    (case c41 => k_is)
    (case k41 => k_is)
    (case z_all => k_is)
    (case z_bool => k_is)
    (case z_dict => k_is)
    (case z_enumerate => k_is)
    (case z_int => k_is)
    (case z_isinstance => k_is)
    (case z_len => k_is)
    (case z_list => k_is)
    (case z_max => k_is)
    (case z_min => k_is)
    (case z_range => k_is)
    (case z_repr => k_is)
    (case z_str => k_is)
    (case z_tuple => k_is)
    (case z_zip => k_is)
    (case a_NAMES => k_is)
    (case l_NAMES => k_is)
    (case q_NAMES => exact TL.FlatL.str (.str (.str (.str (.str (.str (.str (.str .nil))))))))
    (case a_FARTHEST => k_is)
    (case a_INKS => k_is)
    (case l_INKS => k_is)
    (case q_INKS => exact TL.FlatL.str (.str .nil))
    (case a_SETTING_KINDS => k_is)
    (case l_SETTING_KINDS => k_is)
    (case q_SETTING_KINDS => exact TL.FlatL.str (.str (.str (.str (.str (.str .nil))))))
    (case a_COMMAND_KINDS => k_is)
    (case l_COMMAND_KINDS => k_is)
    (case e2_COMMAND_KINDS => exact TL.EntL.cons rfl (.cons rfl (.cons rfl (.cons rfl (.cons rfl (.cons rfl (.cons rfl (.cons rfl (.cons rfl (.cons rfl .nil))))))))))
    (case l_COMMAND_KINDS_0 => k_is)
    (case q_COMMAND_KINDS_0 => exact TL.FlatL.str (.str .nil))
    (case l_COMMAND_KINDS_1 => k_is)
    (case q_COMMAND_KINDS_1 => exact TL.FlatL.str (.str .nil))
    (case l_COMMAND_KINDS_2 => k_is)
    (case q_COMMAND_KINDS_2 => exact TL.FlatL.str .nil)
    (case l_COMMAND_KINDS_3 => k_is)
    (case q_COMMAND_KINDS_3 => exact TL.FlatL.str .nil)
    (case l_COMMAND_KINDS_4 => k_is)
    (case q_COMMAND_KINDS_4 => exact TL.FlatL.str .nil)
    (case l_COMMAND_KINDS_5 => k_is)
    (case q_COMMAND_KINDS_5 => exact TL.FlatL.str .nil)
    (case l_COMMAND_KINDS_6 => k_is)
    (case q_COMMAND_KINDS_6 => exact TL.FlatL.nil)
    (case l_COMMAND_KINDS_7 => k_is)
    (case q_COMMAND_KINDS_7 => exact TL.FlatL.str (.str (.str (.str .nil))))
    (case l_COMMAND_KINDS_8 => k_is)
    (case q_COMMAND_KINDS_8 => exact TL.FlatL.str (.str (.str (.str .nil))))
    (case l_COMMAND_KINDS_9 => k_is)
    (case q_COMMAND_KINDS_9 => exact TL.FlatL.str (.str (.str .nil)))
    (case lo_COMMAND_KINDS => decide +kernel)
    (case a_MOST_COMMANDS => k_is)
    (case a_DRAWING => k_is)
    (case l_DRAWING => k_is)
    (case q_DRAWING => exact TL.FlatL.str (.str (.str .nil)))
    (case a_PLAIN => k_is)
    (case l_PLAIN => k_is)
    (case q_PLAIN => exact TL.FlatL.int (.int (.int (.int (.int (.str .nil))))))
    (case a_SETTING_PLACES => k_is)
    (case l_SETTING_PLACES => k_is)
    (case e2_SETTING_PLACES => exact TL.EntL.cons rfl (.cons rfl (.cons rfl (.cons rfl .nil))))
    (case lo_SETTING_PLACES => decide +kernel)
