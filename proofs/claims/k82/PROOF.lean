import PyProof.Rows.All
import Wide.All
import OpenK.AllK
import HandS.ForMost
import HandS.Zip
import HandS.TupAny
import HandS.IsInst
import HandS.Wide
import HandS.More
import HandS.DictTup
import HandS.Deep
import KE.KDictPairs
import KE.GoesEnum
import HandS.Style
import HandS.Words
import KE.KRevSl
import HandS.RaiseMore
import HandS.WideBits
import HandS.Gcd
import PyProof.SliceList
import HandS.Strs
import PyProof.StrWalks
import HandS.Text
import PyProof.P3Eq
import KE.GoesZip
import KE.GoesMore
import HandS.TupMul
import HandS.Replace
import HandS.Rev
import PyProof.ListStr
import PyProof.StrOps2
import HandS.Conv
import HandS.ExcInit
import HandS.ExcField
import HandS.TryMany
import HandS.ExcOwn
import HandS.WordsExc
import HandS.ExcIs
import HandS.ListItems
import HandS.SortRule
import KE.SortData
import HandS.SetFor
import KE.KMathGC
import KE.KDictZip
import KE.KTupSum
import HandS.Iter
import HandS.DictComp
import PySem.Challenge.RW_labelhouse_k82_whole_three_gaps
set_option Elab.async false
set_option linter.all false
set_option maxRecDepth 100000
namespace TL
open PySem PySem.Spec PyProof.Rows L2
/-- a heap, and to whom its objects belong: 0 data, 1 a frame's own, 2 the draws' -/
structure Wd where
  H : Hp
  cl : Addr → Nat
def Step (w u : Wd) : Prop := ∀ a o, w.H a = some o → u.cl a = w.cl a ∧ (w.cl a ≠ 2 → u.H a = some o)
theorem Step.rfl' (w : Wd) : Step w w := fun _ _ h => ⟨rfl, fun _ => h⟩
theorem step_tracked {w u : Wd} (s : Step w u) {a : Addr} {o : HO} (h : w.H a = some o) (n : w.cl a ≠ 2) : u.H a = some o := (s a o h).2 n
/-- steps that keep class-2 objects tracked -/
structure Go (w u : Wd) : Prop where
  st : Step w u
  tr : ∀ a o, w.H a = some o → ∃ o', u.H a = some o'
theorem Go.refl (w : Wd) : Go w w := ⟨Step.rfl' w, fun _ o h => ⟨o, h⟩⟩
theorem Go.trans {w u x : Wd} (a : Go w u) (b : Go u x) : Go w x := by
  refine ⟨fun p o h => ?_, fun p o h => ?_⟩
  · obtain ⟨o', h'⟩ := a.tr p o h
    have c1 := (a.st p o h).1
    have c2 := (b.st p o' h').1
    refine ⟨c2.trans c1, fun n => ?_⟩
    have h1 := (a.st p o h).2 n
    exact (b.st p o h1).2 (by rw [c1]; exact n)
  · obtain ⟨o', h'⟩ := a.tr p o h
    exact b.tr p o' h'
/-- data stay -/
def Pu (w u : Wd) : Prop := ∀ a o, w.H a = some o → w.cl a = 0 → u.H a = some o ∧ u.cl a = 0
theorem Pu.refl (w : Wd) : Pu w w := fun _ _ h c => ⟨h, c⟩
theorem Pu.trans {w u x : Wd} (a : Pu w u) (b : Pu u x) : Pu w x := fun p o h c =>
  have q := a p o h c
  b p o q.1 q.2
theorem Go.pu {w u : Wd} (g : Go w u) : Pu w u := fun a o h c => by
  have q := g.st a o h
  exact ⟨q.2 (by rw [c]; decide), q.1.trans c⟩
/-- nothing that was there changes -/
def Go0 (w u : Wd) : Prop := ∀ a o, w.H a = some o → u.H a = some o ∧ u.cl a = w.cl a
theorem Go0.go {w u : Wd} (g : Go0 w u) : Go w u := ⟨fun a o h => ⟨(g a o h).2, fun _ => (g a o h).1⟩, fun a o h => ⟨o, (g a o h).1⟩⟩
theorem Go0.refl (w : Wd) : Go0 w w := fun _ _ h => ⟨h, rfl⟩
theorem Go0.trans {w u x : Wd} (a : Go0 w u) (b : Go0 u x) : Go0 w x := fun p o h => by
  have q := a p o h
  have r := b p o q.1
  exact ⟨r.1, r.2.trans q.2⟩
/-- a new object -/
def Wd.new (w : Wd) (p : Addr) (o : HO) (k : Nat) : Wd := ⟨upd w.H p o, fun b => if b = p then k else w.cl b⟩
theorem Go0.new {w : Wd} {p : Addr} {o : HO} (n : w.H p = none) (k : Nat) : Go0 w (w.new p o k) := fun a x h => by
  have ne : a ≠ p := fun e => by rw [e, n] at h; cases h
  refine ⟨?_, if_neg ne⟩
  show upd w.H p o a = some x
  rw [upd_ne ne]; exact h
/-- a new object, data -/
theorem Go.new' {w : Wd} {p : Addr} {o : HO} (n : w.H p = none) (k : Nat) : Go w (w.new p o k) := (Go0.new n k).go
theorem Go.newX {w : Wd} {p : Addr} {o : HO} (n : w.H p = none) (k : Nat) : Go w ⟨upd w.H p o, fun b => if b = p then k else w.cl b⟩ := by
  have ne : ∀ a x, w.H a = some x → a ≠ p := fun a x h e => by rw [e, n] at h; cases h
  refine ⟨fun a x h => ⟨if_neg (ne a x h), fun _ => ?_⟩, fun a x h => ⟨x, ?_⟩⟩
  · show upd w.H p o a = some x
    rw [upd_ne (ne a x h)]; exact h
  · show upd w.H p o a = some x
    rw [upd_ne (ne a x h)]; exact h
section
variable (K : PySem.W.Frag) (w : Wd)
/-- ints and texts: what may be a dict's key -/
def keyV1 : V → Bool
  | .int _ => true
  | .str _ => true
  | _ => false
def keyV (xs : List V) : Bool := xs.all keyV1
/-- how a new tuple is told: one of ints and texts as a key, another by its object -/
def tupO (o : Obj) (xs : List V) : HO := if keyV xs = true then .tup xs else .frz o (.tup xs)
def TupA (a : Addr) (xs : List V) : Prop := (∃ o : Obj, w.H a = some (tupO o xs) ∧ o.dict = none ∧ w.cl a = 0) ∨ (SqT K (fun _ => none) a xs ∧ ∀ o, K.lookup a = some o → o.dict = none)
def LstA (a : Addr) (xs : List V) : Prop := (Rd w.H a (.lst xs) ∧ w.cl a = 0) ∨ SqL K (fun _ => none) a xs
def DicA (a : Addr) (kvs : List (Key × V)) : Prop := (∃ o : Obj, w.H a = some (.frz o (.dK kvs))) ∧ w.cl a = 0
end
def kD : Key → PyData
  | .inl i => .int i
  | .inr x => .str x
section
variable {K : PySem.W.Frag} {w u : Wd} {a : Addr} {xs : List V}
theorem tupO_rd {H : Hp} {o : Obj} (h : H a = some (tupO o xs)) : Rd H a (.tup xs) := by
  unfold tupO at h
  split at h
  · exact .inl h
  · exact .inr ⟨o, h⟩
theorem TupA.sq (h : TupA K w a xs) : SqT K w.H a xs := by
  rcases h with ⟨o, h, _⟩ | ⟨h, _⟩
  · exact .inl (tupO_rd h)
  · rcases h with h | h
    · rcases h with h | ⟨_, h⟩ <;> cases h
    · exact .inr h
theorem LstA.sq (h : LstA K w a xs) : SqL K w.H a xs := by
  rcases h with h | h
  · exact .inl h.1
  · rcases h with h | h
    · rcases h with h | ⟨_, h⟩ <;> cases h
    · exact .inr h
theorem rd_pu {o : HO} (h : Rd w.H a o) (c : w.cl a = 0) (g : Pu w u) : Rd u.H a o ∧ u.cl a = 0 := by
  rcases h with h | ⟨ob, h⟩
  · exact ⟨.inl (g a _ h c).1, (g a _ h c).2⟩
  · exact ⟨.inr ⟨ob, (g a _ h c).1⟩, (g a _ h c).2⟩
theorem TupA.pu (h : TupA K w a xs) (g : Pu w u) : TupA K u a xs := by
  rcases h with ⟨o, h, d, c⟩ | h
  · exact .inl ⟨o, (g a _ h c).1, d, (g a _ h c).2⟩
  · exact .inr h
theorem LstA.pu (h : LstA K w a xs) (g : Pu w u) : LstA K u a xs := by
  rcases h with h | h
  · exact .inl (rd_pu h.1 h.2 g)
  · exact .inr h
theorem DicA.pu {kvs : List (Key × V)} (h : DicA w a kvs) (g : Pu w u) : DicA u a kvs := by
  obtain ⟨⟨o, h⟩, c⟩ := h
  exact ⟨⟨o, (g a _ h c).1⟩, (g a _ h c).2⟩
theorem DicA.rd {kvs : List (Key × V)} (h : DicA w a kvs) : Rd w.H a (.dK kvs) := .inr h.1
end
mutual
inductive Rv (K : PySem.W.Frag) (w : Wd) : V → PyData → Prop
  | non : Rv K w .non .none
  | bl (b : Bool) : Rv K w (.bl b) (.bool b)
  | int (i : Int) : Rv K w (.int i) (.int i)
  | str (x : Str) : Rv K w (.str x) (.str x)
  | lst {a : Addr} {xs : List V} {ds : List PyData} (h : LstA K w a xs) (r : RvL K w xs ds) : Rv K w (.ref a) (.list ds)
  | tup {a : Addr} {xs : List V} {ds : List PyData} (h : TupA K w a xs) (r : RvL K w xs ds) : Rv K w (.ref a) (.tuple ds)
  | dic {a : Addr} {ks : List Key} {xs : List V} {ds : List PyData} (h : DicA w a (ks.zip xs)) (l : ks.length = xs.length) (r : RvL K w xs ds) : Rv K w (.ref a) (.dict ((ks.map kD).zip ds))
inductive RvL (K : PySem.W.Frag) (w : Wd) : List V → List PyData → Prop
  | nil : RvL K w [] []
  | cons {v : V} {d : PyData} {vs : List V} {ds : List PyData} (h : Rv K w v d) (t : RvL K w vs ds) : RvL K w (v :: vs) (d :: ds)
end
section
variable {K : PySem.W.Frag} {w u : Wd}
mutual
theorem Rv.pu : ∀ {v : V} {d : PyData}, Rv K w v d → Pu w u → Rv K u v d
  | _, _, .non, _ => .non
  | _, _, .bl b, _ => .bl b
  | _, _, .int i, _ => .int i
  | _, _, .str x, _ => .str x
  | _, _, .lst h r, g => .lst (h.pu g) (RvL.pu r g)
  | _, _, .tup h r, g => .tup (h.pu g) (RvL.pu r g)
  | _, _, .dic h l r, g => .dic (h.pu g) l (RvL.pu r g)
theorem RvL.pu : ∀ {vs : List V} {ds : List PyData}, RvL K w vs ds → Pu w u → RvL K u vs ds
  | _, _, .nil, _ => .nil
  | _, _, .cons h t, g => .cons (Rv.pu h g) (RvL.pu t g)
end
theorem Rv.go {v : V} {d : PyData} (h : Rv K w v d) (g : Go w u) : Rv K u v d := h.pu g.pu
theorem RvL.go {v : List V} {d : List PyData} (h : RvL K w v d) (g : Go w u) : RvL K u v d := h.pu g.pu
theorem RvL.len : ∀ {vs : List V} {ds : List PyData}, RvL K w vs ds → vs.length = ds.length
  | _, _, .nil => rfl
  | _, _, .cons _ t => by rw [List.length_cons, List.length_cons, RvL.len t]
theorem RvL.get : ∀ {vs : List V} {ds : List PyData} {i : Nat} {d : PyData}, RvL K w vs ds → ds[i]? = some d → ∃ v, vs[i]? = some v ∧ Rv K w v d
  | _, _, _, _, .nil, e => by simp at e
  | _, _, 0, _, .cons h _, e => by
    have e' := Option.some.inj e
    subst e'
    exact ⟨_, rfl, h⟩
  | _, _, i + 1, d, .cons _ t, e => by
    obtain ⟨v, h1, h2⟩ := RvL.get (i := i) (d := d) t (by simpa using e)
    exact ⟨v, by simpa using h1, h2⟩
theorem RvL.get' : ∀ {vs : List V} {ds : List PyData} {i : Nat} {v : V}, RvL K w vs ds → vs[i]? = some v → ∃ d, ds[i]? = some d ∧ Rv K w v d
  | _, _, _, _, .nil, e => by simp at e
  | _, _, 0, _, .cons h _, e => by
    have e' := Option.some.inj e
    subst e'
    exact ⟨_, rfl, h⟩
  | _, _, i + 1, d, .cons _ t, e => by
    obtain ⟨v, h1, h2⟩ := RvL.get' (i := i) (v := d) t (by simpa using e)
    exact ⟨v, by simpa using h1, h2⟩
theorem RvL.app : ∀ {vs us : List V} {ds es : List PyData}, RvL K w vs ds → RvL K w us es → RvL K w (vs ++ us) (ds ++ es)
  | _, _, _, _, .nil, s => s
  | _, _, _, _, .cons h t, s => .cons h (RvL.app t s)
theorem RvL.take : ∀ {vs : List V} {ds : List PyData} (n : Nat), RvL K w vs ds → RvL K w (vs.take n) (ds.take n)
  | _, _, 0, _ => .nil
  | _, _, _ + 1, .nil => .nil
  | _, _, n + 1, .cons h t => .cons h (RvL.take n t)
theorem RvL.drop : ∀ {vs : List V} {ds : List PyData} (n : Nat), RvL K w vs ds → RvL K w (vs.drop n) (ds.drop n)
  | _, _, 0, r => r
  | _, _, _ + 1, .nil => .nil
  | _, _, n + 1, .cons _ t => RvL.drop n t
theorem RvL.rev {vs : List V} {ds : List PyData} (h : RvL K w vs ds) : RvL K w vs.reverse ds.reverse := by
  induction vs generalizing ds with
  | nil => cases h; exact .nil
  | cons v vs ih =>
    cases h with
    | cons h t =>
      rw [List.reverse_cons, List.reverse_cons]
      exact (ih t).app (.cons h .nil)
theorem RvL.set {v : V} {d : PyData} (r : Rv K w v d) : ∀ {vs : List V} {ds : List PyData} (i : Nat), RvL K w vs ds → RvL K w (vs.set i v) (ds.set i d)
  | _, _, _, .nil => .nil
  | _, _, 0, .cons _ t => .cons r t
  | _, _, i + 1, .cons q t => .cons q (RvL.set r i t)
mutual
@[simp] def noDict : PyData → Bool
  | .dict _ => false
  | .list xs => noDicts xs
  | .tuple xs => noDicts xs
  | _ => true
@[simp] def noDicts : List PyData → Bool
  | [] => true
  | x :: r => noDict x && noDicts r
end
mutual
theorem Rv.dp : ∀ {v : V} {d : PyData}, Rv K w v d → noDict d = true → Dp K w.H v d
  | _, _, .non, _ => .non
  | _, _, .bl b, _ => .bl b
  | _, _, .int i, _ => .int i
  | _, _, .str x, _ => .str x
  | _, _, .lst h r, g => .lst h.sq (RvL.dp r (by simpa [noDict] using g))
  | _, _, .tup h r, g => .tup h.sq (RvL.dp r (by simpa [noDict] using g))
  | _, _, .dic h l r, g => by simp [noDict] at g
theorem RvL.dp : ∀ {vs : List V} {ds : List PyData}, RvL K w vs ds → noDicts ds = true → DpAll K w.H vs ds
  | _, _, .nil, _ => .nil
  | _, _, .cons h t, g => by
    simp only [noDicts, Bool.and_eq_true] at g
    exact .cons (Rv.dp h g.1) (RvL.dp t g.2)
end
end
end TL
namespace TL
open PySem PySem.Spec PyProof.Rows L2
/-- what a name holds: nothing yet, data, the draws, a list or a dict that is this frame's own -/
inductive S where
  | un | v (d : PyData) | tok | hl (l : List PyData) | hd (l : List (Key × PyData))
/-- what is fixed: the draws' address, what is kept of them, the world at the entry -/
structure Ct where
  am : Addr
  J : Nat → Wd → Prop
  st : ∀ g w u, (∀ a o, w.H a = some o → w.cl a = 2 → u.H a = some o ∧ u.cl a = 2) → J g w → J g u
  w0 : Wd
inductive EnvR (K : PySem.W.Frag) (G : Ct) (w : Wd) : List S → L2.St → List Addr → Prop
  | nil : EnvR K G w [] [] []
  | un {E σ as} (x : Option V) (t : EnvR K G w E σ as) : EnvR K G w (.un :: E) (x :: σ) as
  | v {E σ as} {x : V} {d : PyData} (h : Rv K w x d) (t : EnvR K G w E σ as) : EnvR K G w (.v d :: E) (some x :: σ) as
  | tok {E σ as} (t : EnvR K G w E σ as) : EnvR K G w (.tok :: E) (some (.ref G.am) :: σ) as
  | hl {E σ as} {a : Addr} {xs : List V} {ds : List PyData} (h : w.H a = some (.lst xs)) (c : w.cl a = 1) (n : G.w0.H a = none) (r : RvL K w xs ds) (na : a ∉ as) (t : EnvR K G w E σ as) : EnvR K G w (.hl ds :: E) (some (.ref a) :: σ) (a :: as)
  | hd {E σ as} {a : Addr} {ks : List Key} {xs : List V} {ds : List PyData} (h : w.H a = some (.dK (ks.zip xs))) (c : w.cl a = 1) (n : G.w0.H a = none) (l : ks.length = xs.length) (r : RvL K w xs ds) (na : a ∉ as) (t : EnvR K G w E σ as) : EnvR K G w (.hd (ks.zip ds) :: E) (some (.ref a) :: σ) (a :: as)
section
variable {K : PySem.W.Frag} {G : Ct} {w u : Wd} {E : List S} {σ : L2.St} {as : List Addr}
/-- the frame's own things stay as they are -/
def Ow (w u : Wd) : Prop := ∀ a o, w.H a = some o → w.cl a ≠ 2 → u.H a = some o ∧ u.cl a = w.cl a
theorem Go.ow {w u : Wd} (g : Go w u) : Ow w u := fun a o h c => ⟨(g.st a o h).2 c, (g.st a o h).1⟩
theorem Ow.pu {w u : Wd} (g : Ow w u) : Pu w u := fun a o h c => by
  have q := g a o h (by rw [c]; decide)
  exact ⟨q.1, q.2.trans c⟩
theorem EnvR.ow (h : EnvR K G w E σ as) (g : Ow w u) : EnvR K G u E σ as := by
  induction h with
  | nil => exact .nil
  | un x _ ih => exact .un x ih
  | v h _ ih => exact .v (h.pu g.pu) ih
  | tok _ ih => exact .tok ih
  | hl h c n r na _ ih =>
    have q := g _ _ h (by rw [c]; decide)
    exact .hl q.1 (q.2.trans c) n (r.pu g.pu) na ih
  | hd h c n l r na _ ih =>
    have q := g _ _ h (by rw [c]; decide)
    exact .hd q.1 (q.2.trans c) n l (r.pu g.pu) na ih
theorem EnvR.go (h : EnvR K G w E σ as) (g : Go w u) : EnvR K G u E σ as := h.ow g.ow
theorem EnvR.len (h : EnvR K G w E σ as) : σ.length = E.length := by
  induction h with
  | nil => rfl
  | un x _ ih => simp [ih]
  | v _ _ ih => simp [ih]
  | tok _ ih => simp [ih]
  | hl _ _ _ _ _ _ ih => simp [ih]
  | hd _ _ _ _ _ _ _ ih => simp [ih]
theorem EnvR.get (h : EnvR K G w E σ as) : ∀ {i : Nat} {d : PyData}, E[i]? = some (.v d) → ∃ x, σ[i]? = some (some x) ∧ Rv K w x d := by
  induction h with
  | nil => intro i d e; simp at e
  | un x _ ih =>
    intro i d e
    cases i with
    | zero => simp at e
    | succ i => simpa using ih (by simpa using e)
  | @v E σ as x d' h _ ih =>
    intro i d e
    cases i with
    | zero =>
      have e' : d' = d := by simpa using e
      subst e'
      exact ⟨x, rfl, h⟩
    | succ i => simpa using ih (by simpa using e)
  | tok _ ih =>
    intro i d e
    cases i with
    | zero => simp at e
    | succ i => simpa using ih (by simpa using e)
  | hl _ _ _ _ _ _ ih =>
    intro i d e
    cases i with
    | zero => simp at e
    | succ i => simpa using ih (by simpa using e)
  | hd _ _ _ _ _ _ _ ih =>
    intro i d e
    cases i with
    | zero => simp at e
    | succ i => simpa using ih (by simpa using e)
theorem EnvR.getTok (h : EnvR K G w E σ as) : ∀ {i : Nat}, E[i]? = some .tok → σ[i]? = some (some (.ref G.am)) := by
  induction h with
  | nil => intro i e; simp at e
  | un x _ ih =>
    intro i e
    cases i with
    | zero => simp at e
    | succ i => simpa using ih (by simpa using e)
  | v h _ ih =>
    intro i e
    cases i with
    | zero => simp at e
    | succ i => simpa using ih (by simpa using e)
  | tok _ ih =>
    intro i e
    cases i with
    | zero => rfl
    | succ i => simpa using ih (by simpa using e)
  | hl _ _ _ _ _ _ ih =>
    intro i e
    cases i with
    | zero => simp at e
    | succ i => simpa using ih (by simpa using e)
  | hd _ _ _ _ _ _ _ ih =>
    intro i e
    cases i with
    | zero => simp at e
    | succ i => simpa using ih (by simpa using e)
/-- the addresses of own things -/
theorem EnvR.own (h : EnvR K G w E σ as) : ∀ a ∈ as, (∃ o, w.H a = some o) ∧ w.cl a = 1 ∧ G.w0.H a = none := by
  induction h with
  | nil => intro a ha; simp at ha
  | un _ _ ih => exact ih
  | v _ _ ih => exact ih
  | tok _ ih => exact ih
  | hl h c n _ _ _ ih =>
    intro a ha
    rcases List.mem_cons.mp ha with e | ha
    · subst e; exact ⟨⟨_, h⟩, c, n⟩
    · exact ih a ha
  | hd h c n _ _ _ _ ih =>
    intro a ha
    rcases List.mem_cons.mp ha with e | ha
    · subst e; exact ⟨⟨_, h⟩, c, n⟩
    · exact ih a ha
/-- a name gets data (or is forgotten) -/
theorem EnvR.set (h : EnvR K G w E σ as) : ∀ (i : Nat) {x : V} {d : PyData}, Rv K w x d → ∃ bs, EnvR K G w (E.set i (.v d)) (σ.set i (some x)) bs ∧ ∀ a ∈ bs, a ∈ as := by
  induction h with
  | nil => intro i x d _; exact ⟨[], .nil, fun a h => h⟩
  | @un E σ as y t ih =>
    intro i x d r
    cases i with
    | zero => exact ⟨as, .v r t, fun a h => h⟩
    | succ i => obtain ⟨bs, h1, h2⟩ := ih i r; exact ⟨bs, .un y h1, h2⟩
  | @v E σ as y d' h t ih =>
    intro i x d r
    cases i with
    | zero => exact ⟨as, .v r t, fun a h => h⟩
    | succ i => obtain ⟨bs, h1, h2⟩ := ih i r; exact ⟨bs, .v h h1, h2⟩
  | @tok E σ as t ih =>
    intro i x d r
    cases i with
    | zero => exact ⟨as, .v r t, fun a h => h⟩
    | succ i => obtain ⟨bs, h1, h2⟩ := ih i r; exact ⟨bs, .tok h1, h2⟩
  | @hl E σ as a xs ds h c n rr na t ih =>
    intro i x d r
    cases i with
    | zero => exact ⟨as, .v r t, fun a h => List.mem_cons_of_mem _ h⟩
    | succ i =>
      obtain ⟨bs, h1, h2⟩ := ih i r
      refine ⟨a :: bs, .hl h c n rr (fun z => na (h2 a z)) h1, fun b hb => ?_⟩
      rcases List.mem_cons.mp hb with e | hb
      · subst e; exact List.mem_cons_self
      · exact List.mem_cons_of_mem _ (h2 b hb)
  | @hd E σ as a ks xs ds h c n l rr na t ih =>
    intro i x d r
    cases i with
    | zero => exact ⟨as, .v r t, fun a h => List.mem_cons_of_mem _ h⟩
    | succ i =>
      obtain ⟨bs, h1, h2⟩ := ih i r
      refine ⟨a :: bs, .hd h c n l rr (fun z => na (h2 a z)) h1, fun b hb => ?_⟩
      rcases List.mem_cons.mp hb with e | hb
      · subst e; exact List.mem_cons_self
      · exact List.mem_cons_of_mem _ (h2 b hb)
theorem EnvR.unset (h : EnvR K G w E σ as) : ∀ (i : Nat) (x : Option V), ∃ bs, EnvR K G w (E.set i .un) (σ.set i x) bs ∧ ∀ a ∈ bs, a ∈ as := by
  induction h with
  | nil => intro i x; exact ⟨[], .nil, fun a h => h⟩
  | @un E σ as y t ih =>
    intro i x
    cases i with
    | zero => exact ⟨as, .un x t, fun a h => h⟩
    | succ i => obtain ⟨bs, h1, h2⟩ := ih i x; exact ⟨bs, .un y h1, h2⟩
  | @v E σ as y d' h t ih =>
    intro i x
    cases i with
    | zero => exact ⟨as, .un x t, fun a h => h⟩
    | succ i => obtain ⟨bs, h1, h2⟩ := ih i x; exact ⟨bs, .v h h1, h2⟩
  | @tok E σ as t ih =>
    intro i x
    cases i with
    | zero => exact ⟨as, .un x t, fun a h => h⟩
    | succ i => obtain ⟨bs, h1, h2⟩ := ih i x; exact ⟨bs, .tok h1, h2⟩
  | @hl E σ as a xs ds h c n rr na t ih =>
    intro i x
    cases i with
    | zero => exact ⟨as, .un x t, fun a h => List.mem_cons_of_mem _ h⟩
    | succ i =>
      obtain ⟨bs, h1, h2⟩ := ih i x
      refine ⟨a :: bs, .hl h c n rr (fun z => na (h2 a z)) h1, fun b hb => ?_⟩
      rcases List.mem_cons.mp hb with e | hb
      · subst e; exact List.mem_cons_self
      · exact List.mem_cons_of_mem _ (h2 b hb)
  | @hd E σ as a ks xs ds h c n l rr na t ih =>
    intro i x
    cases i with
    | zero => exact ⟨as, .un x t, fun a h => List.mem_cons_of_mem _ h⟩
    | succ i =>
      obtain ⟨bs, h1, h2⟩ := ih i x
      refine ⟨a :: bs, .hd h c n l rr (fun z => na (h2 a z)) h1, fun b hb => ?_⟩
      rcases List.mem_cons.mp hb with e | hb
      · subst e; exact List.mem_cons_self
      · exact List.mem_cons_of_mem _ (h2 b hb)
theorem Go0.ow {w u : Wd} (g : Go0 w u) : Ow w u := fun a o h _ => g a o h
/-- an own thing that is not a name's is changed -/
theorem Ow_other {w : Wd} {p : Addr} {o : HO} : ∀ a x, w.H a = some x → a ≠ p → (⟨upd w.H p o, w.cl⟩ : Wd).H a = some x := fun a x h n => by
  show upd w.H p o a = some x
  rw [upd_ne n]; exact h
theorem Rv.upd' {v : V} {d : PyData} (h : Rv K w v d) {p : Addr} {o : HO} (c : w.cl p ≠ 0) : Rv K ⟨upd w.H p o, w.cl⟩ v d := h.pu fun a x e z => by
  refine ⟨Ow_other a x e fun q => ?_, z⟩
  subst q; exact c z
theorem RvL.upd' {v : List V} {d : List PyData} (h : RvL K w v d) {p : Addr} {o : HO} (c : w.cl p ≠ 0) : RvL K ⟨upd w.H p o, w.cl⟩ v d := h.pu fun a x e z => by
  refine ⟨Ow_other a x e fun q => ?_, z⟩
  subst q; exact c z
theorem EnvR.other (h : EnvR K G w E σ as) {p : Addr} {o : HO} (c : w.cl p ≠ 0) (np : p ∉ as) : EnvR K G ⟨upd w.H p o, w.cl⟩ E σ as := by
  induction h with
  | nil => exact .nil
  | un x _ ih => exact .un x (ih np)
  | v h _ ih => exact .v (h.upd' c) (ih np)
  | tok _ ih => exact .tok (ih np)
  | @hl E σ as a xs ds h cc n r na _ ih =>
    have n1 : a ≠ p := fun z => np (by rw [z]; exact List.mem_cons_self)
    exact .hl (Ow_other a _ h n1) cc n (r.upd' c) na (ih fun z => np (List.mem_cons_of_mem _ z))
  | @hd E σ as a ks xs ds h cc n l r na _ ih =>
    have n1 : a ≠ p := fun z => np (by rw [z]; exact List.mem_cons_self)
    exact .hd (Ow_other a _ h n1) cc n l (r.upd' c) na (ih fun z => np (List.mem_cons_of_mem _ z))
end
/-! ### readings by data -/
abbrev TX := List S → Nat → (PyData → Nat → Prop) → Prop
abbrev TC := List S → Nat → (Bool → Nat → Prop) → Prop
abbrev TL' := List S → Nat → (List S → Nat → Prop) → Prop
structure Kt where
  nx : List S → Nat → Prop
  rt : PyData → Nat → Prop
  bk : List S → Nat → Prop := fun _ _ => False
  ct : List S → Nat → Prop := fun _ _ => False
abbrev TSt := Kt → List S → Nat → Prop
structure Kt.Le (k k' : Kt) : Prop where
  nx : ∀ E g, k.nx E g → k'.nx E g
  rt : ∀ d g, k.rt d g → k'.rt d g
  bk : ∀ E g, k.bk E g → k'.bk E g
  ct : ∀ E g, k.ct E g → k'.ct E g
section
variable (K : PySem.W.Frag) (G : Ct)
def lift (t : TX) : TE := fun σ H Q => ∃ cl E g as, G.J g ⟨H, cl⟩ ∧ EnvR K G ⟨H, cl⟩ E σ as ∧ t E g fun d g' => ∀ u v, Go ⟨H, cl⟩ u → G.J g' u → Rv K u v d → Q v u.H
def liftC (t : TC) : TT := fun σ H Q => ∃ cl E g as, G.J g ⟨H, cl⟩ ∧ EnvR K G ⟨H, cl⟩ E σ as ∧ t E g fun b g' => ∀ u, Go ⟨H, cl⟩ u → G.J g' u → Q b u.H
/-- a list of arguments -/
inductive RvA (K : PySem.W.Frag) (am : Addr) (u : Wd) : List V → List S → Prop
  | nil : RvA K am u [] []
  | v {x d vs ds} (h : Rv K u x d) (t : RvA K am u vs ds) : RvA K am u (x :: vs) (.v d :: ds)
  | tok {vs ds} (t : RvA K am u vs ds) : RvA K am u (.ref am :: vs) (.tok :: ds)
def liftA (t : TL') : TA := fun σ H Q => ∃ cl E g as, G.J g ⟨H, cl⟩ ∧ EnvR K G ⟨H, cl⟩ E σ as ∧ t E g fun ds g' => ∀ u vs, Go ⟨H, cl⟩ u → G.J g' u → RvA K G.am u vs ds → Q vs u.H
def ktOf (w : Wd) (D : Ends) : Kt where
  nx := fun E g => ∀ u σ as, G.J g u → Go G.w0 u → Pu w u → EnvR K G u E σ as → D.nx σ u.H
  rt := fun d g => ∀ u v, G.J g u → Go G.w0 u → Rv K u v d → D.rt v u.H
  bk := fun E g => ∀ u σ as, G.J g u → Go G.w0 u → Pu w u → EnvR K G u E σ as → D.bk σ u.H
  ct := fun E g => ∀ u σ as, G.J g u → Go G.w0 u → Pu w u → EnvR K G u E σ as → D.ct σ u.H
def liftS (t : TSt) : TS := fun D σ H => ∃ cl E g as, G.J g ⟨H, cl⟩ ∧ Go G.w0 ⟨H, cl⟩ ∧ EnvR K G ⟨H, cl⟩ E σ as ∧ t (ktOf K G ⟨H, cl⟩ D) E g
end
structure XE (G : Ct) (X : Cx) (e : Expr) (t : TX) : Prop where
  mo : ∀ E g Q Q', (∀ d g', Q d g' → Q' d g') → t E g Q → t E g Q'
  pe : PE X e (lift X.K G t)
structure XC (G : Ct) (X : Cx) (e : Expr) (t : TC) : Prop where
  mo : ∀ E g Q Q', (∀ d g', Q d g' → Q' d g') → t E g Q → t E g Q'
  pt : PT X e (liftC X.K G t)
structure XA (G : Ct) (X : Cx) (es : List Expr) (t : TL') : Prop where
  mo : ∀ E g Q Q', (∀ d g', Q d g' → Q' d g') → t E g Q → t E g Q'
  pa : PA X es (liftA X.K G t)
structure XS (G : Ct) (X : Cx) (s : Stmt) (t : TSt) : Prop where
  mo : ∀ k k' E g, k.Le k' → t k E g → t k' E g
  ps : PS X s (liftS X.K G t)
structure XSs (G : Ct) (X : Cx) (s : List Stmt) (t : TSt) : Prop where
  mo : ∀ k k' E g, k.Le k' → t k E g → t k' E g
  ps : PSs X s (liftS X.K G t)
section
variable {G : Ct} {X : Cx}
theorem Ct.st0 (G : Ct) {g : Nat} {w u : Wd} (h : Go0 w u) (j : G.J g w) : G.J g u := G.st g w u (fun a o e c => ⟨(h a o e).1, ((h a o e).2).trans c⟩) j
/-- a reading of HandS that is weaker -/
theorem _root_.L2.PE.imp {e : Expr} {t t' : TE} (h : PE X e t) (w : ∀ σ H Q, t' σ H Q → t σ H Q) : PE X e t' := ⟨fun pins s σ H Q I q => h.run pins s σ H Q I (w σ H Q q)⟩
theorem _root_.L2.PT.imp {e : Expr} {t t' : TT} (h : PT X e t) (w : ∀ σ H Q, t' σ H Q → t σ H Q) : PT X e t' := ⟨fun pins s σ H Q I q => h.run pins s σ H Q I (w σ H Q q)⟩
theorem _root_.L2.PA.imp {e : List Expr} {t t' : TA} (h : PA X e t) (w : ∀ σ H Q, t' σ H Q → t σ H Q) : PA X e t' := ⟨fun pos pins s σ H Q I q => h.run pos pins s σ H Q I (w σ H Q q)⟩
theorem _root_.L2.PS.imp {e : Stmt} {t t' : TS} (h : PS X e t) (w : ∀ D σ H, t' D σ H → t D σ H) : PS X e t' := ⟨fun pins s σ H D I q => h.run pins s σ H D I (w D σ H q)⟩
theorem _root_.L2.PSs.imp {e : List Stmt} {t t' : TS} (h : PSs X e t) (w : ∀ D σ H, t' D σ H → t D σ H) : PSs X e t' := ⟨fun pins s σ H D I q => h.run pins s σ H D I (w D σ H q)⟩
/-! ### names, constants -/
@[simp] def xVar (i : Nat) : TX := fun E g Q => ∃ d, E[i]? = some (.v d) ∧ Q d g
theorem xe_var (i : Nat) {x : Str} {pos : Pos} (h : PE X (.Name x pos) (tVar i)) : XE G X (.Name x pos) (xVar i) := by
  refine ⟨fun E g Q Q' hq ⟨d, e, q⟩ => ⟨d, e, hq _ _ q⟩, h.imp fun σ H Q ⟨cl, E, g, as, j, r, d, e, q⟩ => ?_⟩
  obtain ⟨v, e1, e2⟩ := r.get e
  exact ⟨v, e1, q ⟨H, cl⟩ v (Go.refl _) j e2⟩
@[simp] def xC (d : PyData) : TX := fun _ g Q => Q d g
theorem xe_c {e : Expr} {v : V} {d : PyData} (h : PE X e (tC v)) (r : ∀ w, Rv X.K w v d) : XE G X e (xC d) :=
  ⟨fun E g Q Q' hq q => hq _ _ q, h.imp fun σ H Q ⟨cl, E, g, as, j, _, q⟩ => q ⟨H, cl⟩ v (Go.refl _) j (r _)⟩
theorem xe_int {i : Int} {j pos} : XE G X (.Constant (.int i) j pos) (xC (.int i)) := xe_c pe_int fun _ => .int i
theorem xe_bl {b : Bool} {j pos} : XE G X (.Constant (.bool b) j pos) (xC (.bool b)) := xe_c pe_bl fun _ => .bl b
theorem xe_non {j pos} : XE G X (.Constant .none j pos) (xC .none) := xe_c pe_non fun _ => .non
theorem xe_str {x : Str} {j pos} : XE G X (.Constant (.str x) j pos) (xC (.str x)) := xe_c pe_str fun _ => .str x
/-- a module's constant -/
theorem xe_glob {x : Str} {v : V} {u : Value} {pos : Pos} {d : PyData} (hg : Gl X x) (hm : X.mg x = some u) (r : RelV v u) (rd : ∀ w, Rv X.K w v d) (hd : (x == ("__debug__" : Str)) = false := by decide) : XE G X (.Name x pos) (xC d) :=
  xe_c (pe_glob hg hm r hd) rd
/-! ### two operands -/
/-- what an operation gives, by data -/
abbrev OD := PyData → PyData → Nat → (PyData → Nat → Prop) → Prop
/-- r is what the reading r2 says, by data -/
structure OpD (G : Ct) (K : PySem.W.Frag) (r : R2) (od : OD) : Prop where
  mo : ∀ d e g Q Q', (∀ d g', Q d g' → Q' d g') → od d e g Q → od d e g Q'
  to : ∀ (w : Wd) (g : Nat) (x y : V) (d e : PyData) (Q : VK), G.J g w → Rv K w x d → Rv K w y e → (od d e g fun z g' => ∀ u v, Go w u → G.J g' u → Rv K u v z → Q v u.H) → r x y w.H Q
@[simp] def xBin (ta tb : TX) (od : OD) : TX := fun E g Q => ta E g fun d g1 => tb E g1 fun e g2 => od d e g2 Q
section
variable {a b : Expr} {ta tb : TX} {r : R2} {od : OD} {pos : Pos}
theorem bin_mo (ha : XE G X a ta) (hb : XE G X b tb) (ho : OpD G X.K r od) : ∀ E g Q Q', (∀ d g', Q d g' → Q' d g') → xBin ta tb od E g Q → xBin ta tb od E g Q' :=
  fun E g Q Q' hq q => ha.mo _ _ _ _ (fun _ _ q1 => hb.mo _ _ _ _ (fun _ _ q2 => ho.mo _ _ _ _ _ hq q2) q1) q
theorem bin_to (ha : XE G X a ta) (hb : XE G X b tb) (ho : OpD G X.K r od) : ∀ σ H Q, lift X.K G (xBin ta tb od) σ H Q → tOp r (lift X.K G ta) (lift X.K G tb) σ H Q := by
  intro σ H Q ⟨cl, E, g, as, j, rE, q⟩
  refine ⟨cl, E, g, as, j, rE, ha.mo _ _ _ _ (fun d g1 q1 u v go j1 rv => ?_) q⟩
  refine ⟨u.cl, E, g1, as, j1, rE.go go, hb.mo _ _ _ _ (fun e g2 q2 u2 v2 go2 j2 rv2 => ?_) q1⟩
  refine ho.to u2 g2 v v2 d e Q j2 (rv.go go2) rv2 (ho.mo _ _ _ _ _ (fun z g3 q3 u3 v3 go3 j3 rv3 => ?_) q2)
  exact q3 u3 v3 ((go.trans go2).trans go3) j3 rv3
theorem xe_op {op : Operator} (hop : OpR X (binaryOp op) r) (ho : OpD G X.K r od) (ha : XE G X a ta) (hb : XE G X b tb) : XE G X (.BinOp a op b pos) (xBin ta tb od) :=
  ⟨bin_mo ha hb ho, (pe_op hop ha.pe hb.pe).imp (bin_to ha hb ho)⟩
theorem xe_cmp {op : CmpOp} (hop : OpR X (compareOp op) r) (ho : OpD G X.K r od) (ha : XE G X a ta) (hb : XE G X b tb) (hm : behindInMarks op b = false) : XE G X (.Compare a [op] [b] pos) (xBin ta tb od) :=
  ⟨bin_mo ha hb ho, (pe_cmpR hop ha.pe hb.pe hm).imp (bin_to ha hb ho)⟩
/-- a bool's value as a test -/
@[simp] def xTest (t : TX) : TC := fun E g Q => t E g fun d g' => ∃ b, d = .bool b ∧ Q b g'
theorem xTest_mo {t : TX} (h : ∀ E g Q Q', (∀ d g', Q d g' → Q' d g') → t E g Q → t E g Q') : ∀ E g Q Q', (∀ d g', Q d g' → Q' d g') → xTest t E g Q → xTest t E g Q' :=
  fun E g Q Q' hq q => h _ _ _ _ (fun d g' ⟨b, e, q⟩ => ⟨b, e, hq _ _ q⟩) q
theorem xTest_to {t : TX} {K : PySem.W.Frag} (h : ∀ E g Q Q', (∀ d g', Q d g' → Q' d g') → t E g Q → t E g Q') : ∀ σ H Q, liftC K G (xTest t) σ H Q → lift K G t σ H fun x H' => ∃ k, x = .bl k ∧ Q k H' := by
  intro σ H Q ⟨cl, E, g, as, j, rE, q⟩
  refine ⟨cl, E, g, as, j, rE, h _ _ _ _ (fun d g1 q1 u v go j1 rv => ?_) q⟩
  obtain ⟨b, rfl, q1⟩ := q1
  cases rv
  exact ⟨b, rfl, q1 u go j1⟩
theorem xc_cmp {op : CmpOp} (hop : OpR X (compareOp op) r) (ho : OpD G X.K r od) (ha : XE G X a ta) (hb : XE G X b tb) (hm : behindInMarks op b = false) : XC G X (.Compare a [op] [b] pos) (xTest (xBin ta tb od)) := by
  refine ⟨xTest_mo (bin_mo ha hb ho), (pt_cmpR hop ha.pe hb.pe hm).imp fun σ H Q q => ?_⟩
  exact bin_to ha hb ho _ _ _ (xTest_to (bin_mo ha hb ho) _ _ _ q)
/-- any expression whose value is a bool -/
theorem xc_val {e : Expr} {t : TX} (h : XE G X e t) (he : ∀ whole, isTrue e X.env whole = (do let v ← whole; standAt e.pos; holding [v] (truthy v)) := by intro _; rfl) : XC G X e (xTest t) :=
  ⟨xTest_mo h.mo, (pt_val h.pe he).imp fun σ H Q q => xTest_to h.mo _ _ _ q⟩
end
/-! ### and, or, not, if -/
structure XW (G : Ct) (X : Cx) (e : Expr) (t : TC) : Prop where
  mo : ∀ E g Q Q', (∀ d g', Q d g' → Q' d g') → t E g Q → t E g Q'
  pw : PW X e (liftC X.K G t)
theorem XW.c {e : Expr} {t : TC} (h : XW G X e t) : XC G X e t := ⟨h.mo, h.pw.pt⟩
theorem _root_.L2.PW.imp {e : Expr} {t t' : TT} (h : PW X e t) (w : ∀ σ H Q, t' σ H Q → t σ H Q) : PW X e t' := ⟨fun wh pins s σ H Q I q => h.run wh pins s σ H Q I (w σ H Q q)⟩
section
variable {a b c : Expr} {tA tB : TC} {ta tb : TX} {rest : List Expr} {pos : Pos}
@[simp] def xAnd (t u : TC) : TC := fun E g Q => t E g fun b g1 => if b = true then u E g1 Q else Q false g1
@[simp] def xOr (t u : TC) : TC := fun E g Q => t E g fun b g1 => if b = true then Q true g1 else u E g1 Q
@[simp] def xNot (t : TC) : TC := fun E g Q => t E g fun b g1 => Q (!b) g1
theorem xw_and1 (ha : XC G X a tA) : XW G X (.BoolOp .And [a] pos) tA := ⟨ha.mo, pw_and1 ha.pt⟩
theorem xw_or1 (ha : XC G X a tA) : XW G X (.BoolOp .Or [a] pos) tA := ⟨ha.mo, pw_or1 ha.pt⟩
theorem xw_and (ha : XC G X a tA) (hb : XW G X (.BoolOp .And (b :: rest) pos) tB) : XW G X (.BoolOp .And (a :: b :: rest) pos) (xAnd tA tB) := by
  refine ⟨fun E g Q Q' hq q => ha.mo _ _ _ _ (fun b g1 q1 => ?_) q, (pw_and ha.pt hb.pw).imp fun σ H Q ⟨cl, E, g, as, j, rE, q⟩ => ?_⟩
  · cases b with
    | true => exact hb.mo _ _ _ _ hq q1
    | false => exact hq _ _ q1
  · refine ⟨cl, E, g, as, j, rE, ha.mo _ _ _ _ (fun b g1 q1 u go j1 => ?_) q⟩
    cases b with
    | true => exact ⟨u.cl, E, g1, as, j1, rE.go go, hb.mo _ _ _ _ (fun b2 g2 q2 u2 go2 j2 => q2 u2 (go.trans go2) j2) q1⟩
    | false => exact q1 u go j1
theorem xw_or (ha : XC G X a tA) (hb : XW G X (.BoolOp .Or (b :: rest) pos) tB) : XW G X (.BoolOp .Or (a :: b :: rest) pos) (xOr tA tB) := by
  refine ⟨fun E g Q Q' hq q => ha.mo _ _ _ _ (fun b g1 q1 => ?_) q, (pw_or ha.pt hb.pw).imp fun σ H Q ⟨cl, E, g, as, j, rE, q⟩ => ?_⟩
  · cases b with
    | false => exact hb.mo _ _ _ _ hq q1
    | true => exact hq _ _ q1
  · refine ⟨cl, E, g, as, j, rE, ha.mo _ _ _ _ (fun b g1 q1 u go j1 => ?_) q⟩
    cases b with
    | false => exact ⟨u.cl, E, g1, as, j1, rE.go go, hb.mo _ _ _ _ (fun b2 g2 q2 u2 go2 j2 => q2 u2 (go.trans go2) j2) q1⟩
    | true => exact q1 u go j1
theorem xc_not (ha : XC G X a tA) : XC G X (.UnaryOp .Not a pos) (xNot tA) := by
  refine ⟨fun E g Q Q' hq q => ha.mo _ _ _ _ (fun b g1 q1 => hq _ _ q1) q, (pt_not ha.pt).imp fun σ H Q ⟨cl, E, g, as, j, rE, q⟩ => ?_⟩
  exact ⟨cl, E, g, as, j, rE, q⟩
/-- not, as a value -/
@[simp] def xNotV (t : TX) : TX := fun E g Q => xTest t E g fun b g1 => Q (.bool (!b)) g1
theorem xe_not (ha : XE G X a ta) : XE G X (.UnaryOp .Not a pos) (xNotV ta) := by
  refine ⟨fun E g Q Q' hq q => xTest_mo ha.mo _ _ _ _ (fun b g1 q1 => hq _ _ q1) q, (pe_not ha.pe).imp fun σ H Q ⟨cl, E, g, as, j, rE, q⟩ => ?_⟩
  refine xTest_to ha.mo σ H (fun k H' => Q (.bl (!k)) H') ⟨cl, E, g, as, j, rE, xTest_mo ha.mo _ _ _ _ (fun b g1 q1 u go j1 => ?_) q⟩
  exact q1 u _ go j1 (.bl _)
/-- and, or as values: all but the last are bools -/
@[simp] def xAndV (ta tb : TX) : TX := fun E g Q => xTest ta E g fun b g1 => if b = true then tb E g1 Q else Q (.bool false) g1
@[simp] def xOrV (ta tb : TX) : TX := fun E g Q => xTest ta E g fun b g1 => if b = true then Q (.bool true) g1 else tb E g1 Q
theorem xe_one {op} {a : Expr} {t : TX} (h : XE G X a t) : XE G X (.BoolOp op [a] pos) t := ⟨h.mo, pe_one h.pe⟩
theorem xe_and (ha : XE G X a ta) (hb : XE G X (.BoolOp .And (b :: rest) pos) tb) : XE G X (.BoolOp .And (a :: b :: rest) pos) (xAndV ta tb) := by
  refine ⟨fun E g Q Q' hq q => xTest_mo ha.mo _ _ _ _ (fun b g1 q1 => ?_) q, (pe_and ha.pe hb.pe).imp fun σ H Q ⟨cl, E, g, as, j, rE, q⟩ => ?_⟩
  · cases b with
    | true => exact hb.mo _ _ _ _ hq q1
    | false => exact hq _ _ q1
  · refine xTest_to ha.mo σ H (fun k H' => if k = true then lift X.K G tb σ H' Q else Q (.bl false) H') ⟨cl, E, g, as, j, rE, xTest_mo ha.mo _ _ _ _ (fun b g1 q1 u go j1 => ?_) q⟩
    cases b with
    | true => exact ⟨u.cl, E, g1, as, j1, rE.go go, hb.mo _ _ _ _ (fun b2 g2 q2 u2 v2 go2 j2 r2 => q2 u2 v2 (go.trans go2) j2 r2) q1⟩
    | false => exact q1 u _ go j1 (.bl _)
theorem xe_or (ha : XE G X a ta) (hb : XE G X (.BoolOp .Or (b :: rest) pos) tb) : XE G X (.BoolOp .Or (a :: b :: rest) pos) (xOrV ta tb) := by
  refine ⟨fun E g Q Q' hq q => xTest_mo ha.mo _ _ _ _ (fun b g1 q1 => ?_) q, (pe_or ha.pe hb.pe).imp fun σ H Q ⟨cl, E, g, as, j, rE, q⟩ => ?_⟩
  · cases b with
    | false => exact hb.mo _ _ _ _ hq q1
    | true => exact hq _ _ q1
  · refine xTest_to ha.mo σ H (fun k H' => if k = true then Q (.bl true) H' else lift X.K G tb σ H' Q) ⟨cl, E, g, as, j, rE, xTest_mo ha.mo _ _ _ _ (fun b g1 q1 u go j1 => ?_) q⟩
    cases b with
    | false => exact ⟨u.cl, E, g1, as, j1, rE.go go, hb.mo _ _ _ _ (fun b2 g2 q2 u2 v2 go2 j2 r2 => q2 u2 v2 (go.trans go2) j2 r2) q1⟩
    | true => exact q1 u _ go j1 (.bl _)
@[simp] def xIf (t : TC) (ta tb : TX) : TX := fun E g Q => t E g fun b g1 => if b = true then ta E g1 Q else tb E g1 Q
theorem xe_if (hc : XC G X c tA) (ha : XE G X a ta) (hb : XE G X b tb) : XE G X (.IfExp c a b pos) (xIf tA ta tb) := by
  refine ⟨fun E g Q Q' hq q => hc.mo _ _ _ _ (fun b g1 q1 => ?_) q, (pe_ifExp hc.pt ha.pe hb.pe).imp fun σ H Q ⟨cl, E, g, as, j, rE, q⟩ => ?_⟩
  · cases b with
    | true => exact ha.mo _ _ _ _ hq q1
    | false => exact hb.mo _ _ _ _ hq q1
  · refine ⟨cl, E, g, as, j, rE, hc.mo _ _ _ _ (fun b g1 q1 u go j1 => ?_) q⟩
    cases b with
    | true => exact ⟨u.cl, E, g1, as, j1, rE.go go, ha.mo _ _ _ _ (fun b2 g2 q2 u2 v2 go2 j2 r2 => q2 u2 v2 (go.trans go2) j2 r2) q1⟩
    | false => exact ⟨u.cl, E, g1, as, j1, rE.go go, hb.mo _ _ _ _ (fun b2 g2 q2 u2 v2 go2 j2 r2 => q2 u2 v2 (go.trans go2) j2 r2) q1⟩
end
end
end TL
namespace TL
open PySem PySem.Spec PyProof.Rows L2
section
variable {G : Ct} {X : Cx}
/-! ### blocks -/
section
variable {st : Stmt} {rest : List Stmt} {t u : TSt} {e : Expr} {te : TX} {pos : Pos}
theorem ktLe {k k' : Kt} (h : k.Le k') (f f' : List S → Nat → Prop) (hf : ∀ E g, f E g → f' E g) : Kt.Le { k with nx := f } { k' with nx := f' } := ⟨hf, h.rt, h.bk, h.ct⟩
@[simp] def xSeq (t u : TSt) : TSt := fun k E g => t { k with nx := u k } E g
@[simp] def xNext : TSt := fun k E g => k.nx E g
theorem xs_nil : XSs G X [] xNext := ⟨fun k k' E g h q => h.nx _ _ q, pss_nil.imp fun D σ H ⟨cl, E, g, as, j, go, r, q⟩ => q ⟨H, cl⟩ σ as j go (Pu.refl _) r⟩
theorem xs_one (h : XS G X st t) : XSs G X [st] t := ⟨h.mo, pss_one h.ps⟩
/-- the kont from a later world -/
theorem ktOf_le {K : PySem.W.Frag} {w u : Wd} {D : Ends} (p : Pu w u) : (ktOf K G w D).Le (ktOf K G u D) :=
  ⟨fun E g q x σ as j go pp r => q x σ as j go (p.trans pp) r, fun d g q => q, fun E g q x σ as j go pp r => q x σ as j go (p.trans pp) r, fun E g q x σ as j go pp r => q x σ as j go (p.trans pp) r⟩
theorem xs_cons (h1 : XS G X st t) (h2 : XSs G X rest u) : XSs G X (st :: rest) (xSeq t u) := by
  refine ⟨fun k k' E g h q => h1.mo _ _ _ _ (ktLe h _ _ fun E g q2 => h2.mo _ _ _ _ h q2) q, (pss_cons h1.ps h2.ps).imp fun D σ H ⟨cl, E, g, as, j, go, r, q⟩ => ?_⟩
  refine ⟨cl, E, g, as, j, go, r, h1.mo { ktOf X.K G ⟨H, cl⟩ D with nx := u (ktOf X.K G ⟨H, cl⟩ D) } _ _ _ ⟨fun E1 g1 q1 x σ1 as1 j1 go1 p1 r1 => ?_, fun d g1 q1 => q1, fun E1 g1 q1 => q1, fun E1 g1 q1 => q1⟩ q⟩
  exact ⟨x.cl, E1, g1, as1, j1, go1, r1, h2.mo _ _ _ _ (ktOf_le p1) q1⟩
theorem xs_pass : XS G X (.Pass pos) xNext := ⟨fun k k' E g h q => h.nx _ _ q, ps_pass.imp fun D σ H ⟨cl, E, g, as, j, go, r, q⟩ => q ⟨H, cl⟩ σ as j go (Pu.refl _) r⟩
@[simp] def xBreak : TSt := fun k E g => k.bk E g
@[simp] def xCont : TSt := fun k E g => k.ct E g
theorem xs_break : XS G X (.Break pos) xBreak := ⟨fun k k' E g h q => h.bk _ _ q, ps_break.imp fun D σ H ⟨cl, E, g, as, j, go, r, q⟩ => q ⟨H, cl⟩ σ as j go (Pu.refl _) r⟩
theorem xs_continue : XS G X (.Continue pos) xCont := ⟨fun k k' E g h q => h.ct _ _ q, ps_continue.imp fun D σ H ⟨cl, E, g, as, j, go, r, q⟩ => q ⟨H, cl⟩ σ as j go (Pu.refl _) r⟩
@[simp] def xRet (te : TX) : TSt := fun k E g => te E g k.rt
theorem xs_ret (he : XE G X e te) : XS G X (.Return (some e) pos) (xRet te) := by
  refine ⟨fun k k' E g h q => he.mo _ _ _ _ h.rt q, (ps_ret he.pe).imp fun D σ H ⟨cl, E, g, as, j, go, r, q⟩ => ?_⟩
  exact ⟨cl, E, g, as, j, r, he.mo _ _ _ _ (fun d g1 q1 u v go1 j1 rv => q1 u v j1 (go.trans go1) rv) q⟩
@[simp] def xRetN : TSt := fun k _ g => k.rt .none g
theorem xs_retN : XS G X (.Return none pos) xRetN := ⟨fun k k' E g h q => h.rt _ _ q, ps_retN.imp fun D σ H ⟨cl, E, g, as, j, go, r, q⟩ => q ⟨H, cl⟩ _ j go .non⟩
@[simp] def xDrop (te : TX) : TSt := fun k E g => te E g fun _ g1 => k.nx E g1
theorem xs_expr (he : XE G X e te) (hs : swapsWith e none pos.line X.env = pure false := by rfl) : XS G X (.Expr e pos) (xDrop te) := by
  refine ⟨fun k k' E g h q => he.mo _ _ _ _ (fun d g1 q1 => h.nx _ _ q1) q, (ps_expr he.pe hs).imp fun D σ H ⟨cl, E, g, as, j, go, r, q⟩ => ?_⟩
  exact ⟨cl, E, g, as, j, r, he.mo _ _ _ _ (fun d g1 q1 u v go1 j1 rv => q1 u σ as j1 (go.trans go1) go1.pu (r.go go1)) q⟩
@[simp] def xIfS (c : TC) (t u : TSt) : TSt := fun k E g => c E g fun b g1 => if b = true then t k E g1 else u k E g1
theorem xs_if {c : Expr} {a b : List Stmt} {tc : TC} (hc : XC G X c tc) (ha : XSs G X a t) (hb : XSs G X b u) : XS G X (.If c a b pos) (xIfS tc t u) := by
  refine ⟨fun k k' E g h q => hc.mo _ _ _ _ (fun b g1 q1 => ?_) q, (ps_if hc.pt ha.ps hb.ps).imp fun D σ H ⟨cl, E, g, as, j, go, r, q⟩ => ?_⟩
  · cases b with
    | true => exact ha.mo _ _ _ _ h q1
    | false => exact hb.mo _ _ _ _ h q1
  · refine ⟨cl, E, g, as, j, r, hc.mo _ _ _ _ (fun b g1 q1 u go1 j1 => ?_) q⟩
    cases b with
    | true => exact ⟨u.cl, E, g1, as, j1, go.trans go1, r.go go1, ha.mo _ _ _ _ (ktOf_le go1.pu) q1⟩
    | false => exact ⟨u.cl, E, g1, as, j1, go.trans go1, r.go go1, hb.mo _ _ _ _ (ktOf_le go1.pu) q1⟩
@[simp] def xNever : TSt := fun _ _ _ => False
theorem xs_never : XS G X st xNever := ⟨fun _ _ _ _ _ h => h, ps_never.imp fun D σ H ⟨cl, E, g, as, j, go, r, q⟩ => q⟩
theorem xss_never {sts : List Stmt} : XSs G X sts xNever := ⟨fun _ _ _ _ _ h => h, pss_never.imp fun D σ H ⟨cl, E, g, as, j, go, r, q⟩ => q⟩
theorem xs_doc {x j pos pos'} : XS G X (.Expr (.Constant (.str x) j pos) pos') xNext := ⟨fun k k' E g h q => h.nx _ _ q, ps_doc.imp fun D σ H ⟨cl, E, g, as, j, go, r, q⟩ => q ⟨H, cl⟩ σ as j go (Pu.refl _) r⟩
end
/-! ### targets -/
/-- v stands for the data d, or is a tuple that does (b: it may be any) -/
def Rw (K : PySem.W.Frag) (w : Wd) (b : Bool) (v : V) (d : PyData) : Prop := Rv K w v d ∨ (b = true ∧ ∃ a xs ds, v = .ref a ∧ d = .tuple ds ∧ SqT K w.H a xs ∧ RvL K w xs ds)
theorem Rw.of {K : PySem.W.Frag} {w : Wd} {b : Bool} {v : V} {d : PyData} (h : Rv K w v d) : Rw K w b v d := .inl h
theorem Rw.rv {K : PySem.W.Frag} {w : Wd} {v : V} {d : PyData} (h : Rw K w false v d) : Rv K w v d := by
  rcases h with h | ⟨h, _⟩
  · exact h
  · cases h
abbrev TT' := PyData → List S → Nat → (List S → Prop) → Prop
abbrev TTs := List PyData → List S → Nat → (List S → Prop) → Prop
/-- only the slots sl were changed -/
structure Tch (sl : List Nat) (σ σ' : L2.St) : Prop where
  len : σ'.length = σ.length
  out : ∀ j, j ∉ sl → σ'[j]? = σ[j]?
theorem Tch.refl {sl : List Nat} (σ : L2.St) : Tch sl σ σ := ⟨rfl, fun _ _ => rfl⟩
theorem Tch.one {i : Nat} {σ : L2.St} {x : Option V} : Tch [i] σ (σ.set i x) := ⟨by simp, fun j hj => by
  have ne : i ≠ j := fun e => hj (by simp [e])
  rw [List.getElem?_set_ne ne]⟩
theorem Tch.trans {a b : List Nat} {σ σ1 σ2 : L2.St} (h : Tch a σ σ1) (k : Tch b σ1 σ2) : Tch (a ++ b) σ σ2 := ⟨k.len.trans h.len, fun j hj => by
  rw [List.mem_append, not_or] at hj
  rw [k.out j hj.2, h.out j hj.1]⟩
theorem Tch.sub {a b : List Nat} {σ σ1 : L2.St} (h : Tch a σ σ1) (s : ∀ i ∈ a, i ∈ b) : Tch b σ σ1 := ⟨h.len, fun j hj => h.out j fun z => hj (s j z)⟩
/-- a target that takes data into names -/
structure XG (G : Ct) (X : Cx) (b : Bool) (tg : Expr) (t : TT') (sl : List Nat) : Prop where
  mo : ∀ d E g Q Q', (∀ E', Q E' → Q' E') → t d E g Q → t d E g Q'
  pg : ∃ tt : TG, PG X tg tt ∧ ∀ (w : Wd) (g : Nat) (x : V) (d : PyData) (σ : L2.St) (E : List S) (as : List Addr) (Q : L2.St → Hp → Prop), G.J g w → EnvR X.K G w E σ as → Rw X.K w b x d →
    (t d E g fun E' => ∀ σ' bs, (∀ a ∈ bs, a ∈ as) → Tch sl σ σ' → EnvR X.K G w E' σ' bs → Q σ' w.H) → tt x σ w.H Q
structure XGs (G : Ct) (X : Cx) (tgs : List Expr) (t : TTs) (sl : List Nat) : Prop where
  mo : ∀ d E g Q Q', (∀ E', Q E' → Q' E') → t d E g Q → t d E g Q'
  pg : ∃ tt : TGs, PGs X tgs tt ∧ ∀ (w : Wd) (g : Nat) (xs : List V) (ds : List PyData) (σ : L2.St) (E : List S) (as : List Addr) (Q : L2.St → Hp → Prop), G.J g w → EnvR X.K G w E σ as → RvL X.K w xs ds →
    (t ds E g fun E' => ∀ σ' bs, (∀ a ∈ bs, a ∈ as) → Tch sl σ σ' → EnvR X.K G w E' σ' bs → Q σ' w.H) → tt xs σ w.H Q
@[simp] def yName (i : Nat) : TT' := fun d E _ Q => Q (E.set i (.v d))
theorem xg_name (i : Nat) {x : Str} {pos : Pos} (h : PG X (.Name x pos) (gName i)) : XG G X false (.Name x pos) (yName i) [i] := by
  refine ⟨fun d E g Q Q' hq q => hq _ q, gName i, h, fun w g x d σ E as Q j r rv q => ?_⟩
  obtain ⟨bs, r1, hb⟩ := r.set i rv.rv
  exact q _ bs hb Tch.one r1
@[simp] def yNil : TTs := fun ds E _ Q => ds = [] ∧ Q E
@[simp] def yCons (t : TT') (u : TTs) : TTs := fun ds E g Q => ∃ d r, ds = d :: r ∧ t d E g fun E' => u r E' g Q
theorem xgs_nil : XGs G X [] yNil [] := by
  refine ⟨fun d E g Q Q' hq ⟨e, q⟩ => ⟨e, hq _ q⟩, gNil, pgs_nil, fun w g xs ds σ E as Q j r rv ⟨e, q⟩ => ?_⟩
  subst e
  cases rv
  exact ⟨rfl, q _ as (fun a h => h) (Tch.refl _) r⟩
theorem xgs_cons {e : Expr} {es : List Expr} {t : TT'} {u : TTs} {s1 s2 : List Nat} (h1 : XG G X false e t s1) (h2 : XGs G X es u s2)
    (hs : (assignEach (e :: es) X.env).map (·.2) = assign e X.env :: (assignEach es X.env).map (·.2) := by rfl) : XGs G X (e :: es) (yCons t u) (s1 ++ s2) := by
  obtain ⟨m1, t1, p1, q1⟩ := h1
  obtain ⟨m2, t2, p2, q2⟩ := h2
  refine ⟨fun ds E g Q Q' hq ⟨d, r, e, q⟩ => ⟨d, r, e, m1 _ _ _ _ _ (fun E' q => m2 _ _ _ _ _ hq q) q⟩, gCons t1 t2, pgs_cons p1 p2 hs, fun w g xs ds σ E as Q j r rv ⟨d, dr, e, q⟩ => ?_⟩
  subst e
  cases rv with
  | cons hv hr =>
    refine ⟨_, _, rfl, q1 w g _ _ σ E as _ j r (.of hv) (m1 _ _ _ _ _ (fun E' q' σ' bs hb tc r' => ?_) q)⟩
    refine q2 w g _ _ σ' E' bs _ j r' hr (m2 _ _ _ _ _ (fun E2 q2' σ2 cs hc tc2 r2 => ?_) q')
    exact q2' σ2 cs (fun a h => hb a (hc a h)) (tc.trans tc2) r2
/-- (a, b, ..) = a tuple -/
@[simp] def yTup (n : Nat) (t : TTs) : TT' := fun d E g Q => ∃ ds, d = .tuple ds ∧ ds.length = n ∧ t ds E g Q
theorem xg_tup {es : List Expr} {k : Nat} {t : TTs} {n : Nat} {pos : Pos} {sl : List Nat} {b : Bool} (hc : X.calm = true) (h : XGs G X es t sl)
    (hn : (assignEach es X.env).length = n := by rfl) (hst : (assignEach es X.env).findIdx? (·.1) = none := by rfl) : XG G X b (.Tuple es k pos) (yTup n t) sl := by
  obtain ⟨m, tt, p, q⟩ := h
  refine ⟨fun d E g Q Q' hq ⟨ds, e, l, q⟩ => ⟨ds, e, l, m _ _ _ _ _ hq q⟩, gTup X.K n tt, pg_tup hc p hn hst, fun w g x d σ E as Q j r rv ⟨ds, e, l, z⟩ => ?_⟩
  subst e
  rcases rv with rv | ⟨_, a, xs, ds', e1, e2, hT, hr⟩
  · cases rv with
    | tup hT hr => exact ⟨_, _, rfl, hT.sq, by rw [hr.len]; exact l, q w g _ _ σ E as Q j r hr z⟩
  · subst e1
    cases e2
    exact ⟨_, _, rfl, hT, by rw [hr.len]; exact l, q w g _ _ σ E as Q j r hr z⟩
@[simp] def xAsg (te : TX) (t : TT') : TSt := fun k E g => te E g fun d g1 => t d E g1 fun E' => k.nx E' g1
section
variable {e tg : Expr} {te : TX} {t : TT'} {pos : Pos} {sl : List Nat}
theorem xasg_mo {b : Bool} (he : XE G X e te) (hg : XG G X b tg t sl) : ∀ k k' E g, k.Le k' → xAsg te t k E g → xAsg te t k' E g :=
  fun k k' E g h q => he.mo _ _ _ _ (fun d g1 q1 => hg.mo _ _ _ _ _ (fun E' q2 => h.nx _ _ q2) q1) q
theorem xs_asg {b : Bool} (he : XE G X e te) (hg : XG G X b tg t sl) (hs : swapsWithSole [tg] e pos.line X.env = pure false := by rfl) (hw : swappedStores [tg] e X.env = pure none := by rfl)
    (h1 : (assignEach [tg] X.env).map (·.2) = [assign tg X.env] := by rfl) : XS G X (.Assign [tg] e pos) (xAsg te t) := by
  have hg' := hg
  obtain ⟨m, tt, p, q⟩ := hg
  refine ⟨xasg_mo he hg', (ps_asg he.pe p hs hw h1).imp fun D σ H ⟨cl, E, g, as, j, go, r, z⟩ => ?_⟩
  refine ⟨cl, E, g, as, j, r, he.mo _ _ _ _ (fun d g1 z1 u v go1 j1 rv => ?_) z⟩
  refine q u g1 v d σ E as _ j1 (r.go go1) (.of rv) (m _ _ _ _ _ (fun E' z2 σ' bs hb tc r2 => ?_) z1)
  exact z2 u σ' bs j1 (go.trans go1) go1.pu r2
theorem xs_set (i : Nat) {x : Str} {pos' : Pos} (he : XE G X e te) (h : ∀ te', PE X e te' → PS X (.Assign [.Name x pos'] e pos) (tAsg te' (gName i))) : XS G X (.Assign [.Name x pos'] e pos) (xAsg te (yName i)) := by
  refine ⟨fun k k' E g h q => he.mo _ _ _ _ (fun d g1 q1 => h.nx _ _ q1) q, (h _ he.pe).imp fun D σ H ⟨cl, E, g, as, j, go, r, z⟩ => ?_⟩
  refine ⟨cl, E, g, as, j, r, he.mo _ _ _ _ (fun d g1 z1 u v go1 j1 rv => ?_) z⟩
  obtain ⟨bs, r1, hb⟩ := (r.go go1).set i rv
  exact z1 u _ bs j1 (go.trans go1) go1.pu r1
end
/-! ### argument lists, displays -/
@[simp] def xaNil : TL' := fun _ g Q => Q [] g
@[simp] def xaCons (t : TX) (u : TL') : TL' := fun E g Q => t E g fun d g1 => u E g1 fun ds g2 => Q (.v d :: ds) g2
@[simp] def xaTok (i : Nat) (u : TL') : TL' := fun E g Q => E[i]? = some .tok ∧ u E g fun ds g2 => Q (.tok :: ds) g2
section
variable {e : Expr} {es : List Expr} {te : TX} {t : TL'} {pos : Pos}
theorem RvA.go {K : PySem.W.Frag} {w u : Wd} {vs : List V} {ds : List S} (h : RvA K G.am w vs ds) (g : Go w u) : RvA K G.am u vs ds := by
  induction h with
  | nil => exact .nil
  | v h _ ih => exact .v (h.go g) ih
  | tok _ ih => exact .tok ih
theorem xa_nil : XA G X [] xaNil := ⟨fun E g Q Q' hq q => hq _ _ q, pa_nil.imp fun σ H Q ⟨cl, E, g, as, j, r, q⟩ => q ⟨H, cl⟩ [] (Go.refl _) j .nil⟩
theorem xa_cons (he : XE G X e te) (hr : XA G X es t) (hs : starEach (e :: es) X.env = (false, eval e X.env) :: starEach es X.env := by rfl) : XA G X (e :: es) (xaCons te t) := by
  refine ⟨fun E g Q Q' hq q => he.mo _ _ _ _ (fun d g1 q1 => hr.mo _ _ _ _ (fun ds g2 q2 => hq _ _ q2) q1) q, (pa_cons he.pe hr.pa hs).imp fun σ H Q ⟨cl, E, g, as, j, r, q⟩ => ?_⟩
  refine ⟨cl, E, g, as, j, r, he.mo _ _ _ _ (fun d g1 q1 u v go1 j1 rv => ?_) q⟩
  refine ⟨u.cl, E, g1, as, j1, r.go go1, hr.mo _ _ _ _ (fun ds g2 q2 u2 vs go2 j2 rs => ?_) q1⟩
  exact q2 u2 (v :: vs) (go1.trans go2) j2 (.v (rv.go go2) rs)
theorem xa_tok (i : Nat) {x : Str} {p : Pos} (he : PE X (.Name x p) (tVar i)) (hr : XA G X es t) (hs : starEach (.Name x p :: es) X.env = (false, eval (.Name x p) X.env) :: starEach es X.env := by rfl) : XA G X (.Name x p :: es) (xaTok i t) := by
  refine ⟨fun E g Q Q' hq ⟨e, q⟩ => ⟨e, hr.mo _ _ _ _ (fun ds g2 q2 => hq _ _ q2) q⟩, (pa_cons he hr.pa hs).imp fun σ H Q ⟨cl, E, g, as, j, r, e, q⟩ => ?_⟩
  refine ⟨_, r.getTok e, cl, E, g, as, j, r, hr.mo _ _ _ _ (fun ds g2 q2 u2 vs go2 j2 rs => ?_) q⟩
  exact q2 u2 _ go2 j2 (.tok rs)
@[simp] def dsOf : List S → Option (List PyData)
  | [] => some []
  | .v d :: r => (dsOf r).map (d :: ·)
  | _ :: _ => none
theorem RvA.ds {K : PySem.W.Frag} {w : Wd} {vs : List V} {ds : List S} (h : RvA K G.am w vs ds) : ∀ {l : List PyData}, dsOf ds = some l → RvL K w vs l := by
  induction h with
  | nil => intro l e; cases e; exact .nil
  | @v x d vs ds h t ih =>
    intro l e
    have e' : (dsOf ds).map (d :: ·) = some l := e
    cases q : dsOf ds with
    | none => rw [q] at e'; cases e'
    | some r =>
      rw [q] at e'
      cases e'
      exact .cons h (ih q)
  | tok t ih => intro l e; cases e
@[simp] def xTup (t : TL') : TX := fun E g Q => t E g fun ss g1 => ∃ ds, dsOf ss = some ds ∧ ds.length ≤ sizeLine ∧ Q (.tuple ds) g1
@[simp] def xLst (t : TL') : TX := fun E g Q => t E g fun ss g1 => ∃ ds, dsOf ss = some ds ∧ ds.length ≤ sizeLine ∧ Q (.list ds) g1
theorem new_tup {K : PySem.W.Frag} {w : Wd} {p : Addr} {xs : List V} {ds : List PyData} {o : Obj} (n : w.H p = none) (d : o.dict = none) (r : RvL K w xs ds) : Rv K (w.new p (tupO o xs) 0) (.ref p) (.tuple ds) :=
  .tup (.inl ⟨o, upd_same, d, if_pos rfl⟩) (r.go (Go.new' n 0))
theorem tupO_ok {P : Program} {w : World} {H : Hp} {h : Heap} {a : Addr} {o : Obj} {xs : List V} (e : h.get? a = some o) (k : ObjOk P w H h a (.tup xs)) : ObjOk P w H h a (tupO o xs) := by
  unfold tupO
  split
  · exact k
  · exact ⟨e, k⟩
theorem laid_tup {X : Cx} {pins : List (Addr × Obj)} {σ : L2.St} {H : Hp} {s : Shared} {xs : List V} {us : List Value} (I : Inv X pins σ H s) (r : Vals xs us) (z : xs.length ≤ sizeLine) :
    Inv X pins σ (upd H s.heap.objs.size (tupO { cls := .type "tuple", data := .seq us.toArray } xs)) { s with heap := s.heap.push { cls := .type "tuple", data := .seq us.toArray } } :=
  I.laid (t' := s.toks) (fun b u e => Heap.get?_push_of_some _ e) (Nat.le_refl _) (tupO_ok (Heap.get?_push_size _ rfl) ⟨z, us, r, ⟨_, Heap.get?_push_size _ rfl, rfl, _, rfl⟩⟩)
/-- (a, b, ..), told so -/
def tTupF (t : TA) : TE := fun σ H Q => t σ H fun xs H1 => xs.length ≤ sizeLine ∧ ∀ p o, H1 p = none → o.dict = none → Q (.ref p) (upd H1 p (tupO o xs))
theorem pe_tupF {X : Cx} {es : List Expr} {t : TA} {x1} {pos : Pos} (h : PA X es t) : PE X (.Tuple es x1 pos) (tTupF t) := by
  refine ⟨fun pins s σ H Q I hq => wpAny_Tuple_spliced (thn (h.run pos pins s σ H _ I hq) fun us s1 ⟨xs, H1, I1, r, z, q⟩ => ⟨by rw [← r.length]; exact z, ?_⟩)⟩
  exact ⟨.ref s1.heap.objs.size, _, laid_tup I1 r z, rfl, q _ { cls := .type "tuple", data := .seq us.toArray } (I1.hok.fresh (Nat.le_refl _)) rfl⟩
theorem new_lst {K : PySem.W.Frag} {w : Wd} {p : Addr} {xs : List V} {ds : List PyData} (n : w.H p = none) (r : RvL K w xs ds) : Rv K (w.new p (.lst xs) 0) (.ref p) (.list ds) :=
  .lst (.inl ⟨.inl upd_same, if_pos rfl⟩) (r.go (Go.new' n 0))
theorem xe_tup {x1} (h : XA G X es t) : XE G X (.Tuple es x1 pos) (xTup t) := by
  refine ⟨fun E g Q Q' hq q => h.mo _ _ _ _ (fun ss g1 ⟨ds, e, l, q⟩ => ⟨ds, e, l, hq _ _ q⟩) q, (pe_tupF h.pa).imp fun σ H Q ⟨cl, E, g, as, j, r, q⟩ => ?_⟩
  refine ⟨cl, E, g, as, j, r, h.mo _ _ _ _ (fun ss g1 ⟨ds, e, l, q1⟩ u vs go1 j1 rs => ?_) q⟩
  have rl := rs.ds e
  refine ⟨by rw [rl.len]; exact l, fun p o np hd => ?_⟩
  exact q1 (u.new p (tupO o vs) 0) _ (go1.trans (Go.new' np 0)) (G.st0 (Go0.new np 0) j1) (new_tup np hd rl)
theorem xe_lst (h : XA G X es t) : XE G X (.List es pos) (xLst t) := by
  refine ⟨fun E g Q Q' hq q => h.mo _ _ _ _ (fun ss g1 ⟨ds, e, l, q⟩ => ⟨ds, e, l, hq _ _ q⟩) q, (pe_lst h.pa).imp fun σ H Q ⟨cl, E, g, as, j, r, q⟩ => ?_⟩
  refine ⟨cl, E, g, as, j, r, h.mo _ _ _ _ (fun ss g1 ⟨ds, e, l, q1⟩ u vs go1 j1 rs => ?_) q⟩
  have rl := rs.ds e
  refine ⟨by rw [rl.len]; exact l, fun p np => ?_⟩
  exact q1 (u.new p (.lst vs) 0) _ (go1.trans (Go.new' np 0)) (G.st0 (Go0.new np 0) j1) (new_lst np rl)
end
end
/-! ### a def's promise, by data -/
abbrev PT' := List S → Nat → (PyData → Nat → Prop) → Prop
/-- J, am of a context, whatever its entry -/
def spD (K : PySem.W.Frag) (am : Addr) (J : Nat → Wd → Prop) (n : Nat) (pt : PT') : Sp := fun vs H Q _ => ∃ cl g ss, vs.length = n ∧ J g ⟨H, cl⟩ ∧ RvA K am ⟨H, cl⟩ vs ss ∧ pt ss g fun d g' => ∀ u v, Go ⟨H, cl⟩ u → J g' u → Rv K u v d → Q v u.H
/-- the context with another entry -/
abbrev Ct.at (G : Ct) (w : Wd) : Ct := ⟨G.am, G.J, G.st, w⟩
section
variable {G : Ct} {X : Cx} {CX : CXT} {k : Nat} {f : Addr} {fd : FuncData} {ps : List Str} {x : Str} {p pos : Pos} {e : Expr} {es : List Expr} {t : TL'} {n : Nat} {pt : PT'}
@[simp] def xCall (t : TL') (pt : PT') : TX := fun E g Q => t E g fun ss g1 => pt ss g1 Q
theorem RvA.len {K : PySem.W.Frag} {w : Wd} {vs : List V} {ds : List S} (h : RvA K G.am w vs ds) : vs.length = ds.length := by
  induction h with
  | nil => rfl
  | v _ _ ih => simp [ih]
  | tok _ ih => simp [ih]
/-- f(e, ..) of a def that raises nothing -/
theorem xe_call (F : FnOk X.prog X.w X.K X.mg X.base CX0 k f fd ps (spD X.K G.am G.J n pt)) (mo : ∀ ss g Q Q', (∀ d g', Q d g' → Q' d g') → pt ss g Q → pt ss g Q') (hr : Room k X.A) (hg : Gl X x) (hm : X.mg x = some (.ref f)) (hk : PySem.W.keepIn X.K (.ref f) = true) (hb : Binds X.K fd ps [])
    (ha : XA G X (e :: es) t) (hl : ∀ E g Q, t E g Q → t E g fun ss g' => ss.length = n ∧ Q ss g') (hdb : (x == ("__debug__" : Str)) = false := by decide) (he : starEach (e :: es) X.env = (false, eval e X.env) :: starEach es X.env := by rfl) (hpl : (backTo pos (starEach es X.env)).any (·.1) = false := by rfl) :
    XE G X (.Call (.Name x p) (e :: es) [] pos) (xCall t pt) := by
  refine ⟨fun E g Q Q' hq q => ha.mo _ _ _ _ (fun ss g1 q1 => mo _ _ _ _ hq q1) q, (pe_call (dvs := []) F hr hg hm hk hb .nil pass0 ha.pa hdb he hpl).imp fun σ H Q ⟨cl, E, g, as, j, r, q⟩ => ?_⟩
  refine ⟨cl, E, g, as, j, r, ha.mo _ _ _ _ (fun ss g1 ⟨l, q1⟩ u vs go1 j1 rs => ?_) (hl _ _ _ q)⟩
  show spD X.K G.am G.J n pt (vs ++ []) u.H Q E0
  rw [List.append_nil]
  refine ⟨u.cl, g1, ss, by rw [rs.len]; exact l, j1, rs, mo _ _ _ _ (fun d g2 q2 u2 v2 go2 j2 r2 => ?_) q1⟩
  exact q2 u2 v2 (go1.trans go2) j2 r2
theorem xe_call0 (F : FnOk X.prog X.w X.K X.mg X.base CX0 k f fd ps (spD X.K G.am G.J 0 pt)) (mo : ∀ ss g Q Q', (∀ d g', Q d g' → Q' d g') → pt ss g Q → pt ss g Q') (hr : Room k X.A) (hg : Gl X x) (hm : X.mg x = some (.ref f)) (hk : PySem.W.keepIn X.K (.ref f) = true) (hb : Binds X.K fd ps [])
    (hdb : (x == ("__debug__" : Str)) = false := by decide) : XE G X (.Call (.Name x p) [] [] pos) (fun E g Q => pt [] g Q) := by
  refine ⟨fun E g Q Q' hq q => mo _ _ _ _ hq q, (pe_call0 (dvs := []) F hr hg hm hk hb .nil pass0 hdb).imp fun σ H Q ⟨cl, E, g, as, j, r, q⟩ => ?_⟩
  exact ⟨cl, g, [], rfl, j, .nil, q⟩
theorem al_nil : ∀ E g Q, xaNil E g Q → xaNil E g fun ss g' => ss.length = 0 ∧ Q ss g' := fun E g Q q => ⟨rfl, q⟩
theorem al_cons {te : TX} {t : TL'} {n : Nat} (mo : ∀ E g Q Q', (∀ d g', Q d g' → Q' d g') → te E g Q → te E g Q') (h : ∀ E g Q, t E g Q → t E g fun ss g' => ss.length = n ∧ Q ss g') (mt : ∀ E g Q Q', (∀ d g', Q d g' → Q' d g') → t E g Q → t E g Q') : ∀ E g Q, xaCons te t E g Q → xaCons te t E g fun ss g' => ss.length = n + 1 ∧ Q ss g' :=
  fun E g Q q => mo _ _ _ _ (fun d g1 q1 => mt _ _ _ _ (fun ss g2 ⟨l, q2⟩ => ⟨by simp [l], q2⟩) (h _ _ _ q1)) q
theorem al_tok {i : Nat} {t : TL'} {n : Nat} (h : ∀ E g Q, t E g Q → t E g fun ss g' => ss.length = n ∧ Q ss g') (mt : ∀ E g Q Q', (∀ d g', Q d g' → Q' d g') → t E g Q → t E g Q') : ∀ E g Q, xaTok i t E g Q → xaTok i t E g fun ss g' => ss.length = n + 1 ∧ Q ss g' :=
  fun E g Q ⟨e, q⟩ => ⟨e, mt _ _ _ _ (fun ss g2 ⟨l, q2⟩ => ⟨by simp [l], q2⟩) (h _ _ _ q)⟩
end
end TL
namespace TL
open PySem PySem.Spec PyProof.Rows L2
/-! ### what is walked -/
structure Wk (K : PySem.W.Frag) (b : Bool) (j : It) (ds : List PyData) (P : Wd → Prop) : Prop where
  pu : ∀ w u, P w → Pu w u → P u
  go : ∀ i w, P w → i < ds.length → j.go i w.H
  stop : ∀ i w, P w → ds.length ≤ i → j.stop i w.H
  yld : ∀ i w x H' d, P w → ds[i]? = some d → j.yld i w.H x H' → ∃ u : Wd, u.H = H' ∧ Go0 w u ∧ Rw K u b x d
abbrev TWk := List S → Nat → (List PyData → Nat → Prop) → Prop
def liftI (K : PySem.W.Frag) (G : Ct) (b : Bool) (t : TWk) : TI := fun σ H R => ∃ cl E g as, G.J g ⟨H, cl⟩ ∧ EnvR K G ⟨H, cl⟩ E σ as ∧ t E g fun ds g' => ∀ u j P, Go ⟨H, cl⟩ u → G.J g' u → Wk K b j ds P → P u → R j u.H
structure XI (G : Ct) (X : Cx) (b : Bool) (tg it : Expr) (t : TWk) : Prop where
  mo : ∀ E g Q Q', (∀ d g', Q d g' → Q' d g') → t E g Q → t E g Q'
  pi : PI X tg it (liftI X.K G b t)
theorem _root_.L2.PI.imp {X : Cx} {tg e : Expr} {t t' : TI} (h : PI X tg e t) (w : ∀ σ H Q, t' σ H Q → t σ H Q) : PI X tg e t' := ⟨fun pins s σ H Q I q => h.run pins s σ H Q I (w σ H Q q)⟩
section
variable {K : PySem.W.Frag}
theorem wk_list {a : Addr} {xs : List V} {ds : List PyData} {w : Wd} : Wk K false (Itl K a) ds fun w => LstA K w a xs ∧ RvL K w xs ds where
  pu := fun w u h p => ⟨h.1.pu p, h.2.pu p⟩
  go := fun i w h l => by
    have l' : i < xs.length := by rw [h.2.len]; exact l
    exact ⟨xs, xs[i], h.1.sq, List.getElem?_eq_getElem l'⟩
  stop := fun i w h l => ⟨xs, h.1.sq, by rw [h.2.len]; exact l⟩
  yld := fun i w x H' d h e y => by
    obtain ⟨e1, y⟩ := y
    obtain ⟨v, e2, rv⟩ := h.2.get e
    have e3 := y xs h.1.sq
    rw [e2] at e3
    cases e3
    exact ⟨w, e1.symm, Go0.refl w, .of rv⟩
theorem wk_tup {a : Addr} {xs : List V} {ds : List PyData} {w : Wd} : Wk K false (Itt K a) ds fun w => TupA K w a xs ∧ RvL K w xs ds where
  pu := fun w u h p => ⟨h.1.pu p, h.2.pu p⟩
  go := fun i w h l => by
    have l' : i < xs.length := by rw [h.2.len]; exact l
    exact ⟨xs, xs[i], h.1.sq, List.getElem?_eq_getElem l'⟩
  stop := fun i w h l => ⟨xs, h.1.sq, by rw [h.2.len]; exact l⟩
  yld := fun i w x H' d h e y => by
    obtain ⟨e1, y⟩ := y
    obtain ⟨v, e2, rv⟩ := h.2.get e
    have e3 := y xs h.1.sq
    rw [e2] at e3
    cases e3
    exact ⟨w, e1.symm, Go0.refl w, .of rv⟩
def rangeD (lo : Int) (n : Nat) : List PyData := (List.range n).map fun (i : Nat) => PyData.int (lo + (i : Int))
theorem wk_rng {lo : Int} {n : Nat} : Wk K false (Itr lo n) (rangeD lo n) fun _ => True where
  pu := fun w u h p => h
  go := fun i w h l => by
    show i < n
    simpa [rangeD] using l
  stop := fun i w h l => by
    show n ≤ i
    simpa [rangeD] using l
  yld := fun i w x H' d h e y => by
    obtain ⟨e1, e2⟩ := y
    subst e2
    refine ⟨w, e1.symm, Go0.refl w, .of ?_⟩
    have l : i < n := by
      have := (List.getElem?_eq_some_iff.mp e).1
      simpa [rangeD] using this
    have e' : (rangeD lo n)[i]? = some (.int (lo + i)) := by simp [rangeD, l]
    rw [e] at e'
    cases e'
    exact .int _
/-- pairs of items -/
@[simp] def zipD : List PyData → List PyData → List PyData
  | x :: r, y :: s => .tuple [x, y] :: zipD r s
  | _, _ => []
theorem zipD_len : ∀ a b : List PyData, (zipD a b).length = min a.length b.length
  | [], _ => by simp [zipD]
  | _ :: _, [] => by simp [zipD]
  | x :: r, y :: s => by
    show (zipD r s).length + 1 = min (r.length + 1) (s.length + 1)
    rw [zipD_len r s]; omega
theorem zipD_get : ∀ (a b : List PyData) (i : Nat) (d : PyData), (zipD a b)[i]? = some d → ∃ x y, a[i]? = some x ∧ b[i]? = some y ∧ d = .tuple [x, y]
  | [], _, _, _, h => by simp [zipD] at h
  | _ :: _, [], _, _, h => by simp [zipD] at h
  | x :: r, y :: s, 0, d, h => ⟨x, y, rfl, rfl, (Option.some.inj h).symm⟩
  | x :: r, y :: s, i + 1, d, h => by
    obtain ⟨p, q, h1, h2, h3⟩ := zipD_get r s i d h
    exact ⟨p, q, h1, h2, h3⟩
end
section
variable {G : Ct} {X : Cx} {tg e : Expr} {te : TX} {t : TL'} {p pos : Pos}
@[simp] def xiList (te : TX) : TWk := fun E g Q => te E g fun d g' => ∃ ds, d = .list ds ∧ Q ds g'
@[simp] def xiTup (te : TX) : TWk := fun E g Q => te E g fun d g' => ∃ ds, d = .tuple ds ∧ Q ds g'
theorem xi_list (h : XE G X e te) : XI G X false tg e (xiList te) := by
  refine ⟨fun E g Q Q' hq q => h.mo _ _ _ _ (fun d g1 ⟨ds, e, q⟩ => ⟨ds, e, hq _ _ q⟩) q, (pi_list h.pe).imp fun σ H R ⟨cl, E, g, as, j, r, q⟩ => ?_⟩
  refine ⟨cl, E, g, as, j, r, h.mo _ _ _ _ (fun d g1 ⟨ds, e, q1⟩ u v go1 j1 rv => ?_) q⟩
  subst e
  cases rv with
  | lst hl hr => exact ⟨_, rfl, ⟨_, hl.sq⟩, q1 u _ _ go1 j1 (wk_list (w := u)) ⟨hl, hr⟩⟩
theorem xi_tup (h : XE G X e te) : XI G X false tg e (xiTup te) := by
  refine ⟨fun E g Q Q' hq q => h.mo _ _ _ _ (fun d g1 ⟨ds, e, q⟩ => ⟨ds, e, hq _ _ q⟩) q, (pi_tup h.pe).imp fun σ H R ⟨cl, E, g, as, j, r, q⟩ => ?_⟩
  refine ⟨cl, E, g, as, j, r, h.mo _ _ _ _ (fun d g1 ⟨ds, e, q1⟩ u v go1 j1 rv => ?_) q⟩
  subst e
  cases rv with
  | tup hl hr => exact ⟨_, rfl, ⟨_, hl.sq⟩, q1 u _ _ go1 j1 (wk_tup (w := u)) ⟨hl, hr⟩⟩
theorem RvA.int1 {K : PySem.W.Frag} {am : Addr} {u : Wd} {vs : List V} {i : Int} (h : RvA K am u vs [.v (.int i)]) : vs = [.int i] := by
  cases h with
  | v h t => cases h; cases t; rfl
theorem RvA.int2 {K : PySem.W.Frag} {am : Addr} {u : Wd} {vs : List V} {i j : Int} (h : RvA K am u vs [.v (.int i), .v (.int j)]) : vs = [.int i, .int j] := by
  cases h with
  | v h t => cases h; rw [RvA.int1 t]
@[simp] def xiRng1 (t : TL') : TWk := fun E g Q => t E g fun ss g' => ∃ j : Int, ss = [.v (.int j)] ∧ j < 2 ^ 62 ∧ -(2 ^ 62) ≤ j ∧ Q (rangeD 0 j.toNat) g'
@[simp] def xiRng2 (t : TL') : TWk := fun E g Q => t E g fun ss g' => ∃ i j : Int, ss = [.v (.int i), .v (.int j)] ∧ (-(2 ^ 62) ≤ i ∧ i < 2 ^ 62 ∧ -(2 ^ 62) ≤ j ∧ j < 2 ^ 62) ∧ Q (rangeD i (j - i).toNat) g'
theorem xi_rng1 {a : Expr} (hg : Gl X "range") (hm : X.mg "range" = none) (ha : XA G X [a] t) (hs : starEach [a] X.env = [(false, eval a X.env)] := by rfl) : XI G X false tg (.Call (.Name "range" p) [a] [] pos) (xiRng1 t) := by
  refine ⟨fun E g Q Q' hq q => ha.mo _ _ _ _ (fun ss g1 ⟨j, e, b1, b2, q⟩ => ⟨j, e, b1, b2, hq _ _ q⟩) q, (pi_range1 hg hm ha.pa hs).imp fun σ H R ⟨cl, E, g, as, j, r, q⟩ => ?_⟩
  refine ⟨cl, E, g, as, j, r, ha.mo _ _ _ _ (fun ss g1 ⟨n, e, b1, b2, q1⟩ u vs go1 j1 rs => ?_) q⟩
  subst e
  exact ⟨n, rs.int1, b2, b1, q1 u _ _ go1 j1 wk_rng trivial⟩
theorem xi_rng2 {a b : Expr} (hg : Gl X "range") (hm : X.mg "range" = none) (ha : XA G X [a, b] t) (hs : starEach [a, b] X.env = [(false, eval a X.env), (false, eval b X.env)] := by rfl) (hs2 : starEach [b] X.env = [(false, eval b X.env)] := by rfl) :
    XI G X false tg (.Call (.Name "range" p) [a, b] [] pos) (xiRng2 t) := by
  refine ⟨fun E g Q Q' hq q => ha.mo _ _ _ _ (fun ss g1 ⟨i, j, e, b1, q⟩ => ⟨i, j, e, b1, hq _ _ q⟩) q, (pi_range2 hg hm ha.pa hs hs2).imp fun σ H R ⟨cl, E, g, as, j, r, q⟩ => ?_⟩
  refine ⟨cl, E, g, as, j, r, ha.mo _ _ _ _ (fun ss g1 ⟨m, n, e, b1, q1⟩ u vs go1 j1 rs => ?_) q⟩
  subst e
  exact ⟨m, n, rs.int2, b1, q1 u _ _ go1 j1 wk_rng trivial⟩
end
/-! ### for -/
@[simp] abbrev ktLoop (k : Kt) (f : List S → Nat → Prop) : Kt := { nx := f, rt := k.rt, bk := k.nx, ct := f }
@[simp] def forT (y : TT') (tb : TSt) : List PyData → Kt → List S → Nat → Prop
  | [], k, E, g => k.nx E g
  | d :: r, k, E, g => y d E g fun E' => tb (ktLoop k fun E2 g2 => forT y tb r k E2 g2) E' g
@[simp] def xFor (t : TWk) (y : TT') (tb : TSt) : TSt := fun k E g => t E g fun ds g1 => forT y tb ds k E g1
section
variable {G : Ct} {X : Cx} {tg it : Expr} {t : TWk} {y : TT'} {tb : TSt} {sl : List Nat} {body : List Stmt} {pos : Pos} {b : Bool}
theorem forT_mo (hy : ∀ d E g Q Q', (∀ E', Q E' → Q' E') → y d E g Q → y d E g Q') (hb : ∀ k k' E g, k.Le k' → tb k E g → tb k' E g) : ∀ (ds : List PyData) (k k' : Kt) (E : List S) (g : Nat), k.Le k' → forT y tb ds k E g → forT y tb ds k' E g
  | [], k, k', E, g, h, q => h.nx _ _ q
  | d :: r, k, k', E, g, h, q => hy _ _ _ _ _ (fun E' q1 => hb (ktLoop k fun E2 g2 => forT y tb r k E2 g2) (ktLoop k' fun E2 g2 => forT y tb r k' E2 g2) _ _ ⟨fun E2 g2 q2 => forT_mo hy hb r k k' E2 g2 h q2, h.rt, h.nx, fun E2 g2 q2 => forT_mo hy hb r k k' E2 g2 h q2⟩ q1) q
theorem xs_for (hp : PassesOwn (model X.prog X.w) X.A X.env X.xe) (hc : X.calm = true) (hi : XI G X b tg it t) (hg : XG G X b tg y sl) (hb : XSs G X body tb)
    (hs : ∀ x, foldedSetIterable it X.env x = pure x := by intro _; rfl) : XS G X (.For tg it body [] pos) (xFor t y tb) := by
  obtain ⟨my, gt, pg, qg⟩ := hg
  refine ⟨fun k k' E g h q => hi.mo _ _ _ _ (fun ds g1 q1 => forT_mo my hb.mo _ _ _ _ _ h q1) q, (ps_for hp hc hi.pi pg hb.ps hs).imp fun D σ H ⟨cl, E, g, as, j, go, r, q⟩ => ?_⟩
  refine ⟨cl, E, g, as, j, r, hi.mo _ _ _ _ (fun ds g1 q1 u jt P go1 j1 wk pP => ?_) q⟩
  refine ⟨fun i m σ H' => m = ds.length - i ∧ i ≤ ds.length ∧ ∃ cl' E' g' as', G.J g' ⟨H', cl'⟩ ∧ Go G.w0 ⟨H', cl'⟩ ∧ Pu ⟨H, cl⟩ ⟨H', cl'⟩ ∧ EnvR X.K G ⟨H', cl'⟩ E' σ as' ∧ P ⟨H', cl'⟩ ∧ forT y tb (ds.drop i) (ktOf X.K G ⟨H, cl⟩ D) E' g',
    ⟨ds.length, by simp, Nat.zero_le _, u.cl, E, g1, as, j1, go.trans go1, go1.pu, r.go go1, pP, by simpa using q1⟩, ?_⟩
  rintro i m σ1 H1 ⟨rfl, hi', cl1, E1, g2, as1, j2, go2, pu2, r2, p2, q2⟩
  by_cases hlt : i < ds.length
  · refine .inr ⟨wk.go i ⟨H1, cl1⟩ p2 hlt, fun σ' H' => i + 1 ≤ ds.length ∧ ∃ cl' E' g' as', G.J g' ⟨H', cl'⟩ ∧ Go G.w0 ⟨H', cl'⟩ ∧ Pu ⟨H, cl⟩ ⟨H', cl'⟩ ∧ EnvR X.K G ⟨H', cl'⟩ E' σ' as' ∧ P ⟨H', cl'⟩ ∧ forT y tb (ds.drop (i + 1)) (ktOf X.K G ⟨H, cl⟩ D) E' g',
      fun σ' H' hN => ⟨ds.length - (i + 1), by omega, rfl, hN.1, hN.2⟩, fun x H' hy => ?_⟩
    have ed : ds.drop i = ds[i] :: ds.drop (i + 1) := List.drop_eq_getElem_cons hlt
    rw [ed] at q2
    obtain ⟨u3, e3, g03, rv3⟩ := wk.yld i ⟨H1, cl1⟩ x H' ds[i] p2 (List.getElem?_eq_getElem hlt) hy
    subst e3
    have go3 := go2.trans g03.go
    refine qg u3 g2 x ds[i] σ1 E1 as1 _ (G.st0 g03 j2) (r2.go g03.go) rv3 (my _ _ _ _ _ (fun E4 q4 σ4 bs hbs tc r4 => ?_) q2)
    refine ⟨u3.cl, E4, g2, bs, G.st0 g03 j2, go3, r4, hb.mo (ktLoop (ktOf X.K G ⟨H, cl⟩ D) fun E2 g2 => forT y tb (List.drop (i + 1) ds) (ktOf X.K G ⟨H, cl⟩ D) E2 g2) _ _ _ ⟨fun E5 g5 q5 x5 σ5 as5 j5 go5 pu5 r5 => ?_, fun d g5 q5 => q5, fun E5 g5 q5 x5 σ5 as5 j5 go5 pu5 r5 => ?_, fun E5 g5 q5 x5 σ5 as5 j5 go5 pu5 r5 => ?_⟩ q4⟩
    · exact ⟨hlt, x5.cl, E5, g5, as5, j5, go5, (pu2.trans g03.go.pu).trans pu5, r5, wk.pu _ _ (wk.pu _ _ p2 g03.go.pu) pu5, q5⟩
    · exact q5 x5 σ5 as5 j5 go5 ((pu2.trans g03.go.pu).trans pu5) r5
    · exact ⟨hlt, x5.cl, E5, g5, as5, j5, go5, (pu2.trans g03.go.pu).trans pu5, r5, wk.pu _ _ (wk.pu _ _ p2 g03.go.pu) pu5, q5⟩
  · have e : i = ds.length := by omega
    subst e
    rw [List.drop_length] at q2
    exact .inl ⟨wk.stop _ ⟨H1, cl1⟩ p2 (Nat.le_refl _), q2 ⟨H1, cl1⟩ σ1 as1 j2 go2 pu2 r2⟩
end
/-! ### comprehensions -/
@[simp] def wipeE (E : List S) : List Nat → List S
  | [] => E
  | v :: vs => (wipeE E vs).set v .un
theorem EnvR.wipe {K : PySem.W.Frag} {G : Ct} {w : Wd} {E : List S} {σ : L2.St} {as : List Addr} (h : EnvR K G w E σ as) : ∀ vs : List Nat, ∃ bs, EnvR K G w (wipeE E vs) (wipe σ vs) bs ∧ ∀ a ∈ bs, a ∈ as
  | [] => ⟨as, h, fun _ q => q⟩
  | i0 :: vs => by
    obtain ⟨bs, h1, h2⟩ := EnvR.wipe h vs
    obtain ⟨cs, h3, h4⟩ := h1.unset i0 none
    exact ⟨cs, h3, fun a q => h2 a (h4 a q)⟩
theorem wipe_in {σ : L2.St} {i : Nat} : ∀ {vs : List Nat}, i ∈ vs → i < σ.length → (wipe σ vs)[i]? = some none
  | [], h, _ => by simp at h
  | u :: vs, h, l => by
    unfold L2.wipe
    by_cases e : u = i
    · subst e
      exact List.getElem?_set_self (by rw [wipe_length]; exact l)
    · rw [List.getElem?_set_ne e]
      exact wipe_in (by rcases List.mem_cons.mp h with z | z; exact absurd z.symm e; exact z) l
theorem Tch.wipe {sl vs : List Nat} {σ σ' : L2.St} (h : Tch sl (wipe σ vs) σ') (s : ∀ i ∈ sl, i ∈ vs) : L2.wipe σ' vs = L2.wipe σ vs := by
  apply List.ext_getElem?
  intro i
  have ll : σ'.length = σ.length := by rw [h.len, wipe_length]
  by_cases hv : i ∈ vs
  · by_cases hl : i < σ.length
    · rw [wipe_in hv hl, wipe_in hv (by rw [ll]; exact hl)]
    · rw [List.getElem?_eq_none (by rw [wipe_length, ll]; omega), List.getElem?_eq_none (by rw [wipe_length]; omega)]
  · rw [wipe_out hv, h.out i fun z => hv (s i z)]
@[simp] def compT (y : TT') (tt : TC) (te : TX) : List PyData → List S → List PyData → Nat → (List PyData → Nat → Prop) → Prop
  | [], _, acc, g, Q => Q acc g
  | d :: r, E, acc, g, Q => y d E g fun E' => tt E' g fun b g1 => if b = true then te E' g1 fun z g2 => compT y tt te r E (acc ++ [z]) g2 Q else compT y tt te r E acc g1 Q
@[simp] def xComp (t : TWk) (y : TT') (tt : TC) (te : TX) (vs : List Nat) : TX := fun E g Q => t E g fun ds g1 => ds.length ≤ sizeLine ∧ compT y tt te ds (wipeE E vs) [] g1 fun l g2 => Q (.list l) g2
structure XTs (G : Ct) (X : Cx) (ifs : List Expr) (t : TC) : Prop where
  mo : ∀ E g Q Q', (∀ d g', Q d g' → Q' d g') → t E g Q → t E g Q'
  pts : PTs X ifs (liftC X.K G t)
@[simp] def xYes : TC := fun _ g Q => Q true g
theorem _root_.L2.PTs.imp {X : Cx} {es : List Expr} {t t' : TT} (h : PTs X es t) (w : ∀ σ H Q, t' σ H Q → t σ H Q) : PTs X es t' := ⟨fun pins s σ H Q I q => h.run pins s σ H Q I (w σ H Q q)⟩
theorem xts_nil {G : Ct} {X : Cx} : XTs G X [] xYes := ⟨fun E g Q Q' hq q => hq _ _ q, pts_nil.imp fun σ H Q ⟨cl, E, g, as, j, r, q⟩ => q ⟨H, cl⟩ (Go.refl _) j⟩
theorem xts_one {G : Ct} {X : Cx} {c : Expr} {t : TC} (h : XC G X c t) : XTs G X [c] t := ⟨h.mo, pts_one h.pt⟩
section
variable {y : TT'} {tt : TC} {te : TX}
theorem compT_mo (hy : ∀ d E g Q Q', (∀ E', Q E' → Q' E') → y d E g Q → y d E g Q') (ht : ∀ E g Q Q', (∀ d g', Q d g' → Q' d g') → tt E g Q → tt E g Q') (he : ∀ E g Q Q', (∀ d g', Q d g' → Q' d g') → te E g Q → te E g Q') : ∀ (ds : List PyData) (E : List S) (acc : List PyData) (g : Nat) (Q Q' : List PyData → Nat → Prop), (∀ d g', Q d g' → Q' d g') → compT y tt te ds E acc g Q → compT y tt te ds E acc g Q'
  | [], _, _, _, _, _, hq, q => hq _ _ q
  | d :: r, E, acc, g, Q, Q', hq, q => hy _ _ _ _ _ (fun E' q1 => ht _ _ _ _ (fun b g1 q2 => by
      cases b with
      | true => exact he _ _ _ _ (fun z g2 q3 => compT_mo hy ht he r _ _ _ _ _ hq q3) q2
      | false => exact compT_mo hy ht he r _ _ _ _ _ hq q2) q1) q
end
section
variable {G : Ct} {X : Cx} {b : Bool} {elt tg it : Expr} {ifs : List Expr} {scope : Scope} {own : List (Str × Nat)} {pos : Pos} {t : TWk} {y : TT'} {tt : TC} {te : TX} {sl : List Nat}
/-- freezing: an object of a frame becomes data -/
def Wd.freeze (w : Wd) (a : Addr) : Wd := ⟨w.H, fun b => if b = a then 0 else w.cl b⟩
theorem freeze_pu {w : Wd} {a : Addr} : Pu w (w.freeze a) := fun b o h c => ⟨h, by show (if b = a then 0 else w.cl b) = 0; split; rfl; exact c⟩
theorem freeze_go {w u : Wd} {a : Addr} (g : Go w u) (n : w.H a = none) : Go w (u.freeze a) := by
  refine ⟨fun b o h => ?_, g.tr⟩
  have ne : b ≠ a := fun e => by rw [e, n] at h; cases h
  refine ⟨?_, (g.st b o h).2⟩
  show (if b = a then 0 else u.cl b) = w.cl b
  rw [if_neg ne]; exact (g.st b o h).1
theorem freeze_j {G : Ct} {g : Nat} {w : Wd} {a : Addr} (j : G.J g w) (c : w.cl a ≠ 2) : G.J g (w.freeze a) := G.st g w _ (fun b o h z => ⟨h, by
  show (if b = a then 0 else w.cl b) = 2
  have ne : b ≠ a := fun e => by subst e; exact c z
  rw [if_neg ne]; exact z⟩) j
theorem write_go {w u : Wd} {a : Addr} {o : HO} (g : Go w u) (n : w.H a = none) : Go w ⟨upd u.H a o, u.cl⟩ := by
  have ne : ∀ b x, w.H b = some x → b ≠ a := fun b x h e => by rw [e, n] at h; cases h
  refine ⟨fun b x h => ⟨(g.st b x h).1, fun c => ?_⟩, fun b x h => ?_⟩
  · show upd u.H a o b = some x
    rw [upd_ne (ne b x h)]; exact (g.st b x h).2 c
  · obtain ⟨o', h'⟩ := g.tr b x h
    refine ⟨o', ?_⟩
    show upd u.H a o b = some o'
    rw [upd_ne (ne b x h)]; exact h'
theorem write_j {G : Ct} {g : Nat} {w : Wd} {a : Addr} {o : HO} (j : G.J g w) (c : w.cl a ≠ 2) : G.J g ⟨upd w.H a o, w.cl⟩ := G.st g w _ (fun b x h z => by
  have ne : b ≠ a := fun e => by subst e; exact c z
  exact ⟨by show upd w.H a o b = some x; rw [upd_ne ne]; exact h, z⟩) j
theorem write_pu {w : Wd} {a : Addr} {o : HO} (c : w.cl a ≠ 0) : Pu w ⟨upd w.H a o, w.cl⟩ := fun b x h z => by
  have ne : b ≠ a := fun e => by subst e; exact c z
  exact ⟨by show upd w.H a o b = some x; rw [upd_ne ne]; exact h, z⟩
theorem comp_to (hi : XI G X b tg it t) (hg : ∃ gt : TG, (∀ (w : Wd) (g : Nat) (x : V) (d : PyData) (σ : L2.St) (E : List S) (as : List Addr) (Q : L2.St → Hp → Prop), G.J g w → EnvR X.K G w E σ as → Rw X.K w b x d →
      (y d E g fun E' => ∀ σ' bs, (∀ a ∈ bs, a ∈ as) → Tch sl σ σ' → EnvR X.K G w E' σ' bs → Q σ' w.H) → gt x σ w.H Q) ∧ True) (gt : TG)
    (qg : ∀ (w : Wd) (g : Nat) (x : V) (d : PyData) (σ : L2.St) (E : List S) (as : List Addr) (Q : L2.St → Hp → Prop), G.J g w → EnvR X.K G w E σ as → Rw X.K w b x d →
      (y d E g fun E' => ∀ σ' bs, (∀ a ∈ bs, a ∈ as) → Tch sl σ σ' → EnvR X.K G w E' σ' bs → Q σ' w.H) → gt x σ w.H Q)
    (my : ∀ d E g Q Q', (∀ E', Q E' → Q' E') → y d E g Q → y d E g Q') (mt : ∀ E g Q Q', (∀ d g', Q d g' → Q' d g') → tt E g Q → tt E g Q') (me : ∀ E g Q Q', (∀ d g', Q d g' → Q' d g') → te E g Q → te E g Q')
    (vs : List Nat) (hsl : ∀ i ∈ sl, i ∈ vs) : ∀ σ H Q, lift X.K G (xComp t y tt te vs) σ H Q → tLc (liftI X.K G b t) gt (liftC X.K G tt) (lift X.K G te) vs σ H Q := by
  intro σ H Q ⟨cl, E, g, as, j, r, q⟩
  refine ⟨cl, E, g, as, j, r, hi.mo _ _ _ _ (fun ds g1 ⟨hz, q1⟩ u jt P go1 j1 wk pP D nD => ?_) q⟩
  obtain ⟨bs, rw', hbs⟩ := (r.go go1).wipe vs
  have nDb : D ∉ bs := fun z => by
    obtain ⟨⟨o, ho⟩, _⟩ := (r.go go1).own D (hbs D z)
    rw [nD] at ho; cases ho
  have nDH : H D = none := by
    cases z : H D with
    | none => rfl
    | some o =>
      obtain ⟨o', h'⟩ := go1.tr D o z
      rw [nD] at h'; cases h'
  refine ⟨fun i m H' => m = ds.length - i ∧ i ≤ ds.length ∧ ∃ cl' acc xs g', cl' D = 1 ∧ H' D = some (.lst xs) ∧ xs.length ≤ i ∧ RvL X.K ⟨H', cl'⟩ xs acc ∧ G.J g' ⟨H', cl'⟩ ∧ Go ⟨H, cl⟩ ⟨H', cl'⟩ ∧ EnvR X.K G ⟨H', cl'⟩ (wipeE E vs) (wipe σ vs) bs ∧ P ⟨H', cl'⟩ ∧
      compT y tt te (ds.drop i) (wipeE E vs) acc g' (fun l g2 => ∀ u v, Go ⟨H, cl⟩ u → G.J g2 u → Rv X.K u v (.list l) → Q v u.H), ?_, ?_⟩
  · have g0 : Go0 u (u.new D (.lst []) 1) := Go0.new nD 1
    refine ⟨ds.length, by simp, Nat.zero_le _, (u.new D (.lst []) 1).cl, [], [], g1, if_pos rfl, upd_same, Nat.zero_le _, .nil, G.st0 g0 j1, go1.trans g0.go, rw'.go g0.go, wk.pu _ _ pP g0.go.pu, ?_⟩
    simpa using q1
  · rintro i m H1 ⟨rfl, hi', cl1, acc, xs, g2, cD, hD, hx, ra, j2, go2, r2, p2, q2⟩
    by_cases hlt : i < ds.length
    · refine .inr ⟨wk.go i ⟨H1, cl1⟩ p2 hlt, fun H' => ∃ cl' acc xs g', cl' D = 1 ∧ H' D = some (.lst xs) ∧ xs.length ≤ i + 1 ∧ RvL X.K ⟨H', cl'⟩ xs acc ∧ G.J g' ⟨H', cl'⟩ ∧ Go ⟨H, cl⟩ ⟨H', cl'⟩ ∧ EnvR X.K G ⟨H', cl'⟩ (wipeE E vs) (wipe σ vs) bs ∧ P ⟨H', cl'⟩ ∧
          compT y tt te (ds.drop (i + 1)) (wipeE E vs) acc g' (fun l g2 => ∀ u v, Go ⟨H, cl⟩ u → G.J g2 u → Rv X.K u v (.list l) → Q v u.H), fun H' hN => ⟨ds.length - (i + 1), by omega, rfl, hlt, hN⟩, fun x H' hy => ?_⟩
      have ed : ds.drop i = ds[i] :: ds.drop (i + 1) := List.drop_eq_getElem_cons hlt
      rw [ed] at q2
      obtain ⟨u3, e3, g03, rv3⟩ := wk.yld i ⟨H1, cl1⟩ x H' ds[i] p2 (List.getElem?_eq_getElem hlt) hy
      subst e3
      have cD3 : u3.cl D = 1 := ((g03 D _ hD).2).trans cD
      have hD3 : u3.H D = some (.lst xs) := (g03 D _ hD).1
      refine qg u3 g2 x ds[i] (wipe σ vs) (wipeE E vs) bs _ (G.st0 g03 j2) (r2.go g03.go) rv3 (my _ _ _ _ _ (fun E4 q4 σ4 cs hcs tc r4 => ?_) q2)
      refine ⟨tc.wipe hsl, u3.cl, E4, g2, cs, G.st0 g03 j2, r4, mt _ _ _ _ (fun b g5 q5 u5 go5 j5 => ?_) q4⟩
      have cD5 : u5.cl D = 1 := (go5.st D _ hD3).1.trans cD3
      have hD5 : u5.H D = some (.lst xs) := (go5.st D _ hD3).2 (by show u3.cl D ≠ 2; rw [cD3]; decide)
      cases b with
      | false =>
        exact ⟨u5.cl, acc, xs, g5, cD5, hD5, by omega, (ra.go g03.go).go go5, j5, (go2.trans g03.go).trans go5, (r2.go g03.go).go go5, wk.pu _ _ (wk.pu _ _ p2 g03.go.pu) go5.pu, q5⟩
      | true =>
        refine ⟨u5.cl, E4, g5, cs, j5, r4.go go5, me _ _ _ _ (fun z g6 q6 u6 v6 go6 j6 rv6 => ?_) q5⟩
        have cD6 : u6.cl D = 1 := (go6.st D _ hD5).1.trans cD5
        have hD6 : u6.H D = some (.lst xs) := (go6.st D _ hD5).2 (by show u5.cl D ≠ 2; rw [cD5]; decide)
        have n0 : u6.cl D ≠ 0 := by rw [cD6]; decide
        have n2 : u6.cl D ≠ 2 := by rw [cD6]; decide
        have goA : Go ⟨H1, cl1⟩ u6 := (g03.go.trans go5).trans go6
        refine ⟨xs, hD6, by omega, u6.cl, acc ++ [z], xs ++ [v6], g6, cD6, upd_same, by simp; omega, ((ra.go goA).upd' n0).app (.cons (rv6.upd' n0) .nil), write_j j6 n2, write_go (go2.trans goA) nDH, (r2.go goA).other n0 nDb, wk.pu _ _ (wk.pu _ _ p2 goA.pu) (write_pu n0), q6⟩
    · have e : i = ds.length := by omega
      subst e
      rw [List.drop_length] at q2
      refine .inl ⟨wk.stop _ ⟨H1, cl1⟩ p2 (Nat.le_refl _), ?_⟩
      have c2 : (⟨H1, cl1⟩ : Wd).cl D ≠ 2 := by show cl1 D ≠ 2; rw [cD]; decide
      exact q2 ((⟨H1, cl1⟩ : Wd).freeze D) (.ref D) (freeze_go go2 nDH) (freeze_j j2 c2) (.lst (.inl ⟨.inl hD, if_pos rfl⟩) (ra.pu freeze_pu))
theorem comp_mo (hi : XI G X b tg it t) (my : ∀ d E g Q Q', (∀ E', Q E' → Q' E') → y d E g Q → y d E g Q') (mt : ∀ E g Q Q', (∀ d g', Q d g' → Q' d g') → tt E g Q → tt E g Q') (me : ∀ E g Q Q', (∀ d g', Q d g' → Q' d g') → te E g Q → te E g Q')
    (vs : List Nat) : ∀ E g Q Q', (∀ d g', Q d g' → Q' d g') → xComp t y tt te vs E g Q → xComp t y tt te vs E g Q' :=
  fun E g Q Q' hq q => hi.mo _ _ _ _ (fun ds g1 ⟨z, q1⟩ => ⟨z, compT_mo my mt me _ _ _ _ _ _ (fun l g2 q2 => hq _ _ q2) q1⟩) q
/-- a target's rule, in any block -/
structure XGb (G : Ct) (X : Cx) (b : Bool) (scope : Scope) (tg : Expr) (y : TT') (sl : List Nat) : Prop where
  mo : ∀ d E g Q Q', (∀ E', Q E' → Q' E') → y d E g Q → y d E g Q'
  pg : ∃ tt : TG, (∀ (s : Shared) (H : Hp) (C : Addr) (cl : List (Str × Addr)) (fp : List Addr), PG (X.blk s H scope (compEnvC scope cl C X.env) fp) tg tt) ∧
    ∀ (w : Wd) (g : Nat) (x : V) (d : PyData) (σ : L2.St) (E : List S) (as : List Addr) (Q : L2.St → Hp → Prop), G.J g w → EnvR X.K G w E σ as → Rw X.K w b x d →
      (y d E g fun E' => ∀ σ' bs, (∀ a ∈ bs, a ∈ as) → Tch sl σ σ' → EnvR X.K G w E' σ' bs → Q σ' w.H) → tt x σ w.H Q
structure XGbs (G : Ct) (X : Cx) (scope : Scope) (tgs : List Expr) (y : TTs) (sl : List Nat) : Prop where
  mo : ∀ d E g Q Q', (∀ E', Q E' → Q' E') → y d E g Q → y d E g Q'
  pg : ∃ tt : TGs, (∀ (s : Shared) (H : Hp) (C : Addr) (cl : List (Str × Addr)) (fp : List Addr), PGs (X.blk s H scope (compEnvC scope cl C X.env) fp) tgs tt) ∧
    ∀ (w : Wd) (g : Nat) (xs : List V) (ds : List PyData) (σ : L2.St) (E : List S) (as : List Addr) (Q : L2.St → Hp → Prop), G.J g w → EnvR X.K G w E σ as → RvL X.K w xs ds →
      (y ds E g fun E' => ∀ σ' bs, (∀ a ∈ bs, a ∈ as) → Tch sl σ σ' → EnvR X.K G w E' σ' bs → Q σ' w.H) → tt xs σ w.H Q
theorem xgb_name (i : Nat) {x : Str} {p : Pos} (h : ∀ (s : Shared) (H : Hp) (C : Addr) (cl : List (Str × Addr)) (fp : List Addr), PG (X.blk s H scope (compEnvC scope cl C X.env) fp) (.Name x p) (gName i)) : XGb G X false scope (.Name x p) (yName i) [i] := by
  refine ⟨fun d E g Q Q' hq q => hq _ q, gName i, h, fun w g x d σ E as Q j r rv q => ?_⟩
  obtain ⟨bs, r1, hb⟩ := r.set i rv.rv
  exact q _ bs hb Tch.one r1
theorem xgbs_nil : XGbs G X scope [] yNil [] := by
  refine ⟨fun d E g Q Q' hq ⟨e, q⟩ => ⟨e, hq _ q⟩, gNil, fun _ _ _ _ _ => pgs_nil, fun w g xs ds σ E as Q j r rv ⟨e, q⟩ => ?_⟩
  subst e
  cases rv
  exact ⟨rfl, q _ as (fun a h => h) (Tch.refl _) r⟩
theorem xgbs_cons {e : Expr} {es : List Expr} {t : TT'} {u : TTs} {s1 s2 : List Nat} (h1 : XGb G X false scope e t s1) (h2 : XGbs G X scope es u s2)
    (hs : ∀ (C : Addr) (cl : List (Str × Addr)), (assignEach (e :: es) (compEnvC scope cl C X.env)).map (·.2) = assign e (compEnvC scope cl C X.env) :: (assignEach es (compEnvC scope cl C X.env)).map (·.2) := by intro _ _; rfl) : XGbs G X scope (e :: es) (yCons t u) (s1 ++ s2) := by
  obtain ⟨m1, t1, p1, q1⟩ := h1
  obtain ⟨m2, t2, p2, q2⟩ := h2
  refine ⟨fun ds E g Q Q' hq ⟨d, r, e, q⟩ => ⟨d, r, e, m1 _ _ _ _ _ (fun E' q => m2 _ _ _ _ _ hq q) q⟩, gCons t1 t2, fun s H C cl fp => pgs_cons (p1 s H C cl fp) (p2 s H C cl fp) (hs C cl), fun w g xs ds σ E as Q j r rv ⟨d, dr, e, q⟩ => ?_⟩
  subst e
  cases rv with
  | cons hv hr =>
    refine ⟨_, _, rfl, q1 w g _ _ σ E as _ j r (.of hv) (m1 _ _ _ _ _ (fun E' q' σ' bs hb tc r' => ?_) q)⟩
    refine q2 w g _ _ σ' E' bs _ j r' hr (m2 _ _ _ _ _ (fun E2 q2' σ2 cs hc tc2 r2 => ?_) q')
    exact q2' σ2 cs (fun a h => hb a (hc a h)) (tc.trans tc2) r2
theorem xgb_tup {es : List Expr} {k : Nat} {t : TTs} {n : Nat} {p : Pos} (hc : X.calm = true) (h : XGbs G X scope es t sl)
    (hn : ∀ (C : Addr) (cl : List (Str × Addr)), (assignEach es (compEnvC scope cl C X.env)).length = n := by intro _ _; rfl) (hst : ∀ (C : Addr) (cl : List (Str × Addr)), (assignEach es (compEnvC scope cl C X.env)).findIdx? (·.1) = none := by intro _ _; rfl) : XGb G X b scope (.Tuple es k p) (yTup n t) sl := by
  obtain ⟨m, tt, p, q⟩ := h
  refine ⟨fun d E g Q Q' hq ⟨ds, e, l, q⟩ => ⟨ds, e, l, m _ _ _ _ _ hq q⟩, gTup X.K n tt, fun s H C cl fp => pg_tup hc (p s H C cl fp) (hn C cl) (hst C cl), fun w g x d σ E as Q j r rv ⟨ds, e, l, z⟩ => ?_⟩
  subst e
  rcases rv with rv | ⟨_, a, xs, ds', e1, e2, hT, hr⟩
  · cases rv with
    | tup hT hr => exact ⟨_, _, rfl, hT.sq, by rw [hr.len]; exact l, q w g _ _ σ E as Q j r hr z⟩
  · subst e1
    cases e2
    exact ⟨_, _, rfl, hT, by rw [hr.len]; exact l, q w g _ _ σ E as Q j r hr z⟩
theorem xe_lc (hc : X.calm = true) (hN : X.N.Nodup) (hi : XI G X b tg it t) (ok : BlkOk X.N X.env.scope scope own) (hg : XGb G X b scope tg y sl) (hsl : ∀ i ∈ sl, i ∈ own.map (·.2))
    (ht : ∀ (s : Shared) (H : Hp) (C : Addr) (cl : List (Str × Addr)) (fp : List Addr), XTs G (X.blk s H scope (compEnvC scope cl C X.env) fp) ifs tt)
    (he : ∀ (s : Shared) (H : Hp) (C : Addr) (cl : List (Str × Addr)) (fp : List Addr), XE G (X.blk s H scope (compEnvC scope cl C X.env) fp) elt te)
    (hs : ∀ x, foldedSetIterable it X.env x = pure x := by intro _; rfl) : XE G X (.ListComp elt [⟨tg, it, ifs, 0⟩] scope pos) (xComp t y tt te (own.map (·.2))) := by
  obtain ⟨my, gt, pg, qg⟩ := hg
  have hmt := (ht X.s_0 X.H_0 0 [] []).mo
  have hme := (he X.s_0 X.H_0 0 [] []).mo
  exact ⟨comp_mo hi my hmt hme _, (pe_lc hc hN hi.pi ok pg (te := lift X.K G te) (tt := liftC X.K G tt) (fun s H C cl fp => (ht s H C cl fp).pts) (fun s H C cl fp => (he s H C cl fp).pe) hs).imp (comp_to hi ⟨gt, qg, trivial⟩ gt qg my hmt hme _ hsl)⟩
/-- name = [..] -/
theorem xs_setLc (i : Nat) {yn : Str} {py spos : Pos} (hc : X.calm = true) (hN : X.N.Nodup) (hy : X.N[i]? = some yn) (hyl : X.env.scope.names.lookup yn = some .local)
    (hsw : swapsWith (.ListComp elt [⟨tg, it, ifs, 0⟩] scope pos) (some (.Name yn py)) spos.line X.env = pure true) (hi : XI G X b tg it t) (ok : BlkOk X.N X.env.scope scope own) (hg : XGb G X b scope tg y sl) (hsl : ∀ i ∈ sl, i ∈ own.map (·.2))
    (ht : ∀ (s : Shared) (H : Hp) (C : Addr) (cl : List (Str × Addr)) (fp : List Addr), XTs G (X.blk s H scope (compEnvC scope cl C X.env) fp) ifs tt)
    (he : ∀ (s : Shared) (H : Hp) (C : Addr) (cl : List (Str × Addr)) (fp : List Addr), XE G (X.blk s H scope (compEnvC scope cl C X.env) fp) elt te)
    (hs : ∀ x, foldedSetIterable it X.env x = pure x := by intro _; rfl) : XS G X (.Assign [.Name yn py] (.ListComp elt [⟨tg, it, ifs, 0⟩] scope pos) spos) (xAsg (xComp t y tt te (own.map (·.2))) (yName i)) := by
  obtain ⟨my, gt, pg, qg⟩ := hg
  have hmt := (ht X.s_0 X.H_0 0 [] []).mo
  have hme := (he X.s_0 X.H_0 0 [] []).mo
  have mo := comp_mo (vs := own.map (·.2)) hi my hmt hme
  refine ⟨fun k k' E g h q => mo _ _ _ _ (fun d g1 q1 => h.nx _ _ q1) q, (ps_setLc hc hN hy hyl hsw hi.pi ok pg (te := lift X.K G te) (tt := liftC X.K G tt) (fun s H C cl fp => (ht s H C cl fp).pts) (fun s H C cl fp => (he s H C cl fp).pe) hs).imp fun D σ H ⟨cl, E, g, as, j, go, r, z⟩ => ?_⟩
  refine comp_to hi ⟨gt, qg, trivial⟩ gt qg my hmt hme _ hsl σ H (fun x H1 => gName i x σ H1 D.nx) ⟨cl, E, g, as, j, r, mo _ _ _ _ (fun d g1 z1 u v go1 j1 rv => ?_) z⟩
  obtain ⟨bs, r1, hb⟩ := (r.go go1).set i rv
  exact z1 u _ bs j1 (go.trans go1) go1.pu r1
end
/-! ### a def -/
@[simp] def envOf (N : List Str) (ss : List S) : List S := ss ++ List.replicate (N.length - ss.length) .un
theorem envR_un {K : PySem.W.Frag} {G : Ct} {w : Wd} : ∀ n : Nat, EnvR K G w (List.replicate n .un) (List.replicate n none) []
  | 0 => .nil
  | n + 1 => .un none (envR_un n)
theorem envR_start {K : PySem.W.Frag} {G : Ct} {w : Wd} {N : List Str} {vs : List V} {ss : List S} (h : RvA K G.am w vs ss) (k : Nat) : EnvR K G w (ss ++ List.replicate k .un) (vs.map some ++ List.replicate k none) [] := by
  induction h with
  | nil => exact envR_un k
  | v h _ ih => exact .v h ih
  | tok _ ih => exact .tok ih
section
variable {P : Program} {w : World} {K : PySem.W.Frag} {mg : Str → Option Value} {base : Heap} {G : Ct}
theorem fn_ok {x qual : Str} {st : Stmt} {f : Addr} {fd : FuncData} {N ps : List Str} {k n : Nat} {pt : PT'} (F : Fun K x qual st f fd) (Sc : FnScope N ps (defScope st)) (hn : n = ps.length)
    (mo : ∀ ss g Q Q', (∀ d g', Q d g' → Q' d g') → pt ss g Q → pt ss g Q')
    (body : ∀ (u : Wd) (X : Cx) (cdv : Value) (A : Around) (outer : List Env) (s : Shared) (H : Hp) (E : XK), X = (cxOf CX0 P w K mg base N qual (defScope st) f cdv A outer s H E).nox → Room k X.A → ∃ tb, XSs (G.at u) X (defBody st) tb ∧
      ∀ ss g Q, ss.length = n → pt ss g Q → tb { nx := fun _ g' => Q .none g', rt := Q } (envOf N ss) g) : FnOk P w K mg base CX0 (k + 1) f fd ps (spD K G.am G.J n pt) := by
  refine F.ok Sc (fun vs H Q E ⟨cl, g, ss, l, _⟩ => l.trans hn) fun cdv A outer s H vs Q E hr ⟨cl, g, ss, l, j, r, q⟩ => ?_
  obtain ⟨tb, b, sp⟩ := body ⟨H, cl⟩ _ cdv A outer s H E rfl hr
  refine ⟨_, b.ps, cl, envOf N ss, g, [], j, Go.refl _, ?_, b.mo { nx := fun _ g' => (fun d g' => ∀ u v, Go ⟨H, cl⟩ u → G.J g' u → Rv K u v d → Q v u.H) .none g', rt := fun d g' => ∀ u v, Go ⟨H, cl⟩ u → G.J g' u → Rv K u v d → Q v u.H } _ _ _ ⟨fun E1 g1 q1 u σ as j1 go1 p1 r1 => q1 u .non go1 j1 .non, fun d g1 q1 u v j1 go1 rv => q1 u v go1 j1 rv, fun E1 g1 q1 => q1.elim, fun E1 g1 q1 => q1.elim⟩ (sp ss g _ (by rw [← r.len]; exact l) q)⟩
  have e : N.length - vs.length = N.length - ss.length := by rw [r.len]
  show EnvR _ _ _ (ss ++ _) (vs.map some ++ List.replicate (N.length - vs.length) none) []
  rw [e]
  exact envR_start (G := G.at ⟨H, cl⟩) (N := N) r _
end
end TL
namespace TL
open PySem PySem.Spec PyProof.Rows L2
section
variable {G : Ct} {X : Cx} {K : PySem.W.Frag}
/-! ### operations by data -/
def oI (f : Int → Int → PyData) : OD := fun d e g Q => match d, e with
  | .int i, .int j => Q (f i j) g
  | _, _ => False
theorem od_I {f : Int → Int → Int} : OpD G K (rI0 fun i j => .int (f i j)) (oI fun i j => .int (f i j)) := by
  refine ⟨fun d e g Q Q' hq q => ?_, fun w g x y d e Q j rx ry q => ?_⟩
  · unfold oI at *; split at q <;> first | exact hq _ _ q | exact q
  · unfold oI at q
    split at q
    · cases rx; cases ry
      exact ⟨_, _, rfl, rfl, q w _ (Go.refl w) j (.int _)⟩
    · exact q.elim
theorem od_IB {f : Int → Int → Bool} : OpD G K (rI0 fun i j => .bl (f i j)) (oI fun i j => .bool (f i j)) := by
  refine ⟨fun d e g Q Q' hq q => ?_, fun w g x y d e Q j rx ry q => ?_⟩
  · unfold oI at *; split at q <;> first | exact hq _ _ q | exact q
  · unfold oI at q
    split at q
    · cases rx; cases ry
      exact ⟨_, _, rfl, rfl, q w _ (Go.refl w) j (.bl _)⟩
    · exact q.elim
def oIC (C : Int → Int → Prop) (f : Int → Int → PyData) : OD := fun d e g Q => match d, e with
  | .int i, .int j => C i j ∧ Q (f i j) g
  | _, _ => False
theorem od_IC {C : Int → Int → Prop} {f : Int → Int → Int} : OpD G K (rI C fun i j => .int (f i j)) (oIC C fun i j => .int (f i j)) := by
  refine ⟨fun d e g Q Q' hq q => ?_, fun w g x y d e Q j rx ry q => ?_⟩
  · unfold oIC at *; split at q <;> first | exact ⟨q.1, hq _ _ q.2⟩ | exact q
  · unfold oIC at q
    split at q
    · cases rx; cases ry
      exact ⟨_, _, rfl, rfl, q.1, q.2 w _ (Go.refl w) j (.int _)⟩
    · exact q.elim
/-- + of ints, texts, tuples, lists -/
def oAdd : OD := fun d e g Q => match d, e with
  | .int i, .int j => Q (.int (i + j)) g
  | .str x, .str y => x.length + y.length ≤ sizeLine ∧ Q (.str (x ++ y)) g
  | .tuple xs, .tuple ys => xs.length + ys.length ≤ sizeLine ∧ Q (.tuple (xs ++ ys)) g
  | .list xs, .list ys => xs.length + ys.length ≤ sizeLine ∧ Q (.list (xs ++ ys)) g
  | _, _ => False
def rAddS : R2 := fun x y H Q => ∃ i j, x = .str i ∧ y = .str j ∧ i.length + j.length ≤ sizeLine ∧ Q (.str (i ++ j)) H
/-- + of two lists that are read -/
def rCatL (K : PySem.W.Frag) : R2 := fun x y H Q => ∃ a b xs ys, x = .ref a ∧ y = .ref b ∧ SqL K H a xs ∧ SqL K H b ys ∧ xs.length + ys.length ≤ sizeLine ∧ ∀ p, H p = none → Q (.ref p) (upd H p (.lst (xs ++ ys)))
def rCatF (K : PySem.W.Frag) : R2 := fun x y H Q => ∃ a b xs ys, x = .ref a ∧ y = .ref b ∧ SqT K H a xs ∧ SqT K H b ys ∧ xs.length + ys.length ≤ sizeLine ∧
  (xs = [] → Q (.ref b) H) ∧ (xs ≠ [] → ys = [] → Q (.ref a) H) ∧ (xs ≠ [] → ys ≠ [] → ∀ p o, H p = none → o.dict = none → Q (.ref p) (upd H p (tupO o (xs ++ ys))))
abbrev rAdd (K : PySem.W.Frag) : R2 := fun x y H Q => rI0 (fun i j => .int (i + j)) x y H Q ∨ (rAddS x y H Q ∨ (rCatF K x y H Q ∨ rCatL K x y H Q))
theorem od_add : OpD G K (rAdd K) oAdd := by
  refine ⟨fun d e g Q Q' hq q => ?_, fun w g x y d e Q j rx ry q => ?_⟩
  · unfold oAdd at *; split at q <;> first | exact hq _ _ q | exact ⟨q.1, hq _ _ q.2⟩ | exact q
  · unfold oAdd at q
    split at q
    · cases rx; cases ry
      exact .inl ⟨_, _, rfl, rfl, q w _ (Go.refl w) j (.int _)⟩
    · cases rx; cases ry
      exact .inr (.inl ⟨_, _, rfl, rfl, q.1, q.2 w _ (Go.refl w) j (.str _)⟩)
    · rename_i xs ys
      have rx' := rx
      have ry' := ry
      cases rx with
      | @tup a vs _ h r =>
        cases ry with
        | @tup b us _ h' r' =>
          refine .inr (.inr (.inl ⟨a, b, vs, us, rfl, rfl, h.sq, h'.sq, by rw [r.len, r'.len]; exact q.1, fun e => ?_, fun e1 e2 => ?_, fun e1 e2 p o np hd => ?_⟩))
          · subst e; cases r; exact q.2 w _ (Go.refl w) j ry'
          · subst e2; cases r'
            exact q.2 w _ (Go.refl w) j (by rw [List.append_nil]; exact rx')
          · exact q.2 (w.new p (tupO o (vs ++ us)) 0) _ (Go.new' np 0) (G.st0 (Go0.new np 0) j) (new_tup np hd (r.app r'))
    · cases rx with
      | @lst a vs _ h r =>
        cases ry with
        | @lst b us _ h' r' =>
          refine .inr (.inr (.inr ⟨a, b, vs, us, rfl, rfl, h.sq, h'.sq, by rw [r.len, r'.len]; exact q.1, fun p np => ?_⟩))
          exact q.2 (w.new p (.lst (vs ++ us)) 0) _ (Go.new' np 0) (G.st0 (Go0.new np 0) j) (new_lst np (r.app r'))
    · exact q.elim
theorem op_addS : OpR X (binaryOp .Add) rAddS := by
  intro pins s σ H x y v u Q I rx ry ⟨i, j, e1, e2, z, q⟩
  refine op_add_str pins s σ H x y v u Q I rx ry ?_
  first
    | exact ⟨i, j, e1, e2, z, q⟩
    | exact ⟨i, j, e1, e2, q⟩
theorem op_catL : OpR X (binaryOp .Add) (rCatL X.K) := by
  intro pins s σ H x y v u Q I rx ry ⟨a, b, xs, ys, e1, e2, ha, hb, hz, q⟩
  subst e1 e2
  cases rx
  cases ry
  obtain ⟨its, r1, ⟨⟨cls, dd, data, sl⟩, n, ho, hc, hd0, hd⟩, _⟩ := I.list ha
  obtain ⟨its2, r2, ⟨⟨cls2, dd2, data2, sl2⟩, n2, ho2, hc2, hd02, hd2⟩, _⟩ := I.list hb
  simp only at hc hd hc2 hd2
  subst hc hd hc2 hd2
  have l1 := r1.length
  have l2 := r2.length
  have e : its.toArray ++ its2.toArray = (its ++ its2).toArray := by simp
  refine concat_meets ⟨_, ho, rfl⟩ ⟨_, ho2, rfl⟩ noFill_list_add seq_list_add PySem.F.slot_list_add PySem.F.entry_list_add (PySem.F.args_list_add_2 _ _) (list_addW a b its.toArray its2.toArray n n2 dd dd2 sl sl2 (by simp; omega)) ⟨ho, ho2, ?_⟩
  rw [e]
  exact ⟨.ref _, _, I.lnew (t' := s.toks) (r1.append r2) (by rw [List.length_append]; omega), rfl, q _ I.fresh⟩
theorem op_catF : OpR X (binaryOp .Add) (rCatF X.K) := by
  intro pins s σ H x y v u Q I rx ry ⟨a, b, xs, ys, e1, e2, ha, hb, hz, q0, q1, q2⟩
  subst e1 e2
  cases rx
  cases ry
  obtain ⟨its, r1, p1, _⟩ := I.tuple ha
  obtain ⟨its2, r2, p2, _⟩ := I.tuple hb
  by_cases hx : xs = []
  · subst hx
    cases r1
    exact cat_tup0 p1 p2 ⟨.ref b, H, I, rfl, q0 rfl⟩
  · refine HT.cat_tup p1 p2 (fun z => hx (r1.nil_iff.mp z)) (fun z => ⟨.ref a, H, I, rfl, q1 hx (r2.nil_iff.mp z)⟩) (fun z => ?_) (by rw [← r1.length, ← r2.length]; exact hz)
    exact ⟨.ref s.heap.objs.size, _, laid_tup I (r1.append r2) (by rw [List.length_append]; exact hz), rfl, q2 hx (fun w => z (r2.nil_iff.mpr w)) _ _ (I.hok.fresh (Nat.le_refl _)) rfl⟩
theorem op_addAll : OpR X (binaryOp .Add) (rAdd X.K) := op_add.or (op_addS.or (op_catF.or op_catL))
/-- t[lo:hi] -/
def rSlF (K : PySem.W.Frag) : V → Option Int → Option Int → Hp → VK → Prop := fun x lo hi H Q => ∃ a xs, x = .ref a ∧ SqT K H a xs ∧
  (HT.sIx xs.length 0 lo = 0 ∧ HT.sIx xs.length xs.length hi = xs.length → Q (.ref a) H) ∧ (¬ (HT.sIx xs.length 0 lo = 0 ∧ HT.sIx xs.length xs.length hi = xs.length) → ∀ p o, H p = none → o.dict = none → Q (.ref p) (upd H p (tupO o (cutV xs lo hi))))
theorem sl_tupF : SlR X (rSlF X.K) := by
  intro pins s σ H x v vl vu lo hi sl Q I rx hs pl pu ⟨a, xs, e1, hx, q1, q2⟩
  subst e1
  by_cases hw : HT.sIx xs.length 0 lo = 0 ∧ HT.sIx xs.length xs.length hi = xs.length
  · exact sl_tupA pins s σ H _ v vl vu lo hi sl Q I rx hs pl pu ⟨a, xs, rfl, hx, q1, fun z => absurd hw z⟩
  · cases rx
    obtain ⟨its, r, ht, hz⟩ := I.tuple hx
    have hlen : its.toArray.size = xs.length := by rw [List.size_toArray]; exact r.length.symm
    refine ⟨"tuple", _, PyProof.Rows.slot_tuple_getitem.lookup, ht.typeIs, ?_⟩
    refine HT.getItem_tuple_cut ht hs pl pu (by rw [hlen]; exact hw) ?_ (by rw [hlen]; exact hz)
    rw [hlen]
    have rc : Vals (cutV xs lo hi) ((its.drop (HT.sIx xs.length 0 lo)).take (HT.sIx xs.length xs.length hi - HT.sIx xs.length 0 lo)) := (r.drop _).take _
    exact ⟨.ref s.heap.objs.size, _, laid_tup I rc (Nat.le_trans (cutV_length xs lo hi) hz), rfl, q2 hw _ _ (I.hok.fresh (Nat.le_refl _)) rfl⟩
theorem call_tupF : CallR X (.type "tuple") (fun xs H Q => ∃ p ys, xs = [.ref p] ∧ ((SqL X.K H p ys ∧ ∀ l o, H l = none → o.dict = none → Q (.ref l) (upd H l (tupO o ys))) ∨ (SqT X.K H p ys ∧ Q (.ref p) H))) := by
  intro pins s σ H xs us Q I r ⟨p, ys, e1, h⟩
  subst e1
  rcases h with ⟨hq, q⟩ | ⟨hq, q⟩
  · obtain ⟨u, e2, rx⟩ := vals1 r
    subst e2
    cases rx
    obtain ⟨its, r', pl, hz⟩ := I.list hq
    have hlen := r'.length
    refine call_tuple_list pl.isList (fun h' kp => ?_) (by simp only [List.size_toArray] <;> omega)
    have I1 : Inv X pins σ H { s with heap := h' } := I.kept (t' := s.toks) kp
    exact ⟨.ref h'.objs.size, _, laid_tup I1 r' hz, rfl, q _ _ (I1.hok.fresh (Nat.le_refl _)) rfl⟩
  · exact call_tuple_of pins s σ H _ us Q I r ⟨p, ys, rfl, .inr ⟨hq, q⟩⟩
variable {a b c e : Expr} {ta tb tc te : TX} {pos : Pos}
theorem xe_add (ha : XE G X a ta) (hb : XE G X b tb) : XE G X (.BinOp a .Add b pos) (xBin ta tb oAdd) := xe_op op_addAll od_add ha hb
@[simp] def oSub : OD := oI fun i j => .int (i - j)
@[simp] def oMul : OD := oIC (fun i j => (-(2 ^ 64) < i ∧ i < 2 ^ 64) ∨ (-(2 ^ 64) < j ∧ j < 2 ^ 64)) fun i j => .int (i * j)
@[simp] def oDiv : OD := oIC (fun _ j => 0 < j ∧ j < 1073741824) fun i j => .int (i / j)
@[simp] def oMod : OD := oIC (fun _ j => 0 < j) fun i j => .int (i % j)
@[simp] def oPow : OD := oIC (fun i j => 0 ≤ j ∧ j ≤ 1000000 ∧ i.natAbs < 2 ^ 64) fun i j => .int (i ^ j.toNat)
theorem xe_sub (ha : XE G X a ta) (hb : XE G X b tb) : XE G X (.BinOp a .Sub b pos) (xBin ta tb oSub) := xe_op op_sub od_I ha hb
theorem xe_mul (ha : XE G X a ta) (hb : XE G X b tb) : XE G X (.BinOp a .Mult b pos) (xBin ta tb oMul) := xe_op op_mul od_IC ha hb
theorem xe_div (ha : XE G X a ta) (hb : XE G X b tb) : XE G X (.BinOp a .FloorDiv b pos) (xBin ta tb oDiv) := xe_op op_fdiv od_IC ha hb
theorem xe_mod (ha : XE G X a ta) (hb : XE G X b tb) : XE G X (.BinOp a .Mod b pos) (xBin ta tb oMod) := xe_op op_mod od_IC ha hb
theorem xe_pow (ha : XE G X a ta) (hb : XE G X b tb) : XE G X (.BinOp a .Pow b pos) (xBin ta tb oPow) := xe_op op_pow od_IC ha hb
@[simp] def oLt : OD := oI fun i j => .bool (decide (i < j))
@[simp] def oLe : OD := oI fun i j => .bool (decide (i ≤ j))
@[simp] def oGt : OD := oI fun i j => .bool (decide (j < i))
@[simp] def oGe : OD := oI fun i j => .bool (decide (j ≤ i))
/-- the operations, with their rules, for comparisons -/
structure CO (G : Ct) (X : Cx) (op : CmpOp) (od : OD) : Prop where
  ex : ∃ r, OpR X (compareOp op) r ∧ OpD G X.K r od
theorem co_lt : CO G X .Lt oLt := ⟨_, op_lt, od_IB⟩
theorem co_le : CO G X .LtE oLe := ⟨_, op_le, od_IB⟩
theorem co_gt : CO G X .Gt oGt := ⟨_, op_gt, od_IB⟩
theorem co_ge : CO G X .GtE oGe := ⟨_, op_ge, od_IB⟩
/-- == of data without dicts -/
@[simp] def oEq : OD := fun d e g Q => (noDict d = true ∧ noDict e = true ∧ SeqAt.shaped d = true ∧ SeqAt.shaped e = true) ∧ Q (.bool (PyData.eqv d e)) g
@[simp] def oNe : OD := fun d e g Q => (noDict d = true ∧ noDict e = true ∧ SeqAt.shaped d = true ∧ SeqAt.shaped e = true) ∧ Q (.bool (!PyData.eqv d e)) g
theorem od_eq : OpD G K (rEqD K) oEq :=
  ⟨fun d e g Q Q' hq q => ⟨q.1, hq _ _ q.2⟩, fun w g x y d e Q j rx ry q => ⟨d, e, rx.dp q.1.1, ry.dp q.1.2.1, q.1.2.2.1, q.1.2.2.2, q.2 w _ (Go.refl w) j (.bl _)⟩⟩
theorem od_ne : OpD G K (rNeD K) oNe :=
  ⟨fun d e g Q Q' hq q => ⟨q.1, hq _ _ q.2⟩, fun w g x y d e Q j rx ry q => ⟨d, e, rx.dp q.1.1, ry.dp q.1.2.1, q.1.2.2.1, q.1.2.2.2, q.2 w _ (Go.refl w) j (.bl _)⟩⟩
theorem co_eq (hu : X.A.units + 64 < cLine) : CO G X .Eq oEq := ⟨_, op_eqD hu, od_eq⟩
theorem co_ne (hu : X.A.units + 64 < cLine) : CO G X .NotEq oNe := ⟨_, op_neD hu, od_ne⟩
/-- x in a tuple, in a list -/
@[simp] def oIn : OD := fun d e g Q => ∃ ds, (e = .list ds ∨ e = .tuple ds) ∧ (noDict d = true ∧ noDicts ds = true ∧ SeqAt.shaped d = true ∧ SeqAt.shaped (.tuple ds) = true) ∧ Q (.bool (ds.any fun z => PyData.eqv z d)) g
@[simp] def oNotIn : OD := fun d e g Q => ∃ ds, (e = .list ds ∨ e = .tuple ds) ∧ (noDict d = true ∧ noDicts ds = true ∧ SeqAt.shaped d = true ∧ SeqAt.shaped (.tuple ds) = true) ∧ Q (.bool (!ds.any fun z => PyData.eqv z d)) g
def rInT (K : PySem.W.Frag) (neg : Bool) : R2 := fun x y H Q => ∃ d ds, Dp K H x d ∧ (Dp K H y (.list ds) ∨ Dp K H y (.tuple ds)) ∧ SeqAt.shaped d = true ∧ SeqAt.shaped (.tuple ds) = true ∧ Q (.bl (if neg then !ds.any fun z => PyData.eqv z d else ds.any fun z => PyData.eqv z d)) H
theorem shaped_lt (ds : List PyData) : SeqAt.shaped (.tuple ds) = SeqAt.shaped (.list ds) := rfl
theorem op_inT (hu : X.A.units + 65 < cLine) : OpR X (compareOp .In) (rInT X.K false) := by
  intro pins s σ H x y v u Q I rx ry ⟨d, ds, hd, he, sd, se, q⟩
  obtain ⟨as, r1⟩ := Dp.reads I d x v hd rx
  rcases he with he | he
  · obtain ⟨bs, r2⟩ := Dp.reads I (.list ds) y u he ry
    exact SeqAt.in_list_reads r2 r1 (SeqAt.canLay_of_shaped se) (SeqAt.canLay_of_shaped sd) (room_in_shaped sd hu) ⟨.bl _, H, I, rfl, q⟩
  · obtain ⟨bs, r2⟩ := Dp.reads I (.tuple ds) y u he ry
    exact SeqAt.in_tuple_reads r2 r1 (SeqAt.canLay_of_shaped se) (SeqAt.canLay_of_shaped sd) (room_in_shaped sd hu) ⟨.bl _, H, I, rfl, q⟩
theorem op_notInT (hu : X.A.units + 65 < cLine) : OpR X (compareOp .NotIn) (rInT X.K true) := by
  intro pins s σ H x y v u Q I rx ry ⟨d, ds, hd, he, sd, se, q⟩
  obtain ⟨as, r1⟩ := Dp.reads I d x v hd rx
  rcases he with he | he
  · obtain ⟨bs, r2⟩ := Dp.reads I (.list ds) y u he ry
    exact SeqAt.notIn_list_reads r2 r1 (SeqAt.canLay_of_shaped se) (SeqAt.canLay_of_shaped sd) (room_in_shaped sd hu) ⟨.bl _, H, I, rfl, q⟩
  · obtain ⟨bs, r2⟩ := Dp.reads I (.tuple ds) y u he ry
    exact SeqAt.notIn_tuple_reads r2 r1 (SeqAt.canLay_of_shaped se) (SeqAt.canLay_of_shaped sd) (room_in_shaped sd hu) ⟨.bl _, H, I, rfl, q⟩
theorem od_in : OpD G K (rInT K false) oIn := by
  refine ⟨fun d e g Q Q' hq ⟨ds, e1, h, q⟩ => ⟨ds, e1, h, hq _ _ q⟩, fun w g x y d e Q j rx ry ⟨ds, e1, h, q⟩ => ⟨d, ds, rx.dp h.1, ?_, h.2.2.1, h.2.2.2, q w _ (Go.refl w) j (.bl _)⟩⟩
  rcases e1 with e1 | e1
  · subst e1; exact .inl (ry.dp (by simpa [noDict] using h.2.1))
  · subst e1; exact .inr (ry.dp (by simpa [noDict] using h.2.1))
theorem od_notIn : OpD G K (rInT K true) oNotIn := by
  refine ⟨fun d e g Q Q' hq ⟨ds, e1, h, q⟩ => ⟨ds, e1, h, hq _ _ q⟩, fun w g x y d e Q j rx ry ⟨ds, e1, h, q⟩ => ⟨d, ds, rx.dp h.1, ?_, h.2.2.1, h.2.2.2, q w _ (Go.refl w) j (.bl _)⟩⟩
  rcases e1 with e1 | e1
  · subst e1; exact .inl (ry.dp (by simpa [noDict] using h.2.1))
  · subst e1; exact .inr (ry.dp (by simpa [noDict] using h.2.1))
theorem co_in (hu : X.A.units + 65 < cLine) : CO G X .In oIn := ⟨_, op_inT hu, od_in⟩
theorem co_notIn (hu : X.A.units + 65 < cLine) : CO G X .NotIn oNotIn := ⟨_, op_notInT hu, od_notIn⟩
@[simp] def isN : PyData → Bool
  | .none => true
  | _ => false
/-- is None -/
@[simp] def oIsN : OD := fun d e g Q => e = .none ∧ Q (.bool (isN d)) g
@[simp] def oNotN : OD := fun d e g Q => e = .none ∧ Q (.bool (!(isN d))) g
theorem rv_none {w : Wd} {v : V} {d : PyData} (r : Rv K w v d) : decide (v = .non) = (isN d) := by
  cases r <;> rfl
theorem co_isN : CO G X .Is oIsN := ⟨_, op_isN, ⟨fun d e g Q Q' hq q => ⟨q.1, hq _ _ q.2⟩, fun w g x y d e Q j rx ry q => by
  obtain ⟨e1, q⟩ := q
  subst e1
  cases ry
  refine ⟨rfl, ?_⟩
  rw [rv_none rx]
  exact q w _ (Go.refl w) j (.bl _)⟩⟩
theorem co_notN : CO G X .IsNot oNotN := ⟨_, op_notN, ⟨fun d e g Q Q' hq q => ⟨q.1, hq _ _ q.2⟩, fun w g x y d e Q j rx ry q => by
  obtain ⟨e1, q⟩ := q
  subst e1
  cases ry
  refine ⟨rfl, ?_⟩
  rw [rv_none rx]
  exact q w _ (Go.refl w) j (.bl _)⟩⟩
theorem xe_co {op : CmpOp} {od : OD} (h : CO G X op od) (ha : XE G X a ta) (hb : XE G X b tb) (hm : behindInMarks op b = false) : XE G X (.Compare a [op] [b] pos) (xBin ta tb od) :=
  let ⟨_, h1, h2⟩ := h.ex; xe_cmp h1 h2 ha hb hm
theorem xc_co {op : CmpOp} {od : OD} (h : CO G X op od) (ha : XE G X a ta) (hb : XE G X b tb) (hm : behindInMarks op b = false) : XC G X (.Compare a [op] [b] pos) (xTest (xBin ta tb od)) :=
  let ⟨_, h1, h2⟩ := h.ex; xc_cmp h1 h2 ha hb hm
/-- a op b op' c -/
@[simp] def xChain (ta tb tc : TX) (od od' : OD) : TX := fun E g Q => ta E g fun d g1 => tb E g1 fun e g2 => od d e g2 fun z g3 => ∃ k, z = .bool k ∧ (if k = true then tc E g3 fun f g4 => od' e f g4 Q else Q (.bool false) g3)
theorem chain_mo {op op' : CmpOp} {od od' : OD} (h : CO G X op od) (h' : CO G X op' od') (ha : XE G X a ta) (hb : XE G X b tb) (hc : XE G X c tc) : ∀ E g Q Q', (∀ d g', Q d g' → Q' d g') → xChain ta tb tc od od' E g Q → xChain ta tb tc od od' E g Q' := by
  obtain ⟨r, h1, h2⟩ := h.ex
  obtain ⟨r', h1', h2'⟩ := h'.ex
  intro E g Q Q' hq q
  refine ha.mo _ _ _ _ (fun d g1 q1 => hb.mo _ _ _ _ (fun e g2 q2 => h2.mo _ _ _ _ _ (fun z g3 ⟨k, ek, q3⟩ => ⟨k, ek, ?_⟩) q2) q1) q
  cases k with
  | true => exact hc.mo _ _ _ _ (fun f g4 q4 => h2'.mo _ _ _ _ _ hq q4) q3
  | false => exact hq _ _ q3
theorem xe_chain {op op' : CmpOp} {od od' : OD} (h : CO G X op od) (h' : CO G X op' od') (ha : XE G X a ta) (hb : XE G X b tb) (hc : XE G X c tc) (hm : lastMarks [op, op'] [b, c] = false := by with_unfolding_all rfl) : XE G X (.Compare a [op, op'] [b, c] pos) (xChain ta tb tc od od') := by
  refine ⟨chain_mo h h' ha hb hc, ?_⟩
  obtain ⟨r, h1, h2⟩ := h.ex
  obtain ⟨r', h1', h2'⟩ := h'.ex
  refine (pe_chain h1 h1' ha.pe hb.pe hc.pe hm).imp fun σ H Q ⟨cl, E, g, as, j, rE, q⟩ => ?_
  refine ⟨cl, E, g, as, j, rE, ha.mo _ _ _ _ (fun d g1 q1 u v go1 j1 rv1 => ?_) q⟩
  refine ⟨u.cl, E, g1, as, j1, rE.go go1, hb.mo _ _ _ _ (fun e g2 q2 u2 v2 go2 j2 rv2 => ?_) q1⟩
  refine h2.to u2 g2 v v2 d e _ j2 (rv1.go go2) rv2 (h2.mo _ _ _ _ _ (fun z g3 ⟨k, ek, q3⟩ u3 v3 go3 j3 rv3 => ?_) q2)
  subst ek
  cases rv3
  refine ⟨k, rfl, ?_⟩
  cases k with
  | false => exact q3 u3 _ ((go1.trans go2).trans go3) j3 (.bl _)
  | true =>
    refine ⟨u3.cl, E, g3, as, j3, rE.go ((go1.trans go2).trans go3), hc.mo _ _ _ _ (fun f g4 q4 u4 v4 go4 j4 rv4 => ?_) q3⟩
    exact h2'.to u4 g4 v2 v4 e f _ j4 ((rv2.go go3).go go4) rv4 (h2'.mo _ _ _ _ _ (fun z g5 q5 u5 v5 go5 j5 rv5 => q5 u5 v5 ((((go1.trans go2).trans go3).trans go4).trans go5) j5 rv5) q4)
theorem xc_chain {op op' : CmpOp} {od od' : OD} (h : CO G X op od) (h' : CO G X op' od') (ha : XE G X a ta) (hb : XE G X b tb) (hc : XE G X c tc) (hm : lastMarks [op, op'] [b, c] = false := by with_unfolding_all rfl) : XC G X (.Compare a [op, op'] [b, c] pos) (xTest (xChain ta tb tc od od')) := by
  have mo := chain_mo h h' ha hb hc
  refine ⟨xTest_mo mo, ?_⟩
  obtain ⟨r, h1, h2⟩ := h.ex
  obtain ⟨r', h1', h2'⟩ := h'.ex
  refine (pt_chain h1 h1' ha.pe hb.pe hc.pe hm).imp fun σ H Q q => ?_
  obtain ⟨cl, E, g, as, j, rE, q⟩ := xTest_to (K := X.K) mo σ H Q q
  refine ⟨cl, E, g, as, j, rE, ha.mo _ _ _ _ (fun d g1 q1 u v go1 j1 rv1 => ?_) q⟩
  refine ⟨u.cl, E, g1, as, j1, rE.go go1, hb.mo _ _ _ _ (fun e g2 q2 u2 v2 go2 j2 rv2 => ?_) q1⟩
  refine h2.to u2 g2 v v2 d e _ j2 (rv1.go go2) rv2 (h2.mo _ _ _ _ _ (fun z g3 ⟨k, ek, q3⟩ u3 v3 go3 j3 rv3 => ?_) q2)
  subst ek
  cases rv3
  refine ⟨k, rfl, ?_⟩
  cases k with
  | false => exact q3 u3 _ ((go1.trans go2).trans go3) j3 (.bl _)
  | true =>
    refine ⟨u3.cl, E, g3, as, j3, rE.go ((go1.trans go2).trans go3), hc.mo _ _ _ _ (fun f g4 q4 u4 v4 go4 j4 rv4 => ?_) q3⟩
    exact h2'.to u4 g4 v2 v4 e f _ j4 ((rv2.go go3).go go4) rv4 (h2'.mo _ _ _ _ _ (fun z g5 q5 u5 v5 go5 j5 rv5 => q5 u5 v5 ((((go1.trans go2).trans go3).trans go4).trans go5) j5 rv5) q4)
/-- -a -/
@[simp] def xNeg (ta : TX) : TX := fun E g Q => ta E g fun d g1 => ∃ i, d = .int i ∧ Q (.int (-i)) g1
theorem xe_neg (ha : XE G X a ta) : XE G X (.UnaryOp .USub a pos) (xNeg ta) := by
  refine ⟨fun E g Q Q' hq q => ha.mo _ _ _ _ (fun d g1 ⟨i, e, q1⟩ => ⟨i, e, hq _ _ q1⟩) q, (pe_un un_neg ha.pe).imp fun σ H Q ⟨cl, E, g, as, j, rE, q⟩ => ?_⟩
  refine ⟨cl, E, g, as, j, rE, ha.mo _ _ _ _ (fun d g1 ⟨i, e, q1⟩ u v go1 j1 rv1 => ?_) q⟩
  subst e
  cases rv1
  exact ⟨_, rfl, q1 u _ go1 j1 (.int _)⟩
/-! ### items, slices -/
def itemD (ds : List PyData) (i : Int) : Option PyData := atI ds i
theorem atI_rv {w : Wd} {vs : List V} {ds : List PyData} {i : Int} {d : PyData} (r : RvL K w vs ds) (h : atI ds i = some d) : ∃ v, atI vs i = some v ∧ Rv K w v d := by
  unfold atI at *
  rw [r.len]
  cases q : ixN ds.length i with
  | none => rw [q] at h; cases h
  | some k =>
    rw [q] at h
    obtain ⟨v, h1, h2⟩ := r.get (show ds[k]? = some d from h)
    exact ⟨v, h1, h2⟩
def oIx : OD := fun d e g Q => ∃ i, e = .int i ∧ ((∃ ds z, (d = .list ds ∨ d = .tuple ds) ∧ atI ds i = some z ∧ Q z g) ∨ (∃ s c, d = .str s ∧ s.length ≤ sizeLine ∧ atI s.cps.toList i = some c ∧ Q (.str ⟨#[c]⟩) g))
theorem od_ix : OpD G K (rIx K) oIx := by
  refine ⟨fun d e g Q Q' hq ⟨i, e1, q⟩ => ⟨i, e1, ?_⟩, fun w g x y d e Q j rx ry ⟨i, e1, q⟩ => ?_⟩
  · rcases q with ⟨ds, z, a1, a2, q⟩ | ⟨s, c, a1, a2, a3, q⟩
    · exact .inl ⟨ds, z, a1, a2, hq _ _ q⟩
    · exact .inr ⟨s, c, a1, a2, a3, hq _ _ q⟩
  · subst e1
    cases ry
    rcases q with ⟨ds, z, a1, a2, q⟩ | ⟨s, c, a1, a2, a3, q⟩
    · rcases a1 with a1 | a1
      · subst a1
        cases rx with
        | lst h r =>
          obtain ⟨v, h1, h2⟩ := atI_rv r a2
          exact .inl ⟨_, _, _, _, rfl, rfl, h.sq, h1, q w _ (Go.refl w) j h2⟩
      · subst a1
        cases rx with
        | tup h r =>
          obtain ⟨v, h1, h2⟩ := atI_rv r a2
          exact .inr (.inl ⟨_, _, _, _, rfl, rfl, h.sq, h1, q w _ (Go.refl w) j h2⟩)
    · subst a1
      cases rx
      exact .inr (.inr ⟨_, _, _, rfl, rfl, a2, a3, q w _ (Go.refl w) j (.str _)⟩)
theorem xe_ix (ha : XE G X a ta) (hb : XE G X b tb) (hs : PlainIx b) : XE G X (.Subscript a b pos) (xBin ta tb oIx) :=
  ⟨bin_mo ha hb od_ix, (pe_ix ix_seq ha.pe hb.pe hs).imp (bin_to ha hb od_ix)⟩
def cutD (ds : List PyData) (lo hi : Option Int) : List PyData := (ds.drop (HT.sIx ds.length 0 lo)).take (HT.sIx ds.length ds.length hi - HT.sIx ds.length 0 lo)
theorem cut_rv {w : Wd} {vs : List V} {ds : List PyData} {lo hi : Option Int} (r : RvL K w vs ds) : RvL K w (cutV vs lo hi) (cutD ds lo hi) := by
  unfold cutV cutD
  rw [r.len]
  exact (r.drop _).take _
abbrev TPo := List S → Nat → (Option Int → Nat → Prop) → Prop
structure XO (G : Ct) (X : Cx) (e : Option Expr) (t : TPo) : Prop where
  mo : ∀ E g Q Q', (∀ d g', Q d g' → Q' d g') → t E g Q → t E g Q'
  po : PO X e (fun σ H Q => ∃ cl E g as, G.J g ⟨H, cl⟩ ∧ EnvR X.K G ⟨H, cl⟩ E σ as ∧ t E g fun o g' => ∀ u, Go ⟨H, cl⟩ u → G.J g' u → Q o u.H)
@[simp] def xoNone : TPo := fun _ g Q => Q none g
@[simp] def xoSome (t : TX) : TPo := fun E g Q => t E g fun d g' => ∃ i, d = .int i ∧ Q (some i) g'
theorem _root_.L2.PO.imp {e : Option Expr} {t t' : TO} (h : PO X e t) (w : ∀ σ H Q, t' σ H Q → t σ H Q) : PO X e t' := ⟨fun pins s σ H Q I q => h.run pins s σ H Q I (w σ H Q q)⟩
theorem xo_none : XO G X none xoNone := ⟨fun E g Q Q' hq q => hq _ _ q, po_none.imp fun σ H Q ⟨cl, E, g, as, j, r, q⟩ => q ⟨H, cl⟩ (Go.refl _) j⟩
theorem xo_some (h : XE G X e te) : XO G X (some e) (xoSome te) := by
  refine ⟨fun E g Q Q' hq q => h.mo _ _ _ _ (fun d g1 ⟨i, e, q1⟩ => ⟨i, e, hq _ _ q1⟩) q, (po_some h.pe).imp fun σ H Q ⟨cl, E, g, as, j, rE, q⟩ => ?_⟩
  refine ⟨cl, E, g, as, j, rE, h.mo _ _ _ _ (fun d g1 ⟨i, e, q1⟩ u v go1 j1 rv1 => ?_) q⟩
  subst e
  cases rv1
  exact ⟨i, rfl, q1 u go1 j1⟩
def oCut (d : PyData) (lo hi : Option Int) (g : Nat) (Q : PyData → Nat → Prop) : Prop := match d with
  | .list ds => Q (.list (cutD ds lo hi)) g
  | .tuple ds => Q (.tuple (cutD ds lo hi)) g
  | _ => False
@[simp] def xSlice (te : TX) (tl th : TPo) : TX := fun E g Q => te E g fun d g1 => tl E g1 fun lo g2 => th E g2 fun hi g3 => oCut d lo hi g3 Q
theorem oCut_mo {d : PyData} {lo hi : Option Int} {g : Nat} {Q Q' : PyData → Nat → Prop} (hq : ∀ d g', Q d g' → Q' d g') (q : oCut d lo hi g Q) : oCut d lo hi g Q' := by
  unfold oCut at *
  split at q <;> first | exact hq _ _ q | exact q
theorem cut_all {ds : List PyData} {lo hi : Option Int} (h : HT.sIx ds.length 0 lo = 0 ∧ HT.sIx ds.length ds.length hi = ds.length) : cutD ds lo hi = ds := by
  unfold cutD
  rw [h.1, h.2, List.drop_zero, Nat.sub_zero, List.take_length]
theorem xe_slice {lo hi : Option Expr} {tl th : TPo} {p2 : Pos} (he : XE G X e te) (hl : XO G X lo tl) (hh : XO G X hi th) : XE G X (.Subscript e (.Slice lo hi none p2) pos) (xSlice te tl th) := by
  refine ⟨fun E g Q Q' hq q => he.mo _ _ _ _ (fun d g1 q1 => hl.mo _ _ _ _ (fun l g2 q2 => hh.mo _ _ _ _ (fun h g3 q3 => oCut_mo hq q3) q2) q1) q, (pe_slice (SlR.or sl_tupF sl_list) he.pe hl.po hh.po).imp fun σ H Q ⟨cl, E, g, as, j, rE, q⟩ => ?_⟩
  refine ⟨cl, E, g, as, j, rE, he.mo _ _ _ _ (fun d g1 q1 u v go1 j1 rv1 => ?_) q⟩
  refine ⟨u.cl, E, g1, as, j1, rE.go go1, hl.mo _ _ _ _ (fun l g2 q2 u2 go2 j2 => ?_) q1⟩
  refine ⟨u2.cl, E, g2, as, j2, rE.go (go1.trans go2), hh.mo _ _ _ _ (fun h g3 q3 u3 go3 j3 => ?_) q2⟩
  have rv3 := (rv1.go go2).go go3
  have go := (go1.trans go2).trans go3
  unfold oCut at q3
  split at q3
  · cases rv3 with
    | lst hL r => exact .inr ⟨_, _, rfl, hL.sq, fun p np => q3 (u3.new p _ 0) _ (go.trans (Go.new' np 0)) (G.st0 (Go0.new np 0) j3) (new_lst np (cut_rv r))⟩
  · have rv4 := rv3
    cases rv3 with
    | tup hT r =>
      refine .inl ⟨_, _, rfl, hT.sq, fun hw => ?_, fun hw p o np hd => q3 (u3.new p _ 0) _ (go.trans (Go.new' np 0)) (G.st0 (Go0.new np 0) j3) (new_tup np hd (cut_rv r))⟩
      rw [r.len] at hw
      refine q3 u3 _ go j3 ?_
      rw [cut_all hw]
      exact rv4
  · exact q3.elim
/-! ### built-ins by values -/
/-- what a call of a built-in gives, by data -/
abbrev CD := List PyData → Nat → (PyData → Nat → Prop) → Prop
structure CallD (G : Ct) (K : PySem.W.Frag) (r : List V → Hp → VK → Prop) (cd : CD) : Prop where
  mo : ∀ ds g Q Q', (∀ d g', Q d g' → Q' d g') → cd ds g Q → cd ds g Q'
  to : ∀ (w : Wd) (g : Nat) (vs : List V) (ds : List PyData) (Q : VK), G.J g w → RvL K w vs ds → (cd ds g fun z g' => ∀ u v, Go w u → G.J g' u → Rv K u v z → Q v u.H) → r vs w.H Q
@[simp] def xCB (t : TL') (cd : CD) : TX := fun E g Q => t E g fun ss g1 => ∃ ds, dsOf ss = some ds ∧ cd ds g1 Q
section
variable {es : List Expr} {t : TL'} {cd : CD} {r : List V → Hp → VK → Prop} {x : Str} {p : Pos} {id T : String}
theorem cb_mo (ha : XA G X es t) (hd : CallD G X.K r cd) : ∀ E g Q Q', (∀ d g', Q d g' → Q' d g') → xCB t cd E g Q → xCB t cd E g Q' :=
  fun E g Q Q' hq q => ha.mo _ _ _ _ (fun ss g1 ⟨ds, e, q1⟩ => ⟨ds, e, hd.mo _ _ _ _ hq q1⟩) q
theorem cb_to (ha : XA G X es t) (hd : CallD G X.K r cd) : ∀ σ H Q, lift X.K G (xCB t cd) σ H Q → tCB r (liftA X.K G t) σ H Q := by
  intro σ H Q ⟨cl, E, g, as, j, rE, q⟩
  refine ⟨cl, E, g, as, j, rE, ha.mo _ _ _ _ (fun ss g1 ⟨ds, e, q1⟩ u vs go1 j1 rs => ?_) q⟩
  exact hd.to u g1 vs ds Q j1 (rs.ds e) (hd.mo _ _ _ _ (fun z g2 q2 u2 v2 go2 j2 rv => q2 u2 v2 (go1.trans go2) j2 rv) q1)
theorem xe_callB (hc : CallR X (.builtin id) r) (hd : CallD G X.K r cd) (hg : Gl X x) (hm : X.mg x = none) (hv : bootBuiltins x = some (.builtin id)) (ha : XA G X (e :: es) t) (hn : x ≠ "__name__" := by decide) (hdb : (x == ("__debug__" : Str)) = false := by decide)
    (he : starEach (e :: es) X.env = (false, eval e X.env) :: starEach es X.env := by rfl) (hpl : (backTo pos (starEach es X.env)).any (·.1) = false := by rfl) : XE G X (.Call (.Name x p) (e :: es) [] pos) (xCB t cd) :=
  ⟨cb_mo ha hd, (pe_callB hc hg hm hv ha.pa hn hdb he hpl).imp (cb_to ha hd)⟩
theorem xe_callTy (hc : CallR X (.type T) r) (hd : CallD G X.K r cd) (hg : Gl X x) (hm : X.mg x = none) (hv : bootBuiltins x = some (.type T)) (ha : XA G X (e :: es) t) (hn : x ≠ "__name__" := by decide) (hdb : (x == ("__debug__" : Str)) = false := by decide)
    (he : starEach (e :: es) X.env = (false, eval e X.env) :: starEach es X.env := by rfl) (hpl : (backTo pos (starEach es X.env)).any (·.1) = false := by rfl) : XE G X (.Call (.Name x p) (e :: es) [] pos) (xCB t cd) :=
  ⟨cb_mo ha hd, (pe_callTy hc hg hm hv ha.pa hn hdb he hpl).imp (cb_to ha hd)⟩
end
def cLen : CD := fun ds g Q => match ds with
  | [.list l] => Q (.int l.length) g
  | [.tuple l] => Q (.int l.length) g
  | [.str s] => s.length ≤ sizeLine ∧ Q (.int s.length) g
  | _ => False
def rLenA (K : PySem.W.Frag) : List V → Hp → VK → Prop := fun xs H Q => (∃ p ys, xs = [.ref p] ∧ (SqL K H p ys ∨ SqT K H p ys) ∧ Q (.int ys.length) H) ∨ (∃ z, xs = [.str z] ∧ z.length ≤ sizeLine ∧ Q (.int z.length) H)
theorem call_lenA : CallR X (.builtin "len") (rLenA X.K) := CallR.or call_len_seq call_len_str
theorem cd_len : CallD G K (rLenA K) cLen := by
  refine ⟨fun ds g Q Q' hq q => ?_, fun w g vs ds Q j r q => ?_⟩
  · unfold cLen at *; split at q <;> first | exact hq _ _ q | exact ⟨q.1, hq _ _ q.2⟩ | exact q
  · unfold cLen at q
    split at q
    · cases r with
      | cons h t =>
        cases t
        cases h with
        | lst h r => exact .inl ⟨_, _, rfl, .inl h.sq, by rw [r.len]; exact q w _ (Go.refl w) j (.int _)⟩
    · cases r with
      | cons h t =>
        cases t
        cases h with
        | tup h r => exact .inl ⟨_, _, rfl, .inr h.sq, by rw [r.len]; exact q w _ (Go.refl w) j (.int _)⟩
    · cases r with
      | cons h t =>
        cases t
        cases h
        exact .inr ⟨_, rfl, q.1, q.2 w _ (Go.refl w) j (.int _)⟩
    · exact q.elim
/-- tuple(a list), tuple(a tuple); list(..) -/
def cTup : CD := fun ds g Q => match ds with
  | [.list l] => Q (.tuple l) g
  | [.tuple l] => Q (.tuple l) g
  | _ => False
theorem cd_tup : CallD G K (fun xs H Q => ∃ p ys, xs = [.ref p] ∧ ((SqL K H p ys ∧ ∀ l o, H l = none → o.dict = none → Q (.ref l) (upd H l (tupO o ys))) ∨ (SqT K H p ys ∧ Q (.ref p) H))) cTup := by
  refine ⟨fun ds g Q Q' hq q => ?_, fun w g vs ds Q j r q => ?_⟩
  · unfold cTup at *; split at q <;> first | exact hq _ _ q | exact q
  · unfold cTup at q
    split at q
    · cases r with
      | cons h t =>
        cases t
        cases h with
        | lst h r => exact ⟨_, _, rfl, .inl ⟨h.sq, fun p o np hd => q (w.new p _ 0) _ (Go.new' np 0) (G.st0 (Go0.new np 0) j) (new_tup np hd r)⟩⟩
    · cases r with
      | cons h t =>
        cases t
        have h0 := h
        cases h with
        | tup h r => exact ⟨_, _, rfl, .inr ⟨h.sq, q w _ (Go.refl w) j h0⟩⟩
    · exact q.elim
def cLst : CD := fun ds g Q => match ds with
  | [.list l] => Q (.list l) g
  | [.tuple l] => Q (.list l) g
  | _ => False
theorem cd_lst : CallD G K (fun xs H Q => ∃ p ys, xs = [.ref p] ∧ (SqL K H p ys ∨ SqT K H p ys) ∧ ∀ l, H l = none → Q (.ref l) (upd H l (.lst ys))) cLst := by
  refine ⟨fun ds g Q Q' hq q => ?_, fun w g vs ds Q j r q => ?_⟩
  · unfold cLst at *; split at q <;> first | exact hq _ _ q | exact q
  · unfold cLst at q
    split at q
    · cases r with
      | cons h t =>
        cases t
        cases h with
        | lst h r => exact ⟨_, _, rfl, .inl h.sq, fun p np => q (w.new p _ 0) _ (Go.new' np 0) (G.st0 (Go0.new np 0) j) (new_lst np r)⟩
    · cases r with
      | cons h t =>
        cases t
        cases h with
        | tup h r => exact ⟨_, _, rfl, .inr h.sq, fun p np => q (w.new p _ 0) _ (Go.new' np 0) (G.st0 (Go0.new np 0) j) (new_lst np r)⟩
    · exact q.elim
/-- min, max of two; int(n) -/
def cI2 (f : Int → Int → Int) : CD := fun ds g Q => match ds with
  | [.int i, .int j] => Q (.int (f i j)) g
  | _ => False
theorem cd_I2 {f : Int → Int → Int} : CallD G K (fun xs H Q => ∃ i j, xs = [.int i, .int j] ∧ Q (.int (f i j)) H) (cI2 f) := by
  refine ⟨fun ds g Q Q' hq q => ?_, fun w g vs ds Q j r q => ?_⟩
  · unfold cI2 at *; split at q <;> first | exact hq _ _ q | exact q
  · unfold cI2 at q
    split at q
    · cases r with
      | cons h t =>
        cases t with
        | cons h' t =>
          cases t; cases h; cases h'
          exact ⟨_, _, rfl, q w _ (Go.refl w) j (.int _)⟩
    · exact q.elim
@[simp] abbrev cMax : CD := cI2 fun i j => if j > i then j else i
@[simp] abbrev cMin : CD := cI2 fun i j => if j < i then j else i
def cInt : CD := fun ds g Q => match ds with
  | [.int i] => Q (.int i) g
  | [.bool b] => Q (.int (if b then 1 else 0)) g
  | _ => False
theorem cd_int : CallD G K (fun xs H Q => (∃ i, xs = [.int i] ∧ Q (.int i) H) ∨ ∃ k, xs = [.bl k] ∧ Q (.int (if k then 1 else 0)) H) cInt := by
  refine ⟨fun ds g Q Q' hq q => ?_, fun w g vs ds Q j r q => ?_⟩
  · unfold cInt at *; split at q <;> first | exact hq _ _ q | exact q
  · unfold cInt at q
    split at q
    · cases r with
      | cons h t => cases t; cases h; exact .inl ⟨_, rfl, q w _ (Go.refl w) j (.int _)⟩
    · cases r with
      | cons h t => cases t; cases h; exact .inr ⟨_, rfl, q w _ (Go.refl w) j (.int _)⟩
    · exact q.elim
/-- all, any of a list of truths -/
@[simp] def bools : List PyData → Option (List Bool)
  | [] => some []
  | .bool b :: r => (bools r).map (b :: ·)
  | _ :: _ => none
theorem bools_rv {w : Wd} : ∀ {vs : List V} {ds : List PyData} {bs : List Bool}, RvL K w vs ds → bools ds = some bs → vs = bs.map V.bl
  | _, _, bs, .nil, e => by cases e; rfl
  | _, _, bs, .cons (d := d) (ds := ds) h t, e => by
    cases d with
    | bool b =>
      have e' : (bools ds).map (b :: ·) = some bs := e
      cases q : bools ds with
      | none => rw [q] at e'; cases e'
      | some r =>
        rw [q] at e'
        cases e'
        cases h
        rw [bools_rv t q]
        rfl
    | _ => cases e
@[simp] def cAll : CD := fun ds g Q => ∃ l bs, ds = [.list l] ∧ bools l = some bs ∧ Q (.bool (bs.all id)) g
@[simp] def cAny : CD := fun ds g Q => ∃ l bs, ds = [.list l] ∧ bools l = some bs ∧ Q (.bool (bs.any id)) g
theorem cd_all : CallD G K (rAll K) cAll := by
  refine ⟨fun ds g Q Q' hq ⟨l, bs, e, e2, q⟩ => ⟨l, bs, e, e2, hq _ _ q⟩, fun w g vs ds Q j r ⟨l, bs, e, e2, q⟩ => ?_⟩
  subst e
  cases r with
  | cons h t =>
    cases t
    cases h with
    | lst h r =>
      have e3 := bools_rv r e2
      subst e3
      exact ⟨_, bs, rfl, h.sq, q w _ (Go.refl w) j (.bl _)⟩
theorem cd_any : CallD G K (rAny K) cAny := by
  refine ⟨fun ds g Q Q' hq ⟨l, bs, e, e2, q⟩ => ⟨l, bs, e, e2, hq _ _ q⟩, fun w g vs ds Q j r ⟨l, bs, e, e2, q⟩ => ?_⟩
  subst e
  cases r with
  | cons h t =>
    cases t
    cases h with
    | lst h r =>
      have e3 := bools_rv r e2
      subst e3
      exact ⟨_, bs, rfl, h.sq, q w _ (Go.refl w) j (.bl _)⟩
end
end TL
namespace TL
open PySem PySem.Spec PyProof.Rows L2
/-! ### enumerate of a tuple -/
set_option maxHeartbeats 1000000 in
theorem meets_enum1 {v : Value} {o : Obj} {H : Heap → Prop} (B : Begins v o H) :
    Meets (Builtin.«enumerate.__new__» ⟨[.type "enumerate", v], []⟩) (fun _ R s => H s.heap ∧
      R (.ok (.ret (.ref (s.heap.push o).objs.size))) { s with heap := (s.heap.push o).push { cls := .type "enumerate", data := .fields #[.none, .bool false, .ref s.heap.objs.size, rawInt 0, .none, .none] } }) :=
  .of_wp fun prog w A R s h => by
    obtain ⟨hp, g, d, tk, os⟩ := s; obtain ⟨h1, h⟩ := h
    have hsub := sub_enumerate
    have q1 : ∀ {A' : Around} {E : Value → Shared → Prop} {Q : Value → Shared → Prop}, Q (.ref hp.objs.size) ⟨hp.push o, g, d, tk, os⟩ → wpAny (model prog w) A' (pyIter v) Q E ⟨hp, g, d, tk, os⟩ :=
      fun q => B.iter prog w _ _ ⟨hp, g, d, tk, os⟩ _ h1 q
    wp_walk using q1
    refine wpAny_stack_any fun st => wpAny_pure ?_
    split
    · rename_i c _ _ _ _ _
      cases (c == Value.type "enumerate")
      · wp_walk using q1
        exact ⟨_, rfl, h⟩
      · wp_walk using q1
        exact ⟨_, rfl, h⟩
    · wp_walk using q1
      exact ⟨_, rfl, h⟩
theorem enum_begins1 {prog : Program} {w : World} {A : Around} {E : Value → Shared → Prop} {s : Shared} {v : Value} {o : Obj} {H : Heap → Prop} {Q : Value → Shared → Prop} (B : Begins v o H) (h1 : H s.heap)
    (h : ∀ h', IsEnum h' (s.heap.objs.size + 1) s.heap.objs.size 0 .none → h'.get? s.heap.objs.size = some o → h'.objs.size = s.heap.objs.size + 2 →
      (∀ b o, s.heap.get? b = some o → h'.get? b = some o) → Q (.ref (s.heap.objs.size + 1)) { s with heap := h' }) : wpAny (model prog w) A (call (.type "enumerate") [v]) Q E s := by
  refine callType_new F.called_enumerate (by decide) (F.typeCall_enumerate_1 _) (F.newCall_enumerate_1 _) (fun obj => F.args_object_init_2 obj _) F.entry_enumerate_new (meets_enum1 B) ⟨h1, ?_⟩
  have hz : (s.heap.push o).objs.size = s.heap.objs.size + 1 := Heap.size_push ..
  show _ ∧ _
  rw [hz]
  have he : IsEnum ((s.heap.push o).push { cls := .type "enumerate", data := .fields #[.none, .bool false, .ref s.heap.objs.size, rawInt 0, .none, .none] }) (s.heap.objs.size + 1) s.heap.objs.size 0 .none := by
    have := Heap.get?_push_size (s.heap.push o) (o := { cls := .type "enumerate", data := .fields #[.none, .bool false, .ref s.heap.objs.size, rawInt 0, .none, .none] }) rfl
    rw [hz] at this; exact this
  exact ⟨⟨_, he, rfl⟩, h _ he (Heap.get?_push_of_some _ (Heap.get?_push_size _ B.free)) (by rw [Heap.size_push, hz]) fun b o x => Heap.get?_push_of_some _ (Heap.get?_push_of_some _ x)⟩
def IteT (K : PySem.W.Frag) (a : Addr) : It :=
  ⟨fun i H => ∃ (xs : List V) (x : V), SqT K H a xs ∧ xs[i]? = some x, fun i H v H' => ∃ T x, v = .ref T ∧ H T = none ∧ H' = upd H T (.tup [.int (i : Nat), x]) ∧ ∀ xs, SqT K H a xs → xs[i]? = some x, fun i H => ∃ xs : List V, SqT K H a xs ∧ xs.length ≤ i⟩
theorem turn_enumT {P : Program} {w : World} {K : PySem.W.Frag} {elts : List Expr} {kk : Nat} {tpos : Pos} (a e it : Addr) :
    Turn P w K (.Tuple elts kk tpos) (IteT K a) [e, it] e (fun i h => (∃ old, IsEnum h e it ((i : Nat) : Int) old) ∧ h.IsTupleIter it a i ∧ e ≠ it) where
  mem := by simp
  obj := fun i h st b hb => by
    obtain ⟨⟨old, he⟩, ⟨o, ho, hc, hd⟩, _⟩ := st
    have e' : b = e ∨ b = it := by simpa using hb
    rcases e' with z | z
    · rw [z]; exact ⟨_, he, fun v q => nomatch q⟩
    · rw [z]; exact ⟨o, ho, fun v q => by rw [hd] at q; cases q⟩
  keep := fun i h h' st k => let ⟨⟨old, he⟩, hi, hne⟩ := st; ⟨⟨old, k e (by simp) _ he⟩, hi.at fun o q => k it (by simp) o q, hne⟩
  item := by
    intro X hP hw hK hc i pins s σ H E I hf st hg
    subst hP hw hK
    obtain ⟨⟨old, he⟩, hit, hne⟩ := st
    obtain ⟨xs, x, hq, hx⟩ := hg
    obtain ⟨its, rv, p, hz⟩ := I.tuple hq
    obtain ⟨u, hu, ru⟩ := rv.get hx
    have hel : e < s.heap.objs.size := Heap.lt_size he
    have hil : it < s.heap.objs.size := by obtain ⟨_, q, _⟩ := hit; exact Heap.lt_size q
    have pT : s.heap.IsTuple a its.toArray := p
    obtain ⟨oa, hoa, hca, na, hda⟩ := id pT
    have ait : a ≠ it := fun z => by
      obtain ⟨o2, ho2, hc2, _⟩ := hit
      rw [← z, hoa] at ho2
      cases ho2
      rw [hca] at hc2
      revert hc2
      decide +kernel
    have ea : e ≠ a := fun z => by
      rw [z] at he
      have he' : s.heap.get? a = some _ := he
      rw [hoa] at he'
      cases he'
      exact absurd hca (by show Value.type "enumerate" ≠ Value.type "tuple"; decide +kernel)
    have hlt : i < its.toArray.size := by
      have := (List.getElem?_eq_some_iff.mp hu).1
      simpa using this
    refine wpAny_pyNext_enum_itemC (Draws.tuple (prog := X.prog) (w := X.w) (A := X.A.in1) (I.ok.hd hc) it a ait its.toArray) he ⟨hit, pT⟩ hlt hne (by simp [hne, ea]) fun x' h' tk hP ho hst hT hsz hk => ?_
    have ex : x' = u := by
      have h2 : its.toArray[i]? = some u := by simpa using hu
      rw [h2] at hP
      exact (Option.some.inj hP).symm
    subst ex
    refine ⟨_, rfl, wpAny_letOwnedTupleGo_enum (s := { s with heap := h', toks := tk + 1 }) ho fun h'' he' sb => ?_⟩
    have hT2 : h''.get? s.heap.objs.size = some { cls := .type "tuple", data := .seq #[.int i tk, x'] } := (sb.2 _ (Nat.ne_of_gt hel)).trans hT
    have new : ObjOk X.prog X.w (upd H s.heap.objs.size (.tup [.int (i : Nat), x])) h'' s.heap.objs.size (.tup [.int (i : Nat), x]) :=
      ⟨by show 2 ≤ sizeLine; decide, [.int i tk, x'], .cons ⟨_, rfl⟩ (.cons ru .nil), ⟨_, hT2, rfl, _, rfl⟩⟩
    have I1 : Inv X pins σ (upd H s.heap.objs.size (.tup [.int (i : Nat), x])) { s with heap := h'', toks := tk + 1 } :=
      I.turnedNew (ch := [e, it]) (fun b ob hb q => (sb.2 b (fun z => hb (by simp [z]))).trans (hk b ob (fun z => hb (by simp [z])) (fun z => hb (by simp [z])) q)) hf (Nat.le_refl _) new
    refine ⟨.ref s.heap.objs.size, _, I1, rfl, ⟨_, x, rfl, I.hok.fresh (Nat.le_refl _), rfl, fun ys hy => by rw [I.tuple_inj hy hq]; exact hx⟩, ⟨⟨x', ?_⟩, hst.1.at fun o q => (sb.2 it (Ne.symm hne)).trans q, hne⟩, fun b hb => ?_⟩
    · have e1 : ((i + 1 : Nat) : Int) = (i : Int) + 1 := by omega
      rw [e1]; exact he'
    · have hb' : b < s.heap.objs.size := by
        have e' : b = e ∨ b = it := by simpa using hb
        rcases e' with z | z
        · rw [z]; exact hel
        · rw [z]; exact hil
      rw [upd_ne (Nat.ne_of_lt hb')]
      exact (hf b hb).1
  done := by
    intro X hP hw hK hc i pins s σ H E I hf st hg
    subst hP hw hK
    obtain ⟨⟨old, he⟩, hit, hne⟩ := st
    obtain ⟨xs, hq, hx⟩ := hg
    obtain ⟨its, rv, p, hz⟩ := I.tuple hq
    obtain ⟨f0, f1, f2, f3, f4, f5⟩ := hf it (by simp)
    have hl := rv.length
    have pT : s.heap.IsTuple a its.toArray := p
    -- at its end
    have hT : s.TypeIs (.ref e) "enumerate" := ⟨_, he, rfl⟩
    unfold pyNext
    refine wpAny_bind (wpAny_attempt (wpAny_callSpecial?_slot (name := Str.ofString "__next__") hT F.slot_enumerate_next
      (wpAny_call_entry F.slot_enumerate_next hT F.entry_enumerate_next ?_ (F.args_enumerate_next_1 _))))
    show wpAny _ _ (field (.ref e) 2 >>= _) _ _ _
    refine wpAny_bind (wpAny_field he rfl (x := .ref it) rfl ?_)
    refine wpAny_bind (wpAny_nextOf_tuple_end (show X.A.in1.handled = none from I.ok.hd hc) hit pT (by simp; omega) fun h' x he' hx' => ?_)
    obtain ⟨o, ho, hcls⟩ := hx'
    refine wpAny_bind (wpAny_isInstance (T := "StopIteration") (b := true) ⟨o, ho, hcls⟩ isSubtype_stop ?_)
    exact wpAny_pure ⟨rfl, I.turned (t' := s.toks) (fun b o hb q => he' b o hb q) f0 f1 f3 f4 f5⟩
  self := fun A i s Q E st h => let ⟨⟨_, he⟩, _⟩ := st; wpAny_pyIter_enum he h
end TL
namespace TL
open PySem PySem.Spec PyProof.Rows L2 RZ
section
variable {K : PySem.W.Frag}
@[simp] def enumD : Nat → List PyData → List PyData
  | _, [] => []
  | i, d :: r => .tuple [.int i, d] :: enumD (i + 1) r
theorem enumD_len : ∀ (l : List PyData) (i : Nat), (enumD i l).length = l.length
  | [], _ => rfl
  | d :: r, i => by
    show (enumD (i + 1) r).length + 1 = r.length + 1
    rw [enumD_len r]
theorem enumD_get : ∀ (l : List PyData) (i j : Nat) (d : PyData), (enumD i l)[j]? = some d → ∃ x, l[j]? = some x ∧ d = .tuple [.int ((i + j : Nat) : Int), x]
  | [], _, _, _, h => by simp [enumD] at h
  | x :: r, i, 0, d, h => ⟨x, rfl, (Option.some.inj h).symm⟩
  | x :: r, i, j + 1, d, h => by
    obtain ⟨y, h1, h2⟩ := enumD_get r (i + 1) j d h
    refine ⟨y, h1, ?_⟩
    rw [h2, show i + 1 + j = i + (j + 1) by omega]
theorem weak_pair {w : Wd} {T : Addr} {x y : V} {dx dy : PyData} (n : w.H T = none) (rx : Rv K w x dx) (ry : Rv K w y dy) : Rw K (w.new T (.tup [x, y]) 0) true (.ref T) (.tuple [dx, dy]) :=
  .inr ⟨rfl, T, [x, y], [dx, dy], rfl, rfl, .inl (.inl upd_same), .cons (rx.go (Go.new' n 0)) (.cons (ry.go (Go.new' n 0)) .nil)⟩
theorem wk_enumT {a : Addr} {xs : List V} {ds : List PyData} : Wk K true (IteT K a) (enumD 0 ds) fun w => TupA K w a xs ∧ RvL K w xs ds where
  pu := fun w u h p => ⟨h.1.pu p, h.2.pu p⟩
  go := fun i w h l => by
    have l' : i < xs.length := by rw [h.2.len]; rw [enumD_len] at l; exact l
    exact ⟨xs, xs[i], h.1.sq, List.getElem?_eq_getElem l'⟩
  stop := fun i w h l => ⟨xs, h.1.sq, by rw [h.2.len]; rw [enumD_len] at l; exact l⟩
  yld := fun i w v H' d h e y => by
    obtain ⟨T, x, e1, nT, e2, y⟩ := y
    subst e1 e2
    obtain ⟨dx, h1, h2⟩ := enumD_get ds 0 i d e
    subst h2
    obtain ⟨x', e2, rv⟩ := h.2.get h1
    have e3 := y xs h.1.sq
    rw [e2] at e3
    cases e3
    refine ⟨w.new T _ 0, rfl, Go0.new nT 0, ?_⟩
    have := weak_pair (K := K) nT (.int ((0 + i : Nat) : Int)) rv
    rw [Nat.zero_add] at this ⊢
    exact this
theorem wk_enumL {a : Addr} {xs : List V} {ds : List PyData} : Wk K true (Ite K a) (enumD 0 ds) fun w => LstA K w a xs ∧ RvL K w xs ds where
  pu := fun w u h p => ⟨h.1.pu p, h.2.pu p⟩
  go := fun i w h l => by
    have l' : i < xs.length := by rw [h.2.len]; rw [enumD_len] at l; exact l
    exact ⟨xs, xs[i], h.1.sq, List.getElem?_eq_getElem l'⟩
  stop := fun i w h l => ⟨xs, h.1.sq, by rw [h.2.len]; rw [enumD_len] at l; exact l⟩
  yld := fun i w v H' d h e y => by
    obtain ⟨T, x, e1, nT, e2, y⟩ := y
    subst e1 e2
    obtain ⟨dx, h1, h2⟩ := enumD_get ds 0 i d e
    subst h2
    obtain ⟨x', e2, rv⟩ := h.2.get h1
    have e3 := y xs h.1.sq
    rw [e2] at e3
    cases e3
    refine ⟨w.new T _ 0, rfl, Go0.new nT 0, ?_⟩
    have := weak_pair (K := K) nT (.int ((0 + i : Nat) : Int)) rv
    rw [Nat.zero_add] at this ⊢
    exact this
theorem wk_zipL {a b : Addr} {xs ys : List V} {ds es : List PyData} : Wk K true (Itz K a b) (zipD ds es) fun w => (LstA K w a xs ∧ RvL K w xs ds) ∧ (LstA K w b ys ∧ RvL K w ys es) where
  pu := fun w u h p => ⟨⟨h.1.1.pu p, h.1.2.pu p⟩, ⟨h.2.1.pu p, h.2.2.pu p⟩⟩
  go := fun i w h l => by
    rw [zipD_len] at l
    have l1 : i < xs.length := by rw [h.1.2.len]; omega
    have l2 : i < ys.length := by rw [h.2.2.len]; omega
    exact ⟨xs, ys, xs[i], ys[i], h.1.1.sq, h.2.1.sq, List.getElem?_eq_getElem l1, List.getElem?_eq_getElem l2⟩
  stop := fun i w h l => by
    rw [zipD_len] at l
    refine ⟨xs, ys, h.1.1.sq, h.2.1.sq, ?_⟩
    rw [h.1.2.len, h.2.2.len]; omega
  yld := fun i w v H' d h e y => by
    obtain ⟨T, x, z, e1, nT, e2, y1, y2⟩ := y
    subst e1 e2
    obtain ⟨dx, dy, h1, h2, h3⟩ := zipD_get ds es i d e
    subst h3
    obtain ⟨x', q1, r1⟩ := h.1.2.get h1
    obtain ⟨y', q2, r2⟩ := h.2.2.get h2
    have e3 := y1 xs h.1.1.sq
    have e4 := y2 ys h.2.1.sq
    rw [q1] at e3
    rw [q2] at e4
    cases e3; cases e4
    exact ⟨w.new T _ 0, rfl, Go0.new nT 0, weak_pair nT r1 r2⟩
theorem wk_zipT {a b : Addr} {xs ys : List V} {ds es : List PyData} : Wk K true (ItzT K a b) (zipD ds es) fun w => (TupA K w a xs ∧ RvL K w xs ds) ∧ (TupA K w b ys ∧ RvL K w ys es) where
  pu := fun w u h p => ⟨⟨h.1.1.pu p, h.1.2.pu p⟩, ⟨h.2.1.pu p, h.2.2.pu p⟩⟩
  go := fun i w h l => by
    rw [zipD_len] at l
    have l1 : i < xs.length := by rw [h.1.2.len]; omega
    have l2 : i < ys.length := by rw [h.2.2.len]; omega
    exact ⟨xs, ys, xs[i], ys[i], h.1.1.sq, h.2.1.sq, List.getElem?_eq_getElem l1, List.getElem?_eq_getElem l2⟩
  stop := fun i w h l => by
    rw [zipD_len] at l
    refine ⟨xs, ys, h.1.1.sq, h.2.1.sq, ?_⟩
    rw [h.1.2.len, h.2.2.len]; omega
  yld := fun i w v H' d h e y => by
    obtain ⟨T, x, z, e1, nT, e2, y1, y2⟩ := y
    subst e1 e2
    obtain ⟨dx, dy, h1, h2, h3⟩ := zipD_get ds es i d e
    subst h3
    obtain ⟨x', q1, r1⟩ := h.1.2.get h1
    obtain ⟨y', q2, r2⟩ := h.2.2.get h2
    have e3 := y1 xs h.1.1.sq
    have e4 := y2 ys h.2.1.sq
    rw [q1] at e3
    rw [q2] at e4
    cases e3; cases e4
    exact ⟨w.new T _ 0, rfl, Go0.new nT 0, weak_pair nT r1 r2⟩
end
section
variable {G : Ct} {X : Cx} {e e2 : Expr} {t : TL'} {p pos tpos : Pos} {elts : List Expr} {kk : Nat}
/-- a PE of arguments that are all data -/
@[simp] def xiEnum (t : TL') : TWk := fun E g Q => t E g fun ss g1 => ∃ ds, (ss = [.v (.list ds)] ∨ ss = [.v (.tuple ds)]) ∧ Q (enumD 0 ds) g1
def iEnumA (K : PySem.W.Frag) (ta : TA) : TI := fun σ H R => ta σ H fun vs H1 => ∃ a xs, vs = [.ref a] ∧ ((SqL K H1 a xs ∧ R (Ite K a) H1) ∨ (SqT K H1 a xs ∧ R (IteT K a) H1))
theorem pi_enumA {e : Expr} {ta : TA} (hg : Gl X "enumerate") (hm : X.mg "enumerate" = none) (ha : PA X [e] ta) (hs : starEach [e] X.env = [(false, eval e X.env)] := by rfl) : PI X (.Tuple elts kk tpos) (.Call (.Name "enumerate" p) [e] [] pos) (iEnumA X.K ta) := by
  refine ⟨fun pins s σ H R I h => Call_ (ld_blt I hg hm boot_enumerate (PyProof.Rows.callWith_type1 (thn (ha.run pos pins s σ H _ I h) fun us s1 ⟨vs, H1, I1, r1, q1⟩ => ?_) hs rfl))⟩
  obtain ⟨a, xs, ex, q1⟩ := q1
  subst ex
  cases r1 with
  | cons r rr =>
    cases rr
    cases r
    have fp2 : ∀ b ∈ [s1.heap.objs.size + 1, s1.heap.objs.size], FpOk X pins H1 b := fun b hb => by
      have e' : b = s1.heap.objs.size + 1 ∨ b = s1.heap.objs.size := by simpa using hb
      have hle : s1.heap.objs.size ≤ b := by
        rcases e' with z | z
        · rw [z]; exact Nat.le_add_right _ _
        · rw [z]; exact Nat.le_refl _
      exact I1.fpOk hle (I1.hok.fresh hle)
    rcases q1 with ⟨hq, q⟩ | ⟨hq, q⟩
    · obtain ⟨its, rv, p', hz⟩ := I1.list hq
      refine call_enumerate_list p'.isList fun h' he hit hsz hk => wpAny_pyIter_enum he ?_
      exact ⟨s1.heap.objs.size + 1, [s1.heap.objs.size + 1, s1.heap.objs.size], _, _, H1, rfl, I1.kept (t' := s1.toks) hk, turn_enum a (s1.heap.objs.size + 1) s1.heap.objs.size, ⟨⟨.none, he⟩, hit, Nat.succ_ne_self _⟩, fp2, q⟩
    · obtain ⟨its, rv, p', hz⟩ := I1.tuple hq
      refine enum_begins1 (begins_tuple a its.toArray) (show s1.heap.IsTuple a its.toArray from p') fun h' he hit hsz hk => wpAny_pyIter_enum he ?_
      exact ⟨s1.heap.objs.size + 1, [s1.heap.objs.size + 1, s1.heap.objs.size], _, _, H1, rfl, I1.kept (t' := s1.toks) hk, turn_enumT a (s1.heap.objs.size + 1) s1.heap.objs.size, ⟨⟨.none, he⟩, ⟨_, hit, rfl, rfl⟩, Nat.succ_ne_self _⟩, fp2, q⟩
theorem xi_enum (hg : Gl X "enumerate") (hm : X.mg "enumerate" = none) (ha : XA G X [e] t) (hs : starEach [e] X.env = [(false, eval e X.env)] := by rfl) : XI G X true (.Tuple elts kk tpos) (.Call (.Name "enumerate" p) [e] [] pos) (xiEnum t) := by
  refine ⟨fun E g Q Q' hq q => ha.mo _ _ _ _ (fun ss g1 ⟨ds, e1, q⟩ => ⟨ds, e1, hq _ _ q⟩) q, (pi_enumA hg hm ha.pa hs).imp fun σ H R ⟨cl, E, g, as, j, r, q⟩ => ?_⟩
  refine ⟨cl, E, g, as, j, r, ha.mo _ _ _ _ (fun ss g1 ⟨ds, e1, q1⟩ u vs go1 j1 rs => ?_) q⟩
  rcases e1 with e1 | e1
  · subst e1
    cases rs with
    | v h t =>
      cases t
      cases h with
      | lst hL hr => exact ⟨_, _, rfl, .inl ⟨hL.sq, q1 u _ _ go1 j1 wk_enumL ⟨hL, hr⟩⟩⟩
  · subst e1
    cases rs with
    | v h t =>
      cases t
      cases h with
      | tup hL hr => exact ⟨_, _, rfl, .inr ⟨hL.sq, q1 u _ _ go1 j1 wk_enumT ⟨hL, hr⟩⟩⟩
@[simp] def xiZip (t : TL') : TWk := fun E g Q => t E g fun ss g1 => ∃ ds es, (ss = [.v (.list ds), .v (.list es)] ∨ ss = [.v (.tuple ds), .v (.tuple es)]) ∧ Q (zipD ds es) g1
theorem xi_zip (hg : Gl X "zip") (hm : X.mg "zip" = none) (ha : XA G X [e, e2] t) (hs : starEach [e, e2] X.env = (false, eval e X.env) :: starEach [e2] X.env := by rfl) (hpl : (backTo pos (starEach [e2] X.env)).any (·.1) = false := by rfl) : XI G X true (.Tuple elts kk tpos) (.Call (.Name "zip" p) [e, e2] [] pos) (xiZip t) := by
  refine ⟨fun E g Q Q' hq q => ha.mo _ _ _ _ (fun ss g1 ⟨ds, es, e1, q⟩ => ⟨ds, es, e1, hq _ _ q⟩) q, (pi_zipA hg hm ha.pa hs hpl).imp fun σ H R ⟨cl, E, g, as, j, r, q⟩ => ?_⟩
  refine ⟨cl, E, g, as, j, r, ha.mo _ _ _ _ (fun ss g1 ⟨ds, es, e1, q1⟩ u vs go1 j1 rs => ?_) q⟩
  rcases e1 with e1 | e1
  · subst e1
    cases rs with
    | v h t =>
      cases t with
      | v h' t =>
        cases t
        cases h with
        | lst hL hr =>
          cases h' with
          | lst hL' hr' => exact ⟨_, _, _, _, rfl, .inl ⟨hL.sq, hL'.sq, q1 u _ _ go1 j1 wk_zipL ⟨⟨hL, hr⟩, ⟨hL', hr'⟩⟩⟩⟩
  · subst e1
    cases rs with
    | v h t =>
      cases t with
      | v h' t =>
        cases t
        cases h with
        | tup hL hr =>
          cases h' with
          | tup hL' hr' => exact ⟨_, _, _, _, rfl, .inr ⟨hL.sq, hL'.sq, q1 u _ _ go1 j1 wk_zipT ⟨⟨hL, hr⟩, ⟨hL', hr'⟩⟩⟩⟩
end
/-! ### isinstance -/
@[simp] def tyD : PyData → String
  | .none => "NoneType"
  | .bool _ => "bool"
  | .int _ => "int"
  | .str _ => "str"
  | .list _ => "list"
  | .tuple _ => "tuple"
  | .dict _ => "dict"
def isiD (T : String) (d : PyData) : Bool := (kitB (tyD d) T).getD false
theorem rv_ty {K : PySem.W.Frag} {w : Wd} {v : V} {d : PyData} (r : Rv K w v d) : TyX K w.H v (.type (tyD d)) := by
  cases r with
  | non => exact .base .non
  | bl b => exact .base (.bl b)
  | int i => exact .base (.int i)
  | str x => exact .base (.str x)
  | lst h r =>
    rcases h with ⟨h | ⟨o, h⟩, _⟩ | (h | ⟨_, h⟩) | ⟨o, its, n, h1, h2, _⟩
    · exact .base (.lst h)
    · exact .base (.frz h)
    · cases h
    · cases h
    · exact .kList h1 h2
  | tup h r =>
    rcases h with ⟨o, h, _, _⟩ | ⟨(h | ⟨_, h⟩) | ⟨o, its, n, h1, h2, _⟩, _⟩
    · rcases tupO_rd h with h | ⟨o', h⟩
      · exact .base (.tup h)
      · exact .fTuple h
    · cases h
    · cases h
    · exact .kTuple h1 h2
  | dic h l r =>
    obtain ⟨⟨o, h⟩, _⟩ := h
    exact .fDict h
section
variable {G : Ct} {X : Cx} {e : Expr} {te : TX} {p pos : Pos}
@[simp] def xIsi (T : String) (te : TX) : TX := fun E g Q => te E g fun d g1 => Q (.bool (isiD T d)) g1
theorem xe_isi {T : String} {x : Str} {px : Pos} (hT : ∀ d : PyData, (kitB (tyD d) T).isSome = true) (hg : Gl X "isinstance") (hm : X.mg "isinstance" = none) (hx : Gl X x) (hmx : X.mg x = none) (hv : bootBuiltins x = some (.type T)) (he : XE G X e te)
    (hn : x ≠ "__name__" := by decide) (hdx : (x == ("__debug__" : Str)) = false := by decide)
    (s2 : starEach [.Name x px] X.env = (false, eval (.Name x px) X.env) :: starEach [] X.env := by rfl) (s1 : starEach (e :: [.Name x px]) X.env = (false, eval e X.env) :: starEach [.Name x px] X.env := by rfl) (hpl : (backTo pos (starEach [.Name x px] X.env)).any (·.1) = false := by rfl) :
    XE G X (.Call (.Name "isinstance" p) [e, .Name x px] [] pos) (xIsi T te) := by
  refine ⟨fun E g Q Q' hq q => he.mo _ _ _ _ (fun d g1 q1 => hq _ _ q1) q, (pe_callB call_isi hg hm (by decide +kernel) (pa_cons he.pe (pa_cons (pe_bltn (v := .ty T) hx hmx hv rfl hn hdx) pa_nil s2) s1) (by decide) (by decide) s1 hpl).imp fun σ H Q ⟨cl, E, g, as, j, rE, q⟩ => ?_⟩
  refine ⟨cl, E, g, as, j, rE, he.mo _ _ _ _ (fun d g1 q1 u v go1 j1 rv1 => ?_) q⟩
  refine ⟨v, .ty T, _, _, isiD T d, rfl, .ty T, rv_ty rv1, ?_, q1 u _ go1 j1 (.bl _)⟩
  refine kit_ty ?_
  have h := hT d
  unfold isiD
  cases z : kitB (tyD d) T with
  | none => rw [z] at h; cases h
  | some b => rfl
end
/-! ### dicts as data -/
def keyEq : PyData → PyData → Bool
  | .int i, .int j => decide (i = j)
  | .str x, .str y => decide (x = y)
  | _, _ => false
def lookD : List (PyData × PyData) → PyData → Option PyData
  | [], _ => none
  | (a, b) :: r, k => if keyEq a k = true then some b else lookD r k
theorem keyEq_kD (a b : Key) : keyEq (kD a) (kD b) = decide (a = b) := by
  cases a <;> cases b <;> simp [keyEq, kD]
@[simp] def keyD : PyData → Option Key
  | .int i => some (.inl i)
  | .str x => some (.inr x)
  | _ => none
theorem keyD_kD {d : PyData} {k : Key} (h : keyD d = some k) : d = kD k := by
  cases d with
  | int i => cases h; rfl
  | str x => cases h; rfl
  | _ => cases h
theorem rv_key {K : PySem.W.Frag} {w : Wd} {v : V} {k : Key} (r : Rv K w v (kD k)) : v = kV k := by
  cases k with
  | inl i => cases r; rfl
  | inr x => cases r; rfl
theorem look_rv {K : PySem.W.Frag} {w : Wd} : ∀ {ks : List Key} {xs : List V} {ds : List PyData} (k : Key), ks.length = xs.length → RvL K w xs ds →
    (∀ d, lookD ((ks.map kD).zip ds) (kD k) = some d → ∃ v, valV (ks.zip xs) k = some v ∧ Rv K w v d) ∧ (lookD ((ks.map kD).zip ds) (kD k) = none → valV (ks.zip xs) k = none)
  | [], [], ds, k, _, r => by
    cases r
    exact ⟨fun d h => by simp [lookD] at h, fun _ => rfl⟩
  | a :: ks, x :: xs, _, k, l, .cons (d := dx) (ds := ds) h t => by
    obtain ⟨h1, h2⟩ := look_rv (ks := ks) k (by simpa using l) t
    by_cases e : a = k
    · subst e
      refine ⟨fun d q => ?_, fun q => ?_⟩
      · have q' : (if keyEq (kD a) (kD a) = true then some dx else lookD ((ks.map kD).zip ds) (kD a)) = some d := q
        rw [keyEq_kD, decide_eq_true rfl, if_pos rfl] at q'
        cases q'
        exact ⟨x, valV_pos rfl, h⟩
      · have q' : (if keyEq (kD a) (kD a) = true then some dx else lookD ((ks.map kD).zip ds) (kD a)) = none := q
        rw [keyEq_kD, decide_eq_true rfl, if_pos rfl] at q'
        cases q'
    · refine ⟨fun d q => ?_, fun q => ?_⟩
      · have q' : (if keyEq (kD a) (kD k) = true then some dx else lookD ((ks.map kD).zip ds) (kD k)) = some d := q
        rw [keyEq_kD, decide_eq_false e, if_neg (by decide)] at q'
        obtain ⟨v, e1, e2⟩ := h1 d q'
        exact ⟨v, (valV_neg e).trans e1, e2⟩
      · have q' : (if keyEq (kD a) (kD k) = true then some dx else lookD ((ks.map kD).zip ds) (kD k)) = none := q
        rw [keyEq_kD, decide_eq_false e, if_neg (by decide)] at q'
        exact (valV_neg e).trans (h2 q')
section
variable {G : Ct} {X : Cx} {e o : Expr} {te to : TX} {p pos : Pos}
/-- d[k] -/
@[simp] def xDGet (to te : TX) : TX := fun E g Q => to E g fun d g1 => te E g1 fun y g2 => ∃ kvs k z, d = .dict kvs ∧ keyD y = some k ∧ lookD kvs y = some z ∧ Q z g2
theorem xe_dget (hu : X.A.units + 1 < cLine) (ho : XE G X o to) (he : XE G X e te) (hs : NoSl e) : XE G X (.Subscript o e pos) (xDGet to te) := by
  refine ⟨fun E g Q Q' hq q => ho.mo _ _ _ _ (fun d g1 q1 => he.mo _ _ _ _ (fun y g2 ⟨kvs, k, z, e1, e2, e3, q2⟩ => ⟨kvs, k, z, e1, e2, e3, hq _ _ q2⟩) q1) q, (pe_dget hu ho.pe he.pe hs).imp fun σ H Q ⟨cl, E, g, as, j, rE, q⟩ => ?_⟩
  refine ⟨cl, E, g, as, j, rE, ho.mo _ _ _ _ (fun d g1 q1 u v go1 j1 rv1 => ?_) q⟩
  refine ⟨u.cl, E, g1, as, j1, rE.go go1, he.mo _ _ _ _ (fun y g2 ⟨kvs, k, z, e1, e2, e3, q2⟩ u2 v2 go2 j2 rv2 => ?_) q1⟩
  subst e1
  have e4 := keyD_kD e2
  subst e4
  have e5 := rv_key rv2
  subst e5
  cases rv1.go go2 with
  | dic h l r =>
    obtain ⟨v', h1, h2⟩ := (look_rv k l r).1 z e3
    refine ⟨_, v', rfl, .inl ⟨_, k, h.rd, rfl, h1.symm⟩, q2 u2 v' (go1.trans go2) j2 h2⟩
/-- d.get(k, x) -/
@[simp] def xDGetOr (to te tx : TX) : TX := fun E g Q => to E g fun d g1 => ∃ kvs, d = .dict kvs ∧ te E g1 fun y g2 => tx E g2 fun x g3 => (keyD y).isSome = true ∧ Q ((lookD kvs y).getD x) g3
theorem xe_dgetOr {f : Expr} {tx : TX} {apos cpos : Pos} (hu : X.A.units + 1 < cLine) (ho : XE G X o to) (he : XE G X e te) (hf : XE G X f tx) (m : M2 X o "get" apos e f cpos) : XE G X (.Call (.Attribute o "get" apos) [e, f] [] cpos) (xDGetOr to te tx) := by
  refine ⟨fun E g Q Q' hq q => ho.mo _ _ _ _ (fun d g1 ⟨kvs, e1, q1⟩ => ⟨kvs, e1, he.mo _ _ _ _ (fun y g2 q2 => hf.mo _ _ _ _ (fun x g3 ⟨e3, q3⟩ => ⟨e3, hq _ _ q3⟩) q2) q1⟩) q, (pe_dget2 hu ho.pe he.pe hf.pe m).imp fun σ H Q ⟨cl, E, g, as, j, rE, q⟩ => ?_⟩
  refine ⟨cl, E, g, as, j, rE, ho.mo _ _ _ _ (fun d g1 ⟨kvs, e1, q1⟩ u v go1 j1 rv1 => ?_) q⟩
  subst e1
  have rv0 := rv1
  cases rv1 with
  | dic h l r =>
    refine ⟨_, rfl, .inl ⟨_, h.rd⟩, u.cl, E, g1, as, j1, rE.go go1, he.mo _ _ _ _ (fun y g2 q2 u2 v2 go2 j2 rv2 => ?_) q1⟩
    refine ⟨u2.cl, E, g2, as, j2, rE.go (go1.trans go2), hf.mo _ _ _ _ (fun x g3 ⟨e3, q3⟩ u3 v3 go3 j3 rv3 => ?_) q2⟩
    cases ek : keyD y with
    | none => rw [ek] at e3; cases e3
    | some k =>
      have e4 := keyD_kD ek
      subst e4
      have e5 := rv_key rv2
      subst e5
      have h' := h.pu (go2.trans go3).pu
      have r' := r.go (go2.trans go3)
      refine ⟨_, .inl ⟨_, k, h'.rd, rfl, rfl⟩, q3 u3 _ ((go1.trans go2).trans go3) j3 ?_⟩
      obtain ⟨a1, a2⟩ := look_rv k l r'
      cases z : lookD ((List.map kD _).zip _) (kD k) with
      | none => rw [a2 z]; exact rv3
      | some d =>
        obtain ⟨v', h1, h2⟩ := a1 d z
        rw [h1]; exact h2
end
end TL
namespace TL
open PySem PySem.Spec PyProof.Rows L2 RZ
/-! ### a frame's own lists -/
section
variable {K : PySem.W.Frag} {G : Ct} {w : Wd} {E : List S} {σ : L2.St} {as : List Addr}
theorem EnvR.getHl (h : EnvR K G w E σ as) : ∀ {i : Nat} {l : List PyData}, E[i]? = some (.hl l) → ∃ a xs, σ[i]? = some (some (.ref a)) ∧ w.H a = some (.lst xs) ∧ w.cl a = 1 ∧ RvL K w xs l ∧ G.w0.H a = none ∧ a ∈ as := by
  induction h with
  | nil => intro i l e; simp at e
  | un x _ ih =>
    intro i l e
    cases i with
    | zero => simp at e
    | succ i => simpa using ih (by simpa using e)
  | v h _ ih =>
    intro i l e
    cases i with
    | zero => simp at e
    | succ i => simpa using ih (by simpa using e)
  | tok _ ih =>
    intro i l e
    cases i with
    | zero => simp at e
    | succ i => simpa using ih (by simpa using e)
  | @hl E σ as a xs ds h c n r na _ ih =>
    intro i l e
    cases i with
    | zero =>
      have e' : ds = l := by simpa using e
      subst e'
      exact ⟨a, xs, rfl, h, c, r, n, List.mem_cons_self⟩
    | succ i =>
      obtain ⟨b, ys, h1, h2, h3, h4, h5, h6⟩ := ih (by simpa using e)
      exact ⟨b, ys, by simpa using h1, h2, h3, h4, h5, List.mem_cons_of_mem _ h6⟩
  | @hd E σ as a ks xs ds h c n l' r na _ ih =>
    intro i l e
    cases i with
    | zero => simp at e
    | succ i =>
      obtain ⟨b, ys, h1, h2, h3, h4, h5, h6⟩ := ih (by simpa using e)
      exact ⟨b, ys, by simpa using h1, h2, h3, h4, h5, List.mem_cons_of_mem _ h6⟩
/-- the own list at i is written -/
theorem EnvR.setHl (h : EnvR K G w E σ as) : ∀ {i : Nat} {l : List PyData} {a : Addr} {ys : List V} {l' : List PyData}, E[i]? = some (.hl l) → σ[i]? = some (some (.ref a)) → RvL K w ys l' → EnvR K G ⟨upd w.H a (.lst ys), w.cl⟩ (E.set i (.hl l')) σ as := by
  induction h with
  | nil => intro i l a ys l' e; simp at e
  | @un E σ as x t ih =>
    intro i l a ys l' e es r
    cases i with
    | zero => simp at e
    | succ i => exact .un x (ih (by simpa using e) (by simpa using es) r)
  | @v E σ as x d h t ih =>
    intro i l a ys l' e es r
    cases i with
    | zero => simp at e
    | succ i =>
      obtain ⟨b, xs, h1, h2, h3, _⟩ := t.getHl (i := i) (l := l) (by simpa using e)
      have ea : b = a := by
        have es' : σ[i]? = some (some (.ref a)) := by simpa using es
        rw [es'] at h1
        cases h1; rfl
      subst ea
      exact .v (h.upd' (by rw [h3]; decide)) (ih (by simpa using e) (by simpa using es) r)
  | @tok E σ as t ih =>
    intro i l a ys l' e es r
    cases i with
    | zero => simp at e
    | succ i => exact .tok (ih (by simpa using e) (by simpa using es) r)
  | @hl E σ as b xs ds h c n rr na t ih =>
    intro i l a ys l' e es r
    cases i with
    | zero =>
      have ea : b = a := by
        have es' : some (some (V.ref b)) = some (some (V.ref a)) := by simpa using es
        cases es'; rfl
      subst ea
      have n0 : w.cl b ≠ 0 := by rw [c]; decide
      exact .hl upd_same c n (r.upd' n0) na (t.other n0 na)
    | succ i =>
      obtain ⟨b', xs', h1, h2, h3, _, _, hm⟩ := t.getHl (i := i) (l := l) (by simpa using e)
      have ea : b' = a := by
        have es' : σ[i]? = some (some (.ref a)) := by simpa using es
        rw [es'] at h1
        cases h1; rfl
      subst ea
      have ne : b ≠ b' := fun z => na (by rw [z]; exact hm)
      have n0 : w.cl b' ≠ 0 := by rw [h3]; decide
      exact .hl (Ow_other b _ h ne) c n (rr.upd' n0) na (ih (by simpa using e) (by simpa using es) r)
  | @hd E σ as b ks xs ds h c n l0 rr na t ih =>
    intro i l a ys l' e es r
    cases i with
    | zero => simp at e
    | succ i =>
      obtain ⟨b', xs', h1, h2, h3, _, _, hm⟩ := t.getHl (i := i) (l := l) (by simpa using e)
      have ea : b' = a := by
        have es' : σ[i]? = some (some (.ref a)) := by simpa using es
        rw [es'] at h1
        cases h1; rfl
      subst ea
      have ne : b ≠ b' := fun z => na (by rw [z]; exact hm)
      have n0 : w.cl b' ≠ 0 := by rw [h3]; decide
      exact .hd (Ow_other b _ h ne) c n l0 (rr.upd' n0) na (ih (by simpa using e) (by simpa using es) r)
/-- the own list at i becomes data -/
theorem EnvR.froze (h : EnvR K G w E σ as) : ∀ {i : Nat} {l : List PyData} {a : Addr}, E[i]? = some (.hl l) → σ[i]? = some (some (.ref a)) → ∃ bs, EnvR K G (w.freeze a) (E.set i (.v (.list l))) σ bs ∧ ∀ b ∈ bs, b ∈ as := by
  have keep : ∀ {E : List S} {σ : L2.St} {as : List Addr}, EnvR K G w E σ as → ∀ {a : Addr}, a ∉ as → w.cl a = 1 → EnvR K G (w.freeze a) E σ as := by
    intro E σ as h
    induction h with
    | nil => intro a _ _; exact .nil
    | un x _ ih => intro a na c; exact .un x (ih na c)
    | v h _ ih => intro a na c; exact .v (h.pu freeze_pu) (ih na c)
    | tok _ ih => intro a na c; exact .tok (ih na c)
    | @hl E σ as b xs ds h c n r nb _ ih =>
      intro a na c'
      have ne : b ≠ a := fun z => na (by rw [z]; exact List.mem_cons_self)
      exact .hl h (by show (if b = a then 0 else w.cl b) = 1; rw [if_neg ne]; exact c) n (r.pu freeze_pu) nb (ih (fun z => na (List.mem_cons_of_mem _ z)) c')
    | @hd E σ as b ks xs ds h c n l r nb _ ih =>
      intro a na c'
      have ne : b ≠ a := fun z => na (by rw [z]; exact List.mem_cons_self)
      exact .hd h (by show (if b = a then 0 else w.cl b) = 1; rw [if_neg ne]; exact c) n l (r.pu freeze_pu) nb (ih (fun z => na (List.mem_cons_of_mem _ z)) c')
  induction h with
  | nil => intro i l a e; simp at e
  | @un E σ as x t ih =>
    intro i l a e es
    cases i with
    | zero => simp at e
    | succ i => obtain ⟨bs, h1, h2⟩ := ih (i := i) (by simpa using e) (by simpa using es); exact ⟨bs, .un x h1, h2⟩
  | @v E σ as x d h t ih =>
    intro i l a e es
    cases i with
    | zero => simp at e
    | succ i => obtain ⟨bs, h1, h2⟩ := ih (i := i) (by simpa using e) (by simpa using es); exact ⟨bs, .v (h.pu freeze_pu) h1, h2⟩
  | @tok E σ as t ih =>
    intro i l a e es
    cases i with
    | zero => simp at e
    | succ i => obtain ⟨bs, h1, h2⟩ := ih (i := i) (by simpa using e) (by simpa using es); exact ⟨bs, .tok h1, h2⟩
  | @hl E σ as b xs ds h c n rr na t ih =>
    intro i l a e es
    cases i with
    | zero =>
      have ea : b = a := by
        have es' : some (some (V.ref b)) = some (some (V.ref a)) := by simpa using es
        cases es'; rfl
      have el : ds = l := by simpa using e
      subst ea
      subst el
      exact ⟨as, .v (.lst (.inl ⟨.inl h, if_pos rfl⟩) (rr.pu freeze_pu)) (keep t na c), fun b hb => List.mem_cons_of_mem _ hb⟩
    | succ i =>
      obtain ⟨b', xs', h1, h2, h3, _, _, hm⟩ := t.getHl (i := i) (l := l) (by simpa using e)
      have ea : b' = a := by
        have es' : σ[i]? = some (some (.ref a)) := by simpa using es
        rw [es'] at h1
        cases h1; rfl
      subst ea
      have ne : b ≠ b' := fun z => na (by rw [z]; exact hm)
      obtain ⟨bs, q1, q2⟩ := ih (i := i) (by simpa using e) (by simpa using es)
      refine ⟨b :: bs, .hl h (by show (if b = b' then 0 else w.cl b) = 1; rw [if_neg ne]; exact c) n (rr.pu freeze_pu) (fun z => na (q2 b z)) q1, fun x hx => ?_⟩
      rcases List.mem_cons.mp hx with z | z
      · rw [z]; exact List.mem_cons_self
      · exact List.mem_cons_of_mem _ (q2 x z)
  | @hd E σ as b ks xs ds h c n l0 rr na t ih =>
    intro i l a e es
    cases i with
    | zero => simp at e
    | succ i =>
      obtain ⟨b', xs', h1, h2, h3, _, _, hm⟩ := t.getHl (i := i) (l := l) (by simpa using e)
      have ea : b' = a := by
        have es' : σ[i]? = some (some (.ref a)) := by simpa using es
        rw [es'] at h1
        cases h1; rfl
      subst ea
      have ne : b ≠ b' := fun z => na (by rw [z]; exact hm)
      obtain ⟨bs, q1, q2⟩ := ih (i := i) (by simpa using e) (by simpa using es)
      refine ⟨b :: bs, .hd h (by show (if b = b' then 0 else w.cl b) = 1; rw [if_neg ne]; exact c) n l0 (rr.pu freeze_pu) (fun z => na (q2 b z)) q1, fun x hx => ?_⟩
      rcases List.mem_cons.mp hx with z | z
      · rw [z]; exact List.mem_cons_self
      · exact List.mem_cons_of_mem _ (q2 x z)
/-- a new own list at i -/
theorem EnvR.newHl (h : EnvR K G w E σ as) : ∀ (i : Nat) {p : Addr}, w.H p = none → G.w0.H p = none → i < E.length → ∃ bs, EnvR K G (w.new p (.lst []) 1) (E.set i (.hl [])) (σ.set i (some (.ref p))) bs ∧ ∀ b ∈ bs, b ∈ as ∨ b = p := by
  have fresh : ∀ {p : Addr} {as : List Addr} {E : List S} {σ : L2.St}, EnvR K G w E σ as → w.H p = none → p ∉ as := fun {p as E σ} h n z => by
    obtain ⟨⟨o, e⟩, _⟩ := h.own p z
    rw [n] at e; cases e
  induction h with
  | nil => intro i p _ _ hi; simp at hi
  | @un E σ as x t ih =>
    intro i p n n0 hi
    cases i with
    | zero => exact ⟨p :: as, .hl upd_same (if_pos rfl) n0 .nil (fresh t n) (t.go (Go.new' n 1)), fun b hb => by rcases List.mem_cons.mp hb with z | z; exact .inr z; exact .inl z⟩
    | succ i => obtain ⟨bs, h1, h2⟩ := ih i n n0 (by simpa using hi); exact ⟨bs, .un x h1, h2⟩
  | @v E σ as x d h t ih =>
    intro i p n n0 hi
    cases i with
    | zero => exact ⟨p :: as, .hl upd_same (if_pos rfl) n0 .nil (fresh t n) (t.go (Go.new' n 1)), fun b hb => by rcases List.mem_cons.mp hb with z | z; exact .inr z; exact .inl z⟩
    | succ i => obtain ⟨bs, h1, h2⟩ := ih i n n0 (by simpa using hi); exact ⟨bs, .v (h.go (Go.new' n 1)) h1, h2⟩
  | @tok E σ as t ih =>
    intro i p n n0 hi
    cases i with
    | zero => exact ⟨p :: as, .hl upd_same (if_pos rfl) n0 .nil (fresh t n) (t.go (Go.new' n 1)), fun b hb => by rcases List.mem_cons.mp hb with z | z; exact .inr z; exact .inl z⟩
    | succ i => obtain ⟨bs, h1, h2⟩ := ih i n n0 (by simpa using hi); exact ⟨bs, .tok h1, h2⟩
  | @hl E σ as b xs ds h c nn rr na t ih =>
    intro i p n n0 hi
    have nbp : b ≠ p := fun z => by rw [z, n] at h; cases h
    cases i with
    | zero => exact ⟨p :: as, .hl upd_same (if_pos rfl) n0 .nil (fresh t n) (t.go (Go.new' n 1)), fun x hx => by rcases List.mem_cons.mp hx with z | z; exact .inr z; exact .inl (List.mem_cons_of_mem _ z)⟩
    | succ i =>
      obtain ⟨bs, h1, h2⟩ := ih i n n0 (by simpa using hi)
      refine ⟨b :: bs, .hl (by show upd w.H p (.lst []) b = some (.lst xs); rw [upd_ne nbp]; exact h) (by show (if b = p then 1 else w.cl b) = 1; rw [if_neg nbp]; exact c) nn (rr.go (Go.new' n 1)) (fun z => by
        rcases h2 b z with q | q
        · exact na q
        · exact nbp q) h1, fun x hx => ?_⟩
      rcases List.mem_cons.mp hx with z | z
      · rw [z]; exact .inl List.mem_cons_self
      · rcases h2 x z with q | q
        · exact .inl (List.mem_cons_of_mem _ q)
        · exact .inr q
  | @hd E σ as b ks xs ds h c nn l0 rr na t ih =>
    intro i p n n0 hi
    have nbp : b ≠ p := fun z => by rw [z, n] at h; cases h
    cases i with
    | zero => exact ⟨p :: as, .hl upd_same (if_pos rfl) n0 .nil (fresh t n) (t.go (Go.new' n 1)), fun x hx => by rcases List.mem_cons.mp hx with z | z; exact .inr z; exact .inl (List.mem_cons_of_mem _ z)⟩
    | succ i =>
      obtain ⟨bs, h1, h2⟩ := ih i n n0 (by simpa using hi)
      refine ⟨b :: bs, .hd (by show upd w.H p (.lst []) b = some _; rw [upd_ne nbp]; exact h) (by show (if b = p then 1 else w.cl b) = 1; rw [if_neg nbp]; exact c) nn l0 (rr.go (Go.new' n 1)) (fun z => by
        rcases h2 b z with q | q
        · exact na q
        · exact nbp q) h1, fun x hx => ?_⟩
      rcases List.mem_cons.mp hx with z | z
      · rw [z]; exact .inl List.mem_cons_self
      · rcases h2 x z with q | q
        · exact .inl (List.mem_cons_of_mem _ q)
        · exact .inr q
end
section
variable {G : Ct} {X : Cx} {e : Expr} {te : TX} {pos : Pos}
theorem go_fresh {w u : Wd} {p : Addr} (g : Go w u) (n : u.H p = none) : w.H p = none := by
  cases z : w.H p with
  | none => rfl
  | some o =>
    obtain ⟨o', h⟩ := g.tr p o z
    rw [n] at h; cases h
/-- x = [], x the frame's own -/
@[simp] def xOwn (i : Nat) : TSt := fun k E g => i < E.length ∧ k.nx (E.set i (.hl [])) g
theorem xs_own (i : Nat) {x : Str} {p1 p2 : Pos} (h : PS X (.Assign [.Name x p1] (.List [] p2) pos) (tAsg (tLst tNil) (gName i))) : XS G X (.Assign [.Name x p1] (.List [] p2) pos) (xOwn i) := by
  refine ⟨fun k k' E g h ⟨l, q⟩ => ⟨l, h.nx _ _ q⟩, h.imp fun D σ H ⟨cl, E, g, as, j, go, r, hi, q⟩ => ⟨Nat.zero_le _, fun p np => ?_⟩⟩
  obtain ⟨bs, r1, _⟩ := r.newHl i np (go_fresh go np) hi
  exact q _ _ bs (G.st0 (Go0.new np 1) j) (go.trans (Go.new' np 1)) (Go.new' np 1).pu r1
/-- x.append(e), x the frame's own -/
@[simp] def xApp (i : Nat) (te : TX) : TSt := fun k E g => ∃ l, E[i]? = some (.hl l) ∧ l.length < sizeLine ∧ te E g fun d g1 => k.nx (E.set i (.hl (l ++ [d]))) g1
theorem xs_app (i : Nat) {s : Stmt} (he : XE G X e te) (h : ∀ te', PE X e te' → PS X s (tDrop (tBM X.K "list" rAppend (tVar i) (tCons te' tNil)))) : XS G X s (xApp i te) := by
  refine ⟨fun k k' E g h ⟨l, e1, e2, q⟩ => ⟨l, e1, e2, he.mo _ _ _ _ (fun d g1 q1 => h.nx _ _ q1) q⟩, (h _ he.pe).imp fun D σ H ⟨cl, E, g, as, j, go, r, l, e1, e2, q⟩ => ?_⟩
  obtain ⟨a, xs, h1, h2, h3, h4, h5, _⟩ := r.getHl e1
  refine ⟨.ref a, h1, .inl ⟨rfl, _, .inl (.inl h2)⟩, cl, E, g, as, j, r, he.mo _ _ _ _ (fun d g1 q1 u v go1 j1 rv => ?_) q⟩
  have c2 : (⟨H, cl⟩ : Wd).cl a ≠ 2 := by rw [h3]; decide
  have hu : u.H a = some (.lst xs) := (go1.st a _ h2).2 c2
  have cu : u.cl a = 1 := ((go1.st a _ h2).1).trans h3
  have r4 := h4.go go1
  refine ⟨a, xs, v, rfl, rfl, hu, by rw [h4.len]; exact e2, ?_⟩
  exact q1 ⟨upd u.H a (.lst (xs ++ [v])), u.cl⟩ σ as (write_j j1 (by rw [cu]; decide)) (write_go (go.trans go1) h5) (go1.pu.trans (write_pu (by rw [cu]; decide))) ((r.go go1).setHl e1 h1 (r4.app (.cons rv .nil)))
/-- from here on the own list at i is data -/
@[simp] def xFrz (i : Nat) (t : TSt) : TSt := fun k E g => ∃ l, E[i]? = some (.hl l) ∧ t k (E.set i (.v (.list l))) g
theorem xss_frz (i : Nat) {sts : List Stmt} {t : TSt} (h : XSs G X sts t) : XSs G X sts (xFrz i t) := by
  refine ⟨fun k k' E g hk ⟨l, e, q⟩ => ⟨l, e, h.mo _ _ _ _ hk q⟩, h.ps.imp fun D σ H ⟨cl, E, g, as, j, go, r, l, e, q⟩ => ?_⟩
  obtain ⟨a, xs, h1, h2, h3, h4, h5, _⟩ := r.getHl e
  obtain ⟨bs, r', _⟩ := r.froze e h1
  have c2 : (⟨H, cl⟩ : Wd).cl a ≠ 2 := by rw [h3]; decide
  exact ⟨((⟨H, cl⟩ : Wd).freeze a).cl, E.set i (.v (.list l)), g, bs, freeze_j j c2, freeze_go go h5, r', h.mo _ _ _ _ (ktOf_le freeze_pu) q⟩
end
/-! ### dict(pairs) of a tuple or a list -/
section
variable {G : Ct} {X : Cx} {K : PySem.W.Frag}
@[simp] def pairD : PyData → Option (Key × PyData)
  | .tuple [.int i, d] => some (.inl i, d)
  | .tuple [.str x, d] => some (.inr x, d)
  | _ => none
@[simp] def pairsD : List PyData → Option (List (Key × PyData))
  | [] => some []
  | d :: r => match pairD d, pairsD r with
    | some p, some l => some (p :: l)
    | _, _ => none
/-- dict(t): keys apart, not empty -/
@[simp] def cDict : CD := fun ds g Q => ∃ l kvs, ds = [.tuple l] ∧ l ≠ [] ∧ pairsD l = some kvs ∧ (kvs.map (·.1)).Nodup ∧ Q (.dict (kvs.map fun p => (kD p.1, p.2))) g
/-- a tuple without a dict of its own -/
def TupN (K : PySem.W.Frag) (H : Hp) (a : Addr) (xs : List V) : Prop := (∃ o : Obj, H a = some (.frz o (.tup xs)) ∧ o.dict = none) ∨ (SqT K (fun _ => none) a xs ∧ ∀ o, K.lookup a = some o → o.dict = none)
theorem tupN_at {pins : List (Addr × Obj)} {σ : L2.St} {H : Hp} {s : Shared} {a : Addr} {xs : List V} (I : Inv X pins σ H s) (h : TupN X.K H a xs) : ∃ (o : Obj) (its : List Value) (n : Nat), s.heap.get? a = some o ∧ o.cls = .type "tuple" ∧ o.dict = none ∧ o.data = .seq its.toArray n ∧ Vals xs its ∧ xs.length ≤ sizeLine := by
  rcases h with ⟨o, h, d⟩ | ⟨(h | ⟨_, h⟩) | ⟨o, its, n, h1, h2, h3, h4, h5⟩, d⟩
  · obtain ⟨ho, z, its, rv, ot, ho2, hc, n, hdat⟩ := (show ObjOk X.prog X.w H s.heap a (.frz o (.tup xs)) from I.hok a _ h)
    rw [ho] at ho2
    cases ho2
    exact ⟨o, its, n, ho, hc, d, hdat, rv, z⟩
  · cases h
  · cases h
  · have l := h5.length
    simp only [Array.length_toList] at l
    exact ⟨o, its.toList, n, I.kIn a o h1, h2, d o h1, by simpa using h3, h5, by omega⟩
def rDictT : List V → Hp → VK → Prop := fun vs H Q => ∃ (a : Addr) (ps : List Addr) (kvs : List (Key × V)), vs = [.ref a] ∧ TupN K H a (ps.map V.ref) ∧
  Paired (fun p kv => SqT K H p [kV kv.1, kv.2]) ps kvs ∧ (kvs.map (·.1)).Nodup ∧ ∀ p, H p = none → ∀ od : Obj, Q (.ref p) (upd H p (.frz od (.dK kvs)))
theorem putK_snoc {kvs : List (Key × V)} {k : Key} {v : V} (h : k ∉ kvs.map (·.1)) : putK kvs k v = kvs ++ [(k, v)] := putK_new v (by
  induction kvs with
  | nil => rfl
  | cons p r ih =>
    have h1 : ¬ p.1 = k := fun e => h (by simp [e])
    rw [valV_neg h1]
    exact ih fun z => h (by simp at z ⊢; exact .inr z))
theorem mergeK_nodup : ∀ (l acc : List (Key × V)), ((acc ++ l).map (·.1)).Nodup → mergeK acc l = acc ++ l
  | [], acc, _ => by simp [mergeK]
  | p :: r, acc, h => by
    have hp : p.1 ∉ acc.map (·.1) := by
      rw [List.map_append, List.nodup_append] at h
      intro z
      exact h.2.2 p.1 z p.1 (by simp) rfl
    show mergeK (putK acc p.1 p.2) r = acc ++ p :: r
    rw [putK_snoc hp, mergeK_nodup r (acc ++ [(p.1, p.2)]) (by simpa using h)]
    simp
theorem call_dictT (hcalm : X.calm = true) : CallR X (.type "dict") (rDictT (K := X.K)) := by
  intro pins s σ H xs us Q I r ⟨a, ps, kvs, ex, hH, hp, hnd, q⟩
  subst ex
  obtain ⟨u, eu, rx⟩ := vals1 r
  subst eu
  cases rx
  obtain ⟨o, its, n, ho, hc, hd, hdat, rv, z⟩ := tupN_at I hH
  have ei := refs_at rv
  subst ei
  rw [List.length_map] at z
  obtain ⟨prs, rel, hl, hpr⟩ := pairs_of I hp
  -- the keys as they stand
  have key : ∀ (j : Nat) (q' : Key × Value), prs[j]? = some q' → ∃ (b : Addr) (u : Value), ps[j]? = some b ∧ IsTup s.heap b #[u, q'.2] ∧ keyIs q'.1 u = true := hpr
  let kvp : List (Value × Value) := (List.range prs.length).map fun j => match prs[j]?, ps[j]? with
    | some q', some b => (match s.heap.get? b with
      | some ob => (match ob.data with
        | .seq it _ => (it.getD 0 .none, q'.2)
        | _ => (.none, .none))
      | none => (.none, .none))
    | _, _ => (.none, .none)
  have kvl : kvp.length = prs.length := by simp [kvp]
  have kvg : ∀ (j : Nat) (k v : Value), kvp[j]? = some (k, v) → ∃ (q' : Key × Value) (b : Addr), prs[j]? = some q' ∧ ps[j]? = some b ∧ v = q'.2 ∧ IsTup s.heap b #[k, v] ∧ keyIs q'.1 k = true := by
    intro j k v e
    have hj : j < prs.length := by
      have := (List.getElem?_eq_some_iff.mp e).1
      rw [kvl] at this
      exact this
    have e1 : prs[j]? = some prs[j] := List.getElem?_eq_getElem hj
    obtain ⟨b, u, e2, ht, hk⟩ := key j _ e1
    obtain ⟨ob, hob, hcb, nb, hdb⟩ := id ht
    have e3 : kvp[j]? = some (u, prs[j].2) := by
      simp only [kvp, List.getElem?_map, List.getElem?_range hj, Option.map_some, e1, e2, hob, hdb]
      rfl
    rw [e3] at e
    cases e
    exact ⟨_, b, e1, e2, rfl, ht, hk⟩
  have hpl : ps.length = kvp.length := by rw [kvl, hl]
  let Ts : Nat → Addr := fun j => ps.getD j 0
  refine PySem.call_dict_pairs (knd := mixKind X.prog X.w) (kvs := prs) (T := "tuple") (PairArg.tuple a (ps.map Value.ref).toArray Ts kvp) (I.ok.hd hcalm) ⟨⟨o, n, ho, hc, hd, hdat⟩, by simp [hpl], fun j k v e => ?_⟩ ⟨kvl.symm, fun i key' v e => ?_⟩ (by rw [← hpl]; exact z) fun h' tk hd' k => ?_
  · obtain ⟨q', b, e1, e2, e3, e4, e5⟩ := kvg j k v e
    have et : Ts j = b := by simp [Ts, List.getD, e2]
    rw [et]
    exact ⟨by simp [e2], .inl e4⟩
  · obtain ⟨q', b, e1, e2, e3, e4, e5⟩ := kvg i key' v e
    subst e3
    exact ⟨q'.1, by rw [e1], e5⟩
  · have hm : (s.heap.objs.size == sysModules) = false := beq_eq_false_iff_ne.mpr (Nat.ne_of_gt I.big)
    have em : mergeK [] kvs = kvs := by
      have := mergeK_nodup kvs [] (by simpa using hnd)
      simpa using this
    have kvr : KV kvs (merged [] prs) := by
      have := KV.merge (more := kvs) (rs := prs) (kvs := []) (vs := []) rel .nil
      rw [em] at this
      exact this
    have hlen : kvs.length ≤ sizeLine := by
      rw [rel.length, hl]
      exact z
    have I1 := I.laid (t' := tk) (fun b o' e => k b o' (by simp) e) (Nat.le_refl _) (show ObjOk X.prog X.w _ _ _ (.dK kvs) from ⟨hlen, hm, merged [] prs, kvr, hd'⟩)
    obtain ⟨od, I2⟩ := I1.lock upd_same trivial
    rw [upd_upd] at I2
    exact ⟨.ref s.heap.objs.size, upd H s.heap.objs.size (.frz od (.dK kvs)), I2, rfl, q _ (I.hok.fresh (Nat.le_refl _)) od⟩
theorem pairsD_rv {w : Wd} : ∀ {l : List PyData} {xs : List V} {kvs : List (Key × PyData)}, RvL K w xs l → pairsD l = some kvs → ∃ (ps : List Addr) (ys : List V), xs = ps.map V.ref ∧ kvs.length = ys.length ∧ RvL K w ys (kvs.map (·.2)) ∧ Paired (fun p (kv : Key × V) => SqT K w.H p [kV kv.1, kv.2]) ps ((kvs.map (·.1)).zip ys)
  | [], _, _, .nil, e => by cases e; exact ⟨[], [], rfl, rfl, .nil, .nil⟩
  | d :: r, _, kvs, .cons h t, e => by
    have e' : (match pairD d, pairsD r with | some p, some l => some (p :: l) | _, _ => none) = some kvs := e
    cases e1 : pairD d with
    | none => rw [e1] at e'; cases e'
    | some p =>
      cases e2 : pairsD r with
      | none => rw [e1, e2] at e'; cases e'
      | some l =>
        rw [e1, e2] at e'
        cases e'
        obtain ⟨ps, ys, h1, h2, h3, h4⟩ := pairsD_rv t e2
        unfold pairD at e1
        split at e1
        · cases e1
          cases h with
          | tup hT hr =>
            cases hr with
            | cons hk hr =>
              cases hr with
              | cons hv hr =>
                cases hr
                cases hk
                exact ⟨_ :: ps, _ :: ys, by rw [h1]; rfl, by simp [h2], .cons hv h3, .cons hT.sq h4⟩
        · cases e1
          cases h with
          | tup hT hr =>
            cases hr with
            | cons hk hr =>
              cases hr with
              | cons hv hr =>
                cases hr
                cases hk
                exact ⟨_ :: ps, _ :: ys, by rw [h1]; rfl, by simp [h2], .cons hv h3, .cons hT.sq h4⟩
        · cases e1
theorem tupA_n {w : Wd} {a : Addr} {p : Addr} {ps : List Addr} (h : TupA K w a ((p :: ps).map V.ref)) : TupN K w.H a ((p :: ps).map V.ref) := by
  rcases h with ⟨o, h, d, _⟩ | h
  · exact .inl ⟨o, h, d⟩
  · exact .inr h
theorem cd_dict : CallD G K (rDictT (K := K)) cDict := by
  refine ⟨fun ds g Q Q' hq ⟨l, kvs, e1, e2, e3, e4, q⟩ => ⟨l, kvs, e1, e2, e3, e4, hq _ _ q⟩, fun w g vs ds Q j r ⟨l, kvs, e1, e2, e3, e4, q⟩ => ?_⟩
  subst e1
  cases r with
  | cons h t =>
    cases t
    cases h with
    | tup hT hr =>
      obtain ⟨ps, ys, h1, h2, h3, h4⟩ := pairsD_rv hr e3
      subst h1
      cases ps with
      | nil =>
        cases hr
        exact absurd rfl e2
      | cons p ps =>
        have hl : (kvs.map (·.1)).length = ys.length := by simpa using h2
        refine ⟨_, p :: ps, (kvs.map (·.1)).zip ys, rfl, tupA_n hT, h4, ?_, fun x nx od => ?_⟩
        · rw [List.map_fst_zip (by omega)]; exact e4
        · have rv : Rv K (w.new x (.frz od (.dK ((kvs.map (·.1)).zip ys))) 0) (.ref x) (.dict (((kvs.map (·.1)).map kD).zip (kvs.map (·.2)))) := .dic ⟨⟨od, upd_same⟩, if_pos rfl⟩ hl (h3.go (Go.new' nx 0))
          have ez : ((kvs.map (·.1)).map kD).zip (kvs.map (·.2)) = kvs.map fun p => (kD p.1, p.2) := by
            rw [List.map_map, List.zip_map']; rfl
          rw [ez] at rv
          exact q (w.new x _ 0) _ (Go.new' nx 0) (G.st0 (Go0.new nx 0) j) rv
end
/-! ### a module's own dict with text keys -/
/-- it stands at d, and tells what tbl tells -/
structure KTab (K : PySem.W.Frag) (w : World) (d : Addr) (tbl : List (Str × PyData)) : Prop where
  ex : ∃ es n, KDict K w d es n
  look : ∀ z : Str, ∃ r, PySem.W.nsIn K d z = some r ∧ (match tbl.lookup z with
    | some dt => ∃ u v, r = some u ∧ RelV v u ∧ ∀ wd, Rv K wd v dt
    | none => r = none)
section
variable {G : Ct} {X : Cx} {e : Expr} {te : TX} {p pos : Pos} {x : Str} {d : Addr} {tbl : List (Str × PyData)}
@[simp] def xKIn (neg : Bool) (tbl : List (Str × PyData)) (te : TX) : TX := fun E g Q => te E g fun y g1 => ∃ z, y = .str z ∧ Q (.bool (if neg then !(tbl.lookup z).isSome else (tbl.lookup z).isSome)) g1
def oKIn (neg : Bool) (tbl : List (Str × PyData)) : OD := fun y _ g Q => ∃ z, y = .str z ∧ Q (.bool (if neg then !(tbl.lookup z).isSome else (tbl.lookup z).isSome)) g
theorem ktab_some {K : PySem.W.Frag} {w : World} (h : KTab K w d tbl) (z : Str) : ∃ r, PySem.W.nsIn K d z = some r ∧ r.isSome = (tbl.lookup z).isSome := by
  obtain ⟨r, h1, h2⟩ := h.look z
  refine ⟨r, h1, ?_⟩
  cases q : tbl.lookup z with
  | none => rw [q] at h2; rw [h2]; rfl
  | some dt =>
    rw [q] at h2
    obtain ⟨u, v, e, _⟩ := h2
    rw [e]; rfl
theorem xe_kin (T : KTab X.K X.w d tbl) (he : XE G X e te) (hg : Gl X x) (hm : X.mg x = some (.ref d)) (hd : (x == ("__debug__" : Str)) = false := by decide) (hk : behindInMarks .In (.Name x p) = false := by rfl) : XE G X (.Compare e [.In] [.Name x p] pos) (xKIn false tbl te) := by
  obtain ⟨es, n, D⟩ := T.ex
  refine ⟨fun E g Q Q' hq q => he.mo _ _ _ _ (fun y g1 ⟨z, e1, q1⟩ => ⟨z, e1, hq _ _ q1⟩) q, (pe_cmpR (op_in_kd D) he.pe (pe_glob (v := .ref d) hg hm rfl hd) hk).imp fun σ H Q ⟨cl, E, g, as, j, rE, q⟩ => ?_⟩
  refine ⟨cl, E, g, as, j, rE, he.mo _ _ _ _ (fun y g1 ⟨z, e1, q1⟩ u v go1 j1 rv1 => ?_) q⟩
  subst e1
  cases rv1
  obtain ⟨r, h1, h2⟩ := ktab_some T z
  exact ⟨z, r, rfl, rfl, h1, by rw [h2]; exact q1 u _ go1 j1 (.bl _)⟩
theorem xe_knotIn (T : KTab X.K X.w d tbl) (he : XE G X e te) (hg : Gl X x) (hm : X.mg x = some (.ref d)) (hd : (x == ("__debug__" : Str)) = false := by decide) (hk : behindInMarks .NotIn (.Name x p) = false := by rfl) : XE G X (.Compare e [.NotIn] [.Name x p] pos) (xKIn true tbl te) := by
  obtain ⟨es, n, D⟩ := T.ex
  refine ⟨fun E g Q Q' hq q => he.mo _ _ _ _ (fun y g1 ⟨z, e1, q1⟩ => ⟨z, e1, hq _ _ q1⟩) q, (pe_cmpR (op_notIn_kd D) he.pe (pe_glob (v := .ref d) hg hm rfl hd) hk).imp fun σ H Q ⟨cl, E, g, as, j, rE, q⟩ => ?_⟩
  refine ⟨cl, E, g, as, j, rE, he.mo _ _ _ _ (fun y g1 ⟨z, e1, q1⟩ u v go1 j1 rv1 => ?_) q⟩
  subst e1
  cases rv1
  obtain ⟨r, h1, h2⟩ := ktab_some T z
  exact ⟨z, r, rfl, rfl, h1, by rw [h2]; exact q1 u _ go1 j1 (.bl _)⟩
/-- NAME[k] -/
@[simp] def xKGet (tbl : List (Str × PyData)) (te : TX) : TX := fun E g Q => te E g fun y g1 => ∃ z dt, y = .str z ∧ tbl.lookup z = some dt ∧ Q dt g1
theorem xe_kget (T : KTab X.K X.w d tbl) (he : XE G X e te) (hg : Gl X x) (hm : X.mg x = some (.ref d)) (hs : PlainIx e) (hd : (x == ("__debug__" : Str)) = false := by decide) : XE G X (.Subscript (.Name x p) e pos) (xKGet tbl te) := by
  obtain ⟨es, n, D⟩ := T.ex
  refine ⟨fun E g Q Q' hq q => he.mo _ _ _ _ (fun y g1 ⟨z, dt, e1, e2, q1⟩ => ⟨z, dt, e1, e2, hq _ _ q1⟩) q, (pe_ix ix_kdict (pe_glob (v := .ref d) hg hm rfl hd) he.pe hs).imp fun σ H Q ⟨cl, E, g, as, j, rE, q⟩ => ?_⟩
  refine ⟨cl, E, g, as, j, rE, he.mo _ _ _ _ (fun y g1 ⟨z, dt, e1, e2, q1⟩ u v go1 j1 rv1 => ?_) q⟩
  subst e1
  cases rv1
  obtain ⟨r, h1, h2⟩ := T.look z
  rw [e2] at h2
  obtain ⟨u0, v0, e3, r0, rd⟩ := h2
  subst e3
  exact ⟨d, z, v0, rfl, rfl, ⟨es, n, u0, D.at_, D.lit, h1, r0⟩, q1 u v0 go1 j1 (rd u)⟩
end
end TL
namespace TL
open PySem PySem.Spec PyProof.Rows L2 RZ
section
variable {G : Ct} {X : Cx} {e : Expr} {te : TX} {t : TL'} {p pos : Pos} {x : Str} {d : Addr} {tbl : List (Str × PyData)}
/-- a, b = x, y with plain local names -/
@[simp] def xPar2 (i j : Nat) (t : TL') : TSt := fun k E g => t E g fun ss g1 => ∃ a b, ss = [.v a, .v b] ∧ k.nx ((E.set i (.v a)).set j (.v b)) g1
theorem xs_par2 (i j : Nat) {s : Stmt} {es : List Expr} (ha : XA G X es t) (h : ∀ ta, PA X es ta → PS X s (tPar i j ta)) : XS G X s (xPar2 i j t) := by
  refine ⟨fun k k' E g h q => ha.mo _ _ _ _ (fun ss g1 ⟨a, b, e1, q1⟩ => ⟨a, b, e1, h.nx _ _ q1⟩) q, (h _ ha.pa).imp fun D σ H ⟨cl, E, g, as, j', go, r, q⟩ => ?_⟩
  refine ⟨cl, E, g, as, j', r, ha.mo _ _ _ _ (fun ss g1 ⟨a, b, e1, q1⟩ u vs go1 j1 rs => ?_) q⟩
  subst e1
  cases rs with
  | v h1 t1 =>
    cases t1 with
    | v h2 t2 =>
      cases t2
      obtain ⟨bs, r1, _⟩ := (r.go go1).set i h1
      obtain ⟨cs, r2, _⟩ := r1.set j h2
      exact ⟨_, _, rfl, q1 u _ cs j1 (go.trans go1) go1.pu r2⟩
@[simp] def xPar3 (i j l : Nat) (t : TL') : TSt := fun k E g => t E g fun ss g1 => ∃ a b c, ss = [.v a, .v b, .v c] ∧ k.nx (((E.set i (.v a)).set j (.v b)).set l (.v c)) g1
theorem xs_par3 (i j l : Nat) {s : Stmt} {es : List Expr} (ha : XA G X es t) (h : ∀ ta, PA X es ta → PS X s (tPar3 i j l ta)) : XS G X s (xPar3 i j l t) := by
  refine ⟨fun k k' E g h q => ha.mo _ _ _ _ (fun ss g1 ⟨a, b, c, e1, q1⟩ => ⟨a, b, c, e1, h.nx _ _ q1⟩) q, (h _ ha.pa).imp fun D σ H ⟨cl, E, g, as, j', go, r, q⟩ => ?_⟩
  refine ⟨cl, E, g, as, j', r, ha.mo _ _ _ _ (fun ss g1 ⟨a, b, c, e1, q1⟩ u vs go1 j1 rs => ?_) q⟩
  subst e1
  cases rs with
  | v h1 t1 =>
    cases t1 with
    | v h2 t2 =>
      cases t2 with
      | v h3 t3 =>
        cases t3
        obtain ⟨bs, r1, _⟩ := (r.go go1).set i h1
        obtain ⟨cs, r2, _⟩ := r1.set j h2
        obtain ⟨ds, r3, _⟩ := r2.set l h3
        exact ⟨_, _, _, rfl, q1 u _ ds j1 (go.trans go1) go1.pu r3⟩
/-- k in NAME, as a test -/
theorem kin_mo {neg : Bool} (he : XE G X e te) : ∀ E g Q Q', (∀ d g', Q d g' → Q' d g') → xKIn neg tbl te E g Q → xKIn neg tbl te E g Q' :=
  fun E g Q Q' hq q => he.mo _ _ _ _ (fun y g1 ⟨z, e1, q1⟩ => ⟨z, e1, hq _ _ q1⟩) q
theorem xc_kin (T : KTab X.K X.w d tbl) (he : XE G X e te) (hg : Gl X x) (hm : X.mg x = some (.ref d)) (hd : (x == ("__debug__" : Str)) = false := by decide) (hk : behindInMarks .In (.Name x p) = false := by rfl) : XC G X (.Compare e [.In] [.Name x p] pos) (xTest (xKIn false tbl te)) := by
  obtain ⟨es, n, D⟩ := T.ex
  refine ⟨xTest_mo (kin_mo he), (pt_cmpR (op_in_kd D) he.pe (pe_glob (v := .ref d) hg hm rfl hd) hk).imp fun σ H Q q => ?_⟩
  obtain ⟨cl, E, g, as, j, rE, q⟩ := xTest_to (K := X.K) (kin_mo he) σ H Q q
  refine ⟨cl, E, g, as, j, rE, he.mo _ _ _ _ (fun y g1 ⟨z, e1, q1⟩ u v go1 j1 rv1 => ?_) q⟩
  subst e1
  cases rv1
  obtain ⟨r, h1, h2⟩ := ktab_some T z
  exact ⟨z, r, rfl, rfl, h1, by rw [h2]; exact q1 u _ go1 j1 (.bl _)⟩
theorem xc_knotIn (T : KTab X.K X.w d tbl) (he : XE G X e te) (hg : Gl X x) (hm : X.mg x = some (.ref d)) (hd : (x == ("__debug__" : Str)) = false := by decide) (hk : behindInMarks .NotIn (.Name x p) = false := by rfl) : XC G X (.Compare e [.NotIn] [.Name x p] pos) (xTest (xKIn true tbl te)) := by
  obtain ⟨es, n, D⟩ := T.ex
  refine ⟨xTest_mo (kin_mo he), (pt_cmpR (op_notIn_kd D) he.pe (pe_glob (v := .ref d) hg hm rfl hd) hk).imp fun σ H Q q => ?_⟩
  obtain ⟨cl, E, g, as, j, rE, q⟩ := xTest_to (K := X.K) (kin_mo he) σ H Q q
  refine ⟨cl, E, g, as, j, rE, he.mo _ _ _ _ (fun y g1 ⟨z, e1, q1⟩ u v go1 j1 rv1 => ?_) q⟩
  subst e1
  cases rv1
  obtain ⟨r, h1, h2⟩ := ktab_some T z
  exact ⟨z, r, rfl, rfl, h1, by rw [h2]; exact q1 u _ go1 j1 (.bl _)⟩
end
/-! ### a module's constant -/
structure Cst (K : PySem.W.Frag) (mg : Str → Option Value) (x : Str) (d : PyData) : Prop where
  ex : ∃ v u, mg x = some u ∧ RelV v u ∧ ∀ w, Rv K w v d
theorem Cst.xe {G : Ct} {X : Cx} {x : Str} {d : PyData} {pos : Pos} (c : Cst X.K X.mg x d) (hg : Gl X x) (hd : (x == ("__debug__" : Str)) = false := by decide) : XE G X (.Name x pos) (xC d) :=
  let ⟨_, _, h1, h2, h3⟩ := c.ex; xe_glob hg h1 h2 h3 hd
theorem un65 {k : Nat} {A : Around} (r : Room k A) : A.units + 65 < cLine := by have := r.un; omega
/-! ### promises -/
def ptR (pre : List S → Nat → Prop) (post : List S → Nat → PyData → Nat → Prop) : PT' := fun ss g Q => pre ss g ∧ ∀ d g', post ss g d g' → Q d g'
theorem ptR_mo {pre : List S → Nat → Prop} {post : List S → Nat → PyData → Nat → Prop} : ∀ ss g Q Q', (∀ d g', Q d g' → Q' d g') → ptR pre post ss g Q → ptR pre post ss g Q' := fun ss g Q Q' hq q => ⟨q.1, fun d g' p => hq _ _ (q.2 d g' p)⟩
/-- a def that gives F of its arguments, under pre -/
def ptF (F : List S → Option PyData) : PT' := fun ss g Q => ∃ d, F ss = some d ∧ Q d g
theorem ptF_mo {F : List S → Option PyData} : ∀ ss g Q Q', (∀ d g', Q d g' → Q' d g') → ptF F ss g Q → ptF F ss g Q' := fun ss g Q Q' hq ⟨d, e, q⟩ => ⟨d, e, hq _ _ q⟩
end TL
namespace TL
open PySem PySem.Spec PyProof.Rows L2 RZ
/-! ### what a value is of, written out -/
@[simp] theorem isi_tuple_none  : isiD "tuple" PyData.none = false := by
  show ((kitB "NoneType" "tuple").getD false) = false
  decide +kernel
@[simp] theorem isi_tuple_bool (b : Bool) : isiD "tuple" (PyData.bool b) = false := by
  show ((kitB "bool" "tuple").getD false) = false
  decide +kernel
@[simp] theorem isi_tuple_int (i : Int) : isiD "tuple" (PyData.int i) = false := by
  show ((kitB "int" "tuple").getD false) = false
  decide +kernel
@[simp] theorem isi_tuple_str (s : Str) : isiD "tuple" (PyData.str s) = false := by
  show ((kitB "str" "tuple").getD false) = false
  decide +kernel
@[simp] theorem isi_tuple_list (l : List PyData) : isiD "tuple" (PyData.list l) = false := by
  show ((kitB "list" "tuple").getD false) = false
  decide +kernel
@[simp] theorem isi_tuple_tuple (l : List PyData) : isiD "tuple" (PyData.tuple l) = true := by
  show ((kitB "tuple" "tuple").getD false) = true
  decide +kernel
@[simp] theorem isi_tuple_dict (l : List (PyData × PyData)) : isiD "tuple" (PyData.dict l) = false := by
  show ((kitB "dict" "tuple").getD false) = false
  decide +kernel
@[simp] theorem isi_int_none  : isiD "int" PyData.none = false := by
  show ((kitB "NoneType" "int").getD false) = false
  decide +kernel
@[simp] theorem isi_int_bool (b : Bool) : isiD "int" (PyData.bool b) = true := by
  show ((kitB "bool" "int").getD false) = true
  decide +kernel
@[simp] theorem isi_int_int (i : Int) : isiD "int" (PyData.int i) = true := by
  show ((kitB "int" "int").getD false) = true
  decide +kernel
@[simp] theorem isi_int_str (s : Str) : isiD "int" (PyData.str s) = false := by
  show ((kitB "str" "int").getD false) = false
  decide +kernel
@[simp] theorem isi_int_list (l : List PyData) : isiD "int" (PyData.list l) = false := by
  show ((kitB "list" "int").getD false) = false
  decide +kernel
@[simp] theorem isi_int_tuple (l : List PyData) : isiD "int" (PyData.tuple l) = false := by
  show ((kitB "tuple" "int").getD false) = false
  decide +kernel
@[simp] theorem isi_int_dict (l : List (PyData × PyData)) : isiD "int" (PyData.dict l) = false := by
  show ((kitB "dict" "int").getD false) = false
  decide +kernel
@[simp] theorem isi_str_none  : isiD "str" PyData.none = false := by
  show ((kitB "NoneType" "str").getD false) = false
  decide +kernel
@[simp] theorem isi_str_bool (b : Bool) : isiD "str" (PyData.bool b) = false := by
  show ((kitB "bool" "str").getD false) = false
  decide +kernel
@[simp] theorem isi_str_int (i : Int) : isiD "str" (PyData.int i) = false := by
  show ((kitB "int" "str").getD false) = false
  decide +kernel
@[simp] theorem isi_str_str (s : Str) : isiD "str" (PyData.str s) = true := by
  show ((kitB "str" "str").getD false) = true
  decide +kernel
@[simp] theorem isi_str_list (l : List PyData) : isiD "str" (PyData.list l) = false := by
  show ((kitB "list" "str").getD false) = false
  decide +kernel
@[simp] theorem isi_str_tuple (l : List PyData) : isiD "str" (PyData.tuple l) = false := by
  show ((kitB "tuple" "str").getD false) = false
  decide +kernel
@[simp] theorem isi_str_dict (l : List (PyData × PyData)) : isiD "str" (PyData.dict l) = false := by
  show ((kitB "dict" "str").getD false) = false
  decide +kernel
@[simp] theorem isi_bool_none  : isiD "bool" PyData.none = false := by
  show ((kitB "NoneType" "bool").getD false) = false
  decide +kernel
@[simp] theorem isi_bool_bool (b : Bool) : isiD "bool" (PyData.bool b) = true := by
  show ((kitB "bool" "bool").getD false) = true
  decide +kernel
@[simp] theorem isi_bool_int (i : Int) : isiD "bool" (PyData.int i) = false := by
  show ((kitB "int" "bool").getD false) = false
  decide +kernel
@[simp] theorem isi_bool_str (s : Str) : isiD "bool" (PyData.str s) = false := by
  show ((kitB "str" "bool").getD false) = false
  decide +kernel
@[simp] theorem isi_bool_list (l : List PyData) : isiD "bool" (PyData.list l) = false := by
  show ((kitB "list" "bool").getD false) = false
  decide +kernel
@[simp] theorem isi_bool_tuple (l : List PyData) : isiD "bool" (PyData.tuple l) = false := by
  show ((kitB "tuple" "bool").getD false) = false
  decide +kernel
@[simp] theorem isi_bool_dict (l : List (PyData × PyData)) : isiD "bool" (PyData.dict l) = false := by
  show ((kitB "dict" "bool").getD false) = false
  decide +kernel
@[simp] theorem isi_list_none  : isiD "list" PyData.none = false := by
  show ((kitB "NoneType" "list").getD false) = false
  decide +kernel
@[simp] theorem isi_list_bool (b : Bool) : isiD "list" (PyData.bool b) = false := by
  show ((kitB "bool" "list").getD false) = false
  decide +kernel
@[simp] theorem isi_list_int (i : Int) : isiD "list" (PyData.int i) = false := by
  show ((kitB "int" "list").getD false) = false
  decide +kernel
@[simp] theorem isi_list_str (s : Str) : isiD "list" (PyData.str s) = false := by
  show ((kitB "str" "list").getD false) = false
  decide +kernel
@[simp] theorem isi_list_list (l : List PyData) : isiD "list" (PyData.list l) = true := by
  show ((kitB "list" "list").getD false) = true
  decide +kernel
@[simp] theorem isi_list_tuple (l : List PyData) : isiD "list" (PyData.tuple l) = false := by
  show ((kitB "tuple" "list").getD false) = false
  decide +kernel
@[simp] theorem isi_list_dict (l : List (PyData × PyData)) : isiD "list" (PyData.dict l) = false := by
  show ((kitB "dict" "list").getD false) = false
  decide +kernel
@[simp] theorem isi_dict_none  : isiD "dict" PyData.none = false := by
  show ((kitB "NoneType" "dict").getD false) = false
  decide +kernel
@[simp] theorem isi_dict_bool (b : Bool) : isiD "dict" (PyData.bool b) = false := by
  show ((kitB "bool" "dict").getD false) = false
  decide +kernel
@[simp] theorem isi_dict_int (i : Int) : isiD "dict" (PyData.int i) = false := by
  show ((kitB "int" "dict").getD false) = false
  decide +kernel
@[simp] theorem isi_dict_str (s : Str) : isiD "dict" (PyData.str s) = false := by
  show ((kitB "str" "dict").getD false) = false
  decide +kernel
@[simp] theorem isi_dict_list (l : List PyData) : isiD "dict" (PyData.list l) = false := by
  show ((kitB "list" "dict").getD false) = false
  decide +kernel
@[simp] theorem isi_dict_tuple (l : List PyData) : isiD "dict" (PyData.tuple l) = false := by
  show ((kitB "tuple" "dict").getD false) = false
  decide +kernel
@[simp] theorem isi_dict_dict (l : List (PyData × PyData)) : isiD "dict" (PyData.dict l) = true := by
  show ((kitB "dict" "dict").getD false) = true
  decide +kernel
theorem isi_def (T : String) (h : ∀ x ∈ ["NoneType", "bool", "int", "str", "list", "tuple", "dict"], (kitB x T).isSome = true) (d : PyData) : (kitB (tyD d) T).isSome = true := by
  cases d <;> exact h _ (by simp [tyD])
/-- a def that, of arguments args a under pre a, gives res a -/
def ptA {α : Type} (args : α → List S) (pre : α → Prop) (res : α → PyData) : PT' := fun ss g Q => ∃ a, ss = args a ∧ pre a ∧ Q (res a) g
theorem ptA_mo {α : Type} {args : α → List S} {pre : α → Prop} {res : α → PyData} : ∀ ss g Q Q', (∀ d g', Q d g' → Q' d g') → ptA args pre res ss g Q → ptA args pre res ss g Q' := fun ss g Q Q' hq ⟨a, e, p, q⟩ => ⟨a, e, p, hq _ _ q⟩
/-! ### equality of plain things -/
@[simp] theorem eqv_ii (a b : Int) : PyData.eqv (.int a) (.int b) = (a == b) := rfl
@[simp] theorem eqv_ss (a b : Str) : PyData.eqv (.str a) (.str b) = (a == b) := rfl
@[simp] theorem eqv_tt (a b : List PyData) : PyData.eqv (.tuple a) (.tuple b) = PyData.eqvAll a b := rfl
@[simp] theorem eqv_ll (a b : List PyData) : PyData.eqv (.list a) (.list b) = PyData.eqvAll a b := rfl
@[simp] theorem eqv_nn : PyData.eqv .none .none = true := rfl
@[simp] theorem eqv_ni (a : Int) : PyData.eqv .none (.int a) = false := rfl
@[simp] theorem eqv_in (a : Int) : PyData.eqv (.int a) .none = false := rfl
@[simp] theorem eqv_nt (a : List PyData) : PyData.eqv .none (.tuple a) = false := rfl
@[simp] theorem eqv_tn (a : List PyData) : PyData.eqv (.tuple a) .none = false := rfl
@[simp] theorem eqv_nil : PyData.eqvAll [] [] = true := rfl
@[simp] theorem eqv_cons (x y : PyData) (a b : List PyData) : PyData.eqvAll (x :: a) (y :: b) = (PyData.eqv x y && PyData.eqvAll a b) := rfl
@[simp] theorem shaped_i (a : Int) : SeqAt.shaped (.int a) = true := rfl
@[simp] theorem shaped_n : SeqAt.shaped .none = true := rfl
@[simp] theorem shaped_b (a : Bool) : SeqAt.shaped (.bool a) = true := rfl
@[simp] theorem shaped_s (a : Str) : SeqAt.shaped (.str a) = PyData.strOk a := by simp [SeqAt.shaped, PyData.canLay0, PyData.depth]
@[simp] theorem ofString_inj (a b : String) : (Str.ofString a = Str.ofString b) ↔ a = b := by
  refine ⟨fun h => ?_, fun h => by rw [h]⟩
  rw [Str.ofString_eq_toList, Str.ofString_eq_toList] at h
  have h1 := congrArg (fun z : Str => z.cps.toList) h
  simp only [] at h1
  have h2 : a.toList = b.toList := by
    have inj : Function.Injective Char.toNat := fun x y e => by
      have : x.val = y.val := UInt32.toNat_inj.1 e
      exact Char.ext this
    exact (List.map_inj_right inj).1 (by simpa using h1)
  exact String.toList_inj.1 h2
@[simp] theorem ofString_beq (a b : String) : (Str.ofString a == Str.ofString b) = (a == b) := by
  by_cases h : a = b
  · subst h; simp
  · have : ¬ Str.ofString a = Str.ofString b := fun e => h ((ofString_inj a b).1 e)
    rw [beq_eq_false_iff_ne.2 this, beq_eq_false_iff_ne.2 h]
@[simp] theorem strOk_of (a : String) : PyData.strOk (Str.ofString a) = true := by
  unfold PyData.strOk
  rw [Str.ofString_eq_toList]
  suffices h : (a.toList.map Char.toNat).all (fun x => decide (x < 0x110000)) = true by simpa using h
  rw [List.all_eq_true]
  intro n hn
  obtain ⟨c, _, rfl⟩ := List.mem_map.1 hn
  rw [decide_eq_true_eq]
  rcases c.valid with h | h
  · have : c.toNat = c.val.toNat := rfl
    have h' : c.val.toNat < 0xd800 := h
    omega
  · have : c.toNat = c.val.toNat := rfl
    have h' : c.val.toNat < 0x110000 := h.2
    omega
/-! ### < of numbers and of texts -/
def oLt2 : OD := fun d e g Q => match d, e with
  | .int i, .int j => Q (.bool (decide (i < j))) g
  | .str i, .str j => Q (.bool (decide (i.cps.toList < j.cps.toList))) g
  | _, _ => False
section
variable {G : Ct} {X : Cx}
theorem co_lt2 : CO G X .Lt oLt2 := by
  refine ⟨fun x y H Q => (∃ i j, x = .int i ∧ y = .int j ∧ Q (.bl (decide (i < j))) H) ∨ (∃ i j, x = .str i ∧ y = .str j ∧ Q (.bl (decide (i.cps.toList < j.cps.toList))) H), ?_, fun d e g Q Q' hq q => ?_, fun w g x y d e Q j rx ry q => ?_⟩
  · intro pins s σ H x y v u Q I rx ry h
    rcases h with h | h
    · exact op_lt pins s σ H x y v u Q I rx ry h
    · exact op_lt_str pins s σ H x y v u Q I rx ry h
  · unfold oLt2 at *; split at q <;> first | exact hq _ _ q | exact q
  · unfold oLt2 at q
    split at q
    · cases rx; cases ry
      exact .inl ⟨_, _, rfl, rfl, q w _ (Go.refl w) j (.bl _)⟩
    · cases rx; cases ry
      exact .inr ⟨_, _, rfl, rfl, q w _ (Go.refl w) j (.bl _)⟩
    · exact q.elim
end
@[simp] theorem oLt2_i (i j : Int) (g : Nat) (Q : PyData → Nat → Prop) : oLt2 (.int i) (.int j) g Q = Q (.bool (decide (i < j))) g := rfl
@[simp] theorem oLt2_s (i j : Str) (g : Nat) (Q : PyData → Nat → Prop) : oLt2 (.str i) (.str j) g Q = Q (.bool (decide (i.cps.toList < j.cps.toList))) g := rfl
section
variable (g : Nat) (Q : PyData → Nat → Prop)
@[simp] theorem oI_ii (f : Int → Int → PyData) (i j : Int) : oI f (.int i) (.int j) g Q = Q (f i j) g := rfl
@[simp] theorem oIC_ii (C : Int → Int → Prop) (f : Int → Int → PyData) (i j : Int) : oIC C f (.int i) (.int j) g Q = (C i j ∧ Q (f i j) g) := rfl
@[simp] theorem oAdd_ii (i j : Int) : oAdd (.int i) (.int j) g Q = Q (.int (i + j)) g := rfl
@[simp] theorem oAdd_ss (x y : Str) : oAdd (.str x) (.str y) g Q = (x.length + y.length ≤ sizeLine ∧ Q (.str (x ++ y)) g) := rfl
@[simp] theorem oAdd_tt (x y : List PyData) : oAdd (.tuple x) (.tuple y) g Q = (x.length + y.length ≤ sizeLine ∧ Q (.tuple (x ++ y)) g) := rfl
@[simp] theorem oAdd_ll (x y : List PyData) : oAdd (.list x) (.list y) g Q = (x.length + y.length ≤ sizeLine ∧ Q (.list (x ++ y)) g) := rfl
@[simp] theorem oIx_t (l : List PyData) (i : Int) : oIx (.tuple l) (.int i) g Q = ∃ z, atI l i = some z ∧ Q z g := by
  simp [oIx]
@[simp] theorem oIx_l (l : List PyData) (i : Int) : oIx (.list l) (.int i) g Q = ∃ z, atI l i = some z ∧ Q z g := by
  simp [oIx]
@[simp] theorem oCut_t (l : List PyData) (a b : Option Int) : oCut (.tuple l) a b g Q = Q (.tuple (cutD l a b)) g := rfl
@[simp] theorem oCut_l (l : List PyData) (a b : Option Int) : oCut (.list l) a b g Q = Q (.list (cutD l a b)) g := rfl
@[simp] theorem cLen_t (l : List PyData) : cLen [.tuple l] g Q = Q (.int l.length) g := rfl
@[simp] theorem cLen_l (l : List PyData) : cLen [.list l] g Q = Q (.int l.length) g := rfl
@[simp] theorem cLen_s (x : Str) : cLen [.str x] g Q = (x.length ≤ sizeLine ∧ Q (.int x.length) g) := rfl
@[simp] theorem cTup_t (l : List PyData) : cTup [.tuple l] g Q = Q (.tuple l) g := rfl
@[simp] theorem cTup_l (l : List PyData) : cTup [.list l] g Q = Q (.tuple l) g := rfl
@[simp] theorem cI2_ii (f : Int → Int → Int) (i j : Int) : cI2 f [.int i, .int j] g Q = Q (.int (f i j)) g := rfl
end
/-! ### lists of arguments, with their length -/
structure XAl (G : Ct) (X : Cx) (es : List Expr) (t : TL') (n : Nat) : Prop where
  xa : XA G X es t
  len : ∀ E g Q, t E g Q → t E g fun ss g' => ss.length = n ∧ Q ss g'
section
variable {G : Ct} {X : Cx} {e : Expr} {es : List Expr} {te : TX} {t : TL'} {n : Nat}
theorem xl_nil : XAl G X [] xaNil 0 := ⟨xa_nil, al_nil⟩
theorem xl_cons (he : XE G X e te) (h : XAl G X es t n) (hs : starEach (e :: es) X.env = (false, eval e X.env) :: starEach es X.env := by rfl) : XAl G X (e :: es) (xaCons te t) (n + 1) :=
  ⟨xa_cons he h.xa hs, al_cons he.mo h.len h.xa.mo⟩
theorem xl_tok (i : Nat) {x : Str} {p : Pos} (he : PE X (.Name x p) (tVar i)) (h : XAl G X es t n) (hs : starEach (.Name x p :: es) X.env = (false, eval (.Name x p) X.env) :: starEach es X.env := by rfl) : XAl G X (.Name x p :: es) (xaTok i t) (n + 1) :=
  ⟨xa_tok i he h.xa hs, al_tok h.len h.xa.mo⟩
theorem xe_callN {pt : PT'} {f : Addr} {fd : FuncData} {ps : List Str} {k : Nat} {x : Str} {p pos : Pos} (F : FnOk X.prog X.w X.K X.mg X.base CX0 k f fd ps (spD X.K G.am G.J n pt)) (mo : ∀ ss g Q Q', (∀ d g', Q d g' → Q' d g') → pt ss g Q → pt ss g Q') (hr : Room k X.A) (hg : Gl X x) (hm : X.mg x = some (.ref f)) (hk : PySem.W.keepIn X.K (.ref f) = true) (hb : Binds X.K fd ps [])
    (ha : XAl G X (e :: es) t n) (hdb : (x == ("__debug__" : Str)) = false := by decide) (he : starEach (e :: es) X.env = (false, eval e X.env) :: starEach es X.env := by rfl) (hpl : (backTo pos (starEach es X.env)).any (·.1) = false := by rfl) :
    XE G X (.Call (.Name x p) (e :: es) [] pos) (xCall t pt) := xe_call F mo hr hg hm hk hb ha.xa ha.len hdb he hpl
end
/-! ### comprehensions that draw nothing -/
theorem compT_pure {y : TT'} {tt : TC} {te : TX} {p : PyData → Bool} {f : PyData → PyData} : ∀ (ds : List PyData) (E : List S) (acc : List PyData) (g : Nat) (Q : List PyData → Nat → Prop),
    (∀ d ∈ ds, ∀ (k : PyData → Nat → Prop) (k' : Nat → Prop), (p d = true → k (f d) g) → (p d = false → k' g) → y d E g fun E' => tt E' g fun b g1 => if b = true then te E' g1 k else k' g1) →
    Q (acc ++ (ds.filter p).map f) g → compT y tt te ds E acc g Q
  | [], E, acc, g, Q, _, q => by simpa using q
  | d :: r, E, acc, g, Q, h, q => by
    refine h d List.mem_cons_self (fun z g2 => compT y tt te r E (acc ++ [z]) g2 Q) (fun g1 => compT y tt te r E acc g1 Q) (fun hp => ?_) fun hp => ?_
    · refine compT_pure r E _ g Q (fun e he => h e (List.mem_cons_of_mem _ he)) ?_
      simpa [List.filter_cons, hp] using q
    · refine compT_pure r E _ g Q (fun e he => h e (List.mem_cons_of_mem _ he)) ?_
      simpa [List.filter_cons, hp] using q
theorem cut_drop (l : List PyData) (k : Nat) : cutD l (some (k : Int)) none = l.drop k := by
  unfold cutD
  rw [HT.sIx_none, HT.sIx_nat]
  rcases Nat.le_total k l.length with h | h
  · rw [Nat.min_eq_left h]
    exact List.take_of_length_le (by simp)
  · rw [Nat.min_eq_right h, List.drop_of_length_le h, List.drop_of_length_le (Nat.le_refl _)]
    simp
theorem cut_take (l : List PyData) (k : Nat) : cutD l none (some (k : Int)) = l.take k := by
  unfold cutD
  rw [HT.sIx_none, HT.sIx_nat]
  rcases Nat.le_total k l.length with h | h
  · simp [Nat.min_eq_left h]
  · rw [Nat.min_eq_right h, List.take_of_length_le h]
    simp
@[simp] theorem cut_1 (l : List PyData) : cutD l (some 1) none = l.drop 1 := cut_drop l 1
@[simp] theorem cut_2 (l : List PyData) : cutD l (some 2) none = l.drop 2 := cut_drop l 2
@[simp] theorem cut_3 (l : List PyData) : cutD l (some 3) none = l.drop 3 := cut_drop l 3
@[simp] theorem cut_4 (l : List PyData) : cutD l (some 4) none = l.drop 4 := cut_drop l 4
@[simp] theorem cut_5 (l : List PyData) : cutD l (some 5) none = l.drop 5 := cut_drop l 5
@[simp] theorem cut_6 (l : List PyData) : cutD l (some 6) none = l.drop 6 := cut_drop l 6
@[simp] theorem cut_t1 (l : List PyData) : cutD l none (some 1) = l.take 1 := cut_take l 1
@[simp] theorem cut_t2 (l : List PyData) : cutD l none (some 2) = l.take 2 := cut_take l 2
@[simp] theorem cut_t4 (l : List PyData) : cutD l none (some 4) = l.take 4 := cut_take l 4
@[simp] theorem cut_t5 (l : List PyData) : cutD l none (some 5) = l.take 5 := cut_take l 5
@[simp] theorem cut_t6 (l : List PyData) : cutD l none (some 6) = l.take 6 := cut_take l 6
@[simp] theorem cut_t3 (l : List PyData) : cutD l none (some 3) = l.take 3 := cut_take l 3
/-- a loop that draws nothing, what holds of the slots at each turn -/
theorem forT_inv {y : TT'} {tb : TSt} {k : Kt} {g : Nat} (I : List S → Prop) : ∀ (ds : List PyData) (E : List S), I E →
    (∀ d ∈ ds, ∀ E, I E → ∀ f : List S → Nat → Prop, (∀ E', I E' → f E' g) → y d E g fun E' => tb (ktLoop k f) E' g) → (∀ E, I E → k.nx E g) → forT y tb ds k E g
  | [], E, hi, _, hn => hn E hi
  | d :: r, E, hi, h, hn => h d List.mem_cons_self E hi (fun E2 g2 => forT y tb r k E2 g2) fun E' hi' => forT_inv I r E' hi' (fun e he => h e (List.mem_cons_of_mem _ he)) hn
theorem bools_map {α : Type} (l : List α) (f : α → Bool) : bools (l.map fun x => .bool (f x)) = some (l.map f) := by
  induction l with
  | nil => rfl
  | cons a r ih => simp [ih]
end TL
namespace TL
open PySem PySem.Spec PyProof.Rows L2 RZ
/-! ### the draws -/
abbrev kS (x : Str) : Key := Sum.inr x
def dk3 (c r : Addr) (n : Int) : List (Key × V) := [(kS "cells", .ref c), (kS "rest", .ref r), (kS "spot", .int n)]
theorem k_cr : ¬ (kS "cells" = kS "rest") := by decide +kernel
theorem k_cs : ¬ (kS "cells" = kS "spot") := by decide +kernel
theorem k_rs : ¬ (kS "rest" = kS "spot") := by decide +kernel
theorem k_sr : ¬ (kS "spot" = kS "rest") := by decide +kernel
theorem dk3_cells (c r : Addr) (n : Int) : valV (dk3 c r n) (kS "cells") = some (.ref c) := by
  unfold dk3
  exact valV_pos rfl
theorem dk3_rest (c r : Addr) (n : Int) : valV (dk3 c r n) (kS "rest") = some (.ref r) := by
  unfold dk3
  rw [valV_neg (show ¬ (kS "cells", V.ref c).1 = kS "rest" from k_cr)]
  exact valV_pos rfl
theorem dk3_spot (c r : Addr) (n : Int) : valV (dk3 c r n) (kS "spot") = some (.int n) := by
  unfold dk3
  rw [valV_neg (show ¬ (kS "cells", V.ref c).1 = kS "spot" from k_cs), valV_neg (show ¬ (kS "rest", V.ref r).1 = kS "spot" from k_rs)]
  exact valV_pos rfl
theorem s_cr : ¬ (Str.ofString "cells" = Str.ofString "rest") := by decide +kernel
theorem s_cs : ¬ (Str.ofString "cells" = Str.ofString "spot") := by decide +kernel
theorem s_rs : ¬ (Str.ofString "rest" = Str.ofString "spot") := by decide +kernel
theorem s_sr : ¬ (Str.ofString "spot" = Str.ofString "rest") := by decide +kernel
theorem dk3_len (c r : Addr) (n : Int) : (dk3 c r n).length < sizeLine := by
  show 3 < sizeLine
  decide
theorem dk3_putR (c r r' : Addr) (n : Int) : putK (dk3 c r n) (kS "rest") (.ref r') = dk3 c r' n := by
  simp [putK, dk3, s_cr, s_sr]
theorem dk3_putN (c r : Addr) (n n' : Int) : putK (dk3 c r n) (kS "spot") (.int n') = dk3 c r n' := by
  simp [putK, dk3, s_cs, s_rs]
/-- the draws' dict as it stands -/
structure PB (am c r : Addr) (cells rest : List Int) (n : Int) (u : Wd) : Prop where
  d : u.H am = some (.dK (dk3 c r n))
  hc : u.H c = some (.lst (cells.map V.int))
  hr : u.H r = some (.lst (rest.map V.int))
  ca : u.cl am = 2
  cc : u.cl c = 2
  cr : u.cl r = 2
  ne : r ≠ c
  lr : rest.length ≤ 63
def JB (am : Addr) (g : Nat) (u : Wd) : Prop := ∃ c r cells rest n, PB am c r cells rest n u ∧ cells.length ≤ 63 ∧ 0 ≤ n ∧ n + g ≤ 2 ^ 60
theorem JB.st (am : Addr) : ∀ g w u, (∀ a o, w.H a = some o → w.cl a = 2 → u.H a = some o ∧ u.cl a = 2) → JB am g w → JB am g u := by
  intro g w u h ⟨c, r, cells, rest, n, p, a1, a2, a3⟩
  exact ⟨c, r, cells, rest, n, ⟨(h _ _ p.d p.ca).1, (h _ _ p.hc p.cc).1, (h _ _ p.hr p.cr).1, (h _ _ p.d p.ca).2, (h _ _ p.hc p.cc).2, (h _ _ p.hr p.cr).2, p.ne, p.lr⟩, a1, a2, a3⟩
theorem JB.le {am : Addr} {g g' : Nat} {u : Wd} (h : JB am g u) (l : g' ≤ g) : JB am g' u := by
  obtain ⟨c, r, cells, rest, n, p, a1, a2, a3⟩ := h
  exact ⟨c, r, cells, rest, n, p, a1, a2, by omega⟩
theorem dp_ints {K : PySem.W.Frag} {H : Hp} : ∀ ns : List Int, DpAll K H (ns.map V.int) (ns.map PyData.int)
  | [] => .nil
  | n :: r => .cons (.int n) (dp_ints r)
theorem shaped_ints (ns : List Int) : SeqAt.shaped (.list (ns.map PyData.int)) = true := by
  have h1 : ∀ l : List Int, PyData.canLayAll0 (l.map PyData.int) = true := by
    intro l
    induction l with
    | nil => rfl
    | cons x r ih => simp [PyData.canLayAll0, PyData.canLay0, ih]
  have h2 : ∀ l : List Int, PyData.depthAll (l.map PyData.int) = 0 := by
    intro l
    induction l with
    | nil => rfl
    | cons x r ih => simp [PyData.depthAll, PyData.depth, ih]
  simp [SeqAt.shaped, PyData.canLay0, PyData.depth, h1, h2]
theorem eqv_intnil (ns : List Int) : PyData.eqv (.list (ns.map PyData.int)) (.list []) = ns.isEmpty := by
  cases ns <;> simp [PyData.eqv, PyData.eqvAll]
section
variable {P : Program} {w : World} {K : PySem.W.Frag} {mg : Str → Option Value} {base : Heap}
theorem PB.new {am c r : Addr} {cells rest : List Int} {n : Int} {u : Wd} (h : PB am c r cells rest n u) {p : Addr} {o : HO} (np : u.H p = none) (k : Nat) : PB am c r cells rest n (u.new p o k) := by
  have g := Go0.new (o := o) np k
  exact ⟨(g _ _ h.d).1, (g _ _ h.hc).1, (g _ _ h.hr).1, ((g _ _ h.d).2).trans h.ca, ((g _ _ h.hc).2).trans h.cc, ((g _ _ h.hr).2).trans h.cr, h.ne, h.lr⟩
/-- a class-2 object that stands is written -/
theorem go_write2 {u : Wd} {a : Addr} {o o' : HO} (h : u.H a = some o) (c : u.cl a = 2) : Go u ⟨upd u.H a o', u.cl⟩ := by
  refine ⟨fun b x e => ⟨rfl, fun n => ?_⟩, fun b x e => ?_⟩
  · have ne : b ≠ a := fun z => n (by rw [z]; exact c)
    show upd u.H a o' b = some x
    rw [upd_ne ne]; exact e
  · by_cases z : b = a
    · subst z; exact ⟨o', upd_same⟩
    · exact ⟨x, by show upd u.H a o' b = some x; rw [upd_ne z]; exact e⟩
def ptNext : PT' := fun ss g Q => ∃ n : Int, ss = [.tok, .v (.int n)] ∧ 0 < n ∧ n < 1073741824 ∧ 1 ≤ g ∧ ∀ k : Int, 0 ≤ k → k < n → Q (.int k) (g - 1)
theorem ptNext_mo : ∀ ss g Q Q', (∀ d g', Q d g' → Q' d g') → ptNext ss g Q → ptNext ss g Q' := fun ss g Q Q' hq ⟨n, e, h0, h1, h2, q⟩ => ⟨n, e, h0, h1, h2, fun k a b => hq _ _ (q k a b)⟩
theorem map_drop1 (rest : List Int) : cutV (rest.map V.int) (some 1) none = (rest.drop 1).map V.int := by
  have h : ∀ xs : List V, cutV xs (some 1) none = xs.drop 1 := by
    intro xs
    unfold cutV
    rw [show HT.sIx xs.length 0 (some 1) = min 1 xs.length from HT.sIx_nat xs.length 0 1, HT.sIx_none]
    cases xs with
    | nil => rfl
    | cons x r =>
      have e : min 1 (x :: r).length = 1 := by rw [List.length_cons]; omega
      rw [e]
      show List.take ((x :: r).length - 1) r = r
      rw [List.length_cons, Nat.add_sub_cancel, List.take_length]
  rw [h, List.map_drop]
def spBegun (K : PySem.W.Frag) : Sp := fun vs H Q _ => ∃ (a : Addr) (ns : List Int), vs = [.ref a] ∧ SqL K H a (ns.map V.int) ∧ ns.length ≤ 63 ∧
  ∀ p c r (rest : List Int) H', H p = none → H c = none → H r = none → Same H H' → H' p = some (.dK (dk3 c r 0)) → H' c = some (.lst (ns.map V.int)) → H' r = some (.lst (rest.map V.int)) → r ≠ c → rest.length ≤ 63 → Q (.ref p) H'
theorem same_new {H : Hp} {p : Addr} {o : HO} (h : H p = none) : Same H (upd H p o) := fun b x e => by
  rw [upd_ne (ne_of_none e h)]; exact e
theorem same_free {H H' : Hp} {p : Addr} (h : Same H H') (n : H' p = none) : H p = none := h.free n
end
/-! ### the signs of a text -/
def signsD (x : Str) : List PyData := x.cps.toList.map fun c => .str ⟨#[c]⟩
section
variable {G : Ct} {X : Cx} {tg e a b : Expr} {te ta tb : TX}
theorem wk_str {K : PySem.W.Frag} {x : Str} : Wk K false (Its x) (signsD x) fun _ => True where
  pu := fun w u h p => h
  go := fun i w h l => by
    have l' : i < x.cps.size := by simpa [signsD] using l
    exact l'
  stop := fun i w h l => by
    have l' : x.cps.size ≤ i := by simpa [signsD] using l
    exact l'
  yld := fun i w v H' d h e y => by
    obtain ⟨e1, c, e2, e3⟩ := y
    subst e3
    refine ⟨w, e1.symm, Go0.refl w, .of ?_⟩
    have e4 : (signsD x)[i]? = some (.str ⟨#[c]⟩) := by simp [signsD, e2]
    rw [e] at e4
    cases e4
    exact .str _
@[simp] def xiStr (te : TX) : TWk := fun E g Q => te E g fun d g' => ∃ x, d = .str x ∧ Q (signsD x) g'
theorem xi_str (h : XE G X e te) : XI G X false tg e (xiStr te) := by
  refine ⟨fun E g Q Q' hq q => h.mo _ _ _ _ (fun d g1 ⟨ds, e, q⟩ => ⟨ds, e, hq _ _ q⟩) q, (pi_str h.pe).imp fun σ H R ⟨cl, E, g, as, j, r, q⟩ => ?_⟩
  refine ⟨cl, E, g, as, j, r, h.mo _ _ _ _ (fun d g1 ⟨x, e, q1⟩ u v go1 j1 rv => ?_) q⟩
  subst e
  cases rv
  exact ⟨x, rfl, q1 u _ _ go1 j1 (wk_str (K := X.K)) trivial⟩
/-- a, b, c = x, y, [] with plain local names, the third a list of the frame's own -/
@[simp] def xPar3o (i j l : Nat) (ta tb : TX) : TSt := fun k E g => l < E.length ∧ ta E g fun d g1 => tb E g1 fun e g2 => k.nx (((E.set i (.v d)).set j (.v e)).set l (.hl [])) g2
theorem xs_par3o (i j l : Nat) {s : Stmt} (ha : XE G X a ta) (hb : XE G X b tb) (h : ∀ ta' tb', PE X a ta' → PE X b tb' → PS X s (tPar3 i j l (tCons ta' (tCons tb' (tCons (tLst tNil) tNil))))) : XS G X s (xPar3o i j l ta tb) := by
  refine ⟨fun k k' E g h ⟨l, q⟩ => ⟨l, ha.mo _ _ _ _ (fun d g1 q1 => hb.mo _ _ _ _ (fun e g2 q2 => h.nx _ _ q2) q1) q⟩, (h _ _ ha.pe hb.pe).imp fun D σ H ⟨cl, E, g, as, j0, go, r, hl, q⟩ => ?_⟩
  refine ⟨cl, E, g, as, j0, r, ha.mo _ _ _ _ (fun d g1 q1 u v go1 j1 rv => ?_) q⟩
  refine ⟨u.cl, E, g1, as, j1, r.go go1, hb.mo _ _ _ _ (fun e g2 q2 u2 v2 go2 j2 rv2 => ?_) q1⟩
  refine ⟨Nat.zero_le _, fun p np => ⟨v, v2, .ref p, rfl, ?_⟩⟩
  obtain ⟨bs, r1, _⟩ := ((r.go go1).go go2).set i (rv.go go2)
  obtain ⟨cs, r2, _⟩ := r1.set j rv2
  have go3 := go.trans (go1.trans go2)
  obtain ⟨ds, r3, _⟩ := r2.newHl l np (go_fresh go3 np) (by simpa using hl)
  exact q2 (u2.new p (.lst []) 1) _ ds (G.st0 (Go0.new np 1) j2) (go3.trans (Go.new' np 1)) ((go1.trans go2).pu.trans (Go.new' np 1).pu) r3
end
/-! ### loops over a range that add to a list -/
theorem rangeD_s (i : Int) (n : Nat) : rangeD i (n + 1) = .int i :: rangeD (i + 1) n := by
  unfold rangeD
  rw [List.range_succ_eq_map, List.map_cons, List.map_map]
  congr 1
  · simp
  · refine List.map_congr_left fun k _ => ?_
    simp only [Function.comp_apply, PyData.int.injEq]
    omega
theorem rangeD_0 (i : Int) : rangeD i 0 = [] := rfl
def flatI {α : Type} (f : Int → List α) : Int → Nat → List α
  | _, 0 => []
  | lo, n + 1 => f lo ++ flatI f (lo + 1) n
theorem flatI_mem {α : Type} {f : Int → List α} {x : α} : ∀ {n : Nat} {lo : Int}, x ∈ flatI f lo n ↔ ∃ j, lo ≤ j ∧ j < lo + n ∧ x ∈ f j
  | 0, lo => by
    refine ⟨fun h => (by cases h), fun ⟨j, a, b, _⟩ => absurd b (by omega)⟩
  | n + 1, lo => by
    rw [flatI, List.mem_append, flatI_mem (n := n)]
    refine ⟨fun h => ?_, fun ⟨j, a, b, h⟩ => ?_⟩
    · rcases h with h | ⟨j, a, b, h⟩
      · exact ⟨lo, by omega, by omega, h⟩
      · exact ⟨j, by omega, by omega, h⟩
    · by_cases e : j = lo
      · subst e; exact .inl h
      · exact .inr ⟨j, by omega, by omega, h⟩
theorem flatI_len {α : Type} {f : Int → List α} {c : Nat} (hf : ∀ j, (f j).length ≤ c) : ∀ (n : Nat) (lo : Int), (flatI f lo n).length ≤ n * c
  | 0, _ => by simp [flatI]
  | n + 1, lo => by
    have := flatI_len hf n (lo + 1)
    have := hf lo
    rw [flatI, List.length_append, Nat.succ_mul]
    omega
theorem forT_ap {y : TT'} {tb : TSt} {k : Kt} {g : Nat} (I : List S → List PyData → Prop) (f : Int → List PyData) (c B : Nat) (hf : ∀ j, (f j).length ≤ c) : ∀ (n : Nat) (lo : Int) (E : List S) (acc : List PyData), I E acc → acc.length + n * c ≤ B →
    (∀ j, lo ≤ j → j < lo + n → ∀ E acc, I E acc → acc.length + c ≤ B → ∀ h : List S → Nat → Prop, (∀ E', I E' (acc ++ f j) → h E' g) → y (.int j) E g fun E' => tb (ktLoop k h) E' g) →
    (∀ E, I E (acc ++ flatI f lo n) → k.nx E g) → forT y tb (rangeD lo n) k E g
  | 0, lo, E, acc, hi, _, _, q => q E (by simpa [flatI] using hi)
  | n + 1, lo, E, acc, hi, hB, hb, q => by
    rw [rangeD_s]
    rw [Nat.succ_mul] at hB
    refine hb lo (by omega) (by omega) E acc hi (by omega) (fun E2 g2 => forT y tb (rangeD (lo + 1) n) k E2 g2) fun E' hi' => ?_
    refine forT_ap I f c B hf n (lo + 1) E' _ hi' ?_ (fun j a b => hb j (by omega) (by omega)) fun E2 h2 => q E2 (by rw [flatI, ← List.append_assoc]; exact h2)
    have := hf lo
    rw [List.length_append]
    omega
/-! ### what draws -/
/-- a def that draws: of arguments args a under pre a, with at most cost a draws, some d with res a d -/
def ptG {α : Type} (args : α → List S) (pre : α → Prop) (cost : α → Nat) (res : α → PyData → Prop) : PT' := fun ss g Q => ∃ a, ss = args a ∧ pre a ∧ cost a ≤ g ∧ ∀ d g', res a d → g ≤ g' + cost a → Q d g'
theorem ptG_mo {α : Type} {args : α → List S} {pre : α → Prop} {cost : α → Nat} {res : α → PyData → Prop} : ∀ ss g Q Q', (∀ d g', Q d g' → Q' d g') → ptG args pre cost res ss g Q → ptG args pre cost res ss g Q' :=
  fun ss g Q Q' hq ⟨a, e, p, c, q⟩ => ⟨a, e, p, c, fun d g' r l => hq _ _ (q d g' r l)⟩
inductive Rel2 {α β : Type} (R : α → β → Prop) : List α → List β → Prop
  | nil : Rel2 R [] []
  | cons {a : α} {b : β} {l : List α} {m : List β} : R a b → Rel2 R l m → Rel2 R (a :: l) (b :: m)
theorem Rel2.len {α β : Type} {R : α → β → Prop} {l : List α} {m : List β} (h : Rel2 R l m) : l.length = m.length := by
  induction h with
  | nil => rfl
  | cons _ _ ih => simp [ih]
inductive Pk {α β : Type} (R : α → β → Prop) : List α → List β → Prop
  | nil : Pk R [] []
  | cons {a : α} {b : β} {l : List α} {m : List β} : R a b → Pk R l m → Pk R (a :: l) (b :: m)
  | skip {a : α} {l : List α} {m : List β} : Pk R l m → Pk R (a :: l) m
theorem compT_all {y : TT'} {tt : TC} {te : TX} {c : Nat} {R : PyData → PyData → Prop} : ∀ (ds : List PyData) (E : List S) (acc : List PyData) (g : Nat) (Q : List PyData → Nat → Prop), ds.length * c ≤ g →
    (∀ d ∈ ds, ∀ g, c ≤ g → ∀ (k : PyData → Nat → Prop) (k' : Nat → Prop), (∀ z g', R d z → g ≤ g' + c → k z g') → y d E g fun E' => tt E' g fun b g1 => if b = true then te E' g1 k else k' g1) →
    (∀ l g', Rel2 R ds l → g ≤ g' + ds.length * c → Q (acc ++ l) g') → compT y tt te ds E acc g Q
  | [], E, acc, g, Q, _, _, q => by simpa using q [] g .nil (by simp)
  | d :: r, E, acc, g, Q, hc, h, q => by
    rw [List.length_cons, Nat.succ_mul] at hc
    refine h d List.mem_cons_self g (by omega) (fun z g2 => compT y tt te r E (acc ++ [z]) g2 Q) (fun g1 => compT y tt te r E acc g1 Q) fun z g' hz hg => ?_
    refine compT_all r E _ g' Q (by omega) (fun e he => h e (List.mem_cons_of_mem _ he)) fun l g2 hl hg2 => ?_
    rw [List.append_assoc]
    exact q (z :: l) g2 (.cons hz hl) (by rw [List.length_cons, Nat.succ_mul]; omega)
theorem compT_some {y : TT'} {tt : TC} {te : TX} {c : Nat} {R : PyData → PyData → Prop} : ∀ (ds : List PyData) (E : List S) (acc : List PyData) (g : Nat) (Q : List PyData → Nat → Prop), ds.length * c ≤ g →
    (∀ d ∈ ds, ∀ g, c ≤ g → ∀ (k : PyData → Nat → Prop) (k' : Nat → Prop), (∀ z g', R d z → g ≤ g' + c → k z g') → (∀ g', g ≤ g' + c → k' g') → y d E g fun E' => tt E' g fun b g1 => if b = true then te E' g1 k else k' g1) →
    (∀ l g', Pk R ds l → g ≤ g' + ds.length * c → Q (acc ++ l) g') → compT y tt te ds E acc g Q
  | [], E, acc, g, Q, _, _, q => by simpa using q [] g .nil (by simp)
  | d :: r, E, acc, g, Q, hc, h, q => by
    rw [List.length_cons, Nat.succ_mul] at hc
    refine h d List.mem_cons_self g (by omega) (fun z g2 => compT y tt te r E (acc ++ [z]) g2 Q) (fun g1 => compT y tt te r E acc g1 Q) (fun z g' hz hg => ?_) fun g' hg => ?_
    · refine compT_some r E _ g' Q (by omega) (fun e he => h e (List.mem_cons_of_mem _ he)) fun l g2 hl hg2 => ?_
      rw [List.append_assoc]
      exact q (z :: l) g2 (.cons hz hl) (by rw [List.length_cons, Nat.succ_mul]; omega)
    · refine compT_some r E _ g' Q (by omega) (fun e he => h e (List.mem_cons_of_mem _ he)) fun l g2 hl hg2 => ?_
      exact q l g2 (.skip hl) (by rw [List.length_cons, Nat.succ_mul]; omega)
/-- a draw -/
theorem next_of {n : Int} {g : Nat} {Q : PyData → Nat → Prop} (h0 : 0 < n) (h1 : n < 1073741824) (hg : 1 ≤ g) (q : ∀ k : Int, 0 ≤ k → k < n → Q (.int k) (g - 1)) : ptNext [.tok, .v (.int n)] g Q := ⟨n, rfl, h0, h1, hg, q⟩
end TL
namespace TL
open PySem PySem.Spec PyProof.Rows L2 RZ
/-! ### repr -/
section
variable {G : Ct} {X : Cx} {K : PySem.W.Frag}
def rRepr (K : PySem.W.Frag) : List V → Hp → VK → Prop := fun xs H Q => ∃ p d, xs = [.ref p] ∧ Dp K H (.ref p) d ∧ d.showable = true ∧ d.hasDict = false ∧ d.depth ≤ 64 ∧ d.shown.length ≤ sizeLine ∧ Q (.str d.shown) H
theorem call_reprD (hg : X.A.guards = some []) (hu : X.A.units + 66 < cLine) : CallR X (.builtin "repr") (rRepr X.K) := by
  intro pins s σ H xs us Q I rv h
  obtain ⟨p, d, e, hd, h1, h2, h3, h4, q⟩ := h
  subst e
  cases rv with
  | cons r rr =>
    cases rr
    cases r
    obtain ⟨as, rd⟩ := Dp.reads I d _ _ hd rfl
    exact repr_of_reads' rd h1 (PyData.noDict_hsm h2) hg (by omega) (fun _ _ e => e) (fun h' u tk hk => ⟨.str d.shown, H, I.kept hk, ⟨u, rfl⟩, q⟩) h4
def cRepr : CD := fun ds g Q => ∃ d l, ds = [d] ∧ (d = .list l ∨ d = .tuple l) ∧ noDict d = true ∧ d.showable = true ∧ d.hasDict = false ∧ d.depth ≤ 64 ∧ d.shown.length ≤ sizeLine ∧ Q (.str d.shown) g
theorem cd_repr : CallD G K (rRepr K) cRepr := by
  refine ⟨fun ds g Q Q' hq ⟨d, l, a, b, c, h1, h2, h3, h4, q⟩ => ⟨d, l, a, b, c, h1, h2, h3, h4, hq _ _ q⟩, fun w g vs ds Q j r ⟨d, l, a, b, c, h1, h2, h3, h4, q⟩ => ?_⟩
  subst a
  cases r with
  | cons h t =>
    cases t
    have hp : ∀ v0, Rv K w v0 d → ∃ p, v0 = V.ref p := by
      intro v0 h
      rcases b with b | b <;> subst b <;> cases h <;> exact ⟨_, rfl⟩
    obtain ⟨p, rfl⟩ := hp _ h
    exact ⟨p, d, rfl, h.dp c, h1, h2, h3, h4, q w _ (Go.refl w) j (.str _)⟩
theorem un66 {k : Nat} {A : Around} (r : Room k A) : A.units + 66 < cLine := by have := r.un; omega
end
/-! ### texts: != -/
section
variable {G : Ct} {X : Cx}
@[simp] def oNeS : OD := fun d e g Q => ∃ x y, d = .str x ∧ e = .str y ∧ Q (.bool (!decide (x = y))) g
@[simp] def oEqS : OD := fun d e g Q => ∃ x y, d = .str x ∧ e = .str y ∧ Q (.bool (decide (x = y))) g
theorem dec_vs (x y : Str) : decide (V.str x = V.str y) = decide (x = y) := by
  rw [Bool.eq_iff_iff]
  simp
theorem co_neS : CO G X .NotEq oNeS := by
  refine ⟨rNe, op_ne, fun d e g Q Q' hq ⟨x, y, a, b, q⟩ => ⟨x, y, a, b, hq _ _ q⟩, fun w g v1 v2 d e Q j rx ry ⟨x, y, a, b, q⟩ => ?_⟩
  subst a b
  cases rx
  cases ry
  refine ⟨rfl, ?_⟩
  rw [dec_vs]
  exact q w _ (Go.refl w) j (.bl _)
theorem co_eqS : CO G X .Eq oEqS := by
  refine ⟨rEq, op_eq, fun d e g Q Q' hq ⟨x, y, a, b, q⟩ => ⟨x, y, a, b, hq _ _ q⟩, fun w g v1 v2 d e Q j rx ry ⟨x, y, a, b, q⟩ => ?_⟩
  subst a b
  cases rx
  cases ry
  refine ⟨rfl, ?_⟩
  rw [dec_vs]
  exact q w _ (Go.refl w) j (.bl _)
end
/-! ### a loop that draws -/
theorem forT_dr {y : TT'} {tb : TSt} {k : Kt} {c : Nat} (I : List S → Prop) : ∀ (ds : List PyData) (E : List S) (g : Nat), I E → ds.length * c ≤ g →
    (∀ d ∈ ds, ∀ E g, I E → c ≤ g → ∀ h : List S → Nat → Prop, (∀ E' g', I E' → g ≤ g' + c → h E' g') → y d E g fun E' => tb (ktLoop k h) E' g) → (∀ E g', I E → g ≤ g' + ds.length * c → k.nx E g') → forT y tb ds k E g
  | [], E, g, hi, _, _, q => q E g hi (by simp)
  | d :: r, E, g, hi, hc, h, q => by
    rw [List.length_cons, Nat.succ_mul] at hc
    refine h d List.mem_cons_self E g hi (by omega) (fun E2 g2 => forT y tb r k E2 g2) fun E' g' hi' hg' => ?_
    exact forT_dr I r E' g' hi' (by omega) (fun e he => h e (List.mem_cons_of_mem _ he)) fun E2 g2 h2 hg2 => q E2 g2 h2 (by rw [List.length_cons, Nat.succ_mul]; omega)
/-! ### a block whose reading is one of many -/
theorem pss_ex {X : Cx} {b : List Stmt} {α : Type} {t : α → TS} (h : ∀ a, PSs X b (t a)) : PSs X b fun D σ H => ∃ a, t a D σ H :=
  ⟨fun pins s σ H D I ⟨a, q⟩ => (h a).run pins s σ H D I q⟩
/-! ### the law's def, at the caller: nothing is being shown there -/
section
variable {P : Program} {w : World} {K : PySem.W.Frag} {mg mb : Str → Option Value}
theorem fn_at {base : Heap} {x qual : Str} {st : Stmt} {f : Addr} {fd : FuncData} {N ps : List Str} {k : Nat} {A : Around} {outer : List Env} {s : Shared} {H : Hp} {args : Args} {us : List Value} {vs : List V} {Q : VK}
    (F : Fun K x qual st f fd) (Sc : FnScope N ps (defScope st)) (room : Room (k + 1) A) (e0 : Env0 P w K mg base A outer s H) (bind : BindsTo s fd args (ps.zip us)) (rel : Vals vs us) (ln : vs.length = ps.length)
    (body : ∀ cdv : Value, Room k (A.deeper (envOfC qual (defScope st) s.heap.objs.size f cdv)) →
      ∃ t, PSs (cxOf CX0 P w K mg base N qual (defScope st) f cdv A outer s H fun _ _ _ => False).nox (defBody st) t ∧ t { nx := fun _ H' => Q .non H', rt := Q } (start N vs) H) :
    codeAny (model P w) A (.call (.ref f) args) (fun r s' => ∃ u, r = .ok (.ret u) ∧ CE outer P w H s Q u s') s := by
  obtain ⟨oc, od, kV, doc, pm, an, cdv, ct, osl, efd, look, code⟩ := F.ex
  subst efd
  have inK : K.In s.heap := e0.mod.kin.keeps fun b o z => (e0.bs b o z).1
  have noLim : s.heap.NoLimit := e0.mod.nolimit.keeps fun b o z => (e0.bs b o z).1
  have kinds : ∀ y ∈ ps.zip us, (defScope st).names.lookup y.1 = some .local ∨ ((defScope st).names.lookup y.1 = some .cell ∧ ((cellsFrom (s.heap.objs.size + 1) (defScope st).names []).lookup y.1).isSome = true) := by
    rintro ⟨n, v⟩ hy
    rcases Sc.par n (List.of_mem_zip hy).1 with z | z
    · exact Or.inl z
    · exact Or.inr ⟨z, PySem.W.cellsFrom_some _ _ _ (Or.inl z)⟩
  refine codeAny_call_function room.depth (inK _ _ look) rfl Sc.co Sc.gen rfl (PySem.W.codeRec_of inK code) (bind _ _ _ _ ?_)
  refine wpAny_newFunctionEnv_cells Sc.kind kinds fun env hev s1 xc => ?_
  subst hev
  refine ⟨noLim.keeps xc.toInCall.keep, codeAny_func ?_⟩
  obtain ⟨t, ht, hq⟩ := body cdv (room.deeper _)
  have I0 : Inv (cxOf CX0 P w K mg base N qual (defScope st) f cdv A outer s H fun _ _ _ => False) [] (start N vs) H s1 := inv_start Sc room.hd e0 ln rel xc
  refine wpAny_mono (ht.nox.run [] s1 (start N vs) H _ I0 hq) (fun fl s2 z => ?_) fun e s2 z => ?_
  · cases fl with
    | ret u =>
      obtain ⟨v, σ2, H2, J, rv, q⟩ := z
      exact ⟨u, rfl, v, H2, J.os, J.bare, J.base, J.hok, rv, q⟩
    | next =>
      obtain ⟨σ2, H2, J, q⟩ := z
      exact ⟨.none, rfl, .non, H2, J.os, J.bare, J.base, J.hok, rfl, q⟩
    | brk => exact z.elim fun _ z => z.elim fun _ z => z.2.elim
    | cont => exact z.elim fun _ z => z.elim fun _ z => z.2.elim
  · exact wpAny_mono z (fun _ _ no => False.elim no) fun _ _ no => False.elim no
/-- what is tracked at the law's call: the script, unless the module holds it -/
def hpOf (K : PySem.W.Frag) (a : Addr) (vs : List Value) (ns : List Int) : Hp := fun b => if b = a ∧ K.lookup a = none then some (.frz { cls := .type "list", data := .seq vs.toArray } (.lst (ns.map V.int))) else none
theorem hpOf_some {K : PySem.W.Frag} {a b : Addr} {vs : List Value} {ns : List Int} {u : HO} (h : hpOf K a vs ns b = some u) : b = a ∧ K.lookup a = none ∧ u = .frz { cls := .type "list", data := .seq vs.toArray } (.lst (ns.map V.int)) := by
  unfold hpOf at h
  by_cases c : b = a ∧ K.lookup a = none
  · rw [if_pos c] at h
    exact ⟨c.1, c.2, (Option.some.inj h).symm⟩
  · rw [if_neg c] at h
    cases h
theorem ints_vals : ∀ {vs : List Value} {ns : List Int}, IntsAre vs ns → Vals (ns.map V.int) vs
  | _, _, .nil => .nil
  | _, _, .cons n t h => .cons ⟨t, rfl⟩ (ints_vals h)
theorem law_at {x qual xn : Str} {st : Stmt} {fa a : Addr} {fd : FuncData} {N : List Str} {k : Nat} {s1 : Shared} {vs : List Value} {ns : List Int}
    (inK : K.In s1.heap) (nsM : s1.heap.Ns mainGlobals mg) (nsB : s1.heap.Ns builtinsNs mb) (boot : ∀ y : Str, y ≠ "__name__" → mb y = bootBuiltins y) (noLim : s1.heap.NoLimit) (gens : s1.gens = #[])
    (scr : s1.heap.get? a = some { cls := .type "list", data := .seq vs.toArray }) (areInts : IntsAre vs ns) (few : ns.length ≤ sizeLine) (room : Room (k + 1) callerA)
    (F : Fun K x qual st fa fd) (Sc : FnScope N [xn] (defScope st)) (bind : ∀ (s : Shared) (u : Value), BindsTo s fd ⟨[u], []⟩ [(xn, u)])
    (body : ∀ (base : Heap) (cdv : Value), K.In base → base.Ns mainGlobals mg → SqL K (hpOf K a vs ns) a (ns.map V.int) → Room k (callerA.deeper (envOfC qual (defScope st) s1.heap.objs.size fa cdv)) →
      ∃ t, PSs (cxOf CX0 P w K mg base N qual (defScope st) fa cdv callerA [] s1 (hpOf K a vs ns) fun _ _ _ => False).nox (defBody st) t ∧ t { nx := fun _ _ => V.non = V.bl true, rt := fun v _ => v = V.bl true } (start N [.ref a]) (hpOf K a vs ns)) :
    codeAny (model P w) callerA (.call (.ref fa) ⟨[.ref a], []⟩) (fun r s' => r = .ok (.ret (.bool true)) ∧ OldK s1.heap s'.heap ∧ s'.os = s1.os ∧ AllBare s'.gens) s1 := by
  have rel := ints_vals areInts
  have same := areInts.length
  have tracked : ∀ b, hpOf K a vs ns b ≠ none → b = a ∧ K.lookup a = none := fun b z => by
    cases q : hpOf K a vs ns b with
    | none => exact absurd q z
    | some u => exact ⟨(hpOf_some q).1, (hpOf_some q).2.1⟩
  have free : ∀ {b : Addr} {o : Obj} {es : Array DictEntry} {ep : Nat}, s1.heap.get? b = some o → o.data = .dict es ep → hpOf K a vs ns b = none := fun {b o es ep} e d => by
    cases q : hpOf K a vs ns b with
    | none => rfl
    | some u =>
      obtain ⟨e1, _, _⟩ := hpOf_some q
      subst e1
      rw [scr] at e
      cases e
      cases (show Data.seq vs.toArray _ = Data.dict es ep from d)
  have nsH : ∀ {b : Addr} {m : Str → Option Value}, s1.heap.Ns b m → (hidT s1.heap (hpOf K a vs ns)).Ns b m := fun {b m} ⟨o, es, ep, e, d, r⟩ => ⟨o, es, ep, hidT_get e (free e d), d, r⟩
  have inB : K.In (hidT s1.heap (hpOf K a vs ns)) := fun b o e => hidT_get (inK b o e) (by
    cases q : hpOf K a vs ns b with
    | none => rfl
    | some u =>
      obtain ⟨e1, e2, _⟩ := hpOf_some q
      subst e1
      rw [e2] at e
      cases e)
  have sq : SqL K (hpOf K a vs ns) a (ns.map V.int) := by
    cases q : K.lookup a with
    | none => exact .inl (.inr ⟨_, if_pos ⟨rfl, q⟩⟩)
    | some o =>
      have e := inK a o q
      rw [scr] at e
      cases e
      exact .inr ⟨_, vs.toArray, _, q, rfl, rfl, rfl, by rw [List.size_toArray, same]; exact few, by simpa using rel⟩
  have okH : HOk P w (hpOf K a vs ns) s1.heap := fun b u z => by
    obtain ⟨e1, _, e3⟩ := hpOf_some z
    subst e1 e3
    exact ⟨scr, by rw [List.length_map]; exact few, vs, _, rel, scr⟩
  have env : Env0 P w K mg (hidT s1.heap (hpOf K a vs ns)) callerA [] s1 (hpOf K a vs ns) :=
    ⟨rfl, ⟨inB, nsH nsM, ⟨mb, nsH nsB, boot⟩, let ⟨mc, h1, h2⟩ := noLim; ⟨mc, nsH h1, h2⟩⟩, fun b o e => of_hidT e, Nat.le_of_eq (hidT_size _ _), trivial, fun b hb => absurd (show b ∈ ([] : List Addr) from hb) (by simp), okH, .of_eq gens⟩
  refine codeAny_mono (fn_at (us := [.ref a]) (vs := [.ref a]) (ps := [xn]) (Q := fun v _ => v = V.bl true) F Sc room env (bind s1 (.ref a)) (.cons rfl .nil) rfl fun cdv r => body _ cdv inB (nsH nsM) sq r) fun r s' z => ?_
  obtain ⟨u, e, v, H', os, bare, un, ok', rv, q⟩ := z
  subst e
  have q' : v = V.bl true := q
  subst q'
  obtain rfl : u = Value.bool true := rv
  refine ⟨rfl, OldK.of_keep fun b o e => ?_, os, bare⟩
  cases t : hpOf K a vs ns b with
  | none => exact un.keep b o e t (by intro y; exact absurd (show b ∈ ([] : List Addr) from y) (by simp)) (by simp)
  | some u =>
    obtain ⟨e1, _, e3⟩ := hpOf_some t
    subst e1 e3
    have y := un.frzs b _ _ t
    obtain ⟨e4, _⟩ := ok' b _ y
    rw [scr] at e
    cases e
    exact e4
/-- the goal that k_head leaves, from the law's body -/
theorem walk_at {l : PySem.W.OpenLaw} {n k : Nat} {q : Program} {loose : List Str} {XP : (Str → Option Value) → Heap → Prop} {YP : World → Heap → Prop} {d : DefRec} {KK : Params → PySem.W.Frag} {x qual xn : Str} {st : Stmt} {N : List Str}
    (most : l.most = some n) (small : n ≤ sizeLine) (nodef : d.params.defaults = []) (room : Room (k + 1) callerA) (Sc : FnScope N [xn] (defScope st)) (inY : ∀ (w : World) (h : Heap), YP w h → (KK w.params).In h)
    (F : ∀ (w : World) (mg : Str → Option Value) (fa : Addr) (h : Heap), (KK w.params).In h → h.Ns mainGlobals mg → mg d.name = some (.ref fa) →
      ∃ fd : FuncData, Fun (KK w.params) x qual st fa fd ∧ (∀ (s : Shared) (u : Value), BindsTo s fd ⟨[u], []⟩ [(xn, u)]) ∧
        ∀ (s1 : Shared) (a : Addr) (vs : List Value) (ns : List Int) (base : Heap) (cdv : Value), ns.length ≤ n → (KK w.params).In base → base.Ns mainGlobals mg → SqL (KK w.params) (hpOf (KK w.params) a vs ns) a (ns.map V.int) → Room k (callerA.deeper (envOfC qual (defScope st) s1.heap.objs.size fa cdv)) →
          ∃ t, PSs (cxOf CX0 l.prog w (KK w.params) mg base N qual (defScope st) fa cdv callerA [] s1 (hpOf (KK w.params) a vs ns) fun _ _ _ => False).nox (defBody st) t ∧ t { nx := fun _ _ => V.non = V.bl true, rt := fun v _ => v = V.bl true } (start N [.ref a]) (hpOf (KK w.params) a vs ns)) :
    PySem.W.WalkO q loose XP YP l.row.toRowW d [] (fun f vs => PySem.call f vs) := by
  refine Att.attach_call most nodef fun w s0 s1 mg mb fa o pm cd doc a vs ns gr yp h1 h2 h3 glob obj ai few gens => ?_
  obtain ⟨fd, fn, bind, rest⟩ := F w mg fa _ (inY w _ yp) gr.T.g glob
  exact law_at (inY w _ yp) gr.T.g gr.T.b gr.T.builtins gr.T.nolimit gens obj ai (Nat.le_trans few small) room fn Sc bind fun base cdv b1 b2 b3 b4 => rest s1 a vs ns base cdv few b1 b2 b3 b4
end
end TL
namespace TL
open PySem PySem.Spec PyProof.Rows L2 RZ
/-! ### the module's constants -/
section
variable {K : PySem.W.Frag} {w : World} {mg : Str → Option Value} {h : Heap}
/-- a value of the written part, as data -/
def ValK (K : PySem.W.Frag) (u : Value) (d : PyData) : Prop := ∃ v, RelV v u ∧ ∀ wd, Rv K wd v d
theorem valk_int (i : Int) (t : Tok) : ValK K (.int i t) (.int i) := ⟨.int i, ⟨t, rfl⟩, fun _ => .int i⟩
theorem valk_str (x : Str) (t : Tok) : ValK K (.str x t) (.str x) := ⟨.str x, ⟨t, rfl⟩, fun _ => .str x⟩
inductive FlatL : List Value → List PyData → Prop
  | nil : FlatL [] []
  | int {i : Int} {t : Tok} {r : List Value} {m : List PyData} : FlatL r m → FlatL (.int i t :: r) (.int i :: m)
  | str {x : Str} {t : Tok} {r : List Value} {m : List PyData} : FlatL r m → FlatL (.str x t :: r) (.str x :: m)
theorem FlatL.vals {us : List Value} {ds : List PyData} (f : FlatL us ds) : ∃ xs : List V, Vals xs us ∧ (∀ wd, RvL K wd xs ds) ∧ us.length = ds.length := by
  induction f with
  | nil => exact ⟨[], .nil, fun _ => .nil, rfl⟩
  | @int i t r m _ ih =>
    obtain ⟨xs, h1, h2, h3⟩ := ih
    exact ⟨.int i :: xs, .cons ⟨t, rfl⟩ h1, fun wd => .cons (.int i) (h2 wd), by simp [h3]⟩
  | @str x t r m _ ih =>
    obtain ⟨xs, h1, h2, h3⟩ := ih
    exact ⟨.str x :: xs, .cons ⟨t, rfl⟩ h1, fun wd => .cons (.str x) (h2 wd), by simp [h3]⟩
theorem valk_tup {a : Addr} {its : Array Value} {n : Nat} {sl : Array (Option Value)} {ds : List PyData} (l : K.lookup a = some ⟨.type "tuple", none, .seq its n, sl⟩) (f : FlatL its.toList ds) (hz : ds.length ≤ sizeLine) : ValK K (.ref a) (.tuple ds) := by
  obtain ⟨xs, h1, h2, h3⟩ := f.vals (K := K)
  have hs : its.size ≤ sizeLine := by
    rw [← Array.length_toList, h3]
    exact hz
  exact ⟨.ref a, rfl, fun wd => .tup (.inr ⟨.inr ⟨_, its, n, l, rfl, rfl, hs, h1⟩, fun o e => by rw [l] at e; cases e; rfl⟩) (h2 wd)⟩
theorem cst_of {x : Str} {u : Value} {d : PyData} (X : K.In h) (G : h.Ns mainGlobals mg) (e : PySem.W.nsIn K mainGlobals x = some (some u)) (v : ValK K u d) : Cst K mg x d :=
  let ⟨v, h1, h2⟩ := v; ⟨v, u, PySem.W.mg_of X G e, h1, h2⟩
/-! ### a constant dict -/
inductive EntL (P : Params) : List DictEntry → List (Str × Value) → Prop
  | nil : EntL P [] []
  | cons {hh : Int} {k : Str} {t : Tok} {v : Value} {r : List DictEntry} {m : List (Str × Value)} (e : hh = PyData.keyHash P k) : EntL P r m → EntL P (⟨hh, .str k t, v⟩ :: r) ((k, v) :: m)
theorem EntL.lit {P : Params} {es : List DictEntry} {m : List (Str × Value)} (h : EntL P es m) : PySem.W.KeysLit P es := by
  induction h with
  | nil => trivial
  | cons e _ ih => exact ⟨⟨_, _, rfl, e⟩, ih⟩
theorem EntL.look {P : Params} {es : List DictEntry} {m : List (Str × Value)} (h : EntL P es m) (z : Str) : (match es.find? (·.key.isStr z) with
      | some e => some (some e.val)
      | none => if es.any (·.refKey) then none else some none) = some (m.lookup z) := by
  have nr : es.any (·.refKey) = false := by
    induction h with
    | nil => rfl
    | cons _ _ ih => rw [List.any_cons, ih]; rfl
  have fd : es.find? (·.key.isStr z) = none ∧ m.lookup z = none ∨ ∃ e, es.find? (·.key.isStr z) = some e ∧ m.lookup z = some e.val := by
    clear nr
    induction h with
    | nil => exact .inl ⟨rfl, rfl⟩
    | @cons hh k t v r m e _ ih =>
      by_cases q : k = z
      · subst q
        have e1 : (Value.str k t).isStr k = true := by simp [Value.isStr]
        refine .inr ⟨⟨hh, .str k t, v⟩, by rw [List.find?_cons]; simp only [e1], ?_⟩
        simp [List.lookup]
      · have e1 : (Value.str k t).isStr z = false := by simp [Value.isStr, q]
        have e2 : (z == k) = false := by simpa using fun y => q y.symm
        rw [List.find?_cons]
        simp only [e1, List.lookup, e2]
        exact ih
  rcases fd with ⟨h1, h2⟩ | ⟨e, h1, h2⟩
  · rw [h1, h2, nr]
    rfl
  · rw [h1, h2]
inductive Tab2 (K : PySem.W.Frag) : List (Str × Value) → List (Str × PyData) → Prop
  | nil : Tab2 K [] []
  | cons {k : Str} {u : Value} {d : PyData} {r : List (Str × Value)} {m : List (Str × PyData)} (v : ValK K u d) : Tab2 K r m → Tab2 K ((k, u) :: r) ((k, d) :: m)
theorem Tab2.look {m : List (Str × Value)} {tbl : List (Str × PyData)} (h : Tab2 K m tbl) (z : Str) : (match tbl.lookup z with
    | some dt => ∃ u v, m.lookup z = some u ∧ RelV v u ∧ ∀ wd, Rv K wd v dt
    | none => m.lookup z = none) := by
  induction h with
  | nil => rfl
  | @cons k u d r m v _ ih =>
    cases q : (z == k) with
    | true =>
      obtain ⟨v, h1, h2⟩ := v
      simp only [List.lookup, q]
      exact ⟨u, v, rfl, h1, h2⟩
    | false =>
      simp only [List.lookup, q]
      exact ih
theorem ktab_of {d : Addr} {es : Array DictEntry} {n : Nat} {m : List (Str × Value)} {tbl : List (Str × PyData)} (l : K.lookup d = some ⟨.type "dict", none, .dict es n, #[]⟩) (e : EntL w.params es.toList m) (t : Tab2 K m tbl) (lo : (d == sysModules) = false) : KTab K w d tbl := by
  refine ⟨⟨es, n, l, e.lit, lo⟩, fun z => ⟨m.lookup z, ?_, t.look z⟩⟩
  unfold PySem.W.nsIn
  rw [l]
  exact e.look z
end
end TL
namespace TL
open PySem PySem.Spec PyProof.Rows L2 RZ
/-! ### a displayed dict with written text keys, as data -/
section
variable {G : Ct} {X : Cx} {pos kp : Pos} {keys : List (Option Expr)} {values : List Expr} {ks : List Str} {t : TL'} {e : Expr} {te : TX}
structure XDs (G : Ct) (X : Cx) (pos : Pos) (keys : List (Option Expr)) (values : List Expr) (ks : List Str) (t : TL') : Prop where
  mo : ∀ E g Q Q', (∀ ds g', Q ds g' → Q' ds g') → t E g Q → t E g Q'
  ex : ∃ trs, PPs X pos keys values trs ∧ ∀ (σ : L2.St) (H : Hp) (Q : List (V × V) → Hp → Prop), (∃ cl E g as, G.J g ⟨H, cl⟩ ∧ EnvR X.K G ⟨H, cl⟩ E σ as ∧ t E g fun ss g' => ∃ ds, dsOf ss = some ds ∧ ds.length = ks.length ∧ ∀ u vs, Go ⟨H, cl⟩ u → G.J g' u → RvL X.K u vs ds → Q (List.zipWith (fun k v => (V.str k, v)) ks vs) u.H) → tPairs trs σ H Q
theorem xd_nil : XDs G X pos [] [] [] xaNil :=
  ⟨fun E g Q Q' hq q => hq _ _ q, [], pps_nil, fun σ H Q ⟨cl, E, g, as, j, r, q⟩ => by
    obtain ⟨ds, e, l, q⟩ := q
    cases e
    exact q ⟨H, cl⟩ [] (Go.refl _) j .nil⟩
theorem xd_cons {k : Str} {j0 : Nat} (he : XE G X e te) (h : XDs G X pos keys values ks t) : XDs G X pos (some (.Constant (.str k) j0 kp) :: keys) (e :: values) (k :: ks) (xaCons te t) := by
  obtain ⟨trs, h1, h2⟩ := h.ex
  refine ⟨fun E g Q Q' hq q => he.mo _ _ _ _ (fun d g1 q1 => h.mo _ _ _ _ (fun ds g2 q2 => hq _ _ q2) q1) q, _, pps_cons pe_str he.pe h1, fun σ H Q ⟨cl, E, g, as, j, r, q⟩ => ?_⟩
  refine ⟨cl, E, g, as, j, r, he.mo _ _ _ _ (fun d g1 q1 u v go1 j1 rv => ?_) q⟩
  refine h2 _ _ _ ⟨u.cl, E, g1, as, j1, r.go go1, h.mo _ _ _ _ (fun ss g2 ⟨ds, e2, l2, q2⟩ => ?_) q1⟩
  have e2' : (dsOf ss).map (d :: ·) = some ds := e2
  cases e3 : dsOf ss with
  | none => rw [e3] at e2'; cases e2'
  | some ds' =>
    rw [e3] at e2'
    cases e2'
    exact ⟨ds', rfl, by simpa using l2, fun u2 vs go2 j2 rl => q2 u2 (v :: vs) (go1.trans go2) j2 (.cons (rv.go go2) rl)⟩
/-- the thing that an expression made is locked from then on -/
def tLk (t : TE) : TE := fun σ H Q => t σ H fun v H1 => ∃ d u, H1 d = some u ∧ Mut (some u) ∧ ∀ od : Obj, Q v (upd H1 d (.frz od u))
theorem pe_lk {X : Cx} {e : Expr} {t : TE} (h : PE X e t) : PE X e (tLk t) := by
  refine ⟨fun pins s σ H Q I hw => ?_⟩
  refine thn (h.run pins s σ _ _ I hw) fun v s1 ⟨x, H1, I1, r, d, u, hd, mu, q⟩ => ?_
  obtain ⟨od, I2⟩ := I1.lock hd mu
  exact ⟨x, _, I2, r, q od⟩
@[simp] def xDic (ks : List Str) (t : TL') : TX := fun E g Q => t E g fun ss g1 => ∃ ds, dsOf ss = some ds ∧ ds.length = ks.length ∧ Q (.dict ((ks.map PyData.str).zip ds)) g1
theorem zip_keys : ∀ (ks : List Str) (vs : List V), List.zipWith (fun k v => (V.str k, v)) ks vs = ((ks.map (Sum.inr : Str → Key)).zip vs).map fun kv => (kV kv.1, kv.2)
  | [], _ => by simp
  | _ :: _, [] => by simp
  | k :: ks, v :: vs => by
    simp only [List.zipWith_cons_cons, List.map_cons, List.zip_cons_cons]
    rw [zip_keys ks vs]
    rfl
theorem zip_nodup : ∀ (ks : List Str) (vs : List V), ks.Nodup → (((ks.map (Sum.inr : Str → Key)).zip vs).map (·.1)).Nodup
  | [], _, _ => by simp
  | _ :: _, [], _ => by simp
  | k :: ks, v :: vs, h => by
    obtain ⟨h1, h2⟩ := List.nodup_cons.1 h
    simp only [List.map_cons, List.zip_cons_cons]
    refine List.nodup_cons.2 ⟨fun hm => h1 ?_, zip_nodup ks vs h2⟩
    obtain ⟨p, hp, e⟩ := List.mem_map.1 hm
    have := (List.of_mem_zip (show (p.1, p.2) ∈ (ks.map (Sum.inr : Str → Key)).zip vs from hp)).1
    obtain ⟨k', hk', e'⟩ := List.mem_map.1 this
    rw [e] at e'
    cases e'
    exact hk'
theorem xe_dic (h : XDs G X pos keys values ks t) (hall : keys.all (·.isSome) = true) (hl : keys.length = values.length) (h0 : keys ≠ []) (h15 : keys.length ≤ 15) (nd : ks.Nodup) (hk : ks.length ≤ 15) : XE G X (.Dict keys values pos) (xDic ks t) := by
  obtain ⟨trs, h1, h2⟩ := h.ex
  refine ⟨fun E g Q Q' hq q => h.mo _ _ _ _ (fun ss g1 ⟨ds, e, l, q1⟩ => ⟨ds, e, l, hq _ _ q1⟩) q, (pe_lk (pe_disp h1 hall hl h0 h15)).imp fun σ H Q ⟨cl, E, g, as, j, r, q⟩ => fun p np => ?_⟩
  have gn : Go ⟨H, cl⟩ ((⟨H, cl⟩ : Wd).new p (.dK []) 1) := Go.new' np 1
  refine h2 _ _ _ ⟨((⟨H, cl⟩ : Wd).new p (.dK []) 1).cl, E, g, as, G.st0 (Go0.new np 1) j, r.go gn, h.mo _ _ _ _ (fun ss g1 ⟨ds, e, l, q1⟩ => ⟨ds, e, l, fun u vs go1 j1 rl => ?_⟩) q⟩
  have hp := go1.st p (.dK []) upd_same
  have cp : ((⟨H, cl⟩ : Wd).new p (.dK []) 1).cl p = 1 := if_pos rfl
  have up : u.H p = some (.dK []) := hp.2 (by show ((⟨H, cl⟩ : Wd).new p (.dK []) 1).cl p ≠ 2; rw [cp]; decide)
  have uc : u.cl p = 1 := hp.1.trans cp
  have lv : vs.length = ks.length := rl.len.trans l
  refine ⟨up, (ks.map Sum.inr).zip vs, ?_, by simp; omega, ?_⟩
  · exact zip_keys ks vs
  · have em : mergeK [] ((ks.map (Sum.inr : Str → Key)).zip vs) = (ks.map Sum.inr).zip vs := mergeK_nodup _ [] (zip_nodup ks vs nd)
    rw [em]
    refine ⟨p, _, upd_same, trivial, fun od => ?_⟩
    rw [upd_upd]
    have gu : Go ⟨H, cl⟩ u := gn.trans go1
    have other : ∀ b o, H b = some o → b ≠ p := fun b o z y => by rw [y, np] at z; cases z
    have g2 : Go ⟨H, cl⟩ ⟨upd u.H p (.frz od (.dK ((ks.map Sum.inr).zip vs))), fun b => if b = p then 0 else u.cl b⟩ := by
      refine ⟨fun b o z => ?_, fun b o z => ?_⟩
      · have ne := other b o z
        obtain ⟨c1, c2⟩ := gu.st b o z
        exact ⟨(if_neg ne).trans c1, fun k => (upd_ne ne).trans (c2 k)⟩
      · obtain ⟨o', z'⟩ := gu.tr b o z
        exact ⟨o', (upd_ne (other b o z)).trans z'⟩
    have pu2 : Pu u ⟨upd u.H p (.frz od (.dK ((ks.map Sum.inr).zip vs))), fun b => if b = p then 0 else u.cl b⟩ := fun b o z c => by
      have ne : b ≠ p := fun y => by rw [y, uc] at c; cases c
      exact ⟨(upd_ne ne).trans z, (if_neg ne).trans c⟩
    refine q1 ⟨upd u.H p (.frz od (.dK ((ks.map Sum.inr).zip vs))), fun b => if b = p then 0 else u.cl b⟩ (.ref p) g2 (G.st _ _ _ (fun b o z c => ?_) j1) ?_
    · have ne : b ≠ p := fun y => by rw [y, uc] at c; cases c
      exact ⟨(upd_ne ne).trans z, (if_neg ne).trans c⟩
    · have hd : (ks.map (Sum.inr : Str → Key)).map kD = ks.map PyData.str := by
        rw [List.map_map]
        rfl
      rw [← hd]
      exact .dic ⟨⟨od, upd_same⟩, if_pos rfl⟩ (by simpa using lv.symm) (rl.pu pu2)
/-- {} -/
@[simp] def xDic0 : TX := fun _ g Q => Q (.dict []) g
theorem xe_dic0 : XE G X (.Dict [] [] pos) xDic0 := by
  refine ⟨fun E g Q Q' hq q => hq _ _ q, (pe_lk pe_dnewK).imp fun σ H Q ⟨cl, E, g, as, j, r, q⟩ => fun p np => ?_⟩
  refine ⟨p, _, upd_same, trivial, fun od => ?_⟩
  rw [upd_upd]
  exact q ((⟨H, cl⟩ : Wd).new p (.frz od (.dK [])) 0) (.ref p) (Go.new' np 0) (G.st0 (Go0.new np 0) j) (.dic (ks := []) (xs := []) ⟨⟨od, upd_same⟩, if_pos rfl⟩ rfl .nil)
/-- x += e of numbers -/
@[simp] def xAug (i : Nat) (f : Int → Int → Int) (te : TX) : TSt := fun k E g => ∃ a : Int, E[i]? = some (.v (.int a)) ∧ te E g fun d g1 => ∃ b : Int, d = .int b ∧ k.nx (E.set i (.v (.int (f a b)))) g1
theorem xs_aug (i : Nat) {f : Int → Int → Int} {s : Stmt} (he : XE G X e te) (h : ∀ te', PE X e te' → PS X s (tAug i te' (ipI f))) : XS G X s (xAug i f te) := by
  refine ⟨fun k k' E g h ⟨a, e1, q⟩ => ⟨a, e1, he.mo _ _ _ _ (fun d g1 ⟨b, e2, q1⟩ => ⟨b, e2, h.nx _ _ q1⟩) q⟩, (h _ he.pe).imp fun D σ H ⟨cl, E, g, as, j, go, r, a, e1, q⟩ => ?_⟩
  obtain ⟨x, hx, rx⟩ := r.get e1
  cases rx
  refine ⟨.int a, hx, cl, E, g, as, j, r, he.mo _ _ _ _ (fun d g1 ⟨b, e2, q1⟩ u v go1 j1 rv => ?_) q⟩
  subst e2
  cases rv
  obtain ⟨bs, r1, _⟩ := (r.go go1).set i (Rv.int (f a b))
  exact ⟨a, b, rfl, rfl, q1 u _ bs j1 (go.trans go1) go1.pu r1⟩
end
end TL
namespace TL
open PySem PySem.Spec PyProof.Rows L2 RZ
section
variable {prog : Program} {w : World} {A : Around} {E : Value → Shared → Prop} {s : Shared}
theorem back_adjust (n : Nat) : Builtin.Slice.sliceAdjust none none (-1) (n : Int) = ((n : Int) - 1, -1) := by
  unfold Builtin.Slice.sliceAdjust
  simp
theorem back_places (n : Nat) : Builtin.Slice.slicePlaces ((n : Int) - 1) (-1) (-1) = n := by
  unfold Builtin.Slice.slicePlaces
  simp
  omega
theorem back_pick (xs : Array Value) : ((List.range xs.size).filterMap fun (m : Nat) => xs[(((xs.size : Int) - 1) + (m : Int) * (-1)).toNat]?).toArray = xs.toList.reverse.toArray := by
  have e1 : (List.range xs.size).filterMap (fun (m : Nat) => xs[(((xs.size : Int) - 1) + (m : Int) * (-1)).toNat]?) = ((List.range xs.size).map fun k => xs.size - 1 - k).filterMap (xs[·]?) := by
    rw [List.filterMap_map]
    have cg : ∀ (l : List Nat) (f g : Nat → Option Value), (∀ m ∈ l, f m = g m) → l.filterMap f = l.filterMap g := fun l f g => by
      induction l with
      | nil => intro _; rfl
      | cons a r ih =>
        intro q
        rw [List.filterMap_cons, List.filterMap_cons, q a List.mem_cons_self, ih fun m hm => q m (List.mem_cons_of_mem _ hm)]
    refine cg _ _ _ fun m hm => ?_
    have hl := List.mem_range.1 hm
    have e : (((xs.size : Int) - 1) + (m : Int) * (-1)).toNat = xs.size - 1 - m := by omega
    rw [e]
    rfl
  rw [e1, PySem.W.krv_range, List.filterMap_reverse, PySem.W.krv_all]
theorem back_applied {sl : Addr} {u : Tok} {n : Nat} {Q : Int × Int × Nat → Shared → Prop} (hs : s.heap.IsSliceOf sl .none .none (.int (-1) u)) (h : Q ((n : Int) - 1, -1, n) s) : wpAny (model prog w) A (Builtin.Slice.sliceApplied (.ref sl) (pure (n : Int))) Q E s := by
  obtain ⟨os, g1, g2, g3⟩ := id hs
  unfold Builtin.Slice.sliceApplied Builtin.Slice.sliceFields
  refine wpAny_bind (wpAny_bind (wpAny_field g1 g3 (x := Value.none) rfl (wpAny_bind (wpAny_field g1 g3 (x := Value.none) rfl (wpAny_bind (wpAny_field g1 g3 (x := .int (-1) u) rfl (wpAny_pure ?_)))))))
  refine wpAny_bind (slicePart_int ?_)
  show wpAny _ _ (if ((-1 : Int) == 0) = true then _ else _) _ _ s
  rw [if_neg (by decide)]
  refine wpAny_bind (slicePart_none (wpAny_bind (slicePart_none (wpAny_bind (wpAny_pure ?_)))))
  show wpAny _ _ (match Builtin.Slice.sliceAdjust none none (-1) (n : Int) with | (lo, hi) => pure (lo, (-1 : Int), Builtin.Slice.slicePlaces lo hi (-1))) _ _ s
  rw [back_adjust]
  show wpAny _ _ (pure ((n : Int) - 1, (-1 : Int), Builtin.Slice.slicePlaces ((n : Int) - 1) (-1) (-1))) _ _ s
  rw [back_places]
  exact wpAny_pure h
theorem back_tuple {t sl : Addr} {items : Array Value} {u : Tok} {Q : Value → Shared → Prop} (ht : IsTup s.heap t items) (hs : s.heap.IsSliceOf sl .none .none (.int (-1) u)) (small : items.size ≤ sizeLine)
    (h : Q (.ref s.heap.objs.size) { s with heap := s.heap.push { cls := .type "tuple", data := .seq items.toList.reverse.toArray } }) : wpAny (model prog w) A (getItem (.ref t) (.ref sl)) Q E s := by
  have fits : sizeOk (.seq items.toList.reverse.toArray) := by
    show items.toList.reverse.toArray.size ≤ sizeLine
    simpa using small
  obtain ⟨os, g1, g2, g3⟩ := id hs
  have isSl : s.TypeIs (.ref sl) "slice" := ⟨os, g1, g2⟩
  unfold getItem
  (try with_reducible refine wpAny_holding ?_); (first | refine wpAny_bind (wpAny_pure ?_) | skip)
  refine wpAny_bind (wpAny_sequenceKey ht.typeIs (by decide) ?_)
  refine wpAny_bind (wpAny_callSpecial?_slot (name := Str.ofString "__getitem__") ht.typeIs PyProof.Rows.slot_tuple_getitem (wpAny_call_entry PyProof.Rows.slot_tuple_getitem ht.typeIs PyProof.Rows.entry_tuple_getitem ?_ (PyProof.Rows.args_tuple_getitem _ _)))
  show wpAny (model prog w) _ (Builtin.Tuple.tupleItemsOf (.ref t) >>= _) _ _ s
  refine wpAny_bind (PyProof.Rows.tupleItemsOf_ ht ?_)
  refine wpAny_bind (wpAny_typeOf isSl ?_)
  rw [if_pos (by decide)]
  refine wpAny_bind (back_applied hs ?_)
  have no : ¬ ((((items.size : Int) - 1) == 0 && (-1 : Int) == 1 && items.size == items.size) = true) := by simp
  show wpAny _ _ (if ((((items.size : Int) - 1) == 0 && (-1 : Int) == 1 && items.size == items.size) = true) then _ else _) _ _ s
  rw [if_neg no, back_pick]
  first
    | exact wpAny_bind (m := Builtin.Tuple.tupleExact _) (wpAny_newObj_type (wpAny_pure ⟨_, rfl, wpAny_pure h⟩) fits)
    | exact wpAny_bind (m := Builtin.Tuple.tupleExact _) (wpAny_newObj_type (wpAny_bind (wpAny_pure (wpAny_pure ⟨_, rfl, wpAny_pure h⟩))) fits)
    | exact wpAny_bind (wpAny_bind (m := Builtin.Tuple.tupleExact _) (wpAny_newObj_type (wpAny_pure (wpAny_pure ⟨_, rfl, wpAny_pure h⟩)) fits))
    | exact wpAny_bind (wpAny_bind (m := Builtin.Tuple.tupleExact _) (wpAny_newObj_type (wpAny_pure ⟨_, rfl, wpAny_pure h⟩) fits))
end
section
variable {G : Ct} {X : Cx} {e st : Expr} {te ts : TE} {xe xs' : TX} {pos p2 : Pos}
def tBack (K : PySem.W.Frag) (te ts : TE) : TE := fun σ H Q => te σ H fun x H1 => ts σ H1 fun y H2 => y = .int (-1) ∧ ∃ a xs, x = .ref a ∧ SqT K H2 a xs ∧ ∀ p o, H2 p = none → o.dict = none → Q (.ref p) (upd H2 p (tupO o xs.reverse))
theorem vals_rev {xs : List V} {us : List Value} (r : Vals xs us) : Vals xs.reverse us.reverse := by
  induction r with
  | nil => exact .nil
  | cons h _ ih =>
    rw [List.reverse_cons, List.reverse_cons]
    exact ih.append (.cons h .nil)
theorem pe_back (he : PE X e te) (hs : PE X st ts) : PE X (.Subscript e (.Slice none none (some st) p2) pos) (tBack X.K te ts) := by
  refine ⟨fun pins s σ H Q I h => Subscript_ (thn (he.run pins s σ H _ I h) fun v s1 ⟨x, H1, I1, r1, q1⟩ => wpAny_Slice ?_)⟩
  rw [evalPart_none]
  refine wpAny_pure (wpAny_pure ?_)
  rw [evalPart_some]
  refine thn (hs.run pins s1 σ H1 _ I1 q1) fun w2 s2 ⟨y, H2, I2, r2, ey, a, xs, ex, hT, hq⟩ => ?_
  subst ey ex
  obtain ⟨tk, rfl⟩ := r2
  obtain rfl : v = Value.ref a := r1
  have I3 : Inv X pins σ H2 { s2 with heap := s2.heap.push { cls := .type "slice", data := .fields #[.none, .none, .int (-1) tk] } } := I2.kept (t' := s2.toks) fun b ob z => Heap.get?_push_of_some _ z
  obtain ⟨its, r, ht, hz⟩ := I3.tuple hT
  have hg : wpAny (model X.prog X.w) X.A (getItem (.ref a) (.ref s2.heap.objs.size)) (EP X pins σ Q) X.xe { s2 with heap := s2.heap.push { cls := .type "slice", data := .fields #[.none, .none, .int (-1) tk] } } := by
    refine back_tuple ht (Heap.IsSliceOf.new ..) (by rw [List.size_toArray, ← r.length]; exact hz) ?_
    exact ⟨.ref _, _, laid_tup I3 (vals_rev r) (by rw [List.length_reverse]; exact hz), rfl, hq _ _ (I3.hok.fresh (Nat.le_refl _)) rfl⟩
  exact tail_any (ops := [.ref a, .ref s2.heap.objs.size]) ht.typeIs PyProof.Rows.slot_tuple_getitem.lookup hg (by with_unfolding_all rfl)
@[simp] def xBack (te ts : TX) : TX := fun E g Q => te E g fun d g1 => ts E g1 fun y g2 => y = .int (-1) ∧ ∃ l, d = .tuple l ∧ Q (.tuple l.reverse) g2
theorem rvl_rev {K : PySem.W.Frag} {w : Wd} {vs : List V} {ds : List PyData} (r : RvL K w vs ds) : RvL K w vs.reverse ds.reverse := by
  have app : ∀ {a : List V} {b : List PyData} {c : List V} {d : List PyData}, RvL K w a b → RvL K w c d → RvL K w (a ++ c) (b ++ d) := fun h1 h2 => h1.app h2
  induction vs generalizing ds with
  | nil => cases r; exact .nil
  | cons v vs ih =>
    cases r with
    | cons h t =>
      rw [List.reverse_cons, List.reverse_cons]
      exact app (ih t) (.cons h .nil)
theorem xe_back {te ts : TX} (he : XE G X e te) (hs : XE G X st ts) : XE G X (.Subscript e (.Slice none none (some st) p2) pos) (xBack te ts) := by
  refine ⟨fun E g Q Q' hq q => he.mo _ _ _ _ (fun d g1 q1 => hs.mo _ _ _ _ (fun y g2 ⟨a, l, b, q2⟩ => ⟨a, l, b, hq _ _ q2⟩) q1) q, (pe_back he.pe hs.pe).imp fun σ H Q ⟨cl, E, g, as, j, r, q⟩ => ?_⟩
  refine ⟨cl, E, g, as, j, r, he.mo _ _ _ _ (fun d g1 q1 u v go1 j1 rv1 => ?_) q⟩
  refine ⟨u.cl, E, g1, as, j1, r.go go1, hs.mo _ _ _ _ (fun y g2 ⟨a, l, b, q2⟩ u2 v2 go2 j2 rv2 => ?_) q1⟩
  subst a b
  cases rv2
  cases rv1.go go2 with
  | tup hT rl => exact ⟨rfl, _, _, rfl, hT.sq, fun p o np hd => q2 (u2.new p _ 0) _ ((go1.trans go2).trans (Go.new' np 0)) (G.st0 (Go0.new np 0) j2) (new_tup np hd (rvl_rev rl))⟩
end
end TL
namespace TL
open PySem PySem.Spec PyProof.Rows L2 RZ
section
variable {G : Ct} {X : Cx} {K : PySem.W.Frag}
/-- repr of a truth value, of None, of a number that is not too great, of a list or a tuple -/
def rRepr2 (K : PySem.W.Frag) : List V → Hp → VK → Prop := fun xs H Q =>
  (∃ b, xs = [.bl b] ∧ Q (.str (if b then "True" else "False")) H) ∨ (xs = [.non] ∧ Q (.str "None") H) ∨ (∃ i : Int, xs = [.int i] ∧ i.natAbs.log2 < 1920 ∧ Q (.str (toString i)) H) ∨ rRepr K xs H Q
theorem call_repr2 (hg : X.A.guards = some []) (hu : X.A.units + 66 < cLine) : CallR X (.builtin "repr") (rRepr2 X.K) := by
  intro pins s σ H xs us Q I rv h
  rcases h with ⟨b, e, q⟩ | ⟨e, q⟩ | ⟨i, e, hz, q⟩ | h
  · subst e
    obtain ⟨u, rfl, rfl⟩ := vals1 rv
    exact PySem.P.repr_of_bool ⟨.str _, H, I.tok _, ⟨_, rfl⟩, q⟩
  · subst e
    obtain ⟨u, rfl, rfl⟩ := vals1 rv
    exact PySem.P.repr_of_none ⟨.str _, H, I.tok _, ⟨_, rfl⟩, q⟩
  · exact SkE.call_repr_int pins s σ H xs us Q I rv ⟨i, e, hz, q⟩
  · exact call_reprD hg hu pins s σ H xs us Q I rv h
@[simp] def cRepr2 : CD := fun ds g Q => (∃ b, ds = [.bool b] ∧ Q (.str (if b then "True" else "False")) g) ∨ (ds = [.none] ∧ Q (.str "None") g) ∨ (∃ i : Int, ds = [.int i] ∧ i.natAbs.log2 < 1920 ∧ Q (.str (toString i)) g) ∨ cRepr ds g Q
theorem cd_repr2 : CallD G K (rRepr2 K) cRepr2 := by
  refine ⟨fun ds g Q Q' hq q => ?_, fun w g vs ds Q j r q => ?_⟩
  · rcases q with ⟨b, e, q⟩ | ⟨e, q⟩ | ⟨i, e, hz, q⟩ | q
    · exact .inl ⟨b, e, hq _ _ q⟩
    · exact .inr (.inl ⟨e, hq _ _ q⟩)
    · exact .inr (.inr (.inl ⟨i, e, hz, hq _ _ q⟩))
    · exact .inr (.inr (.inr ((cd_repr (G := G) (K := K)).mo _ _ _ _ hq q)))
  · rcases q with ⟨b, e, q⟩ | ⟨e, q⟩ | ⟨i, e, hz, q⟩ | q
    · subst e
      cases r with
      | cons h t =>
        cases t; cases h
        exact .inl ⟨b, rfl, q w _ (Go.refl w) j (.str _)⟩
    · subst e
      cases r with
      | cons h t =>
        cases t; cases h
        exact .inr (.inl ⟨rfl, q w _ (Go.refl w) j (.str _)⟩)
    · subst e
      cases r with
      | cons h t =>
        cases t; cases h
        exact .inr (.inr (.inl ⟨i, rfl, hz, q w _ (Go.refl w) j (.str _)⟩))
    · exact .inr (.inr (.inr (cd_repr.to _ _ _ _ _ j r q)))
end
end TL
namespace TL
open PySem PySem.Spec PyProof.Rows L2 RZ
/-! ### great numbers -/
/-- far from the limits of the machine -/
def Wb (i : Int) : Prop := -(10 ^ 200) < i ∧ i < 10 ^ 200
theorem wb_of {i : Int} (h : -(10 ^ 160) ≤ i) (h2 : i ≤ 10 ^ 160) : Wb i := by
  unfold Wb
  omega
theorem wb_log {i : Int} (h : Wb i) : i.natAbs.log2 < 700 := by
  have h1 : i.natAbs < 2 ^ 700 := by
    have : (10 : Nat) ^ 200 < 2 ^ 700 := by decide +kernel
    unfold Wb at h
    omega
  exact PySem.Flt.log2_lt_of (by decide) h1
section
variable {G : Ct} {X : Cx} {K : PySem.W.Frag} {a b e : Expr} {ta tb te : TX} {pos : Pos}
def CMulB (i j : Int) : Prop := Wb i ∧ Wb j
def CDivB (_ j : Int) : Prop := 0 < j ∧ Wb j
theorem CMulB.w {i j : Int} (h : CMulB i j) : CMulW i j := by
  have a := wb_log h.1
  have b := wb_log h.2
  unfold CMulW
  omega
theorem CDivB.w {i j : Int} (h : CDivB i j) : CDivW i j := ⟨h.1, by have := wb_log h.2; omega⟩
theorem op_mulB : OpR X (binaryOp .Mult) (rI CMulB fun i j => .int (i * j)) := opI fun _ _ _ _ _ _ _ hc q => mul_int q (CMulB.w hc).ok
theorem op_divB : OpR X (binaryOp .FloorDiv) (rI CDivB fun i j => .int (i / j)) := opI fun i j _ _ _ _ _ hc q => by
  have h1 : (0 : Int) < j := hc.1
  exact floordiv_int (by omega) (by rw [Int.fdiv_eq_ediv_of_nonneg i (by omega)]; exact q) (.inl (PyProof.noPylong_of_log2 (CDivB.w hc).2))
@[simp] def oMulB : OD := oIC (fun i j => Wb i ∧ Wb j) fun i j => .int (i * j)
@[simp] def oDivB : OD := oIC (fun _ j => 0 < j ∧ Wb j) fun i j => .int (i / j)
theorem xe_mulB (ha : XE G X a ta) (hb : XE G X b tb) : XE G X (.BinOp a .Mult b pos) (xBin ta tb oMulB) := xe_op op_mulB od_IC ha hb
theorem xe_divB (ha : XE G X a ta) (hb : XE G X b tb) : XE G X (.BinOp a .FloorDiv b pos) (xBin ta tb oDivB) := xe_op op_divB od_IC ha hb
/-- divmod -/
def rDivmod : List V → Hp → VK → Prop := fun xs H Q => ∃ i j, xs = [.int i, .int j] ∧ CDivB i j ∧ ∀ p, H p = none → Q (.ref p) (upd H p (.tup [.int (i / j), .int (i % j)]))
theorem call_divmodB : CallR X (.builtin "divmod") rDivmod := by
  intro pins s σ H xs us Q I r h
  obtain ⟨i, j, e, hc, q⟩ := h
  exact call_divmodW pins s σ H xs us Q I r ⟨i, j, e, ⟨hc.1, PyProof.noPylong_of_log2 (CDivB.w hc).2⟩, q⟩
@[simp] def cDivmod : CD := fun ds g Q => ∃ i j : Int, ds = [.int i, .int j] ∧ (0 < j ∧ Wb j) ∧ Q (.tuple [.int (i / j), .int (i % j)]) g
theorem cd_divmod : CallD G K rDivmod cDivmod := by
  refine ⟨fun ds g Q Q' hq ⟨i, j, a, b, q⟩ => ⟨i, j, a, b, hq _ _ q⟩, fun w g vs ds Q j r ⟨x, y, a, b, q⟩ => ?_⟩
  subst a
  cases r with
  | cons h t =>
    cases t with
    | cons h2 t =>
      cases t; cases h; cases h2
      refine ⟨x, y, rfl, b, fun p np => ?_⟩
      refine q (w.new p (.tup [.int (x / y), .int (x % y)]) 0) (.ref p) (Go.new' np 0) (G.st0 (Go0.new np 0) j) ?_
      exact .tup (.inl ⟨{ cls := .type "tuple", data := .seq #[] }, by rw [show tupO _ [V.int (x / y), .int (x % y)] = HO.tup [V.int (x / y), .int (x % y)] from if_pos rfl]; exact upd_same, rfl, if_pos rfl⟩) (.cons (.int _) (.cons (.int _) .nil))
end
/-! ### while -/
/-- by what holds of the slots between two turns, with a number that falls -/
def xWhile (c : TC) (tb : TSt) : TSt := fun k E g => ∃ I : Nat → List S → Nat → Prop, (∃ n, I n E g) ∧ ∀ n E g, I n E g → c E g fun b g' =>
  if b = true then tb { nx := fun E' g2 => ∃ n', n' < n ∧ I n' E' g2, rt := k.rt, bk := k.nx, ct := fun E' g2 => ∃ n', n' < n ∧ I n' E' g2 } E g' else k.nx E g'
section
variable {G : Ct} {X : Cx} {c : Expr} {body : List Stmt} {tc : TC} {tb : TSt} {pos : Pos}
theorem xs_while (hp : PassesOwn (model X.prog X.w) X.A X.env X.xe) (hc : XC G X c tc) (hb : XSs G X body tb) : XS G X (.While c body [] pos) (xWhile tc tb) := by
  refine ⟨fun k k' E g h ⟨I, hi, ht⟩ => ⟨I, hi, fun n E g q => hc.mo _ _ _ _ (fun b g' q1 => ?_) (ht n E g q)⟩, (ps_while hp hc.pt hb.ps).imp fun D σ H ⟨cl, E, g, as, j, go, r, I, ⟨n0, hi⟩, ht⟩ => ?_⟩
  · cases b with
    | true => exact hb.mo { nx := fun E' g2 => ∃ n', n' < n ∧ I n' E' g2, rt := k.rt, bk := k.nx, ct := fun E' g2 => ∃ n', n' < n ∧ I n' E' g2 } _ _ _ ⟨fun _ _ z => z, h.rt, h.nx, fun _ _ z => z⟩ q1
    | false => exact h.nx _ _ q1
  · refine ⟨fun m σ' H' => ∃ cl' E' g' as', G.J g' ⟨H', cl'⟩ ∧ Go G.w0 ⟨H', cl'⟩ ∧ Pu ⟨H, cl⟩ ⟨H', cl'⟩ ∧ EnvR X.K G ⟨H', cl'⟩ E' σ' as' ∧ I m E' g', ⟨n0, cl, E, g, as, j, go, Pu.refl _, r, hi⟩, ?_⟩
    rintro m σ1 H1 ⟨cl1, E1, g1, as1, j1, go1, pu1, r1, i1⟩
    refine ⟨cl1, E1, g1, as1, j1, r1, hc.mo _ _ _ _ (fun b g2 q2 u go2 j2 => ?_) (ht m E1 g1 i1)⟩
    cases b with
    | true =>
      rw [if_pos rfl] at q2 ⊢
      refine ⟨fun σ' H' => ∃ m', m' < m ∧ ∃ cl' E' g' as', G.J g' ⟨H', cl'⟩ ∧ Go G.w0 ⟨H', cl'⟩ ∧ Pu ⟨H, cl⟩ ⟨H', cl'⟩ ∧ EnvR X.K G ⟨H', cl'⟩ E' σ' as' ∧ I m' E' g', fun σ' H' ⟨m', a, b⟩ => ⟨m', a, b⟩, ?_⟩
      refine ⟨u.cl, E1, g2, as1, j2, go1.trans go2, r1.go go2, hb.mo { nx := fun E' g2 => ∃ n', n' < m ∧ I n' E' g2, rt := (ktOf X.K G ⟨H, cl⟩ D).rt, bk := (ktOf X.K G ⟨H, cl⟩ D).nx, ct := fun E' g2 => ∃ n', n' < m ∧ I n' E' g2 } _ _ _ ⟨fun E' g' ⟨n', hn, i'⟩ x σ' as' jx gox px rx => ⟨n', hn, x.cl, E', g', as', jx, gox, (pu1.trans go2.pu).trans px, rx, i'⟩, fun d g' z x v jx gox rv => z x v jx gox rv, fun E' g' z x σ' as' jx gox px rx => z x σ' as' jx gox ((pu1.trans go2.pu).trans px) rx, fun E' g' ⟨n', hn, i'⟩ x σ' as' jx gox px rx => ⟨n', hn, x.cl, E', g', as', jx, gox, (pu1.trans go2.pu).trans px, rx, i'⟩⟩ q2⟩
    | false =>
      rw [if_neg (by decide)] at q2 ⊢
      exact q2 u σ1 as1 j2 (go1.trans go2) (pu1.trans go2.pu) (r1.go go2)
end
end TL
namespace TL
open PySem PySem.Spec PyProof.Rows L2 RZ
/-! ### what can be shown -/
structure Sh (d : PyData) (B dep : Nat) : Prop where
  lay : d.canLay0 = true
  dp : d.depth ≤ dep
  sh : d.showable = true
  ln : d.shown.length ≤ B
def Shown (d : PyData) : Prop := ∃ B dep, Sh d B dep ∧ B ≤ 16000000 ∧ dep ≤ 64
theorem Sh.mono {d : PyData} {B dep B' dep' : Nat} (h : Sh d B dep) (a : B ≤ B') (b : dep ≤ dep') : Sh d B' dep' := ⟨h.lay, Nat.le_trans h.dp b, h.sh, Nat.le_trans h.ln a⟩
theorem sh_none : Sh .none 5 0 := ⟨rfl, Nat.le_refl _, rfl, by show (4 : Nat) ≤ 5; decide⟩
theorem sh_bool (b : Bool) : Sh (.bool b) 5 0 := ⟨rfl, Nat.le_refl _, rfl, by cases b <;> decide +kernel⟩
theorem sh_int {i : Int} (h : Wb i) : Sh (.int i) 210 0 := by
  refine ⟨rfl, Nat.le_refl _, ?_, ?_⟩
  · have := wb_log h
    simp only [PyData.showable, decide_eq_true_eq]
    omega
  · have e := int_text_length_le10 (a := i) (k := 200) (by decide) (by unfold Wb at h; omega)
    show (Str.ofString (toString i)).length ≤ 210
    rw [PySem.ofString_length]
    omega
theorem sh_str {x : Str} {n : Nat} (h : PyData.strOk x = true) (l : x.length ≤ n) : Sh (.str x) (10 * n + 2) 0 := by
  refine ⟨h, Nat.le_refl _, rfl, ?_⟩
  have hc : ∀ c ∈ x.cps.toList, c < 16 ^ 8 := by
    have := PyData.leavesShort_of_canLay0 13 (.str x) h rfl
    simp only [PyData.leavesShort, List.all_eq_true, decide_eq_true_eq] at this
    exact this
  have := StrLaws.reprText_len x hc
  show (reprText x).length ≤ _
  omega
theorem shAll {l : List PyData} {B dep : Nat} (h : ∀ d ∈ l, Sh d B dep) : PyData.canLayAll0 l = true ∧ PyData.depthAll l ≤ dep ∧ PyData.showableAll l = true ∧ ((PyData.shownAll l).map (·.length)).sum ≤ l.length * B ∧ (PyData.shownAll l).length = l.length := by
  induction l with
  | nil => simp [PyData.canLayAll0, PyData.depthAll, PyData.showableAll, PyData.shownAll]
  | cons x r ih =>
    obtain ⟨a, b, c, d, e⟩ := ih fun z hz => h z (List.mem_cons_of_mem _ hz)
    have hx := h x List.mem_cons_self
    refine ⟨by simp [PyData.canLayAll0, hx.lay, a], ?_, by simp [PyData.showableAll, hx.sh, c], ?_, by simp [PyData.shownAll, e]⟩
    · simp only [PyData.depthAll]
      exact Nat.max_le.2 ⟨hx.dp, b⟩
    · simp only [PyData.shownAll, List.map_cons, List.sum_cons, List.length_cons, Nat.succ_mul]
      have := hx.ln
      omega
theorem sh_list {l : List PyData} {B dep n : Nat} (h : ∀ d ∈ l, Sh d B dep) (hl : l.length ≤ n) : Sh (.list l) (n * (B + 2) + 3) (dep + 1) := by
  obtain ⟨a, b, c, d, e⟩ := shAll h
  refine ⟨by simp [PyData.canLay0, a], by simp [PyData.depth]; omega, by simp [PyData.showable, c], ?_⟩
  have := listText_len_le (PyData.shownAll l)
  show (listText (PyData.shownAll l)).length ≤ _
  have h2 : l.length * (B + 2) ≤ n * (B + 2) := Nat.mul_le_mul_right _ hl
  rw [Nat.mul_add] at h2
  omega
theorem sh_tup {l : List PyData} {B dep n : Nat} (h : ∀ d ∈ l, Sh d B dep) (hl : l.length ≤ n) : Sh (.tuple l) (n * (B + 2) + 3) (dep + 1) := by
  obtain ⟨a, b, c, d, e⟩ := shAll h
  refine ⟨by simp [PyData.canLay0, a], by simp [PyData.depth]; omega, by simp [PyData.showable, c], ?_⟩
  have := tupleText_len_le (PyData.shownAll l)
  show (tupleText (PyData.shownAll l)).length ≤ _
  have h2 : l.length * (B + 2) ≤ n * (B + 2) := Nat.mul_le_mul_right _ hl
  rw [Nat.mul_add] at h2
  omega
mutual
theorem noDict_lay : ∀ d : PyData, d.canLay0 = true → noDict d = true
  | .none, _ => rfl
  | .bool _, _ => rfl
  | .int _, _ => rfl
  | .str _, _ => rfl
  | .list l, h => by
    simp only [PyData.canLay0] at h
    simpa [noDict] using noDicts_lay l h
  | .tuple l, h => by
    simp only [PyData.canLay0] at h
    simpa [noDict] using noDicts_lay l h
  | .dict _, h => by simp [PyData.canLay0] at h
theorem noDicts_lay : ∀ l : List PyData, PyData.canLayAll0 l = true → noDicts l = true
  | [], _ => rfl
  | x :: r, h => by
    simp only [PyData.canLayAll0, Bool.and_eq_true] at h
    simp only [noDicts, Bool.and_eq_true]
    exact ⟨noDict_lay x h.1, noDicts_lay r h.2⟩
end
theorem Sh.noDict {d : PyData} {B dep : Nat} (h : Sh d B dep) : TL.noDict d = true := noDict_lay d h.lay
theorem Sh.shaped {d : PyData} {B dep : Nat} (h : Sh d B dep) (l : dep ≤ 64) : SeqAt.shaped d = true := by
  have := h.dp
  simp only [SeqAt.shaped, Bool.and_eq_true, decide_eq_true_eq]
  exact ⟨h.lay, by omega⟩
theorem Shown.noDict {d : PyData} (h : Shown d) : TL.noDict d = true := by
  obtain ⟨B, dep, h, _, _⟩ := h
  exact h.noDict
theorem Shown.shaped {d : PyData} (h : Shown d) : SeqAt.shaped d = true := by
  obtain ⟨B, dep, h, _, l⟩ := h
  exact h.shaped l
@[simp] theorem shown_none : Shown .none := ⟨_, _, sh_none, by decide, by decide⟩
@[simp] theorem shown_bool (b : Bool) : Shown (.bool b) := ⟨_, _, sh_bool b, by decide, by decide⟩
theorem shown_int {i : Int} (h : Wb i) : Shown (.int i) := ⟨_, _, sh_int h, by decide, by decide⟩
/-! ### repr of data -/
section
variable {G : Ct} {X : Cx} {K : PySem.W.Frag}
def rReprU (K : PySem.W.Frag) : List V → Hp → VK → Prop := fun xs H Q => ∃ v d, xs = [v] ∧ Dp K H v d ∧ Shown d ∧ Q (.str d.shown) H
theorem call_reprU (hg : X.A.guards = some []) (hu : X.A.units + 66 < cLine) : CallR X (.builtin "repr") (rReprU X.K) := by
  intro pins s σ H xs us Q I rv h
  obtain ⟨v, d, e, hd, hs, q⟩ := h
  subst e
  obtain ⟨B, dep, h, hB, hdep⟩ := hs
  have sz : (16000000 : Nat) ≤ sizeLine := by decide +kernel
  cases hd with
  | non =>
    obtain ⟨u, rfl, rfl⟩ := vals1 rv
    exact PySem.P.repr_of_none ⟨.str _, H, I.tok _, ⟨_, rfl⟩, q⟩
  | bl b =>
    obtain ⟨u, rfl, rfl⟩ := vals1 rv
    exact PySem.P.repr_of_bool ⟨.str _, H, I.tok _, ⟨_, rfl⟩, by cases b <;> exact q⟩
  | int i =>
    have := h.sh
    simp only [PyData.showable, decide_eq_true_eq] at this
    exact SkE.call_repr_int pins s σ H _ us Q I rv ⟨i, rfl, this, q⟩
  | str x =>
    obtain ⟨u, rfl, ru⟩ := vals1 rv
    obtain ⟨t, rfl⟩ := ru
    refine PySem.P.repr_of_str ⟨.str _, H, I.tok _, ⟨_, rfl⟩, q⟩ ?_
    have := h.ln
    exact Nat.le_trans this (by omega)
  | lst a b =>
    have := h.ln
    have dp := h.dp
    exact call_reprD hg hu pins s σ H _ us Q I rv ⟨_, _, rfl, .lst a b, h.sh, PyData.hasDict_of_canLay _ h.lay, by omega, by omega, q⟩
  | tup a b =>
    have := h.ln
    have dp := h.dp
    exact call_reprD hg hu pins s σ H _ us Q I rv ⟨_, _, rfl, .tup a b, h.sh, PyData.hasDict_of_canLay _ h.lay, by omega, by omega, q⟩
def cReprU : CD := fun ds g Q => ∃ d, ds = [d] ∧ Shown d ∧ Q (.str d.shown) g
@[simp] theorem cReprU_1 (d : PyData) (g : Nat) (Q : PyData → Nat → Prop) : cReprU [d] g Q = (Shown d ∧ Q (.str d.shown) g) := by
  simp [cReprU]
theorem cd_reprU : CallD G K (rReprU K) cReprU := by
  refine ⟨fun ds g Q Q' hq ⟨d, a, b, q⟩ => ⟨d, a, b, hq _ _ q⟩, fun w g vs ds Q j r ⟨d, a, b, q⟩ => ?_⟩
  subst a
  cases r with
  | cons h t =>
    cases t
    exact ⟨_, d, rfl, h.dp b.noDict, b, q w _ (Go.refl w) j (.str _)⟩
end
/-! ### small facts -/
@[simp] theorem cInt_int (i : Int) (g : Nat) (Q : PyData → Nat → Prop) : cInt [.int i] g Q = Q (.int i) g := by simp [cInt]
@[simp] theorem cInt_bool (b : Bool) (g : Nat) (Q : PyData → Nat → Prop) : cInt [.bool b] g Q = Q (.int (if b then 1 else 0)) g := by simp [cInt]
@[simp] theorem rangeD_len (i : Int) (n : Nat) : (rangeD i n).length = n := by simp [rangeD]
theorem range_mem {i : Int} {n : Nat} {d : PyData} (h : d ∈ rangeD i n) : ∃ k : Int, d = .int k ∧ i ≤ k ∧ k < i + n := by
  unfold rangeD at h
  obtain ⟨j, hj, rfl⟩ := List.mem_map.1 h
  have := List.mem_range.1 hj
  exact ⟨_, rfl, by omega, by omega⟩
end TL
namespace TL
open PySem PySem.Spec PyProof.Rows L2 RZ
/-! ### one reading or another -/
theorem _root_.L2.PE.or2 {X : Cx} {e : Expr} {t u : TE} (h : PE X e t) (k : PE X e u) : PE X e (fun σ H Q => t σ H Q ∨ u σ H Q) :=
  ⟨fun pins s σ H Q I q => by
    rcases q with q | q
    · exact h.run pins s σ H Q I q
    · exact k.run pins s σ H Q I q⟩
section
variable {G : Ct} {X : Cx} {e a b c d : Expr} {te ta tb tc td : TX} {pos : Pos}
/-! ### slices of lists with a step -/
def pickD {α : Type} (l : List α) (lo hi st : Option Int) : List α :=
  (sliceRange (sliceBounds lo hi st l.length).1 (sliceBounds lo hi st l.length).2.1 (sliceBounds lo hi st l.length).2.2).filterMap (l[·]?)
theorem pick_rv {K : PySem.W.Frag} {w : Wd} {vs : List V} {ds : List PyData} (r : RvL K w vs ds) (ix : List Nat) : RvL K w (ix.filterMap (vs[·]?)) (ix.filterMap (ds[·]?)) := by
  induction ix with
  | nil => exact .nil
  | cons i ix ih =>
    cases h : ds[i]? with
    | none =>
      have : vs[i]? = none := by
        rw [List.getElem?_eq_none_iff] at h ⊢
        rw [r.len]; exact h
      rw [List.filterMap_cons, List.filterMap_cons]
      simp only [this, h]
      exact ih
    | some d =>
      obtain ⟨v, e, rv⟩ := r.get h
      rw [List.filterMap_cons, List.filterMap_cons]
      simp only [e, h]
      exact .cons rv ih
theorem pick_vals {xs : List V} {us : List Value} (r : Vals xs us) (ix : List Nat) : Vals (ix.filterMap (xs[·]?)) (ix.filterMap (us[·]?)) := by
  have get : ∀ {xs : List V} {us : List Value}, Vals xs us → ∀ i : Nat, (xs[i]? = none ∧ us[i]? = none) ∨ ∃ x u, xs[i]? = some x ∧ us[i]? = some u ∧ RelV x u := by
    intro xs us r
    induction r with
    | nil => intro i; exact .inl ⟨by simp, by simp⟩
    | @cons x u xs us h t ih =>
      intro i
      cases i with
      | zero => exact .inr ⟨x, u, rfl, rfl, h⟩
      | succ i =>
        rcases ih i with ⟨a, b⟩ | ⟨x', u', a, b, c⟩
        · exact .inl ⟨by simpa using a, by simpa using b⟩
        · exact .inr ⟨x', u', by simpa using a, by simpa using b, c⟩
  induction ix with
  | nil => exact .nil
  | cons i ix ih =>
    rcases get r i with ⟨a, b⟩ | ⟨x', u', a, b, c⟩
    · rw [List.filterMap_cons, List.filterMap_cons]
      simp only [a, b]
      exact ih
    · rw [List.filterMap_cons, List.filterMap_cons]
      simp only [a, b]
      exact .cons c ih
theorem pick_len {α : Type} (l : List α) (ix : List Nat) : (ix.filterMap (l[·]?)).length ≤ ix.length := List.length_filterMap_le ..
def tSl3 (K : PySem.W.Frag) (te : TE) (tl th ts : TO) : TE := fun σ H Q => te σ H fun x H1 => ∃ a xs, x = .ref a ∧ tl σ H1 fun lo H2 => th σ H2 fun hi H3 => ts σ H3 fun st H4 =>
  SqL K H4 a xs ∧ st ≠ some 0 ∧ (pickD xs lo hi st).length ≤ sizeLine ∧ ∀ p, H4 p = none → Q (.ref p) (upd H4 p (.lst (pickD xs lo hi st)))
theorem pe_sl3 {lo hi st : Option Expr} {te : TE} {tl th ts : TO} {p2 : Pos} (he : PE X e te) (hl : PO X lo tl) (hh : PO X hi th) (hs : PO X st ts) (hsub : ∀ o s : Value, subscripted (.Slice lo hi st p2) false o s = operate [o, s] (getItem o s)) : PE X (.Subscript e (.Slice lo hi st p2) pos) (tSl3 X.K te tl th ts) := by
  refine ⟨fun pins s σ H Q I h => ?_⟩
  refine Subscript_ (thn (he.run pins s σ H _ I h) fun v s1 ⟨x, H1, I1, r1, a, xs, ex, q1⟩ => ?_)
  subst ex
  cases r1
  refine wpAny_Slice (thn (hl.run pins s1 σ H1 _ I1 q1) fun vl s2 ⟨l, H2, I2, pl, q2⟩ => ?_)
  refine thn (hh.run pins s2 σ H2 _ I2 q2) fun vu s3 ⟨u, H3, I3, pu, q3⟩ => ?_
  refine thn (hs.run pins s3 σ H3 _ I3 q3) fun vs s4 ⟨o, H4, I4, ps, hx, o0, hz, q⟩ => ?_
  have I5 : Inv X pins σ H4 { s4 with heap := s4.heap.push { cls := .type "slice", data := .fields #[vl, vu, vs] } } := I4.kept (t' := s4.toks) fun b ob q => Heap.get?_push_of_some _ q
  obtain ⟨its, r, ht, hz'⟩ := I5.list hx
  have hlen := r.length
  show wpAny (model X.prog X.w) X.A (subscriptTail e (.Slice lo hi st p2) (.ref a) (.ref s4.heap.objs.size)) (EP X pins σ Q) X.xe { s4 with heap := s4.heap.push { cls := .type "slice", data := .fields #[vl, vu, vs] } }
  refine tail_any (ops := [.ref a, .ref s4.heap.objs.size]) ht.isList.typeIs (PySem.slot_list_getitem.lookup) ?_ (hsub _ _)
  refine wpAny_getItem_list_slice ht.isList (Heap.IsSliceOf.new _ vl vu vs) pl pu ps o0 ?_ (by rw [List.size_toArray]; omega)
  have hv : Vals (pickD xs l u o) (slicePick its.toArray l u o).toList := by
    unfold pickD slicePick
    rw [List.size_toArray, ← hlen]
    have := pick_vals r (sliceRange (sliceBounds l u o xs.length).1 (sliceBounds l u o xs.length).2.1 (sliceBounds l u o xs.length).2.2)
    simpa using this
  refine ⟨.ref _, _, I5.laid (t' := s4.toks) (o := .lst (pickD xs l u o)) (fun b ob q => Heap.get?_push_of_some _ q) (Nat.le_refl _) ?_, rfl, q _ (I5.hok.fresh (Nat.le_refl _))⟩
  exact ⟨hz, _, 0, hv, Heap.get?_push_size _ rfl⟩
@[simp] def xSl3 (te : TX) (tl th ts : TPo) : TX := fun E g Q => te E g fun d g1 => ∃ l, d = .list l ∧ tl E g1 fun lo g2 => th E g2 fun hi g3 => ts E g3 fun st g4 => st ≠ some 0 ∧ (pickD l lo hi st).length ≤ sizeLine ∧ Q (.list (pickD l lo hi st)) g4
theorem pickD_len {α β : Type} {xs : List α} {ds : List β} (h : xs.length = ds.length) (lo hi st : Option Int) : (pickD xs lo hi st).length = (pickD ds lo hi st).length := by
  unfold pickD
  rw [h]
  generalize sliceRange _ _ _ = ix
  induction ix with
  | nil => rfl
  | cons i ix ih =>
    rw [List.filterMap_cons, List.filterMap_cons]
    by_cases c : i < xs.length
    · rw [List.getElem?_eq_getElem c, List.getElem?_eq_getElem (show i < ds.length by omega)]
      simp only [List.length_cons, ih]
    · rw [List.getElem?_eq_none (show xs.length ≤ i by omega), List.getElem?_eq_none (show ds.length ≤ i by omega)]
      exact ih
theorem xe_sl3 {lo hi st : Option Expr} {tl th ts : TPo} {p2 : Pos} (he : XE G X e te) (hl : XO G X lo tl) (hh : XO G X hi th) (hs : XO G X st ts) (hsub : ∀ o s : Value, subscripted (.Slice lo hi st p2) false o s = operate [o, s] (getItem o s)) : XE G X (.Subscript e (.Slice lo hi st p2) pos) (xSl3 te tl th ts) := by
  refine ⟨fun E g Q Q' hq q => he.mo _ _ _ _ (fun d g1 ⟨l, e, q1⟩ => ⟨l, e, hl.mo _ _ _ _ (fun lo g2 q2 => hh.mo _ _ _ _ (fun hi g3 q3 => hs.mo _ _ _ _ (fun st g4 ⟨a, b, q4⟩ => ⟨a, b, hq _ _ q4⟩) q3) q2) q1⟩) q, (pe_sl3 he.pe hl.po hh.po hs.po hsub).imp fun σ H Q ⟨cl, E, g, as, j, r, q⟩ => ?_⟩
  refine ⟨cl, E, g, as, j, r, he.mo _ _ _ _ (fun d g1 ⟨l, e, q1⟩ u v go1 j1 rv1 => ?_) q⟩
  subst e
  cases rv1 with
  | @lst a xs ds hL rl =>
    refine ⟨a, xs, rfl, u.cl, E, g1, as, j1, r.go go1, hl.mo _ _ _ _ (fun lo g2 q2 u2 go2 j2 => ?_) q1⟩
    refine ⟨u2.cl, E, g2, as, j2, (r.go go1).go go2, hh.mo _ _ _ _ (fun hi g3 q3 u3 go3 j3 => ?_) q2⟩
    refine ⟨u3.cl, E, g3, as, j3, ((r.go go1).go go2).go go3, hs.mo _ _ _ _ (fun st g4 ⟨a4, b4, q4⟩ u4 go4 j4 => ?_) q3⟩
    have go : Go u u4 := (go2.trans go3).trans go4
    refine ⟨(hL.pu go.pu).sq, a4, by rw [pickD_len rl.len]; exact b4, fun p np => ?_⟩
    have rr : RvL X.K u4 (pickD xs lo hi st) (pickD l lo hi st) := by
      have := pick_rv (rl.go go) (sliceRange (sliceBounds lo hi st xs.length).1 (sliceBounds lo hi st xs.length).2.1 (sliceBounds lo hi st xs.length).2.2)
      unfold pickD
      rw [← rl.len]
      exact this
    exact q4 (u4.new p (.lst (pickD xs lo hi st)) 0) (.ref p) ((go1.trans go).trans (Go.new' np 0)) (G.st0 (Go0.new np 0) j4) (.lst (.inl ⟨.inl upd_same, if_pos rfl⟩) (rr.go (Go.new' np 0)))
theorem pick_rev {α : Type} (l : List α) : pickD l none none (some (-1)) = l.reverse := by
  unfold pickD
  rw [PySem.W.krv_bounds]
  show (sliceRange ((l.length : Int) - 1) (-1) (-1)).filterMap (l[·]?) = _
  rw [PySem.W.krv_sliceRange, PySem.W.krv_range, List.filterMap_reverse]
  congr 1
  have := PySem.W.krv_all l.toArray
  simpa using this
theorem pick_rev2 {α : Type} (l : List α) (h : 0 < l.length) : pickD l (some (-2)) none (some (-1)) = l.dropLast.reverse := by
  have e : pickD l (some (-2)) none (some (-1)) = pickD l.dropLast none none (some (-1)) := by
    unfold pickD
    rw [PySem.W.krv_bounds]
    have hb : sliceBounds (some (-2)) none (some (-1)) l.length = ((l.length : Int) - 2, -1, -1) := by
      simp [sliceBounds]
      first | done | omega | (split <;> omega)
    rw [hb]
    show (sliceRange ((l.length : Int) - 2) (-1) (-1)).filterMap (l[·]?) = (sliceRange ((l.dropLast.length : Int) - 1) (-1) (-1)).filterMap (l.dropLast[·]?)
    have el : ((l.dropLast.length : Nat) : Int) - 1 = (l.length : Int) - 2 := by rw [List.length_dropLast]; omega
    rw [el]
    have hmem : ∀ i ∈ sliceRange ((l.length : Int) - 2) (-1) (-1), i < l.length - 1 := fun i hi => by
      have e2 : (l.length : Int) - 2 = ((l.length - 1 : Nat) : Int) - 1 := by omega
      rw [e2, PySem.W.krv_sliceRange] at hi
      obtain ⟨k, hk, rfl⟩ := List.mem_map.1 hi
      have := List.mem_range.1 hk
      omega
    generalize sliceRange ((l.length : Int) - 2) (-1) (-1) = ix at *
    induction ix with
    | nil => rfl
    | cons i ix ih =>
      have hi := hmem i List.mem_cons_self
      rw [List.filterMap_cons, List.filterMap_cons, ih fun j hj => hmem j (List.mem_cons_of_mem _ hj)]
      have : l.dropLast[i]? = l[i]? := by
        rw [List.getElem?_dropLast, if_pos hi]
      rw [this]
  rw [e, pick_rev]
/-! ### own lists: with what they begin, an item, their length -/
theorem EnvR.newHlX {K : PySem.W.Frag} {w : Wd} {E : List S} {σ : L2.St} {as : List Addr} (h : EnvR K G w E σ as) (i : Nat) {p : Addr} {xs : List V} {ds : List PyData} (n : w.H p = none) (n0 : G.w0.H p = none) (hi : i < E.length) (r : RvL K w xs ds) :
    ∃ bs, EnvR K G (w.new p (.lst xs) 1) (E.set i (.hl ds)) (σ.set i (some (.ref p))) bs ∧ ∀ b ∈ bs, b ∈ as ∨ b = p := by
  obtain ⟨bs, r1, hb⟩ := h.newHl i n n0 hi
  have hl := h.len
  have e1 : (E.set i (.hl []))[i]? = some (.hl []) := by rw [List.getElem?_set_self hi]
  have e2 : (σ.set i (some (.ref p)))[i]? = some (some (V.ref p)) := by rw [List.getElem?_set_self (by rw [hl]; exact hi)]
  have q := r1.setHl (ys := xs) (l' := ds) e1 e2 (r.go (Go.new' n 1))
  refine ⟨bs, ?_, hb⟩
  have eE : (E.set i (S.hl [])).set i (S.hl ds) = E.set i (.hl ds) := List.set_set ..
  rw [eE] at q
  have ew : (⟨upd (w.new p (.lst []) 1).H p (.lst xs), (w.new p (.lst []) 1).cl⟩ : Wd) = w.new p (.lst xs) 1 := by
    unfold Wd.new
    congr 1
    funext b
    by_cases c : b = p
    · subst c; simp [upd_same]
    · simp [upd_ne c]
  rw [ew] at q
  exact q
/-- an expression that makes a new list -/
abbrev TN := List S → Nat → (List PyData → Nat → Prop) → Prop
structure XN (G : Ct) (X : Cx) (e : Expr) (t : TN) : Prop where
  mo : ∀ E g Q Q', (∀ d g', Q d g' → Q' d g') → t E g Q → t E g Q'
  pe : PE X e fun σ H Q => ∃ cl E g as, G.J g ⟨H, cl⟩ ∧ EnvR X.K G ⟨H, cl⟩ E σ as ∧ t E g fun ds g' => ∀ u xs p, Go ⟨H, cl⟩ u → G.J g' u → RvL X.K u xs ds → u.H p = none → Q (.ref p) (upd u.H p (.lst xs))
@[simp] def xnLst (t : TL') : TN := fun E g Q => t E g fun ss g1 => ∃ ds, dsOf ss = some ds ∧ ds.length ≤ sizeLine ∧ Q ds g1
theorem xn_lst {es : List Expr} {t : TL'} (h : XA G X es t) : XN G X (.List es pos) (xnLst t) := by
  refine ⟨fun E g Q Q' hq q => h.mo _ _ _ _ (fun ss g1 ⟨ds, a, b, q⟩ => ⟨ds, a, b, hq _ _ q⟩) q, (pe_lst h.pa).imp fun σ H Q ⟨cl, E, g, as, j, r, q⟩ => ?_⟩
  refine ⟨cl, E, g, as, j, r, h.mo _ _ _ _ (fun ss g1 ⟨ds, a, b, q1⟩ u vs go1 j1 rs => ?_) q⟩
  have rl := rs.ds a
  exact ⟨by rw [rl.len]; exact b, fun p np => q1 u vs p go1 j1 rl np⟩
/-- list(e) -/
@[simp] def xnList (te : TX) : TN := fun E g Q => te E g fun d g1 => ∃ l, (d = .list l ∨ d = .tuple l) ∧ Q l g1
theorem xn_list {p : Pos} (hg : Gl X "list") (hm : X.mg "list" = none) (he : XE G X e te) (hs : starEach [e] X.env = [(false, eval e X.env)] := by rfl) : XN G X (.Call (.Name "list" p) [e] [] pos) (xnList te) := by
  refine ⟨fun E g Q Q' hq q => he.mo _ _ _ _ (fun d g1 ⟨l, a, q⟩ => ⟨l, a, hq _ _ q⟩) q, (pe_callTy call_list_of hg hm (by decide +kernel) (pa_cons he.pe pa_nil hs) (he := hs) (hpl := by rw [show starEach [] X.env = [] from rfl]; rfl)).imp fun σ H Q ⟨cl, E, g, as, j, r, q⟩ => ?_⟩
  refine ⟨cl, E, g, as, j, r, he.mo _ _ _ _ (fun d g1 ⟨l, a, q1⟩ u v go1 j1 rv => ?_) q⟩
  rcases a with a | a
  · subst a
    cases rv with
    | lst hL rl => exact ⟨_, _, rfl, .inl hL.sq, fun p np => q1 u _ p go1 j1 rl np⟩
  · subst a
    cases rv with
    | tup hT rl => exact ⟨_, _, rfl, .inr hT.sq, fun p np => q1 u _ p go1 j1 rl np⟩
/-- x = a new list, x the frame's own -/
@[simp] def xOwnN (i : Nat) (t : TN) : TSt := fun k E g => i < E.length ∧ t E g fun ds g1 => k.nx (E.set i (.hl ds)) g1
theorem xs_ownN (i : Nat) {x : Str} {p1 : Pos} {t : TN} (he : XN G X e t) (h : ∀ te', PE X e te' → PS X (.Assign [.Name x p1] e pos) (tAsg te' (gName i))) : XS G X (.Assign [.Name x p1] e pos) (xOwnN i t) := by
  refine ⟨fun k k' E g h ⟨l, q⟩ => ⟨l, he.mo _ _ _ _ (fun d g1 q1 => h.nx _ _ q1) q⟩, (h _ he.pe).imp fun D σ H ⟨cl, E, g, as, j, go, r, hi, q⟩ => ?_⟩
  refine ⟨cl, E, g, as, j, r, he.mo _ _ _ _ (fun ds g1 q1 u xs p go1 j1 rl np => ?_) q⟩
  obtain ⟨bs, r1, _⟩ := (r.go go1).newHlX i np (go_fresh (go.trans go1) np) hi rl
  exact q1 (u.new p (.lst xs) 1) _ bs (G.st0 (Go0.new np 1) j1) ((go.trans go1).trans (Go.new' np 1)) (go1.pu.trans (Go.new' np 1).pu) r1
/-- x, y = a new list, e -/
@[simp] def xPar2N (i j : Nat) (t : TN) (te : TX) : TSt := fun k E g => (i < E.length ∧ i ≠ j) ∧ t E g fun ds g1 => te E g1 fun d g2 => k.nx ((E.set i (.hl ds)).set j (.v d)) g2
theorem set_hl_v {K : PySem.W.Frag} {w : Wd} {E : List S} {σ : L2.St} {as : List Addr} (h : EnvR K G w E σ as) (j : Nat) {v : V} {d : PyData} (rv : Rv K w v d) : ∃ bs, EnvR K G w (E.set j (.v d)) (σ.set j (some v)) bs := by
  obtain ⟨bs, r1, _⟩ := h.set j rv
  exact ⟨bs, r1⟩
theorem xs_par2N (i j : Nat) {s : Stmt} {t : TN} (ha : XN G X a t) (hb : XE G X b tb) (hij : i ≠ j) (h : ∀ ta' tb', PE X a ta' → PE X b tb' → PS X s (tPar i j (tCons ta' (tCons tb' tNil)))) : XS G X s (xPar2N i j t tb) := by
  refine ⟨fun k k' E g h ⟨l, q⟩ => ⟨l, ha.mo _ _ _ _ (fun d g1 q1 => hb.mo _ _ _ _ (fun e g2 q2 => h.nx _ _ q2) q1) q⟩, (h _ _ ha.pe hb.pe).imp fun D σ H ⟨cl, E, g, as, j0, go, r, ⟨hl, _⟩, q⟩ => ?_⟩
  refine ⟨cl, E, g, as, j0, r, ha.mo _ _ _ _ (fun ds g1 q1 u xs p go1 j1 rl np => ?_) q⟩
  have gn : Go u (u.new p (.lst xs) 1) := Go.new' np 1
  refine ⟨(u.new p (.lst xs) 1).cl, E, g1, as, G.st0 (Go0.new np 1) j1, (r.go go1).go gn, hb.mo _ _ _ _ (fun e g2 q2 u2 v2 go2 j2 rv2 => ?_) q1⟩
  refine ⟨.ref p, v2, rfl, ?_⟩
  obtain ⟨bs, r1, _⟩ := (r.go go1).newHlX i np (go_fresh (go.trans go1) np) hl rl
  obtain ⟨cs, r2⟩ := set_hl_v (r1.go go2) j rv2
  exact q2 u2 _ cs j2 (((go.trans go1).trans gn).trans go2) ((go1.pu.trans gn.pu).trans go2.pu) r2
/-- an item of an own list -/
@[simp] def xHlIx (i : Nat) (te : TX) : TX := fun E g Q => ∃ l, E[i]? = some (.hl l) ∧ te E g fun d g1 => ∃ k z, d = .int k ∧ atI l k = some z ∧ Q z g1
theorem xe_hlIx (i : Nat) {x : Str} {p : Pos} (he : XE G X e te) (hs : PlainIx e) (hv : PE X (.Name x p) (tVar i)) : XE G X (.Subscript (.Name x p) e pos) (xHlIx i te) := by
  refine ⟨fun E g Q Q' hq ⟨l, e1, q⟩ => ⟨l, e1, he.mo _ _ _ _ (fun d g1 ⟨k, z, a, b, q1⟩ => ⟨k, z, a, b, hq _ _ q1⟩) q⟩, (pe_ix ix_list hv he.pe hs).imp fun σ H Q ⟨cl, E, g, as, j, r, l, e1, q⟩ => ?_⟩
  obtain ⟨a, xs, h1, h2, h3, h4, h5, _⟩ := r.getHl e1
  refine ⟨.ref a, h1, cl, E, g, as, j, r, he.mo _ _ _ _ (fun d g1 ⟨k, z, hd, hz, q1⟩ u v go1 j1 rv => ?_) q⟩
  subst hd
  cases rv
  obtain ⟨x, hx, rx⟩ := atI_rv (h4.go go1) hz
  have hu : u.H a = some (.lst xs) := (go1.st a _ h2).2 (by show cl a ≠ 2; rw [show cl a = 1 from h3]; decide)
  exact ⟨a, xs, k, x, rfl, rfl, .inl (.inl hu), hx, q1 u x go1 j1 rx⟩
/-- its length -/
@[simp] def xHlLen (i : Nat) : TX := fun E g Q => ∃ l, E[i]? = some (.hl l) ∧ Q (.int l.length) g
theorem xe_hlLen (i : Nat) {x : Str} {p q : Pos} (hg : Gl X "len") (hm : X.mg "len" = none) (hv : PE X (.Name x q) (tVar i)) (hs : starEach [.Name x q] X.env = [(false, eval (.Name x q) X.env)] := by rfl) : XE G X (.Call (.Name "len" p) [.Name x q] [] pos) (xHlLen i) := by
  refine ⟨fun E g Q Q' hq ⟨l, e1, q⟩ => ⟨l, e1, hq _ _ q⟩, (pe_callB call_len_seq hg hm (by decide +kernel) (pa_cons hv pa_nil hs) (he := hs) (hpl := by rw [show starEach [] X.env = [] from rfl]; rfl)).imp fun σ H Q ⟨cl, E, g, as, j, r, l, e1, q⟩ => ?_⟩
  obtain ⟨a, xs, h1, h2, h3, h4, h5, _⟩ := r.getHl e1
  refine ⟨.ref a, h1, a, xs, rfl, .inl (.inl (.inl h2)), ?_⟩
  rw [h4.len]
  exact q ⟨H, cl⟩ (.int _) (Go.refl _) j (.int _)
/-- x[e] = y, x the frame's own -/
@[simp] def xHlSet (i : Nat) (te tk : TX) : TSt := fun k E g => ∃ l, E[i]? = some (.hl l) ∧ te E g fun d g1 => tk E g1 fun n g2 => ∃ m j, n = .int m ∧ ixN l.length m = some j ∧ k.nx (E.set i (.hl (l.set j d))) g2
theorem xs_hlSet (i : Nat) {s : Stmt} (he : XE G X e te) (hk : XE G X a ta) (h : ∀ te' tk', PE X e te' → PE X a tk' → PS X s (tAsg te' (gSub (tVar i) tk' rSetL))) : XS G X s (xHlSet i te ta) := by
  refine ⟨fun k k' E g h ⟨l, e1, q⟩ => ⟨l, e1, he.mo _ _ _ _ (fun d g1 q1 => hk.mo _ _ _ _ (fun n g2 ⟨m, j, b, c, q2⟩ => ⟨m, j, b, c, h.nx _ _ q2⟩) q1) q⟩, (h _ _ he.pe hk.pe).imp fun D σ H ⟨cl, E, g, as, j0, go, r, l, e1, q⟩ => ?_⟩
  obtain ⟨a, xs, h1, h2, h3, h4, h5, _⟩ := r.getHl e1
  refine ⟨cl, E, g, as, j0, r, he.mo _ _ _ _ (fun d g1 q1 u v go1 j1 rv => ?_) q⟩
  refine ⟨.ref a, h1, u.cl, E, g1, as, j1, r.go go1, hk.mo _ _ _ _ (fun n g2 ⟨m, j, hn, hj, q2⟩ u2 v2 go2 j2 rv2 => ?_) q1⟩
  subst hn
  cases rv2
  have go12 := go1.trans go2
  have c2 : (⟨H, cl⟩ : Wd).cl a ≠ 2 := by rw [h3]; decide
  have hu : u2.H a = some (.lst xs) := (go12.st a _ h2).2 c2
  have cu : u2.cl a = 1 := ((go12.st a _ h2).1).trans h3
  have r4 := h4.go go12
  refine ⟨a, xs, m, j, rfl, rfl, hu, by rw [r4.len]; exact hj, ?_⟩
  exact q2 ⟨upd u2.H a (.lst (xs.set j v)), u2.cl⟩ σ as (write_j j2 (by rw [cu]; decide)) (write_go (go.trans go12) h5) (go12.pu.trans (write_pu (by rw [cu]; decide))) ((r.go go12).setHl e1 h1 (RvL.set (rv.go go2) j r4))
/-! ### a op b op c op d -/
@[simp] def xChain3 (ta tb tc td : TX) (o1 o2 o3 : OD) : TX := fun E g Q => ta E g fun d g1 => tb E g1 fun e g2 => o1 d e g2 fun z g3 => ∃ k, z = .bool k ∧
  (if k = true then tc E g3 fun f g4 => o2 e f g4 fun z g5 => ∃ k, z = .bool k ∧ (if k = true then td E g5 fun h g6 => o3 f h g6 Q else Q (.bool false) g5) else Q (.bool false) g3)
def tChain3 (r1 r2 r3 : R2) (ta tb tc td : TE) : TE := fun σ H Q => ta σ H fun x H1 => tb σ H1 fun y H2 => r1 x y H2 fun z H3 => ∃ k, z = .bl k ∧
  (if k = true then tc σ H3 fun w' H4 => r2 y w' H4 fun z H5 => ∃ k, z = .bl k ∧ (if k = true then td σ H5 fun w2 H6 => r3 w' w2 H6 Q else Q (.bl false) H5) else Q (.bl false) H3)
theorem pe_chain3 {o1 o2 o3 : CmpOp} {r1 r2 r3 : R2} {ta tb tc td : TE} (h1 : OpR X (compareOp o1) r1) (h2 : OpR X (compareOp o2) r2) (h3 : OpR X (compareOp o3) r3) (ha : PE X a ta) (hb : PE X b tb) (hc : PE X c tc) (hd : PE X d td)
    (hm : lastMarks [o1, o2, o3] [b, c, d] = false := by with_unfolding_all rfl) : PE X (.Compare a [o1, o2, o3] [b, c, d] pos) (tChain3 r1 r2 r3 ta tb tc td) := by
  refine ⟨fun pins s σ H Q I h => ?_⟩
  refine Compare_chain (thn (ha.run pins s σ H _ I h) fun v s1 ⟨x, H1, I1, rr1, q1⟩ => chain_link (thn (hb.run pins s1 σ H1 _ I1 q1) fun u s2 ⟨y, H2, I2, rr2, q2⟩ =>
    thn (h1 pins s2 σ H2 x y v u _ I2 rr1 rr2 q2) fun d s3 ⟨z, H3, I3, rr3, k, e, q3⟩ => ?_)) hm
  subst e
  cases rr3
  refine wpAny_truthy_bool ?_
  cases k with
  | false => exact ite_ff ⟨.bl false, H3, I3, rfl, q3⟩
  | true =>
    refine ite_tt (chain_link (thn (hc.run pins s3 σ H3 _ I3 q3) fun w' s4 ⟨z', H4, I4, rr4, q4⟩ => thn (h2 pins s4 σ H4 y z' u w' _ I4 rr2 rr4 q4) fun d s5 ⟨z, H5, I5, rr5, k, e, q5⟩ => ?_))
    subst e
    cases rr5
    refine wpAny_truthy_bool ?_
    cases k with
    | false => exact ite_ff ⟨.bl false, H5, I5, rfl, q5⟩
    | true => exact ite_tt (chain_last (thn (hd.run pins s5 σ H5 _ I5 q5) fun w2 s6 ⟨z2, H6, I6, rr6, q6⟩ => h3 pins s6 σ H6 z' z2 w' w2 Q I6 rr4 rr6 q6))
theorem xe_chain3 {o1 o2 o3 : CmpOp} {d1 d2 d3 : OD} (h1 : CO G X o1 d1) (h2 : CO G X o2 d2) (h3 : CO G X o3 d3) (ha : XE G X a ta) (hb : XE G X b tb) (hc : XE G X c tc) (hd : XE G X d td)
    (hm : lastMarks [o1, o2, o3] [b, c, d] = false := by with_unfolding_all rfl) : XE G X (.Compare a [o1, o2, o3] [b, c, d] pos) (xChain3 ta tb tc td d1 d2 d3) := by
  obtain ⟨r1, p1, q1⟩ := h1
  obtain ⟨r2, p2, q2⟩ := h2
  obtain ⟨r3, p3, q3⟩ := h3
  have m : ∀ E g Q Q', (∀ d g', Q d g' → Q' d g') → xChain3 ta tb tc td d1 d2 d3 E g Q → xChain3 ta tb tc td d1 d2 d3 E g Q' := fun E g Q Q' hq q => ha.mo _ _ _ _ (fun _ _ z1 => hb.mo _ _ _ _ (fun _ _ z2 => q1.mo _ _ _ _ _ (fun z g3 ⟨k, e, z3⟩ => ⟨k, e, by
    cases k with
    | false => exact hq _ _ z3
    | true => exact hc.mo _ _ _ _ (fun _ _ z4 => q2.mo _ _ _ _ _ (fun z g5 ⟨k, e, z5⟩ => ⟨k, e, by
        cases k with
        | false => exact hq _ _ z5
        | true => exact hd.mo _ _ _ _ (fun _ _ z6 => q3.mo _ _ _ _ _ hq z6) z5⟩) z4) z3⟩) z2) z1) q
  refine ⟨m, (pe_chain3 p1 p2 p3 ha.pe hb.pe hc.pe hd.pe hm).imp fun σ H Q ⟨cl, E, g, as, j, r, q⟩ => ?_⟩
  refine ⟨cl, E, g, as, j, r, ha.mo _ _ _ _ (fun d g1 z1 u v go1 j1 rv1 => ?_) q⟩
  refine ⟨u.cl, E, g1, as, j1, r.go go1, hb.mo _ _ _ _ (fun e g2 z2 u2 v2 go2 j2 rv2 => ?_) z1⟩
  refine q1.to u2 g2 v v2 d e _ j2 (rv1.go go2) rv2 (q1.mo _ _ _ _ _ (fun z g3 ⟨k, ek, z3⟩ u3 v3 go3 j3 rv3 => ?_) z2)
  subst ek
  cases rv3
  refine ⟨k, rfl, ?_⟩
  have g13 : Go ⟨H, cl⟩ u3 := (go1.trans go2).trans go3
  cases k with
  | false => exact z3 u3 _ g13 j3 (.bl false)
  | true =>
    refine ⟨u3.cl, E, g3, as, j3, r.go g13, hc.mo _ _ _ _ (fun f g4 z4 u4 v4 go4 j4 rv4 => ?_) z3⟩
    refine q2.to u4 g4 v2 v4 e f _ j4 ((rv2.go go3).go go4) rv4 (q2.mo _ _ _ _ _ (fun z g5 ⟨k, ek, z5⟩ u5 v5 go5 j5 rv5 => ?_) z4)
    subst ek
    cases rv5
    refine ⟨k, rfl, ?_⟩
    have g15 : Go ⟨H, cl⟩ u5 := (g13.trans go4).trans go5
    cases k with
    | false => exact z5 u5 _ g15 j5 (.bl false)
    | true =>
      refine ⟨u5.cl, E, g5, as, j5, r.go g15, hd.mo _ _ _ _ (fun h g6 z6 u6 v6 go6 j6 rv6 => ?_) z5⟩
      refine q3.to u6 g6 v4 v6 f h _ j6 ((rv4.go go5).go go6) rv6 (q3.mo _ _ _ _ _ (fun z g7 z7 u7 v7 go7 j7 rv7 => ?_) z6)
      exact z7 u7 v7 ((g15.trans go6).trans go7) j7 rv7
/-! ### is True -/
@[simp] def oIsB : OD := fun d e g Q => ∃ a b : Bool, d = .bool a ∧ e = .bool b ∧ Q (.bool (decide (a = b))) g
@[simp] def oNotB : OD := fun d e g Q => ∃ a b : Bool, d = .bool a ∧ e = .bool b ∧ Q (.bool (!decide (a = b))) g
theorem co_isB : CO G X .Is oIsB := ⟨_, op_isBl, ⟨fun d e g Q Q' hq ⟨a, b, h1, h2, q⟩ => ⟨a, b, h1, h2, hq _ _ q⟩, fun w g x y d e Q j rx ry ⟨a, b, h1, h2, q⟩ => by
  subst h1 h2
  cases rx; cases ry
  exact ⟨a, b, rfl, rfl, q w _ (Go.refl w) j (.bl _)⟩⟩⟩
theorem co_notB : CO G X .IsNot oNotB := ⟨_, op_notBl, ⟨fun d e g Q Q' hq ⟨a, b, h1, h2, q⟩ => ⟨a, b, h1, h2, hq _ _ q⟩, fun w g x y d e Q j rx ry ⟨a, b, h1, h2, q⟩ => by
  subst h1 h2
  cases rx; cases ry
  exact ⟨a, b, rfl, rfl, q w _ (Go.refl w) j (.bl _)⟩⟩⟩
/-! ### str(n), abs(n), ord(x) -/
@[simp] def cStrI : CD := fun ds g Q => ∃ i : Int, ds = [.int i] ∧ i.natAbs.log2 < 1920 ∧ Q (.str (toString i)) g
theorem cd_strI {K : PySem.W.Frag} : CallD G K (fun xs H Q => ∃ i, xs = [.int i] ∧ i.natAbs.log2 < 1920 ∧ Q (.str (toString i)) H) cStrI := by
  refine ⟨fun ds g Q Q' hq ⟨i, a, b, q⟩ => ⟨i, a, b, hq _ _ q⟩, fun w g vs ds Q j r ⟨i, a, b, q⟩ => ?_⟩
  subst a
  cases r with
  | cons h t =>
    cases t; cases h
    exact ⟨i, rfl, b, q w _ (Go.refl w) j (.str _)⟩
@[simp] def cAbs : CD := fun ds g Q => ∃ i : Int, ds = [.int i] ∧ Q (.int (if i < 0 then -i else i)) g
theorem cd_abs {K : PySem.W.Frag} : CallD G K (fun xs H Q => ∃ i, xs = [.int i] ∧ Q (.int (if i < 0 then -i else i)) H) cAbs := by
  refine ⟨fun ds g Q Q' hq ⟨i, a, q⟩ => ⟨i, a, hq _ _ q⟩, fun w g vs ds Q j r ⟨i, a, q⟩ => ?_⟩
  subst a
  cases r with
  | cons h t =>
    cases t; cases h
    exact ⟨i, rfl, q w _ (Go.refl w) j (.int _)⟩
@[simp] def cOrd : CD := fun ds g Q => ∃ x : Str, ds = [.str x] ∧ x.length = 1 ∧ Q (.int (x.cps.getD 0 0 : Nat)) g
theorem cd_ord {K : PySem.W.Frag} : CallD G K (fun xs H Q => ∃ x : Str, xs = [V.str x] ∧ x.length = 1 ∧ Q (.int (x.cps.getD 0 0 : Nat)) H) cOrd := by
  refine ⟨fun ds g Q Q' hq ⟨i, a, b, q⟩ => ⟨i, a, b, hq _ _ q⟩, fun w g vs ds Q j r ⟨i, a, b, q⟩ => ?_⟩
  subst a
  cases r with
  | cons h t =>
    cases t; cases h
    exact ⟨i, rfl, b, q w _ (Go.refl w) j (.int _)⟩
end
/-- a loop, by what holds of what is left -/
theorem forT_suf {y : TT'} {tb : TSt} {k : Kt} {g : Nat} (I : List PyData → List S → Prop) : ∀ (ds : List PyData) (E : List S), I ds E →
    (∀ d r E, I (d :: r) E → ∀ h : List S → Nat → Prop, (∀ E', I r E' → h E' g) → y d E g fun E' => tb (ktLoop k h) E' g) → (∀ E, I [] E → k.nx E g) → forT y tb ds k E g
  | [], E, hi, _, q => q E hi
  | d :: r, E, hi, h, q => h d r E hi (fun E2 g2 => forT y tb r k E2 g2) fun E' hi' => forT_suf I r E' hi' h q
/-- the same, with draws -/
theorem forT_sufG {y : TT'} {tb : TSt} {k : Kt} (I : List PyData → List S → Nat → Prop) : ∀ (ds : List PyData) (E : List S) (g : Nat), I ds E g →
    (∀ d r E g, I (d :: r) E g → ∀ h : List S → Nat → Prop, (∀ E' g', I r E' g' → h E' g') → y d E g fun E' => tb (ktLoop k h) E' g) → (∀ E g, I [] E g → k.nx E g) → forT y tb ds k E g
  | [], E, g, hi, _, q => q E g hi
  | d :: r, E, g, hi, h, q => h d r E g hi (fun E2 g2 => forT y tb r k E2 g2) fun E' g' hi' => forT_sufG I r E' g' hi' h q
@[simp] theorem atI_snoc {α : Type} (l : List α) (x : α) : atI (l ++ [x]) (-1) = some x := by
  have e : ixN (l ++ [x]).length (-1) = some l.length := by
    unfold ixN
    rw [if_neg (by decide), if_pos (by simp; omega)]
    simp
    omega
  unfold atI
  rw [e]
  simp
theorem snoc_of {α : Type} {l : List α} (h : l ≠ []) : ∃ r x, l = r ++ [x] := ⟨l.dropLast, l.getLast h, (List.dropLast_concat_getLast h).symm⟩
end TL
namespace TL
open PySem PySem.Spec PyProof.Rows L2 RZ
/-! ### defs that are called where nothing is being shown -/
structure FnG (P : Program) (w : World) (K : PySem.W.Frag) (mg : Str → Option Value) (base : Heap) (CX : CXT) (k : Nat) (f : Addr) (fd : FuncData) (ps : List Str) (sp : Sp) : Prop where
  len : ∀ vs H Q E, sp vs H Q E → vs.length = ps.length
  run : ∀ (A : Around) (outer : List Env) (s : Shared) (H : Hp) (args : Args) (us : List Value) (vs : List V) (Q : VK) (E : XK), Room k A → A.guards = some [] → Env0 P w K mg base A outer s H → BindsTo s fd args (ps.zip us) → Vals vs us → sp vs H Q E →
    codeAny (model P w) A (.call (.ref f) args) (CR CX outer P w H s Q E) s
theorem _root_.L2.FnOk.g {P : Program} {w : World} {K : PySem.W.Frag} {mg : Str → Option Value} {base : Heap} {CX : CXT} {k : Nat} {f : Addr} {fd : FuncData} {ps : List Str} {sp : Sp} (F : FnOk P w K mg base CX k f fd ps sp) : FnG P w K mg base CX k f fd ps sp :=
  ⟨F.len, fun A outer s H args us vs Q E hr _ => F.run A outer s H args us vs Q E hr⟩
section
variable {X : Cx} {CX : CXT} {k : Nat} {f : Addr} {fd : FuncData} {ps : List Str} {sp : Sp} {E : XK} {ds : List Value} {dvs : List V} {x : Str} {p pos : Pos} {e : Expr} {es : List Expr} {t : TA}
theorem run_fnG {pins : List (Addr × Obj)} {σ : L2.St} {H : Hp} {s : Shared} {Q : VK} {us : List Value} {vs : List V} (F : FnG X.prog X.w X.K X.mg X.base CX k f fd ps sp) (hr : Room k X.A) (hgu : X.A.guards = some []) (hb : Binds X.K fd ps ds) (hd : Vals dvs ds) (hx : Passes CX X E)
    (I : Inv X pins σ H s) (r : Vals vs us) (h : sp (vs ++ dvs) H Q E) : wpAny (model X.prog X.w) X.A (call (.ref f) us) (EP X pins σ Q) X.xe s := by
  have r2 : Vals (vs ++ dvs) (us ++ ds) := r.append hd
  have hl : (us ++ ds).length = ps.length := by rw [← r2.length]; exact F.len _ _ _ _ h
  refine wpAny_call (codeAny_mono (F.run X.A X.stack s H ⟨us, []⟩ (us ++ ds) (vs ++ dvs) Q E hr hgu I.env0 (hb s us I.kIn hl) r2 h) fun r s' hq => ?_)
  cases r with
  | error e => exact hx pins σ H s e s' I hq
  | ok fl =>
    cases fl with
    | ret u => exact I.after hq
    | next => exact False.elim hq
    | brk => exact False.elim hq
    | cont => exact False.elim hq
theorem pe_callG (F : FnG X.prog X.w X.K X.mg X.base CX k f fd ps sp) (hr : Room k X.A) (hgu : X.A.guards = some []) (hg : Gl X x) (hm : X.mg x = some (.ref f)) (hk : PySem.W.keepIn X.K (.ref f) = true) (hb : Binds X.K fd ps ds) (hd : Vals dvs ds) (hx : Passes CX X E)
    (ha : PA X (e :: es) t) (hdb : (x == ("__debug__" : Str)) = false := by decide) (he : starEach (e :: es) X.env = (false, eval e X.env) :: starEach es X.env := by rfl) (hpl : (backTo pos (starEach es X.env)).any (·.1) = false := by rfl) :
    PE X (.Call (.Name x p) (e :: es) [] pos) (tCall sp dvs E t) := by
  refine ⟨fun pins s σ H Q I h => ?_⟩
  refine wpAny_Call_Name_kw (ld_glob I hg hm ?_ hdb)
  refine PySem.W.callWith_K (h₀ := X.base) I.ok.mod.kin hk (thn (ha.run pos pins s σ H _ I h) fun us s1 ⟨vs, H1, I1, r, q⟩ => ⟨I1.kIn, ?_⟩) he hpl
  exact run_fnG F hr hgu hb hd hx I1 r q
theorem pe_call0G (F : FnG X.prog X.w X.K X.mg X.base CX k f fd ps sp) (hr : Room k X.A) (hgu : X.A.guards = some []) (hg : Gl X x) (hm : X.mg x = some (.ref f)) (hk : PySem.W.keepIn X.K (.ref f) = true) (hb : Binds X.K fd ps ds) (hd : Vals dvs ds) (hx : Passes CX X E)
    (hdb : (x == ("__debug__" : Str)) = false := by decide) : PE X (.Call (.Name x p) [] [] pos) (tCall sp dvs E tNil) := by
  refine ⟨fun pins s σ H Q I h => ?_⟩
  refine wpAny_Call_Name_kw (ld_glob I hg hm ?_ hdb)
  exact PySem.W.callWith_K0 I.kIn hk (run_fnG (us := []) F hr hgu hb hd hx I .nil h)
end
theorem fn_ofG {CX : CXT} {P : Program} {w : World} {K : PySem.W.Frag} {mg : Str → Option Value} {base : Heap} {k : Nat} {f : Addr} {name qual : Str} {params : Arguments} {body : List Stmt} {scope : Scope} {dV kV doc pm cdv ct oc : Value} {an od : Option Addr}
    {osl : Array (Option Value)} {N ps : List Str} {sp : Sp} (lk : K.lookup f = some ⟨oc, od, .func (PySem.W.fnOf name qual params body scope dV kV doc pm an cdv ct), osl⟩) (hcd : PySem.W.codeIn K cdv qual = true) (S : FnScope N ps scope)
    (len : ∀ vs H Q E, sp vs H Q E → vs.length = ps.length)
    (hbody : ∀ (A : Around) (outer : List Env) (s : Shared) (H : Hp) (vs : List V) (Q : VK) (E : XK), Room k (A.deeper (envOfC qual scope s.heap.objs.size f cdv)) → (A.deeper (envOfC qual scope s.heap.objs.size f cdv)).guards = some [] → sp vs H Q E →
      ∃ t, PSs (cxOf CX P w K mg base N qual scope f cdv A outer s H E) body t ∧ t { nx := fun _ H' => Q .non H', rt := Q } (start N vs) H) :
    FnG P w K mg base CX (k + 1) f (PySem.W.fnOf name qual params body scope dV kV doc pm an cdv ct) ps sp := by
  refine ⟨len, fun A outer s H args us vs Q E hr hgu e0 hb r hsp => ?_⟩
  have hl := len _ _ _ _ hsp
  have KX : K.In s.heap := e0.mod.kin.keeps fun b o e => (e0.bs b o e).1
  have lim : s.heap.NoLimit := e0.mod.nolimit.keeps fun b o e => (e0.bs b o e).1
  have hkind : ∀ y ∈ ps.zip us, scope.names.lookup y.1 = some .local ∨ (scope.names.lookup y.1 = some .cell ∧ ((cellsFrom (s.heap.objs.size + 1) scope.names []).lookup y.1).isSome = true) := fun ⟨n, v⟩ hy => by
    rcases S.par n (List.of_mem_zip hy).1 with q | q
    · exact .inl q
    · exact .inr ⟨q, PySem.W.cellsFrom_some _ _ _ (.inl q)⟩
  refine codeAny_call_function hr.depth (KX _ _ lk) rfl S.co S.gen rfl (PySem.W.codeRec_of KX hcd) (hb _ _ _ _ ?_)
  refine wpAny_newFunctionEnv_cells S.kind hkind fun env he s1 x => ?_
  subst he
  refine ⟨lim.keeps x.toInCall.keep, codeAny_func ?_⟩
  obtain ⟨t, ht, hq⟩ := hbody A outer s H vs Q E (hr.deeper _) hgu hsp
  have I : Inv (cxOf CX P w K mg base N qual scope f cdv A outer s H E) [] (start N vs) H s1 := inv_start S hr.hd e0 hl r x
  refine wpAny_mono (ht.run [] s1 (start N vs) H _ I hq) (fun fl s' hs => ?_) fun e s' hs => hs
  have fin : ∀ {σ' : L2.St} {H' : Hp} {v : V} {u : Value}, Inv (cxOf CX P w K mg base N qual scope f cdv A outer s H E) [] σ' H' s' → RelV v u → Q v H' → CE outer P w H s Q u s' :=
    fun {σ' H' v u} J rv q => ⟨v, H', J.os, J.bare, J.base, J.hok, rv, q⟩
  cases fl with
  | ret u =>
    obtain ⟨v, σ', H', J, rv, q⟩ := hs
    exact fin J rv q
  | next =>
    obtain ⟨σ', H', J, q⟩ := hs
    exact fin (v := V.non) (u := Value.none) J rfl q
  | brk =>
    obtain ⟨_, _, _, q⟩ := hs
    exact False.elim q
  | cont =>
    obtain ⟨_, _, _, q⟩ := hs
    exact False.elim q
section
variable {P : Program} {w : World} {K : PySem.W.Frag} {mg : Str → Option Value} {base : Heap}
theorem Fun.okG {x qual : Str} {st : Stmt} {f : Addr} {fd : FuncData} {N ps : List Str} {k : Nat} {sp : Sp} (F : Fun K x qual st f fd) (S : FnScope N ps (defScope st)) (len : ∀ vs H Q E, sp vs H Q E → vs.length = ps.length)
    (hbody : ∀ (cdv : Value) (A : Around) (outer : List Env) (s : Shared) (H : Hp) (vs : List V) (Q : VK) (E : XK), Room k (A.deeper (envOfC qual (defScope st) s.heap.objs.size f cdv)) → (A.deeper (envOfC qual (defScope st) s.heap.objs.size f cdv)).guards = some [] → sp vs H Q E →
      ∃ t, PSs (cxOf CX0 P w K mg base N qual (defScope st) f cdv A outer s H E).nox (defBody st) t ∧ t { nx := fun _ H' => Q .non H', rt := Q } (start N vs) H) : FnG P w K mg base CX0 (k + 1) f fd ps sp := by
  obtain ⟨oc, od, kV, doc, pm, an, cdv, ct, osl, rfl, lk, hcd⟩ := F.ex
  refine fn_ofG lk hcd S len fun A outer s H vs Q E hr hgu hsp => ?_
  obtain ⟨t, h, q⟩ := hbody cdv A outer s H vs Q E hr hgu hsp
  exact ⟨t, h.nox, q⟩
theorem fn_okG {G : Ct} {x qual : Str} {st : Stmt} {f : Addr} {fd : FuncData} {N ps : List Str} {k n : Nat} {pt : PT'} (F : Fun K x qual st f fd) (Sc : FnScope N ps (defScope st)) (hn : n = ps.length)
    (mo : ∀ ss g Q Q', (∀ d g', Q d g' → Q' d g') → pt ss g Q → pt ss g Q')
    (body : ∀ (u : Wd) (X : Cx) (cdv : Value) (A : Around) (outer : List Env) (s : Shared) (H : Hp) (E : XK), X = (cxOf CX0 P w K mg base N qual (defScope st) f cdv A outer s H E).nox → Room k X.A → X.A.guards = some [] → ∃ tb, XSs (G.at u) X (defBody st) tb ∧
      ∀ ss g Q, ss.length = n → pt ss g Q → tb { nx := fun _ g' => Q .none g', rt := Q } (envOf N ss) g) : FnG P w K mg base CX0 (k + 1) f fd ps (spD K G.am G.J n pt) := by
  refine Fun.okG F Sc (fun vs H Q E ⟨cl, g, ss, l, _⟩ => l.trans hn) fun cdv A outer s H vs Q E hr hgu ⟨cl, g, ss, l, j, r, q⟩ => ?_
  obtain ⟨tb, b, sp⟩ := body ⟨H, cl⟩ _ cdv A outer s H E rfl hr hgu
  refine ⟨_, b.ps, cl, envOf N ss, g, [], j, Go.refl _, ?_, b.mo { nx := fun _ g' => (fun d g' => ∀ u v, Go ⟨H, cl⟩ u → G.J g' u → Rv K u v d → Q v u.H) .none g', rt := fun d g' => ∀ u v, Go ⟨H, cl⟩ u → G.J g' u → Rv K u v d → Q v u.H } _ _ _ ⟨fun E1 g1 q1 u σ as j1 go1 p1 r1 => q1 u .non go1 j1 .non, fun d g1 q1 u v j1 go1 rv => q1 u v go1 j1 rv, fun E1 g1 q1 => q1.elim, fun E1 g1 q1 => q1.elim⟩ (sp ss g _ (by rw [← r.len]; exact l) q)⟩
  have e : N.length - vs.length = N.length - ss.length := by rw [r.len]
  show EnvR _ _ _ (ss ++ _) (vs.map some ++ List.replicate (N.length - vs.length) none) []
  rw [e]
  exact envR_start (G := G.at ⟨H, cl⟩) (N := N) r _
end
section
variable {G : Ct} {X : Cx} {k : Nat} {f : Addr} {fd : FuncData} {ps : List Str} {x : Str} {p pos : Pos} {e : Expr} {es : List Expr} {t : TL'} {n : Nat} {pt : PT'}
theorem xe_callG (F : FnG X.prog X.w X.K X.mg X.base CX0 k f fd ps (spD X.K G.am G.J n pt)) (mo : ∀ ss g Q Q', (∀ d g', Q d g' → Q' d g') → pt ss g Q → pt ss g Q') (hr : Room k X.A) (hgu : X.A.guards = some []) (hg : Gl X x) (hm : X.mg x = some (.ref f)) (hk : PySem.W.keepIn X.K (.ref f) = true) (hb : Binds X.K fd ps [])
    (ha : XAl G X (e :: es) t n) (hdb : (x == ("__debug__" : Str)) = false := by decide) (he : starEach (e :: es) X.env = (false, eval e X.env) :: starEach es X.env := by rfl) (hpl : (backTo pos (starEach es X.env)).any (·.1) = false := by rfl) :
    XE G X (.Call (.Name x p) (e :: es) [] pos) (xCall t pt) := by
  have hl := ha.len
  have ha := ha.xa
  refine ⟨fun E g Q Q' hq q => ha.mo _ _ _ _ (fun ss g1 q1 => mo _ _ _ _ hq q1) q, (pe_callG (dvs := []) F hr hgu hg hm hk hb .nil pass0 ha.pa hdb he hpl).imp fun σ H Q ⟨cl, E, g, as, j, r, q⟩ => ?_⟩
  refine ⟨cl, E, g, as, j, r, ha.mo _ _ _ _ (fun ss g1 ⟨l, q1⟩ u vs go1 j1 rs => ?_) (hl _ _ _ q)⟩
  show spD X.K G.am G.J n pt (vs ++ []) u.H Q E0
  rw [List.append_nil]
  refine ⟨u.cl, g1, ss, by rw [rs.len]; exact l, j1, rs, mo _ _ _ _ (fun d g2 q2 u2 v2 go2 j2 r2 => ?_) q1⟩
  exact q2 u2 v2 (go1.trans go2) j2 r2
theorem xe_call0G (F : FnG X.prog X.w X.K X.mg X.base CX0 k f fd ps (spD X.K G.am G.J 0 pt)) (mo : ∀ ss g Q Q', (∀ d g', Q d g' → Q' d g') → pt ss g Q → pt ss g Q') (hr : Room k X.A) (hgu : X.A.guards = some []) (hg : Gl X x) (hm : X.mg x = some (.ref f)) (hk : PySem.W.keepIn X.K (.ref f) = true) (hb : Binds X.K fd ps [])
    (hdb : (x == ("__debug__" : Str)) = false := by decide) : XE G X (.Call (.Name x p) [] [] pos) (fun E g Q => pt [] g Q) := by
  refine ⟨fun E g Q Q' hq q => mo _ _ _ _ hq q, (pe_call0G (dvs := []) F hr hgu hg hm hk hb .nil pass0 hdb).imp fun σ H Q ⟨cl, E, g, as, j, r, q⟩ => ?_⟩
  exact ⟨cl, g, [], rfl, j, .nil, q⟩
end
end TL
namespace TL
open PySem PySem.Spec PyProof.Rows
/-! ### set(..) of a text, of a list, of a tuple: of unlike things so many -/
section
variable {α : Type} [DecidableEq α]
def dedS (acc : List α) (x : α) : List α := if x ∈ acc then acc else acc ++ [x]
theorem dedS_in {acc : List α} {x : α} (h : x ∈ acc) : dedS acc x = acc := if_pos h
theorem dedS_new {acc : List α} {x : α} (h : x ∉ acc) : dedS acc x = acc ++ [x] := if_neg h
def ded (l : List α) : List α := l.foldl dedS []
def inD (l : List α) (k : α) : Bool := decide (k ∈ l)
theorem ded_snoc (l : List α) (x : α) : ded (l ++ [x]) = dedS (ded l) x := by unfold ded; rw [List.foldl_append]; rfl
theorem ded_mem_acc : ∀ (l acc : List α) (k : α), k ∈ l.foldl dedS acc ↔ k ∈ acc ∨ k ∈ l
  | [], acc, k => by simp
  | x :: r, acc, k => by
    rw [List.foldl_cons, ded_mem_acc r]
    unfold dedS
    by_cases h : x ∈ acc
    · rw [if_pos h, List.mem_cons]
      constructor
      · rintro (a | a)
        · exact .inl a
        · exact .inr (.inr a)
      · rintro (a | a | a)
        · exact .inl a
        · subst a; exact .inl h
        · exact .inr a
    · rw [if_neg h, List.mem_append, List.mem_singleton, List.mem_cons]
      constructor
      · rintro ((a | a) | a)
        · exact .inl a
        · exact .inr (.inl a)
        · exact .inr (.inr a)
      · rintro (a | a | a)
        · exact .inl (.inl a)
        · exact .inl (.inr a)
        · exact .inr a
theorem ded_mem (l : List α) (k : α) : k ∈ ded l ↔ k ∈ l := by
  unfold ded
  rw [ded_mem_acc]
  simp
theorem ded_len_acc : ∀ (l acc : List α), (l.foldl dedS acc).length ≤ acc.length + l.length
  | [], acc => by simp
  | x :: r, acc => by
    rw [List.foldl_cons]
    have := ded_len_acc r (dedS acc x)
    have h : (dedS acc x).length ≤ acc.length + 1 := by unfold dedS; split <;> simp
    simp only [List.length_cons]
    omega
theorem ded_len (l : List α) : (ded l).length ≤ l.length := by
  have := ded_len_acc l []
  simpa [ded] using this
theorem ded_nodup_acc : ∀ (l acc : List α), (acc ++ l).Nodup → l.foldl dedS acc = acc ++ l
  | [], acc, _ => by simp
  | x :: r, acc, h => by
    rw [List.foldl_cons]
    have hx : x ∉ acc := fun hm => by
      have := (List.nodup_append.1 h).2.2 x hm x List.mem_cons_self
      exact this rfl
    rw [dedS_new hx, ded_nodup_acc r (acc ++ [x]) (by rw [List.append_assoc]; exact h), List.append_assoc]
    rfl
theorem ded_nodup {l : List α} (h : l.Nodup) : ded l = l := by
  have := ded_nodup_acc l [] (by simpa using h)
  simpa [ded] using this
theorem ded_lt_acc : ∀ (l acc : List α), acc.Nodup → ¬ (acc ++ l).Nodup → (l.foldl dedS acc).length < acc.length + l.length
  | [], acc, ha, h => by
    rw [List.append_nil] at h
    exact absurd ha h
  | x :: r, acc, ha, h => by
    rw [List.foldl_cons]
    by_cases hx : x ∈ acc
    · rw [dedS_in hx]
      have := ded_len_acc r acc
      simp only [List.length_cons]
      omega
    · rw [dedS_new hx]
      have hn : (acc ++ [x]).Nodup := by
        rw [List.nodup_append]
        exact ⟨ha, by simp, fun a h1 b h2 e => by rw [List.mem_singleton] at h2; subst h2; subst e; exact hx h1⟩
      have := ded_lt_acc r (acc ++ [x]) hn (by rw [List.append_assoc]; exact h)
      simp only [List.length_append, List.length_cons, List.length_nil] at this ⊢
      omega
theorem ded_lt {l : List α} (h : ¬ l.Nodup) : (ded l).length < l.length := by
  have := ded_lt_acc l [] (by simp) (by simpa using h)
  simpa [ded] using this
end
section
variable {prog : Program} {w : World} {A : Around} {R : Result → Shared → Prop} {I : Addr} {fp wr : List Addr} {G : Array GenState → Array GenState → Prop} {n : Nat} {P : Nat → Value → Prop} {St : Nat → Shared → Prop} {α : Type} [DecidableEq α] {knd : KeyKind prog w α}
theorem loopKnd (W : WalksS prog w A.in1 I fp wr G n P St) (S : Addr) (hSf : S ∉ fp) (xs : List α) (hsz : xs.length = n) (hn1 : xs.length < 4000)
    (hval : ∀ i v, P i v → ∃ k, xs[i]? = some k ∧ knd.is k v = true ∧ v.scannable = true) :
    ∀ (k i : Nat) (s : Shared), n - i = k → i ≤ n → St i s →
      s.heap.SetOf knd S (inD (xs.take i)) (ded (xs.take i)).length →
      (∀ s', Moved (S :: wr) G s s' → s'.heap.SetOf knd S (inD xs) (ded xs).length → R (.ok (.ret .none)) s') →
      codeAny (model prog w) A (.builtin "set.update.loop" ⟨[.ref S, .ref I], []⟩) R s := by
  have hSw : S ∉ wr := fun h => hSf (W.sub _ h)
  have hsub : ∀ b ∈ wr, b ∈ S :: wr := fun b hb => List.mem_cons_of_mem _ hb
  intro k
  induction k with
  | zero =>
    intro i s hk hi hst hS hR
    have hin : i = n := by omega
    subst hin
    rw [List.take_of_length_le (by omega)] at hS
    refine codeAny_builtin PyProof.Rows.F.entry_set_update_loop ?_
    rw [Around.under_plainId PyProof.Rows.F.plain_set_update_loop _]
    show wpAny _ A.in1 (pyNext (.ref I) >>= _) _ _ s
    refine wpAny_bind (W.done s _ _ hst fun s' hm => ?_)
    show wpAny _ A.in1 (ret Value.none) _ _ s'
    exact wpAny_pure (hR s' (hm.mono hsub) (by
      obtain ⟨o, es, ep, t, ho, rest⟩ := hS
      exact ⟨o, es, ep, t, hm.heap S _ hSw ho, rest⟩))
  | succ k ih =>
    intro i s hk hi hst hS hR
    have hlt : i < n := by omega
    refine codeAny_builtin PyProof.Rows.F.entry_set_update_loop ?_
    rw [Around.under_plainId PyProof.Rows.F.plain_set_update_loop _]
    show wpAny _ A.in1 (pyNext (.ref I) >>= _) _ _ s
    refine wpAny_bind (W.item i s _ _ hlt hst fun v s' hP hst' hm => ?_)
    obtain ⟨x, hx, hxv, hsc⟩ := hval i v hP
    have hS' : s'.heap.SetOf knd S (inD (xs.take i)) (ded (xs.take i)).length := by
      obtain ⟨o, es, ep, tb, ho, rest⟩ := hS
      exact ⟨o, es, ep, tb, hm.heap S _ hSw ho, rest⟩
    show wpAny _ A.in1 (holding [v] (setAdd S v) >>= _) _ _ s'
    refine wpAny_bind (wpAny_holding ?_)
    unfold setAdd
    refine wpAny_holding ?_
    refine wpAny_bind (knd.pyHash (k := x) hxv ?_)
    have hl := ded_len (xs.take i)
    rw [List.length_take] at hl
    refine wpAny_setAddHashed_of (knd := knd) (s := { s' with toks := s'.toks + 1 }) hxv hsc hS' (by unfold scanBound; omega) fun h' hsb hS2 => ?_
    have ht : xs.take (i + 1) = xs.take i ++ [x] := by
      rw [List.take_add_one, hx]
      rfl
    have hSi : h'.SetOf knd S (inD (xs.take (i + 1))) (ded (xs.take (i + 1))).length := by
      refine SetOf_congr hS2 (fun k' => ?_) ?_
      · rw [ht]
        unfold inD
        rw [Bool.eq_iff_iff]
        simp
      · rw [ht, ded_snoc]
        by_cases hm : x ∈ xs.take i
        · rw [dedS_in ((ded_mem (xs.take i) x).2 hm), if_pos (by unfold inD; simpa using hm)]
        · rw [dedS_new fun h => hm ((ded_mem (xs.take i) x).1 h), if_neg (by unfold inD; simpa using hm), List.length_append]
          rfl
    refine wpAny_pure ⟨plainId_quiet PyProof.Rows.F.plain_set_update_loop _, ih (i + 1) _ (by omega) hlt (W.frame _ s' _ _ hst' (Nat.le_succ _) fun b hb o e => ?_) hSi fun s'' hm'' hS'' => ?_⟩
    · rw [hsb.2 b (fun h : b = S => hSf (by rw [← h]; exact hb))]; exact e
    · refine hR s'' (Moved.trans W.gtrans ((hm.mono hsub).then_heap (Nat.le_succ _) fun b o hb e => ?_) hm'') hS''
      rw [hsb.2 b (fun h : b = S => hb (by rw [h]; exact List.mem_cons_self))]; exact e
end
section
variable {prog : Program} {w : World} {A : Around} {E : Value → Shared → Prop} {s : Shared} {α : Type} [DecidableEq α] {knd : KeyKind prog w α}
set_option maxHeartbeats 3200000 in
theorem call_set_strK {x : Str} {t : Tok} {xs : List α} {Q : Value → Shared → Prop}
    (hh : A.handled = none) (hsz : xs.length = x.cps.size) (hn1 : xs.length < 4000) (hval : ∀ (i : Nat) (v : Value), SignAt x i v → ∃ k, xs[i]? = some k ∧ knd.is k v = true ∧ v.scannable = true)
    (h : ∀ (h' : Heap) (tk : Nat), h'.SetOf knd s.heap.objs.size (inD xs) (ded xs).length →
      (∀ b o, b < s.heap.objs.size → s.heap.get? b = some o → h'.get? b = some o) → Q (.ref s.heap.objs.size) { s with heap := h', toks := tk }) :
    wpAny (model prog w) A (call (.type "set") [.str x t]) Q E s := by
  obtain ⟨c, tl, hmro⟩ := PySem.F.called_set.mro
  have hmade := PySem.F.called_set.made
  have hsub := PySem.F.called_set.sub
  refine wpAny_call (codeAny_of_tree ?_)
  show wpAny _ _ (callAny (.type "set") _) _ _ _
  refine wpAny_pure ⟨Code.quiet_builtin _ (by decide +kernel), codeAny_builtin PySem.F.entry_type_call ?_⟩
  rw [Around.under_plain (weight_type_call_type "set" [.str x t] []) rfl]
  have h1 := PySem.F.called_set.notType
  have h2 := PySem.F.called_set.canCreate
  have hct := PySem.F.typeCall_set_1 (.str x t)
  repeat (any_goals (first | assumption | wp_step))
  refine codeAny_mono (code_set_new_1 (.str x t) (E := E) (Q₁ := fun obj s₁ => ∃ led : Bool, obj = .ref s.heap.objs.size ∧ s₁ = { s with heap := s.heap.push { cls := .type "set", dict := none, data := .set #[] 0 (.fresh 0 0 led) } }) fun led => ⟨led, rfl, rfl⟩) fun r s₁ hr => ?_
  cases r with
  | error e => exact hr
  | ok fl =>
    cases fl with
    | ret obj =>
      obtain ⟨led, rfl, rfl⟩ := hr
      have hS : (s.heap.push { cls := .type "set", dict := none, data := .set #[] 0 (.fresh 0 0 led) }).get? s.heap.objs.size = some { cls := .type "set", dict := none, data := .set #[] 0 (.fresh 0 0 led) } := Heap.get?_push_size _ rfl
      have hT : Shared.TypeIs { s with heap := s.heap.push { cls := .type "set", dict := none, data := .set #[] 0 (.fresh 0 0 led) } } (.ref s.heap.objs.size) "set" := ⟨_, hS, rfl⟩
      have hli := PySem.F.called_set.init.lookup
      have hbi := PySem.F.called_set.init.bind (.ref s.heap.objs.size)
      repeat (any_goals (first | assumption | wp_step))
      refine codeAny_mono (codeAny_call_builtin (R := wants (fun r s₂ => r = .none ∧ ∃ h' tk, s₂ = { s with heap := h', toks := tk } ∧
          h'.SetOf knd s.heap.objs.size (inD xs) (ded xs).length ∧
          (∀ b o, b < s.heap.objs.size → s.heap.get? b = some o → h'.get? b = some o)) E) PySem.F.called_set.init.plain PySem.F.entry_set_init (check_set_init_1 hT ?_)) fun r₂ s₂ hr₂ => ?_
      · have hsls := PySem.F.sub_str_set
        have hslf := PySem.F.sub_str_frozenset
        have hne : (Value.type "str" == Value.type "dict") = false := by decide
        unfold Builtin.«set.__init__» noKeywords Builtin.Frozenset.updateFrom
        generalize hPI : pyIter = PI
        wp_walk
        subst hPI
        refine wpAny_pyIter_str fun o St WS st0 => ?_
        refine wpAny_bind (wpAny_runValue ?_)
        have hh3 : A.in1.in1.in1.handled = none := by simp [hh]
        have hSf : s.heap.objs.size ∉ [(s.heap.push { cls := .type "set", dict := none, data := .set #[] 0 (.fresh 0 0 led) }).objs.size] := by
          rw [Heap.size_push]; simp only [List.mem_cons, List.mem_singleton, List.not_mem_nil, or_false, not_or]
          exact Nat.ne_of_lt (Nat.lt_succ_self _)
        refine loopKnd ((WS _ hh3).toS) s.heap.objs.size
          hSf xs hsz hn1 hval (x.cps.size - 0) 0 _ (by omega) (Nat.zero_le _)
          st0 ?hS0 ?hR
        case hS0 =>
          have hget : ((s.heap.push { cls := .type "set", dict := none, data := .set #[] 0 (.fresh 0 0 led) }).push o).get? s.heap.objs.size
              = some { cls := .type "set", dict := none, data := .set #[] 0 (.fresh 0 0 led) } := Heap.get?_push_of_some _ hS
          exact PyProof.Rows.SetOf_congr ((PyProof.Rows.setObjOf_fresh (knd := knd) led).setOf hget (by unfold scanBound; omega)) (fun _ => rfl) rfl
        case hR =>
          intro s' hm hS'
          obtain ⟨h', g', d', tk', os'⟩ := s'
          have eg : g' = s.gens := hm.gens
          have ed : d' = s.drawn := hm.drawn
          have eo : os' = s.os := hm.os
          subst eg; subst ed; subst eo
          show wpAny _ _ _ _ _ _
          refine wpAny_pure ?_
          show wpAny _ _ (ret Value.none) _ _ _
          refine wpAny_pure ⟨rfl, h', tk', rfl, hS', fun b o hb e => ?_⟩
          have hb1 : b ≠ s.heap.objs.size := Nat.ne_of_lt hb
          have hb2 : b ≠ (s.heap.push { cls := .type "set", dict := none, data := .set #[] 0 (.fresh 0 0 led) }).objs.size := by
            rw [Heap.size_push]; exact Nat.ne_of_lt (Nat.lt_succ_of_lt hb)
          exact hm.heap b o (by simp only [List.mem_cons, List.mem_singleton, List.not_mem_nil, or_false, not_or]; exact ⟨hb1, hb2⟩) (Heap.get?_push_of_some _ (Heap.get?_push_of_some _ e))
      · cases r₂ with
        | error e => exact hr₂
        | ok fl₂ =>
          cases fl₂ with
          | ret r =>
            obtain ⟨rfl, h', tk, rfl, hS', hk'⟩ := hr₂
            repeat (any_goals (first | assumption | wp_step))
            exact h _ _ hS' hk'
          | _ => exact hr₂.elim
    | _ => exact hr.elim
end
end TL
namespace TL
open PySem PySem.Spec PyProof.Rows L2 RZ
section
variable {G : Ct} {X : Cx} {tg e a b : Expr} {te ta tb : TX} {pos p : Pos} {K : PySem.W.Frag}
/-! ### what is walked: a list, a tuple, a text -/
@[simp] def seqOf : PyData → Option (List PyData)
  | .list l => some l
  | .tuple l => some l
  | .str x => some (signsD x)
  | _ => none
def iSeq (K : PySem.W.Frag) (tl : TE) : TI := fun σ H R => tl σ H fun x H1 =>
  (∃ a, x = .ref a ∧ (∃ xs, SqL K H1 a xs) ∧ R (Itl K a) H1) ∨ (∃ a, x = .ref a ∧ (∃ xs, SqT K H1 a xs) ∧ R (Itt K a) H1) ∨ (∃ y, x = .str y ∧ R (Its y) H1)
theorem pi_seq {l : Expr} {tl : TE} (hl : PE X l tl) : PI X tg l (iSeq X.K tl) := by
  refine ⟨fun pins s σ H R I h => ?_⟩
  refine thn (hl.run pins s σ H _ I h) fun v s1 ⟨x, H1, I1, r1, q1⟩ => ?_
  rcases q1 with ⟨a, e, ⟨xs, hq⟩, q⟩ | ⟨a, e, ⟨xs, hq⟩, q⟩ | ⟨y, ex, q⟩
  · subst e
    cases r1
    obtain ⟨its, rv, p, hz⟩ := I1.list hq
    refine wpAny_pyIter_list p.isList ?_
    refine ⟨s1.heap.objs.size, [s1.heap.objs.size], _, _, H1, rfl, I1.kept (t' := s1.toks) fun b o e => Heap.get?_push_of_some _ e, turn_list a _, ⟨_, Heap.get?_push_size _ rfl, rfl, rfl⟩, fun b hb => ?_, q⟩
    have e : b = s1.heap.objs.size := by simpa using hb
    subst e
    exact I1.fpOk (Nat.le_refl _) (I1.hok.fresh (Nat.le_refl _))
  · subst e
    cases r1
    obtain ⟨its, rv, p, hz⟩ := I1.tuple hq
    refine wpAny_pyIter_tuple (show s1.heap.IsTuple a its.toArray from p) ?_
    refine ⟨s1.heap.objs.size, [s1.heap.objs.size], _, _, H1, rfl, I1.kept (t' := s1.toks) fun b o e => Heap.get?_push_of_some _ e, turn_tuple a _, ⟨_, Heap.get?_push_size _ rfl, rfl, rfl⟩, fun b hb => ?_, q⟩
    have e : b = s1.heap.objs.size := by simpa using hb
    subst e
    exact I1.fpOk (Nat.le_refl _) (I1.hok.fresh (Nat.le_refl _))
  · subst ex
    obtain ⟨t, rfl⟩ := r1
    cases ha : y.cps.all (· < 128)
    · exact wpAny_pyIter_wide ha (pi_one (tk := s1.toks) I1 _ (turn_str _ y t "str_iterator" (.inr rfl)) ⟨_, Heap.get?_push_size _ rfl, rfl, rfl⟩ q)
    · exact wpAny_pyIter_ascii ha (pi_one (tk := s1.toks) I1 _ (turn_str _ y t "str_ascii_iterator" (.inl rfl)) ⟨_, Heap.get?_push_size _ rfl, rfl, rfl⟩ q)
@[simp] def xiSeq (te : TX) : TWk := fun E g Q => te E g fun d g' => ∃ ds, seqOf d = some ds ∧ Q ds g'
theorem xi_seq (h : XE G X e te) : XI G X false tg e (xiSeq te) := by
  refine ⟨fun E g Q Q' hq q => h.mo _ _ _ _ (fun d g1 ⟨ds, e, q⟩ => ⟨ds, e, hq _ _ q⟩) q, (pi_seq h.pe).imp fun σ H R ⟨cl, E, g, as, j, r, q⟩ => ?_⟩
  refine ⟨cl, E, g, as, j, r, h.mo _ _ _ _ (fun d g1 ⟨ds, e, q1⟩ u v go1 j1 rv => ?_) q⟩
  cases rv with
  | lst hl hr =>
    cases e
    exact .inl ⟨_, rfl, ⟨_, hl.sq⟩, q1 u _ _ go1 j1 (wk_list (w := u)) ⟨hl, hr⟩⟩
  | tup hl hr =>
    cases e
    exact .inr (.inl ⟨_, rfl, ⟨_, hl.sq⟩, q1 u _ _ go1 j1 (wk_tup (w := u)) ⟨hl, hr⟩⟩)
  | str x =>
    cases e
    exact .inr (.inr ⟨_, rfl, q1 u _ _ go1 j1 (wk_str (K := X.K)) trivial⟩)
  | non => cases e
  | bl => cases e
  | int => cases e
  | dic => cases e
/-! ### <= of numbers and of texts -/
def oLe2 : OD := fun d e g Q => match d, e with
  | .int i, .int j => Q (.bool (decide (i ≤ j))) g
  | .str i, .str j => Q (.bool (!decide (j.cps.toList < i.cps.toList))) g
  | _, _ => False
@[simp] theorem oLe2_ii (i j : Int) (g : Nat) (Q : PyData → Nat → Prop) : oLe2 (.int i) (.int j) g Q = Q (.bool (decide (i ≤ j))) g := rfl
@[simp] theorem oLe2_ss (i j : Str) (g : Nat) (Q : PyData → Nat → Prop) : oLe2 (.str i) (.str j) g Q = Q (.bool (!decide (j.cps.toList < i.cps.toList))) g := rfl
theorem co_le2 : CO G X .LtE oLe2 := by
  refine ⟨_, op_le.or op_le_str, fun d e g Q Q' hq q => ?_, fun w g x y d e Q j rx ry q => ?_⟩
  · cases d <;> cases e <;> first | exact hq _ _ q | exact q
  · unfold oLe2 at q
    split at q
    · cases rx; cases ry
      exact .inl ⟨_, _, rfl, rfl, q w _ (Go.refl w) j (.bl _)⟩
    · cases rx; cases ry
      exact .inr ⟨_, _, rfl, rfl, q w _ (Go.refl w) j (.bl _)⟩
    · exact q.elim
/-! ### len(set(text)) -/
def signsS (x : Str) : List Str := x.cps.toList.map fun c => ⟨#[c]⟩
def tLenSetS (te : TE) : TE := fun σ H Q => te σ H fun x H1 => ∃ y : Str, x = .str y ∧ y.length < 4000 ∧ Q (.int ((ded (signsS y)).length : Nat)) H1
theorem pe_lenSetS {te : TE} {p p2 q : Pos} (hc : X.calm = true) (hg : Gl X "len") (hm : X.mg "len" = none) (hg2 : Gl X "set") (hm2 : X.mg "set" = none) (ha : PE X a te)
    (na : starEach [a] X.env = (false, eval a X.env) :: starEach [] X.env := by rfl) : PE X (.Call (.Name "len" p) [.Call (.Name "set" p2) [a] [] q] [] pos) (tLenSetS te) := by
  refine ⟨fun pins s σ H Q I h => ?_⟩
  refine Call_ (ld_blt I hg hm boot_len ?_)
  refine PyProof.Rows.callWith_builtin1 (PyProof.Rows.args_cons ?_ rfl) rfl rfl
  refine Call_ (ld_blt I hg2 hm2 boot_set ?_)
  refine PyProof.Rows.callWith_type1 (PyProof.Rows.args_cons (thn (ha.run pins s σ H _ I h) fun v s1 ⟨x, H1, I1, r1, q1⟩ => PyProof.Rows.args_nil ?_) na) na rfl
  obtain ⟨y, rfl, h1, q1⟩ := q1
  obtain ⟨t, rfl⟩ := r1
  have hl : (signsS y).length = y.cps.size := by unfold signsS; simp
  refine call_set_strK (knd := PySem.strKind X.prog X.w) (xs := signsS y) (I1.ok.hd hc) hl (by rw [hl]; exact h1) (fun i v hv => ?_) fun h' tk hS hk => ?_
  · obtain ⟨c, u, hc, rfl⟩ := hv
    refine ⟨⟨#[c]⟩, ?_, strKind_is _ _ _ _, rfl⟩
    unfold signsS
    rw [List.getElem?_map, Array.getElem?_toList, hc]
    rfl
  · refine PyProof.Rows.args_nil ?_
    have dl := ded_len (signsS y)
    rw [hl] at dl
    have h1' : y.cps.size < 4000 := h1
    obtain ⟨o, es, ep, t, ho, hex, hd, _, _, _, hf, hn⟩ := hS
    have I2 : Inv X pins σ H1 { s1 with heap := h', toks := tk } := I1.kept fun b o e => hk b o (Heap.lt_size e) e
    exact call_len_set ho hex hd hf (by rw [hn] <;> omega) ⟨.int ((ded (signsS y)).length : Nat), H1, I2.tok _, ⟨_, by rw [hn]⟩, q1⟩
@[simp] def xLenSetS (te : TX) : TX := fun E g Q => te E g fun d g1 => ∃ x : Str, d = .str x ∧ x.length < 4000 ∧ Q (.int ((ded (signsS x)).length : Nat)) g1
theorem xe_lenSetS {p p2 q : Pos} (hc : X.calm = true) (hg : Gl X "len") (hm : X.mg "len" = none) (hg2 : Gl X "set") (hm2 : X.mg "set" = none) (ha : XE G X a ta)
    (na : starEach [a] X.env = (false, eval a X.env) :: starEach [] X.env := by rfl) : XE G X (.Call (.Name "len" p) [.Call (.Name "set" p2) [a] [] q] [] pos) (xLenSetS ta) := by
  refine ⟨fun E g Q Q' hq q => ha.mo _ _ _ _ (fun d g1 ⟨x, e, l, q⟩ => ⟨x, e, l, hq _ _ q⟩) q, (pe_lenSetS hc hg hm hg2 hm2 ha.pe na).imp fun σ H Q ⟨cl, E, g, as, j, r, q⟩ => ?_⟩
  refine ⟨cl, E, g, as, j, r, ha.mo _ _ _ _ (fun d g1 ⟨x, e, l, q1⟩ u v go1 j1 rv => ?_) q⟩
  subst e
  cases rv
  exact ⟨x, rfl, l, q1 u _ go1 j1 (.int _)⟩
/-! ### gcd -/
def gcdI (a b : Int) : Int := ((Nat.gcd a.natAbs b.natAbs : Nat) : Int)
@[simp] def cGcd : CD := fun ds g Q => ∃ i j : Int, ds = [.int i, .int j] ∧ Q (.int (gcdI i j)) g
theorem cd_gcd : CallD G K rGcd cGcd := by
  refine ⟨fun ds g Q Q' hq ⟨i, j, a, q⟩ => ⟨i, j, a, hq _ _ q⟩, fun w g vs ds Q j r ⟨x, y, a, q⟩ => ?_⟩
  subst a
  cases r with
  | cons h t =>
    cases t with
    | cons h2 t =>
      cases t; cases h; cases h2
      exact ⟨x, y, rfl, q w _ (Go.refl w) j (.int _)⟩
theorem xe_callFun {x : Str} {es : List Expr} {t : TL'} {id : String} {r : List V → Hp → VK → Prop} {cd : CD} (hc : CallR X (.builtin id) r) (hd : CallD G X.K r cd) (hg : Gl X x) (hm : X.mg x = some (.builtin id)) (ha : XA G X (e :: es) t) (hdb : (x == ("__debug__" : Str)) = false := by decide)
    (he : starEach (e :: es) X.env = (false, eval e X.env) :: starEach es X.env := by rfl) (hpl : (backTo pos (starEach es X.env)).any (·.1) = false := by rfl) : XE G X (.Call (.Name x p) (e :: es) [] pos) (xCB t cd) :=
  ⟨cb_mo ha hd, (pe_callBfun hc hg hm ha.pa hdb he hpl).imp (cb_to ha hd)⟩
/-! ### a list's index of a number -/
@[simp] def xIndexI (te ta : TX) : TX := fun E g Q => te E g fun d g1 => ∃ ns : List Int, d = .list (ns.map .int) ∧ ta E g1 fun e g2 => ∃ (n : Int) (j : Nat), e = .int n ∧ ns[j]? = some n ∧ (∀ m, m < j → ns[m]? ≠ some n) ∧ Q (.int j) g2
theorem xe_indexI {apos cpos : Pos} (he : XE G X e te) (ha : XE G X a ta) (h : ∀ te' ta', PE X e te' → PE X a ta' → PE X (.Call (.Attribute e "index" apos) [a] [] cpos) (tBM X.K "list" (rIndex X.K) te' (tCons ta' tNil))) : XE G X (.Call (.Attribute e "index" apos) [a] [] cpos) (xIndexI te ta) := by
  refine ⟨fun E g Q Q' hq q => he.mo _ _ _ _ (fun d g1 ⟨ns, e1, q1⟩ => ⟨ns, e1, ha.mo _ _ _ _ (fun e g2 ⟨n, j, b, c, f, q2⟩ => ⟨n, j, b, c, f, hq _ _ q2⟩) q1⟩) q, (h _ _ he.pe ha.pe).imp fun σ H Q ⟨cl, E, g, as, j, r, q⟩ => ?_⟩
  refine ⟨cl, E, g, as, j, r, he.mo _ _ _ _ (fun d g1 ⟨ns, e1, q1⟩ u v go1 j1 rv => ?_) q⟩
  subst e1
  cases rv with
  | @lst a xs ds hL rl =>
    have hxs : xs = ns.map V.int := by
      have : ∀ {xs : List V} {ns : List Int}, RvL X.K u xs (ns.map PyData.int) → xs = ns.map V.int := by
        intro xs ns
        induction ns generalizing xs with
        | nil => intro r; cases r; rfl
        | cons n ns ih => intro r; cases r with | cons h t => cases h; rw [ih t]; rfl
      exact this rl
    subst hxs
    refine ⟨?_, u.cl, E, g1, as, j1, r.go go1, ha.mo _ _ _ _ (fun e g2 ⟨n, m, he, hm, hf, q2⟩ u2 v2 go2 j2 rv2 => ?_) q1⟩
    · exact .inl ⟨rfl, _, hL.sq⟩
    · subst he
      cases rv2
      refine ⟨_, _, _, m, .int n, rfl, rfl, (hL.pu go2.pu).sq, rfl, ?_, ?_, ?_, ?_, ?_⟩
      · rw [List.all_map]; exact List.all_eq_true.2 fun x _ => rfl
      · rw [List.getElem?_map, hm]; rfl
      · simp [eqV]
      · intro k z hk hz
        rw [List.getElem?_map] at hz
        cases h : ns[k]? with
        | none => rw [h] at hz; cases hz
        | some y =>
          rw [h] at hz
          cases hz
          simp only [eqV, beq_eq_false_iff_ne]
          intro e
          subst e
          exact hf k hk h
      · exact q2 u2 _ (go1.trans go2) j2 (.int _)
end
/-! ### items at written places -/
section
variable {α : Type} (l : List α)
theorem atI_lit (n : Nat) : atI l (n : Int) = l[n]? := by
  unfold atI ixN
  rw [if_pos (by omega)]
  by_cases h : (n : Int) < l.length
  · rw [if_pos h]; simp
  · rw [if_neg h, List.getElem?_eq_none (by omega)]; rfl
@[simp] theorem atI_0 : atI l 0 = l[0]? := atI_lit l 0
@[simp] theorem atI_1 : atI l 1 = l[1]? := atI_lit l 1
@[simp] theorem atI_2 : atI l 2 = l[2]? := atI_lit l 2
@[simp] theorem atI_3 : atI l 3 = l[3]? := atI_lit l 3
@[simp] theorem atI_4 : atI l 4 = l[4]? := atI_lit l 4
@[simp] theorem atI_5 : atI l 5 = l[5]? := atI_lit l 5
end
theorem Shown.refl {d : PyData} (h : Shown d) : PyData.eqv d d = true := by
  obtain ⟨B, dep, h, _, _⟩ := h
  exact PySem.SeqAt.eqv_refl d h.lay
theorem Sh.refl {d : PyData} {B dep : Nat} (h : Sh d B dep) : PyData.eqv d d = true := PySem.SeqAt.eqv_refl d h.lay
end TL
namespace TL
open PySem PySem.Spec PyProof.Rows L2 RZ
/-! ### the draws of the laws k01 to k29: cells, left, at -/
def dkC (c r : Addr) (n : Int) : List (Key × V) := [(kS "cells", .ref c), (kS "left", .ref r), (kS "at", .int n)]
theorem kC_cr : ¬ (kS "cells" = kS "left") := by decide +kernel
theorem kC_cs : ¬ (kS "cells" = kS "at") := by decide +kernel
theorem kC_rs : ¬ (kS "left" = kS "at") := by decide +kernel
theorem kC_sr : ¬ (kS "at" = kS "left") := by decide +kernel
theorem dkC_cells (c r : Addr) (n : Int) : valV (dkC c r n) (kS "cells") = some (.ref c) := by
  unfold dkC
  exact valV_pos rfl
theorem dkC_rest (c r : Addr) (n : Int) : valV (dkC c r n) (kS "left") = some (.ref r) := by
  unfold dkC
  rw [valV_neg (show ¬ (kS "cells", V.ref c).1 = kS "left" from kC_cr)]
  exact valV_pos rfl
theorem dkC_spot (c r : Addr) (n : Int) : valV (dkC c r n) (kS "at") = some (.int n) := by
  unfold dkC
  rw [valV_neg (show ¬ (kS "cells", V.ref c).1 = kS "at" from kC_cs), valV_neg (show ¬ (kS "left", V.ref r).1 = kS "at" from kC_rs)]
  exact valV_pos rfl
theorem sC_cr : ¬ (Str.ofString "cells" = Str.ofString "left") := by decide +kernel
theorem sC_cs : ¬ (Str.ofString "cells" = Str.ofString "at") := by decide +kernel
theorem sC_rs : ¬ (Str.ofString "left" = Str.ofString "at") := by decide +kernel
theorem sC_sr : ¬ (Str.ofString "at" = Str.ofString "left") := by decide +kernel
theorem dkC_len (c r : Addr) (n : Int) : (dkC c r n).length < sizeLine := by
  show 3 < sizeLine
  decide
theorem dkC_putR (c r r' : Addr) (n : Int) : putK (dkC c r n) (kS "left") (.ref r') = dkC c r' n := by
  simp [putK, dkC, sC_cr, sC_sr]
theorem dkC_putN (c r : Addr) (n n' : Int) : putK (dkC c r n) (kS "at") (.int n') = dkC c r n' := by
  simp [putK, dkC, sC_cs, sC_rs]
/-- the draws' dict as it stands -/
structure PCx (am c r : Addr) (cells rest : List Int) (n : Int) (u : Wd) : Prop where
  d : u.H am = some (.dK (dkC c r n))
  hc : u.H c = some (.lst (cells.map V.int))
  hr : u.H r = some (.lst (rest.map V.int))
  ca : u.cl am = 2
  cc : u.cl c = 2
  cr : u.cl r = 2
  ne : r ≠ c
  lr : rest.length ≤ 63
def JC (am : Addr) (g : Nat) (u : Wd) : Prop := ∃ c r cells rest n, PCx am c r cells rest n u ∧ cells.length ≤ 63 ∧ 0 ≤ n ∧ n + g ≤ 2 ^ 60
theorem JC.st (am : Addr) : ∀ g w u, (∀ a o, w.H a = some o → w.cl a = 2 → u.H a = some o ∧ u.cl a = 2) → JC am g w → JC am g u := by
  intro g w u h ⟨c, r, cells, rest, n, p, a1, a2, a3⟩
  exact ⟨c, r, cells, rest, n, ⟨(h _ _ p.d p.ca).1, (h _ _ p.hc p.cc).1, (h _ _ p.hr p.cr).1, (h _ _ p.d p.ca).2, (h _ _ p.hc p.cc).2, (h _ _ p.hr p.cr).2, p.ne, p.lr⟩, a1, a2, a3⟩
theorem JC.le {am : Addr} {g g' : Nat} {u : Wd} (h : JC am g u) (l : g' ≤ g) : JC am g' u := by
  obtain ⟨c, r, cells, rest, n, p, a1, a2, a3⟩ := h
  exact ⟨c, r, cells, rest, n, p, a1, a2, by omega⟩
section
variable {P : Program} {w : World} {K : PySem.W.Frag} {mg : Str → Option Value} {base : Heap}
theorem PCx.new {am c r : Addr} {cells rest : List Int} {n : Int} {u : Wd} (h : PCx am c r cells rest n u) {p : Addr} {o : HO} (np : u.H p = none) (k : Nat) : PCx am c r cells rest n (u.new p o k) := by
  have g := Go0.new (o := o) np k
  exact ⟨(g _ _ h.d).1, (g _ _ h.hc).1, (g _ _ h.hr).1, ((g _ _ h.d).2).trans h.ca, ((g _ _ h.hc).2).trans h.cc, ((g _ _ h.hr).2).trans h.cr, h.ne, h.lr⟩
def ptNextC : PT' := fun ss g Q => ∃ n : Int, ss = [.tok, .v (.int n)] ∧ 0 < n ∧ Wb n ∧ 1 ≤ g ∧ ∀ k : Int, 0 ≤ k → k < n → Q (.int k) (g - 1)
theorem ptNextC_mo : ∀ ss g Q Q', (∀ d g', Q d g' → Q' d g') → ptNextC ss g Q → ptNextC ss g Q' := fun ss g Q Q' hq ⟨n, e, h0, h1, h2, q⟩ => ⟨n, e, h0, h1, h2, fun k a b => hq _ _ (q k a b)⟩
def spBegunC (K : PySem.W.Frag) : Sp := fun vs H Q _ => ∃ (a : Addr) (ns : List Int), vs = [.ref a] ∧ SqL K H a (ns.map V.int) ∧ ns.length ≤ 63 ∧
  ∀ p c r (rest : List Int) H', H p = none → H c = none → H r = none → Same H H' → H' p = some (.dK (dkC c r 0)) → H' c = some (.lst (ns.map V.int)) → H' r = some (.lst (rest.map V.int)) → r ≠ c → rest.length ≤ 63 → Q (.ref p) H'
end
/-- a draw -/
theorem next_ofC {n : Int} {g : Nat} {Q : PyData → Nat → Prop} (h0 : 0 < n) (h1 : Wb n) (hg : 1 ≤ g) (q : ∀ k : Int, 0 ≤ k → k < n → Q (.int k) (g - 1)) : ptNextC [.tok, .v (.int n)] g Q := ⟨n, rfl, h0, h1, hg, q⟩
end TL
namespace TL
open PySem PySem.Spec PyProof.Rows L2 RZ
/-! ### the draws of the laws k76 to k85: cells, left, spot -/
def dkD (c r : Addr) (n : Int) : List (Key × V) := [(kS "cells", .ref c), (kS "left", .ref r), (kS "spot", .int n)]
theorem kD_cr : ¬ (kS "cells" = kS "left") := by decide +kernel
theorem kD_cs : ¬ (kS "cells" = kS "spot") := by decide +kernel
theorem kD_rs : ¬ (kS "left" = kS "spot") := by decide +kernel
theorem kD_sr : ¬ (kS "spot" = kS "left") := by decide +kernel
theorem dkD_cells (c r : Addr) (n : Int) : valV (dkD c r n) (kS "cells") = some (.ref c) := by
  unfold dkD
  exact valV_pos rfl
theorem dkD_rest (c r : Addr) (n : Int) : valV (dkD c r n) (kS "left") = some (.ref r) := by
  unfold dkD
  rw [valV_neg (show ¬ (kS "cells", V.ref c).1 = kS "left" from kD_cr)]
  exact valV_pos rfl
theorem dkD_spot (c r : Addr) (n : Int) : valV (dkD c r n) (kS "spot") = some (.int n) := by
  unfold dkD
  rw [valV_neg (show ¬ (kS "cells", V.ref c).1 = kS "spot" from kD_cs), valV_neg (show ¬ (kS "left", V.ref r).1 = kS "spot" from kD_rs)]
  exact valV_pos rfl
theorem sD_cr : ¬ (Str.ofString "cells" = Str.ofString "left") := by decide +kernel
theorem sD_cs : ¬ (Str.ofString "cells" = Str.ofString "spot") := by decide +kernel
theorem sD_rs : ¬ (Str.ofString "left" = Str.ofString "spot") := by decide +kernel
theorem sD_sr : ¬ (Str.ofString "spot" = Str.ofString "left") := by decide +kernel
theorem dkD_len (c r : Addr) (n : Int) : (dkD c r n).length < sizeLine := by
  show 3 < sizeLine
  decide
theorem dkD_putR (c r r' : Addr) (n : Int) : putK (dkD c r n) (kS "left") (.ref r') = dkD c r' n := by
  simp [putK, dkD, sD_cr, sD_sr]
theorem dkD_putN (c r : Addr) (n n' : Int) : putK (dkD c r n) (kS "spot") (.int n') = dkD c r n' := by
  simp [putK, dkD, sD_cs, sD_rs]
/-- the draws' dict as it stands -/
structure PDx (am c r : Addr) (cells rest : List Int) (n : Int) (u : Wd) : Prop where
  d : u.H am = some (.dK (dkD c r n))
  hc : u.H c = some (.lst (cells.map V.int))
  hr : u.H r = some (.lst (rest.map V.int))
  ca : u.cl am = 2
  cc : u.cl c = 2
  cr : u.cl r = 2
  ne : r ≠ c
  lr : rest.length = cells.length
def JD (am : Addr) (g : Nat) (u : Wd) : Prop := ∃ c r cells rest n, PDx am c r cells rest n u ∧ (0 < cells.length ∧ cells.length ≤ 63) ∧ 0 ≤ n ∧ n + g ≤ 2 ^ 60
theorem JD.st (am : Addr) : ∀ g w u, (∀ a o, w.H a = some o → w.cl a = 2 → u.H a = some o ∧ u.cl a = 2) → JD am g w → JD am g u := by
  intro g w u h ⟨c, r, cells, rest, n, p, a1, a2, a3⟩
  exact ⟨c, r, cells, rest, n, ⟨(h _ _ p.d p.ca).1, (h _ _ p.hc p.cc).1, (h _ _ p.hr p.cr).1, (h _ _ p.d p.ca).2, (h _ _ p.hc p.cc).2, (h _ _ p.hr p.cr).2, p.ne, p.lr⟩, a1, a2, a3⟩
theorem JD.le {am : Addr} {g g' : Nat} {u : Wd} (h : JD am g u) (l : g' ≤ g) : JD am g' u := by
  obtain ⟨c, r, cells, rest, n, p, a1, a2, a3⟩ := h
  exact ⟨c, r, cells, rest, n, p, a1, a2, by omega⟩
section
variable {P : Program} {w : World} {K : PySem.W.Frag} {mg : Str → Option Value} {base : Heap}
theorem PDx.new {am c r : Addr} {cells rest : List Int} {n : Int} {u : Wd} (h : PDx am c r cells rest n u) {p : Addr} {o : HO} (np : u.H p = none) (k : Nat) : PDx am c r cells rest n (u.new p o k) := by
  have g := Go0.new (o := o) np k
  exact ⟨(g _ _ h.d).1, (g _ _ h.hc).1, (g _ _ h.hr).1, ((g _ _ h.d).2).trans h.ca, ((g _ _ h.hc).2).trans h.cc, ((g _ _ h.hr).2).trans h.cr, h.ne, h.lr⟩
def ptNextD : PT' := fun ss g Q => ∃ n : Int, ss = [.tok, .v (.int n)] ∧ 0 < n ∧ Wb n ∧ 1 ≤ g ∧ ∀ k : Int, 0 ≤ k → k < n → Q (.int k) (g - 1)
theorem ptNextD_mo : ∀ ss g Q Q', (∀ d g', Q d g' → Q' d g') → ptNextD ss g Q → ptNextD ss g Q' := fun ss g Q Q' hq ⟨n, e, h0, h1, h2, q⟩ => ⟨n, e, h0, h1, h2, fun k a b => hq _ _ (q k a b)⟩
def spBegunD (K : PySem.W.Frag) : Sp := fun vs H Q _ => ∃ (a : Addr) (ns : List Int), vs = [.ref a] ∧ SqL K H a (ns.map V.int) ∧ ns.length ≤ 63 ∧
  ∀ p c r (cells rest : List Int) H', H p = none → H c = none → H r = none → Same H H' → H' p = some (.dK (dkD c r 0)) → H' c = some (.lst (cells.map V.int)) → H' r = some (.lst (rest.map V.int)) → r ≠ c → rest.length = cells.length → 0 < cells.length → cells.length ≤ 63 → Q (.ref p) H'
/-- a mixed number -/
def spMix : Sp := fun vs H Q _ => ∃ c s : Int, vs = [.int c, .int s] ∧ (0 ≤ s ∧ s ≤ 2 ^ 60) ∧ ∀ k : Int, 0 ≤ k → Q (.int k) H
end
/-- a draw -/
theorem next_ofD {n : Int} {g : Nat} {Q : PyData → Nat → Prop} (h0 : 0 < n) (h1 : Wb n) (hg : 1 ≤ g) (q : ∀ k : Int, 0 ≤ k → k < n → Q (.int k) (g - 1)) : ptNextD [.tok, .v (.int n)] g Q := ⟨n, rfl, h0, h1, hg, q⟩
end TL
/-! numbers: sums, gcd, floors -/
namespace NT
/-- the sum of f 0 .. f (n - 1) -/
def S (f : Nat → Int) : Nat → Int
  | 0 => 0
  | n + 1 => S f n + f n
theorem S_congr {f g : Nat → Int} : ∀ {n : Nat}, (∀ i, i < n → f i = g i) → S f n = S g n
  | 0, _ => rfl
  | n + 1, h => by rw [S, S, S_congr (n := n) fun i hi => h i (by omega), h n (by omega)]
theorem S_add {f g : Nat → Int} : ∀ n, S (fun i => f i + g i) n = S f n + S g n
  | 0 => rfl
  | n + 1 => by simp only [S, S_add n]; omega
theorem S_const (c : Int) : ∀ n : Nat, S (fun _ => c) n = n * c
  | 0 => by simp [S]
  | n + 1 => by rw [S, S_const c n, Int.natCast_succ, Int.add_mul, Int.one_mul]
theorem S_zero : ∀ n : Nat, S (fun _ => 0) n = 0
  | 0 => rfl
  | n + 1 => by rw [S, S_zero n]; rfl
theorem S_mul (c : Int) {f : Nat → Int} : ∀ n, S (fun i => c * f i) n = c * S f n
  | 0 => by simp [S]
  | n + 1 => by rw [S, S, S_mul c n, Int.mul_add]
theorem S_sub {f g : Nat → Int} (n : Nat) : S (fun i => f i - g i) n = S f n - S g n := by
  have h := S_add (f := fun i => f i - g i) (g := g) n
  have e : S (fun i => f i - g i + g i) n = S f n := S_congr fun i _ => by omega
  omega
/-- the first term apart -/
theorem S_head (f : Nat → Int) : ∀ n, S f (n + 1) = f 0 + S (fun i => f (i + 1)) n
  | 0 => by simp [S]
  | n + 1 => by rw [S, S_head f n, S]; omega
theorem S_split (f : Nat → Int) (m : Nat) : ∀ n, S f (m + n) = S f m + S (fun i => f (m + i)) n
  | 0 => by simp [S]
  | n + 1 => by rw [← Nat.add_assoc, S, S_split f m n, S]; omega
theorem S_swap (f : Nat → Nat → Int) : ∀ n m, S (fun i => S (fun j => f i j) m) n = S (fun j => S (fun i => f i j) n) m
  | 0, m => by simp only [S]; exact (S_zero m).symm
  | n + 1, m => by
    simp only [S]
    rw [S_swap f n m, ← S_add]
theorem S_nonneg {f : Nat → Int} : ∀ {n : Nat}, (∀ i, i < n → 0 ≤ f i) → 0 ≤ S f n
  | 0, _ => by simp [S]
  | n + 1, h => by
    have := S_nonneg (n := n) fun i hi => h i (by omega)
    have := h n (by omega)
    simp only [S]; omega
theorem S_le {f g : Nat → Int} {n : Nat} (h : ∀ i, i < n → f i ≤ g i) : S f n ≤ S g n := by
  have := S_nonneg (f := fun i => g i - f i) (n := n) fun i hi => by have := h i hi; omega
  rw [S_sub] at this
  omega
/-- twice the sum of 0 .. n - 1 -/
theorem S_id : ∀ n : Nat, 2 * S (fun i => (i : Int)) n = n * (n - 1)
  | 0 => by simp [S]
  | n + 1 => by
    have h := S_id n
    rw [S, Int.natCast_succ]
    generalize S (fun i => (i : Int)) n = s at *
    grind
/-- a truth as a number -/
def b2i (p : Bool) : Int := if p then 1 else 0
theorem S_one {n k : Nat} {f : Nat → Int} (h : ∀ i, i < n → i ≠ k → f i = 0) (hk : k < n) : S f n = f k := by
  induction n with
  | zero => omega
  | succ n ih =>
    rw [S]
    by_cases e : k = n
    · subst e
      have : S f k = 0 := by
        rw [S_congr (g := fun _ => 0) fun i hi => h i (by omega) (by omega)]
        exact S_zero k
      omega
    · rw [ih (fun i hi ne => h i (by omega) ne) (by omega), h n (by omega) (Ne.symm e)]
      omega
theorem S_none {n : Nat} {f : Nat → Int} (h : ∀ i, i < n → f i = 0) : S f n = 0 := by
  rw [S_congr (g := fun _ => 0) h]
  exact S_zero n
/-! ### floors -/
theorem ediv_step {a m b : Int} (hm : 0 < m) : (a + m) / m = a / m + 1 := by
  have := Int.add_mul_ediv_left a (b := m) 1 (by omega)
  rw [Int.mul_one] at this
  exact this
theorem div_eq {x q r m : Int} (hm : 0 < m) (e : x = m * q + r) (h0 : 0 ≤ r) (h1 : r < m) : x / m = q ∧ x % m = r := by
  rw [Int.ediv_emod_unique hm]
  exact ⟨by omega, h0, h1⟩
theorem mod_div (x m : Int) : x = m * (x / m) + x % m := (Int.mul_ediv_add_emod x m).symm
/-- the sum of the floors of (a * i + b) / m -/
def F (a b m : Int) (n : Nat) : Int := S (fun i => (a * i + b) / m) n
theorem F_turn {a b m : Int} (a0 : 0 < a) (am : a < m) (b0 : 0 ≤ b) (bm : b < m) : ∀ n : Nat, F a b m n = F m ((a * n + b) % m) a ((a * n + b) / m).toNat
  | 0 => by
    have e : (a * ((0 : Nat) : Int) + b) / m = 0 := by simp; exact Int.ediv_eq_zero_of_lt b0 bm
    rw [e]; rfl
  | n + 1 => by
    have hm : 0 < m := by omega
    have ih := F_turn a0 am b0 bm n
    have an : 0 ≤ a * (n : Int) := Int.mul_nonneg (by omega) (by omega)
    have y0 : 0 ≤ a * (n : Int) + b := by omega
    have q0 : 0 ≤ (a * (n : Int) + b) / m := Int.ediv_nonneg y0 (by omega)
    have r0 := Int.emod_nonneg (a * (n : Int) + b) (show m ≠ 0 by omega)
    have r1 := Int.emod_lt_of_pos (a * (n : Int) + b) hm
    have yq := mod_div (a * (n : Int) + b) m
    have ey : a * ((n + 1 : Nat) : Int) + b = (a * (n : Int) + b) + a := by
      rw [Int.natCast_succ, Int.mul_add]; omega
    unfold F at ih ⊢
    rw [S, ih, ey]
    generalize hq : (a * (n : Int) + b) / m = q at *
    generalize hr : (a * (n : Int) + b) % m = r at *
    generalize hy : a * (n : Int) + b = y at *
    obtain ⟨Q, rfl⟩ : ∃ Q : Nat, q = (Q : Int) := ⟨q.toNat, by omega⟩
    have step : ∀ z : Int, (z + a) / a = z / a + 1 := fun z => ediv_step (b := 0) a0
    by_cases c : r + a < m
    · obtain ⟨e1, e2⟩ := div_eq (x := y + a) (q := Q) (r := r + a) hm (by omega) (by omega) c
      rw [e1, e2]
      rw [Int.toNat_natCast]
      have : S (fun i => (m * (i : Int) + (r + a)) / a) Q = S (fun i => (m * (i : Int) + r) / a + 1) Q := S_congr fun i _ => by
        rw [← Int.add_assoc, step]
      rw [this, S_add, S_const]
      omega
    · obtain ⟨e1, e2⟩ := div_eq (x := y + a) (q := (Q : Int) + 1) (r := r + a - m) hm (by rw [Int.mul_add]; omega) (by omega) (by omega)
      rw [e1, e2]
      have t : ((Q : Int) + 1).toNat = Q + 1 := by omega
      rw [Int.toNat_natCast, t, S_head]
      have z0 : (m * ((0 : Nat) : Int) + (r + a - m)) / a = 0 := by
        simp only [Int.natCast_zero, Int.mul_zero, Int.zero_add]
        exact Int.ediv_eq_zero_of_lt (by omega) (by omega)
      have : S (fun i => (m * ((i + 1 : Nat) : Int) + (r + a - m)) / a) Q = S (fun i => (m * (i : Int) + r) / a + 1) Q := S_congr fun i _ => by
        have : m * ((i + 1 : Nat) : Int) + (r + a - m) = (m * (i : Int) + r) + a := by
          rw [Int.natCast_succ, Int.mul_add]; omega
        rw [this, step]
      rw [z0, this, S_add, S_const]
      omega
/-- whole multiples apart -/
theorem F_whole {a b m : Int} (hm : 0 < m) (n : Nat) : F a b m n = (n : Int) * (n - 1) / 2 * (a / m) + n * (b / m) + F (a % m) (b % m) m n := by
  have e : ∀ i : Nat, (a * (i : Int) + b) / m = (i : Int) * (a / m) + (b / m) + ((a % m) * i + b % m) / m := fun i => by
    have h1 := mod_div a m
    have h2 := mod_div b m
    have : a * (i : Int) + b = ((a % m) * i + b % m) + m * (i * (a / m) + b / m) := by
      generalize a / m = q at *
      generalize b / m = p at *
      generalize a % m = r at *
      generalize b % m = t at *
      subst h1 h2
      grind
    rw [this, Int.add_mul_ediv_left _ _ (by omega)]
    omega
  unfold F
  rw [S_congr (fun i _ => e i), S_add, S_add, S_const]
  have : S (fun i => (i : Int) * (a / m)) n = (n : Int) * (n - 1) / 2 * (a / m) := by
    rw [S_congr (g := fun i => (a / m) * (i : Int)) (fun i _ => Int.mul_comm _ _), S_mul]
    have h := S_id n
    have : (n : Int) * (n - 1) / 2 = S (fun i => (i : Int)) n := by omega
    rw [this, Int.mul_comm]
  rw [this]
theorem F_small {b m : Int} (b0 : 0 ≤ b) (bm : b < m) (n : Nat) : F 0 b m n = 0 := by
  unfold F
  refine S_none fun i _ => ?_
  rw [Int.zero_mul, Int.zero_add]
  exact Int.ediv_eq_zero_of_lt b0 bm
theorem F_zero {a b m : Int} : F a b m 0 = 0 := rfl
/-- one turn of the sum by parts -/
theorem F_parts {s b m n : Int} (hn : 0 < n) (hm : 0 < m) (hs : 0 ≤ s) (hb : 0 ≤ b) :
    F s b m n.toNat = n * (n - 1) / 2 * (s / m) + n * (b / m) + F m ((s % m * n + b % m) % m) (s % m) ((s % m * n + b % m) / m).toNat := by
  have e : ((n.toNat : Nat) : Int) = n := by omega
  have h := F_whole (a := s) (b := b) hm n.toNat
  rw [e] at h
  rw [h]
  have r0 := Int.emod_nonneg s (show m ≠ 0 by omega)
  have r1 := Int.emod_lt_of_pos s hm
  have t0 := Int.emod_nonneg b (show m ≠ 0 by omega)
  have t1 := Int.emod_lt_of_pos b hm
  by_cases z : s % m = 0
  · rw [z, F_small t0 t1, Int.zero_mul, Int.zero_add, Int.ediv_eq_zero_of_lt t0 t1]
    rfl
  · have := F_turn (a := s % m) (b := b % m) (m := m) (by omega) r1 t0 t1 n.toNat
    rw [e] at this
    rw [this]
theorem parts_le {s b m n : Int} (hn : 0 < n) (hm : 0 < m) : (s % m * n + b % m) / m ≤ n ∧ 0 ≤ (s % m * n + b % m) / m := by
  have r0 := Int.emod_nonneg s (show m ≠ 0 by omega)
  have r1 := Int.emod_lt_of_pos s hm
  have t0 := Int.emod_nonneg b (show m ≠ 0 by omega)
  have t1 := Int.emod_lt_of_pos b hm
  have h0 : 0 ≤ s % m * n := Int.mul_nonneg r0 (by omega)
  have h1 : s % m * n ≤ (m - 1) * n := Int.mul_le_mul_of_nonneg_right (by omega) (by omega)
  refine ⟨?_, Int.ediv_nonneg (by omega) (by omega)⟩
  have : (s % m * n + b % m) / m < n + 1 := by
    rw [Int.ediv_lt_iff_lt_mul hm]
    have e1 : (m - 1) * n = n * m - n := by grind
    have e2 : (n + 1) * m = n * m + m := by grind
    omega
  omega
/-- how many of 0 .. n - 1 have a rest that is at most h -/
def cnt (a b m h : Int) (n : Nat) : Int := S (fun t => if (a * t + b) % m ≤ h then 1 else 0) n
theorem cnt_F {a b m h : Int} (hm : 0 < m) (h0 : 0 ≤ h) (h1 : h < m) (n : Nat) : cnt a b m h n = n + F a b m n - F a (b + m - h - 1) m n := by
  unfold cnt F
  have e : ∀ t : Nat, (if (a * (t : Int) + b) % m ≤ h then (1 : Int) else 0) = (1 + (a * (t : Int) + b) / m) - (a * (t : Int) + (b + m - h - 1)) / m := fun t => by
    have hq := mod_div (a * (t : Int) + b) m
    have r0 := Int.emod_nonneg (a * (t : Int) + b) (show m ≠ 0 by omega)
    have r1 := Int.emod_lt_of_pos (a * (t : Int) + b) hm
    have e2 : a * (t : Int) + (b + m - h - 1) = (a * (t : Int) + b) + (m - h - 1) := by omega
    rw [e2]
    generalize a * (t : Int) + b = y at *
    generalize y / m = q at *
    generalize y % m = r at *
    by_cases c : r ≤ h
    · rw [if_pos c, (div_eq (x := y + (m - h - 1)) (q := q) (r := r + (m - h - 1)) hm (by omega) (by omega) (by omega)).1]
      omega
    · rw [if_neg c, (div_eq (x := y + (m - h - 1)) (q := q + 1) (r := r + (m - h - 1) - m) hm (by rw [Int.mul_add]; omega) (by omega) (by omega)).1]
      omega
  rw [S_congr (fun t _ => e t), S_sub, S_add, S_const]
  omega
theorem cnt_split {a b m h : Int} (hm : 0 < m) (k n : Nat) : cnt a b m h (k + n) = cnt a b m h k + cnt a ((b + a * k) % m) m h n := by
  unfold cnt
  rw [S_split]
  congr 1
  refine S_congr fun i _ => ?_
  have : (a * ((k + i : Nat) : Int) + b) % m = (a * (i : Int) + (b + a * k) % m) % m := by
    rw [Int.add_emod_emod]
    congr 1
    rw [Int.natCast_add]
    grind
  simp only [this]
/-! ### greatest common divisors -/
theorem bezout : ∀ a b : Nat, ∃ x y : Int, (a : Int) * x + b * y = Nat.gcd a b := by
  intro a b
  induction a, b using Nat.gcd.induction with
  | H0 n => exact ⟨0, 1, by simp⟩
  | H1 m n hm ih =>
    obtain ⟨x, y, e⟩ := ih
    refine ⟨y - (n / m : Nat) * x, x, ?_⟩
    rw [Nat.gcd_rec m n, ← e]
    have h : (n : Int) = m * (n / m : Nat) + (n % m : Nat) := by
      have := Nat.div_add_mod n m
      exact_mod_cast this.symm
    generalize ((n / m : Nat) : Int) = q at *
    generalize ((n % m : Nat) : Int) = r at *
    rw [h]
    grind
/-- gcd of ints that are not below 0 -/
def G (a b : Int) : Int := Nat.gcd a.toNat b.toNat
theorem G_pos {a b : Int} (h : 0 < b) : 0 < G a b := by
  have : 0 < Nat.gcd a.toNat b.toNat := Nat.gcd_pos_of_pos_right _ (by omega)
  unfold G
  omega
theorem G_dvd_l {a b : Int} (ha : 0 ≤ a) : G a b ∣ a := by
  have h := Nat.gcd_dvd_left a.toNat b.toNat
  have e : ((a.toNat : Nat) : Int) = a := by omega
  have := Int.natCast_dvd_natCast.2 h
  rw [e] at this
  exact this
theorem G_dvd_r {a b : Int} (hb : 0 ≤ b) : G a b ∣ b := by
  have h := Nat.gcd_dvd_right a.toNat b.toNat
  have e : ((b.toNat : Nat) : Int) = b := by omega
  have := Int.natCast_dvd_natCast.2 h
  rw [e] at this
  exact this
theorem G_bez {a b : Int} (ha : 0 ≤ a) (hb : 0 ≤ b) : ∃ x y : Int, a * x + b * y = G a b := by
  obtain ⟨x, y, e⟩ := bezout a.toNat b.toNat
  have e1 : ((a.toNat : Nat) : Int) = a := by omega
  have e2 : ((b.toNat : Nat) : Int) = b := by omega
  rw [e1, e2] at e
  exact ⟨x, y, e⟩
theorem G_comm (a b : Int) : G a b = G b a := by unfold G; rw [Nat.gcd_comm]
theorem G_rec {a b : Int} (ha : 0 ≤ a) (hb : 0 < b) : G a b = G b (a % b) := by
  unfold G
  have e : (a % b).toNat = a.toNat % b.toNat := by
    have e1 : ((a.toNat : Nat) : Int) = a := by omega
    have e2 : ((b.toNat : Nat) : Int) = b := by omega
    have : a % b = ((a.toNat % b.toNat : Nat) : Int) := by rw [Int.natCast_emod, e1, e2]
    rw [this]
    omega
  rw [e, Nat.gcd_comm a.toNat, Nat.gcd_rec, Nat.gcd_comm]
theorem G_zero {a : Int} (ha : 0 ≤ a) : G a 0 = a := by
  unfold G
  simp
  omega
/-- b divides w, and a * x lies by r: exactly one x of w / g -/
theorem dvd_of_G {a w x : Int} (ha : 0 ≤ a) (hw : 0 < w) (h : w ∣ a * x) : w / G a w ∣ x := by
  obtain ⟨p, q, e⟩ := G_bez ha (show 0 ≤ w by omega)
  have gp := G_pos (a := a) hw
  obtain ⟨w', hw'⟩ := G_dvd_r (a := a) (b := w) (by omega)
  obtain ⟨a', ha'⟩ := G_dvd_l (a := a) (b := w) ha
  have ew : w / G a w = w' := by
    generalize G a w = g at *
    rw [hw']
    exact Int.mul_ediv_cancel_left _ (by omega)
  rw [ew]
  obtain ⟨k, hk⟩ := h
  generalize G a w = g at *
  -- g x = a p x + w q x = w (k p + q x); w = g w'
  refine ⟨k * p + q * x, ?_⟩
  have h1 : g * x = g * (w' * (k * p + q * x)) := by
    have : g * x = a * x * p + w * q * x := by rw [← e]; grind
    rw [this, hk, hw']
    grind
  exact Int.eq_of_mul_eq_mul_left (by omega) h1
theorem mod_eq_dvd {x y m : Int} : x % m = y % m ↔ m ∣ x - y := by
  rw [Int.emod_eq_emod_iff_emod_sub_eq_zero]
  exact Int.dvd_iff_emod_eq_zero.symm
/-- among 0 .. w / g - 1 there is just one t with (a t + b) % w = r, if g divides r - b -/
theorem one_t {a b w r : Int} (ha : 0 ≤ a) (hw : 0 < w) (hr : 0 ≤ r) (hrw : r < w) :
    S (fun t => if (a * t + b) % w = r then (1 : Int) else 0) (w / G a w).toNat = if b % G a w = r % G a w then 1 else 0 := by
  have gp := G_pos (a := a) hw
  have dw := G_dvd_r (a := a) (b := w) (by omega)
  have da := G_dvd_l (a := a) (b := w) ha
  have un : ∀ x : Int, w ∣ a * x → w / G a w ∣ x := fun x => dvd_of_G ha hw
  obtain ⟨p, q, e⟩ := G_bez ha (show 0 ≤ w by omega)
  generalize hg : G a w = g at *
  have ew : g * (w / g) = w := Int.mul_ediv_cancel' dw
  have wp : 0 < w / g := Int.ediv_pos_of_pos_of_dvd hw (by omega) dw
  have rr : r % w = r := Int.emod_eq_of_lt hr hrw
  by_cases c : b % g = r % g
  · rw [if_pos c]
    obtain ⟨k, hk⟩ := mod_eq_dvd.1 c.symm
    -- t0 = p k mod w / g
    have t0 := Int.emod_nonneg (p * k) (show w / g ≠ 0 by omega)
    have t1 := Int.emod_lt_of_pos (p * k) wp
    have sol : ∀ t : Int, (a * t + b) % w = r ↔ w ∣ a * t - (r - b) := fun t => by
      rw [show (a * t + b) % w = r ↔ (a * t + b) % w = r % w by rw [rr], mod_eq_dvd]
      rw [show a * t + b - r = a * t - (r - b) by omega]
    have s0 : (a * (((p * k) % (w / g)).toNat : Nat) + b) % w = r := by
      rw [sol]
      have e3 : ((((p * k) % (w / g)).toNat : Nat) : Int) = (p * k) % (w / g) := by omega
      rw [e3]
      have h2 := mod_div (p * k) (w / g)
      generalize (p * k) % (w / g) = t at *
      generalize p * k / (w / g) = d at *
      obtain ⟨a', rfl⟩ := da
      refine ⟨-(a' * d) - q * k, ?_⟩
      generalize w / g = u at *
      subst ew
      grind
    rw [S_one (k := ((p * k) % (w / g)).toNat) (fun i hi ne => ?_) (by omega), if_pos s0]
    refine if_neg fun si => ne ?_
    rw [sol] at si s0
    have hd : w ∣ a * ((i : Int) - (((p * k) % (w / g)).toNat : Nat)) := by
      have := Int.dvd_sub si s0
      rw [show a * (i : Int) - (r - b) - (a * (((p * k) % (w / g)).toNat : Nat) - (r - b)) = a * ((i : Int) - (((p * k) % (w / g)).toNat : Nat)) by rw [Int.mul_sub]; omega] at this
      exact this
    have h3 := un _ hd
    have tb : ((p * k) % (w / g)).toNat < (w / g).toNat := by omega
    generalize ((p * k) % (w / g)).toNat = t at *
    obtain ⟨z, hz⟩ := h3
    generalize w / g = u at *
    have hz0 : z = 0 := by
      rcases Int.lt_trichotomy z 0 with h | h | h
      · have : u * z ≤ u * (-1) := Int.mul_le_mul_of_nonneg_left (by omega) (by omega)
        omega
      · exact h
      · have : u * 1 ≤ u * z := Int.mul_le_mul_of_nonneg_left (by omega) (by omega)
        omega
    rw [hz0] at hz
    omega
  · rw [if_neg c]
    refine S_none fun i _ => if_neg fun h => c ?_
    have h2 : w ∣ a * (i : Int) + b - r := by
      have := mod_eq_dvd.1 (show (a * (i : Int) + b) % w = r % w by rw [rr]; exact h)
      exact this
    have h3 : g ∣ a * (i : Int) + b - r := Int.dvd_trans dw h2
    have h4 : g ∣ a * (i : Int) := Int.dvd_mul_of_dvd_left da
    rw [mod_eq_dvd]
    have := Int.dvd_sub h3 h4
    rw [show a * (i : Int) + b - r - a * (i : Int) = b - r by omega] at this
    exact this
/-- of 0 .. h, those with the rest s by g -/
theorem cnt_rest {g s : Int} (hg : 0 < g) (s0 : 0 ≤ s) (s1 : s < g) : ∀ n : Nat, S (fun r => if s = (r : Int) % g then (1 : Int) else 0) n = if s < n then (n - 1 - s) / g + 1 else 0
  | 0 => by simp [S]; omega
  | n + 1 => by
    rw [S, cnt_rest hg s0 s1 n]
    rw [Int.natCast_succ]
    have hq := mod_div (n : Int) g
    have r0 := Int.emod_nonneg (n : Int) (show g ≠ 0 by omega)
    have r1 := Int.emod_lt_of_pos (n : Int) hg
    have q0 : 0 ≤ (n : Int) / g := Int.ediv_nonneg (by omega) (by omega)
    have e1 : (n : Int) + 1 - 1 - s = n - s := by omega
    rw [e1]
    generalize (n : Int) / g = q at *
    generalize (n : Int) % g = r at *
    have qc : q = 0 ∧ g * q = 0 ∨ 1 ≤ q ∧ g ≤ g * q := by
      by_cases z : q = 0
      · exact .inl ⟨z, by rw [z, Int.mul_zero]⟩
      · have : g * 1 ≤ g * q := Int.mul_le_mul_of_nonneg_left (by omega) (by omega)
        exact .inr ⟨by omega, by omega⟩
    have eq1 : g * (q - 1) = g * q - g := by rw [Int.mul_sub, Int.mul_one]
    by_cases c : s ≤ r
    · by_cases c2 : s = r
      · rw [if_pos c2, (div_eq (x := (n : Int) - s) (q := q) (r := 0) hg (by omega) (by omega) hg).1]
        by_cases c3 : s < n
        · rw [if_pos c3, (div_eq (x := (n : Int) - 1 - s) (q := q - 1) (r := g - 1) hg (by omega) (by omega) (by omega)).1, if_pos (by omega)]
          omega
        · rw [if_neg c3, if_pos (by omega)]
          omega
      · rw [if_neg c2, (div_eq (x := (n : Int) - s) (q := q) (r := r - s) hg (by omega) (by omega) (by omega)).1]
        rw [if_pos (show s < (n : Int) by omega), (div_eq (x := (n : Int) - 1 - s) (q := q) (r := r - 1 - s) hg (by omega) (by omega) (by omega)).1, if_pos (by omega)]
        omega
    · rw [if_neg (show ¬ s = r by omega)]
      by_cases c3 : s < n
      · rw [if_pos c3, if_pos (show s < (n : Int) + 1 by omega), (div_eq (x := (n : Int) - s) (q := q - 1) (r := g + r - s) hg (by omega) (by omega) (by omega)).1,
          (div_eq (x := (n : Int) - 1 - s) (q := q - 1) (r := g + r - 1 - s) hg (by omega) (by omega) (by omega)).1]
        omega
      · rw [if_neg c3, if_neg (show ¬ s < (n : Int) + 1 by omega)]
        rfl
/-- of a whole round just what is told by divisors -/
theorem cnt_round {a b w h : Int} (ha : 0 ≤ a) (hw : 0 < w) (h0 : 0 ≤ h) (h1 : h < w) :
    cnt a b w h (w / G a w).toNat = if b % G a w ≤ h then (h - b % G a w) / G a w + 1 else 0 := by
  have gp := G_pos (a := a) hw
  have e : ∀ t : Nat, (if (a * (t : Int) + b) % w ≤ h then (1 : Int) else 0) = S (fun r => if (a * (t : Int) + b) % w = (r : Int) then 1 else 0) (h + 1).toNat := fun t => by
    have r0 := Int.emod_nonneg (a * (t : Int) + b) (show w ≠ 0 by omega)
    generalize (a * (t : Int) + b) % w = y at *
    by_cases c : y ≤ h
    · rw [if_pos c, S_one (k := y.toNat) (fun i _ ne => if_neg (by omega)) (by omega), if_pos (by omega)]
    · rw [if_neg c, S_none fun i hi => if_neg (by omega)]
  unfold cnt
  rw [S_congr (fun t _ => e t), S_swap]
  rw [S_congr (g := fun r => if b % G a w = (r : Int) % G a w then (1 : Int) else 0) (fun r hr => one_t ha hw (by omega) (by omega))]
  rw [cnt_rest gp (Int.emod_nonneg _ (by omega)) (Int.emod_lt_of_pos _ gp)]
  generalize b % G a w = s
  have e2 : (((h + 1).toNat : Nat) : Int) = h + 1 := by omega
  rw [e2]
  have e3 : h + 1 - 1 - s = h - s := by omega
  rw [e3]
  by_cases c : s ≤ h
  · rw [if_pos c, if_pos (by omega)]
  · rw [if_neg c, if_neg (by omega)]
end NT
/-! ladders of questions -/
namespace NT
structure Q4 where
  a : Int
  m : Int
  lo : Int
  hi : Int
structure Q4.Ok (q : Q4) : Prop where
  a0 : 0 ≤ q.a
  am : q.a < q.m
  l0 : 0 ≤ q.lo
  lh : q.lo ≤ q.hi
  hm : q.hi < q.m
def Sol (q : Q4) (t : Int) : Prop := 0 ≤ t ∧ q.lo ≤ (q.a * t) % q.m ∧ (q.a * t) % q.m ≤ q.hi
def IsAns (q : Q4) : Option Int → Prop
  | none => ∀ t, ¬ Sol q t
  | some t => Sol q t ∧ ∀ u, Sol q u → t ≤ u
theorem ans_uniq {q : Q4} {o p : Option Int} (h : IsAns q o) (k : IsAns q p) : o = p := by
  cases o with
  | none =>
    cases p with
    | none => rfl
    | some t => exact absurd k.1 (h t)
  | some s =>
    cases p with
    | none => exact absurd h.1 (k s)
    | some t =>
      have := h.2 t k.1
      have := k.2 s h.1
      rw [show s = t by omega]
theorem ans_bd {q : Q4} (ok : q.Ok) {t : Int} (h : IsAns q (some t)) : 0 ≤ t ∧ t < q.m := by
  obtain ⟨⟨h0, h1, h2⟩, h3⟩ := h
  refine ⟨h0, ?_⟩
  rcases Int.lt_or_le t q.m with c | c
  · exact c
  · have : Sol q (t - q.m) := by
      have e : (q.a * (t - q.m)) % q.m = (q.a * t) % q.m := by
        rw [Int.mul_sub, Int.sub_mul_emod_self_right]
      exact ⟨by omega, by rw [e]; exact h1, by rw [e]; exact h2⟩
    have := h3 _ this
    have := ok.a0
    have := ok.am
    omega
/-- the least number by which a step is multiplied to be at least a bound -/
def ceil (a b : Int) : Int := (b + a - 1) / a
theorem ceil_bd {a b : Int} (ha : 0 < a) : b ≤ a * ceil a b ∧ a * (ceil a b - 1) < b := by
  unfold ceil
  have h := mod_div (b + a - 1) a
  have r0 := Int.emod_nonneg (b + a - 1) (show a ≠ 0 by omega)
  have r1 := Int.emod_lt_of_pos (b + a - 1) ha
  rw [Int.mul_sub, Int.mul_one]
  omega
theorem ceil_uniq {a b c : Int} (ha : 0 < a) (h1 : b ≤ a * c) (h2 : a * (c - 1) < b) : ceil a b = c := by
  obtain ⟨k1, k2⟩ := ceil_bd (a := a) (b := b) ha
  have e1 : a * (ceil a b - 1) < a * c := by omega
  have e2 : a * (c - 1) < a * ceil a b := by omega
  have := Int.lt_of_mul_lt_mul_left e1 (by omega)
  have := Int.lt_of_mul_lt_mul_left e2 (by omega)
  omega
theorem ceil_nonneg {a b : Int} (ha : 0 < a) (hb : 0 ≤ b) : 0 ≤ ceil a b := Int.ediv_nonneg (by omega) (by omega)
theorem ceil_le {a b : Int} (ha : 0 < a) (hb : 0 ≤ b) : ceil a b ≤ b := by
  obtain ⟨h1, h2⟩ := ceil_bd (a := a) (b := b) ha
  rcases Int.lt_or_le 0 (ceil a b) with c | c
  · have : 1 * (ceil a b - 1) ≤ a * (ceil a b - 1) := Int.mul_le_mul_of_nonneg_right (by omega) (by omega)
    omega
  · omega
def Q4.plain (q : Q4) : Prop := q.lo = 0 ∨ q.a = 0 ∨ ceil q.a q.lo * q.a ≤ q.hi
instance (q : Q4) : Decidable q.plain := by unfold Q4.plain; infer_instance
def Q4.pa (q : Q4) : Option Int := if q.lo = 0 then some 0 else if q.a = 0 then none else some (ceil q.a q.lo)
theorem ans_plain {q : Q4} (ok : q.Ok) (p : q.plain) : IsAns q q.pa := by
  obtain ⟨a0, am, l0, lh, hm⟩ := ok
  unfold Q4.pa
  by_cases c1 : q.lo = 0
  · rw [if_pos c1]
    refine ⟨⟨Int.le_refl _, ?_, ?_⟩, fun u hu => hu.1⟩
    · rw [Int.mul_zero, Int.zero_emod]; omega
    · rw [Int.mul_zero, Int.zero_emod]; omega
  · rw [if_neg c1]
    by_cases c2 : q.a = 0
    · rw [if_pos c2]
      intro t ht
      have := ht.2.1
      rw [c2, Int.zero_mul, Int.zero_emod] at this
      omega
    · rw [if_neg c2]
      have p' : ceil q.a q.lo * q.a ≤ q.hi := by
        rcases p with p | p | p
        · exact absurd p c1
        · exact absurd p c2
        · exact p
      have ha : 0 < q.a := by omega
      obtain ⟨k1, k2⟩ := ceil_bd (a := q.a) (b := q.lo) ha
      have k0 := ceil_nonneg (a := q.a) (b := q.lo) ha l0
      rw [Int.mul_comm] at p'
      have e : (q.a * ceil q.a q.lo) % q.m = q.a * ceil q.a q.lo := Int.emod_eq_of_lt (by omega) (by omega)
      refine ⟨⟨k0, by rw [e]; exact k1, by rw [e]; exact p'⟩, fun u hu => ?_⟩
      rcases Int.lt_or_le u (ceil q.a q.lo) with c | c
      · have h1 : q.a * u ≤ q.a * (ceil q.a q.lo - 1) := Int.mul_le_mul_of_nonneg_left (by omega) (by omega)
        have h0 : 0 ≤ q.a * u := Int.mul_nonneg (by omega) hu.1
        have := hu.2.1
        rw [Int.emod_eq_of_lt h0 (by omega)] at this
        omega
      · exact c
def Q4.behind (q : Q4) : Q4 := ⟨q.m % q.a, q.a, (-q.hi) % q.a, (-q.lo) % q.a⟩
def Q4.behind2 (q : Q4) : Q4 := ⟨(-q.m) % q.a, q.a, q.lo % q.a, q.hi % q.a⟩
/-- no multiple of a lies in it -/
structure Q4.Gap (q : Q4) (c : Int) : Prop where
  ap : 0 < q.a
  l : q.a * (c - 1) < q.lo
  h : q.hi < q.a * c
theorem gap_of {q : Q4} (ok : q.Ok) (np : ¬ q.plain) : q.Gap (ceil q.a q.lo) := by
  unfold Q4.plain at np
  rw [not_or, not_or] at np
  obtain ⟨n1, n2, n3⟩ := np
  have ha : 0 < q.a := by have := ok.a0; omega
  obtain ⟨k1, k2⟩ := ceil_bd (a := q.a) (b := q.lo) ha
  exact ⟨ha, k2, by rw [Int.mul_comm]; omega⟩
theorem neg_mod {q : Q4} {c r : Int} (g : q.Gap c) (h1 : q.lo ≤ r) (h2 : r ≤ q.hi) : (-r) % q.a = q.a * c - r := by
  have := g.ap
  have := g.l
  have := g.h
  have e : q.a * (c - 1) = q.a * c - q.a := by rw [Int.mul_sub, Int.mul_one]
  exact (div_eq (x := -r) (q := -c) (r := q.a * c - r) (m := q.a) (by omega) (by rw [Int.mul_neg]; omega) (by omega) (by omega)).2
theorem pos_mod {q : Q4} {c r : Int} (g : q.Gap c) (h1 : q.lo ≤ r) (h2 : r ≤ q.hi) : r % q.a = r - q.a * (c - 1) := by
  have := g.ap
  have := g.l
  have := g.h
  have e : q.a * (c - 1) = q.a * c - q.a := by rw [Int.mul_sub, Int.mul_one]
  exact (div_eq (x := r) (q := c - 1) (r := r - q.a * (c - 1)) (m := q.a) (by omega) (by omega) (by omega) (by omega)).2
theorem behind_ok {q : Q4} (ok : q.Ok) {c : Int} (g : q.Gap c) : q.behind.Ok := by
  have e1 := neg_mod g ok.lh (Int.le_refl _)
  have e2 := neg_mod g (Int.le_refl _) ok.lh
  have := g.ap
  have := g.l
  have := g.h
  have := ok.lh
  have e : q.a * (c - 1) = q.a * c - q.a := by rw [Int.mul_sub, Int.mul_one]
  have r0 := Int.emod_nonneg q.m (show q.a ≠ 0 by omega)
  have r1 := Int.emod_lt_of_pos q.m g.ap
  refine ⟨r0, r1, ?_, ?_, ?_⟩
  · show 0 ≤ (-q.hi) % q.a
    omega
  · show (-q.hi) % q.a ≤ (-q.lo) % q.a
    omega
  · show (-q.lo) % q.a < q.a
    omega
theorem behind2_ok {q : Q4} (ok : q.Ok) {c : Int} (g : q.Gap c) : q.behind2.Ok := by
  have e1 := pos_mod g ok.lh (Int.le_refl _)
  have e2 := pos_mod g (Int.le_refl _) ok.lh
  have := g.ap
  have := g.l
  have := g.h
  have := ok.lh
  have e : q.a * (c - 1) = q.a * c - q.a := by rw [Int.mul_sub, Int.mul_one]
  have r0 := Int.emod_nonneg (-q.m) (show q.a ≠ 0 by omega)
  have r1 := Int.emod_lt_of_pos (-q.m) g.ap
  refine ⟨r0, r1, ?_, ?_, ?_⟩
  · show 0 ≤ q.lo % q.a
    omega
  · show q.lo % q.a ≤ q.hi % q.a
    omega
  · show q.hi % q.a < q.a
    omega
/-- a solution leads to one of that behind it -/
theorem sol_behind {q : Q4} (ok : q.Ok) {c : Int} (g : q.Gap c) {t : Int} (h : Sol q t) : Sol q.behind (q.a * t / q.m) ∧ q.lo + q.m * (q.a * t / q.m) ≤ q.a * t := by
  obtain ⟨h0, h1, h2⟩ := h
  have ap := g.ap
  have mp : 0 < q.m := by have := ok.am; omega
  have hq := mod_div (q.a * t) q.m
  have U0 : 0 ≤ q.a * t / q.m := Int.ediv_nonneg (Int.mul_nonneg (by omega) h0) (by omega)
  generalize q.a * t / q.m = U at *
  generalize hr : (q.a * t) % q.m = r at *
  have e : (q.m % q.a * U) % q.a = (-r) % q.a := by
    rw [Int.mul_emod, Int.emod_emod, ← Int.mul_emod]
    have : q.m * U = -r + q.a * t := by omega
    rw [this, Int.add_mul_emod_self_left]
  have n := neg_mod g h1 h2
  have n1 := neg_mod g ok.lh (Int.le_refl _)
  have n2 := neg_mod g (Int.le_refl _) ok.lh
  refine ⟨⟨U0, ?_, ?_⟩, by omega⟩
  · show (-q.hi) % q.a ≤ (q.m % q.a * U) % q.a
    rw [e]; omega
  · show (q.m % q.a * U) % q.a ≤ (-q.lo) % q.a
    rw [e]; omega
theorem behind_sol {q : Q4} (ok : q.Ok) {c : Int} (g : q.Gap c) {u : Int} (h : Sol q.behind u) : Sol q (ceil q.a (q.lo + q.m * u)) := by
  obtain ⟨h0, h1, h2⟩ := h
  have h1 : (-q.hi) % q.a ≤ (q.m % q.a * u) % q.a := h1
  have h2 : (q.m % q.a * u) % q.a ≤ (-q.lo) % q.a := h2
  have ap := g.ap
  have mp : 0 < q.m := by have := ok.am; omega
  have n1 := neg_mod g ok.lh (Int.le_refl _)
  have n2 := neg_mod g (Int.le_refl _) ok.lh
  have e : (q.m % q.a * u) % q.a = (q.m * u) % q.a := by rw [Int.mul_emod, Int.emod_emod, ← Int.mul_emod]
  rw [e] at h1 h2
  have hy := mod_div (q.m * u) q.a
  have y0 := Int.emod_nonneg (q.m * u) (show q.a ≠ 0 by omega)
  generalize q.m * u / q.a = d at *
  generalize (q.m * u) % q.a = y at *
  -- a * (c + d) = m u + lo + (x - y)
  have big : q.a * (c + d) = q.m * u + (q.a * c - y) := by rw [Int.mul_add]; omega
  have gl := g.l
  have gh := g.h
  have e1 : q.a * (c - 1) = q.a * c - q.a := by rw [Int.mul_sub, Int.mul_one]
  have ce : ceil q.a (q.lo + q.m * u) = c + d := ceil_uniq ap (by omega) (by rw [Int.mul_sub, Int.mul_one]; omega)
  have lo0 := ok.l0
  have hm := ok.hm
  have mu : 0 ≤ q.m * u := Int.mul_nonneg (by omega) h0
  rw [ce]
  have em : (q.a * (c + d)) % q.m = q.a * c - y := by
    rw [big]
    exact (div_eq (x := q.m * u + (q.a * c - y)) (q := u) (r := q.a * c - y) mp (by omega) (by omega) (by omega)).2
  refine ⟨?_, by rw [em]; omega, by rw [em]; omega⟩
  rw [← ce]
  exact ceil_nonneg ap (by omega)
theorem ceil_mono {a b c : Int} (ha : 0 < a) (h : b ≤ a * c) : ceil a b ≤ c := by
  obtain ⟨k1, k2⟩ := ceil_bd (a := a) (b := b) ha
  have e1 : a * (ceil a b - 1) < a * c := by omega
  have := Int.lt_of_mul_lt_mul_left e1 (by omega)
  omega
theorem ans_behind {q : Q4} (ok : q.Ok) {c : Int} (g : q.Gap c) {o : Option Int} (h : IsAns q.behind o) : IsAns q (o.map fun u => ceil q.a (q.lo + q.m * u)) := by
  have mp : 0 < q.m := by have := ok.am; have := ok.a0; omega
  cases o with
  | none => exact fun t ht => h _ (sol_behind ok g ht).1
  | some u =>
    refine ⟨behind_sol ok g h.1, fun t ht => ?_⟩
    obtain ⟨k1, k2⟩ := sol_behind ok g ht
    have := h.2 _ k1
    refine ceil_mono g.ap ?_
    have : q.m * u ≤ q.m * (q.a * t / q.m) := Int.mul_le_mul_of_nonneg_left this (by omega)
    omega
/-- the same, the other way about -/
theorem sol_behind2 {q : Q4} (ok : q.Ok) {c : Int} (g : q.Gap c) (u : Int) : Sol q.behind2 u ↔ Sol q.behind u := by
  have ap := g.ap
  have n1 := neg_mod g ok.lh (Int.le_refl _)
  have n2 := neg_mod g (Int.le_refl _) ok.lh
  have p1 := pos_mod g ok.lh (Int.le_refl _)
  have p2 := pos_mod g (Int.le_refl _) ok.lh
  have e1 : (q.m % q.a * u) % q.a = (q.m * u) % q.a := by rw [Int.mul_emod, Int.emod_emod, ← Int.mul_emod]
  have e2 : ((-q.m) % q.a * u) % q.a = (-(q.m * u)) % q.a := by rw [Int.mul_emod, Int.emod_emod, ← Int.mul_emod, Int.neg_mul]
  have hy := mod_div (q.m * u) q.a
  have y0 := Int.emod_nonneg (q.m * u) (show q.a ≠ 0 by omega)
  have y1 := Int.emod_lt_of_pos (q.m * u) ap
  have gl := g.l
  have gh := g.h
  have lh := ok.lh
  have e3 : q.a * (c - 1) = q.a * c - q.a := by rw [Int.mul_sub, Int.mul_one]
  have e4 : (-(q.m * u)) % q.a = if (q.m * u) % q.a = 0 then 0 else q.a - (q.m * u) % q.a := by
    generalize q.m * u / q.a = d at *
    generalize (q.m * u) % q.a = y at *
    by_cases c0 : y = 0
    · rw [if_pos c0]
      exact (div_eq (x := -(q.m * u)) (q := -d) (r := 0) ap (by rw [Int.mul_neg]; omega) (by omega) ap).2
    · rw [if_neg c0]
      exact (div_eq (x := -(q.m * u)) (q := -d - 1) (r := q.a - y) ap (by rw [Int.mul_sub, Int.mul_neg]; omega) (by omega) (by omega)).2
  unfold Sol
  show (0 ≤ u ∧ q.lo % q.a ≤ ((-q.m) % q.a * u) % q.a ∧ ((-q.m) % q.a * u) % q.a ≤ q.hi % q.a) ↔ (0 ≤ u ∧ (-q.hi) % q.a ≤ (q.m % q.a * u) % q.a ∧ (q.m % q.a * u) % q.a ≤ (-q.lo) % q.a)
  rw [e1, e2, e4]
  generalize (q.m * u) % q.a = y at *
  split <;> constructor <;> intro ⟨h0, h1, h2⟩ <;> refine ⟨h0, ?_, ?_⟩ <;> omega
theorem ans_iff {p q : Q4} (h : ∀ t, Sol p t ↔ Sol q t) (o : Option Int) : IsAns p o ↔ IsAns q o := by
  cases o with
  | none => exact ⟨fun k t ht => k t ((h t).2 ht), fun k t ht => k t ((h t).1 ht)⟩
  | some s => exact ⟨fun k => ⟨(h s).1 k.1, fun u hu => k.2 u ((h u).2 hu)⟩, fun k => ⟨(h s).2 k.1, fun u hu => k.2 u ((h u).1 hu)⟩⟩
theorem ans_behind2 {q : Q4} (ok : q.Ok) {c : Int} (g : q.Gap c) {o : Option Int} (h : IsAns q.behind2 o) : IsAns q (o.map fun u => ceil q.a (q.lo + q.m * u)) :=
  ans_behind ok g ((ans_iff (sol_behind2 ok g) o).1 h)
def Q4.flip (q : Q4) : Q4 := ⟨q.m - q.a, q.m, q.m - q.hi, q.m - q.lo⟩
theorem flip_ok {q : Q4} (ok : q.Ok) (h : 0 < q.lo) (ha : 0 < q.a) : q.flip.Ok := by
  obtain ⟨a0, am, l0, lh, hm⟩ := ok
  exact ⟨by show 0 ≤ q.m - q.a; omega, by show q.m - q.a < q.m; omega, by show 0 ≤ q.m - q.hi; omega, by show q.m - q.hi ≤ q.m - q.lo; omega, by show q.m - q.lo < q.m; omega⟩
theorem sol_flip {q : Q4} (ok : q.Ok) (h : 0 < q.lo) (t : Int) : Sol q.flip t ↔ Sol q t := by
  obtain ⟨a0, am, l0, lh, hm⟩ := ok
  have mp : 0 < q.m := by omega
  have hy := mod_div (q.a * t) q.m
  have y0 := Int.emod_nonneg (q.a * t) (show q.m ≠ 0 by omega)
  have y1 := Int.emod_lt_of_pos (q.a * t) mp
  have e4 : ((q.m - q.a) * t) % q.m = if (q.a * t) % q.m = 0 then 0 else q.m - (q.a * t) % q.m := by
    have e : (q.m - q.a) * t = q.m * t - q.a * t := Int.sub_mul ..
    rw [e]
    generalize q.a * t / q.m = d at *
    generalize (q.a * t) % q.m = y at *
    by_cases c0 : y = 0
    · rw [if_pos c0]
      exact (div_eq (x := q.m * t - q.a * t) (q := t - d) (r := 0) mp (by rw [Int.mul_sub]; omega) (by omega) mp).2
    · rw [if_neg c0]
      exact (div_eq (x := q.m * t - q.a * t) (q := t - d - 1) (r := q.m - y) mp (by rw [Int.mul_sub, Int.mul_sub]; omega) (by omega) (by omega)).2
  unfold Sol
  show (0 ≤ t ∧ q.m - q.hi ≤ ((q.m - q.a) * t) % q.m ∧ ((q.m - q.a) * t) % q.m ≤ q.m - q.lo) ↔ _
  rw [e4]
  generalize (q.a * t) % q.m = y at *
  split <;> constructor <;> intro ⟨h0, h1, h2⟩ <;> refine ⟨h0, ?_, ?_⟩ <;> omega
/-! ### the ladder -/
def Q4.step (q : Q4) (u : Int) : Int := ceil q.a (q.lo + q.m * u)
def rungs (q : Q4) : Nat → List Q4
  | 0 => [q]
  | n + 1 => if q.plain then [q] else q :: rungs q.behind n
/-- the ladder of a question -/
def lad (q : Q4) : List Q4 := rungs q q.a.toNat
theorem rungs_enough : ∀ (n k : Nat) (q : Q4), q.Ok → q.a.toNat ≤ n → n ≤ k → rungs q n = rungs q k
  | 0, 0, q, _, _, _ => rfl
  | 0, k + 1, q, ok, h, _ => by
    have : q.a = 0 := by have := ok.a0; omega
    have p : q.plain := .inr (.inl this)
    rw [rungs, rungs, if_pos p]
  | n + 1, 0, q, _, _, h => by omega
  | n + 1, k + 1, q, ok, h, hk => by
    rw [rungs, rungs]
    by_cases p : q.plain
    · rw [if_pos p, if_pos p]
    · rw [if_neg p, if_neg p]
      have g := gap_of ok p
      have ok' := behind_ok ok g
      have lt : q.behind.a < q.a := ok'.am
      have := ok'.a0
      rw [rungs_enough n k q.behind ok' (by omega) (by omega)]
theorem lad_plain {q : Q4} (p : q.plain) : lad q = [q] := by
  unfold lad
  cases q.a.toNat with
  | zero => rfl
  | succ n => rw [rungs, if_pos p]
theorem lad_next {q : Q4} (ok : q.Ok) (p : ¬ q.plain) : lad q = q :: lad q.behind := by
  have g := gap_of ok p
  have ok' := behind_ok ok g
  have lt : q.behind.a < q.a := ok'.am
  have := ok'.a0
  unfold lad
  obtain ⟨n, hn⟩ : ∃ n, q.a.toNat = n + 1 := ⟨q.a.toNat - 1, by have := g.ap; omega⟩
  rw [hn, rungs, if_neg p]
  rw [rungs_enough q.behind.a.toNat n q.behind ok' (Nat.le_refl _) (by omega)]
theorem lad_ne (q : Q4) : lad q ≠ [] := by
  unfold lad
  cases q.a.toNat with
  | zero => simp [rungs]
  | succ n =>
    rw [rungs]
    split <;> simp
/-- each rung, but the last one, is no plain question; the one behind it is next -/
theorem lad_split : ∀ (n : Nat) (q : Q4), q.Ok → q.a.toNat ≤ n → ∀ (pre : List Q4) (p : Q4) (t : List Q4), lad q = pre ++ p :: t → p.Ok ∧ p.m ≤ q.m ∧ (t = [] ∧ p.plain ∨ ¬ p.plain ∧ t = lad p.behind)
  | n, q, ok, hn, pre, p, t, e => by
    by_cases c : q.plain
    · rw [lad_plain c] at e
      cases pre with
      | nil =>
        rw [List.nil_append] at e
        injection e with e1 e2
        subst e1
        exact ⟨ok, Int.le_refl _, .inl ⟨e2.symm, c⟩⟩
      | cons x r =>
        rw [List.cons_append] at e
        injection e with e1 e2
        have := congrArg List.length e2
        simp at this
    · rw [lad_next ok c] at e
      have g := gap_of ok c
      have ok' := behind_ok ok g
      have lt : q.behind.a < q.a := ok'.am
      have := ok'.a0
      cases pre with
      | nil =>
        rw [List.nil_append] at e
        injection e with e1 e2
        subst e1
        exact ⟨ok, Int.le_refl _, .inr ⟨c, e2.symm⟩⟩
      | cons x r =>
        rw [List.cons_append] at e
        injection e with e1 e2
        cases n with
        | zero => have := g.ap; omega
        | succ n =>
          have ih := lad_split n q.behind ok' (by omega) r p t e2
          have : q.behind.m ≤ q.m := by show q.a ≤ q.m; have := ok.am; omega
          exact ⟨ih.1, by omega, ih.2.2⟩
/-- links from a question to another one, their steps in a row -/
inductive Lk (B : Int) (q : Q4) : List (Int × Int × Int) → Q4 → Prop
  | nil : q.Ok → Lk B q [] q
  | snoc {R : List (Int × Int × Int)} {p p' : Q4} {a m lo : Int} : Lk B q R p → (0 < a ∧ a ≤ B) → (0 ≤ m ∧ m ≤ B) → (0 ≤ lo ∧ lo ≤ B) → p'.Ok → p'.m ≤ B → (∀ o, IsAns p' o → IsAns p (o.map fun u => ceil a (lo + m * u))) → Lk B q (R ++ [(a, m, lo)]) p'
theorem Lk.ok {B : Int} {q p : Q4} {R : List (Int × Int × Int)} (h : Lk B q R p) : p.Ok := by
  cases h <;> assumption
/-- of a chain that ends in none -/
theorem Lk.none {B : Int} {q p : Q4} {R : List (Int × Int × Int)} (h : Lk B q R p) (k : IsAns p none) : IsAns q none := by
  induction h with
  | nil => exact k
  | snoc _ _ _ _ _ _ f ih => exact ih (f _ k)
theorem Lk.last {B : Int} {q p : Q4} {R : List (Int × Int × Int)} {a m lo : Int} (h : Lk B q (R ++ [(a, m, lo)]) p) : ∃ p', Lk B q R p' ∧ (0 < a ∧ a ≤ B) ∧ (0 ≤ m ∧ m ≤ B) ∧ (0 ≤ lo ∧ lo ≤ B) ∧ p.m ≤ B ∧ ∀ o, IsAns p o → IsAns p' (o.map fun u => ceil a (lo + m * u)) := by
  generalize hR : R ++ [(a, m, lo)] = R' at h
  cases h with
  | nil => simp at hR
  | @snoc R2 p1 p2 a' m' lo' h1 h2 h3 h4 h5 h6 h7 =>
    have := List.append_inj' hR rfl
    obtain ⟨e1, e2⟩ := this
    subst e1
    simp at e2
    obtain ⟨rfl, rfl, rfl⟩ := e2
    exact ⟨p1, h1, h2, h3, h4, h6, h7⟩
theorem Lk.of_nil {B : Int} {q p : Q4} (h : Lk B q [] p) : p = q := by
  generalize hR : ([] : List (Int × Int × Int)) = R at h
  cases h with
  | nil => rfl
  | snoc => simp at hR
/-! ### how long a ladder is -/
def fib : Nat → Nat
  | 0 => 0
  | 1 => 1
  | n + 2 => fib n + fib (n + 1)
theorem fib_lad : ∀ (n : Nat) (q : Q4), q.Ok → n + 1 ≤ (lad q).length → (1 ≤ n → (fib (n + 2) : Int) ≤ q.a) ∧ (fib (n + 3) : Int) ≤ q.m + 1 ∧ (1 ≤ n → (fib (n + 3) : Int) ≤ q.m)
  | 0, q, ok, _ => by
    have := ok.a0; have := ok.am
    exact ⟨fun h => by omega, by show ((2 : Nat) : Int) ≤ q.m + 1; omega, fun h => by omega⟩
  | n + 1, q, ok, h => by
    by_cases c : q.plain
    · rw [lad_plain c] at h
      simp at h
    · have g := gap_of ok c
      have ok' := behind_ok ok g
      rw [lad_next ok c, List.length_cons] at h
      obtain ⟨h1, h2, h3⟩ := fib_lad n q.behind ok' (by omega)
      have a1 : q.behind.m = q.a := rfl
      have a2 : q.behind.a = q.m % q.a := rfl
      -- a is 2 at least
      have a3 : 2 ≤ q.a := by
        have gl := g.l; have gh := g.h; have ap := g.ap; have lh := ok.lh
        rcases Int.lt_or_le 1 q.a with z | z
        · omega
        · have : q.a = 1 := by omega
          rw [this] at gl gh
          omega
      have am := ok.am
      have hq := mod_div q.m q.a
      have q1 : 1 ≤ q.m / q.a := by
        rw [Int.le_ediv_iff_mul_le g.ap]; omega
      have q2 : q.a * 1 ≤ q.a * (q.m / q.a) := Int.mul_le_mul_of_nonneg_left q1 (by omega)
      have f1 : fib (n + 1 + 3) = fib (n + 2) + fib (n + 3) := rfl
      cases n with
      | zero =>
        refine ⟨fun _ => ?_, ?_, fun _ => ?_⟩
        · show ((2 : Nat) : Int) ≤ q.a; omega
        · show ((3 : Nat) : Int) ≤ q.m + 1; omega
        · show ((3 : Nat) : Int) ≤ q.m; omega
      | succ n =>
        have k1 := h1 (by omega)
        have k3 := h3 (by omega)
        rw [a2] at k1
        rw [a1] at k3
        have : (fib (n + 1 + 1 + 3) : Int) ≤ q.m := by rw [f1]; omega
        exact ⟨fun _ => k3, by omega, fun _ => this⟩
theorem fib_mono (n : Nat) : fib n ≤ fib (n + 1) := by
  cases n with
  | zero => decide
  | succ n => show fib (n + 1) ≤ fib n + fib (n + 1); omega
theorem fib_ten : ∀ d : Nat, 10 ^ (d + 1) ≤ fib (5 * (d + 1) + 2)
  | 0 => by decide
  | d + 1 => by
    have ih := fib_ten d
    have e : 5 * (d + 1 + 1) + 2 = (5 * (d + 1) + 2) + 5 := by omega
    rw [e]
    generalize hk : 5 * (d + 1) + 2 = k at *
    obtain ⟨j, rfl⟩ : ∃ j, k = j + 1 := ⟨k - 1, by omega⟩
    have f5 : fib (j + 1 + 5) = 5 * fib j + 8 * fib (j + 1) := by
      simp only [show j + 1 + 5 = j + 6 from rfl]
      simp only [fib]
      omega
    have f1 : fib (j + 1) ≤ 2 * fib j := by
      cases j with
      | zero => omega
      | succ i =>
        have := fib_mono i
        show fib i + fib (i + 1) ≤ 2 * fib (i + 1)
        omega
    rw [f5, Nat.pow_succ]
    omega
/-- at most as many questions as the modulus has figures, times 5, and one -/
theorem lad_len {q : Q4} (ok : q.Ok) {d : Nat} (h : q.m < 10 ^ d) : (lad q).length ≤ 5 * d + 1 := by
  have mp : 0 < q.m := by have := ok.a0; have := ok.am; omega
  cases d with
  | zero => simp at h; omega
  | succ d =>
    rcases Nat.lt_or_ge (5 * (d + 1) + 1) (lad q).length with c | c
    · obtain ⟨_, _, h3⟩ := fib_lad (5 * (d + 1) + 1) q ok (by omega)
      have h3 := h3 (by omega)
      have h4 := fib_ten d
      have h5 : fib (5 * (d + 1) + 2) ≤ fib (5 * (d + 1) + 1 + 3) := Nat.le_trans (fib_mono _) (fib_mono _)
      have h6 : (10 : Int) ^ (d + 1) = ((10 ^ (d + 1) : Nat) : Int) := by simp
      rw [h6] at h
      omega
    · exact c
theorem lad_head {q p : Q4} {t : List Q4} (h : lad q = p :: t) : p = q := by
  unfold lad at h
  cases hn : q.a.toNat with
  | zero => rw [hn] at h; injection h with a; exact a.symm
  | succ n =>
    rw [hn, rungs] at h
    split at h <;> (injection h with a; exact a.symm)
def Q4.tri (q : Q4) : Int × Int × Int := (q.a, q.m, q.lo)
theorem lad_lk {B : Int} {x : Q4} (ok : x.Ok) (hB : x.m ≤ B) : ∀ (n : Nat) (pre : List Q4) (p : Q4) (t : List Q4), pre.length = n → lad x = pre ++ p :: t → Lk B x (pre.map Q4.tri) p
  | 0, pre, p, t, hn, e => by
    have : pre = [] := List.length_eq_zero_iff.1 hn
    subst this
    rw [List.nil_append] at e
    rw [lad_head e]
    exact .nil ok
  | n + 1, pre, p, t, hn, e => by
    have hne : pre ≠ [] := fun z => by rw [z] at hn; simp at hn
    obtain ⟨pre2, r, rfl⟩ : ∃ a b, pre = a ++ [b] := ⟨pre.dropLast, pre.getLast hne, (List.dropLast_concat_getLast hne).symm⟩
    rw [List.append_assoc] at e
    have e' : lad x = pre2 ++ r :: (p :: t) := e
    obtain ⟨rok, rm, rr⟩ := lad_split _ x ok (Nat.le_refl _) pre2 r (p :: t) e'
    rcases rr with ⟨h, _⟩ | ⟨np, h⟩
    · cases h
    · have hp : p = r.behind := lad_head h.symm
      have g := gap_of rok np
      have ok' := behind_ok rok g
      have ih := lad_lk ok hB n pre2 r (p :: t) (by simpa using hn) e'
      rw [List.map_append]
      subst hp
      have am := rok.am
      have lh := rok.lh
      have hm := rok.hm
      exact .snoc ih ⟨g.ap, by omega⟩ ⟨by have := g.ap; omega, by omega⟩ ⟨rok.l0, by omega⟩ ok' (by show r.a ≤ B; omega) fun o ho => ans_behind rok g ho
theorem ans_least {q : Q4} : ∀ (n : Nat), Sol q n → ∃ t, IsAns q (some t) := by
  intro n
  induction n using Nat.strongRecOn with
  | _ n ih =>
    intro h
    by_cases c : ∃ u : Int, Sol q u ∧ u < n
    · obtain ⟨u, hu, lt⟩ := c
      have := hu.1
      exact ih u.toNat (by omega) (by rw [show ((u.toNat : Nat) : Int) = u by omega]; exact hu)
    · refine ⟨n, h, fun u hu => ?_⟩
      rcases Int.lt_or_le u n with z | z
      · exact absurd ⟨u, hu, z⟩ c
      · exact z
theorem ans_ex (q : Q4) : ∃ o, IsAns q o := by
  by_cases c : ∃ t, Sol q t
  · obtain ⟨t, ht⟩ := c
    have := ht.1
    obtain ⟨s, hs⟩ := ans_least t.toNat (by rw [show ((t.toNat : Nat) : Int) = t by omega]; exact ht)
    exact ⟨some s, hs⟩
  · exact ⟨none, fun t ht => c ⟨t, ht⟩⟩
theorem S_ex {f : Nat → Int} : ∀ {n : Nat}, S f n ≠ 0 → ∃ i, i < n ∧ f i ≠ 0
  | 0, h => absurd rfl h
  | n + 1, h => by
    by_cases c : f n = 0
    · rw [S, c] at h
      obtain ⟨i, hi, hf⟩ := S_ex (n := n) (fun z => h (by rw [z]; rfl))
      exact ⟨i, by omega, hf⟩
    · exact ⟨n, by omega, c⟩
/-- a question without an answer has a divisor that bars it -/
theorem ans_none {q : Q4} (ok : q.Ok) (h : IsAns q none) : q.hi < ceil (G q.a q.m) q.lo * G q.a q.m := by
  obtain ⟨a0, am, l0, lh, hm⟩ := ok
  have mp : 0 < q.m := by omega
  have gp := G_pos (a := q.a) mp
  obtain ⟨k1, k2⟩ := ceil_bd (b := q.lo) gp
  rcases Int.lt_or_le q.hi (ceil (G q.a q.m) q.lo * G q.a q.m) with c | c
  · exact c
  · exfalso
    rw [Int.mul_comm] at c
    have one := one_t (a := q.a) (b := 0) (w := q.m) (r := G q.a q.m * ceil (G q.a q.m) q.lo) a0 mp (by omega) (by omega)
    rw [Int.zero_emod, Int.mul_emod_right, if_pos rfl] at one
    obtain ⟨t, ht, hf⟩ := S_ex (f := fun t => if (q.a * (t : Int) + 0) % q.m = G q.a q.m * ceil (G q.a q.m) q.lo then (1 : Int) else 0) (n := (q.m / G q.a q.m).toNat) (by rw [one]; decide)
    by_cases e : (q.a * (t : Int) + 0) % q.m = G q.a q.m * ceil (G q.a q.m) q.lo
    · rw [Int.add_zero] at e
      exact h t ⟨by omega, by rw [e]; exact k1, by rw [e]; exact c⟩
    · exact hf (if_neg e)
theorem repr_pow {i : Int} (h : 0 ≤ i) : i < 10 ^ (toString i).length := by
  obtain ⟨n, rfl⟩ : ∃ n : Nat, i = n := ⟨i.toNat, by omega⟩
  have e : toString (n : Int) = Nat.repr n := rfl
  rw [e]
  have l0 : 0 < (Nat.repr n).length := by
    rcases Nat.eq_zero_or_pos (Nat.repr n).length with z | z
    · have h1 : (Nat.repr n).length ≤ 1 := by omega
      have h2 := (Nat.length_repr_le_iff (n := n) (k := 1) (by decide)).1 h1
      have : n = 0 ∨ n = 1 ∨ n = 2 ∨ n = 3 ∨ n = 4 ∨ n = 5 ∨ n = 6 ∨ n = 7 ∨ n = 8 ∨ n = 9 := by omega
      rcases this with rfl | rfl | rfl | rfl | rfl | rfl | rfl | rfl | rfl | rfl <;> revert z <;> decide
    · exact z
  have h := (Nat.length_repr_le_iff (n := n) l0).1 (Nat.le_refl _)
  have e2 : (10 : Int) ^ (Nat.repr n).length = ((10 ^ (Nat.repr n).length : Nat) : Int) := by simp
  rw [e2]
  exact_mod_cast h
end NT
/-! rests of any sign; what two runs share -/
namespace NT
def g2 (a b : Int) : Int := ((Int.gcd a b : Nat) : Int)
theorem g2_bez (a b : Int) : ∃ x y : Int, a * x + b * y = g2 a b := by
  obtain ⟨x, y, e⟩ := bezout a.natAbs b.natAbs
  have h : ∀ z : Int, ∃ s : Int, ((z.natAbs : Nat) : Int) = z * s := fun z => by
    rcases Int.natAbs_eq z with h | h
    · exact ⟨1, by omega⟩
    · exact ⟨-1, by omega⟩
  obtain ⟨s, hs⟩ := h a
  obtain ⟨t, ht⟩ := h b
  refine ⟨s * x, t * y, ?_⟩
  have : g2 a b = ((Nat.gcd a.natAbs b.natAbs : Nat) : Int) := rfl
  rw [this, ← e, hs, ht]
  grind
theorem g2_pos {a b : Int} (h : 0 < b) : 0 < g2 a b := by
  have : 0 < Int.gcd a b := Nat.gcd_pos_of_pos_right _ (by omega)
  show (0 : Int) < ((Int.gcd a b : Nat) : Int)
  omega
theorem g2_l (a b : Int) : g2 a b ∣ a := Int.gcd_dvd_left ..
theorem g2_r (a b : Int) : g2 a b ∣ b := Int.gcd_dvd_right ..
theorem g2_le {a b : Int} (h : 0 < b) : g2 a b ≤ b := Int.le_of_dvd h (g2_r a b)
/-- m / g, times g -/
theorem g2_div {a b : Int} (h : 0 < b) : g2 a b * (b / g2 a b) = b ∧ 0 < b / g2 a b ∧ b / g2 a b ≤ b := by
  have p := g2_pos (a := a) h
  refine ⟨Int.mul_ediv_cancel' (g2_r a b), Int.ediv_pos_of_pos_of_dvd h (by omega) (g2_r a b), Int.ediv_le_self _ (by omega)⟩
theorem g2_divl (a : Int) {b : Int} (h : 0 < b) : g2 a b * (a / g2 a b) = a := Int.mul_ediv_cancel' (g2_l a b)
theorem g2_cop {a b : Int} (h : 0 < b) : g2 (a / g2 a b) (b / g2 a b) = 1 := by
  obtain ⟨x, y, e⟩ := g2_bez a b
  have p := g2_pos (a := a) h
  have ha := g2_divl a h
  obtain ⟨hb, bp, _⟩ := g2_div (a := a) h
  generalize hg : g2 a b = g at *
  generalize a / g = a' at *
  generalize b / g = b' at *
  have one : a' * x + b' * y = 1 := by
    have : g * (a' * x + b' * y) = g * 1 := by rw [Int.mul_add, ← Int.mul_assoc, ← Int.mul_assoc, ha, hb, e, Int.mul_one]
    exact Int.eq_of_mul_eq_mul_left (by omega) this
  have d : g2 a' b' ∣ 1 := by
    rw [← one]
    exact Int.dvd_add (Int.dvd_mul_of_dvd_left (g2_l a' b')) (Int.dvd_mul_of_dvd_left (g2_r a' b'))
  have q := g2_pos (a := a') bp
  have := Int.le_of_dvd (by decide) d
  omega
theorem dvd_g2 {a m x : Int} (hm : 0 < m) (h : m ∣ a * x) : m / g2 a m ∣ x := by
  obtain ⟨p, q, e⟩ := g2_bez a m
  have gp := g2_pos (a := a) hm
  obtain ⟨hb, bp, _⟩ := g2_div (a := a) hm
  generalize g2 a m = g at *
  generalize m / g = m' at *
  obtain ⟨k, hk⟩ := h
  refine ⟨k * p + q * x, ?_⟩
  have h1 : g * x = g * (m' * (k * p + q * x)) := by
    have : g * x = a * x * p + m * q * x := by rw [← e]; grind
    rw [this, hk, ← hb]
    grind
  exact Int.eq_of_mul_eq_mul_left (by omega) h1
theorem g2_dvd {a m x : Int} (hm : 0 < m) (h : m / g2 a m ∣ x) : m ∣ a * x := by
  obtain ⟨hb, bp, _⟩ := g2_div (a := a) hm
  have ha := g2_divl a hm
  generalize g2 a m = g at *
  generalize m / g = m' at *
  obtain ⟨k, hk⟩ := h
  generalize a / g = a' at *
  refine ⟨a' * k, ?_⟩
  rw [hk, ← ha, ← hb]
  grind
/-! ### the inverse -/
structure Inv (v m i : Int) : Prop where
  lo : 0 ≤ i
  hi : i < m
  e : m ∣ v * i - 1
/-- what holds between two turns of Euclid's way -/
structure EuI (v m l r h o : Int) : Prop where
  l0 : 0 ≤ l
  r0 : 0 ≤ r
  lm : l ≤ m
  rm : r ≤ m
  hl : ∃ u, l = h * v + u * m
  hr : ∃ u, r = o * v + u * m
  g : g2 l r = g2 v m
  sg : (0 ≤ h ∧ o ≤ 0 ∧ h * r - o * l = m) ∨ (h ≤ 0 ∧ 0 ≤ o ∧ o * l - h * r = m)
  bh : -m ≤ h ∧ h ≤ m
  bo : -m ≤ o ∧ o ≤ m
theorem g2_swap (a b : Int) : g2 a b = g2 b a := by unfold g2; rw [Int.gcd_comm]
theorem g2_step (l r q : Int) : g2 r (l - q * r) = g2 l r := by
  have a : g2 r (l - q * r) ∣ g2 l r := by
    refine Int.dvd_coe_gcd ?_ (g2_l _ _)
    have := Int.dvd_add (g2_r r (l - q * r)) (Int.dvd_mul_of_dvd_right (g2_l r (l - q * r)) (b := q))
    rwa [Int.sub_add_cancel] at this
  have b : g2 l r ∣ g2 r (l - q * r) := Int.dvd_coe_gcd (g2_r _ _) (Int.dvd_sub (g2_l _ _) (Int.dvd_mul_of_dvd_right (g2_r _ _)))
  have := Int.natAbs_dvd_natAbs.2 a
  have := Int.natAbs_dvd_natAbs.2 b
  have e := Nat.dvd_antisymm ‹(g2 r (l - q * r)).natAbs ∣ (g2 l r).natAbs› this
  unfold g2 at e ⊢
  rw [Int.natAbs_natCast, Int.natAbs_natCast] at e
  rw [e]
theorem eu_begin {v m : Int} (hm : 0 < m) : EuI v m (v % m) m 1 0 := by
  have r0 := Int.emod_nonneg v (show m ≠ 0 by omega)
  have r1 := Int.emod_lt_of_pos v hm
  have hq := mod_div v m
  refine ⟨r0, by omega, by omega, by omega, ⟨-(v / m), ?_⟩, ⟨1, by omega⟩, ?_, .inl ⟨by decide, by decide, by omega⟩, by omega, by omega⟩
  · rw [Int.neg_mul, Int.mul_comm (v / m)]; omega
  · rw [g2_swap (v % m) m]
    have := g2_step v m (v / m)
    have e : v - v / m * m = v % m := by rw [Int.mul_comm]; omega
    rw [e] at this
    exact this
theorem eu_turn {v m l r h o : Int} (hm : 0 < m) (I : EuI v m l r h o) (hr : r ≠ 0) : EuI v m r (l - l / r * r) o (h - l / r * o) ∧ l - l / r * r < r := by
  obtain ⟨l0, r0, lm, rm, ⟨u, hu⟩, ⟨u', hu'⟩, g, sg, bh, bo⟩ := I
  have rp : 0 < r := by omega
  have hq := mod_div l r
  have m0 := Int.emod_nonneg l hr
  have m1 := Int.emod_lt_of_pos l rp
  have q0 : 0 ≤ l / r := Int.ediv_nonneg l0 r0
  generalize l / r = q at *
  generalize l % r = z at *
  have ez : l - q * r = z := by rw [Int.mul_comm]; omega
  rw [ez]
  have go : g2 r z = g2 v m := by rw [← ez, g2_step, g]
  have key : (0 ≤ h ∧ o ≤ 0 → 0 ≤ h - q * o) ∧ (h ≤ 0 ∧ 0 ≤ o → h - q * o ≤ 0) := by
    refine ⟨fun ⟨a, b⟩ => ?_, fun ⟨a, b⟩ => ?_⟩
    · have : q * o ≤ 0 := Int.mul_nonpos_of_nonneg_of_nonpos q0 b
      omega
    · have : 0 ≤ q * o := Int.mul_nonneg q0 b
      omega
  have sg' : (0 ≤ o ∧ h - q * o ≤ 0 ∧ o * z - (h - q * o) * r = m) ∨ (o ≤ 0 ∧ 0 ≤ h - q * o ∧ (h - q * o) * r - o * z = m) := by
    rcases sg with ⟨a, b, c⟩ | ⟨a, b, c⟩
    · refine .inr ⟨b, key.1 ⟨a, b⟩, ?_⟩
      rw [← c, ← ez]; grind
    · refine .inl ⟨b, key.2 ⟨a, b⟩, ?_⟩
      rw [← c, ← ez]; grind
  have bnd : -m ≤ h - q * o ∧ h - q * o ≤ m := by
    rcases sg' with ⟨a, b, c⟩ | ⟨a, b, c⟩
    · have h1 : 0 ≤ o * z := Int.mul_nonneg a m0
      have h2 : (h - q * o) * r ≤ (h - q * o) * 1 := Int.mul_le_mul_of_nonpos_left b (by omega)
      omega
    · have h1 : o * z ≤ 0 := Int.mul_nonpos_of_nonpos_of_nonneg a m0
      have h2 : (h - q * o) * 1 ≤ (h - q * o) * r := Int.mul_le_mul_of_nonneg_left (by omega) b
      omega
  refine ⟨⟨r0, m0, rm, by omega, ⟨u', hu'⟩, ⟨u - q * u', ?_⟩, go, ?_, bo, bnd⟩, m1⟩
  · rw [← ez, hu, hu']; grind
  · rcases sg' with ⟨a, b, c⟩ | ⟨a, b, c⟩
    · exact .inl ⟨a, b, c⟩
    · exact .inr ⟨a, b, c⟩
theorem eu_end {v m l h o : Int} (hm : 0 < m) (I : EuI v m l 0 h o) (c : g2 v m = 1) : Inv v m (h % m) := by
  obtain ⟨l0, r0, lm, rm, ⟨u, hu⟩, _, g, _, _, _⟩ := I
  have l1 : l = 1 := by
    rw [c] at g
    have : g2 l 0 = l := by show ((Int.gcd l 0 : Nat) : Int) = l; simp; omega
    omega
  refine ⟨Int.emod_nonneg _ (by omega), Int.emod_lt_of_pos _ hm, ?_⟩
  have hq := mod_div h m
  generalize h / m = q at *
  generalize h % m = z at *
  refine ⟨-u - v * q, ?_⟩
  have : v * z = v * (h - m * q) := by rw [hq]; congr 1; omega
  rw [this]
  have : h * v = 1 - u * m := by omega
  grind
/-! ### the least factor -/
def IsLF (s r m : Int) : Option Int → Prop
  | none => ∀ t, ¬ m ∣ s * t - r
  | some t => (0 ≤ t ∧ t < m / g2 s m) ∧ m ∣ s * t - r
theorem lf_none {s r m : Int} (hm : 0 < m) (h : r % g2 s m ≠ 0) : IsLF s r m none := by
  intro t ht
  apply h
  have h1 : g2 s m ∣ s * t - r := Int.dvd_trans (g2_r s m) ht
  have h2 : g2 s m ∣ s * t := Int.dvd_mul_of_dvd_left (g2_l s m)
  have := Int.dvd_sub h2 h1
  rw [show s * t - (s * t - r) = r by omega] at this
  exact Int.emod_eq_zero_of_dvd this
theorem lf_some {s r m i : Int} (hm : 0 < m) (h : r % g2 s m = 0) (hi : Inv (s / g2 s m) (m / g2 s m) i) : IsLF s r m (some (r / g2 s m * i % (m / g2 s m))) := by
  obtain ⟨hb, bp, _⟩ := g2_div (a := s) hm
  have gp := g2_pos (a := s) hm
  have hs := g2_divl s hm
  have hr := mod_div r (g2 s m)
  rw [h] at hr
  obtain ⟨k, hk⟩ := hi.e
  refine ⟨⟨Int.emod_nonneg _ (by omega), Int.emod_lt_of_pos _ bp⟩, ?_⟩
  generalize r / g2 s m = r' at *
  have hz := mod_div (r' * i) (m / g2 s m)
  generalize r' * i / (m / g2 s m) = d at *
  generalize r' * i % (m / g2 s m) = z at *
  generalize s / g2 s m = s' at *
  generalize m / g2 s m = m' at *
  generalize g2 s m = g at *
  subst hs hb
  refine ⟨r' * k - s' * d, ?_⟩
  have : z = r' * i - m' * d := by omega
  rw [this, hr]
  have : s' * i = m' * k + 1 := by omega
  grind
/-- two solutions differ by a multiple of the period -/
theorem lf_uniq {s r m t u : Int} (hm : 0 < m) (h : m ∣ s * t - r) (k : m ∣ s * u - r) : m / g2 s m ∣ t - u := by
  refine dvd_g2 hm ?_
  have := Int.dvd_sub h k
  rw [show s * t - r - (s * u - r) = s * (t - u) by rw [Int.mul_sub]; omega] at this
  exact this
/-! ### what two runs share -/
structure Meet (M b1 s1 b2 s2 f back : Int) : Prop where
  hM : 0 < M
  hf : IsLF s1 (b2 - b1) (g2 s2 M) (some f)
  hb : Inv (s2 / g2 s2 M) (M / g2 s2 M) back
section
variable {M b1 s1 b2 s2 f back : Int}
def mC (M s2 : Int) : Int := g2 s2 M
def mA (M s2 : Int) : Int := M / g2 s2 M
def mP (M s1 s2 : Int) : Int := mC M s2 / g2 s1 (mC M s2)
def mp (M b1 s1 b2 s2 f back : Int) : Int := (b1 + f * s1 - b2) / mC M s2 * back % mA M s2
def ms (M s1 s2 back : Int) : Int := mP M s1 s2 * s1 / mC M s2 * back % mA M s2
theorem dvd_of_mod {x y m : Int} (h : x % m = y % m) : m ∣ x - y := mod_eq_dvd.1 h
theorem meet_iff (h : Meet M b1 s1 b2 s2 f back) {i k : Int} (i0 : 0 ≤ i) :
    M ∣ (b2 + k * s2) - (b1 + i * s1) ↔ ∃ t, 0 ≤ t ∧ i = f + t * mP M s1 s2 ∧ mA M s2 ∣ k - (ms M s1 s2 back * t + mp M b1 s1 b2 s2 f back) := by
  obtain ⟨hM, ⟨⟨f0, f1⟩, hf⟩, hb⟩ := h
  have Cp := g2_pos (a := s2) hM
  obtain ⟨eM, Ap, _⟩ := g2_div (a := s2) hM
  have eS := g2_divl s2 hM
  obtain ⟨eC, Pp, _⟩ := g2_div (a := s1) Cp
  have e1 := g2_divl s1 Cp
  unfold mp ms mP mA mC
  have lf := @lf_uniq s1 (b2 - b1) (g2 s2 M) i f Cp
  have lfd := fun x => @g2_dvd s1 (g2 s2 M) x Cp
  have hbe := hb.e
  clear hb
  generalize hC : g2 s2 M = C at *
  generalize hA : M / C = A at *
  generalize hS : s2 / C = Sx at *
  generalize hg : g2 s1 C = G at *
  generalize hP : C / G = P at *
  generalize hs : s1 / G = sx at *
  -- what is divided by C
  have hD : C ∣ b1 + f * s1 - b2 := by
    obtain ⟨z, hz⟩ := hf
    exact ⟨z, by rw [← hz]; grind⟩
  have hE : P * s1 = C * sx := by rw [← e1, ← eC]; grind
  have eE : P * s1 / C = sx := by rw [hE]; exact Int.mul_ediv_cancel_left _ (by omega)
  have eD : C * ((b1 + f * s1 - b2) / C) = b1 + f * s1 - b2 := Int.mul_ediv_cancel' hD
  rw [eE]
  generalize (b1 + f * s1 - b2) / C = Dx at *
  have m1 := mod_div (Dx * back) A
  have m2 := mod_div (sx * back) A
  generalize Dx * back / A = d1 at *
  generalize sx * back / A = d2 at *
  generalize Dx * back % A = p at *
  generalize sx * back % A = st at *
  obtain ⟨w, hw⟩ := hbe
  constructor
  · intro hd
    have hC2 : C ∣ s1 * i - (b2 - b1) := by
      obtain ⟨z, hz⟩ := hd
      refine ⟨k * Sx - A * z, ?_⟩
      have : C * (k * Sx - A * z) = k * (C * Sx) - C * A * z := by grind
      rw [this, eM, eS, ← hz]
      grind
    obtain ⟨t, ht⟩ := lf hC2 hf
    have t0 : 0 ≤ t := by
      rcases Int.lt_or_le t 0 with z | z
      · have : P * t ≤ P * (-1) := Int.mul_le_mul_of_nonneg_left (by omega) (by omega)
        omega
      · exact z
    refine ⟨t, t0, by rw [Int.mul_comm t]; omega, ?_⟩
    obtain ⟨z, hz⟩ := hd
    -- C (k Sx - Dx - sx t) = M z
    have h1 : C * (k * Sx - Dx - sx * t) = C * (A * z) := by
      have : C * (A * z) = M * z := by rw [← eM, Int.mul_assoc]
      rw [this, ← hz]
      have : i = f + P * t := by omega
      rw [this]
      have : C * (k * Sx - Dx - sx * t) = k * (C * Sx) - C * Dx - C * sx * t := by grind
      rw [this, eS, eD, ← hE]
      grind
    have h2 : k * Sx - Dx - sx * t = A * z := Int.eq_of_mul_eq_mul_left (by omega) h1
    -- k - (st t + p)
    refine ⟨z * back - k * w + d1 + d2 * t, ?_⟩
    have a1 : st = sx * back - A * d2 := by omega
    have a2 : p = Dx * back - A * d1 := by omega
    rw [a1, a2]
    have a3 : Sx * back = A * w + 1 := by omega
    have b : A * z * back = k * (Sx * back) - Dx * back - sx * t * back := by rw [← h2]; grind
    rw [a3] at b
    have : A * (z * back - k * w + d1 + d2 * t) = A * z * back - A * k * w + A * d1 + A * d2 * t := by grind
    rw [this, b]
    grind
  · rintro ⟨t, t0, rfl, z, hz⟩
    have a1 : st = sx * back - A * d2 := by omega
    have a2 : p = Dx * back - A * d1 := by omega
    rw [a1, a2] at hz
    have a3 : Sx * back = A * w + 1 := by omega
    -- k Sx - Dx - sx t = A * ..
    have h2 : k * Sx - Dx - sx * t = A * (Sx * z + w * (Dx + sx * t) - Sx * (d1 + d2 * t)) := by
      have hk : k = A * z + ((sx * back - A * d2) * t + (Dx * back - A * d1)) := by omega
      have : k * Sx = A * z * Sx + (Sx * back) * (sx * t) - A * d2 * t * Sx + (Sx * back) * Dx - A * d1 * Sx := by rw [hk]; grind
      rw [this, a3]
      grind
    refine ⟨Sx * z + w * (Dx + sx * t) - Sx * (d1 + d2 * t), ?_⟩
    rw [← eM, Int.mul_assoc, ← h2]
    have : C * (k * Sx - Dx - sx * t) = k * (C * Sx) - C * Dx - C * sx * t := by grind
    rw [this, eS, eD, ← hE]
    grind
end
def IsLH (a b m h : Int) : Option Int → Prop
  | none => ∀ t, 0 ≤ t → h < (a * t + b) % m
  | some t => (0 ≤ t ∧ (a * t + b) % m ≤ h) ∧ ∀ u, 0 ≤ u → (a * u + b) % m ≤ h → t ≤ u
theorem lh_0 {a b m h : Int} (c : b % m ≤ h) : IsLH a b m h (some 0) := ⟨⟨Int.le_refl _, by rw [Int.mul_zero, Int.zero_add]; exact c⟩, fun u u0 _ => u0⟩
/-- by a question -/
theorem lh_q {a b m h : Int} (hm : 0 < m) (h0 : 0 ≤ h) (c : h < b % m) {o : Option Int} (ho : IsAns ⟨a % m, m, m - b % m, m - b % m + h⟩ o) : Q4.Ok ⟨a % m, m, m - b % m, m - b % m + h⟩ ∧ IsLH a b m h o := by
  have a0 := Int.emod_nonneg a (show m ≠ 0 by omega)
  have a1 := Int.emod_lt_of_pos a hm
  have b0 := Int.emod_nonneg b (show m ≠ 0 by omega)
  have b1 := Int.emod_lt_of_pos b hm
  have ok : Q4.Ok ⟨a % m, m, m - b % m, m - b % m + h⟩ := ⟨a0, a1, by show 0 ≤ m - b % m; omega, by show m - b % m ≤ m - b % m + h; omega, by show m - b % m + h < m; omega⟩
  have key : ∀ t, 0 ≤ t → (Sol ⟨a % m, m, m - b % m, m - b % m + h⟩ t ↔ (a * t + b) % m ≤ h) := fun t t0 => by
    have e1 : (a % m * t) % m = (a * t) % m := by rw [Int.mul_emod, Int.emod_emod, ← Int.mul_emod]
    have e2 : (a * t + b) % m = ((a * t) % m + b % m) % m := Int.add_emod ..
    have y0 := Int.emod_nonneg (a * t) (show m ≠ 0 by omega)
    have y1 := Int.emod_lt_of_pos (a * t) hm
    show (0 ≤ t ∧ m - b % m ≤ (a % m * t) % m ∧ (a % m * t) % m ≤ m - b % m + h) ↔ _
    rw [e1, e2]
    generalize (a * t) % m = y at *
    generalize b % m = z at *
    by_cases w : y + z < m
    · rw [Int.emod_eq_of_lt (by omega) w]
      constructor
      · intro ⟨_, h1, _⟩; omega
      · intro h1; omega
    · have : (y + z) % m = y + z - m := (div_eq (x := y + z) (q := 1) (r := y + z - m) hm (by omega) (by omega) (by omega)).2
      rw [this]
      constructor
      · intro ⟨_, h1, h2⟩; omega
      · intro h1; exact ⟨t0, by omega, by omega⟩
  refine ⟨ok, ?_⟩
  cases o with
  | none =>
    intro t t0
    rcases Int.lt_or_le h ((a * t + b) % m) with w | w
    · exact w
    · exact absurd ((key t t0).2 w) (ho t)
  | some s =>
    obtain ⟨h1, h2⟩ := ho
    exact ⟨⟨h1.1, (key s h1.1).1 h1⟩, fun u u0 hu => h2 u ((key u u0).2 hu)⟩
/-- a sum over every P-th number, from f on -/
theorem S_every {P f : Int} (hP : 0 < P) (f0 : 0 ≤ f) (f1 : f < P) (g : Nat → Int) : ∀ n : Nat,
    S (fun i => if f ≤ (i : Int) ∧ ((i : Int) - f) % P = 0 then g (((i : Int) - f) / P).toNat else 0) n = S g (((n : Int) - 1 - f) / P + 1).toNat
  | 0 => by
    have : (((0 : Nat) : Int) - 1 - f) / P = -1 := (div_eq (x := ((0 : Nat) : Int) - 1 - f) (q := -1) (r := P - 1 - f) hP (by omega) (by omega) (by omega)).1
    rw [this]
    rfl
  | n + 1 => by
    rw [S, S_every hP f0 f1 g n]
    have e : ((n + 1 : Nat) : Int) - 1 - f = (n : Int) - f := by omega
    rw [e]
    by_cases c : f ≤ (n : Int)
    · have hq := mod_div ((n : Int) - f) P
      have r0 := Int.emod_nonneg ((n : Int) - f) (show P ≠ 0 by omega)
      have r1 := Int.emod_lt_of_pos ((n : Int) - f) hP
      have q0 : 0 ≤ ((n : Int) - f) / P := Int.ediv_nonneg (by omega) (by omega)
      by_cases z : ((n : Int) - f) % P = 0
      · rw [if_pos ⟨c, z⟩]
        have : ((n : Int) - 1 - f) / P = ((n : Int) - f) / P - 1 := (div_eq (x := (n : Int) - 1 - f) (q := ((n : Int) - f) / P - 1) (r := P - 1) hP (by rw [Int.mul_sub]; omega) (by omega) (by omega)).1
        rw [this]
        generalize ((n : Int) - f) / P = q at *
        have t : (q + 1).toNat = (q - 1 + 1).toNat + 1 := by omega
        rw [t, S]
        have : (q - 1 + 1).toNat = q.toNat := by omega
        rw [this]
      · rw [if_neg fun w => z w.2]
        have : ((n : Int) - 1 - f) / P = ((n : Int) - f) / P := (div_eq (x := (n : Int) - 1 - f) (q := ((n : Int) - f) / P) (r := ((n : Int) - f) % P - 1) hP (by omega) (by omega) (by omega)).1
        rw [this]
        omega
    · rw [if_neg fun w => c w.1]
      have a1 : ((n : Int) - 1 - f) / P = -1 := (div_eq (x := (n : Int) - 1 - f) (q := -1) (r := P + (n : Int) - 1 - f) hP (by omega) (by omega) (by omega)).1
      have a2 : ((n : Int) - f) / P = -1 := (div_eq (x := (n : Int) - f) (q := -1) (r := P + (n : Int) - f) hP (by omega) (by omega) (by omega)).1
      rw [a1, a2]
      omega
end NT
namespace NT
theorem least_rep {A x k : Int} (hA : 0 < A) (k0 : 0 ≤ k) (h : A ∣ k - x) : x % A ≤ k := by
  have e : k % A = x % A := mod_eq_dvd.2 h
  rw [← e]
  have := mod_div k A
  have q0 : 0 ≤ k / A := Int.ediv_nonneg k0 (by omega)
  have : 0 ≤ A * (k / A) := Int.mul_nonneg (by omega) q0
  omega
section
variable {M b1 s1 b2 s2 f back : Int}
theorem Meet.pos (h : Meet M b1 s1 b2 s2 f back) : 0 < mA M s2 ∧ mA M s2 ≤ M ∧ 0 < mP M s1 s2 ∧ mP M s1 s2 ≤ M ∧ 0 ≤ f ∧ f < mP M s1 s2 := by
  have Cp := g2_pos (a := s2) h.hM
  obtain ⟨_, Ap, Al⟩ := g2_div (a := s2) h.hM
  obtain ⟨_, Pp, Pl⟩ := g2_div (a := s1) Cp
  have := g2_le (a := s2) h.hM
  have e1 : mA M s2 = M / g2 s2 M := rfl
  have e2 : mP M s1 s2 = g2 s2 M / g2 s1 (g2 s2 M) := rfl
  obtain ⟨⟨f0, f1⟩, _⟩ := h.hf
  rw [e1, e2]
  exact ⟨Ap, Al, Pp, by omega, f0, f1⟩
theorem meet_some (h : Meet M b1 s1 b2 s2 f back) {i k : Int} (i0 : 0 ≤ i) (k0 : 0 ≤ k) (hd : M ∣ (b2 + k * s2) - (b1 + i * s1)) :
    ∃ t, 0 ≤ t ∧ i = f + t * mP M s1 s2 ∧ (ms M s1 s2 back * t + mp M b1 s1 b2 s2 f back) % mA M s2 ≤ k := by
  obtain ⟨t, t0, e, hk⟩ := (meet_iff h i0).1 hd
  exact ⟨t, t0, e, least_rep h.pos.1 k0 hk⟩
theorem meet_rest (h : Meet M b1 s1 b2 s2 f back) {t : Int} (t0 : 0 ≤ t) :
    M ∣ (b2 + ((ms M s1 s2 back * t + mp M b1 s1 b2 s2 f back) % mA M s2) * s2) - (b1 + (f + t * mP M s1 s2) * s1) := by
  obtain ⟨_, _, Pp, _, f0, _⟩ := h.pos
  have : 0 ≤ t * mP M s1 s2 := Int.mul_nonneg t0 (by omega)
  exact (meet_iff h (by omega)).2 ⟨t, t0, rfl, mod_eq_dvd.1 (Int.emod_emod ..)⟩
theorem meet_ms (h : Meet M b1 s1 b2 s2 f back) : (0 ≤ ms M s1 s2 back ∧ ms M s1 s2 back < mA M s2) ∧ 0 ≤ mp M b1 s1 b2 s2 f back ∧ mp M b1 s1 b2 s2 f back < mA M s2 := by
  have Ap := h.pos.1
  exact ⟨⟨Int.emod_nonneg _ (by omega), Int.emod_lt_of_pos _ Ap⟩, Int.emod_nonneg _ (by omega), Int.emod_lt_of_pos _ Ap⟩
end
end NT
namespace NT
theorem lh_lt {a b m h t : Int} (hm : 0 < m) (H : IsLH a b m h (some t)) : 0 ≤ t ∧ t < m := by
  obtain ⟨⟨t0, t1⟩, t2⟩ := H
  refine ⟨t0, ?_⟩
  rcases Int.lt_or_le t m with c | c
  · exact c
  · have e : (a * (t - m) + b) % m = (a * t + b) % m := by
      have : a * (t - m) + b = a * t + b + m * (-a) := by grind
      rw [this, Int.add_mul_emod_self_left]
    have := t2 (t - m) (by omega) (by omega)
    omega
end NT
/-! zip of a text and a tuple -/
namespace TL
open PySem PySem.Spec PyProof.Rows L2 RZ
def ItzS (K : PySem.W.Frag) (x : Str) (b : Addr) (ys : List V) : It :=
  ⟨fun i H => i < x.cps.size ∧ ∃ y : V, SqT K H b ys ∧ ys[i]? = some y,
    fun i H v H' => ∃ T c y, v = .ref T ∧ H T = none ∧ H' = upd H T (.tup [.str ⟨#[c]⟩, y]) ∧ x.cps[i]? = some c ∧ ys[i]? = some y,
    fun i H => SqT K H b ys ∧ (x.cps.size ≤ i ∨ ys.length ≤ i)⟩
theorem turn_zipS {P : Program} {w : World} {K : PySem.W.Frag} {elts : List Expr} {kk : Nat} {tpos : Pos} {x : Str} {t : Tok} {b z TI TO i1 i2 : Addr} {ys : List V} (D : ZipSep2 z TI TO i1 i2 [i1] [i2, b]) (hne : b ≠ i2) :
    Turn P w K (.Tuple elts kk tpos) (ItzS K x b ys) [z, TI, TO, i1, i2] z (fun i h => IsZip h z TI TO .none ∧ IsTupOf2 h TI (.ref i1) (.ref i2) ∧ (∃ x y, IsTupOf2 h TO x y) ∧ h.IsStrIter i1 (strIterType x) x t i ∧ h.IsTupleIter i2 b i ∧ i ≤ x.cps.size ∧ i ≤ ys.length) where
  mem := by simp
  obj := fun i h st c hc => by
    obtain ⟨hz, hTI, ⟨x, y, hTO⟩, ⟨o1, e1, _, d1⟩, ⟨o2, e2, _, d2⟩, _⟩ := st
    have e' : c = z ∨ c = TI ∨ c = TO ∨ c = i1 ∨ c = i2 := by simpa using hc
    rcases e' with q | q | q | q | q
    · rw [q]; exact ⟨_, hz, fun v q => nomatch q⟩
    · rw [q]; exact ⟨_, hTI, fun v q => nomatch q⟩
    · rw [q]; exact ⟨_, hTO, fun v q => nomatch q⟩
    · rw [q]; exact ⟨o1, e1, fun v q => by rw [d1] at q; cases q⟩
    · rw [q]; exact ⟨o2, e2, fun v q => by rw [d2] at q; cases q⟩
  keep := fun i h h' st k => by
    obtain ⟨hz, hTI, ⟨x, y, hTO⟩, ⟨o1, e1, c1, d1⟩, h2, l1, l2⟩ := st
    exact ⟨k z (by simp) _ hz, k TI (by simp) _ hTI, ⟨x, y, k TO (by simp) _ hTO⟩, ⟨o1, k i1 (by simp) _ e1, c1, d1⟩, h2.at fun o q => k i2 (by simp) o q, l1, l2⟩
  item := by
    intro X hP hw hK hc i pins s σ H E I hf st hg
    subst hP hw hK
    obtain ⟨hz, hTI, ⟨x0, y0, hTO⟩, h1, h2, m1, m2⟩ := st
    obtain ⟨hx, y, hqy, hy⟩ := hg
    obtain ⟨its2, rv2, p2, _⟩ := I.tuple hqy
    obtain ⟨u2, hu2, ru2⟩ := rv2.get hy
    have hzl : z < s.heap.objs.size := Heap.lt_size hz
    have hl2 : i < its2.toArray.size := by
      have := (List.getElem?_eq_some_iff.1 hu2).1
      simpa using this
    have D1 := Draws.text (prog := X.prog) (w := X.w) (A := X.A.in1) (I.ok.hd hc) i1 x t
    have D2 := Draws.tuple (prog := X.prog) (w := X.w) (A := X.A.in1) (I.ok.hd hc) i2 b hne its2.toArray
    refine wpAny_pyNext_zipD2_item D D1 D2 hz hTI hTO h1 ⟨h2, p2⟩ hx hl2 fun v1 v2 h' tk P1 P2 z' TO' h1' h2' hT hsz hk => ?_
    obtain ⟨c, tc, ec, rfl⟩ := P1
    have P2 : its2.toArray[i]? = some v2 := P2
    have hv2 : v2 = u2 := by
      have h3 : its2[i]? = some v2 := by simpa using P2
      rw [hu2] at h3
      exact (Option.some.inj h3).symm
    subst hv2
    refine ⟨_, rfl, wpAny_letOwnedTupleGo_zip (s := { s with heap := h', toks := tk }) z' fun h'' z'' sb => ?_⟩
    have hT2 : h''.get? s.heap.objs.size = some { cls := .type "tuple", data := .seq #[.str ⟨#[c]⟩ tc, v2] } := (sb.2 _ (Nat.ne_of_gt hzl)).trans hT
    have new : ObjOk X.prog X.w (upd H s.heap.objs.size (.tup [.str ⟨#[c]⟩, y])) h'' s.heap.objs.size (.tup [.str ⟨#[c]⟩, y]) :=
      ⟨by show 2 ≤ sizeLine; decide, [.str ⟨#[c]⟩ tc, v2], .cons ⟨tc, rfl⟩ (.cons ru2 .nil), ⟨_, hT2, rfl, _, rfl⟩⟩
    have I1 : Inv X pins σ (upd H s.heap.objs.size (.tup [.str ⟨#[c]⟩, y])) { s with heap := h'', toks := tk } :=
      I.turnedNew (t' := tk) (ch := [z, TI, TO, i1, i2]) (fun c o hb q => (sb.2 c (fun q' => hb (by simp [q']))).trans (hk c o (fun q' => hb (by simp [q'])) (fun q' => hb (by simp [q'])) (fun q' => hb (by simp [q'])) (fun q' => hb (by simp [q'])) q)) hf (Nat.le_refl _) new
    refine ⟨.ref s.heap.objs.size, _, I1, rfl, ⟨_, c, y, rfl, I.hok.fresh (Nat.le_refl _), rfl, ec, hy⟩, ⟨z'', ?_, ⟨.str ⟨#[c]⟩ tc, v2, ?_⟩, ?_, ?_, hx, (List.getElem?_eq_some_iff.1 hy).1⟩, fun c hcm => ?_⟩
    · exact (sb.2 _ D.TIz).trans (hk _ _ D.TIz D.TITO D.TIi1 D.TIi2 hTI)
    · exact (sb.2 _ D.TOz).trans TO'
    · obtain ⟨o, a1, a2, a3⟩ := h1'
      exact ⟨o, (sb.2 _ (Ne.symm D.zi1)).trans a1, a2, a3⟩
    · exact h2'.1.at fun o q => (sb.2 _ (Ne.symm D.zi2)).trans q
    · have hlt : c < s.heap.objs.size := by
        have e' : c = z ∨ c = TI ∨ c = TO ∨ c = i1 ∨ c = i2 := by simpa using hcm
        rcases e' with q | q | q | q | q
        · rw [q]; exact hzl
        · rw [q]; exact Heap.lt_size hTI
        · rw [q]; exact Heap.lt_size hTO
        · rw [q]; obtain ⟨_, e1, _⟩ := h1; exact Heap.lt_size e1
        · rw [q]; obtain ⟨_, e1, _⟩ := h2; exact Heap.lt_size e1
      rw [upd_ne (Nat.ne_of_lt hlt)]
      exact (hf c hcm).1
  done := by
    intro X hP hw hK hc i pins s σ H E I hf st hg
    subst hP hw hK
    obtain ⟨hz, hTI, ⟨x0, y0, hTO⟩, h1, h2, m1, m2⟩ := st
    obtain ⟨hqy, hend⟩ := hg
    obtain ⟨its2, rv2, p2, _⟩ := I.tuple hqy
    have D1 := Draws.text (prog := X.prog) (w := X.w) (A := X.A.in1) (I.ok.hd hc) i1 x t
    have D2 := Draws.tuple (prog := X.prog) (w := X.w) (A := X.A.in1) (I.ok.hd hc) i2 b hne its2.toArray
    have l2 := rv2.length
    exact wpAny_pyNext_zipD2_end D D1 D2 hz hTI hTO h1 ⟨h2, p2⟩ m1 (by simp; omega) (by simp; omega) fun h' tk hk => ⟨rfl, I.turnedL (t' := tk) (ch := [z, TI, TO, i1, i2]) (fun c o hb q =>
      hk c o (fun q' => hb (by simp [q'])) (fun q' => hb (by simp [q'])) (fun q' => hb (by simp [q'])) (fun q' => hb (by simp [q'])) q) hf⟩
  self := fun A i s Q E st h => wpAny_pyIter_zip st.1 h
theorem sep_new (n b : Nat) (h : b < n) : ZipSep2 (n + 4) (n + 2) (n + 3) n (n + 1) [n] [n + 1, b] where
  TIz := by show n + 2 ≠ n + 4; omega
  TOz := by show n + 3 ≠ n + 4; omega
  TITO := by show n + 2 ≠ n + 3; omega
  TIi1 := by show n + 2 ≠ n; omega
  mem1 := List.mem_cons_self
  zf1 := fun h => by have : n + 4 = n := by simpa using h
                     omega
  Tf1 := fun h => by have : n + 3 = n := by simpa using h
                     omega
  TIi2 := by show n + 2 ≠ n + 1; omega
  mem2 := List.mem_cons_self
  zf2 := fun h => by
    rcases List.mem_cons.1 h with h | h
    · exact absurd h (by show ¬ (n + 4 = n + 1); omega)
    · exact absurd (List.mem_singleton.1 h) (by show ¬ (n + 4 = b); omega)
  Tf2 := fun h => by
    rcases List.mem_cons.1 h with h | h
    · exact absurd h (by show ¬ (n + 3 = n + 1); omega)
    · exact absurd (List.mem_singleton.1 h) (by show ¬ (n + 3 = b); omega)
  sep1_2 := fun h => by
    rcases List.mem_cons.1 h with h | h
    · exact absurd h (by show ¬ (n = n + 1); omega)
    · exact absurd (List.mem_singleton.1 h) (by show ¬ (n = b); omega)
  sep2_1 := fun h => absurd (List.mem_singleton.1 h) (by show ¬ (n + 1 = n); omega)
theorem ne_new (n b : Nat) (h : b < n) : b ≠ n + 1 := by omega
def iZipS (K : PySem.W.Frag) (ta : TA) : TI := fun σ H R => ta σ H fun vs H1 => ∃ x b ys, vs = [.str x, .ref b] ∧ SqT K H1 b ys ∧ R (ItzS K x b ys) H1
theorem pi_zipS {X : Cx} {e e2 : Expr} {ta : TA} {p pos tpos : Pos} {elts : List Expr} {kk : Nat} (hg : Gl X "zip") (hm : X.mg "zip" = none) (ha : PA X [e, e2] ta)
    (hs : starEach [e, e2] X.env = (false, eval e X.env) :: starEach [e2] X.env := by rfl) (hpl : (backTo pos (starEach [e2] X.env)).any (·.1) = false := by rfl) :
    PI X (.Tuple elts kk tpos) (.Call (.Name "zip" p) [e, e2] [] pos) (iZipS X.K ta) := by
  refine ⟨fun pins s σ H R I h => ?_⟩
  refine Call_ (ld_blt I hg hm PyProof.Rows.boot_zip (PyProof.Rows.callWith_type1 (thn (ha.run pos pins s σ H _ I h) fun us s1 ⟨vs, H1, I1, r1, q1⟩ => ?_) hs hpl))
  obtain ⟨x, b, ys, ex, hqy, q⟩ := q1
  subst ex
  cases r1 with
  | cons r rr =>
    cases rr with
    | cons r' rr =>
      cases rr
      obtain ⟨t, rfl⟩ := r
      cases r'
      have fresh5 : ∀ c, c ∈ [s1.heap.objs.size + 4, s1.heap.objs.size + 2, s1.heap.objs.size + 3, s1.heap.objs.size, s1.heap.objs.size + 1] → FpOk X pins H1 c := fun c hcm => by
        have e' : c = s1.heap.objs.size + 4 ∨ c = s1.heap.objs.size + 2 ∨ c = s1.heap.objs.size + 3 ∨ c = s1.heap.objs.size ∨ c = s1.heap.objs.size + 1 := by simpa using hcm
        have hle : s1.heap.objs.size ≤ c := by
          rcases e' with z | z | z | z | z
          · rw [z]; exact Nat.le_add_right _ _
          · rw [z]; exact Nat.le_add_right _ _
          · rw [z]; exact Nat.le_add_right _ _
          · rw [z]; exact Nat.le_refl _
          · rw [z]; exact Nat.le_add_right _ _
        exact I1.fpOk hle (I1.hok.fresh hle)
      obtain ⟨its2, rv2, p2, _⟩ := I1.tuple hqy
      obtain ⟨o2, ho2, _⟩ := id p2
      have lt : b < s1.heap.objs.size := Heap.lt_size ho2
      refine zip_begins2 (begins_text x t) (begins_tuple b its2.toArray) trivial (show s1.heap.IsTuple b its2.toArray from p2) fun h' hz hTI hTO g1 g2 hsz hk => wpAny_pyIter_zip hz ?_
      have I2 : Inv X pins σ H1 { s1 with heap := h' } := I1.kept (t' := s1.toks) hk
      have D : ZipSep2 (s1.heap.objs.size + 4) (s1.heap.objs.size + 2) (s1.heap.objs.size + 3) s1.heap.objs.size (s1.heap.objs.size + 1) [s1.heap.objs.size] [s1.heap.objs.size + 1, b] :=
        sep_new _ _ lt
      exact ⟨s1.heap.objs.size + 4, [s1.heap.objs.size + 4, s1.heap.objs.size + 2, s1.heap.objs.size + 3, s1.heap.objs.size, s1.heap.objs.size + 1], _, _, H1, rfl, I2, turn_zipS (t := t) D (ne_new _ _ lt), ⟨hz, hTI, ⟨_, _, hTO⟩, ⟨_, g1, rfl, rfl⟩, ⟨_, g2, rfl, rfl⟩, Nat.zero_le _, Nat.zero_le _⟩, fresh5, q⟩
theorem wk_zipS {K : PySem.W.Frag} {x : Str} {b : Addr} {ys : List V} {es : List PyData} : Wk K true (ItzS K x b ys) (zipD (signsD x) es) fun w => TupA K w b ys ∧ RvL K w ys es where
  pu := fun w u h p => ⟨h.1.pu p, h.2.pu p⟩
  go := fun i w h l => by
    rw [zipD_len] at l
    have l1 : i < x.cps.size := by have : (signsD x).length = x.cps.size := by simp [signsD]
                                   omega
    have l2 : i < ys.length := by rw [h.2.len]; omega
    exact ⟨l1, ys[i], h.1.sq, List.getElem?_eq_getElem l2⟩
  stop := fun i w h l => by
    rw [zipD_len] at l
    have : (signsD x).length = x.cps.size := by simp [signsD]
    refine ⟨h.1.sq, ?_⟩
    rw [h.2.len]; omega
  yld := fun i w v H' d h e y => by
    obtain ⟨T, c, z, e1, nT, e2, y1, y2⟩ := y
    subst e1 e2
    obtain ⟨dx, dy, h1, h2, h3⟩ := zipD_get (signsD x) es i d e
    subst h3
    obtain ⟨y', q2, r2⟩ := h.2.get h2
    rw [q2] at y2
    cases y2
    have e4 : (signsD x)[i]? = some (.str ⟨#[c]⟩) := by simp [signsD, y1]
    rw [h1] at e4
    cases e4
    exact ⟨w.new T _ 0, rfl, Go0.new nT 0, weak_pair nT (.str _) r2⟩
section
variable {G : Ct} {X : Cx} {e e2 : Expr} {t : TL'} {p pos tpos : Pos} {elts : List Expr} {kk : Nat}
@[simp] def xiZipS (t : TL') : TWk := fun E g Q => t E g fun ss g1 => ∃ x es, ss = [.v (.str x), .v (.tuple es)] ∧ Q (zipD (signsD x) es) g1
theorem xi_zipS (hg : Gl X "zip") (hm : X.mg "zip" = none) (ha : XA G X [e, e2] t) (hs : starEach [e, e2] X.env = (false, eval e X.env) :: starEach [e2] X.env := by rfl) (hpl : (backTo pos (starEach [e2] X.env)).any (·.1) = false := by rfl) : XI G X true (.Tuple elts kk tpos) (.Call (.Name "zip" p) [e, e2] [] pos) (xiZipS t) := by
  refine ⟨fun E g Q Q' hq q => ha.mo _ _ _ _ (fun ss g1 ⟨ds, es, e1, q⟩ => ⟨ds, es, e1, hq _ _ q⟩) q, (pi_zipS hg hm ha.pa hs hpl).imp fun σ H R ⟨cl, E, g, as, j, r, q⟩ => ?_⟩
  refine ⟨cl, E, g, as, j, r, ha.mo _ _ _ _ (fun ss g1 ⟨x, es, e1, q1⟩ u vs go1 j1 rs => ?_) q⟩
  subst e1
  cases rs with
  | v h t =>
    cases t with
    | v h' t =>
      cases t
      cases h with
      | str =>
        cases h' with
        | tup hL' hr' => exact ⟨_, _, _, rfl, hL'.sq, q1 u _ _ go1 j1 wk_zipS ⟨hL', hr'⟩⟩
end
end TL
namespace TL
open PySem PySem.Spec PyProof.Rows L2 RZ Builtin.Str StrLaws
/-! ### a sign in a text, and its place -/
theorem occ_stay (s sub : Str) (hi : Nat) : ∀ (l : List Nat) (st : Array Nat × Nat), 1 ≤ st.fst.size → (forIn l st (occBody s sub hi 1)).run.fst = st.fst
  | [], st, h => rfl
  | a :: l, st, h => by
    rw [List.forIn_cons]
    unfold occBody
    have c2 : ¬ (((st.fst.size < 1 ∧ st.snd ≤ a) ∧ a + sub.length ≤ hi) ∧ subAt s sub a = true) := fun h2 => by omega
    rw [if_neg c2]
    exact occ_stay s sub hi l _ h
theorem occ_first (s sub : Str) (hi i : Nat) : ∀ (l : List Nat) (free : Nat), (∀ k ∈ l, free ≤ k) → i ∈ l → (i + sub.length ≤ hi ∧ subAt s sub i = true) → List.Pairwise (· < ·) l → (∀ m, m < i → ¬ (m + sub.length ≤ hi ∧ subAt s sub m = true)) →
    (forIn l ((#[] : Array Nat), free) (occBody s sub hi 1)).run.fst = #[i]
  | [], free, _, h, _, _, _ => by cases h
  | a :: l, free, hf, hm, hp, pw, hl => by
    rw [List.forIn_cons]
    unfold occBody
    have ha : free ≤ a := hf a List.mem_cons_self
    by_cases e : a = i
    · subst e
      have c1 : ((((#[] : Array Nat), free).fst.size < 1 ∧ ((#[] : Array Nat), free).snd ≤ a) ∧ a + sub.length ≤ hi) ∧ subAt s sub a = true := ⟨⟨⟨by simp, ha⟩, hp.1⟩, hp.2⟩
      rw [if_pos c1]
      have := occ_stay s sub hi l ((#[] : Array Nat).push a, a + sub.length) (by simp)
      exact this
    · have hm2 : i ∈ l := by
        rcases List.mem_cons.1 hm with h | h
        · exact absurd h.symm e
        · exact h
      have lt : a < i := (List.pairwise_cons.1 pw).1 i hm2
      have c2 : ¬ (((((#[] : Array Nat), free).fst.size < 1 ∧ ((#[] : Array Nat), free).snd ≤ a) ∧ a + sub.length ≤ hi) ∧ subAt s sub a = true) := fun h => hl a lt ⟨h.1.2, h.2⟩
      rw [if_neg c2]
      exact occ_first s sub hi i l free (fun k hk => hf k (List.mem_cons_of_mem _ hk)) hm2 hp (List.pairwise_cons.1 pw).2 hl
theorem occ_at {x : Str} {c j : Nat} (h : x.cps.toList[j]? = some c) (hl : ∀ m, m < j → x.cps.toList[m]? ≠ some c) : occurrences x ⟨#[c]⟩ 0 x.length 1 = [j] := by
  rw [occ_eq]
  have hj := (subAt_one x c j).2 h
  rw [occ_first x ⟨#[c]⟩ x.length j _ 0 (fun _ _ => Nat.zero_le _) (by simp [List.mem_range']; omega) hj (List.pairwise_lt_range' ..) fun m hm z => hl m hm ((subAt_one x c m).1 z)]
section
variable {G : Ct} {X : Cx} {e a : Expr} {te ta : TX} {K : PySem.W.Frag}
@[simp] def oInS : OD := fun d e g Q => ∃ c j, d = .str ⟨#[c]⟩ ∧ e = .str j ∧ Q (.bool (decide (c ∈ j.cps.toList))) g
theorem od_inS : OpD G K (fun x y H Q => ∃ i j, x = .str i ∧ y = .str j ∧ Q (.bl (!(Builtin.Str.occurrences j i 0 j.length 1).isEmpty)) H) oInS := by
  refine ⟨fun d e g Q Q' hq ⟨c, j, e1, e2, q⟩ => ⟨c, j, e1, e2, hq _ _ q⟩, fun w g x y d e Q j rx ry ⟨c, z, e1, e2, q⟩ => ?_⟩
  subst e1 e2
  cases rx
  cases ry
  refine ⟨_, _, rfl, rfl, ?_⟩
  rw [found_one]
  exact q w _ (Go.refl w) j (.bl _)
theorem co_inS : CO G X .In oInS := ⟨_, op_in_str, od_inS⟩
@[simp] def xIndexS (te ta : TX) : TX := fun E g Q => te E g fun d g1 => ∃ x : Str, d = .str x ∧ ta E g1 fun e g2 => ∃ (c : Nat) (j : Nat), e = .str ⟨#[c]⟩ ∧ x.cps.toList[j]? = some c ∧ (∀ m, m < j → x.cps.toList[m]? ≠ some c) ∧ Q (.int j) g2
theorem xe_indexS {apos cpos : Pos} (he : XE G X e te) (ha : XE G X a ta) (h : ∀ te' ta', PE X e te' → PE X a ta' → PE X (.Call (.Attribute e "index" apos) [a] [] cpos) (tBM X.K "str" (fun x xs H Q => ∃ a b i rest, x = .str a ∧ xs = [.str b] ∧ Builtin.Str.occurrences a b 0 a.length 1 = i :: rest ∧ Q (.int (i : Nat)) H) te' (tCons ta' tNil))) : XE G X (.Call (.Attribute e "index" apos) [a] [] cpos) (xIndexS te ta) := by
  refine ⟨fun E g Q Q' hq q => he.mo _ _ _ _ (fun d g1 ⟨ns, e1, q1⟩ => ⟨ns, e1, ha.mo _ _ _ _ (fun e g2 ⟨n, j, b, c, f, q2⟩ => ⟨n, j, b, c, f, hq _ _ q2⟩) q1⟩) q, (h _ _ he.pe ha.pe).imp fun σ H Q ⟨cl, E, g, as, j, r, q⟩ => ?_⟩
  refine ⟨cl, E, g, as, j, r, he.mo _ _ _ _ (fun d g1 ⟨x, e1, q1⟩ u v go1 j1 rv => ?_) q⟩
  subst e1
  cases rv
  refine ⟨rfl, u.cl, E, g1, as, j1, r.go go1, ha.mo _ _ _ _ (fun e g2 ⟨c, m, he, hm, hf, q2⟩ u2 v2 go2 j2 rv2 => ?_) q1⟩
  subst he
  cases rv2
  exact ⟨_, _, m, [], rfl, rfl, occ_at hm hf, q2 u2 _ (go1.trans go2) j2 (.int _)⟩
end
end TL
set_option maxHeartbeats 4000000
namespace TL
open PySem PySem.Spec PyProof.Rows L2 RZ
/-! ### tuple * int -/
theorem tuple_mul1 (l : Addr) (items : Array Value) (n : Nat) (dd : Option Addr) (sl : Array (Option Value)) (u : Tok) :
    Meets (Builtin.«tuple.__mul__» ⟨[.ref l, .int 1 u], []⟩) (fun _ R s => s.heap.get? l = some { cls := .type "tuple", dict := dd, data := .seq items n, slots := sl } ∧
      R (.ok (.ret (Value.ref l))) s) :=
  .of_wp fun prog w A R s h => by
    obtain ⟨hp, g, d, tk, os⟩ := s
    obtain ⟨hl, h⟩ := h
    have f1 := AutoSeq1.idx_int
    have c1 : (items.isEmpty || (1 : Int) == 1) = true := by simp
    wp_walk using AutoSeq1.wpAny_loadPart' hl
    repeat (first
      | (refine wpAny_ite_true (decide_eq_true (by rw [c1])) ?_; wp_walk using AutoSeq1.wpAny_loadPart' hl))
    exact ⟨_, rfl, h⟩
end TL
namespace TL
open PySem PySem.Spec PyProof.Rows L2 RZ
def rRepF (K : PySem.W.Frag) : R2 := fun x y H Q => ∃ l k xs, x = .ref l ∧ y = .int k ∧ SqT K H l xs ∧ xs ≠ [] ∧ 1 ≤ k ∧ k ≤ 1000 ∧ xs.length ≤ 1000 ∧ (k = 1 → Q (.ref l) H) ∧ (2 ≤ k → ∀ p o, H p = none → o.dict = none → Q (.ref p) (upd H p (tupO o (List.replicate k.toNat xs).flatten)))
section
variable {X : Cx}
theorem op_repF : OpR X (binaryOp .Mult) (rRepF X.K) := by
  intro pins s σ H x y v u Q I rx ry h
  obtain ⟨l, k, xs, rfl, rfl, hT, hne, h1, h2, hz, q1, q2⟩ := h
  cases rx
  obtain ⟨t, rfl⟩ := ry
  obtain ⟨its, r, ⟨⟨cls, dd, data, sl⟩, ho, hc, n, hd⟩, hs⟩ := I.tuple hT
  simp only at hc hd
  subst hc hd
  by_cases k1 : k = 1
  · subst k1
    exact wpAny_binaryOp_repeat_ref (T := "tuple") (U := "int") (by decide) ⟨_, ho, rfl⟩ (fun s' => typeIs_int s' 1 t) noFill_tuple_mul F.fills_int_mul F.slot_int_rmul repeat_tuple F.slot_int_index.lookup
      (call_meets F.slot_int_rmul (typeIs_int s 1 t) F.entry_int_rmul (F.args_int_rmul_2 _ _) (int_rmul_tuple 1 t l its.toArray n dd sl)
        ⟨ho, rfl, ⟨_, ho, rfl⟩, call_meets F.slot_tuple_mul ⟨_, ho, rfl⟩ F.entry_tuple_mul (F.args_tuple_mul_2 _ _) (tuple_mul1 l its.toArray n dd sl t) ⟨ho, ⟨.ref l, H, I, rfl, q1 rfl⟩⟩⟩)
  have h1 : 2 ≤ k := by omega
  have hle : its.length = xs.length := r.length.symm
  have hn : its ≠ [] := fun e => hne (by
    rw [e] at hle
    exact List.eq_nil_of_length_eq_zero hle.symm)
  have hi : its.toArray.isEmpty = false := by
    cases its with
    | nil => exact absurd rfl hn
    | cons a b => rfl
  have hsz0 : its.toArray.size = xs.length := by rw [List.size_toArray, hle]
  have hm : ((its.toArray.size : Nat) : Int) * k ≤ 1000000 := by
    rw [hsz0]
    have a1 : ((xs.length : Nat) : Int) * k ≤ 1000 * k := Int.mul_le_mul_of_nonneg_right (by omega) (by omega)
    omega
  have flen : (List.replicate k.toNat its).flatten.length ≤ sizeLine := by
    rw [PyProof.Rows.lm_len_rep_flat, hle, sizeLine_eq]
    have a1 : k.toNat * xs.length ≤ 1000 * 1000 := Nat.mul_le_mul (by omega) hz
    omega
  have flen2 : (List.replicate k.toNat xs).flatten.length ≤ sizeLine := by
    rw [PyProof.Rows.lm_len_rep_flat, sizeLine_eq]
    have a1 : k.toNat * xs.length ≤ 1000 * 1000 := Nat.mul_le_mul (by omega) hz
    omega
  have c0 : (decide (k < -(2 ^ 63)) || decide (k ≥ 2 ^ 63)) = false := by
    rw [decide_eq_false (by omega), decide_eq_false (by omega)] <;> rfl
  have c1 : (its.toArray.isEmpty || k == 1) = false := by
    rw [hi, Bool.false_or]
    exact beq_eq_false_iff_ne.mpr (by omega)
  have c2 : (decide (k ≤ 0) || its.toArray.isEmpty) = false := by
    rw [hi, Bool.or_false]
    exact decide_eq_false (by omega)
  have c4 : Builtin.Tuple.tupleTooMany (((its.toArray.size : Nat) : Int) * k) = false := by
    unfold Builtin.Tuple.tupleTooMany
    rw [sizeLine_eq]
    exact decide_eq_false (by omega)
  refine wpAny_binaryOp_repeat_ref (T := "tuple") (U := "int") (by decide) ⟨_, ho, rfl⟩ (fun s' => typeIs_int s' k t) noFill_tuple_mul F.fills_int_mul F.slot_int_rmul repeat_tuple F.slot_int_index.lookup
    (call_meets F.slot_int_rmul (typeIs_int s k t) F.entry_int_rmul (F.args_int_rmul_2 _ _) (int_rmul_tuple k t l its.toArray n dd sl)
      ⟨ho, rfl, ⟨_, ho, rfl⟩, call_meets F.slot_tuple_mul ⟨_, ho, rfl⟩ F.entry_tuple_mul (F.args_tuple_mul_2 _ _) (tuple_mulW l its.toArray n dd sl k t c0 c1 c2 (by omega) c4 (by rw [size_rep, List.size_toArray]; exact flen)) ⟨ho, ?_⟩⟩)
  rw [size_rep]
  exact ⟨.ref s.heap.objs.size, _, laid_tup I (r.rep k.toNat) flen2, rfl, q2 h1 _ _ (I.hok.fresh (Nat.le_refl _)) rfl⟩
end
section
variable {G : Ct} {X : Cx} {K : PySem.W.Frag} {a b e : Expr} {ta tb te : TX} {pos : Pos}
def repD (k : Nat) (ds : List PyData) : List PyData := (List.replicate k ds).flatten
@[simp] def oRep : OD := fun d e g Q => ∃ ds k, d = .tuple ds ∧ e = .int k ∧ ds ≠ [] ∧ 1 ≤ k ∧ k ≤ 1000 ∧ ds.length ≤ 1000 ∧ Q (.tuple (repD k.toNat ds)) g
theorem rep_rv {w : Wd} {vs : List V} {ds : List PyData} (r : RvL K w vs ds) : ∀ n, RvL K w (List.replicate n vs).flatten (List.replicate n ds).flatten
  | 0 => .nil
  | n + 1 => by
    rw [List.replicate_succ, List.replicate_succ, List.flatten_cons, List.flatten_cons]
    exact r.app (rep_rv r n)
theorem od_rep : OpD G K (rRepF K) oRep := by
  refine ⟨fun d e g Q Q' hq ⟨ds, k, e1, e2, h1, h2, h3, h4, q⟩ => ⟨ds, k, e1, e2, h1, h2, h3, h4, hq _ _ q⟩, fun w g x y d e Q j rx ry ⟨ds, k, e1, e2, h1, h2, h3, h4, q⟩ => ?_⟩
  subst e1 e2
  have rx' := rx
  cases ry
  cases rx with
  | @tup a vs _ h r =>
    refine ⟨a, k, vs, rfl, rfl, h.sq, fun z => h1 ?_, h2, h3, by rw [r.len]; exact h4, fun z => ?_, fun z p o np hd => ?_⟩
    · subst z; cases r; rfl
    · subst z
      have : repD (1 : Int).toNat ds = ds := by simp [repD]
      rw [this] at q
      exact q w _ (Go.refl w) j rx'
    · exact q (w.new p (tupO o _) 0) _ (Go.new' np 0) (G.st0 (Go0.new np 0) j) (new_tup np hd (rep_rv r _))
theorem xe_rep (ha : XE G X a ta) (hb : XE G X b tb) : XE G X (.BinOp a .Mult b pos) (xBin ta tb oRep) := xe_op op_repF od_rep ha hb
end
end TL
namespace TL
open PySem PySem.Spec PyProof.Rows L2 RZ
section
variable {G : Ct} {X : Cx} {a : Expr} {ta : TX}
/-- x, y = e, [] with y a list of the frame's own -/
@[simp] def xPar2O (i j : Nat) (te : TX) : TSt := fun k E g => j < E.length ∧ te E g fun d g1 => k.nx ((E.set i (.v d)).set j (.hl [])) g1
theorem xs_par2O (i j : Nat) {s : Stmt} (ha : XE G X a ta) (h : ∀ ta', PE X a ta' → PS X s (tPar i j (tCons ta' (tCons (tLst tNil) tNil)))) : XS G X s (xPar2O i j ta) := by
  refine ⟨fun k k' E g h ⟨l, q⟩ => ⟨l, ha.mo _ _ _ _ (fun d g1 q1 => h.nx _ _ q1) q⟩, (h _ ha.pe).imp fun D σ H ⟨cl, E, g, as, j0, go, r, hl, q⟩ => ?_⟩
  refine ⟨cl, E, g, as, j0, r, ha.mo _ _ _ _ (fun d g1 q1 u v go1 j1 rv => ?_) q⟩
  refine ⟨Nat.zero_le _, fun p np => ⟨v, .ref p, rfl, ?_⟩⟩
  obtain ⟨bs, r1, _⟩ := (r.go go1).set i rv
  have go3 := go.trans go1
  obtain ⟨ds, r3, _⟩ := r1.newHl j np (go_fresh go3 np) (by simpa using hl)
  exact q1 (u.new p (.lst []) 1) _ ds (G.st0 (Go0.new np 1) j1) (go3.trans (Go.new' np 1)) (go1.pu.trans (Go.new' np 1).pu) r3
end
end TL
namespace TL
open PySem PySem.Spec PyProof.Rows L2 RZ
/-! ### reversed(..); text.join(..) -/
theorem rev_get {α : Type} {l : List α} {i : Nat} {d : α} (h : l.reverse[i]? = some d) : i < l.length ∧ l[l.length - 1 - i]? = some d := by
  have hl := (List.getElem?_eq_some_iff.1 h).1
  rw [List.length_reverse] at hl
  rw [List.getElem?_reverse hl] at h
  exact ⟨hl, h⟩
theorem wk_revL {K : PySem.W.Frag} {a : Addr} {xs : List V} {ds : List PyData} : Wk K false (Itv K a xs.length) ds.reverse fun w => LstA K w a xs ∧ RvL K w xs ds where
  pu := fun w u h p => ⟨h.1.pu p, h.2.pu p⟩
  go := fun i w h l => by
    rw [List.length_reverse] at l
    have l' : i < xs.length := by rw [h.2.len]; exact l
    have l2 : xs.length - 1 - i < xs.length := by omega
    exact ⟨l', xs, xs[xs.length - 1 - i], h.1.sq, List.getElem?_eq_getElem l2⟩
  stop := fun i w h l => by
    rw [List.length_reverse] at l
    show xs.length ≤ i
    rw [h.2.len]; exact l
  yld := fun i w x H' d h e y => by
    obtain ⟨e1, y⟩ := y
    obtain ⟨hl, e⟩ := rev_get e
    obtain ⟨v, e2, rv⟩ := h.2.get e
    have e3 := y xs h.1.sq
    rw [h.2.len, e2] at e3
    cases e3
    exact ⟨w, e1.symm, Go0.refl w, .of rv⟩
theorem wk_revT {K : PySem.W.Frag} {a : Addr} {xs : List V} {ds : List PyData} : Wk K false (RT.ItvT K a xs.length) ds.reverse fun w => TupA K w a xs ∧ RvL K w xs ds where
  pu := fun w u h p => ⟨h.1.pu p, h.2.pu p⟩
  go := fun i w h l => by
    rw [List.length_reverse] at l
    have l' : i < xs.length := by rw [h.2.len]; exact l
    have l2 : xs.length - 1 - i < xs.length := by omega
    exact ⟨l', xs, xs[xs.length - 1 - i], h.1.sq, List.getElem?_eq_getElem l2⟩
  stop := fun i w h l => by
    rw [List.length_reverse] at l
    show xs.length ≤ i
    rw [h.2.len]; exact l
  yld := fun i w x H' d h e y => by
    obtain ⟨e1, y⟩ := y
    obtain ⟨hl, e⟩ := rev_get e
    obtain ⟨v, e2, rv⟩ := h.2.get e
    have e3 := y xs h.1.sq
    rw [h.2.len, e2] at e3
    cases e3
    exact ⟨w, e1.symm, Go0.refl w, .of rv⟩
section
variable {G : Ct} {X : Cx} {e a tg : Expr} {te ta : TX} {p pos : Pos}
@[simp] def xiRev (te : TX) : TWk := fun E g Q => te E g fun d g' => ∃ ds, (d = .list ds ∨ d = .tuple ds) ∧ Q ds.reverse g'
theorem xi_rev (hg : Gl X "reversed") (hm : X.mg "reversed" = none) (h : XE G X e te) (hs : starEach [e] X.env = (false, eval e X.env) :: starEach [] X.env := by rfl) : XI G X false tg (.Call (.Name "reversed" p) [e] [] pos) (xiRev te) := by
  refine ⟨fun E g Q Q' hq q => h.mo _ _ _ _ (fun d g1 ⟨ds, e, q⟩ => ⟨ds, e, hq _ _ q⟩) q, (RT.pi_revA hg hm h.pe hs).imp fun σ H R ⟨cl, E, g, as, j, r, q⟩ => ?_⟩
  refine ⟨cl, E, g, as, j, r, h.mo _ _ _ _ (fun d g1 ⟨ds, e, q1⟩ u v go1 j1 rv => ?_) q⟩
  rcases e with e | e
  · subst e
    cases rv with
    | lst hl hr => exact ⟨_, _, rfl, .inl ⟨hl.sq, q1 u _ _ go1 j1 (wk_revL (xs := _)) ⟨hl, hr⟩⟩⟩
  · subst e
    cases rv with
    | tup hl hr => exact ⟨_, _, rfl, .inr ⟨hl.sq, q1 u _ _ go1 j1 (wk_revT (xs := _)) ⟨hl, hr⟩⟩⟩
@[simp] def xJoin (te ta : TX) : TX := fun E g Q => te E g fun d g1 => ∃ x : Str, d = .str x ∧ ta E g1 fun e g2 => ∃ ys : List Str, (e = .list (ys.map .str) ∨ e = .tuple (ys.map .str)) ∧ (ys.map (·.length)).sum + ys.length * x.length ≤ 16777216 ∧ Q (.str (Str.join x ys)) g2
theorem rv_strs {K : PySem.W.Frag} {u : Wd} : ∀ {xs : List V} {ys : List Str}, RvL K u xs (ys.map PyData.str) → xs = ys.map V.str := by
  intro xs ys
  induction ys generalizing xs with
  | nil => intro r; cases r; rfl
  | cons n ns ih => intro r; cases r with | cons h t => cases h; rw [ih t]; rfl
theorem xe_join {apos cpos : Pos} (he : XE G X e te) (ha : XE G X a ta) (h : ∀ te' ta', PE X e te' → PE X a ta' → PE X (.Call (.Attribute e "join" apos) [a] [] cpos) (tBM X.K "str" (fun x xs H Q => ∃ a p, ∃ ys : List Str, x = .str a ∧ xs = [.ref p] ∧ (SqL X.K H p (ys.map V.str) ∨ SqT X.K H p (ys.map V.str)) ∧
    (ys.map (·.length)).sum + ys.length * a.length ≤ 16777216 ∧ Q (.str (Txt.join a ys)) H) te' (tCons ta' tNil))) : XE G X (.Call (.Attribute e "join" apos) [a] [] cpos) (xJoin te ta) := by
  refine ⟨fun E g Q Q' hq q => he.mo _ _ _ _ (fun d g1 ⟨x, e1, q1⟩ => ⟨x, e1, ha.mo _ _ _ _ (fun e g2 ⟨ys, a2, a3, q2⟩ => ⟨ys, a2, a3, hq _ _ q2⟩) q1⟩) q, (h _ _ he.pe ha.pe).imp fun σ H Q ⟨cl, E, g, as, j, r, q⟩ => ?_⟩
  refine ⟨cl, E, g, as, j, r, he.mo _ _ _ _ (fun d g1 ⟨x, e1, q1⟩ u v go1 j1 rv => ?_) q⟩
  subst e1
  cases rv
  refine ⟨rfl, u.cl, E, g1, as, j1, r.go go1, ha.mo _ _ _ _ (fun e g2 ⟨ys, a2, a3, q2⟩ u2 v2 go2 j2 rv2 => ?_) q1⟩
  rw [← TL.join_eq] at q2
  rcases a2 with a2 | a2
  · subst a2
    cases rv2 with
    | lst hl hr =>
      have := rv_strs hr
      subst this
      exact ⟨_, _, ys, rfl, rfl, .inl hl.sq, a3, q2 u2 _ (go1.trans go2) j2 (.str _)⟩
  · subst a2
    cases rv2 with
    | tup hl hr =>
      have := rv_strs hr
      subst this
      exact ⟨_, _, ys, rfl, rfl, .inr hl.sq, a3, q2 u2 _ (go1.trans go2) j2 (.str _)⟩
end
end TL
namespace TL
open PySem PySem.Spec PyProof.Rows L2 RZ
section
variable {G : Ct} {X : Cx} {a b : Expr} {t : TN} {tb : TX} {pos : Pos}
/-- a new list times an int -/
@[simp] def xnRep (t : TN) (te : TX) : TN := fun E g Q => t E g fun ds g1 => te E g1 fun d g2 => ∃ k, d = .int k ∧ (-(2 ^ 63) ≤ k ∧ k < 2 ^ 63) ∧ ds.length * k.toNat ≤ sizeLine ∧ Q (repD k.toNat ds) g2
theorem xn_rep (ha : XN G X a t) (hb : XE G X b tb) : XN G X (.BinOp a .Mult b pos) (xnRep t tb) := by
  refine ⟨fun E g Q Q' hq q => ha.mo _ _ _ _ (fun ds g1 q1 => hb.mo _ _ _ _ (fun d g2 ⟨k, e, h1, h2, q2⟩ => ⟨k, e, h1, h2, hq _ _ q2⟩) q1) q, (pe_op op_rep ha.pe hb.pe).imp fun σ H Q ⟨cl, E, g, as, j, r, q⟩ => ?_⟩
  refine ⟨cl, E, g, as, j, r, ha.mo _ _ _ _ (fun ds g1 q1 u xs p go1 j1 rl np => ?_) q⟩
  have gn : Go u (u.new p (.lst xs) 0) := Go.new' np 0
  refine ⟨(u.new p (.lst xs) 0).cl, E, g1, as, G.st0 (Go0.new np 0) j1, (r.go go1).go gn, hb.mo _ _ _ _ (fun d g2 ⟨k, e, h1, h2, q2⟩ u2 v2 go2 j2 rv2 => ?_) q1⟩
  subst e
  cases rv2
  have hp : (u.new p (.lst xs) 0).H p = some (.lst xs) := upd_same
  have hp2 : u2.H p = some (.lst xs) := (go2.st p _ hp).2 (by show (u.new p (.lst xs) 0).cl p ≠ 2; simp [Wd.new])
  exact ⟨p, k, xs, rfl, rfl, hp2, h1.1, h1.2, by rw [rl.len]; exact h2, fun p2 np2 => q2 u2 _ p2 ((go1.trans gn).trans go2) j2 (rep_rv ((rl.go gn).go go2) _) np2⟩
/-- a new list as data -/
@[simp] def xNew (t : TN) : TX := fun E g Q => t E g fun ds g1 => Q (.list ds) g1
theorem xe_new (ha : XN G X a t) : XE G X a (xNew t) := by
  refine ⟨fun E g Q Q' hq q => ha.mo _ _ _ _ (fun ds g1 q1 => hq _ _ q1) q, ha.pe.imp fun σ H Q ⟨cl, E, g, as, j, r, q⟩ => ?_⟩
  refine ⟨cl, E, g, as, j, r, ha.mo _ _ _ _ (fun ds g1 q1 u xs p go1 j1 rl np => ?_) q⟩
  exact q1 (u.new p (.lst xs) 0) _ (go1.trans (Go.new' np 0)) (G.st0 (Go0.new np 0) j1) (new_lst np rl)
end
end TL
namespace TL
open PySem PySem.Spec PyProof.Rows L2 RZ
/-! ### lists of numbers, of texts: what == asks -/
theorem nd_ints : ∀ l : List Int, noDicts (l.map .int) = true
  | [] => rfl
  | x :: r => by simpa [noDicts, noDict] using nd_ints r
theorem nd_strs : ∀ l : List Str, noDicts (l.map .str) = true
  | [] => rfl
  | x :: r => by simpa [noDicts, noDict] using nd_strs r
theorem ev_ints : ∀ a b : List Int, PyData.eqvAll (a.map .int) (b.map .int) = decide (a = b)
  | [], [] => rfl
  | [], y :: s => rfl
  | x :: r, [] => rfl
  | x :: r, y :: s => by
    rw [List.map_cons, List.map_cons, eqv_cons, eqv_ii, ev_ints r s]
    by_cases c : x = y <;> simp [c]
theorem ev_strs : ∀ a b : List Str, PyData.eqvAll (a.map .str) (b.map .str) = decide (a = b)
  | [], [] => rfl
  | [], y :: s => rfl
  | x :: r, [] => rfl
  | x :: r, y :: s => by
    rw [List.map_cons, List.map_cons, eqv_cons, eqv_ss, ev_strs r s]
    by_cases c : x = y <;> simp [c]
mutual
theorem eqv_self : ∀ d : PyData, noDict d = true → PyData.eqv d d = true
  | .none, _ => rfl
  | .bool b, _ => by cases b <;> rfl
  | .int i, _ => by simp
  | .str x, _ => by simp
  | .tuple l, h => eqvAll_self l (by simpa [noDict] using h)
  | .list l, h => eqvAll_self l (by simpa [noDict] using h)
  | .dict l, h => by simp [noDict] at h
theorem eqvAll_self : ∀ l : List PyData, noDicts l = true → PyData.eqvAll l l = true
  | [], _ => rfl
  | x :: r, h => by
    simp only [noDicts, Bool.and_eq_true] at h
    rw [eqv_cons, eqv_self x h.1, eqvAll_self r h.2]
    rfl
end
/-- what stands in a row of texts of one sign -/
theorem signs_sum {α : Type} (f : α → Str) (h : ∀ x, (f x).length = 1) : ∀ l : List α, ((l.map f).map fun x => x.length).sum = l.length
  | [] => rfl
  | x :: r => by
    have := signs_sum f h r
    simp only [List.map_cons, List.sum_cons, List.length_cons, h] at this ⊢
    omega
end TL
namespace TL
open PySem PySem.Spec PyProof.Rows L2 RZ
theorem shaped_strs (l : List Str) (h : ∀ x ∈ l, PyData.strOk x = true) : SeqAt.shaped (.list (l.map .str)) = true := by
  have h1 : ∀ l : List Str, (∀ x ∈ l, PyData.strOk x = true) → PyData.canLayAll0 (l.map .str) = true := by
    intro l
    induction l with
    | nil => intro _; rfl
    | cons x r ih =>
      intro h
      simp [PyData.canLayAll0, PyData.canLay0, ih fun y hy => h y (List.mem_cons_of_mem _ hy), h x List.mem_cons_self]
  have h2 : ∀ l : List Str, PyData.depthAll (l.map .str) = 0 := by
    intro l
    induction l with
    | nil => rfl
    | cons x r ih => simp [PyData.depthAll, PyData.depth, ih]
  simp [SeqAt.shaped, PyData.canLay0, PyData.depth, h1 l h, h2]
end TL
namespace TL
open PySem PySem.Spec PyProof.Rows L2 RZ
section
variable {G : Ct} {X : Cx} {K : PySem.W.Frag} {a b e : Expr} {ta tb te : TX} {pos p : Pos}
/-! ### text * number -/
def repS (k : Nat) (x : Str) : Str := ⟨(List.replicate k x.cps.toList).flatten.toArray⟩
theorem repS_foldl (k : Nat) (x : Str) : (⟨(List.replicate k x.cps).foldl (· ++ ·) #[]⟩ : Str) = repS k x := by
  have h : ∀ (k : Nat) (acc : Array Nat), (List.replicate k x.cps).foldl (· ++ ·) acc = acc ++ (List.replicate k x.cps.toList).flatten.toArray := by
    intro k
    induction k with
    | zero => intro acc; simp
    | succ k ih =>
      intro acc
      rw [List.replicate_succ, List.foldl_cons, ih, List.replicate_succ, List.flatten_cons]
      apply Array.ext'
      simp
  rw [h, repS]
  simp
theorem repS_1 (x : Str) : repS 1 x = x := by simp [repS]
theorem repS_e {x : Str} (h : x.length = 0) (k : Nat) : repS k x = x := by
  have e : x.cps = #[] := Array.eq_empty_of_size_eq_zero h
  obtain ⟨c⟩ := x
  have e : c = #[] := e
  subst e
  simp [repS]
def rRepS : R2 := fun x y H Q => ∃ z k, x = .str z ∧ y = .int k ∧ 1 ≤ k ∧ k ≤ 1000000 ∧ z.length ≤ 1000000 ∧ z.length * k.toNat ≤ sizeLine ∧ Q (.str (repS k.toNat z)) H
theorem op_repS : OpR X (binaryOp .Mult) rRepS := by
  intro pins s σ H x y v u Q I rx ry h
  obtain ⟨z, k, rfl, rfl, h1, h2, h3, h4, q⟩ := h
  obtain ⟨t, rfl⟩ := rx
  obtain ⟨t', rfl⟩ := ry
  refine P.mul_str (by rw [decide_eq_false (by omega), decide_eq_false (by omega)]; rfl) (fun _ _ => ?_) (fun _ _ => ?_) ?_
  · have : (z.length : Int) ≤ (2 ^ 63 - 1) / k := by
      have : (1000000 : Int) ≤ (2 ^ 63 - 1) / k := by
        refine (Int.le_ediv_iff_mul_le (by omega)).2 ?_
        omega
      omega
    omega
  · unfold Builtin.Str.tooLong
    exact decide_eq_false (by have := sizeLine_eq; omega)
  · rw [if_neg (by omega)]
    by_cases c : (k == 1 || z.length == 0) = true
    · rw [if_pos c]
      have e : repS k.toNat z = z := by
        rw [Bool.or_eq_true, beq_iff_eq, beq_iff_eq] at c
        rcases c with c | c
        · rw [c]; exact repS_1 z
        · exact repS_e c _
      rw [e] at q
      exact ⟨.str z, H, I, ⟨t, rfl⟩, q⟩
    · rw [if_neg c, repS_foldl]
      have l : (repS k.toNat z).length ≤ sizeLine := by
        show (List.replicate k.toNat z.cps.toList).flatten.toArray.size ≤ _
        simp only [List.size_toArray, List.length_flatten, List.map_replicate, List.sum_replicate_nat, Array.length_toList]
        rw [Nat.mul_comm]
        exact h4
      exact ⟨l, .str (repS k.toNat z), H, I.tok _, ⟨_, rfl⟩, q⟩
@[simp] def oRepS : OD := fun d e g Q => ∃ z k, d = .str z ∧ e = .int k ∧ 1 ≤ k ∧ k ≤ 1000000 ∧ z.length ≤ 1000000 ∧ z.length * k.toNat ≤ sizeLine ∧ Q (.str (repS k.toNat z)) g
theorem od_repS : OpD G K rRepS oRepS := by
  refine ⟨fun d e g Q Q' hq ⟨z, k, e1, e2, h1, h2, h3, h4, q⟩ => ⟨z, k, e1, e2, h1, h2, h3, h4, hq _ _ q⟩, fun w g x y d e Q j rx ry ⟨z, k, e1, e2, h1, h2, h3, h4, q⟩ => ?_⟩
  subst e1 e2
  cases rx
  cases ry
  exact ⟨z, k, rfl, rfl, h1, h2, h3, h4, q w _ (Go.refl w) j (.str _)⟩
theorem xe_repS (ha : XE G X a ta) (hb : XE G X b tb) : XE G X (.BinOp a .Mult b pos) (xBin ta tb oRepS) := xe_op op_repS od_repS ha hb
/-! ### a slice of a text -/
@[simp] def xSliceS (te : TX) (tl th : TPo) : TX := fun E g Q => te E g fun d g1 => tl E g1 fun lo g2 => th E g2 fun hi g3 => ∃ z, d = .str z ∧ z.length ≤ sizeLine ∧ Q (.str (cutS z lo hi)) g3
theorem xe_sliceS {lo hi : Option Expr} {tl th : TPo} {p2 : Pos} (he : XE G X e te) (hl : XO G X lo tl) (hh : XO G X hi th) : XE G X (.Subscript e (.Slice lo hi none p2) pos) (xSliceS te tl th) := by
  refine ⟨fun E g Q Q' hq q => he.mo _ _ _ _ (fun d g1 q1 => hl.mo _ _ _ _ (fun l g2 q2 => hh.mo _ _ _ _ (fun h g3 ⟨z, e1, e2, q3⟩ => ⟨z, e1, e2, hq _ _ q3⟩) q2) q1) q, (pe_slice sl_str he.pe hl.po hh.po).imp fun σ H Q ⟨cl, E, g, as, j, rE, q⟩ => ?_⟩
  refine ⟨cl, E, g, as, j, rE, he.mo _ _ _ _ (fun d g1 q1 u v go1 j1 rv1 => ?_) q⟩
  refine ⟨u.cl, E, g1, as, j1, rE.go go1, hl.mo _ _ _ _ (fun l g2 q2 u2 go2 j2 => ?_) q1⟩
  refine ⟨u2.cl, E, g2, as, j2, rE.go (go1.trans go2), hh.mo _ _ _ _ (fun h g3 ⟨z, e1, e2, q3⟩ u3 go3 j3 => ?_) q2⟩
  subst e1
  cases rv1
  exact ⟨z, rfl, e2, q3 u3 _ ((go1.trans go2).trans go3) j3 (.str _)⟩
/-! ### the list of a text's signs -/
def rLstS (K : PySem.W.Frag) : List V → Hp → VK → Prop := fun xs H Q => ∃ z, xs = [.str z] ∧ z.length ≤ sizeLine ∧ ∀ l, H l = none → Q (.ref l) (upd H l (.lst (z.cps.toList.map fun c => .str ⟨#[c]⟩)))
theorem call_listS (hc : X.calm = true) : CallR X (.type "list") (rLstS K) := by
  intro pins s σ H xs us Q I r h
  obtain ⟨z, rfl, hz, q⟩ := h
  obtain ⟨u, rfl, rx⟩ := vals1 r
  obtain ⟨t, rfl⟩ := rx
  refine call_list_str (I.ok.hd hc) z t (fun h' tk acc c' hk he hi => ?_) hz
  have r' : Vals (z.cps.toList.map fun c => V.str ⟨#[c]⟩) acc.toList := by
    refine vals_of_at ?_ fun j x u h1 h2 => ?_
    · rw [List.length_map, Array.length_toList, Array.length_toList]; exact hi.1.symm
    · obtain ⟨c, tc, e1, e2⟩ := hi.2 j u (by rw [← h2, Array.getElem?_toList])
      subst e2
      rw [List.getElem?_map, Array.getElem?_toList, e1] at h1
      cases h1
      exact ⟨tc, rfl⟩
  exact ⟨.ref s.heap.objs.size, _, I.laid (t' := tk) hk (Nat.le_refl _) (show ObjOk X.prog X.w _ h' _ (.lst (z.cps.toList.map fun c => V.str ⟨#[c]⟩)) from ⟨by rw [List.length_map, Array.length_toList]; exact hz, acc.toList, c', r', by rw [Array.toArray_toList]; exact he⟩), rfl, q _ (I.hok.fresh (Nat.le_refl _))⟩
@[simp] def cLstS : CD := fun ds g Q => ∃ z, ds = [.str z] ∧ z.length ≤ sizeLine ∧ Q (.list (signsD z)) g
theorem cd_lstS : CallD G K (rLstS K) cLstS := by
  refine ⟨fun ds g Q Q' hq ⟨z, e, l, q⟩ => ⟨z, e, l, hq _ _ q⟩, fun w g vs ds Q j r ⟨z, e, l, q⟩ => ?_⟩
  subst e
  cases r with
  | cons h t =>
    cases t
    cases h
    have rl : ∀ l : List Nat, RvL K w (l.map fun c => .str ⟨#[c]⟩) (l.map fun c => .str ⟨#[c]⟩) := fun l => by
      induction l with
      | nil => exact .nil
      | cons c r ih => exact .cons (.str _) ih
    exact ⟨z, rfl, l, fun p np => q (w.new p _ 0) _ (Go.new' np 0) (G.st0 (Go0.new np 0) j) (new_lst np (rl _))⟩
end
end TL
namespace TL
open PySem PySem.Spec PyProof.Rows L2 RZ
/-! ### exceptions, by data -/
/-- the class's name, the fields -/
abbrev ExD := Str × List (Str × PyData)
def RvX (K : PySem.W.Frag) (mg : Str → Option Value) (w : Wd) (cls : Value) (d : Option Addr) (x : ExD) : Prop :=
  ∃ C, cls = .ref C ∧ mg x.1 = some (.ref C) ∧ ((x.2 = [] ∧ d = none) ∨ ∃ dd vs, d = some dd ∧ w.H dd = some (.xd ((x.2.map (·.1)).zip vs)) ∧ w.cl dd = 2 ∧ RvL K w vs (x.2.map (·.2)))
def NewX (H : Hp) (d : Option Addr) : Prop := ∀ dd, d = some dd → H dd = none
theorem NewX.go {w u : Wd} {d : Option Addr} (h : NewX u.H d) (g : Go w u) : NewX w.H d := fun dd e => by
  cases q : w.H dd with
  | none => rfl
  | some o =>
    obtain ⟨o', h'⟩ := g.tr dd o q
    rw [h dd e] at h'
    cases h'
abbrev TXR := List S → Nat → (PyData → Nat → Prop) → (ExD → Nat → Prop) → Prop
abbrev PTR := List S → Nat → (PyData → Nat → Prop) → (ExD → Nat → Prop) → Prop
abbrev RWt := ExD → List S → Nat → Prop
abbrev TSR := Kt → RWt → List S → Nat → Prop
def PMo (pt : PTR) : Prop := ∀ ss g Q Q' R R', (∀ d g', Q d g' → Q' d g') → (∀ x g', R x g' → R' x g') → pt ss g Q R → pt ss g Q' R'
section
variable (K : PySem.W.Frag) (mg : Str → Option Value) (G : Ct) (W : WX)
/-- the way out with an exception, from the world w at the slots σ -/
def outOf (w : Wd) (σ : L2.St) : ExD → Nat → Prop := fun x g' => ∀ u cls d, Go w u → G.J g' u → RvX K mg u cls d x → NewX G.w0.H d → W cls d σ u.H
/-- .., from any state of the frame -/
def wishOf : RWt := fun x E g => ∀ u σ as cls d, G.J g u → Go G.w0 u → EnvR K G u E σ as → RvX K mg u cls d x → NewX G.w0.H d → W cls d σ u.H
def liftER (t : TXR) : TE := fun σ H Q => ∃ cl E g as, G.J g ⟨H, cl⟩ ∧ Go G.w0 ⟨H, cl⟩ ∧ EnvR K G ⟨H, cl⟩ E σ as ∧ t E g (fun d g' => ∀ u v, Go ⟨H, cl⟩ u → G.J g' u → Rv K u v d → Q v u.H) (outOf K mg G W ⟨H, cl⟩ σ)
def liftSR (t : TSR) : TS := fun D σ H => ∃ cl E g as, G.J g ⟨H, cl⟩ ∧ Go G.w0 ⟨H, cl⟩ ∧ EnvR K G ⟨H, cl⟩ E σ as ∧ t (ktOf K G ⟨H, cl⟩ D) (wishOf K mg G W) E g
/-- what a def that may raise keeps -/
def spR (am : Addr) (J : Nat → Wd → Prop) (n : Nat) (pt : PTR) : Sp := fun vs H Q E => ∃ cl g ss, vs.length = n ∧ J g ⟨H, cl⟩ ∧ RvA K am ⟨H, cl⟩ vs ss ∧
  pt ss g (fun d g' => ∀ u v, Go ⟨H, cl⟩ u → J g' u → Rv K u v d → Q v u.H) (fun x g' => ∀ u cls d, Go ⟨H, cl⟩ u → J g' u → RvX K mg u cls d x → NewX H d → E cls d u.H)
end
structure XER (G : Ct) (X : Cx) (W : WX) (e : Expr) (t : TXR) : Prop where
  mo : ∀ E g Q Q' R R', (∀ d g', Q d g' → Q' d g') → (∀ x g', R x g' → R' x g') → t E g Q R → t E g Q' R'
  pe : PE X e (liftER X.K X.mg G W t)
structure XSR (G : Ct) (X : Cx) (W : WX) (s : Stmt) (t : TSR) : Prop where
  mo : ∀ k k' R R' E g, k.Le k' → (∀ x E g, R x E g → R' x E g) → t k R E g → t k' R' E g
  ps : PS X s (liftSR X.K X.mg G W t)
structure XSRs (G : Ct) (X : Cx) (W : WX) (s : List Stmt) (t : TSR) : Prop where
  mo : ∀ k k' R R' E g, k.Le k' → (∀ x E g, R x E g → R' x E g) → t k R E g → t k' R' E g
  ps : PSs X s (liftSR X.K X.mg G W t)
section
variable {G : Ct} {X : Cx} {W : WX}
/-! ### expressions -/
@[simp] def xNR (t : TX) : TXR := fun E g Q _ => t E g Q
theorem xer_of {e : Expr} {t : TX} (h : XE G X e t) : XER G X W e (xNR t) :=
  ⟨fun E g Q Q' R R' hq _ q => h.mo _ _ _ _ hq q, h.pe.imp fun σ H Q ⟨cl, E, g, as, j, _, r, q⟩ => ⟨cl, E, g, as, j, r, q⟩⟩
@[simp] def xCallR (t : TL') (pt : PTR) : TXR := fun E g Q R => t E g fun ss g1 => pt ss g1 Q R
section
variable {k : Nat} {f : Addr} {fd : FuncData} {ps : List Str} {x : Str} {p pos : Pos} {e : Expr} {es : List Expr} {t : TL'} {n : Nat} {pt : PTR}
theorem pe_callSG {sp : Sp} {ta : TA} {E : L2.St → XK} (F : FnG X.prog X.w X.K X.mg X.base (L2.CX X.prog X.w) k f fd ps sp) (hr : Room k X.A) (hgu : X.A.guards = some []) (hg : Gl X x) (hm : X.mg x = some (.ref f)) (hk : PySem.W.keepIn X.K (.ref f) = true) (hb : Binds X.K fd ps [])
    (hx : ∀ σ, PassesAt (L2.CX X.prog X.w) X σ (E σ)) (ha : PA X (e :: es) ta) (hdb : (x == ("__debug__" : Str)) = false := by decide)
    (he : starEach (e :: es) X.env = (false, eval e X.env) :: starEach es X.env := by rfl) (hpl : (backTo pos (starEach es X.env)).any (·.1) = false := by rfl) : PE X (.Call (.Name x p) (e :: es) [] pos) (tCallS sp E ta) := by
  refine ⟨fun pins s σ H Q I h => wpAny_Call_Name_kw (ld_glob I hg hm ?_ hdb)⟩
  refine PySem.W.callWith_K (h₀ := X.base) I.ok.mod.kin hk (thn (ha.run pos pins s σ H _ I h) fun us s1 ⟨vs, H1, I1, r, q⟩ => ⟨I1.kIn, ?_⟩) he hpl
  have bz : us.length = ps.length := r.length.symm.trans (F.len _ _ _ _ q)
  have bb : BindsTo s1 fd ⟨us, []⟩ (ps.zip us) := by
    have := hb s1 us I1.kIn (by rw [List.append_nil]; exact bz)
    rwa [List.append_nil] at this
  refine wpAny_call (codeAny_mono (F.run X.A X.stack s1 H1 ⟨us, []⟩ us vs Q (E σ) hr hgu I1.env0 bb r q) fun out s2 ho => ?_)
  rcases out with er | fl
  · exact hx σ pins H1 s1 er s2 I1 ho
  · cases fl with
    | ret u => exact I1.after ho
    | next => exact ho.elim
    | brk => exact ho.elim
    | cont => exact ho.elim
theorem xer_call (F : FnG X.prog X.w X.K X.mg X.base (L2.CX X.prog X.w) k f fd ps (spR X.K X.mg G.am G.J n pt)) (mo : PMo pt) (tk : Takes X W) (hr : Room k X.A) (hgu : X.A.guards = some []) (hg : Gl X x) (hm : X.mg x = some (.ref f)) (hk : PySem.W.keepIn X.K (.ref f) = true) (hb : Binds X.K fd ps [])
    (ha : XAl G X (e :: es) t n) (hdb : (x == ("__debug__" : Str)) = false := by decide) (he : starEach (e :: es) X.env = (false, eval e X.env) :: starEach es X.env := by rfl) (hpl : (backTo pos (starEach es X.env)).any (·.1) = false := by rfl) :
    XER G X W (.Call (.Name x p) (e :: es) [] pos) (xCallR t pt) := by
  have hl := ha.len
  have ha := ha.xa
  refine ⟨fun E g Q Q' R R' hq hr q => ha.mo _ _ _ _ (fun ss g1 q1 => mo _ _ _ _ _ _ hq hr q1) q, (pe_callSG F hr hgu hg hm hk hb (fun σ => passAt tk σ) ha.pa hdb he hpl).imp fun σ H Q ⟨cl, E, g, as, j, go, r, q⟩ => ?_⟩
  refine ⟨cl, E, g, as, j, r, ha.mo _ _ _ _ (fun ss g1 ⟨l, q1⟩ u vs go1 j1 rs => ?_) (hl _ _ _ q)⟩
  refine ⟨u.cl, g1, ss, by rw [rs.len]; exact l, j1, rs, mo _ _ _ _ _ _ (fun d g2 q2 u2 v2 go2 j2 r2 => q2 u2 v2 (go1.trans go2) j2 r2) (fun x g2 q2 u2 cls d go2 j2 r2 nx => ?_) q1⟩
  exact q2 u2 cls d (go1.trans go2) j2 r2 (NewX.go (w := G.w0) (u := u) nx (go.trans go1))
end
/-- a if c else b -/
@[simp] def xIfR (t : TC) (ta tb : TXR) : TXR := fun E g Q R => t E g fun b g1 => if b = true then ta E g1 Q R else tb E g1 Q R
theorem xer_if {c a b : Expr} {tA : TC} {ta tb : TXR} {pos : Pos} (hc : XC G X c tA) (ha : XER G X W a ta) (hb : XER G X W b tb) : XER G X W (.IfExp c a b pos) (xIfR tA ta tb) := by
  refine ⟨fun E g Q Q' R R' hq hr q => hc.mo _ _ _ _ (fun b g1 q1 => ?_) q, (pe_ifExp hc.pt ha.pe hb.pe).imp fun σ H Q ⟨cl, E, g, as, j, go, r, q⟩ => ?_⟩
  · cases b with
    | true => exact ha.mo _ _ _ _ _ _ hq hr q1
    | false => exact hb.mo _ _ _ _ _ _ hq hr q1
  · refine ⟨cl, E, g, as, j, r, hc.mo _ _ _ _ (fun b g1 q1 u go1 j1 => ?_) q⟩
    cases b with
    | true => exact ⟨u.cl, E, g1, as, j1, go.trans go1, r.go go1, ha.mo _ _ _ _ _ _ (fun d g2 q2 u2 v2 go2 j2 r2 => q2 u2 v2 (go1.trans go2) j2 r2) (fun x g2 q2 u2 cls d go2 => q2 u2 cls d (go1.trans go2)) q1⟩
    | false => exact ⟨u.cl, E, g1, as, j1, go.trans go1, r.go go1, hb.mo _ _ _ _ _ _ (fun d g2 q2 u2 v2 go2 j2 r2 => q2 u2 v2 (go1.trans go2) j2 r2) (fun x g2 q2 u2 cls d go2 => q2 u2 cls d (go1.trans go2)) q1⟩
/-! ### statements -/
@[simp] def xrOf (t : TSt) : TSR := fun k _ => t k
theorem xr_of {s : Stmt} {t : TSt} (h : XS G X s t) : XSR G X W s (xrOf t) := ⟨fun k k' R R' E g hk _ q => h.mo _ _ _ _ hk q, h.ps⟩
theorem xrs_of {s : List Stmt} {t : TSt} (h : XSs G X s t) : XSRs G X W s (xrOf t) := ⟨fun k k' R R' E g hk _ q => h.mo _ _ _ _ hk q, h.ps⟩
theorem xrs_one {s : Stmt} {t : TSR} (h : XSR G X W s t) : XSRs G X W [s] t := ⟨h.mo, pss_one h.ps⟩
@[simp] def xrSeq (t u : TSR) : TSR := fun k R E g => t { k with nx := u k R } R E g
theorem xrs_cons {s : Stmt} {rest : List Stmt} {t u : TSR} (h1 : XSR G X W s t) (h2 : XSRs G X W rest u) : XSRs G X W (s :: rest) (xrSeq t u) := by
  refine ⟨fun k k' R R' E g h hr q => h1.mo _ _ _ _ _ _ (ktLe h _ _ fun E g q2 => h2.mo _ _ _ _ _ _ h hr q2) hr q, (pss_cons h1.ps h2.ps).imp fun D σ H ⟨cl, E, g, as, j, go, r, q⟩ => ?_⟩
  refine ⟨cl, E, g, as, j, go, r, h1.mo { ktOf X.K G ⟨H, cl⟩ D with nx := u (ktOf X.K G ⟨H, cl⟩ D) (wishOf X.K X.mg G W) } _ _ _ _ _ ⟨fun E1 g1 q1 x σ1 as1 j1 go1 p1 r1 => ?_, fun d g1 q1 => q1, fun E1 g1 q1 => q1, fun E1 g1 q1 => q1⟩ (fun x E g q => q) q⟩
  exact ⟨x.cl, E1, g1, as1, j1, go1, r1, h2.mo _ _ _ _ _ _ (ktOf_le p1) (fun x E g q => q) q1⟩
@[simp] def xrIf (c : TC) (t u : TSR) : TSR := fun k R E g => c E g fun b g1 => if b = true then t k R E g1 else u k R E g1
theorem xr_if {c : Expr} {a b : List Stmt} {tc : TC} {t u : TSR} {pos : Pos} (hc : XC G X c tc) (ha : XSRs G X W a t) (hb : XSRs G X W b u) : XSR G X W (.If c a b pos) (xrIf tc t u) := by
  refine ⟨fun k k' R R' E g h hr q => hc.mo _ _ _ _ (fun b g1 q1 => ?_) q, (ps_if hc.pt ha.ps hb.ps).imp fun D σ H ⟨cl, E, g, as, j, go, r, q⟩ => ?_⟩
  · cases b with
    | true => exact ha.mo _ _ _ _ _ _ h hr q1
    | false => exact hb.mo _ _ _ _ _ _ h hr q1
  · refine ⟨cl, E, g, as, j, r, hc.mo _ _ _ _ (fun b g1 q1 u go1 j1 => ?_) q⟩
    cases b with
    | true => exact ⟨u.cl, E, g1, as, j1, go.trans go1, r.go go1, ha.mo _ _ _ _ _ _ (ktOf_le go1.pu) (fun x E g q => q) q1⟩
    | false => exact ⟨u.cl, E, g1, as, j1, go.trans go1, r.go go1, hb.mo _ _ _ _ _ _ (ktOf_le go1.pu) (fun x E g q => q) q1⟩
section
variable {e : Expr} {te : TXR} {pos : Pos}
/-- out of an expression -/
theorem outOf_of {w : Wd} {σ : L2.St} {E : List S} {as : List Addr} {x : ExD} {g : Nat} (go : Go G.w0 w) (r : EnvR X.K G w E σ as) (h : wishOf X.K X.mg G W x E g) : outOf X.K X.mg G W w σ x g :=
  fun u cls d go1 j rx nx => h u σ as cls d j (go.trans go1) (r.go go1) rx nx
@[simp] def xrRet (te : TXR) : TSR := fun k R E g => te E g k.rt fun x g' => R x E g'
theorem xr_ret (he : XER G X W e te) : XSR G X W (.Return (some e) pos) (xrRet te) := by
  refine ⟨fun k k' R R' E g h hr q => he.mo _ _ _ _ _ _ h.rt (fun x g' => hr x E g') q, (ps_ret he.pe).imp fun D σ H ⟨cl, E, g, as, j, go, r, q⟩ => ?_⟩
  exact ⟨cl, E, g, as, j, go, r, he.mo _ _ _ _ _ _ (fun d g1 q1 u v go1 j1 rv => q1 u v j1 (go.trans go1) rv) (fun x g1 q1 => outOf_of go r q1) q⟩
@[simp] def xrDrop (te : TXR) : TSR := fun k R E g => te E g (fun _ g1 => k.nx E g1) fun x g' => R x E g'
theorem xr_expr (he : XER G X W e te) (hs : swapsWith e none pos.line X.env = pure false := by rfl) : XSR G X W (.Expr e pos) (xrDrop te) := by
  refine ⟨fun k k' R R' E g h hr q => he.mo _ _ _ _ _ _ (fun d g1 q1 => h.nx _ _ q1) (fun x g' => hr x E g') q, (ps_expr he.pe hs).imp fun D σ H ⟨cl, E, g, as, j, go, r, q⟩ => ?_⟩
  exact ⟨cl, E, g, as, j, go, r, he.mo _ _ _ _ _ _ (fun d g1 q1 u v go1 j1 rv => q1 u σ as j1 (go.trans go1) go1.pu (r.go go1)) (fun x g1 q1 => outOf_of go r q1) q⟩
@[simp] def xrAsg (te : TXR) (t : TT') : TSR := fun k R E g => te E g (fun d g1 => t d E g1 fun E' => k.nx E' g1) fun x g' => R x E g'
theorem xr_set (i : Nat) {x : Str} {pos' : Pos} (he : XER G X W e te) (h : ∀ te', PE X e te' → PS X (.Assign [.Name x pos'] e pos) (tAsg te' (gName i))) : XSR G X W (.Assign [.Name x pos'] e pos) (xrAsg te (yName i)) := by
  refine ⟨fun k k' R R' E g h hr q => he.mo _ _ _ _ _ _ (fun d g1 q1 => h.nx _ _ q1) (fun x g' => hr x E g') q, (h _ he.pe).imp fun D σ H ⟨cl, E, g, as, j, go, r, z⟩ => ?_⟩
  refine ⟨cl, E, g, as, j, go, r, he.mo _ _ _ _ _ _ (fun d g1 z1 u v go1 j1 rv => ?_) (fun x g1 q1 => outOf_of go r q1) z⟩
  obtain ⟨bs, r1, hb⟩ := (r.go go1).set i rv
  exact z1 u _ bs j1 (go.trans go1) go1.pu r1
theorem xr_asg {b : Bool} {tg : Expr} {t : TT'} {sl : List Nat} (he : XER G X W e te) (hg : XG G X b tg t sl) (hs : swapsWithSole [tg] e pos.line X.env = pure false := by rfl) (hw : swappedStores [tg] e X.env = pure none := by rfl)
    (h1 : (assignEach [tg] X.env).map (·.2) = [assign tg X.env] := by rfl) : XSR G X W (.Assign [tg] e pos) (xrAsg te t) := by
  obtain ⟨m, tt, p, q⟩ := hg
  refine ⟨fun k k' R R' E g h hr q => he.mo _ _ _ _ _ _ (fun d g1 q1 => m _ _ _ _ _ (fun E' q2 => h.nx _ _ q2) q1) (fun x g' => hr x E g') q, (ps_asg he.pe p hs hw h1).imp fun D σ H ⟨cl, E, g, as, j, go, r, z⟩ => ?_⟩
  refine ⟨cl, E, g, as, j, go, r, he.mo _ _ _ _ _ _ (fun d g1 z1 u v go1 j1 rv => ?_) (fun x g1 q1 => outOf_of go r q1) z⟩
  refine q u g1 v d σ E as _ j1 (r.go go1) (.of rv) (m _ _ _ _ _ (fun E' z2 σ' bs hb tc r2 => ?_) z1)
  exact z2 u σ' bs j1 (go.trans go1) go1.pu r2
end
/-! ### for, whose body may raise -/
@[simp] def forTR (y : TT') (tb : TSR) : List PyData → Kt → RWt → List S → Nat → Prop
  | [], k, R, E, g => k.nx E g
  | d :: r, k, R, E, g => y d E g fun E' => tb (ktLoop k fun E2 g2 => forTR y tb r k R E2 g2) R E' g
@[simp] def xrFor (t : TWk) (y : TT') (tb : TSR) : TSR := fun k R E g => t E g fun ds g1 => forTR y tb ds k R E g1
theorem forTR_mo {y : TT'} {tb : TSR} (hy : ∀ d E g Q Q', (∀ E', Q E' → Q' E') → y d E g Q → y d E g Q') (hb : ∀ k k' R R' E g, k.Le k' → (∀ x E g, R x E g → R' x E g) → tb k R E g → tb k' R' E g) :
    ∀ (ds : List PyData) (k k' : Kt) (R R' : RWt) (E : List S) (g : Nat), k.Le k' → (∀ x E g, R x E g → R' x E g) → forTR y tb ds k R E g → forTR y tb ds k' R' E g
  | [], k, k', R, R', E, g, h, hr, q => h.nx _ _ q
  | d :: r, k, k', R, R', E, g, h, hr, q => hy _ _ _ _ _ (fun E' q1 => hb (ktLoop k fun E2 g2 => forTR y tb r k R E2 g2) (ktLoop k' fun E2 g2 => forTR y tb r k' R' E2 g2) R R' _ _ ⟨fun E2 g2 q2 => forTR_mo hy hb r k k' R R' E2 g2 h hr q2, h.rt, h.nx, fun E2 g2 q2 => forTR_mo hy hb r k k' R R' E2 g2 h hr q2⟩ hr q1) q
theorem xr_for {tg it : Expr} {t : TWk} {y : TT'} {tb : TSR} {sl : List Nat} {body : List Stmt} {pos : Pos} {b : Bool} (hp : PassesOwn (model X.prog X.w) X.A X.env X.xe) (hc : X.calm = true) (hi : XI G X b tg it t) (hg : XG G X b tg y sl) (hb : XSRs G X W body tb)
    (hs : ∀ x, foldedSetIterable it X.env x = pure x := by intro _; rfl) : XSR G X W (.For tg it body [] pos) (xrFor t y tb) := by
  obtain ⟨my, gt, pg, qg⟩ := hg
  refine ⟨fun k k' R R' E g h hr q => hi.mo _ _ _ _ (fun ds g1 q1 => forTR_mo my hb.mo _ _ _ _ _ _ _ h hr q1) q, (ps_for hp hc hi.pi pg hb.ps hs).imp fun D σ H ⟨cl, E, g, as, j, go, r, q⟩ => ?_⟩
  refine ⟨cl, E, g, as, j, r, hi.mo _ _ _ _ (fun ds g1 q1 u jt P go1 j1 wk pP => ?_) q⟩
  generalize hR : wishOf X.K X.mg G W = R at q1
  refine ⟨fun i m σ H' => m = ds.length - i ∧ i ≤ ds.length ∧ ∃ cl' E' g' as', G.J g' ⟨H', cl'⟩ ∧ Go G.w0 ⟨H', cl'⟩ ∧ Pu ⟨H, cl⟩ ⟨H', cl'⟩ ∧ EnvR X.K G ⟨H', cl'⟩ E' σ as' ∧ P ⟨H', cl'⟩ ∧ forTR y tb (ds.drop i) (ktOf X.K G ⟨H, cl⟩ D) R E' g',
    ⟨ds.length, by simp, Nat.zero_le _, u.cl, E, g1, as, j1, go.trans go1, go1.pu, r.go go1, pP, by simpa using q1⟩, ?_⟩
  rintro i m σ1 H1 ⟨rfl, hi', cl1, E1, g2, as1, j2, go2, pu2, r2, p2, q2⟩
  by_cases hlt : i < ds.length
  · refine .inr ⟨wk.go i ⟨H1, cl1⟩ p2 hlt, fun σ' H' => i + 1 ≤ ds.length ∧ ∃ cl' E' g' as', G.J g' ⟨H', cl'⟩ ∧ Go G.w0 ⟨H', cl'⟩ ∧ Pu ⟨H, cl⟩ ⟨H', cl'⟩ ∧ EnvR X.K G ⟨H', cl'⟩ E' σ' as' ∧ P ⟨H', cl'⟩ ∧ forTR y tb (ds.drop (i + 1)) (ktOf X.K G ⟨H, cl⟩ D) R E' g',
      fun σ' H' hN => ⟨ds.length - (i + 1), by omega, rfl, hN.1, hN.2⟩, fun x H' hy => ?_⟩
    have ed : ds.drop i = ds[i] :: ds.drop (i + 1) := List.drop_eq_getElem_cons hlt
    rw [ed] at q2
    obtain ⟨u3, e3, g03, rv3⟩ := wk.yld i ⟨H1, cl1⟩ x H' ds[i] p2 (List.getElem?_eq_getElem hlt) hy
    subst e3
    have go3 := go2.trans g03.go
    refine qg u3 g2 x ds[i] σ1 E1 as1 _ (G.st0 g03 j2) (r2.go g03.go) rv3 (my _ _ _ _ _ (fun E4 q4 σ4 bs hbs tc r4 => ?_) q2)
    refine ⟨u3.cl, E4, g2, bs, G.st0 g03 j2, go3, r4, hb.mo (ktLoop (ktOf X.K G ⟨H, cl⟩ D) fun E2 g2 => forTR y tb (List.drop (i + 1) ds) (ktOf X.K G ⟨H, cl⟩ D) R E2 g2) _ R _ _ _ ⟨fun E5 g5 q5 x5 σ5 as5 j5 go5 pu5 r5 => ?_, fun d g5 q5 => q5, fun E5 g5 q5 x5 σ5 as5 j5 go5 pu5 r5 => ?_, fun E5 g5 q5 x5 σ5 as5 j5 go5 pu5 r5 => ?_⟩ (fun x E g q => by rw [hR]; exact q) q4⟩
    · exact ⟨hlt, x5.cl, E5, g5, as5, j5, go5, (pu2.trans g03.go.pu).trans pu5, r5, wk.pu _ _ (wk.pu _ _ p2 g03.go.pu) pu5, q5⟩
    · exact q5 x5 σ5 as5 j5 go5 ((pu2.trans g03.go.pu).trans pu5) r5
    · exact ⟨hlt, x5.cl, E5, g5, as5, j5, go5, (pu2.trans g03.go.pu).trans pu5, r5, wk.pu _ _ (wk.pu _ _ p2 g03.go.pu) pu5, q5⟩
  · have e : i = ds.length := by omega
    subst e
    rw [List.drop_length] at q2
    exact .inl ⟨wk.stop _ ⟨H1, cl1⟩ p2 (Nat.le_refl _), q2 ⟨H1, cl1⟩ σ1 as1 j2 go2 pu2 r2⟩
end
/-! ### a def that may raise -/
section
variable {P : Program} {w : World} {K : PySem.W.Frag} {mg : Str → Option Value} {base : Heap}
theorem fn_okR {G : Ct} {x qual : Str} {st : Stmt} {f : Addr} {fd : FuncData} {N ps : List Str} {k n : Nat} {pt : PTR} (F : Fun K x qual st f fd) (Sc : FnScope N ps (defScope st)) (hn : n = ps.length) (mo : PMo pt)
    (body : ∀ (u : Wd) (X : Cx) (cdv : Value) (A : Around) (outer : List Env) (s : Shared) (H : Hp) (E : XK), X = cxOf (L2.CX P w) P w K mg base N qual (defScope st) f cdv A outer s H E → Room k X.A → X.A.guards = some [] → PassesOwn (model X.prog X.w) X.A X.env X.xe → Takes X (fun cls d _ H => E cls d H) →
      ∃ tb, XSRs (G.at u) X (fun cls d _ H => E cls d H) (defBody st) tb ∧ ∀ ss g Q R, ss.length = n → pt ss g Q R → tb { nx := fun _ g' => Q .none g', rt := Q } (fun x _ g' => R x g') (envOf N ss) g) :
    FnG P w K mg base (L2.CX P w) (k + 1) f fd ps (spR K mg G.am G.J n pt) := by
  obtain ⟨oc, od, kV, doc, pm, an, cdv, ct, osl, rfl, lk, hcd⟩ := F.ex
  refine fn_ofG lk hcd Sc (fun vs H Q E ⟨cl, g, ss, l, _⟩ => l.trans hn) fun A outer s H vs Q E hr hgu ⟨cl, g, ss, l, j, r, q⟩ => ?_
  obtain ⟨tb, b, sp⟩ := body ⟨H, cl⟩ _ cdv A outer s H E rfl hr hgu (passes_of rfl) (takes_of rfl rfl rfl rfl)
  refine ⟨_, b.ps, cl, envOf N ss, g, [], j, Go.refl _, ?_, b.mo { nx := fun _ g' => (fun d g' => ∀ u v, Go ⟨H, cl⟩ u → G.J g' u → Rv K u v d → Q v u.H) .none g', rt := fun d g' => ∀ u v, Go ⟨H, cl⟩ u → G.J g' u → Rv K u v d → Q v u.H } _ _ _ _ _ ⟨fun E1 g1 q1 u σ as j1 go1 p1 r1 => q1 u .non go1 j1 .non, fun d g1 q1 u v j1 go1 rv => q1 u v go1 j1 rv, fun E1 g1 q1 => q1.elim, fun E1 g1 q1 => q1.elim⟩ (fun x E1 g1 q1 u σ as cls d j1 go1 r1 rx nx => q1 u cls d go1 j1 rx nx) (sp ss g _ _ (by rw [← r.len]; exact l) q)⟩
  have e : N.length - vs.length = N.length - ss.length := by rw [r.len]
  show EnvR _ _ _ (ss ++ _) (vs.map some ++ List.replicate (N.length - vs.length) none) []
  rw [e]
  exact envR_start (G := G.at ⟨H, cl⟩) (N := N) r _
/-- where it raises nothing -/
abbrev ptQ (pt : PTR) : PT' := fun ss g Q => pt ss g Q fun _ _ => False
theorem ptQ_mo {pt : PTR} (mo : PMo pt) : ∀ ss g Q Q', (∀ d g', Q d g' → Q' d g') → ptQ pt ss g Q → ptQ pt ss g Q' := fun ss g Q Q' hq q => mo _ _ _ _ _ _ hq (fun _ _ z => z) q
theorem FnG.quiet {am : Addr} {J : Nat → Wd → Prop} {k n : Nat} {f : Addr} {fd : FuncData} {ps : List Str} {pt : PTR} (mo : PMo pt) (F : FnG P w K mg base (L2.CX P w) k f fd ps (spR K mg am J n pt)) : FnG P w K mg base CX0 k f fd ps (spD K am J n (ptQ pt)) := by
  have up : ∀ vs H Q, spD K am J n (ptQ pt) vs H Q E0 → spR K mg am J n pt vs H Q fun _ _ _ => False := fun vs H Q ⟨cl, g, ss, l, j, r, q⟩ => ⟨cl, g, ss, l, j, r, mo _ _ _ _ _ _ (fun _ _ q => q) (fun _ _ z => z.elim) q⟩
  refine ⟨fun vs H Q E q => F.len vs H Q _ (up vs H Q q), fun A outer s H args us vs Q E hr hgu he hb hv hs => codeAny_mono (F.run A outer s H args us vs Q (fun _ _ _ => False) hr hgu he hb hv (up vs H Q hs)) fun out s' ho => ?_⟩
  rcases out with er | fl
  · obtain ⟨_, _, _, _, _, _, _, _, _, _, _, _, z⟩ := ho
    exact z.elim
  · cases fl with
    | ret u => exact ho
    | next => exact ho
    | brk => exact ho
    | cont => exact ho
end
end TL
namespace TL
open PySem PySem.Spec PyProof.Rows L2 RZ
/-! ### try .. except A as x .. except B .. -/
abbrev Clz := Value × Option Nat × (Addr → Value → Option Addr → TS)
/-- the ends of a suite whose name goes behind it -/
def endsAs (i : Nat) (D : Ends) : Ends := { nx := fun σ' H' => D.nx (σ'.set i none) H', rt := D.rt, bk := fun σ' H' => D.bk (σ'.set i none) H', ct := fun σ' H' => D.ct (σ'.set i none) H' }
def wMs (K : PySem.W.Frag) (Wout : WX) (D : Ends) : List Clz → WX
  | [] => Wout
  | (c, none, ts) :: more => fun cls d σ H => ∃ yes, PySem.W.exmOne K cls c = some yes ∧ (yes = true → ∀ a, H a = none → ts a cls d D σ H) ∧ (yes = false → wMs K Wout D more cls d σ H)
  | (c, some i, ts) :: more => fun cls d σ H => ∃ yes, PySem.W.exmOne K cls c = some yes ∧ (yes = true → ∀ a, H a = none → ts a cls d (endsAs i D) (σ.set i (some (.ref a))) H) ∧ (yes = false → wMs K Wout D more cls d σ H)
/-- a suite, wherever the exception stands -/
def SuiteOk (X : Cx) (b₀ : Stmt) (suite : List Stmt) (ts : Addr → Value → Option Addr → TS) : Prop :=
  ∀ (a : Addr) (oe : Obj) (cls : Value) (d : Option Addr) (pn : List (Addr × Obj)), Zc cls d oe → (∃ vs, oe.data = .fields vs) → PSs (X.suite a ((a, oe) :: pn)) (b₀ :: suite) (ts a cls d)
inductive ClzOk (X : Cx) : List ExceptHandler → List Clz → Prop
  | nil : ClzOk X [] []
  | plain {x : Str} {c : Value} {ts : Addr → Value → Option Addr → TS} {b₀ : Stmt} {suite : List Stmt} {np pp : Pos} {hds : List ExceptHandler} {l : List Clz} (hc : Names X x c) (su : SuiteOk X b₀ suite ts) (more : ClzOk X hds l) :
      ClzOk X (.ExceptHandler (some (.Name x np)) none (b₀ :: suite) pp :: hds) ((c, none, ts) :: l)
  | named {x n : Str} {i : Nat} {c : Value} {ts : Addr → Value → Option Addr → TS} {b₀ : Stmt} {suite : List Stmt} {np pp : Pos} {hds : List ExceptHandler} {l : List Clz} (hc : Names X x c) (hi : X.N[i]? = some n) (hn : X.env.kindOf n = some .local)
      (su : SuiteOk X b₀ suite ts) (more : ClzOk X hds l) : ClzOk X (.ExceptHandler (some (.Name x np)) (some n) (b₀ :: suite) pp :: hds) ((c, some i, ts) :: l)
section
variable {X : Cx} {pins : List (Addr × Obj)} {σ : L2.St} {H : Hp} {sI s : Shared} {B : Heap} {a : Addr} {cls : Value} {d : Option Addr} {Wout : WX} {D : Ends}
/-- the exception's object is no frame's -/
theorem exc_apart (hf : X.env.frame = some X.env.locals) (fl : HandSPX.FlyingZ B (X.env :: X.outer) a (Zc cls d) s.heap) : a ≠ X.env.locals ∧ a ∉ X.fs := by
  obtain ⟨ob, vs, e1, _, e2⟩ := fl.there
  have no : a ∉ frs (X.env :: X.outer) := fun hm => by
    obtain ⟨_, o', e', hnf⟩ := fl.2.2.1.mem hm
    have e3 := e1.symm.trans e'
    cases e3
    exact hnf _ e2
  refine ⟨fun z => no (List.mem_filterMap.mpr ⟨X.env, List.mem_cons_self, by rw [hf, z]⟩), fun hm => ?_⟩
  obtain ⟨env, he, q⟩ := List.mem_filterMap.mp hm
  exact no (List.mem_filterMap.mpr ⟨env, List.mem_cons_of_mem _ he, q⟩)
/-- what the state is while an exception flies over the frame that looks at its clauses -/
structure Caught (X : Cx) (pins : List (Addr × Obj)) (σ : L2.St) (H : Hp) (sI s : Shared) (B : Heap) (a : Addr) (cls : Value) (d : Option Addr) : Prop where
  inv : Inv X pins σ H sI
  nb : ∀ b o, sI.heap.get? b = some o → b ∉ frs X.stack → B.get? b = some o
  up : sI.heap.UpToSlots s.heap
  os : s.os = sI.os
  ag : AllBare s.gens
  na : H a = none
  fl : HandSPX.FlyingZ B (X.env :: X.outer) a (Zc cls d) s.heap
theorem Caught.now (c : Caught X pins σ H sI s B a cls d) : Inv X pins σ H s := c.inv.landed c.nb c.fl.1 c.up c.os c.ag
theorem Caught.in (c : Caught X pins σ H sI s B a cls d) (hf : X.env.frame = some X.env.locals) : ∃ oe, Zc cls d oe ∧ (∃ vs, oe.data = .fields vs) ∧ s.heap.get? a = some oe ∧ Inv (X.suite a ((a, oe) :: (X.pn ++ pins))) [] σ H s := by
  obtain ⟨oe, vs, he, hz, hd⟩ := c.fl.there
  obtain ⟨n1, n2⟩ := exc_apart hf c.fl
  exact ⟨oe, hz, ⟨vs, hd⟩, he, c.now.suite he hd c.na n1 n2⟩
theorem Caught.on (c : Caught X pins σ H sI s B a cls d) {h : Heap} (fl : HandSPX.FlyingZ B (X.env :: X.outer) a (Zc cls d) h) (up : s.heap.UpToSlots h) : Caught X pins σ H sI { s with heap := h } B a cls d :=
  ⟨c.inv, c.nb, c.up.trans up, c.os, c.ag, c.na, fl⟩
/-- the test of a clause -/
theorem clause_test {x : Str} {np : Pos} {c : Value} {b : Bool} {Q : Bool → Shared → Prop} {E : Value → Shared → Prop} (C : Caught X pins σ H sI s B a cls d) (hf : X.env.frame = some X.env.locals) (hc : Names X x c) (hb : PySem.W.exmOne X.K cls c = some b) (q : Q b s) :
    wpAny (model X.prog X.w) (X.A.mark (some (.ref a))) (eval (.Name x np) X.env) (fun v s₁ => wpAny (model X.prog X.w) (X.A.mark (some (.ref a))) (excMatches (.ref a) v) Q E s₁) E s := by
  obtain ⟨oe, hz, hd, he, I⟩ := C.in hf
  have LT : PySem.W.Looks (model X.prog X.w) s.heap (typeOf (.ref a)) cls := fun A Q E s k q => wpAny_typeOf_ref (k _ _ he) (by rw [hz.1]; exact q)
  have LM := PySem.W.exm_one (M := model X.prog X.w) C.now.kIn LT hb
  obtain ⟨g1, g2, g3 | ⟨g3, g4, g5⟩⟩ := hc
  · exact ld_glob (X := X.suite a ((a, oe) :: (X.pn ++ pins))) I g1 g3 (LM.here q) g2
  · exact ld_blt (X := X.suite a ((a, oe) :: (X.pn ++ pins))) I g1 g3 g4 (LM.here q) g5 g2
theorem handle_ms (ok : X.Ok) (hs : X.stack = X.env :: X.outer) (hf : X.env.frame = some X.env.locals) (hN : X.N.Nodup) (tk : Takes X Wout) : ∀ {hds : List ExceptHandler} {l : List Clz}, ClzOk X hds l → ∀ {s : Shared}, Caught X pins σ H sI s B a cls d → wMs X.K Wout D l cls d σ H →
    wpAny (model X.prog X.w) X.A (handleBy (.ref a) X.env hds) (SP X pins D) X.xe s := by
  intro hds l hk
  induction hk with
  | nil =>
    intro s C w
    refine wpAny_handleBy_nil ?_
    obtain ⟨_, _, _, oe, vs, T, _, _, he, _, hd, h1, _⟩ := id C.fl
    unfold PySem.passOn
    refine wpAny_bind (wpAny_field he hd h1 ?_)
    rw [if_neg (show ¬ ((Value.ref T == Value.none) = true) from by simp)]
    have last : wpAny (model X.prog X.w) X.A (setFlight (.ref a) X.env.frame) (fun _ s' => wpAny (model X.prog X.w) X.A (throw (.ref a) : Sem Flow) (SP X pins D) X.xe s') X.xe s := by
      rw [hf]
      exact HandSPX.setFlight_upZ C.fl fun h' held up' => wpAny_throw (tk _ _ ⟨a, B, sI, pins, σ, H, cls, d, rfl, C.inv, C.nb, C.up.trans up', .inr (.inr (by rw [hs]; exact held)), C.na, C.os, C.ag, w⟩)
    first
      | exact wpAny_bind (wpAny_pure (wpAny_bind last))
      | exact wpAny_bind last
  | @plain x c ts b₀ suite np pp hds l hc su more ih =>
    intro s C w
    obtain ⟨b, hb, hy, hn⟩ := w
    refine wpAny_handleBy_cons (codeAny_handlers_test ?_) (by intro q; cases q)
    refine clause_test C hf hc hb ?_
    cases b with
    | false => exact ih C (hn rfl)
    | true =>
      refine codeAny_handlers_suite (HandSPX.lands_againZ C.fl fun h' fl' up' => ?_)
      have C' := C.on fl' up'
      obtain ⟨oe, hz, hd, he, I⟩ := C'.in hf
      refine wpAny_mono ((su a oe cls d (X.pn ++ pins) hz hd).run [] _ _ H _ I (hy rfl a C.na)) (fun f s6 hsp => ?_) (fun _ _ z => False.elim z)
      cases f with
      | next => obtain ⟨_, _, I6, q6⟩ := hsp; exact ⟨_, _, I6.unsuite ok, q6⟩
      | brk => obtain ⟨_, _, I6, q6⟩ := hsp; exact ⟨_, _, I6.unsuite ok, q6⟩
      | cont => obtain ⟨_, _, I6, q6⟩ := hsp; exact ⟨_, _, I6.unsuite ok, q6⟩
      | ret u => obtain ⟨_, _, _, I6, r6, q6⟩ := hsp; exact ⟨_, _, _, I6.unsuite ok, r6, q6⟩
  | @named x n i c ts b₀ suite np pp hds l hc hi hn0 su more ih =>
    intro s C w
    obtain ⟨b, hb, hy, hn⟩ := w
    refine wpAny_handleBy_cons (codeAny_handlers_test ?_) (by intro q; cases q)
    refine clause_test C hf hc hb ?_
    cases b with
    | false => exact ih C (hn rfl)
    | true =>
      refine codeAny_handlers_suite_as (HandSPX.lands_againZ C.fl fun h' fl' up' => ?_)
      have C' := C.on fl' up'
      obtain ⟨oe, hz, hd, he, I⟩ := C'.in hf
      refine store_ok (X := X.suite a ((a, oe) :: (X.pn ++ pins))) (v := .ref a) I hN hi (.inl hn0) rfl (fun s5 I5 => ?_) (.inr hn0)
      refine wpAny_mono ((su a oe cls d (X.pn ++ pins) hz hd).run [] s5 _ H _ I5 (hy rfl a C.na)) (fun f s6 hsp => ?_) (fun _ _ z => False.elim z)
      cases f with
      | next => obtain ⟨_, _, I6, q6⟩ := hsp; exact gone_ok (I6.unsuite ok) hN hi hn0 fun s7 J7 => ⟨_, _, J7, q6⟩
      | brk => obtain ⟨_, _, I6, q6⟩ := hsp; exact gone_ok (I6.unsuite ok) hN hi hn0 fun s7 J7 => ⟨_, _, J7, q6⟩
      | cont => obtain ⟨_, _, I6, q6⟩ := hsp; exact gone_ok (I6.unsuite ok) hN hi hn0 fun s7 J7 => ⟨_, _, J7, q6⟩
      | ret u => obtain ⟨_, _, _, I6, r6, q6⟩ := hsp; exact gone_ok (I6.unsuite ok) hN hi hn0 fun s7 J7 => ⟨_, _, _, J7, r6, q6⟩
theorem ps_try_ms {body : List Stmt} {h₀ : ExceptHandler} {hds : List ExceptHandler} {l : List Clz} {pos : Pos} {tb : WX → TS} (hs : X.stack = X.env :: X.outer) (hf : X.env.frame = some X.env.locals) (hN : X.N.Nodup) (tk : Takes X Wout)
    (hb : ∀ (W : WX) (pn : List (Addr × Obj)) (xe : Value → Shared → Prop), Takes (X.tr pn xe) W → PassesOwn (model X.prog X.w) X.A X.env xe → PSs (X.tr pn xe) body (tb W)) (hh : ClzOk X (h₀ :: hds) l) :
    PS X (.Try body (h₀ :: hds) [] [] pos) (fun D σ H => tb (wMs X.K Wout D l) D σ H) := by
  refine ⟨fun pins s σ H D I h => wpAny_Try_except ?_⟩
  have ok := I.ok
  have hfr : X.A.frames = some (X.env :: X.outer) := by rw [ok.frames, hs]
  refine wpAny_mono ((hb (wMs X.K Wout D l) (X.pn ++ pins) (fun e s₁ => wpAny (model X.prog X.w) X.A (noteFrame e X.env) (fun _ s₂ => wpAny (model X.prog X.w) X.A (setFlight e none) (fun _ s₃ =>
    wpAny (model X.prog X.w) X.A (handleBy e X.env (h₀ :: hds)) (SP X pins D) X.xe s₃) X.xe s₂) X.xe s₁) (fun u s' air => ?_) PassesOwn.looking).run [] s σ H D (I.toTry _) h) (fun f s1 q => ?_) (fun e s1 he => he)
  · obtain ⟨a, B, sI, pins', σ', H', cls, d, rfl, J', nb, up, sky, na, os, ag, w⟩ := air
    have sky' : Sky B (X.env :: X.outer) a (Zc cls d) X.env.locals s'.heap := by rw [← hs]; exact sky
    show wpAny (model X.prog X.w) X.A (noteFrame (.ref a) X.env) _ _ _
    exact Sky.land Zc.steady hfr hf sky' fun h3 fl3 up3 => handle_ms ok hs hf hN tk hh ⟨J'.ofTry ok, nb, up.trans up3, os, ag, na, fl3⟩ w
  · cases f with
    | next => obtain ⟨σ', H', J', q⟩ := q; exact wpAny_execs_nil ⟨σ', H', J'.ofTry ok, q⟩
    | brk => obtain ⟨σ', H', J', q⟩ := q; exact ⟨σ', H', J'.ofTry ok, q⟩
    | cont => obtain ⟨σ', H', J', q⟩ := q; exact ⟨σ', H', J'.ofTry ok, q⟩
    | ret u => obtain ⟨v, σ', H', J', r, q⟩ := q; exact ⟨v, σ', H', J'.ofTry ok, r, q⟩
end
end TL
namespace TL
open PySem PySem.Spec PyProof.Rows L2 RZ
/-! ### the draws' name is let go -/
@[simp] def noTok : List S → List S
  | [] => []
  | .tok :: r => .un :: noTok r
  | .un :: r => .un :: noTok r
  | .v d :: r => .v d :: noTok r
  | .hl l :: r => .hl l :: noTok r
  | .hd l :: r => .hd l :: noTok r
section
variable {K : PySem.W.Frag} {G G' : Ct} {w u : Wd} {E : List S} {σ : L2.St} {as : List Addr}
theorem EnvR.noTok (h : EnvR K G w E σ as) (e : G'.w0 = G.w0) : EnvR K G' w (TL.noTok E) σ as := by
  induction h with
  | nil => exact .nil
  | un x _ ih => exact .un x ih
  | v h _ ih => exact .v h ih
  | tok _ ih => exact .un _ ih
  | hl h c n r na _ ih => exact .hl h c (by rw [e]; exact n) r na ih
  | hd h c n l r na _ ih => exact .hd h c (by rw [e]; exact n) l r na ih
theorem EnvR.setTok (h : EnvR K G w E σ as) : ∀ i : Nat, ∃ bs, EnvR K G w (E.set i .tok) (σ.set i (some (.ref G.am))) bs ∧ ∀ a ∈ bs, a ∈ as := by
  induction h with
  | nil => intro i; exact ⟨[], .nil, fun a h => h⟩
  | @un E σ as y t ih =>
    intro i
    cases i with
    | zero => exact ⟨as, .tok t, fun a h => h⟩
    | succ i => obtain ⟨bs, h1, h2⟩ := ih i; exact ⟨bs, .un y h1, h2⟩
  | @v E σ as y d' h t ih =>
    intro i
    cases i with
    | zero => exact ⟨as, .tok t, fun a h => h⟩
    | succ i => obtain ⟨bs, h1, h2⟩ := ih i; exact ⟨bs, .v h h1, h2⟩
  | @tok E σ as t ih =>
    intro i
    cases i with
    | zero => exact ⟨as, .tok t, fun a h => h⟩
    | succ i => obtain ⟨bs, h1, h2⟩ := ih i; exact ⟨bs, .tok h1, h2⟩
  | @hl E σ as a xs ds h c n rr na t ih =>
    intro i
    cases i with
    | zero => exact ⟨as, .tok t, fun a h => List.mem_cons_of_mem _ h⟩
    | succ i =>
      obtain ⟨bs, h1, h2⟩ := ih i
      refine ⟨a :: bs, .hl h c n rr (fun z => na (h2 a z)) h1, fun b hb => ?_⟩
      rcases List.mem_cons.mp hb with e | hb
      · subst e; exact List.mem_cons_self
      · exact List.mem_cons_of_mem _ (h2 b hb)
  | @hd E σ as a ks xs ds h c n l rr na t ih =>
    intro i
    cases i with
    | zero => exact ⟨as, .tok t, fun a h => List.mem_cons_of_mem _ h⟩
    | succ i =>
      obtain ⟨bs, h1, h2⟩ := ih i
      refine ⟨a :: bs, .hd h c n l rr (fun z => na (h2 a z)) h1, fun b hb => ?_⟩
      rcases List.mem_cons.mp hb with e | hb
      · subst e; exact List.mem_cons_self
      · exact List.mem_cons_of_mem _ (h2 b hb)
end
/-! ### blocks of a def's own level -/
section
variable {G : Ct} {X : Cx}
def lift0 (K : PySem.W.Frag) (G : Ct) (t : TSt) : TS := fun D σ H => ∃ cl E g as, G.J g ⟨H, cl⟩ ∧ Go G.w0 ⟨H, cl⟩ ∧ EnvR K G ⟨H, cl⟩ E σ as ∧ t (ktOf K G G.w0 D) E g
structure XS0 (G : Ct) (X : Cx) (s : Stmt) (t : TSt) : Prop where
  mo : ∀ k k' E g, k.Le k' → t k E g → t k' E g
  ps : PS X s (lift0 X.K G t)
structure XSs0 (G : Ct) (X : Cx) (s : List Stmt) (t : TSt) : Prop where
  mo : ∀ k k' E g, k.Le k' → t k E g → t k' E g
  ps : PSs X s (lift0 X.K G t)
/-- from the def's beginning on -/
theorem ktOf_0 {K : PySem.W.Frag} {w : Wd} {D : Ends} : (ktOf K G G.w0 D).Le (ktOf K G w D) :=
  ⟨fun E g q u σ as j go _ r => q u σ as j go go.pu r, fun d g q => q, fun E g q u σ as j go _ r => q u σ as j go go.pu r, fun E g q u σ as j go _ r => q u σ as j go go.pu r⟩
theorem xs0_of {s : Stmt} {t : TSt} (h : XS G X s t) : XS0 G X s t := ⟨h.mo, h.ps.imp fun D σ H ⟨cl, E, g, as, j, go, r, q⟩ => ⟨cl, E, g, as, j, go, r, h.mo _ _ _ _ ktOf_0 q⟩⟩
theorem xss0_of {s : List Stmt} {t : TSt} (h : XSs G X s t) : XSs0 G X s t := ⟨h.mo, h.ps.imp fun D σ H ⟨cl, E, g, as, j, go, r, q⟩ => ⟨cl, E, g, as, j, go, r, h.mo _ _ _ _ ktOf_0 q⟩⟩
theorem xss0_one {s : Stmt} {t : TSt} (h : XS0 G X s t) : XSs0 G X [s] t := ⟨h.mo, pss_one h.ps⟩
theorem xss0_cons {s : Stmt} {rest : List Stmt} {t u : TSt} (h1 : XS0 G X s t) (h2 : XSs0 G X rest u) : XSs0 G X (s :: rest) (xSeq t u) := by
  refine ⟨fun k k' E g h q => h1.mo _ _ _ _ (ktLe h _ _ fun E g q2 => h2.mo _ _ _ _ h q2) q, (pss_cons h1.ps h2.ps).imp fun D σ H ⟨cl, E, g, as, j, go, r, q⟩ => ?_⟩
  exact ⟨cl, E, g, as, j, go, r, h1.mo { ktOf X.K G G.w0 D with nx := u (ktOf X.K G G.w0 D) } _ _ _ ⟨fun E1 g1 q1 x σ1 as1 j1 go1 p1 r1 => ⟨x.cl, E1, g1, as1, j1, go1, r1, q1⟩, fun d g1 q1 => q1, fun E1 g1 q1 => q1, fun E1 g1 q1 => q1⟩ q⟩
section
variable {P : Program} {w : World} {K : PySem.W.Frag} {mg : Str → Option Value} {base : Heap}
theorem fn_ok0 {G : Ct} {x qual : Str} {st : Stmt} {f : Addr} {fd : FuncData} {N ps : List Str} {k n : Nat} {pt : PT'} (F : Fun K x qual st f fd) (Sc : FnScope N ps (defScope st)) (hn : n = ps.length)
    (mo : ∀ ss g Q Q', (∀ d g', Q d g' → Q' d g') → pt ss g Q → pt ss g Q')
    (body : ∀ (u : Wd) (X : Cx) (cdv : Value) (A : Around) (outer : List Env) (s : Shared) (H : Hp) (E : XK), X = (cxOf CX0 P w K mg base N qual (defScope st) f cdv A outer s H E).nox → Room k X.A → X.A.guards = some [] → ∃ tb, XSs0 (G.at u) X (defBody st) tb ∧
      ∀ ss g Q, ss.length = n → pt ss g Q → tb { nx := fun _ g' => Q .none g', rt := Q } (envOf N ss) g) : FnG P w K mg base CX0 (k + 1) f fd ps (spD K G.am G.J n pt) := by
  refine Fun.okG F Sc (fun vs H Q E ⟨cl, g, ss, l, _⟩ => l.trans hn) fun cdv A outer s H vs Q E hr hgu ⟨cl, g, ss, l, j, r, q⟩ => ?_
  obtain ⟨tb, b, sp⟩ := body ⟨H, cl⟩ _ cdv A outer s H E rfl hr hgu
  refine ⟨_, b.ps, cl, envOf N ss, g, [], j, Go.refl _, ?_, b.mo { nx := fun _ g' => (fun d g' => ∀ u v, Go ⟨H, cl⟩ u → G.J g' u → Rv K u v d → Q v u.H) .none g', rt := fun d g' => ∀ u v, Go ⟨H, cl⟩ u → G.J g' u → Rv K u v d → Q v u.H } _ _ _ ⟨fun E1 g1 q1 u σ as j1 go1 p1 r1 => q1 u .non go1 j1 .non, fun d g1 q1 u v j1 go1 rv => q1 u v go1 j1 rv, fun E1 g1 q1 => q1.elim, fun E1 g1 q1 => q1.elim⟩ (sp ss g _ (by rw [← r.len]; exact l) q)⟩
  have e : N.length - vs.length = N.length - ss.length := by rw [r.len]
  show EnvR _ _ _ (ss ++ _) (vs.map some ++ List.replicate (N.length - vs.length) none) []
  rw [e]
  exact envR_start (G := G.at ⟨H, cl⟩) (N := N) r _
end
/-! ### try, by data -/
structure ClzD where
  nm : Str
  at_ : Option Nat
  t : ExD → TSt
/-- behind a suite whose name goes -/
def ktAs (i : Nat) (k : Kt) : Kt := { nx := fun E g => k.nx ((noTok E).set i .un) g, rt := k.rt, bk := fun E g => k.bk ((noTok E).set i .un) g, ct := fun E g => k.ct ((noTok E).set i .un) g }
@[simp] def runCl : List ClzD → ExD → Kt → List S → Nat → Prop
  | [], _, _, _, _ => False
  | ⟨nm, none, t⟩ :: r, x, k, E, g => if x.1 = nm then t x k E g else runCl r x k E g
  | ⟨nm, some i, t⟩ :: r, x, k, E, g => if x.1 = nm then t x (ktAs i k) ((noTok E).set i .tok) g else runCl r x k E g
@[simp] def xTry (names : List Str) (tb : TSR) (cls : List ClzD) : TSt := fun k E g => tb k (fun x E' g' => x.1 ∈ names ∧ runCl cls x k E' g') E g
/-- a field that is plain stands in any world -/
@[simp] def flatD : PyData → Bool
  | .none => true
  | .bool _ => true
  | .int _ => true
  | .str _ => true
  | _ => false
theorem flat_any {K : PySem.W.Frag} {w : Wd} {v : V} {d : PyData} (h : Rv K w v d) (f : flatD d = true) (u : Wd) : Rv K u v d := by
  cases h with
  | non => exact .non
  | bl b => exact .bl b
  | int i => exact .int i
  | str x => exact .str x
  | lst _ _ => cases f
  | tup _ _ => cases f
  | dic _ _ _ => cases f
def FldOk (K : PySem.W.Frag) (x : ExD) (fv : List (Str × V)) : Prop := ∀ f dat, x.2.lookup f = some dat → flatD dat = true → ∃ v, fv.lookup f = some v ∧ ∀ u, Rv K u v dat
def exJ (G : Ct) (d : Option Addr) (fv : List (Str × V)) : Nat → Wd → Prop := fun g u => G.J g u ∧ ∀ dd, d = some dd → u.H dd = some (.xd fv) ∧ u.cl dd = 2
/-- the context of a suite that has a name for the exception at a -/
def exG (G : Ct) (a : Addr) (d : Option Addr) (fv : List (Str × V)) : Ct :=
  ⟨a, exJ G d fv, fun g w u h ⟨j, q⟩ => ⟨G.st g w u h j, fun dd e => h _ _ (q dd e).1 (q dd e).2⟩, G.w0⟩
structure ExIn (X : Cx) (cls : Value) (d : Option Addr) (x : ExD) (fv : List (Str × V)) (C : Addr) : Prop where
  hm : X.mg x.1 = some (.ref C)
  hc : cls = .ref C
  hd : x.2 = [] ∨ ∃ dd, d = some dd
  fl : FldOk X.K x fv
/-- e.f of the exception that the suite has -/
@[simp] def xExF (i : Nat) (f : Str) (fs : List (Str × PyData)) : TX := fun E g Q => E[i]? = some .tok ∧ ∃ dat, fs.lookup f = some dat ∧ flatD dat = true ∧ Q dat g
theorem xe_exf {a C : Addr} {oe : Obj} {cls : Value} {d : Option Addr} {pn : List (Addr × Obj)} {x : ExD} {fv : List (Str × V)} {i : Nat} {n f : Str} {p pos : Pos} (I : ExIn X cls d x fv C) (hz : Zc cls d oe) (hf : ∃ vs, oe.data = .fields vs) (T : XfC X.K C) (hno : PySem.W.findIn X.K (.ref C) f = some none)
    (he : PE (X.suite a ((a, oe) :: pn)) (.Name n p) (tVar i)) (hb : attributeBase (.Name n p) f X.env (eval (.Name n p) X.env) = eval (.Name n p) X.env := by rfl) :
    XE (exG G a d fv) (X.suite a ((a, oe) :: pn)) (.Attribute (.Name n p) f pos) (xExF i f x.2) := by
  refine ⟨fun E g Q Q' hq ⟨e, dat, e2, e3, q⟩ => ⟨e, dat, e2, e3, hq _ _ q⟩, (pe_xf T hno hz hf he hb).imp fun σ H Q ⟨cl, E, g, as, j, r, e, dat, e2, e3, q⟩ => ?_⟩
  obtain ⟨v, e4, rv⟩ := I.fl f dat e2 e3
  refine ⟨.ref a, r.getTok e, rfl, I.hc, ?_⟩
  rcases I.hd with h0 | ⟨dd, h0⟩
  · rw [h0] at e2
    cases e2
  · exact ⟨dd, fv, v, h0, (j.2 dd h0).1, e4, q ⟨H, cl⟩ v (Go.refl _) j (rv _)⟩
inductive ClR (G : Ct) (X : Cx) (names : List Str) : List ExceptHandler → List ClzD → List Clz → Prop
  | nil : ClR G X names [] [] []
  | plain {nm : Str} {C : Addr} {t : ExD → TSt} {b₀ : Stmt} {suite : List Stmt} {np pp : Pos} {hds : List ExceptHandler} {cs : List ClzD} {l : List Clz} (hg : Gl X nm) (hdb : (nm == ("__debug__" : Str)) = false) (hm : X.mg nm = some (.ref C))
      (ex : ∀ n ∈ names, ∀ C', X.mg n = some (.ref C') → PySem.W.exmOne X.K (.ref C') (.ref C) = some (decide (n = nm)))
      (su : ∀ (a : Addr) (oe : Obj) (pn : List (Addr × Obj)) (x : ExD), XSs G (X.suite a ((a, oe) :: pn)) (b₀ :: suite) (t x)) (more : ClR G X names hds cs l) :
      ClR G X names (.ExceptHandler (some (.Name nm np)) none (b₀ :: suite) pp :: hds) (⟨nm, none, t⟩ :: cs) ((.ref C, none, fun _ _ _ D σ H => ∃ x, liftS X.K G (t x) D σ H) :: l)
  | named {nm n : Str} {i : Nat} {C : Addr} {t : ExD → TSt} {b₀ : Stmt} {suite : List Stmt} {np pp : Pos} {hds : List ExceptHandler} {cs : List ClzD} {l : List Clz} (hg : Gl X nm) (hdb : (nm == ("__debug__" : Str)) = false) (hm : X.mg nm = some (.ref C)) (hi : X.N[i]? = some n) (hn : X.env.kindOf n = some .local)
      (ex : ∀ n ∈ names, ∀ C', X.mg n = some (.ref C') → PySem.W.exmOne X.K (.ref C') (.ref C) = some (decide (n = nm)))
      (su : ∀ (a : Addr) (oe : Obj) (cls : Value) (d : Option Addr) (pn : List (Addr × Obj)) (x : ExD) (fv : List (Str × V)), ExIn X cls d x fv C → Zc cls d oe → (∃ vs, oe.data = .fields vs) → XSs (exG G a d fv) (X.suite a ((a, oe) :: pn)) (b₀ :: suite) (t x)) (more : ClR G X names hds cs l) :
      ClR G X names (.ExceptHandler (some (.Name nm np)) (some n) (b₀ :: suite) pp :: hds) (⟨nm, some i, t⟩ :: cs) ((.ref C, some i, fun a cls d D σ H => ∃ x fv, ExIn X cls d x fv C ∧ liftS X.K (exG G a d fv) (t x) D σ H) :: l)
theorem ClR.ok {names : List Str} {hds : List ExceptHandler} {cs : List ClzD} {l : List Clz} (h : ClR G X names hds cs l) : ClzOk X hds l := by
  induction h with
  | nil => exact .nil
  | plain hg hdb hm ex su more ih => exact .plain ⟨hg, hdb, .inl hm⟩ (fun a oe cls d pn hz hf => ⟨fun pins s σ H D I ⟨x, h⟩ => (su a oe pn x).ps.run pins s σ H D I h⟩) ih
  | named hg hdb hm hi hn ex su more ih => exact .named ⟨hg, hdb, .inl hm⟩ hi hn (fun a oe cls d pn hz hf => ⟨fun pins s σ H D I ⟨x, fv, hx, h⟩ => (su a oe cls d pn x fv hx hz hf).ps.run pins s σ H D I h⟩) ih
theorem fld_lookup {K : PySem.W.Frag} {w : Wd} : ∀ {fs : List (Str × PyData)} {vs : List V}, RvL K w vs (fs.map (·.2)) → ∀ f dat, fs.lookup f = some dat → ∃ v, ((fs.map (·.1)).zip vs).lookup f = some v ∧ Rv K w v dat
  | [], _, _, f, dat, e => by cases e
  | (n, x) :: fs, _, .cons (v := v) hv hr, f, dat, e => by
    rw [List.lookup_cons] at e
    show ∃ v', List.lookup f ((n, v) :: ((fs.map (·.1)).zip _)) = some v' ∧ _
    rw [List.lookup_cons]
    cases c : f == n with
    | true =>
      rw [c] at e
      cases e
      exact ⟨v, rfl, hv⟩
    | false =>
      rw [c] at e
      exact fld_lookup hr f dat e
theorem ClR.run {names : List Str} {hds : List ExceptHandler} {cs : List ClzD} {l : List Clz} (h : ClR G X names hds cs l) (mos : ∀ c ∈ cs, ∀ x k k' E g, k.Le k' → c.t x k E g → c.t x k' E g) {D : Ends} {x : ExD} {E : List S} {g : Nat} (hx : x.1 ∈ names) {u : Wd} {σ : L2.St} {as : List Addr} {cls : Value} {d : Option Addr} (j : G.J g u) (go : Go G.w0 u)
    (r : EnvR X.K G u E σ as) (rx : RvX X.K X.mg u cls d x) (q : runCl cs x (ktOf X.K G G.w0 D) E g) : wMs X.K (fun _ _ _ _ => False) D l cls d σ u.H := by
  obtain ⟨C0, ec, em, fl⟩ := id rx
  induction h with
  | nil => exact q.elim
  | @plain nm C t b₀ suite np pp hds cs l hg hdb hm ex su more ih =>
    refine ⟨decide (x.1 = nm), by rw [ec]; exact ex x.1 hx C0 em, fun y a na => ?_, fun y => ?_⟩
    · have y := of_decide_eq_true y
      have q' : t x (ktOf X.K G G.w0 D) E g := by simpa [y] using q
      exact ⟨x, u.cl, E, g, as, j, go, r, mos _ List.mem_cons_self x _ _ _ _ ktOf_0 q'⟩
    · have y := of_decide_eq_false y
      exact ih (fun c hc => mos c (List.mem_cons_of_mem _ hc)) (by simpa [y] using q)
  | @named nm n i C t b₀ suite np pp hds cs l hg hdb hm hi hn ex su more ih =>
    refine ⟨decide (x.1 = nm), by rw [ec]; exact ex x.1 hx C0 em, fun y a na => ?_, fun y => ?_⟩
    · have y := of_decide_eq_true y
      have q' : t x (ktAs i (ktOf X.K G G.w0 D)) ((noTok E).set i .tok) g := by simpa [y] using q
      have eC : C0 = C := by
        rw [y, hm] at em
        cases em
        rfl
      obtain ⟨fv, hI, hJ⟩ : ∃ fv, ExIn X cls d x fv C ∧ exJ G d fv g u := by
        rcases fl with ⟨e1, e2⟩ | ⟨dd, vs, e1, e2, e3, e4⟩
        · refine ⟨[], ⟨by rw [em, eC], by rw [ec, eC], .inl e1, fun f dat e => by rw [e1] at e; cases e⟩, j, fun dd e => by rw [e2] at e; cases e⟩
        · refine ⟨(x.2.map (·.1)).zip vs, ⟨by rw [em, eC], by rw [ec, eC], .inr ⟨dd, e1⟩, fun f dat e fd => ?_⟩, j, fun d' e => ?_⟩
          · obtain ⟨v, e5, rv⟩ := fld_lookup e4 f dat e
            exact ⟨v, e5, fun w' => flat_any rv fd w'⟩
          · rw [e1] at e
            cases e
            exact ⟨e2, e3⟩
      obtain ⟨bs, r2, _⟩ := (r.noTok (G' := exG G a d fv) rfl).setTok i
      refine ⟨x, fv, hI, u.cl, _, g, bs, hJ, go, r2, mos _ List.mem_cons_self x (ktAs i (ktOf X.K G G.w0 D)) _ _ _ ⟨fun E1 g1 q1 x1 σ1 as1 j1 go1 p1 r1 => ?_, fun d g1 q1 x1 v1 j1 go1 rv1 => q1 x1 v1 j1.1 go1 rv1, fun E1 g1 q1 x1 σ1 as1 j1 go1 p1 r1 => ?_, fun E1 g1 q1 x1 σ1 as1 j1 go1 p1 r1 => ?_⟩ q'⟩
      all_goals
        obtain ⟨cs, r3, _⟩ := (r1.noTok (G' := G) rfl).unset i none
        exact q1 x1 _ cs j1.1 go1 go1.pu r3
    · have y := of_decide_eq_false y
      exact ih (fun c hc => mos c (List.mem_cons_of_mem _ hc)) (by simpa [y] using q)
theorem takes_no {X : Cx} : Takes X (fun _ _ _ _ => False) := fun _ _ ⟨_, _, _, _, _, _, _, _, _, _, _, _, _, _, _, _, z⟩ => z.elim
theorem ktAs_le {i : Nat} {k k' : Kt} (h : k.Le k') : (ktAs i k).Le (ktAs i k') := ⟨fun E g => h.nx _ g, h.rt, fun E g => h.bk _ g, fun E g => h.ct _ g⟩
theorem runCl_mo : ∀ {cs : List ClzD}, (∀ c ∈ cs, ∀ x k k' E g, k.Le k' → c.t x k E g → c.t x k' E g) → ∀ {x : ExD} {k k' : Kt} {E : List S} {g : Nat}, k.Le k' → runCl cs x k E g → runCl cs x k' E g
  | [], _, _, _, _, _, _, _, q => q
  | ⟨nm, none, t⟩ :: r, mos, x, k, k', E, g, h, q => by
    simp only [runCl] at q ⊢
    split
    · rename_i c; rw [if_pos c] at q; exact mos _ List.mem_cons_self x _ _ _ _ h q
    · rename_i c; rw [if_neg c] at q; exact runCl_mo (fun c hc => mos c (List.mem_cons_of_mem _ hc)) h q
  | ⟨nm, some i, t⟩ :: r, mos, x, k, k', E, g, h, q => by
    simp only [runCl] at q ⊢
    split
    · rename_i c; rw [if_pos c] at q; exact mos _ List.mem_cons_self x _ _ _ _ (ktAs_le h) q
    · rename_i c; rw [if_neg c] at q; exact runCl_mo (fun c hc => mos c (List.mem_cons_of_mem _ hc)) h q
theorem xs0_try {names : List Str} {body : List Stmt} {h₀ : ExceptHandler} {hds : List ExceptHandler} {cs : List ClzD} {l : List Clz} {pos : Pos} {tb : TSR} (hs : X.stack = X.env :: X.outer) (hf : X.env.frame = some X.env.locals) (hN : X.N.Nodup)
    (hb : ∀ (W : WX) (pn : List (Addr × Obj)) (xe : Value → Shared → Prop), Takes (X.tr pn xe) W → PassesOwn (model X.prog X.w) X.A X.env xe → XSRs G (X.tr pn xe) W body tb) (hh : ClR G X names (h₀ :: hds) cs l)
    (mos : ∀ c ∈ cs, ∀ x k k' E g, k.Le k' → c.t x k E g → c.t x k' E g) : XS0 G X (.Try body (h₀ :: hds) [] [] pos) (xTry names tb cs) := by
  have mo := (hb (fun _ _ _ _ => False) [] (fun _ _ => False) takes_no PassesOwn.never).mo
  refine ⟨fun k k' E g h q => mo _ _ _ _ _ _ h (fun x E g ⟨hx, q⟩ => ⟨hx, runCl_mo mos h q⟩) q, (ps_try_ms (tb := fun W => liftSR X.K X.mg G W tb) hs hf hN takes_no (fun W pn xe tk hp => (hb W pn xe tk hp).ps) hh.ok).imp fun D σ H ⟨cl, E, g, as, j, go, r, q⟩ => ?_⟩
  refine ⟨cl, E, g, as, j, go, r, mo _ _ _ _ _ _ ktOf_0 (fun x E g ⟨hx, q⟩ u σ as cls d j1 go1 r1 rx nx => hh.run mos hx j1 go1 r1 rx q) q⟩
end
end TL
set_option maxHeartbeats 1000000
namespace TL
open PySem PySem.Spec PyProof.Rows L2 RZ
/-! ### own classes of errors -/
/-- what an __init__ that keeps the field f promises; one that keeps none; one that keeps f, then g -/
def spI1 (K : PySem.W.Frag) (C : Addr) (f : Str) : Sp := fun vs H Q _ => ∃ a y, vs = [.ref a, y] ∧ OexC K C ∧ PySem.W.findIn K (.ref C) f = some none ∧ H a = some (exo a C none) ∧ ∀ dx, H dx = none → dx ≠ a → Q .non (upd (upd H dx (exd dx [(f, y)])) a (exo a C (some dx)))
def spI0 (K : PySem.W.Frag) (C : Addr) : Sp := fun vs H Q _ => ∃ a y, vs = [.ref a, y] ∧ OexC K C ∧ H a = some (exo a C none) ∧ Q .non H
def spI2 (K : PySem.W.Frag) (C : Addr) (f g : Str) : Sp := fun vs H Q _ => ∃ a y z, vs = [.ref a, y, z] ∧ OexC K C ∧ PySem.W.findIn K (.ref C) f = some none ∧ PySem.W.findIn K (.ref C) g = some none ∧ H a = some (exo a C none) ∧
  ∀ dx, H dx = none → dx ≠ a → Q .non (upd (upd (upd H dx (exd dx [(f, y)])) a (exo a C (some dx))) dx (exd dx [(g, z), (f, y)]))
/-- what the written part says of the class x at C, its fields -/
structure ExK (K : PySem.W.Frag) (mg : Str → Option Value) (x : Str) (C : Addr) (fs : List Str) : Prop where
  gC : mg x = some (.ref C)
  ox : OexC K C
  xf : XfC K C
  no : ∀ f ∈ fs, PySem.W.findIn K (.ref C) f = some none
/-- .. and its __init__ -/
structure ExI (P : Program) (w : World) (K : PySem.W.Frag) (mg : Str → Option Value) (base : Heap) (C : Addr) (ps : List Str) (sp : Sp) : Prop where
  ex : ∃ fI fd, PySem.W.findIn K (.ref C) "__init__" = some (some (.ref fI)) ∧ PySem.W.typeIn K (.ref fI) = some (.type "function") ∧ FnOk P w K mg base CX0 1 fI fd ps sp ∧ Binds K fd ps []
section
variable {G : Ct} {X : Cx} {W : WX} {x f : Str} {C : Addr} {e e2 : Expr} {te te2 : TX} {p pos pos2 : Pos}
@[simp] def xrRaise1 (x f : Str) (te : TX) : TSR := fun _ R E g => te E g fun d g1 => R (x, [(f, d)]) E g1
@[simp] def xrRaise0 (x : Str) (te : TX) : TSR := fun _ R E g => te E g fun _ g1 => R (x, []) E g1
@[simp] def xrRaise2 (x f h : Str) (te te2 : TX) : TSR := fun _ R E g => te E g fun d g1 => te2 E g1 fun d2 g2 => R (x, [(h, d2), (f, d)]) E g2
theorem upd_del {H : Hp} {a dx : Addr} {o1 o2 o3 o4 : HO} (na : H a = none) (ne : dx ≠ a) : upd (del (upd (upd (upd H a o1) dx o2) a o3) a) dx o4 = upd H dx o4 := by
  funext b
  by_cases h1 : b = dx
  · rw [h1, upd_same, upd_same]
  · rw [upd_ne h1, upd_ne h1]
    by_cases h2 : b = a
    · rw [h2, del_same, na]
    · rw [del_ne h2, upd_ne h2, upd_ne h1, upd_ne h2]
theorem upd_del2 {H : Hp} {a dx : Addr} {o1 o2 o3 o4 o5 : HO} (na : H a = none) (ne : dx ≠ a) : upd (del (upd (upd (upd (upd H a o1) dx o2) a o3) dx o5) a) dx o4 = upd H dx o4 := by
  funext b
  by_cases h1 : b = dx
  · rw [h1, upd_same, upd_same]
  · rw [upd_ne h1, upd_ne h1]
    by_cases h2 : b = a
    · rw [h2, del_same, na]
    · rw [del_ne h2, upd_ne h1, upd_ne h2, upd_ne h1, upd_ne h2]
theorem xr_raise1 (hc : X.calm = true) (tk : Takes X W) (T : ExK X.K X.mg x C [f]) (I : ExI X.prog X.w X.K X.mg X.base C ["self", f] (spI1 X.K C f)) (hr : Room 2 X.A) (hg : Gl X x) (he : XE G X e te) (hdb : (x == ("__debug__" : Str)) = false := by decide)
    (hs : starEach [e] X.env = [(false, eval e X.env)] := by rfl) : XSR G X W (.Raise (some (.Call (.Name x p) [e] [] pos)) none pos2) (xrRaise1 x f te) := by
  obtain ⟨fI, fd, iC, tI, F1, hb⟩ := I.ex
  refine ⟨fun k k' R R' E g h hr q => he.mo _ _ _ _ (fun d g1 q1 => hr _ _ _ q1) q, (ps_raise hc tk (pmk_oex (dvs := []) T.ox iC tI F1 hr hb .nil (fun _ _ _ _ _ _ _ h => h.elim) hg T.gC (pa_cons he.pe pa_nil (by rw [hs]; rfl)) hdb (by rw [hs]; rfl))).imp fun D σ H ⟨cl, E, g, as, j, go, r, q⟩ => ?_⟩
  refine ⟨cl, E, g, as, j, r, he.mo _ _ _ _ (fun d g1 q1 u v go1 j1 rv => ?_) q⟩
  refine ⟨by simp, fun a na => ⟨a, v, rfl, T.ox, T.no f List.mem_cons_self, upd_same, fun dx hdx ne => ⟨rfl, dx, [(f, v)], upd_same, by rw [upd_ne ne, upd_same], by rw [upd_ne ne] at hdx; exact hdx, ?_⟩⟩⟩
  rw [upd_ne ne] at hdx
  rw [upd_del na ne]
  have st : Go0 u (u.new dx (.xd [(f, v)]) 2) := Go0.new hdx 2
  refine q1 (u.new dx (.xd [(f, v)]) 2) σ as (.ref C) (some dx) (G.st0 st j1) ((go.trans go1).trans st.go) ((r.go go1).go st.go) ⟨C, rfl, T.gC, .inr ⟨dx, [v], rfl, upd_same, if_pos rfl, .cons (rv.go st.go) .nil⟩⟩ ?_
  exact NewX.go (w := G.w0) (u := u) (fun dd e => by cases e; exact hdx) (go.trans go1)
theorem xr_raise2 {h : Str} (hc : X.calm = true) (tk : Takes X W) (T : ExK X.K X.mg x C [f, h]) (I : ExI X.prog X.w X.K X.mg X.base C ["self", f, h] (spI2 X.K C f h)) (hr : Room 2 X.A) (hg : Gl X x) (he : XE G X e te) (he2 : XE G X e2 te2) (hdb : (x == ("__debug__" : Str)) = false := by decide)
    (hs : starEach [e, e2] X.env = [(false, eval e X.env), (false, eval e2 X.env)] := by rfl) (hs2 : starEach [e2] X.env = [(false, eval e2 X.env)] := by rfl) : XSR G X W (.Raise (some (.Call (.Name x p) [e, e2] [] pos)) none pos2) (xrRaise2 x f h te te2) := by
  obtain ⟨fI, fd, iC, tI, F1, hb⟩ := I.ex
  refine ⟨fun k k' R R' E g h hr q => he.mo _ _ _ _ (fun d g1 q1 => he2.mo _ _ _ _ (fun d g2 q2 => hr _ _ _ q2) q1) q, (ps_raise hc tk (pmk_oex (dvs := []) T.ox iC tI F1 hr hb .nil (fun _ _ _ _ _ _ _ h => h.elim) hg T.gC (pa_cons he.pe (pa_cons he2.pe pa_nil (by rw [hs2]; rfl)) (by rw [hs, hs2])) hdb (by rw [hs, hs2]) (by rw [hs2]; rfl))).imp fun D σ H ⟨cl, E, g, as, j, go, r, q⟩ => ?_⟩
  refine ⟨cl, E, g, as, j, r, he.mo _ _ _ _ (fun d g1 q1 u v go1 j1 rv => ?_) q⟩
  refine ⟨u.cl, E, g1, as, j1, r.go go1, he2.mo _ _ _ _ (fun d2 g2 q2 u2 v2 go2 j2 rv2 => ?_) q1⟩
  refine ⟨by simp, fun a na => ⟨a, v, v2, rfl, T.ox, T.no f List.mem_cons_self, T.no h (List.mem_cons_of_mem _ List.mem_cons_self), upd_same, fun dx hdx ne => ⟨rfl, dx, [(h, v2), (f, v)], by rw [upd_ne (Ne.symm ne), upd_same], upd_same, by rw [upd_ne ne] at hdx; exact hdx, ?_⟩⟩⟩
  rw [upd_ne ne] at hdx
  rw [upd_del2 na ne]
  have st : Go0 u2 (u2.new dx (.xd [(h, v2), (f, v)]) 2) := Go0.new hdx 2
  refine q2 (u2.new dx (.xd [(h, v2), (f, v)]) 2) σ as (.ref C) (some dx) (G.st0 st j2) (((go.trans go1).trans go2).trans st.go) (((r.go go1).go go2).go st.go) ⟨C, rfl, T.gC, .inr ⟨dx, [v2, v], rfl, upd_same, if_pos rfl, .cons (rv2.go st.go) (.cons ((rv.go go2).go st.go) .nil)⟩⟩ ?_
  exact NewX.go (w := G.w0) (u := u2) (fun dd e => by cases e; exact hdx) ((go.trans go1).trans go2)
/-! ### a class that keeps nothing -/
def tMk0 (C : Addr) (sp : Sp) (ta : TA) : L2.St → Hp → XK → Prop := fun σ H Q => ta σ H fun vs H1 => vs.length ≤ 1000 ∧ ∀ a, H1 a = none → sp (.ref a :: vs) (upd H1 a (exo a C none)) (fun v H2 => v = .non ∧ H2 = upd H1 a (exo a C none) ∧ Q (.ref C) none H1) fun _ _ _ => False
/-- the exception is let go, nothing else has changed -/
theorem mk_end_plain {pins : List (Addr × Obj)} {σ : L2.St} {H1 : Hp} {Q : XK} {hp hp2 h2 : Heap} {g1 g2 : Array GenState} {d1 d2 : Drawn} {t1 t2 : Nat} {os1 os2 : OsState} {a C : Addr} (T : Raises X (.ref C)) (I1 : Inv X pins σ H1 ⟨hp, g1, d1, t1, os1⟩) (ha : hp.objs.size ≤ a)
    (k : ∀ b o, hp.get? b = some o → hp2.get? b = some o) (un : Un (frs X.stack) [] (upd H1 a (exo a C none)) (upd H1 a (exo a C none)) hp2 h2) (hok : HOk X.prog X.w (upd H1 a (exo a C none)) h2) (ho : os2 = os1) (hb : AllBare g2) (q : Q (.ref C) none H1) : MkP X pins σ Q (.ref a) ⟨h2, g2, d2, t2, os2⟩ := by
  have ea : upd H1 a (exo a C none) a = some (exo a C none) := upd_same
  obtain ⟨t0, hoe⟩ := exo_at hok ea
  have hn : H1 a = none := I1.hok.fresh ha
  obtain ⟨R, r1, r2⟩ := restrict h2 fun b => decide (b ≠ a)
  have eq : ∀ b, b ≠ a → R.get? b = h2.get? b := fun b hb => r1 b (decide_eq_true hb)
  have gone : R.get? a = none := r2 a (by simp)
  have old : ∀ {b : Addr} {o : Obj}, hp.get? b = some o → b ≠ a := fun {b o} z => Nat.ne_of_lt (Nat.lt_of_lt_of_le (Heap.lt_size z) ha)
  have free : ∀ {b : Addr}, b ≠ a → H1 b = none → upd H1 a (exo a C none) b = none := fun {b} hb n => by rw [upd_ne hb]; exact n
  have U : Un (frs X.stack) [] H1 H1 hp R := by
    refine ⟨fun b o z n hf hx => ?_, fun b o z n hf hx => ?_, fun b o z n hx => n, fun b o z hx => ?_, fun b xs z => z, fun b o u z => z, fun b ps z => ⟨#[], by rw [Array.append_empty]; exact z⟩⟩
    · rw [eq b (old z)]; exact un.keep b o (k b o z) (free (old z) n) hf hx
    · rw [eq b (old z)]; exact un.slot b o (k b o z) (free (old z) n) hf hx
    · rw [eq b (old z)]; exact un.there b o (k b o z) hx
  have ok2 : HOk X.prog X.w H1 R := fun b o z => by
    have hba : b ≠ a := fun e => by rw [e, hn] at z; cases z
    have z2 : upd H1 a (exo a C none) b = some o := by rw [upd_ne hba]; exact z
    refine (hok b o z2).stay (fun c u hc e => ?_) (fun c hc => ?_) fun c xs hc => ?_
    · have hca : c ≠ a := by
        rcases hc with hc | hc
        · rw [hc]; exact hba
        · exact at_ne ea hc exo_own
      rw [eq c hca]; exact e
    · rw [upd_ne (at_ne ea hc exo_own)] at hc; exact hc
    · rw [upd_ne (at_ne ea hc exo_tup)] at hc; exact hc
  have J : Inv X pins σ H1 ⟨R, g2, d2, t2, os2⟩ := I1.call' (ch := []) ho U ok2 hb (fun b z => absurd z (by simp))
  refine ⟨a, _, _, ⟨R, g2, d2, t2, os2⟩, H1, .ref C, none, rfl, J, fun b o z => ?_, gone, hoe, ⟨rfl, rfl⟩, rfl, rfl, hn, rfl, hb, T, q⟩
  have hba : b ≠ a := fun e => by rw [e, gone] at z; cases z
  exact (eq b hba).symm.trans z
theorem pmk_plain {k : Nat} {fI : Addr} {fd : FuncData} {ps : List Str} {sp : Sp} {es : List Expr} {ta : TA} (T : OexC X.K C) (iC : PySem.W.findIn X.K (.ref C) "__init__" = some (some (.ref fI))) (tI : PySem.W.typeIn X.K (.ref fI) = some (.type "function")) (F1 : FnOk X.prog X.w X.K X.mg X.base CX0 k fI fd ps sp)
    (hr : Room (k + 1) X.A) (hb : Binds X.K fd ps []) (hg : Gl X x) (hm : X.mg x = some (.ref C)) (ha : PA X (e :: es) ta) (hdb : (x == ("__debug__" : Str)) = false := by decide)
    (he : starEach (e :: es) X.env = (false, eval e X.env) :: starEach es X.env := by rfl) (hpl : (backTo pos (starEach es X.env)).any (·.1) = false := by rfl) : PMk X (.Call (.Name x p) (e :: es) [] pos) (tMk0 C sp ta) := by
  intro pins s σ H Q I h
  obtain ⟨nm, qn, N, bs, bm, sn, sub, ab, col, dd, k0, k1, k2, k3, k5, hC, hbm⟩ := T.cls
  refine wpAny_Call_Name_kw (ld_glob I hg hm ?_ hdb)
  refine PySem.W.callWith_K (h₀ := X.base) I.ok.mod.kin T.kC (thn (ha.run pos pins s σ H _ I h) fun us s1 ⟨vs, H1, I1, r1, hz, q1⟩ => ⟨I1.kIn, ?_⟩) he hpl
  show wpAny _ _ (call (.ref C) us) _ _ _
  obtain ⟨hp, gs, dr, tk, os⟩ := s1
  generalize ea : hp.objs.size + 1 = a
  have up1 : hp.objs.size ≤ a := by omega
  have old : ∀ b o, hp.get? b = some o → ((hp.push (PySem.W.kdv_tup us)).push (PySem.HandSPX.excO C hp.objs.size)).get? b = some o := fun b o e => Heap.get?_push_of_some _ (Heap.get?_push_of_some _ e)
  have there : ((hp.push (PySem.W.kdv_tup us)).push (PySem.HandSPX.excO C hp.objs.size)).get? a = some (PySem.HandSPX.excO C hp.objs.size) := by rw [← ea]; heap_get
  have I2 : Inv X pins σ (upd H1 a (exo a C none)) ⟨(hp.push (PySem.W.kdv_tup us)).push (PySem.HandSPX.excO C hp.objs.size), gs, dr, tk, os⟩ := I1.laid (t' := tk) (a := a) (o := exo a C none) old up1 (exo_ok there)
  have hq := q1 a (I1.hok.fresh up1)
  have r2 : Vals (V.ref a :: vs) (Value.ref a :: us) := .cons rfl r1
  have hl : (Value.ref a :: us).length = ps.length := r2.length.symm.trans (F1.len _ _ _ _ hq)
  have hus : us.length ≤ sizeLine := by rw [← Paired.length r1, sizeLine_eq]; omega
  have bb : BindsTo (⟨(hp.push (PySem.W.kdv_tup us)).push (PySem.HandSPX.excO C hp.objs.size), gs, dr, tk, os⟩ : Shared) fd ⟨Value.ref a :: us, []⟩ (ps.zip (Value.ref a :: us)) := by
    have := hb ⟨(hp.push (PySem.W.kdv_tup us)).push (PySem.HandSPX.excO C hp.objs.size), gs, dr, tk, os⟩ (Value.ref a :: us) I2.kIn (by rw [List.append_nil]; exact hl)
    rwa [List.append_nil] at this
  refine wpAny_call (PySem.HandSPX.call_own F.excBase_ValueError (fun Y => PySem.HandSPX.refsVE_contains Y bm hbm) (I1.kIn _ _ hC) (PySem.W.looks_findIn I1.kIn iC) (fun self => PySem.W.bind_fn I1.kIn self tI) hus ?_)
  rw [ea]
  refine codeAny_mono (F1.run _ X.stack _ _ ⟨Value.ref a :: us, []⟩ (Value.ref a :: us) _ _ (fun _ _ _ => False) (hr.make C us []) (I2.env0.make C us []) bb r2 hq) fun r s' hq' => ?_
  cases r with
  | error er => exact hq'.elim
  | ok fl =>
    cases fl with
    | ret u =>
      obtain ⟨v, H2, os2, bare2, un2, hok2, rv, ev, eH, q2⟩ := hq'
      subst ev eH
      obtain ⟨h2, g2, d2, t2, os'⟩ := s'
      exact ⟨rv, mk_end_plain (raises_own T.exC T.tyC) I1 up1 old un2 hok2 os2 bare2 q2⟩
    | next => exact hq'.elim
    | brk => exact hq'.elim
    | cont => exact hq'.elim
theorem xr_raise0 (hc : X.calm = true) (tk : Takes X W) (T : ExK X.K X.mg x C []) {f : Str} (I : ExI X.prog X.w X.K X.mg X.base C ["self", f] (spI0 X.K C)) (hr : Room 2 X.A) (hg : Gl X x) (he : XE G X e te) (hdb : (x == ("__debug__" : Str)) = false := by decide)
    (hs : starEach [e] X.env = [(false, eval e X.env)] := by rfl) : XSR G X W (.Raise (some (.Call (.Name x p) [e] [] pos)) none pos2) (xrRaise0 x te) := by
  obtain ⟨fI, fd, iC, tI, F1, hb⟩ := I.ex
  refine ⟨fun k k' R R' E g h hr q => he.mo _ _ _ _ (fun d g1 q1 => hr _ _ _ q1) q, (ps_raise hc tk (pmk_plain T.ox iC tI F1 hr hb hg T.gC (pa_cons he.pe pa_nil (by rw [hs]; rfl)) hdb (by rw [hs]; rfl))).imp fun D σ H ⟨cl, E, g, as, j, go, r, q⟩ => ?_⟩
  refine ⟨cl, E, g, as, j, r, he.mo _ _ _ _ (fun d g1 q1 u v go1 j1 rv => ?_) q⟩
  refine ⟨by simp, fun a na => ⟨a, v, rfl, T.ox, upd_same, rfl, rfl, ?_⟩⟩
  exact q1 u σ as (.ref C) none j1 (go.trans go1) (r.go go1) ⟨C, rfl, T.gC, .inl ⟨rfl, rfl⟩⟩ fun dd e => by cases e
end
end TL
namespace TL
open PySem PySem.Spec PyProof.Rows L2 RZ
/-! ### promises of defs that may raise -/
abbrev Res := Except ExD PyData
@[simp] def Res.go (r : Res) (g : Nat) (Q : PyData → Nat → Prop) (R : ExD → Nat → Prop) : Prop := match r with
  | .ok d => Q d g
  | .error x => R x g
def ptX {α : Type} (args : α → List S) (pre : α → Prop) (res : α → Res) : PTR := fun ss g Q R => ∃ a, ss = args a ∧ pre a ∧ (res a).go g Q R
theorem ptX_mo {α : Type} {args : α → List S} {pre : α → Prop} {res : α → Res} : PMo (ptX args pre res) := fun ss g Q Q' R R' hq hr ⟨a, e, p, q⟩ => ⟨a, e, p, by
  cases h : res a with
  | ok d => rw [h] at q; exact hq _ _ q
  | error x => rw [h] at q; exact hr _ _ q⟩
/-! ### suites -/
def XMo (t : TX) : Prop := ∀ E g Q Q', (∀ d g', Q d g' → Q' d g') → t E g Q → t E g Q'
def XMoA (t : TL') : Prop := ∀ E g Q Q', (∀ d g', Q d g' → Q' d g') → t E g Q → t E g Q'
theorem xmo_c {d : PyData} : XMo (xC d) := fun E g Q Q' hq q => hq _ _ q
theorem xmo_exf {i : Nat} {f : Str} {fs : List (Str × PyData)} : XMo (xExF i f fs) := fun E g Q Q' hq ⟨e, d, e2, e3, q⟩ => ⟨e, d, e2, e3, hq _ _ q⟩
theorem xmo_nil : XMoA xaNil := fun E g Q Q' hq q => hq _ _ q
theorem xmo_cons {te : TX} {t : TL'} (h : XMo te) (ht : XMoA t) : XMoA (xaCons te t) := fun E g Q Q' hq q => h _ _ _ _ (fun d g1 q1 => ht _ _ _ _ (fun ds g2 q2 => hq _ _ q2) q1) q
theorem xmo_tup {t : TL'} (h : XMoA t) : XMo (xTup t) := fun E g Q Q' hq q => h _ _ _ _ (fun ss g1 ⟨ds, e, l, q⟩ => ⟨ds, e, l, hq _ _ q⟩) q
theorem xmo_asg {i : Nat} {te : TX} (h : XMo te) : ∀ k k' E g, k.Le k' → xAsg te (yName i) k E g → xAsg te (yName i) k' E g := fun k k' E g hk q => h _ _ _ _ (fun d g1 q1 => hk.nx _ _ q1) q
theorem xmo_ret {te : TX} (h : XMo te) : ∀ k k' E g, k.Le k' → xRet te k E g → xRet te k' E g := fun k k' E g hk q => h _ _ _ _ hk.rt q
/-! ### loops that may raise -/
theorem forTR_suf {y : TT'} {tb : TSR} {k : Kt} {R : RWt} {g : Nat} (I : List PyData → List S → Prop) : ∀ (ds : List PyData) (E : List S), I ds E →
    (∀ d r E, I (d :: r) E → ∀ h : List S → Nat → Prop, (∀ E', I r E' → h E' g) → y d E g fun E' => tb (ktLoop k h) R E' g) → (∀ E, I [] E → k.nx E g) → forTR y tb ds k R E g
  | [], E, hi, _, q => q E hi
  | d :: r, E, hi, h, q => h d r E hi (fun E2 g2 => forTR y tb r k R E2 g2) fun E' hi' => forTR_suf I r E' hi' h q
/-- an error of the class at A, and what a clause that names B says of it -/
theorem exm_of {K : PySem.W.Frag} {A B : Addr} {b : Bool} (h1 : PySem.W.subIn K (.ref B) (.type "BaseException") = some true) (h2 : PySem.W.hasDictIn K B = true) (h3 : PySem.W.typeIn K (.ref B) = some (.type "type")) (h4 : PySem.W.subIn K (.ref A) (.ref B) = some b)
    (h5 : PySem.W.subIn K (.ref A) (.type "BaseException") = some true) : PySem.W.exmOne K (.ref A) (.ref B) = some b := PySem.W.exm_ref h1 h2 h3 h4
end TL
namespace TL
open PySem PySem.Spec PyProof.Rows L2 RZ
/-- .. whose answer is told by what holds of it -/
abbrev ResG := Except ExD (PyData → Prop)
@[simp] def ResG.go (r : ResG) (g : Nat) (Q : PyData → Nat → Prop) (R : ExD → Nat → Prop) : Prop := match r with
  | .ok P => ∀ d g', P d → g ≤ g' → Q d g'
  | .error x => ∀ g', g ≤ g' → R x g'
def ptXG {α : Type} (args : α → List S) (pre : α → Prop) (res : α → ResG) : PTR := fun ss g Q R => ∃ a, ss = args a ∧ pre a ∧ (res a).go g Q R
theorem ptXG_mo {α : Type} {args : α → List S} {pre : α → Prop} {res : α → ResG} : PMo (ptXG args pre res) := fun ss g Q Q' R R' hq hr ⟨a, e, p, q⟩ => ⟨a, e, p, by
  cases h : res a with
  | ok P => rw [h] at q; exact fun d g' hp hg => hq _ _ (q d g' hp hg)
  | error x => rw [h] at q; exact fun g' hg => hr _ _ (q g' hg)⟩
end TL
namespace TL
open PySem PySem.Spec PyProof.Rows L2 RZ
/-! ### a frame's own dicts -/
section
variable {κ α : Type} [DecidableEq κ]
/-- in its place, or at the end -/
def putP (kvs : List (κ × α)) (k : κ) (v : α) : List (κ × α) :=
  if (kvs.any fun kv => decide (kv.1 = k)) = true then kvs.map (fun kv => if kv.1 = k then (kv.1, v) else kv) else kvs ++ [(k, v)]
def valP (kvs : List (κ × α)) (k : κ) : Option α := (kvs.find? fun kv => decide (kv.1 = k)).map (·.2)
theorem any_zip (k : κ) : ∀ (ks : List κ) (xs : List α), ks.length = xs.length → ((ks.zip xs).any fun kv => decide (kv.1 = k)) = ks.any fun a => decide (a = k)
  | [], [], _ => rfl
  | a :: ks, x :: xs, h => by simp only [List.zip_cons_cons, List.any_cons, any_zip k ks xs (by simpa using h)]
def repZ (k : κ) (v : α) : List κ → List α → List α
  | a :: ks, x :: xs => (if a = k then v else x) :: repZ k v ks xs
  | _, _ => []
theorem repZ_len (k : κ) (v : α) : ∀ (ks : List κ) (xs : List α), ks.length = xs.length → (repZ k v ks xs).length = ks.length
  | [], [], _ => rfl
  | a :: ks, x :: xs, h => by simp only [repZ, List.length_cons, repZ_len k v ks xs (by simpa using h)]
theorem map_zip (k : κ) (v : α) : ∀ (ks : List κ) (xs : List α), ks.length = xs.length → ((ks.zip xs).map fun kv => if kv.1 = k then (kv.1, v) else kv) = ks.zip (repZ k v ks xs)
  | [], [], _ => rfl
  | a :: ks, x :: xs, h => by
    simp only [List.zip_cons_cons, List.map_cons, repZ, map_zip k v ks xs (by simpa using h)]
    by_cases c : a = k
    · simp [c]
    · simp [c]
end
theorem putP_V (kvs : List (Key × V)) (k : Key) (v : V) : putP kvs k v = putK kvs k v := rfl
section
variable {K : PySem.W.Frag} {G : Ct} {w : Wd} {E : List S} {σ : L2.St} {as : List Addr}
theorem RvL.rep {v : V} {d : PyData} (rv : Rv K w v d) (k : Key) : ∀ (ks : List Key) {xs : List V} {ds : List PyData}, RvL K w xs ds → RvL K w (repZ k v ks xs) (repZ k d ks ds)
  | [], _, _, _ => by simp only [repZ]; exact .nil
  | a :: ks, _, _, .nil => .nil
  | a :: ks, _, _, .cons h t => by
    simp only [repZ]
    refine .cons ?_ (RvL.rep rv k ks t)
    by_cases c : a = k
    · rw [if_pos c, if_pos c]; exact rv
    · rw [if_neg c, if_neg c]; exact h
/-- a store, of values and of data alike -/
theorem put_zip {ks : List Key} {xs : List V} {ds : List PyData} {k : Key} {v : V} {d : PyData} (l : ks.length = xs.length) (r : RvL K w xs ds) (rv : Rv K w v d) :
    ∃ (ks' : List Key) (xs' : List V) (ds' : List PyData), putK (ks.zip xs) k v = ks'.zip xs' ∧ putP (ks.zip ds) k d = ks'.zip ds' ∧ ks'.length = xs'.length ∧ RvL K w xs' ds' := by
  have l2 : ks.length = ds.length := l.trans r.len
  unfold putK putP
  rw [any_zip k ks xs l, any_zip k ks ds l2]
  by_cases c : (ks.any fun a => decide (a = k)) = true
  · rw [if_pos c, if_pos c, map_zip k v ks xs l, map_zip k d ks ds l2]
    exact ⟨ks, _, _, rfl, rfl, (repZ_len k v ks xs l).symm, r.rep rv k ks⟩
  · rw [if_neg c, if_neg c]
    refine ⟨ks ++ [k], xs ++ [v], ds ++ [d], ?_, ?_, by simp [l], r.app (.cons rv .nil)⟩
    · rw [List.zip_append l]; rfl
    · rw [List.zip_append l2]; rfl
theorem val_zip {k : Key} : ∀ {ks : List Key} {xs : List V} {ds : List PyData}, ks.length = xs.length → RvL K w xs ds →
    (∀ d, valP (ks.zip ds) k = some d → ∃ v, valV (ks.zip xs) k = some v ∧ Rv K w v d) ∧ (valP (ks.zip ds) k = none → valV (ks.zip xs) k = none)
  | [], [], _, _, .nil => ⟨fun d h => (nomatch h), fun _ => rfl⟩
  | a :: ks, x :: xs, _, l, .cons (d := dx) (ds := ds) h t => by
    obtain ⟨h1, h2⟩ := val_zip (k := k) (ks := ks) (by simpa using l) t
    by_cases c : a = k
    · have e1 : valP ((a :: ks).zip (dx :: ds)) k = some dx := by simp [valP, List.find?_cons, c]
      rw [e1]
      exact ⟨fun d e => by cases e; exact ⟨x, valV_pos c, h⟩, fun e => nomatch e⟩
    · have e1 : valP ((a :: ks).zip (dx :: ds)) k = valP (ks.zip ds) k := by simp [valP, List.find?_cons, c]
      have e2 : valV ((a :: ks).zip (x :: xs)) k = valV (ks.zip xs) k := valV_neg c
      rw [e1, e2]
      exact ⟨h1, h2⟩
theorem EnvR.getHd (h : EnvR K G w E σ as) : ∀ {i : Nat} {l : List (Key × PyData)}, E[i]? = some (.hd l) → ∃ (a : Addr) (ks : List Key) (xs : List V) (ds : List PyData), l = ks.zip ds ∧ σ[i]? = some (some (.ref a)) ∧ w.H a = some (.dK (ks.zip xs)) ∧ w.cl a = 1 ∧ ks.length = xs.length ∧ RvL K w xs ds ∧ G.w0.H a = none ∧ a ∈ as := by
  induction h with
  | nil => intro i l e; simp at e
  | un x _ ih =>
    intro i l e
    cases i with
    | zero => simp at e
    | succ i => simpa using ih (by simpa using e)
  | v h _ ih =>
    intro i l e
    cases i with
    | zero => simp at e
    | succ i => simpa using ih (by simpa using e)
  | tok _ ih =>
    intro i l e
    cases i with
    | zero => simp at e
    | succ i => simpa using ih (by simpa using e)
  | @hl E σ as a xs ds h c n r na _ ih =>
    intro i l e
    cases i with
    | zero => simp at e
    | succ i =>
      obtain ⟨b, ks, ys, es, h0, h1, h2, h3, h4, h5, h6, h7⟩ := ih (by simpa using e)
      exact ⟨b, ks, ys, es, h0, by simpa using h1, h2, h3, h4, h5, h6, List.mem_cons_of_mem _ h7⟩
  | @hd E σ as a ks xs ds h c n l' r na _ ih =>
    intro i l e
    cases i with
    | zero =>
      have e' : ks.zip ds = l := by simpa using e
      subst e'
      exact ⟨a, ks, xs, ds, rfl, rfl, h, c, l', r, n, List.mem_cons_self⟩
    | succ i =>
      obtain ⟨b, ks, ys, es, h0, h1, h2, h3, h4, h5, h6, h7⟩ := ih (by simpa using e)
      exact ⟨b, ks, ys, es, h0, by simpa using h1, h2, h3, h4, h5, h6, List.mem_cons_of_mem _ h7⟩
/-- the own dict at i is written -/
theorem EnvR.setHd (h : EnvR K G w E σ as) : ∀ {i : Nat} {l : List (Key × PyData)} {a : Addr} {ks : List Key} {ys : List V} {ds : List PyData}, E[i]? = some (.hd l) → σ[i]? = some (some (.ref a)) → ks.length = ys.length → RvL K w ys ds → EnvR K G ⟨upd w.H a (.dK (ks.zip ys)), w.cl⟩ (E.set i (.hd (ks.zip ds))) σ as := by
  induction h with
  | nil => intro i l a ks ys ds e; simp at e
  | @un E σ as x t ih =>
    intro i l a ks ys ds e es lk r
    cases i with
    | zero => simp at e
    | succ i => exact .un x (ih (by simpa using e) (by simpa using es) lk r)
  | @v E σ as x d h t ih =>
    intro i l a ks ys ds e es lk r
    cases i with
    | zero => simp at e
    | succ i =>
      obtain ⟨b, _, _, _, _, h1, h2, h3, _⟩ := t.getHd (i := i) (l := l) (by simpa using e)
      have ea : b = a := by
        have es' : σ[i]? = some (some (.ref a)) := by simpa using es
        rw [es'] at h1
        cases h1; rfl
      subst ea
      exact .v (h.upd' (by rw [h3]; decide)) (ih (by simpa using e) (by simpa using es) lk r)
  | @tok E σ as t ih =>
    intro i l a ks ys ds e es lk r
    cases i with
    | zero => simp at e
    | succ i => exact .tok (ih (by simpa using e) (by simpa using es) lk r)
  | @hl E σ as b xs ds0 h c n rr na t ih =>
    intro i l a ks ys ds e es lk r
    cases i with
    | zero => simp at e
    | succ i =>
      obtain ⟨b', _, _, _, _, h1, h2, h3, _, _, _, hm⟩ := t.getHd (i := i) (l := l) (by simpa using e)
      have ea : b' = a := by
        have es' : σ[i]? = some (some (.ref a)) := by simpa using es
        rw [es'] at h1
        cases h1; rfl
      subst ea
      have ne : b ≠ b' := fun z => na (by rw [z]; exact hm)
      have n0 : w.cl b' ≠ 0 := by rw [h3]; decide
      exact .hl (Ow_other b _ h ne) c n (rr.upd' n0) na (ih (by simpa using e) (by simpa using es) lk r)
  | @hd E σ as b ks0 xs ds0 h c n l0 rr na t ih =>
    intro i l a ks ys ds e es lk r
    cases i with
    | zero =>
      have ea : b = a := by
        have es' : some (some (V.ref b)) = some (some (V.ref a)) := by simpa using es
        cases es'; rfl
      subst ea
      have n0 : w.cl b ≠ 0 := by rw [c]; decide
      exact .hd upd_same c n lk (r.upd' n0) na (t.other n0 na)
    | succ i =>
      obtain ⟨b', _, _, _, _, h1, h2, h3, _, _, _, hm⟩ := t.getHd (i := i) (l := l) (by simpa using e)
      have ea : b' = a := by
        have es' : σ[i]? = some (some (.ref a)) := by simpa using es
        rw [es'] at h1
        cases h1; rfl
      subst ea
      have ne : b ≠ b' := fun z => na (by rw [z]; exact hm)
      have n0 : w.cl b' ≠ 0 := by rw [h3]; decide
      exact .hd (Ow_other b _ h ne) c n l0 (rr.upd' n0) na (ih (by simpa using e) (by simpa using es) lk r)
/-- locked and let go -/
def Wd.lockF (w : Wd) (a : Addr) (od : Obj) (u : HO) : Wd := ⟨upd w.H a (.frz od u), fun b => if b = a then 0 else w.cl b⟩
theorem lockF_pu {w : Wd} {a : Addr} {od : Obj} {u : HO} (c : w.cl a ≠ 0) : Pu w (w.lockF a od u) := fun b o h z => by
  have ne : b ≠ a := fun e => c (by rw [← e]; exact z)
  exact ⟨(upd_ne ne).trans h, (if_neg ne).trans z⟩
theorem EnvR.keepF (h : EnvR K G w E σ as) : ∀ {a : Addr} {od : Obj} {u : HO}, a ∉ as → w.cl a = 1 → EnvR K G (Wd.lockF w a od u) E σ as := by
  induction h with
  | nil => intro a od u _ _; exact .nil
  | un x _ ih => intro a od u na c; exact .un x (ih na c)
  | v h _ ih => intro a od u na c; exact .v (h.pu (lockF_pu (by rw [c]; decide))) (ih na c)
  | tok _ ih => intro a od u na c; exact .tok (ih na c)
  | @hl E σ as b xs ds h c n r nb _ ih =>
    intro a od u na c'
    have ne : b ≠ a := fun z => na (by rw [z]; exact List.mem_cons_self)
    exact .hl ((upd_ne ne).trans h) ((if_neg ne).trans c) n (r.pu (lockF_pu (by rw [c']; decide))) nb (ih (fun z => na (List.mem_cons_of_mem _ z)) c')
  | @hd E σ as b ks xs ds h c n l r nb _ ih =>
    intro a od u na c'
    have ne : b ≠ a := fun z => na (by rw [z]; exact List.mem_cons_self)
    exact .hd ((upd_ne ne).trans h) ((if_neg ne).trans c) n l (r.pu (lockF_pu (by rw [c']; decide))) nb (ih (fun z => na (List.mem_cons_of_mem _ z)) c')
def dicD (l : List (Key × PyData)) : PyData := .dict (l.map fun p => (kD p.1, p.2))
theorem dicD_zip : ∀ (ks : List Key) (ds : List PyData), dicD (ks.zip ds) = .dict ((ks.map kD).zip ds) := by
  have : ∀ (ks : List Key) (ds : List PyData), (ks.zip ds).map (fun p => (kD p.1, p.2)) = (ks.map kD).zip ds := by
    intro ks
    induction ks with
    | nil => intro ds; rfl
    | cons k ks ih =>
      intro ds
      cases ds with
      | nil => rfl
      | cons d ds => simp only [List.zip_cons_cons, List.map_cons, ih ds]
  intro ks ds
  rw [dicD, this]
/-- the own dict at i becomes data -/
theorem EnvR.frozeD (h : EnvR K G w E σ as) : ∀ {i : Nat} {l : List (Key × PyData)} {a : Addr}, E[i]? = some (.hd l) → σ[i]? = some (some (.ref a)) → ∀ (od : Obj) (u : HO), w.H a = some u → ∃ bs, EnvR K G (Wd.lockF w a od u) (E.set i (.v (dicD l))) σ bs ∧ ∀ b ∈ bs, b ∈ as := by
  induction h with
  | nil => intro i l a e; simp at e
  | @un E σ as x t ih =>
    intro i l a e es od u hu
    cases i with
    | zero => simp at e
    | succ i => obtain ⟨bs, h1, h2⟩ := ih (i := i) (by simpa using e) (by simpa using es) od u hu; exact ⟨bs, .un x h1, h2⟩
  | @v E σ as x d h t ih =>
    intro i l a e es od u hu
    cases i with
    | zero => simp at e
    | succ i =>
      obtain ⟨bs, h1, h2⟩ := ih (i := i) (by simpa using e) (by simpa using es) od u hu
      obtain ⟨b0, _, _, _, _, g1, g2, g3, _⟩ := t.getHd (i := i) (l := l) (by simpa using e)
      have ea : b0 = a := by
        have es' : σ[i]? = some (some (.ref a)) := by simpa using es
        rw [es'] at g1
        cases g1; rfl
      subst ea
      exact ⟨bs, .v (h.pu (lockF_pu (by rw [g3]; decide))) h1, h2⟩
  | @tok E σ as t ih =>
    intro i l a e es od u hu
    cases i with
    | zero => simp at e
    | succ i => obtain ⟨bs, h1, h2⟩ := ih (i := i) (by simpa using e) (by simpa using es) od u hu; exact ⟨bs, .tok h1, h2⟩
  | @hd E σ as b ks xs ds h c n l0 rr na t ih =>
    intro i l a e es od u hu
    cases i with
    | zero =>
      have ea : b = a := by
        have es' : some (some (V.ref b)) = some (some (V.ref a)) := by simpa using es
        cases es'; rfl
      have el : ks.zip ds = l := by simpa using e
      subst ea
      subst el
      refine ⟨as, ?_, fun b hb => List.mem_cons_of_mem _ hb⟩
      rw [dicD_zip]
      rw [h] at hu
      cases hu
      exact .v (.dic ⟨⟨od, upd_same⟩, if_pos rfl⟩ l0 (rr.pu (lockF_pu (by rw [c]; decide)))) (t.keepF na c)
    | succ i =>
      obtain ⟨b', _, _, _, _, h1, h2, h3, _, _, _, hm⟩ := t.getHd (i := i) (l := l) (by simpa using e)
      have ea : b' = a := by
        have es' : σ[i]? = some (some (.ref a)) := by simpa using es
        rw [es'] at h1
        cases h1; rfl
      subst ea
      have ne : b ≠ b' := fun z => na (by rw [z]; exact hm)
      obtain ⟨bs, q1, q2⟩ := ih (i := i) (by simpa using e) (by simpa using es) od u hu
      refine ⟨b :: bs, .hd ((upd_ne ne).trans h) ((if_neg ne).trans c) n l0 (rr.pu (lockF_pu (by rw [h3]; decide))) (fun z => na (q2 b z)) q1, fun x hx => ?_⟩
      rcases List.mem_cons.mp hx with z | z
      · rw [z]; exact List.mem_cons_self
      · exact List.mem_cons_of_mem _ (q2 x z)
  | @hl E σ as b xs ds h c n rr na t ih =>
    intro i l a e es od u hu
    cases i with
    | zero => simp at e
    | succ i =>
      obtain ⟨b', _, _, _, _, h1, h2, h3, _, _, _, hm⟩ := t.getHd (i := i) (l := l) (by simpa using e)
      have ea : b' = a := by
        have es' : σ[i]? = some (some (.ref a)) := by simpa using es
        rw [es'] at h1
        cases h1; rfl
      subst ea
      have ne : b ≠ b' := fun z => na (by rw [z]; exact hm)
      obtain ⟨bs, q1, q2⟩ := ih (i := i) (by simpa using e) (by simpa using es) od u hu
      refine ⟨b :: bs, .hl ((upd_ne ne).trans h) ((if_neg ne).trans c) n (rr.pu (lockF_pu (by rw [h3]; decide))) (fun z => na (q2 b z)) q1, fun x hx => ?_⟩
      rcases List.mem_cons.mp hx with z | z
      · rw [z]; exact List.mem_cons_self
      · exact List.mem_cons_of_mem _ (q2 x z)
/-- a new own dict at i -/
theorem EnvR.newHd (h : EnvR K G w E σ as) : ∀ (i : Nat) {p : Addr}, w.H p = none → G.w0.H p = none → i < E.length → ∃ bs, EnvR K G (w.new p (.dK []) 1) (E.set i (.hd [])) (σ.set i (some (.ref p))) bs ∧ ∀ b ∈ bs, b ∈ as ∨ b = p := by
  have fresh : ∀ {p : Addr} {as : List Addr} {E : List S} {σ : L2.St}, EnvR K G w E σ as → w.H p = none → p ∉ as := fun {p as E σ} h n z => by
    obtain ⟨⟨o, e⟩, _⟩ := h.own p z
    rw [n] at e; cases e
  have mk : ∀ {E : List S} {σ : L2.St} {as : List Addr} {p : Addr}, EnvR K G w E σ as → w.H p = none → G.w0.H p = none → EnvR K G (w.new p (.dK []) 1) (.hd [] :: E) (some (.ref p) :: σ) (p :: as) := fun t n n0 =>
    .hd (ks := []) (xs := []) (ds := []) upd_same (if_pos rfl) n0 rfl .nil (fresh t n) (t.go (Go.new' n 1))
  have up : ∀ {as : List Addr} {p b : Addr}, b ∈ p :: as → b ∈ as ∨ b = p := fun hb => by rcases List.mem_cons.mp hb with z | z; exact .inr z; exact .inl z
  induction h with
  | nil => intro i p _ _ hi; simp at hi
  | @un E σ as x t ih =>
    intro i p n n0 hi
    cases i with
    | zero => exact ⟨p :: as, mk t n n0, fun b => up⟩
    | succ i => obtain ⟨bs, h1, h2⟩ := ih i n n0 (by simpa using hi); exact ⟨bs, .un x h1, h2⟩
  | @v E σ as x d h t ih =>
    intro i p n n0 hi
    cases i with
    | zero => exact ⟨p :: as, mk t n n0, fun b => up⟩
    | succ i => obtain ⟨bs, h1, h2⟩ := ih i n n0 (by simpa using hi); exact ⟨bs, .v (h.go (Go.new' n 1)) h1, h2⟩
  | @tok E σ as t ih =>
    intro i p n n0 hi
    cases i with
    | zero => exact ⟨p :: as, mk t n n0, fun b => up⟩
    | succ i => obtain ⟨bs, h1, h2⟩ := ih i n n0 (by simpa using hi); exact ⟨bs, .tok h1, h2⟩
  | @hl E σ as b xs ds h c nn rr na t ih =>
    intro i p n n0 hi
    have nbp : b ≠ p := fun z => by rw [z, n] at h; cases h
    cases i with
    | zero => exact ⟨p :: as, mk t n n0, fun x hx => (up hx).imp (List.mem_cons_of_mem _) id⟩
    | succ i =>
      obtain ⟨bs, h1, h2⟩ := ih i n n0 (by simpa using hi)
      refine ⟨b :: bs, .hl (by show upd w.H p (.dK []) b = some (.lst xs); rw [upd_ne nbp]; exact h) (by show (if b = p then 1 else w.cl b) = 1; rw [if_neg nbp]; exact c) nn (rr.go (Go.new' n 1)) (fun z => by
        rcases h2 b z with q | q
        · exact na q
        · exact nbp q) h1, fun x hx => ?_⟩
      rcases List.mem_cons.mp hx with z | z
      · rw [z]; exact .inl List.mem_cons_self
      · rcases h2 x z with q | q
        · exact .inl (List.mem_cons_of_mem _ q)
        · exact .inr q
  | @hd E σ as b ks xs ds h c nn l0 rr na t ih =>
    intro i p n n0 hi
    have nbp : b ≠ p := fun z => by rw [z, n] at h; cases h
    cases i with
    | zero => exact ⟨p :: as, mk t n n0, fun x hx => (up hx).imp (List.mem_cons_of_mem _) id⟩
    | succ i =>
      obtain ⟨bs, h1, h2⟩ := ih i n n0 (by simpa using hi)
      refine ⟨b :: bs, .hd (by show upd w.H p (.dK []) b = some _; rw [upd_ne nbp]; exact h) (by show (if b = p then 1 else w.cl b) = 1; rw [if_neg nbp]; exact c) nn l0 (rr.go (Go.new' n 1)) (fun z => by
        rcases h2 b z with q | q
        · exact na q
        · exact nbp q) h1, fun x hx => ?_⟩
      rcases List.mem_cons.mp hx with z | z
      · rw [z]; exact .inl List.mem_cons_self
      · rcases h2 x z with q | q
        · exact .inl (List.mem_cons_of_mem _ q)
        · exact .inr q
end
end TL
namespace TL
open PySem PySem.Spec PyProof.Rows L2 RZ
section
variable {G : Ct} {X : Cx} {e : Expr} {te tb : TX} {pos : Pos}
/-- x = {}, x the frame's own -/
@[simp] def xOwnD (i : Nat) : TSt := fun k E g => i < E.length ∧ k.nx (E.set i (.hd [])) g
theorem xs_ownD (i : Nat) {x : Str} {p1 p2 : Pos} (h : PS X (.Assign [.Name x p1] (.Dict [] [] p2) pos) (tAsg tDNewK (gName i))) : XS G X (.Assign [.Name x p1] (.Dict [] [] p2) pos) (xOwnD i) := by
  refine ⟨fun k k' E g h ⟨l, q⟩ => ⟨l, h.nx _ _ q⟩, h.imp fun D σ H ⟨cl, E, g, as, j, go, r, hi, q⟩ => ?_⟩
  intro p np
  obtain ⟨bs, r1, _⟩ := r.newHd i np (go_fresh go np) hi
  exact q _ _ bs (G.st0 (Go0.new np 1) j) (go.trans (Go.new' np 1)) (Go.new' np 1).pu r1
/-- x, y = e, {} -/
@[simp] def xPar2D (i j : Nat) (te : TX) : TSt := fun k E g => (j < E.length ∧ i ≠ j) ∧ te E g fun d g1 => k.nx ((E.set i (.v d)).set j (.hd [])) g1
theorem xs_par2D (i j : Nat) {s : Stmt} (ha : XE G X e te) (hij : i ≠ j) (h : ∀ ta', PE X e ta' → PS X s (tPar i j (tCons ta' (tCons tDNewK tNil)))) : XS G X s (xPar2D i j te) := by
  refine ⟨fun k k' E g h ⟨l, q⟩ => ⟨l, ha.mo _ _ _ _ (fun d g1 q1 => h.nx _ _ q1) q⟩, (h _ ha.pe).imp fun D σ H ⟨cl, E, g, as, j0, go, r, ⟨hl, _⟩, q⟩ => ?_⟩
  refine ⟨cl, E, g, as, j0, r, ha.mo _ _ _ _ (fun d g1 q1 u v go1 j1 rv => ?_) q⟩
  intro p np
  have gn : Go u (u.new p (.dK []) 1) := Go.new' np 1
  refine ⟨v, .ref p, rfl, ?_⟩
  obtain ⟨bs, r1, _⟩ := (r.go go1).set i rv
  obtain ⟨cs, r2, _⟩ := r1.newHd j np (go_fresh (go.trans go1) np) (by simpa using hl)
  exact q1 _ _ cs (G.st0 (Go0.new np 1) j1) ((go.trans go1).trans gn) (go1.pu.trans gn.pu) r2
/-- d[k] = e, d the frame's own -/
@[simp] def xDPut (i : Nat) (te tk : TX) : TSt := fun k E g => ∃ l, E[i]? = some (.hd l) ∧ te E g fun d g1 => tk E g1 fun y g2 => ∃ q, keyD y = some q ∧ l.length < sizeLine ∧ k.nx (E.set i (.hd (putP l q d))) g2
theorem xs_dput (i : Nat) {x : Str} {a : Expr} {ta : TX} {p1 pos' : Pos} (hu : X.A.units + 1 < cLine) (he : XE G X e te) (hk : XE G X a ta) (hv : PE X (.Name x p1) (tVar i)) (hs : swapsWith e (some (.Subscript (.Name x p1) a pos')) pos.line X.env = pure false) :
    XS G X (.Assign [.Subscript (.Name x p1) a pos'] e pos) (xDPut i te ta) := by
  refine ⟨fun k k' E g h ⟨l, e1, q⟩ => ⟨l, e1, he.mo _ _ _ _ (fun d g1 q1 => hk.mo _ _ _ _ (fun n g2 ⟨m, b, c, q2⟩ => ⟨m, b, c, h.nx _ _ q2⟩) q1) q⟩, (ps_dput hu hv hk.pe he.pe hs).imp fun D σ H ⟨cl, E, g, as, j0, go, r, l, e1, q⟩ => ?_⟩
  obtain ⟨a, ks, xs, ds, e0, h1, h2, h3, h4, h5, h6, _⟩ := r.getHd e1
  refine ⟨cl, E, g, as, j0, r, he.mo _ _ _ _ (fun d g1 q1 u v go1 j1 rv => ?_) q⟩
  refine ⟨.ref a, h1, u.cl, E, g1, as, j1, r.go go1, hk.mo _ _ _ _ (fun n g2 ⟨m, hn, hz, q2⟩ u2 v2 go2 j2 rv2 => ?_) q1⟩
  have e4 := keyD_kD hn
  subst e4
  have e5 := rv_key rv2
  subst e5
  have go12 := go1.trans go2
  have c2 : (⟨H, cl⟩ : Wd).cl a ≠ 2 := by rw [h3]; decide
  have hu2 : u2.H a = some (.dK (ks.zip xs)) := (go12.st a _ h2).2 c2
  have cu : u2.cl a = 1 := ((go12.st a _ h2).1).trans h3
  have r4 := h5.go go12
  obtain ⟨ks', xs', ds', p1, p2, p3, p4⟩ := put_zip (k := m) h4 r4 (rv.go go2)
  have lz : (ks.zip xs).length < sizeLine := by
    have a1 := h5.len
    rw [e0] at hz
    simp only [List.length_zip] at hz ⊢
    omega
  refine ⟨a, _, rfl, .inl ⟨_, m, hu2, rfl, lz, rfl⟩, ?_⟩
  rw [p1]
  rw [e0, p2] at q2
  exact q2 ⟨upd u2.H a (.dK (ks'.zip xs')), u2.cl⟩ σ as (write_j j2 (by rw [cu]; decide)) (write_go (go.trans go12) h6) (go12.pu.trans (write_pu (by rw [cu]; decide))) ((r.go go12).setHd e1 h1 p3 p4)
/-- d[k], d the frame's own -/
@[simp] def xHdIx (i : Nat) (te : TX) : TX := fun E g Q => ∃ l, E[i]? = some (.hd l) ∧ te E g fun y g1 => ∃ q z, keyD y = some q ∧ valP l q = some z ∧ Q z g1
theorem xe_hdIx (i : Nat) {x : Str} {p : Pos} (hu : X.A.units + 1 < cLine) (hv : PE X (.Name x p) (tVar i)) (he : XE G X e te) (hs : NoSl e) : XE G X (.Subscript (.Name x p) e pos) (xHdIx i te) := by
  refine ⟨fun E g Q Q' hq ⟨l, e1, q⟩ => ⟨l, e1, he.mo _ _ _ _ (fun d g1 ⟨k, z, a, b, q1⟩ => ⟨k, z, a, b, hq _ _ q1⟩) q⟩, (pe_dget hu hv he.pe hs).imp fun σ H Q ⟨cl, E, g, as, j, r, l, e1, q⟩ => ?_⟩
  obtain ⟨a, ks, xs, ds, e0, h1, h2, h3, h4, h5, h6, _⟩ := r.getHd e1
  refine ⟨.ref a, h1, cl, E, g, as, j, r, he.mo _ _ _ _ (fun y g1 ⟨m, z, hn, hz, q1⟩ u v go1 j1 rv => ?_) q⟩
  have e4 := keyD_kD hn
  subst e4
  have e5 := rv_key rv
  subst e5
  have hu2 : u.H a = some (.dK (ks.zip xs)) := (go1.st a _ h2).2 (by show cl a ≠ 2; rw [show cl a = 1 from h3]; decide)
  rw [e0] at hz
  obtain ⟨v', z1, z2⟩ := (val_zip h4 (h5.go go1)).1 z hz
  exact ⟨a, v', rfl, .inl ⟨_, m, .inl hu2, rfl, z1.symm⟩, q1 u v' go1 j1 z2⟩
/-- d.get(k, x), d the frame's own -/
@[simp] def xHdGet (i : Nat) (te tx : TX) : TX := fun E g Q => ∃ l, E[i]? = some (.hd l) ∧ te E g fun y g1 => tx E g1 fun x g2 => ∃ q, keyD y = some q ∧ Q ((valP l q).getD x) g2
theorem xe_hdGet (i : Nat) {x : Str} {f : Expr} {tx : TX} {p apos cpos : Pos} (hu : X.A.units + 1 < cLine) (hv : PE X (.Name x p) (tVar i)) (he : XE G X e te) (hf : XE G X f tx) (m : M2 X (.Name x p) "get" apos e f cpos) : XE G X (.Call (.Attribute (.Name x p) "get" apos) [e, f] [] cpos) (xHdGet i te tx) := by
  refine ⟨fun E g Q Q' hq ⟨l, e1, q⟩ => ⟨l, e1, he.mo _ _ _ _ (fun y g2 q2 => hf.mo _ _ _ _ (fun x g3 ⟨k, e3, q3⟩ => ⟨k, e3, hq _ _ q3⟩) q2) q⟩, (pe_dget2 hu hv he.pe hf.pe m).imp fun σ H Q ⟨cl, E, g, as, j, r, l, e1, q⟩ => ?_⟩
  obtain ⟨a, ks, xs, ds, e0, h1, h2, h3, h4, h5, h6, _⟩ := r.getHd e1
  refine ⟨.ref a, h1, a, rfl, .inl ⟨_, .inl h2⟩, cl, E, g, as, j, r, he.mo _ _ _ _ (fun y g1 q1 u v go1 j1 rv => ?_) q⟩
  refine ⟨u.cl, E, g1, as, j1, r.go go1, hf.mo _ _ _ _ (fun x g2 ⟨m, hn, q2⟩ u2 v2 go2 j2 rv2 => ?_) q1⟩
  have e4 := keyD_kD hn
  subst e4
  have e5 := rv_key rv
  subst e5
  have go12 := go1.trans go2
  have hu2 : u2.H a = some (.dK (ks.zip xs)) := (go12.st a _ h2).2 (by show cl a ≠ 2; rw [show cl a = 1 from h3]; decide)
  refine ⟨_, .inl ⟨_, m, .inl hu2, rfl, rfl⟩, ?_⟩
  rw [e0] at q2
  obtain ⟨z1, z2⟩ := val_zip (k := m) h4 (h5.go go12)
  cases z : valP (ks.zip ds) m with
  | none =>
    rw [z] at q2
    rw [z2 z]
    exact q2 u2 _ go12 j2 rv2
  | some d =>
    rw [z] at q2
    obtain ⟨v', y1, y2⟩ := z1 d z
    rw [y1]
    exact q2 u2 _ go12 j2 y2
/-- from here on the own dict at i is data -/
@[simp] def xFrzD (i : Nat) (t : TSt) : TSt := fun k E g => ∃ l, E[i]? = some (.hd l) ∧ t k (E.set i (.v (dicD l))) g
theorem pss_lk {X : Cx} {sts : List Stmt} {t : TS} (h : PSs X sts t) : PSs X sts (fun D σ H => ∃ d u, H d = some u ∧ Mut (some u) ∧ ∀ od : Obj, t D σ (upd H d (.frz od u))) := by
  refine ⟨fun pins s σ H D I hw => ?_⟩
  obtain ⟨d, u, hd, mu, hw⟩ := hw
  obtain ⟨od, I1⟩ := I.lock hd mu
  exact h.run pins s σ _ _ I1 (hw od)
theorem lockF_go {w u : Wd} {a : Addr} {od : Obj} {o : HO} (g : Go w u) (n : w.H a = none) : Go w (Wd.lockF u a od o) := by
  have ne : ∀ b x, w.H b = some x → b ≠ a := fun b x h e => by rw [e, n] at h; cases h
  refine ⟨fun b x h => ?_, fun b x h => ?_⟩
  · obtain ⟨c1, c2⟩ := g.st b x h
    exact ⟨(if_neg (ne b x h)).trans c1, fun k => (upd_ne (ne b x h)).trans (c2 k)⟩
  · obtain ⟨o', h'⟩ := g.tr b x h
    exact ⟨o', (upd_ne (ne b x h)).trans h'⟩
theorem lockF_j {G : Ct} {g : Nat} {w : Wd} {a : Addr} {od : Obj} {o : HO} (j : G.J g w) (c : w.cl a ≠ 2) : G.J g (Wd.lockF w a od o) := G.st g w _ (fun b x h z => by
  have ne : b ≠ a := fun e => c (by rw [← e]; exact z)
  exact ⟨(upd_ne ne).trans h, (if_neg ne).trans z⟩) j
theorem xss_frzD (i : Nat) {sts : List Stmt} {t : TSt} (h : XSs G X sts t) : XSs G X sts (xFrzD i t) := by
  refine ⟨fun k k' E g hk ⟨l, e, q⟩ => ⟨l, e, h.mo _ _ _ _ hk q⟩, (pss_lk h.ps).imp fun D σ H ⟨cl, E, g, as, j, go, r, l, e, q⟩ => ?_⟩
  obtain ⟨a, ks, xs, ds, e0, h1, h2, h3, h4, h5, h6, _⟩ := r.getHd e
  refine ⟨a, _, h2, trivial, fun od => ?_⟩
  obtain ⟨bs, r', _⟩ := r.frozeD e h1 od _ h2
  have c2 : (⟨H, cl⟩ : Wd).cl a ≠ 2 := by rw [h3]; decide
  have c0 : (⟨H, cl⟩ : Wd).cl a ≠ 0 := by rw [h3]; decide
  exact ⟨(Wd.lockF ⟨H, cl⟩ a od (.dK (ks.zip xs))).cl, E.set i (.v (dicD l)), g, bs, lockF_j j c2, lockF_go go h6, r', h.mo _ _ _ _ (ktOf_le (lockF_pu c0)) q⟩
end
end TL
namespace TL
open PySem PySem.Spec PyProof.Rows L2 RZ
section
variable {G : Ct} {X : Cx} {e : Expr} {te tb : TX} {tg : Expr} {pos : Pos}
/-! ### list(d.items()), d the frame's own -/
/-- many new things, none of which stood -/
def Wd.more (w : Wd) (H' : Hp) : Wd := ⟨H', fun b => match w.H b with
  | some _ => w.cl b
  | none => 0⟩
theorem more_go {w : Wd} {H' : Hp} (h : ∀ b o, w.H b = some o → H' b = some o) : Go w (w.more H') :=
  ⟨fun b o e => ⟨by simp [Wd.more, e], fun _ => h b o e⟩, fun b o e => ⟨o, h b o e⟩⟩
theorem more_cl {w : Wd} {H' : Hp} {b : Addr} (h : w.H b = none) : (w.more H').cl b = 0 := by simp [Wd.more, h]
theorem items_rv {K : PySem.W.Frag} {u : Wd} : ∀ {ks : List Key} {xs : List V} {ds : List PyData} {ts : List Addr}, ks.length = xs.length → RvL K u xs ds → (∀ p ∈ ks.zip ds, (keyD p.2).isSome = true) →
    Paired (fun (t : Addr) (q : Key × V) => u.H t = some (.tup [kV q.1, q.2])) ts (ks.zip xs) → (∀ t ∈ ts, u.cl t = 0) → RvL K u (ts.map V.ref) ((ks.zip ds).map fun p => .tuple [kD p.1, p.2])
  | [], _, _, _, _, _, _, .nil, _ => .nil
  | k :: ks, v :: vs, _, _, l, .cons (d := d) (ds := ds) hv' t, hk, .cons (a := t0) (l₁ := ts) ht hp, hcl => by
    simp only [List.zip_cons_cons, List.map_cons]
    refine .cons ?_ (items_rv (by simpa using l) t (fun p hp => hk p (by simp [hp])) hp fun t ht => hcl t (List.mem_cons_of_mem _ ht))
    have hkd : (keyD d).isSome = true := hk (k, d) (by simp)
    have hkv : keyV1 v = true := by
      cases hv' <;> first | rfl | simp [keyD] at hkd
    have hkk : keyV1 (kV k) = true := by cases k <;> rfl
    have ek : keyV [kV k, v] = true := by simp [keyV, hkk, hkv]
    refine .tup (.inl ⟨⟨.none, none, .fields #[], #[]⟩, ?_, rfl, hcl _ List.mem_cons_self⟩) ?_ (xs := [kV k, v])
    · rw [tupO, if_pos ek]; exact ht
    · refine .cons ?_ (.cons hv' .nil)
      cases k with
      | inl i => exact .int i
      | inr y => exact .str y
@[simp] def xHdItems (i : Nat) : TX := fun E g Q => ∃ l, E[i]? = some (.hd l) ∧ (∀ p ∈ l, (keyD p.2).isSome = true) ∧ Q (.list (l.map fun p => .tuple [kD p.1, p.2])) g
theorem xe_hdItems (i : Nat) {x : Str} {p1 : Pos} (hc : X.calm = true) (hv : PE X (.Name x p1) (tVar i)) (h : ∀ te', PE X (.Name x p1) te' → PE X e (LiI.tListItems te')) : XE G X e (xHdItems i) := by
  refine ⟨fun E g Q Q' hq ⟨l, e1, a, q⟩ => ⟨l, e1, a, hq _ _ q⟩, (h _ hv).imp fun σ H Q ⟨cl, E, g, as, j, r, l, e1, hk, q⟩ => ?_⟩
  obtain ⟨a, ks, xs, ds, e0, h1, h2, h3, h4, h5, h6, _⟩ := r.getHd e1
  refine ⟨.ref a, h1, a, _, rfl, h2, fun H' p ts k0 np nts pts hl hp => ?_⟩
  have go1 : Go ⟨H, cl⟩ (Wd.more ⟨H, cl⟩ H') := more_go k0
  refine q (Wd.more ⟨H, cl⟩ H') (.ref p) go1 (G.st _ _ _ (fun b o z c => ⟨k0 b o z, by simp only [Wd.more]; rw [show H b = some o from z]; exact c⟩) j) ?_
  refine .lst (.inl ⟨.inl hl, more_cl np⟩) ?_
  rw [e0]
  rw [e0] at hk
  have hcl : ∀ t ∈ ts, (Wd.more ⟨H, cl⟩ H').cl t = 0 := fun t ht => more_cl (nts t ht)
  exact items_rv (u := Wd.more ⟨H, cl⟩ H') h4 (h5.go go1) hk hp hcl
/-! ### sorted(xs), of data -/
def leD : PyData → PyData → Bool := PySem.W.dataLe false id
def PairsF (F : V → PyData → Prop) (xs : List V) (ds : List PyData) : Prop := Paired F xs ds
def rSortD (K : PySem.W.Frag) : List V → Hp → VK → Prop := fun vs H Q => ∃ (a : Addr) (xs : List V) (l : List PyData), vs = [V.ref a] ∧ SqL K H a xs ∧ DpAll K H xs l ∧ PySem.W.AllAlike l ∧ PySem.W.Sortable l ∧ (∀ d ∈ l, d.depth ≤ 8) ∧
  ∀ ys p, (∀ F : V → PyData → Prop, Paired F xs l → Paired F ys (l.mergeSort leD)) → H p = none → Q (.ref p) (upd H p (.lst ys))
theorem each_of {R : Value → PyData → Prop} : ∀ {vs : List Value} {ds : List PyData}, vs.length = ds.length → (∀ (i : Nat) v d, vs[i]? = some v → ds[i]? = some d → R v d) → PySem.W.EachIs R vs ds
  | [], [], _, _ => .nil
  | v :: vs, d :: ds, h, k => .cons (k 0 v d rfl rfl) (each_of (by simpa using h) fun i v d e1 e2 => k (i + 1) v d e1 e2)
theorem each_rel {K : PySem.W.Frag} {H : Hp} {xs : List V} {l : List PyData} : ∀ {out : List Value} {bs : List PyData}, PySem.W.EachIs (fun v b => ∃ x, RelV x v ∧ (x, b) ∈ xs.zip l) out bs →
    ∃ ys : List V, Vals ys out ∧ ∀ F : V → PyData → Prop, (∀ x b, (x, b) ∈ xs.zip l → F x b) → Paired F ys bs
  | _, _, .nil => ⟨[], .nil, fun F h => .nil⟩
  | _, _, .cons ⟨x, h1, h2⟩ t => by
    obtain ⟨ys, a, b⟩ := each_rel (K := K) (H := H) t
    exact ⟨x :: ys, .cons h1 a, fun F h => .cons (h _ _ h2) (b F h)⟩
theorem paired_mem {F : V → PyData → Prop} : ∀ {xs : List V} {l : List PyData}, Paired F xs l → ∀ x b, (x, b) ∈ xs.zip l → F x b
  | _, _, .nil, x, b, h => by simp at h
  | _, _, .cons r t, x, b, h => by
    simp only [List.zip_cons_cons, List.mem_cons, Prod.mk.injEq] at h
    rcases h with ⟨rfl, rfl⟩ | h
    · exact r
    · exact paired_mem t x b h
theorem dpAll_len {K : PySem.W.Frag} {H : Hp} : ∀ {xs : List V} {l : List PyData}, DpAll K H xs l → xs.length = l.length
  | _, _, .nil => rfl
  | _, _, .cons _ t => by simp [dpAll_len t]
theorem each_zip {K : PySem.W.Frag} {H : Hp} : ∀ {xs : List V} {l : List PyData} {its : List Value}, DpAll K H xs l → Vals xs its → PySem.W.EachIs (fun v b => ∃ x, RelV x v ∧ (x, b) ∈ xs.zip l) its l
  | _, _, _, .nil, .nil => .nil
  | _, _, _, .cons (v := x) (d := d) hx ht, .cons h1 h2 => .cons ⟨x, h1, by simp⟩ ((each_zip ht h2).mono fun v b ⟨y, m1, m2⟩ => ⟨y, m1, by simp [m2]⟩)
theorem cr_sortD (hu : X.A.units + 66 < cLine) : CallR X (.builtin "sorted") (rSortD X.K) := by
  intro pins s σ H vs us Q I r ⟨a, xs, l, e, hl, hd, hal, hso, hdep, q⟩
  subst e
  rw [Vals.ref1 r]
  obtain ⟨its, rv, hL, hz⟩ := I.list hl
  obtain ⟨as, hr⟩ := Dp.readsAll I l xs its hd rv
  have len : xs.length = l.length := dpAll_len hd
  have e0 := each_zip hd rv
  refine PySem.W.sorted_data (enc := id) (bs := l) (R := fun v b => ∃ x, RelV x v ∧ (x, b) ∈ xs.zip l) hL.isList e0 (PySem.W.readsAll_each id (by simpa using hr)) (by simpa using hal) (by simpa using hso) (by rw [← len]; exact hz) (fun d hd' => by have := hdep d hd'; show _ + d.depth < _; omega) fun out ho hout => ?_
  obtain ⟨ys, hy, hF⟩ := each_rel (K := X.K) (H := H) hout
  obtain ⟨ep, he'⟩ := PyProof.Rows.sortedAll_at s.heap its out.toArray
  have hlen : ys.length ≤ sizeLine := by
    have := hy.length
    omega
  exact ⟨.ref _, upd H (s.heap.objs.size + 1) (.lst ys), I.laid (t' := s.toks) (fun _ _ => PyProof.Rows.sortedAll_old) (Nat.le_succ _) ⟨hlen, out, ep, hy, he'⟩, rfl, q ys _ (fun F hp => hF F (paired_mem hp)) (I.hok.fresh (Nat.le_succ _))⟩
/-- sorted(xs), xs a list of alike things -/
def cSort : CD := fun ds g Q => ∃ l, ds = [.list l] ∧ noDicts l = true ∧ PySem.W.AllAlike l ∧ PySem.W.Sortable l ∧ (∀ d ∈ l, d.depth ≤ 8) ∧ Q (.list (l.mergeSort leD)) g
theorem rvL_paired {K : PySem.W.Frag} {w : Wd} : ∀ {xs : List V} {l : List PyData}, RvL K w xs l → Paired (Rv K w) xs l
  | _, _, .nil => .nil
  | _, _, .cons h t => .cons h (rvL_paired t)
theorem paired_rvL {K : PySem.W.Frag} {w : Wd} : ∀ {xs : List V} {l : List PyData}, Paired (Rv K w) xs l → RvL K w xs l
  | _, _, .nil => .nil
  | _, _, .cons h t => .cons h (paired_rvL t)
theorem cd_sort {K : PySem.W.Frag} : CallD G K (rSortD K) cSort := by
  refine ⟨fun ds g Q Q' hq ⟨l, a, b, c, d, f, q⟩ => ⟨l, a, b, c, d, f, hq _ _ q⟩, fun w g vs ds Q j r ⟨l, a, b, c, d, f, q⟩ => ?_⟩
  subst a
  cases r with
  | cons h t =>
    cases t
    cases h with
    | @lst a xs ds hL rl =>
      refine ⟨a, xs, l, rfl, hL.sq, rl.dp b, c, d, f, fun ys p hF np => ?_⟩
      have r1 := rl.go (Go.new' (o := .lst ys) np 0)
      exact q (w.new p (.lst ys) 0) (.ref p) (Go.new' np 0) (G.st0 (Go0.new np 0) j) (new_lst np (paired_rvL (hF _ (rvL_paired rl))))
/-! ### for k in d, d data -/
def keysD : List (PyData × PyData) → List PyData := List.map (·.1)
theorem wk_keys {K : PySem.W.Frag} {a : Addr} {o : Obj} {ks : List Key} {xs : List V} {w : Wd} (hl : ks.length = xs.length) : Wk K false (Itk a o (ks.zip xs)) (ks.map kD) fun w => w.H a = some (.frz o (.dK (ks.zip xs))) ∧ w.cl a = 0 where
  pu := fun w u h p => ⟨(p a _ h.1 h.2).1, (p a _ h.1 h.2).2⟩
  go := fun i w h l => ⟨h.1, by simpa [hl] using l⟩
  stop := fun i w h l => ⟨h.1, by simpa [hl] using l⟩
  yld := fun i w x H' d h e y => by
    obtain ⟨e1, k, v, e2, e3⟩ := y
    have hk : ks[i]? = some k := by
      have := List.getElem?_zip_eq_some.1 e2
      exact this.1
    rw [List.getElem?_map, hk] at e
    cases e
    subst e3
    refine ⟨w, e1.symm, Go0.refl w, .of ?_⟩
    cases k with
    | inl i => exact .int i
    | inr y => exact .str y
@[simp] def xiKeys (te : TX) : TWk := fun E g Q => te E g fun d g' => ∃ kvs, d = .dict kvs ∧ Q (keysD kvs) g'
theorem xi_keys (h : XE G X e te) : XI G X false tg e (xiKeys te) := by
  refine ⟨fun E g Q Q' hq q => h.mo _ _ _ _ (fun d g1 ⟨ds, e, q⟩ => ⟨ds, e, hq _ _ q⟩) q, (pi_keys h.pe).imp fun σ H R ⟨cl, E, g, as, j, r, q⟩ => ?_⟩
  refine ⟨cl, E, g, as, j, r, h.mo _ _ _ _ (fun d g1 ⟨ds, e, q1⟩ u v go1 j1 rv => ?_) q⟩
  subst e
  cases rv with
  | @dic a ks xs ds hD hl hr =>
    obtain ⟨⟨o, ho⟩, hc⟩ := hD
    refine ⟨_, o, rfl, .inl ⟨_, ho, ?_⟩⟩
    have e2 : keysD ((ks.map kD).zip ds) = ks.map kD := by
      rw [keysD, List.map_fst_zip]
      simp [hl, hr.len]
    rw [e2] at q1
    exact q1 u _ _ go1 j1 (wk_keys (w := u) hl) ⟨ho, hc⟩
end
end TL
namespace TL
open PySem PySem.Spec PyProof.Rows L2 RZ
section
variable {P : Program} {w : World} {A : Around} {E : Value → Shared → Prop} {s : Shared}
/-! ### set(xs) of a list of numbers, in an order that can be walked (the tuple's twin is HandS.SetFor's) -/
set_option maxRecDepth 100000 in
set_option maxHeartbeats 3200000 in
theorem call_set_lstI {l : Addr} {items : Array Value} (ns : List Int) {Q : Value → Shared → Prop} (hh : A.handled = none) (hl : s.heap.IsList l items) (hit : IntsAre items.toList ns) (hb : ns.length + 1 < scanBound)
    (h : ∀ (h' : Heap) (tk c : Nat), SetR w h' s.heap.objs.size (fun j => decide (j ∈ ns)) c → c ≤ ns.length → (∀ b o, s.heap.get? b = some o → h'.get? b = some o) → Q (.ref s.heap.objs.size) { s with heap := h', toks := tk }) :
    wpAny (model P w) A (call (.type "set") [.ref l]) Q E s := by
  have hisz : items.size = ns.length := by
    have q := IntsAre.length hit
    rw [Array.length_toList] at q
    exact q
  obtain ⟨c, tl, hmro⟩ := F.called_set.mro
  have hmade := F.called_set.made
  have hsub := F.called_set.sub
  refine wpAny_call (codeAny_of_tree ?_)
  show wpAny _ _ (callAny (.type "set") _) _ _ _
  refine wpAny_pure ⟨Code.quiet_builtin _ (by decide +kernel), codeAny_builtin F.entry_type_call ?_⟩
  rw [Around.under_plain (weight_type_call_type "set" [.ref l] []) rfl]
  have h1 := F.called_set.notType
  have h2 := F.called_set.canCreate
  have hct := F.typeCall_set_1 (.ref l)
  repeat (any_goals (first | assumption | wp_step))
  refine codeAny_mono (code_set_led1 (.ref l) (E := E) (Q₁ := fun obj s₁ => obj = .ref s.heap.objs.size ∧ s₁ = { s with heap := s.heap.push { cls := .type "set", dict := none, data := .set #[] 0 (.fresh 0 0 (!w.params.followText "set-order")) } }) ⟨rfl, rfl⟩) fun r s₁ hr => ?_
  cases r with
  | error e => exact hr
  | ok fl =>
    cases fl with
    | ret obj =>
      obtain ⟨rfl, rfl⟩ := hr
      have hS : (s.heap.push { cls := .type "set", dict := none, data := .set #[] 0 (.fresh 0 0 (!w.params.followText "set-order")) }).get? s.heap.objs.size = some { cls := .type "set", dict := none, data := .set #[] 0 (.fresh 0 0 (!w.params.followText "set-order")) } := Heap.get?_push_size _ rfl
      have hT : Shared.TypeIs { s with heap := s.heap.push { cls := .type "set", dict := none, data := .set #[] 0 (.fresh 0 0 (!w.params.followText "set-order")) } } (.ref s.heap.objs.size) "set" := ⟨_, hS, rfl⟩
      have hli := F.called_set.init.lookup
      have hbi := F.called_set.init.bind (.ref s.heap.objs.size)
      repeat (any_goals (first | assumption | wp_step))
      refine codeAny_mono (codeAny_call_builtin (R := wants (fun r s₂ => r = .none ∧ ∃ h' tk c, s₂ = { s with heap := h', toks := tk } ∧ SetR w h' s.heap.objs.size (fun j => decide (j ∈ ns)) c ∧ c ≤ ns.length ∧
          (∀ b o, s.heap.get? b = some o → h'.get? b = some o)) E) F.called_set.init.plain F.entry_set_init (check_set_init_1 hT ?_)) fun r₂ s₂ hr₂ => ?_
      · obtain ⟨ol, hol, hcl, nl, hdl⟩ := hl
        obtain ⟨ocls, odict, odata, oslots⟩ := ol
        simp only at hcl hdl
        subst hcl; subst hdl
        have hol' : (s.heap.push { cls := .type "set", dict := none, data := .set #[] 0 (.fresh 0 0 (!w.params.followText "set-order")) }).get? l = some { cls := .type "list", dict := odict, data := .seq items nl, slots := oslots } := Heap.get?_push_of_some _ hol
        have hsls := F.sub_list_set
        have hslf := F.sub_list_frozenset
        have hne : (Value.type "list" == Value.type "dict") = false := by decide
        have hl1 : (s.heap.push { cls := .type "set", dict := none, data := .set #[] 0 (.fresh 0 0 (!w.params.followText "set-order")) }).IsList l items := ⟨_, hol', rfl, nl, rfl⟩
        unfold Builtin.«set.__init__» noKeywords Builtin.Frozenset.updateFrom
        generalize hPI : pyIter = PI
        wp_walk
        subst hPI
        refine wpAny_pyIter_list hl1 ?_
        refine wpAny_bind (wpAny_runValue ?_)
        have hlS : l < s.heap.objs.size := Heap.lt_size hol
        have hh3 : A.in1.in1.in1.handled = none := by simp [hh]
        have hz1 : (s.heap.push { cls := .type "set", dict := none, data := .set #[] 0 (.fresh 0 0 (!w.params.followText "set-order")) }).objs.size = s.heap.objs.size + 1 := Heap.size_push ..
        have hneI : l ≠ (s.heap.push { cls := .type "set", dict := none, data := .set #[] 0 (.fresh 0 0 (!w.params.followText "set-order")) }).objs.size := by
          rw [Heap.size_push]; exact Nat.ne_of_lt (Nat.lt_succ_of_lt hlS)
        have hSf : s.heap.objs.size ∉ [(s.heap.push { cls := .type "set", dict := none, data := .set #[] 0 (.fresh 0 0 (!w.params.followText "set-order")) }).objs.size, l] := by
          rw [Heap.size_push]; simp only [List.mem_cons, List.mem_singleton, List.not_mem_nil, or_false, not_or]
          exact ⟨Nat.ne_of_lt (Nat.lt_succ_self _), Nat.ne_of_gt hlS⟩
        have hval : ∀ (i : Nat) (v : Value), items[i]? = some v → ∃ k t, ns[i]? = some k ∧ v = .int k t := fun i v hv => by
          have hi : i < ns.length := by rw [← hisz]; exact (Array.getElem?_eq_some_iff.mp hv).1
          obtain ⟨t, e⟩ := PyProof.Rows.IntsAre.int_at hit i v (by rw [Array.getElem?_toList]; exact hv)
          refine ⟨ns[i], t, List.getElem?_eq_getElem hi, ?_⟩
          rw [e, List.getD_eq_getElem?_getD, List.getElem?_eq_getElem hi] <;> rfl
        refine set_update_ints ((Walks.list hh3 _ l hneI items).toS) s.heap.objs.size
          hSf ns hisz hb hval (items.size - 0) 0 _ (by omega) (Nat.zero_le _)
          ⟨⟨_, Heap.get?_push_size _ rfl, rfl, rfl⟩, (hl1.push _)⟩ ?hS0 ?hR
        case hS0 =>
          have hget : ((s.heap.push { cls := .type "set", dict := none, data := .set #[] 0 (.fresh 0 0 (!w.params.followText "set-order")) }).push { cls := .type "list_iterator", data := .fields #[.ref l, .int 0 0] }).get? s.heap.objs.size
              = some { cls := .type "set", dict := none, data := .set #[] 0 (.fresh 0 0 (!w.params.followText "set-order")) } := Heap.get?_push_of_some _ hS
          exact ⟨0, Nat.le_refl 0, setR_new_at hget⟩
        case hR =>
          intro s' c' hm hc' hS'
          obtain ⟨h', g2, d', tk', os'⟩ := s'
          have eg : g2 = s.gens := hm.gens
          have ed : d' = s.drawn := hm.drawn
          have eo : os' = s.os := hm.os
          subst eg; subst ed; subst eo
          show wpAny _ _ _ _ _ _
          refine wpAny_pure ?_
          show wpAny _ _ (ret Value.none) _ _ _
          rw [hisz] at hc'
          refine wpAny_pure ⟨rfl, h', tk', c', rfl, hS', hc', fun b o e => ?_⟩
          have hb0 : b < s.heap.objs.size := Heap.lt_size e
          have hb1 : b ≠ s.heap.objs.size := Nat.ne_of_lt hb0
          have hb2 : b ≠ (s.heap.push { cls := .type "set", dict := none, data := .set #[] 0 (.fresh 0 0 (!w.params.followText "set-order")) }).objs.size := by
            rw [Heap.size_push]; exact Nat.ne_of_lt (Nat.lt_succ_of_lt hb0)
          exact hm.heap b o (by simp only [List.mem_cons, List.mem_singleton, List.not_mem_nil, or_false, not_or]; exact ⟨hb1, hb2⟩) (Heap.get?_push_of_some _ (Heap.get?_push_of_some _ e))
      · cases r₂ with
        | error e => exact hr₂
        | ok fl₂ =>
          cases fl₂ with
          | ret r =>
            obtain ⟨rfl, h', tk, c', rfl, hS', hc', hk'⟩ := hr₂
            repeat (any_goals (first | assumption | wp_step))
            exact h _ _ _ hS' hc' hk'
          | _ => exact hr₂.elim
    | _ => exact hr.elim
end
section
variable {X : Cx} {G : Ct}
/-- set(xs), xs a list of numbers -/
def rSetL (K : PySem.W.Frag) (w : World) : List V → Hp → VK → Prop := fun vs H Q => ∃ (l : Addr) (ns : List Int), vs = [V.ref l] ∧ SqL K H l (ns.map V.int) ∧ ns.length ≤ 1000 ∧
  ∀ c p, (∀ m : List Int, m.Nodup → (∀ k, k ∈ m ↔ k ∈ ns) → c = m.length) → H p = none → Q (.ref p) (upd H p (SetO w p (fun j => decide (j ∈ ns)) c))
theorem cr_setL (hc : X.calm = true) : CallR X (.type "set") (rSetL X.K X.w) := by
  intro pins s σ H vs us Q I r ⟨l, ns, e, hl, hn, q⟩
  subst e
  rw [Vals.ref1 r]
  obtain ⟨its, rv, hL, hz⟩ := I.list hl
  have hi := rv.ints
  have sb : (1002 : Nat) < scanBound := by decide +kernel
  refine call_set_lstI ns (I.ok.hd hc) hL.isList (by simpa using hi) (by omega) fun h' tk c R hcn k => ?_
  refine ⟨.ref _, _, I.laid (t' := tk) k (Nat.le_refl _) (setO_new R), rfl, q c _ (fun m hm hk => ?_) (I.hok.fresh (Nat.le_refl _))⟩
  obtain ⟨o, es, ep, t, _, _, _, _, nd, hS, _, _, en, _⟩ := R
  have pm : m.Perm (es.toList.map keyOf) := (List.perm_ext_iff_of_nodup hm nd).2 fun z => by
    rw [hk z, ← hS z]
    simp
  rw [pm.length_eq, List.length_map, Array.length_toList, en]
/-- sorted(set(xs)) -/
@[simp] def xSortSet (te : TX) : TX := fun E g Q => te E g fun d g1 => ∃ ns ms : List Int, d = .list (ns.map .int) ∧ ns.length ≤ 1000 ∧ ms.Pairwise (· < ·) ∧ (∀ k, k ∈ ms ↔ k ∈ ns) ∧ ms.length < 64 ∧ Q (.list (ms.map .int)) g1
theorem ints_rv {K : PySem.W.Frag} {u : Wd} : ∀ {xs : List V} {ns : List Int}, RvL K u xs (ns.map PyData.int) → xs = ns.map V.int := by
  intro xs ns
  induction ns generalizing xs with
  | nil => intro r; cases r; rfl
  | cons n ns ih => intro r; cases r with | cons h t => cases h; rw [ih t]; rfl
theorem rv_ints {K : PySem.W.Frag} {u : Wd} : ∀ ns : List Int, RvL K u (ns.map V.int) (ns.map PyData.int)
  | [] => .nil
  | n :: ns => .cons (.int n) (rv_ints ns)
theorem lt_nodup : ∀ {ms : List Int}, ms.Pairwise (· < ·) → ms.Nodup := fun h => List.Pairwise.imp (fun h => Int.ne_of_lt h) h
theorem lt_uniq : ∀ {a b : List Int}, a.Pairwise (· < ·) → b.Pairwise (· < ·) → (∀ k, k ∈ a ↔ k ∈ b) → a = b
  | [], [], _, _, _ => rfl
  | [], y :: b, _, _, h => by have := (h y).2 (by simp); simp at this
  | x :: a, [], _, _, h => by have := (h x).1 (by simp); simp at this
  | x :: a, y :: b, ha, hb, h => by
    obtain ⟨a1, a2⟩ := List.pairwise_cons.1 ha
    obtain ⟨b1, b2⟩ := List.pairwise_cons.1 hb
    have e : x = y := by
      have h1 := (h x).1 (by simp)
      have h2 := (h y).2 (by simp)
      simp only [List.mem_cons] at h1 h2
      rcases h1 with h1 | h1
      · exact h1
      · rcases h2 with h2 | h2
        · exact h2.symm
        · have := a1 y h2; have := b1 x h1; omega
    subst e
    have : a = b := lt_uniq a2 b2 fun k => by
      have := h k
      simp only [List.mem_cons] at this
      constructor
      · intro m
        rcases this.1 (.inr m) with e | m'
        · have := a1 k m; omega
        · exact m'
      · intro m
        rcases this.2 (.inr m) with e | m'
        · have := b1 k m; omega
        · exact m'
    rw [this]
variable {e : Expr} {te : TX} {pos : Pos}
theorem xe_sortSet {p p2 q : Pos} (hc : X.calm = true) (hg : Gl X "sorted") (hm : X.mg "sorted" = none) (hg2 : Gl X "set") (hm2 : X.mg "set" = none) (ha : XE G X e te)
    (h : ∀ te', PE X e te' → PE X (.Call (.Name "sorted" p) [.Call (.Name "set" p2) [e] [] q] [] pos) (tCB (rSortedSet X.w) (tCons (tCB (rSetL X.K X.w) (tCons te' tNil)) tNil))) : XE G X (.Call (.Name "sorted" p) [.Call (.Name "set" p2) [e] [] q] [] pos) (xSortSet te) := by
  refine ⟨fun E g Q Q' hq q => ha.mo _ _ _ _ (fun d g1 ⟨ns, ms, e, l, a, b, c, q⟩ => ⟨ns, ms, e, l, a, b, c, hq _ _ q⟩) q, (h _ ha.pe).imp fun σ H Q ⟨cl, E, g, as, j, r, q⟩ => ?_⟩
  refine ⟨cl, E, g, as, j, r, ha.mo _ _ _ _ (fun d g1 ⟨ns, ms, ed, l, h1, h2, h3, q1⟩ u v go1 j1 rv => ?_) q⟩
  subst ed
  cases rv with
  | @lst a xs _ hL rl =>
    have := ints_rv rl
    subst this
    refine ⟨a, ns, rfl, hL.sq, l, fun c p hcm np => ?_⟩
    have ec := hcm ms (lt_nodup h1) h2
    refine ⟨p, _, c, rfl, upd_same, by omega, fun ms' p' hs hk hl np' => ?_⟩
    have em : ms' = ms := lt_uniq hs h1 fun k => by rw [hk k, h2 k]; simp
    subst em
    let u1 := u.new p (SetO X.w p (fun j => decide (j ∈ ns)) c) 0
    exact q1 (u1.new p' (.lst (ms'.map V.int)) 0) (.ref p') ((go1.trans (Go.new' np 0)).trans (Go.new' np' 0)) (G.st0 (Go0.new np' 0) (G.st0 (Go0.new np 0) j1)) (new_lst np' (rv_ints ms'))
end
end TL
namespace TL
open PySem PySem.Spec PyProof.Rows L2 RZ
/-! ### sorted numbers, sorted pairs -/
def pI (p : Int × Int) : PyData := .tuple [.int p.1, .int p.2]
def leP (p q : Int × Int) : Bool := decide (p.1 < q.1 ∨ (p.1 = q.1 ∧ p.2 ≤ q.2))
def leI (a b : Int) : Bool := decide (a ≤ b)
theorem leD_pI (p q : Int × Int) : leD (pI p) (pI q) = leP p q := congrFun (congrFun (PySem.W.dataLe_ii (fun p : Int × Int => p.1) (fun p => p.2)) p) q
theorem leD_int (a b : Int) : leD (.int a) (.int b) = leI a b := congrFun (congrFun (PySem.W.dataLe_int (fun a : Int => a)) a) b
theorem sort_pairs (ps : List (Int × Int)) : (ps.map pI).mergeSort leD = (ps.mergeSort leP).map pI := (List.map_mergeSort fun a _ b _ => (leD_pI a b).symm).symm
theorem sort_ints (ns : List Int) : (ns.map PyData.int).mergeSort leD = (ns.mergeSort leI).map .int := (List.map_mergeSort fun a _ b _ => (leD_int a b).symm).symm
theorem leP_trans (a b c : Int × Int) (h1 : leP a b = true) (h2 : leP b c = true) : leP a c = true := by
  simp only [leP, decide_eq_true_eq] at *
  omega
theorem leP_total (a b : Int × Int) : (leP a b || leP b a) = true := by
  simp only [leP, Bool.or_eq_true, decide_eq_true_eq]
  omega
theorem leP_anti {a b : Int × Int} (h1 : leP a b = true) (h2 : leP b a = true) : a = b := by
  simp only [leP, decide_eq_true_eq] at *
  exact Prod.ext (by omega) (by omega)
theorem leI_trans (a b c : Int) (h1 : leI a b = true) (h2 : leI b c = true) : leI a c = true := by
  simp only [leI, decide_eq_true_eq] at *
  omega
theorem leI_total (a b : Int) : (leI a b || leI b a) = true := by
  simp only [leI, Bool.or_eq_true, decide_eq_true_eq]
  omega
theorem perm_sorted_eq {α : Type} {le : α → α → Bool} (anti : ∀ a b, le a b = true → le b a = true → a = b) : ∀ {l m : List α}, l.Perm m → l.Pairwise (fun a b => le a b = true) → m.Pairwise (fun a b => le a b = true) → l = m
  | [], m, p, _, _ => p.nil_eq.symm ▸ rfl
  | a :: l, [], p, _, _ => by have := p.length_eq; simp at this
  | a :: l, b :: m, p, h1, h2 => by
    obtain ⟨a1, a2⟩ := List.pairwise_cons.1 h1
    obtain ⟨b1, b2⟩ := List.pairwise_cons.1 h2
    have e : a = b := by
      have ma : a ∈ b :: m := p.mem_iff.1 List.mem_cons_self
      have mb : b ∈ a :: l := p.mem_iff.2 List.mem_cons_self
      rcases List.mem_cons.1 ma with e | ma
      · exact e
      · rcases List.mem_cons.1 mb with e | mb
        · exact e.symm
        · exact anti a b (a1 b mb) (b1 a ma)
    subst e
    rw [perm_sorted_eq anti p.cons_inv a2 b2]
theorem sortP_of {ps qs : List (Int × Int)} (h : qs.Perm ps) (s : qs.Pairwise fun a b => leP a b = true) : ps.mergeSort leP = qs :=
  perm_sorted_eq (fun a b => leP_anti) ((List.mergeSort_perm ps leP).trans h.symm) (List.pairwise_mergeSort leP_trans leP_total ps) s
theorem sortI_of {ns ms : List Int} (h : ms.Perm ns) (s : ms.Pairwise (· ≤ ·)) : ns.mergeSort leI = ms :=
  perm_sorted_eq (fun a b h1 h2 => by simp only [leI, decide_eq_true_eq] at *; omega) ((List.mergeSort_perm ns leI).trans h.symm) (List.pairwise_mergeSort leI_trans leI_total ns) (s.imp fun h => by simpa [leI] using h)
theorem nd_pairs : ∀ ps : List (Int × Int), noDicts (ps.map pI) = true
  | [] => rfl
  | p :: ps => by
    have := nd_pairs ps
    simp [noDicts, pI, noDict, this]
theorem nd_nums : ∀ ps : List Int, noDicts (ps.map PyData.int) = true
  | [] => rfl
  | p :: ps => by
    have := nd_nums ps
    simp [noDicts, noDict, this]
theorem cSort_pairs (ps : List (Int × Int)) (g : Nat) (Q : PyData → Nat → Prop) (q : Q (.list ((ps.mergeSort leP).map pI)) g) : cSort [.list (ps.map pI)] g Q := by
  refine ⟨_, rfl, nd_pairs ps, PySem.W.AllAlike.of fun a b => by simp [pI, PySem.W.alike, PySem.W.alikeAll], PySem.W.Sortable.tuples fun b => ⟨_, _, rfl⟩, fun d hd => ?_, by rw [sort_pairs]; exact q⟩
  obtain ⟨p, _, rfl⟩ := List.mem_map.1 hd
  simp [pI, PyData.depth, PyData.depthAll]
theorem cSort_ints (ns : List Int) (g : Nat) (Q : PyData → Nat → Prop) (q : Q (.list ((ns.mergeSort leI).map .int)) g) : cSort [.list (ns.map .int)] g Q := by
  refine ⟨_, rfl, nd_nums ns, PySem.W.AllAlike.of fun a b => by simp [PySem.W.alike], PySem.W.Sortable.others fun b => ⟨by simp, by simp⟩, fun d hd => ?_, by rw [sort_ints]; exact q⟩
  obtain ⟨p, _, rfl⟩ := List.mem_map.1 hd
  simp [PyData.depth]
/-! ### sum, max, min of a row of numbers -/
section
variable {G : Ct} {K : PySem.W.Frag}
@[simp] def cSum : CD := fun ds g Q => ∃ ns : List Int, ds = [.list (ns.map .int)] ∧ Q (.int ns.sum) g
theorem cd_sum : CallD G K (rSum K) cSum := by
  refine ⟨fun ds g Q Q' hq ⟨ns, a, q⟩ => ⟨ns, a, hq _ _ q⟩, fun w g vs ds Q j r ⟨ns, a, q⟩ => ?_⟩
  subst a
  cases r with
  | cons h t =>
    cases t
    cases h with
    | @lst a xs _ hL rl =>
      have := ints_rv rl
      subst this
      exact ⟨a, ns, rfl, hL.sq, q w _ (Go.refl w) j (.int _)⟩
@[simp] def cMaxL : CD := fun ds g Q => ∃ (ns : List Int) (m : Int), ds = [.list (ns.map .int)] ∧ m ∈ ns ∧ (∀ y ∈ ns, y ≤ m) ∧ Q (.int m) g
theorem cd_maxL : CallD G K (rMax K) cMaxL := by
  refine ⟨fun ds g Q Q' hq ⟨ns, m, a, b, c, q⟩ => ⟨ns, m, a, b, c, hq _ _ q⟩, fun w g vs ds Q j r ⟨ns, m, a, b, c, q⟩ => ?_⟩
  subst a
  cases r with
  | cons h t =>
    cases t
    cases h with
    | @lst a xs _ hL rl =>
      have := ints_rv rl
      subst this
      refine ⟨a, ns, rfl, hL.sq, List.length_pos_of_mem b, fun m' h1 h2 => ?_⟩
      have : m' = m := by have := h2 m b; have := c m' h1; omega
      subst this
      exact q w _ (Go.refl w) j (.int _)
@[simp] def cMinL : CD := fun ds g Q => ∃ (ns : List Int) (m : Int), ds = [.list (ns.map .int)] ∧ m ∈ ns ∧ (∀ y ∈ ns, m ≤ y) ∧ Q (.int m) g
theorem cd_minL : CallD G K (rMin K) cMinL := by
  refine ⟨fun ds g Q Q' hq ⟨ns, m, a, b, c, q⟩ => ⟨ns, m, a, b, c, hq _ _ q⟩, fun w g vs ds Q j r ⟨ns, m, a, b, c, q⟩ => ?_⟩
  subst a
  cases r with
  | cons h t =>
    cases t
    cases h with
    | @lst a xs _ hL rl =>
      have := ints_rv rl
      subst this
      refine ⟨a, ns, rfl, hL.sq, List.length_pos_of_mem b, fun m' h1 h2 => ?_⟩
      have : m' = m := by have := h2 m b; have := c m' h1; omega
      subst this
      exact q w _ (Go.refl w) j (.int _)
end
end TL
namespace TL
open PySem PySem.Spec PyProof.Rows L2 RZ
section
variable {G : Ct} {X : Cx} {e a : Expr} {te ta : TX} {pos : Pos} {K : PySem.W.Frag}
/-! ### a list's index of any data -/
@[simp] def xIndexD (te ta : TX) : TX := fun E g Q => te E g fun d g1 => ∃ ds, d = .list ds ∧ ta E g1 fun e g2 => ∃ (j : Nat) (z : PyData), (noDicts ds = true ∧ noDict e = true ∧ SeqAt.shaped (.list ds) = true ∧ SeqAt.shaped e = true) ∧ ds[j]? = some z ∧ PyData.eqv z e = true ∧ (∀ (m : Nat) (z' : PyData), m < j → ds[m]? = some z' → PyData.eqv z' e = false) ∧ Q (.int j) g2
theorem xe_indexD {apos cpos : Pos} (he : XE G X e te) (ha : XE G X a ta) (h : ∀ te' ta', PE X e te' → PE X a ta' → PE X (.Call (.Attribute e "index" apos) [a] [] cpos) (tBM X.K "list" (rIndexD X.K) te' (tCons ta' tNil))) : XE G X (.Call (.Attribute e "index" apos) [a] [] cpos) (xIndexD te ta) := by
  refine ⟨fun E g Q Q' hq q => he.mo _ _ _ _ (fun d g1 ⟨ns, e1, q1⟩ => ⟨ns, e1, ha.mo _ _ _ _ (fun e g2 ⟨j, z, b, c, f, k, q2⟩ => ⟨j, z, b, c, f, k, hq _ _ q2⟩) q1⟩) q, (h _ _ he.pe ha.pe).imp fun σ H Q ⟨cl, E, g, as, j, r, q⟩ => ?_⟩
  refine ⟨cl, E, g, as, j, r, he.mo _ _ _ _ (fun d g1 ⟨ds, e1, q1⟩ u v go1 j1 rv => ?_) q⟩
  subst e1
  have rv' := rv
  cases rv with
  | @lst p xs _ hL rl =>
    refine ⟨.inl ⟨rfl, _, hL.sq⟩, u.cl, E, g1, as, j1, r.go go1, ha.mo _ _ _ _ (fun e g2 ⟨n, z, ⟨n1, n2, n3, n4⟩, hz, he, hf, q2⟩ u2 v2 go2 j2 rv2 => ?_) q1⟩
    refine ⟨_, v2, e, ds, n, z, rfl, rfl, (rv'.go go2).dp (by simpa [noDict] using n1), rv2.dp n2, n3, n4, hz, he, hf, q2 u2 _ (go1.trans go2) j2 (.int _)⟩
/-! ### lcm -/
def lcmI (a b : Int) : Int := ((Nat.lcm a.natAbs b.natAbs : Nat) : Int)
def rLcm : List V → Hp → VK → Prop := fun vs H Q => ∃ a b : Int, vs = [.int a, .int b] ∧ a.natAbs < 2 ^ 64 ∧ b.natAbs < 2 ^ 64 ∧ Q (.int (lcmI a b)) H
theorem cr_lcm : CallR X (.builtin "math.lcm") rLcm := by
  intro pins s σ H vs us Q I r h
  obtain ⟨a, b, rfl, ha, hb, q⟩ := h
  obtain ⟨t, u, rfl⟩ := Vals.int2 r
  exact PySem.W.mc_lcm ha hb fun _ => ⟨.int _, H, I.tok _, ⟨_, rfl⟩, q⟩
@[simp] def cLcm : CD := fun ds g Q => ∃ i j : Int, ds = [.int i, .int j] ∧ i.natAbs < 2 ^ 64 ∧ j.natAbs < 2 ^ 64 ∧ Q (.int (lcmI i j)) g
theorem cd_lcm : CallD G K rLcm cLcm := by
  refine ⟨fun ds g Q Q' hq ⟨i, j, a, b, c, q⟩ => ⟨i, j, a, b, c, hq _ _ q⟩, fun w g vs ds Q j r ⟨x, y, a, b, c, q⟩ => ?_⟩
  subst a
  cases r with
  | cons h t =>
    cases t with
    | cons h2 t =>
      cases t; cases h; cases h2
      exact ⟨x, y, rfl, b, c, q w _ (Go.refl w) j (.int _)⟩
end
end TL
namespace TL
open PySem PySem.Spec PyProof.Rows L2 RZ
section
variable {G : Ct} {X : Cx} {e a : Expr} {te ta : TX} {pos p p2 q : Pos} {K : PySem.W.Frag}
/-! ### list(range(n)) -/
@[simp] def xListRg (te : TX) : TX := fun E g Q => te E g fun d g1 => ∃ n : Int, d = .int n ∧ (-(2 ^ 62) ≤ n ∧ n ≤ 16777216) ∧ Q (.list (rangeD 0 n.toNat)) g1
theorem xe_listRg (hc : X.calm = true) (hg : Gl X "list") (hm : X.mg "list" = none) (hg2 : Gl X "range") (hm2 : X.mg "range" = none) (he : XE G X e te)
    (na : starEach [.Call (.Name "range" p2) [e] [] q] X.env = (false, eval (.Call (.Name "range" p2) [e] [] q) X.env) :: starEach [] X.env := by rfl) (nb : starEach [e] X.env = (false, eval e X.env) :: starEach [] X.env := by rfl) :
    XE G X (.Call (.Name "list" p) [.Call (.Name "range" p2) [e] [] q] [] pos) (xListRg te) := by
  refine ⟨fun E g Q Q' hq q => he.mo _ _ _ _ (fun d g1 ⟨n, e1, b, q1⟩ => ⟨n, e1, b, hq _ _ q1⟩) q, (pe_listRg hc hg hm (prg_1 hg2 hm2 he.pe nb) na).imp fun σ H Q ⟨cl, E, g, as, j, r, q⟩ => ?_⟩
  refine ⟨cl, E, g, as, j, r, he.mo _ _ _ _ (fun d g1 ⟨n, e1, b, q1⟩ u v go1 j1 rv => ?_) q⟩
  subst e1
  cases rv
  refine ⟨n, rfl, ⟨by omega, by omega, by omega, by omega, by omega⟩, fun r nr => ?_⟩
  have er : rgV 0 n = ((List.range n.toNat).map fun i : Nat => (0 : Int) + (i : Int)).map V.int := by simp [rgV, List.map_map, Function.comp_def]
  have ed : rangeD 0 n.toNat = ((List.range n.toNat).map fun i : Nat => (0 : Int) + (i : Int)).map PyData.int := by simp [rangeD, List.map_map, Function.comp_def]
  have rr : RvL X.K u (rgV 0 n) (rangeD 0 n.toNat) := by
    rw [er, ed]
    exact rv_ints _
  exact q1 (u.new r (.lst (rgV 0 n)) 0) (.ref r) (go1.trans (Go.new' nr 0)) (G.st0 (Go0.new nr 0) j1) (new_lst nr rr)
/-! ### sorted(d), the keys numbers -/
def rSortDI : List V → Hp → VK → Prop := fun xs H Q => ∃ (a : Addr) (kvs : List (Key × V)) (ks : List Int), xs = [.ref a] ∧ Rd H a (.dK kvs) ∧ kvs.map (·.1) = ks.map Sum.inl ∧ ks.length < 64 ∧ ∀ (ys : List Int) (p : Addr), ys.Perm ks → ys.Pairwise (· ≤ ·) → H p = none → Q (.ref p) (upd H p (.lst (ys.map V.int)))
@[simp] def cSortDI : CD := fun ds g Q => ∃ (l : List (PyData × PyData)) (ks : List Int), ds = [.dict l] ∧ l.map (·.1) = ks.map .int ∧ ks.length < 64 ∧ Q (.list ((ks.mergeSort leI).map .int)) g
theorem kD_inl {k : Key} {i : Int} (h : kD k = .int i) : k = .inl i := by
  cases k with
  | inl j => cases h; rfl
  | inr x => cases h
theorem kDs_inl : ∀ {ks : List Key} {is : List Int}, ks.map kD = is.map PyData.int → ks = is.map Sum.inl
  | [], [], _ => rfl
  | [], _ :: _, h => by cases h
  | _ :: _, [], h => by cases h
  | k :: ks, i :: is, h => by
    injection h with h1 h2
    rw [kD_inl h1, kDs_inl h2]
    rfl
theorem zip_fst {α β : Type} : ∀ {a : List α} {b : List β}, a.length = b.length → (a.zip b).map (·.1) = a
  | [], [], _ => rfl
  | [], _ :: _, h => by cases h
  | _ :: _, [], h => by cases h
  | x :: a, y :: b, h => by
    have := zip_fst (a := a) (b := b) (by simpa using h)
    simp [this]
theorem cd_sortDI : CallD G K rSortDI cSortDI := by
  refine ⟨fun ds g Q Q' hq ⟨l, ks, a, b, c, q⟩ => ⟨l, ks, a, b, c, hq _ _ q⟩, fun w g vs ds Q j r ⟨l, ks, a, b, c, q⟩ => ?_⟩
  subst a
  cases r with
  | cons h t =>
    cases t
    cases h with
    | @dic a ks' xs ds hD hl hr =>
      have len : (ks'.map kD).length = ds.length := by rw [List.length_map, hl]; exact hr.len
      rw [zip_fst len] at b
      have b := kDs_inl b
      subst b
      refine ⟨a, (ks.map Sum.inl).zip xs, ks, rfl, hD.rd, zip_fst hl, c, fun ys p hp hs np => ?_⟩
      have e : ks.mergeSort leI = ys := sortI_of hp hs
      rw [e] at q
      exact q (w.new p (.lst (ys.map V.int)) 0) (.ref p) (Go.new' np 0) (G.st0 (Go0.new np 0) j) (new_lst np (rv_ints ys))
end
/-! ### what a text ends with -/
section
variable {G : Ct} {X : Cx} {e a : Expr} {te ta : TX} {pos p p2 q : Pos} {K : PySem.W.Frag}
@[simp] def xEnds (te ta : TX) : TX := fun E g Q => te E g fun d g1 => ∃ x, d = .str x ∧ ta E g1 fun e g2 => ∃ y, e = .str y ∧ Q (.bool (Txt.endswith x y)) g2
theorem xe_ends {apos cpos : Pos} (he : XE G X e te) (ha : XE G X a ta) (h : ∀ te' ta', PE X e te' → PE X a ta' → PE X (.Call (.Attribute e "endswith" apos) [a] [] cpos) (tBM X.K "str" (fun x xs H Q => ∃ a b, x = .str a ∧ xs = [.str b] ∧ Q (.bl (Txt.endswith a b)) H) te' (tCons ta' tNil))) : XE G X (.Call (.Attribute e "endswith" apos) [a] [] cpos) (xEnds te ta) := by
  refine ⟨fun E g Q Q' hq q => he.mo _ _ _ _ (fun d g1 ⟨x, e1, q1⟩ => ⟨x, e1, ha.mo _ _ _ _ (fun e g2 ⟨y, a2, q2⟩ => ⟨y, a2, hq _ _ q2⟩) q1⟩) q, (h _ _ he.pe ha.pe).imp fun σ H Q ⟨cl, E, g, as, j, r, q⟩ => ?_⟩
  refine ⟨cl, E, g, as, j, r, he.mo _ _ _ _ (fun d g1 ⟨x, e1, q1⟩ u v go1 j1 rv => ?_) q⟩
  subst e1
  cases rv
  refine ⟨rfl, u.cl, E, g1, as, j1, r.go go1, ha.mo _ _ _ _ (fun e g2 ⟨y, a2, q2⟩ u2 v2 go2 j2 rv2 => ?_) q1⟩
  subst a2
  cases rv2
  exact ⟨_, _, rfl, rfl, q2 u2 _ (go1.trans go2) j2 (.bl _)⟩
end
/-! ### how often a number stands in a list -/
section
variable {G : Ct} {X : Cx} {e a : Expr} {te ta : TX} {pos p p2 q : Pos} {K : PySem.W.Frag}
@[simp] def xCount (te ta : TX) : TX := fun E g Q => te E g fun d g1 => ∃ ns : List Int, d = .list (ns.map .int) ∧ ta E g1 fun e g2 => ∃ k : Int, e = .int k ∧ Q (.int (ns.count k : Nat)) g2
theorem xe_count {apos cpos : Pos} (he : XE G X e te) (ha : XE G X a ta) (h : ∀ te' ta', PE X e te' → PE X a ta' → PE X (.Call (.Attribute e "count" apos) [a] [] cpos) (tBM X.K "list" (rCntI X.K) te' (tCons ta' tNil))) : XE G X (.Call (.Attribute e "count" apos) [a] [] cpos) (xCount te ta) := by
  refine ⟨fun E g Q Q' hq q => he.mo _ _ _ _ (fun d g1 ⟨x, e1, q1⟩ => ⟨x, e1, ha.mo _ _ _ _ (fun e g2 ⟨y, a2, q2⟩ => ⟨y, a2, hq _ _ q2⟩) q1⟩) q, (h _ _ he.pe ha.pe).imp fun σ H Q ⟨cl, E, g, as, j, r, q⟩ => ?_⟩
  refine ⟨cl, E, g, as, j, r, he.mo _ _ _ _ (fun d g1 ⟨ns, e1, q1⟩ u v go1 j1 rv => ?_) q⟩
  subst e1
  cases rv with
  | @lst p xs _ hL rl =>
    have := ints_rv rl
    subst this
    refine ⟨.inl ⟨rfl, _, hL.sq⟩, u.cl, E, g1, as, j1, r.go go1, ha.mo _ _ _ _ (fun e g2 ⟨y, a2, q2⟩ u2 v2 go2 j2 rv2 => ?_) q1⟩
    subst a2
    cases rv2
    exact ⟨_, ns, _, rfl, rfl, (hL.pu go2.pu).sq, q2 u2 _ (go1.trans go2) j2 (.int _)⟩
end
/-! ### int(text) -/
section
variable {G : Ct} {K : PySem.W.Frag}
@[simp] def cIntS : CD := fun ds g Q => ∃ (x : Str) (n : Int), ds = [.str x] ∧ PySem.intText? x = some n ∧ x.length ≤ 640 ∧ Q (.int n) g
theorem cd_intS : CallD G K (fun xs H Q => ∃ a n, xs = [.str a] ∧ PySem.intText? a = some n ∧ a.length ≤ 640 ∧ Q (.int n) H) cIntS := by
  refine ⟨fun ds g Q Q' hq ⟨x, n, a, b, c, q⟩ => ⟨x, n, a, b, c, hq _ _ q⟩, fun w g vs ds Q j r ⟨x, n, a, b, c, q⟩ => ?_⟩
  subst a
  cases r with
  | cons h t =>
    cases t; cases h
    exact ⟨_, n, rfl, b, c, q w _ (Go.refl w) j (.int _)⟩
end
end TL
namespace TL
open PySem PySem.Spec PyProof.Rows L2 RZ
/-! ### what is counted in a dict -/
def dctI (A : List (Int × Int)) : List (Key × PyData) := A.map fun p => (.inl p.1, .int p.2)
theorem dctI_put (A : List (Int × Int)) (g c : Int) : putP (dctI A) (.inl g) (.int c) = dctI (putP A g c) := by
  have e : ((dctI A).any fun kv => decide (kv.1 = (.inl g : Key))) = A.any fun kv => decide (kv.1 = g) := by
    simp [dctI, List.any_map, Function.comp_def]
  unfold putP
  rw [e]
  split
  · simp only [dctI, List.map_map]
    refine List.map_congr_left fun p _ => ?_
    by_cases c : p.1 = g
    · simp [c]
    · simp [c]
  · simp [dctI]
theorem dctI_val (A : List (Int × Int)) (g : Int) : valP (dctI A) (.inl g) = (valP A g).map .int := by
  induction A with
  | nil => rfl
  | cons p A ih =>
    by_cases c : p.1 = g
    · simp [valP, dctI, c]
    · have h1 : valP (dctI (p :: A)) (.inl g) = valP (dctI A) (.inl g) := by simp [valP, dctI, c]
      have h2 : valP (p :: A) g = valP A g := by simp [valP, c]
      rw [h1, h2, ih]
theorem dctI_items (A : List (Int × Int)) : ((dctI A).map fun p => PyData.tuple [kD p.1, p.2]) = A.map pI := by
  simp [dctI, pI, kD, Function.comp_def]
theorem dctI_len (A : List (Int × Int)) : (dctI A).length = A.length := by simp [dctI]
theorem dctI_keys (A : List (Int × Int)) : ∀ p ∈ dctI A, (keyD p.2).isSome = true := fun p hp => by
  obtain ⟨q, _, rfl⟩ := List.mem_map.1 hp
  rfl
theorem dicD_I (A : List (Int × Int)) : dicD (dctI A) = .dict (A.map fun p => (.int p.1, .int p.2)) := by
  simp [dicD, dctI, kD, Function.comp_def]
theorem putP_len {κ α : Type} [DecidableEq κ] (A : List (κ × α)) (g : κ) (c : α) : (putP A g c).length ≤ A.length + 1 := by
  unfold putP
  split <;> simp
/-- A tells how often each number stands in L -/
structure IsTally (A : List (Int × Int)) (L : List Int) : Prop where
  nd : (A.map (·.1)).Nodup
  iff : ∀ g c, (g, c) ∈ A ↔ c = L.count g ∧ 0 < c
theorem valP_mem {A : List (Int × Int)} (nd : (A.map (·.1)).Nodup) {g c : Int} : valP A g = some c ↔ (g, c) ∈ A := by
  induction A with
  | nil => simp [valP]
  | cons p A ih =>
    obtain ⟨n1, n2⟩ := List.nodup_cons.1 nd
    by_cases e : p.1 = g
    · have h1 : valP (p :: A) g = some p.2 := by simp [valP, e]
      rw [h1]
      constructor
      · intro h
        cases h
        rw [← e]
        exact List.mem_cons_self
      · intro h
        rcases List.mem_cons.1 h with h | h
        · rw [← h]
        · exact absurd (List.mem_map.2 ⟨_, h, e.symm⟩) n1
    · have h1 : valP (p :: A) g = valP A g := by simp [valP, e]
      rw [h1, ih n2]
      constructor
      · exact List.mem_cons_of_mem _
      · intro h
        rcases List.mem_cons.1 h with h | h
        · rw [← h] at e; exact absurd rfl e
        · exact h
theorem IsTally.val {A : List (Int × Int)} {L : List Int} (h : IsTally A L) (g : Int) : (valP A g).getD 0 = L.count g := by
  cases e : valP A g with
  | some c => exact ((h.iff g c).1 ((valP_mem h.nd).1 e)).1
  | none =>
    rcases Nat.eq_zero_or_pos (L.count g) with z | z
    · rw [z]; rfl
    · have := (valP_mem h.nd).2 ((h.iff g (L.count g)).2 ⟨rfl, by omega⟩)
      rw [e] at this
      cases this
theorem IsTally.nil : IsTally [] [] := ⟨List.nodup_nil, fun g c => by simp; omega⟩
theorem putP_keys {A : List (Int × Int)} (nd : (A.map (·.1)).Nodup) (g c : Int) : ((putP A g c).map (·.1)).Nodup ∧ ∀ h d, (h, d) ∈ putP A g c ↔ if h = g then d = c else (h, d) ∈ A := by
  have any_iff : (A.any fun kv => decide (kv.1 = g)) = true ↔ g ∈ A.map (·.1) := by simp
  unfold putP
  split
  · rename_i a
    have ha := any_iff.1 a
    refine ⟨?_, fun h d => ?_⟩
    · have : (List.map (fun x => x.1) (A.map fun kv => if kv.1 = g then (kv.1, c) else kv)) = A.map (·.1) := by
        rw [List.map_map]
        refine List.map_congr_left fun p _ => ?_
        by_cases e : p.1 = g <;> simp [e]
      rw [this]
      exact nd
    · rw [List.mem_map]
      constructor
      · rintro ⟨p, hp, e⟩
        by_cases k : p.1 = g
        · rw [if_pos k] at e
          cases e
          rw [if_pos k]
        · rw [if_neg k] at e
          rw [e] at hp k
          rw [if_neg k]
          exact hp
      · intro k
        by_cases e : h = g
        · rw [if_pos e] at k
          obtain ⟨p, hp, e2⟩ := List.mem_map.1 ha
          exact ⟨p, hp, by rw [if_pos e2, e2, e, k]⟩
        · rw [if_neg e] at k
          exact ⟨_, k, by rw [if_neg e]⟩
  · rename_i a
    have ha : g ∉ A.map (·.1) := fun z => a (any_iff.2 z)
    refine ⟨?_, fun h d => ?_⟩
    · rw [List.map_append, List.nodup_append]
      refine ⟨nd, by simp, fun x hx y hy => ?_⟩
      simp at hy
      rintro rfl
      rw [hy] at hx
      exact ha hx
    · rw [List.mem_append]
      by_cases e : h = g
      · rw [if_pos e]
        constructor
        · rintro (k | k)
          · exact absurd (List.mem_map.2 ⟨_, k, e⟩) ha
          · simp at k; exact k.2
        · rintro rfl
          exact .inr (by simp [e])
      · rw [if_neg e]
        constructor
        · rintro (k | k)
          · exact k
          · simp at k; exact absurd k.1 e
        · exact .inl
theorem IsTally.put {A : List (Int × Int)} {L : List Int} (h : IsTally A L) (g : Int) {n : Nat} (hn : 0 < n) : IsTally (putP A g ((valP A g).getD 0 + n)) (L ++ List.replicate n g) := by
  obtain ⟨n1, n2⟩ := putP_keys h.nd g ((valP A g).getD 0 + n)
  refine ⟨n1, fun k d => ?_⟩
  rw [n2, List.count_append, List.count_replicate, h.val]
  by_cases e : k = g
  · subst e
    simp
    omega
  · rw [if_neg e, h.iff]
    have : (g == k) = false := by simp; exact fun z => e z.symm
    simp [this]
theorem IsTally.perm {A B : List (Int × Int)} {L L' : List Int} (h : IsTally A L) (k : IsTally B L') (p : L.Perm L') : A.mergeSort leP = B.mergeSort leP := by
  have nd : ∀ {A : List (Int × Int)}, (A.map (·.1)).Nodup → A.Nodup := fun {A} h => by
    refine (List.pairwise_map.1 h).imp fun hne e => hne (by rw [e])
  have pm : A.Perm B := (List.perm_ext_iff_of_nodup (nd h.nd) (nd k.nd)).2 fun ⟨g, c⟩ => by
    rw [h.iff, k.iff, p.count_eq]
  exact sortP_of (((List.mergeSort_perm B leP).trans pm.symm)) (List.pairwise_mergeSort leP_trans leP_total B)
end TL
/-! the gaps between the multiples of a step on a ring -/
namespace GAP
/-- a, i: going on; b, j: going back -/
structure GI (P s a i b j : Int) : Prop where
  det : a * j + b * i = P
  on : P ∣ i * s - a
  bk : P ∣ j * s + b
  i : 1 ≤ i
  j : 1 ≤ j
  a : 0 ≤ a
  b : 1 ≤ b
theorem mul_ge {p a : Int} (h : 1 ≤ p) (ha : 0 ≤ a) : a ≤ p * a := by
  have := Int.mul_le_mul_of_nonneg_right h ha
  omega
theorem mul_le0 {p a : Int} (h : p ≤ 0) (ha : 0 ≤ a) : p * a ≤ 0 := by
  have := Int.mul_le_mul_of_nonneg_right h ha
  omega
theorem pos_of {q b : Int} (hb : 0 ≤ b) (h : 0 < q * b) : 1 ≤ q := by
  rcases Int.lt_or_le q 1 with c | c
  · have := mul_le0 (p := q) (a := b) (by omega) hb
    omega
  · exact c
theorem neg_of {q b : Int} (hb : 0 ≤ b) (h : q * b < 0) : q ≤ -1 := by
  rcases Int.lt_or_le (-1) q with c | c
  · have := Int.mul_nonneg (show 0 ≤ q by omega) hb
    omega
  · exact c
theorem GI.pos {P s a i b j : Int} (h : GI P s a i b j) : 0 < P := by
  have h1 := mul_ge h.i (show 0 ≤ b by have := h.b; omega)
  have h2 := Int.mul_nonneg h.a (show 0 ≤ j by have := h.j; omega)
  have := h.det
  have := h.b
  rw [Int.mul_comm i b] at h1
  omega
/-- each multiple by the two -/
theorem GI.rep {P s a i b j : Int} (h : GI P s a i b j) {d v : Int} (hd : P ∣ d * s - v) : ∃ p q : Int, d = p * i + q * j ∧ v = p * a - q * b := by
  have hP := h.pos
  have e1 : P ∣ v * j + d * b := by
    have : v * j + d * b = d * (j * s + b) - j * (d * s - v) := by grind
    rw [this]
    exact Int.dvd_sub (Int.dvd_mul_of_dvd_right h.bk) (Int.dvd_mul_of_dvd_right hd)
  have e2 : P ∣ d * a - v * i := by
    have : d * a - v * i = i * (d * s - v) - d * (i * s - a) := by grind
    rw [this]
    exact Int.dvd_sub (Int.dvd_mul_of_dvd_right hd) (Int.dvd_mul_of_dvd_right h.on)
  obtain ⟨p, hp⟩ := e1
  obtain ⟨q, hq⟩ := e2
  have det := h.det
  refine ⟨p, q, ?_, ?_⟩
  · refine Int.eq_of_mul_eq_mul_left (a := P) (by omega) ?_
    have : P * (p * i + q * j) = (P * p) * i + (P * q) * j := by grind
    rw [this, ← hp, ← hq, ← det]
    grind
  · refine Int.eq_of_mul_eq_mul_left (a := P) (by omega) ?_
    have : P * (p * a - q * b) = (P * p) * a - (P * q) * b := by grind
    rw [this, ← hp, ← hq, ← det]
    grind
/-- how far the next one is -/
def gk (N i j a b k : Int) : Int := if k < N - i then a else if j ≤ k then b else a + b
/-- to which one it leads -/
def gs (N i j k : Int) : Int := if k < N - i then i else if j ≤ k then -j else i - j
theorem gs_in {P s a i b j N k : Int} (h : GI P s a i b j) (hN : N ≤ i + j) (hi : i ≤ N) (hj : j ≤ N) (k0 : 0 ≤ k) (k1 : k < N) : 0 ≤ k + gs N i j k ∧ k + gs N i j k < N ∧ P ∣ gs N i j k * s - gk N i j a b k := by
  have := h.i
  have := h.j
  unfold gs gk
  split
  · exact ⟨by omega, by omega, h.on⟩
  · split
    · refine ⟨by omega, by omega, ?_⟩
      have : -j * s - b = -(j * s + b) := by grind
      rw [this]
      exact Int.dvd_neg.2 h.bk
    · refine ⟨by omega, by omega, ?_⟩
      have : (i - j) * s - (a + b) = (i * s - a) - (j * s + b) := by grind
      rw [this]
      exact Int.dvd_sub h.on h.bk
/-- none lies between -/
theorem gk_none {P s a i b j N k d v : Int} (h : GI P s a i b j) (hN : N ≤ i + j) (k0 : 0 ≤ k) (k1 : k < N) (d0 : 0 ≤ k + d) (d1 : k + d < N) (hd : P ∣ d * s - v) (v0 : 0 < v) (v1 : v < gk N i j a b k) : False := by
  obtain ⟨p, q, e1, e2⟩ := h.rep hd
  have hi := h.i
  have hj := h.j
  have ha := h.a
  have hb := h.b
  unfold gk at v1
  split at v1
  · rename_i c
    rcases Int.lt_or_le p 1 with cp | cp
    · have x1 := mul_le0 (p := p) (a := a) (by omega) ha
      have x2 := neg_of (q := q) (b := b) (by omega) (by omega)
      have x3 := mul_le0 (p := p) (a := i) (by omega) (by omega)
      have x4 := mul_ge (p := -q) (a := j) (by omega) (by omega)
      rw [Int.neg_mul] at x4
      omega
    · have x1 := mul_ge cp ha
      have x2 := pos_of (q := q) (b := b) (by omega) (by omega)
      have x3 := mul_ge (a := i) cp (by omega)
      have x4 := mul_ge (a := j) x2 (by omega)
      omega
  · split at v1
    · rename_i c1 c2
      rcases Int.lt_or_le q 0 with cq | cq
      · have x1 := mul_ge (p := -q) (a := b) (by omega) (by omega)
        rw [Int.neg_mul] at x1
        have x2 := neg_of (q := p) (b := a) ha (by omega)
        have x3 := mul_ge (p := -p) (a := i) (by omega) (by omega)
        have x4 := mul_ge (p := -q) (a := j) (by omega) (by omega)
        rw [Int.neg_mul] at x3 x4
        omega
      · have x1 := Int.mul_nonneg cq (show 0 ≤ b by omega)
        have x2 := pos_of (q := p) (b := a) ha (by omega)
        have x3 := mul_ge (a := i) x2 (by omega)
        have x4 := Int.mul_nonneg cq (show 0 ≤ j by omega)
        omega
    · rename_i c1 c2
      rcases Int.lt_or_le p 1 with cp | cp
      · have x1 := mul_le0 (p := p) (a := a) (by omega) ha
        have x2 := neg_of (q := q) (b := b) (by omega) (by omega)
        have x3 := mul_le0 (p := p) (a := i) (by omega) (by omega)
        have x4 := mul_ge (p := -q) (a := j) (by omega) (by omega)
        rw [Int.neg_mul] at x4
        omega
      · have x1 := mul_ge cp ha
        have x3 := mul_ge (a := i) cp (by omega)
        have x2 : q ≤ -1 := by
          rcases Int.lt_or_le (-1) q with c | c
          · have := Int.mul_nonneg (show 0 ≤ q by omega) (show 0 ≤ j by omega)
            omega
          · exact c
        have x4 := mul_ge (p := -q) (a := b) (by omega) (by omega)
        rw [Int.neg_mul] at x4
        omega
theorem GI.first {P s : Int} (hP : 0 < P) : GI P s (s % P) 1 (P - s % P) 1 := by
  have h0 := Int.emod_nonneg s (show P ≠ 0 by omega)
  have h1 := Int.emod_lt_of_pos s hP
  have m := NT.mod_div s P
  exact ⟨by omega, ⟨s / P, by omega⟩, ⟨s / P + 1, by rw [Int.mul_add]; omega⟩, by omega, by omega, h0, by omega⟩
theorem GI.onward {P s a i b j t : Int} (h : GI P s a i b j) (t0 : 0 ≤ t) (t1 : 0 ≤ a - t * b) : GI P s (a - t * b) (i + t * j) b j := by
  have := h.det
  have hi := h.i
  have hj := h.j
  have := Int.mul_nonneg t0 (show 0 ≤ j by omega)
  refine ⟨by grind, ?_, h.bk, by omega, h.j, t1, h.b⟩
  have : (i + t * j) * s - (a - t * b) = (i * s - a) + t * (j * s + b) := by grind
  rw [this]
  exact Int.dvd_add h.on (Int.dvd_mul_of_dvd_right h.bk)
theorem GI.backward {P s a i b j t : Int} (h : GI P s a i b j) (t0 : 0 ≤ t) (t1 : 1 ≤ b - t * a) : GI P s a i (b - t * a) (j + t * i) := by
  have := h.det
  have hi := h.i
  have hj := h.j
  have := Int.mul_nonneg t0 (show 0 ≤ i by omega)
  refine ⟨by grind, h.on, ?_, h.i, by omega, h.a, t1⟩
  have : (j + t * i) * s + (b - t * a) = (j * s + b) + t * (i * s - a) := by grind
  rw [this]
  exact Int.dvd_add h.bk (Int.dvd_mul_of_dvd_right h.on)
/-- both are as far only at the very end -/
theorem GI.same {P s a i j : Int} (h : GI P s a i a j) (cop : ∀ k, P ∣ k * s → P ∣ k) : P ≤ i + j := by
  have : P ∣ (i + j) * s := by
    have e : (i + j) * s = (i * s - a) + (j * s + a) := by grind
    rw [e]
    exact Int.dvd_add h.on h.bk
  have := cop _ this
  exact Int.le_of_dvd (by have := h.i; have := h.j; omega) this
theorem GI.a_pos {P s a i b j : Int} (h : GI P s a i b j) (cop : ∀ k, P ∣ k * s → P ∣ k) (hi : i < P) : 1 ≤ a := by
  rcases Int.lt_or_le a 1 with c | c
  · have e : a = 0 := by have := h.a; omega
    have := h.on
    rw [e, Int.sub_zero] at this
    have := Int.le_of_dvd (by have := h.i; omega) (cop _ this)
    omega
  · exact c
/-! ### a row of places on the ring, the gap behind each -/
def cycG (far : Int) : List Int → List Int
  | [] => []
  | [y] => [far - y]
  | y :: z :: r => (z - y) :: cycG far (z :: r)
theorem cycG_map {M first : Int} {G : Int → Int} : ∀ (l : List Int), l.Pairwise (· < ·) → (∀ y ∈ l, ∀ z ∈ l, y < z → (∀ x ∈ l, y < x → z ≤ x) → z - y = G y) → (∀ y ∈ l, (∀ x ∈ l, x ≤ y) → first + M - y = G y) → cycG (first + M) l = l.map G
  | [], _, _, _ => rfl
  | [y], _, _, h => by simp [cycG, h y (by simp) (by simp)]
  | y :: z :: r, hp, h1, h2 => by
    obtain ⟨p1, p2⟩ := List.pairwise_cons.1 hp
    obtain ⟨p3, _⟩ := List.pairwise_cons.1 p2
    have hyz := p1 z (by simp)
    rw [cycG, List.map_cons, cycG_map (z :: r) p2 (fun u hu w hw c k => h1 u (List.mem_cons_of_mem _ hu) w (List.mem_cons_of_mem _ hw) c fun x hx hux => ?_) fun u hu k => h2 u (List.mem_cons_of_mem _ hu) fun x hx => ?_]
    · rw [h1 y (by simp) z (by simp) hyz fun x hx hyx => ?_]
      rcases List.mem_cons.1 hx with e | hx
      · omega
      · rcases List.mem_cons.1 hx with e | hx
        · omega
        · exact Int.le_of_lt (p3 x hx)
    · rcases List.mem_cons.1 hx with e | hx
      · have := p1 u hu
        omega
      · exact k x hx hux
    · rcases List.mem_cons.1 hx with e | hx
      · have := p1 u hu
        omega
      · exact k x hx
/-- what is told of the gap behind a place -/
structure Suc (M : Int) (l : List Int) (y g : Int) : Prop where
  g0 : 0 < g
  g1 : g ≤ M
  at_ : ∃ w ∈ l, M ∣ w - (y + g)
  no : ∀ w ∈ l, ∀ v, 0 < v → v < g → ¬ M ∣ w - (y + v)
theorem dvd_small {M x : Int} (hM : 0 < M) (h : M ∣ x) (a : -M < x) (b : x < M) : x = 0 := by
  obtain ⟨q, rfl⟩ := h
  rcases Int.lt_or_le q 1 with c | c
  · rcases Int.lt_or_le (-1) q with c2 | c2
    · have : q = 0 := by omega
      rw [this, Int.mul_zero]
    · have := Int.mul_le_mul_of_nonneg_left c2 (show 0 ≤ M by omega)
      omega
  · have := Int.mul_le_mul_of_nonneg_left c (show 0 ≤ M by omega)
    omega
theorem dvd_one {M x : Int} (hM : 0 < M) (h : M ∣ x) (a : 0 < x) (b : x < 2 * M) : x = M := by
  have := dvd_small hM (Int.dvd_sub h (Int.dvd_refl M)) (by omega) (by omega)
  omega
theorem cyc_suc {M : Int} {G : Int → Int} {y0 : Int} {l : List Int} (hp : (y0 :: l).Pairwise (· < ·)) (hr : ∀ y ∈ y0 :: l, 0 ≤ y ∧ y < M) (hs : ∀ y ∈ y0 :: l, Suc M (y0 :: l) y (G y)) : cycG (y0 + M) (y0 :: l) = (y0 :: l).map G := by
  have hM : 0 < M := by have := hr y0 (by simp); omega
  refine cycG_map (y0 :: l) hp (fun y hy z hz c k => ?_) fun y hy k => ?_
  · obtain ⟨g0, g1, ⟨w, hw, dw⟩, no⟩ := hs y hy
    have ry := hr y hy
    have rz := hr z hz
    have rw_ := hr w hw
    have le1 : G y ≤ z - y := by
      rcases Int.lt_or_le (z - y) (G y) with c2 | c2
      · exact absurd (Int.dvd_zero M) (by have := no z hz (z - y) (by omega) c2; rwa [show z - (y + (z - y)) = 0 by omega] at this)
      · exact c2
    have e : w - (y + G y) = 0 := dvd_small hM dw (by omega) (by omega)
    have := k w hw (by omega)
    omega
  · obtain ⟨g0, g1, ⟨w, hw, dw⟩, no⟩ := hs y hy
    have ry := hr y hy
    have r0 := hr y0 (by simp)
    have rw_ := hr w hw
    have kw := k w hw
    have m0 : y0 ≤ w := by
      rcases List.mem_cons.1 hw with e | hw
      · omega
      · exact Int.le_of_lt ((List.pairwise_cons.1 hp).1 w hw)
    have e : y + G y - w = M := by
      refine dvd_one hM ?_ (by omega) (by omega)
      have : y + G y - w = -(w - (y + G y)) := by omega
      rw [this]
      exact Int.dvd_neg.2 dw
    rcases Int.lt_or_le (y0 + M - y) (G y) with c2 | c2
    · have m1 := k y0 (by simp)
      have := no y0 (by simp) (y0 + M - y) (by omega) c2
      rw [show y0 - (y + (y0 + M - y)) = -M by omega] at this
      exact absurd (Int.dvd_neg.2 (Int.dvd_refl M)) this
    · omega
end GAP
namespace GAP
def pts (M s b k : Int) : Int := (b + k * s) % M
theorem pts_dvd {M s b k m v : Int} : M ∣ pts M s b m - (pts M s b k + v) ↔ M ∣ (m - k) * s - v := by
  have e1 := NT.mod_div (b + m * s) M
  have e2 := NT.mod_div (b + k * s) M
  unfold pts
  have e : (m - k) * s - v = ((b + m * s) % M - ((b + k * s) % M + v)) + M * ((b + m * s) / M - (b + k * s) / M) := by grind
  constructor
  · intro h
    rw [e]
    exact Int.dvd_add h (Int.dvd_mul_right ..)
  · intro h
    have e3 : (b + m * s) % M - ((b + k * s) % M + v) = ((m - k) * s - v) - M * ((b + m * s) / M - (b + k * s) / M) := by omega
    rw [e3]
    exact Int.dvd_sub h (Int.dvd_mul_right ..)
section
variable {M s b P u s1 N i j a c : Int}
/-- the ring, its unit and its round -/
structure Rg (M s P u s1 : Int) : Prop where
  cop : ∀ k, P ∣ k * s1 → P ∣ k
  eM : M = u * P
  es : s = u * s1
  hu : 0 < u
  hP : 0 < P
theorem rg_of {M s : Int} (h : 0 < M) : Rg M s (M / NT.g2 s M) (NT.g2 s M) (s / NT.g2 s M) := by
  obtain ⟨e1, e2, e3⟩ := NT.g2_div (a := s) h
  refine ⟨fun k hk => ?_, e1.symm, (NT.g2_divl s h).symm, NT.g2_pos h, e2⟩
  refine NT.dvd_g2 (a := s) h ?_
  have : s * k = NT.g2 s M * (k * (s / NT.g2 s M)) := by
    have := NT.g2_divl s h
    rw [Int.mul_comm k, ← Int.mul_assoc, this]
  rw [this]
  obtain ⟨q, hq⟩ := hk
  exact ⟨q, by rw [hq, ← Int.mul_assoc, e1]⟩
theorem Rg.Mp (r : Rg M s P u s1) : 0 < M := by rw [r.eM]; exact Int.mul_pos r.hu r.hP
theorem Rg.dvd (r : Rg M s P u s1) {d v : Int} : M ∣ d * s - u * v ↔ P ∣ d * s1 - v := by
  have e : d * s - u * v = u * (d * s1 - v) := by rw [r.es]; grind
  rw [e, r.eM]
  constructor
  · rintro ⟨q, hq⟩
    exact ⟨q, Int.eq_of_mul_eq_mul_left (a := u) (by have := r.hu; omega) (by rw [hq, Int.mul_assoc])⟩
  · rintro ⟨q, hq⟩
    exact ⟨q, by rw [hq, Int.mul_assoc]⟩
theorem Rg.u_dvd (r : Rg M s P u s1) {d v : Int} (h : M ∣ d * s - v) : ∃ w, v = u * w := by
  obtain ⟨q, hq⟩ := h
  refine ⟨d * s1 - P * q, ?_⟩
  have : v = d * s - M * q := by omega
  rw [this, r.eM, r.es]
  grind
theorem pts_in (hM : 0 < M) (k : Int) : 0 ≤ pts M s b k ∧ pts M s b k < M := ⟨Int.emod_nonneg _ (by omega), Int.emod_lt_of_pos _ hM⟩
theorem pts_inj (r : Rg M s P u s1) (hN : N ≤ P) {k m : Int} (k0 : 0 ≤ k) (k1 : k < N) (m0 : 0 ≤ m) (m1 : m < N) (e : pts M s b k = pts M s b m) : k = m := by
  have h : M ∣ pts M s b k - (pts M s b m + 0) := ⟨0, by omega⟩
  rw [pts_dvd] at h
  have h2 : M ∣ (k - m) * s - u * 0 := by rw [Int.mul_zero]; exact h
  rw [r.dvd, Int.sub_zero] at h2
  have := dvd_small r.hP (r.cop _ h2) (by omega) (by omega)
  omega
/-- what the round shows, the first serials do -/
theorem pts_min (r : Rg M s P u s1) {n : Int} {x : Int} : (∃ k, 0 ≤ k ∧ k < n ∧ x = pts M s b k) ↔ ∃ k, 0 ≤ k ∧ k < min n P ∧ x = pts M s b k := by
  constructor
  · rintro ⟨k, k0, k1, rfl⟩
    have hP := r.hP
    have m := NT.mod_div k P
    have m0 := Int.emod_nonneg k (show P ≠ 0 by omega)
    have m1 := Int.emod_lt_of_pos k hP
    have q0 : 0 ≤ k / P := Int.ediv_nonneg k0 (by omega)
    have q1 := Int.mul_nonneg (show 0 ≤ P by omega) q0
    refine ⟨k % P, m0, by omega, ?_⟩
    unfold pts
    rw [NT.mod_eq_dvd]
    have e : b + k * s - (b + k % P * s) = M * (k / P * s1) := by
      have : b + k * s - (b + k % P * s) = (k - k % P) * s := by grind
      rw [this, show k - k % P = P * (k / P) by omega, r.eM, r.es]
      grind
    rw [e]
    exact Int.dvd_mul_right ..
  · rintro ⟨k, k0, k1, rfl⟩
    exact ⟨k, k0, by omega, rfl⟩
structure Rs (P s1 N a i c j : Int) : Prop where
  gi : GI P s1 a i c j
  hN : N ≤ i + j
  hi : i ≤ N
  hj : j ≤ N
  NP : N ≤ P
theorem suc_of (r : Rg M s P u s1) (R : Rs P s1 N a i c j) {l : List Int} (hl : ∀ x, x ∈ l ↔ ∃ k, 0 ≤ k ∧ k < N ∧ x = pts M s b k) {k : Int} (k0 : 0 ≤ k) (k1 : k < N) : Suc M l (pts M s b k) (u * gk N i j a c k) := by
  have hu := r.hu
  have hi := R.gi.i
  have hj := R.gi.j
  have ha := R.gi.a
  have hc := R.gi.b
  have g0 : 0 < gk N i j a c k := by
    unfold gk
    split
    · have := R.gi.a_pos r.cop (by have := R.NP; omega)
      omega
    · split <;> omega
  have g1 : gk N i j a c k ≤ P := by
    have det := R.gi.det
    have x1 : a * 1 ≤ a * j := Int.mul_le_mul_of_nonneg_left hj ha
    have x2 : c * 1 ≤ c * i := Int.mul_le_mul_of_nonneg_left hi (by omega)
    unfold gk
    split
    · omega
    · split <;> omega
  obtain ⟨s0, s1', s2⟩ := gs_in R.gi R.hN R.hi R.hj k0 k1
  refine ⟨Int.mul_pos hu g0, ?_, ⟨pts M s b (k + gs N i j k), (hl _).2 ⟨_, s0, s1', rfl⟩, ?_⟩, fun w hw v v0 v1 hd => ?_⟩
  · rw [r.eM]
    exact Int.mul_le_mul_of_nonneg_left g1 (by omega)
  · rw [pts_dvd, show k + gs N i j k - k = gs N i j k by omega]
    exact r.dvd.2 s2
  · obtain ⟨m, m0, m1, rfl⟩ := (hl w).1 hw
    rw [pts_dvd] at hd
    obtain ⟨w, rfl⟩ := r.u_dvd hd
    have w0 := pos_of (q := w) (b := u) (by omega) (by rw [Int.mul_comm]; exact v0)
    have w1 : w < gk N i j a c k := by
      rcases Int.lt_or_le w (gk N i j a c k) with z | z
      · exact z
      · have := Int.mul_le_mul_of_nonneg_left z (show 0 ≤ u by omega)
        omega
    exact gk_none R.gi R.hN k0 k1 (d := m - k) (by omega) (by omega) (r.dvd.1 hd) (by omega) w1
/-! ### the whole row -/
def idx (M s b N : Int) (y : Int) : Int := (((List.range N.toNat).find? fun k => decide (pts M s b (k : Nat) = y)).getD 0 : Nat)
theorem idx_pts (r : Rg M s P u s1) (hN : N ≤ P) {k : Int} (k0 : 0 ≤ k) (k1 : k < N) : idx M s b N (pts M s b k) = k := by
  unfold idx
  cases h : (List.range N.toNat).find? fun m => decide (pts M s b (m : Nat) = pts M s b k) with
  | none =>
    have := List.find?_eq_none.1 h k.toNat (List.mem_range.2 (by omega))
    simp only [decide_eq_true_eq] at this
    exact absurd (by rw [show ((k.toNat : Nat) : Int) = k by omega]) this
  | some m =>
    have h1 := List.find?_some h
    have h2 := List.mem_range.1 (List.mem_of_find?_eq_some h)
    simp only [decide_eq_true_eq] at h1
    show ((m : Nat) : Int) = k
    exact pts_inj r hN (by omega) (by omega) k0 k1 h1
def row (N : Int) : List Int := (List.range N.toNat).map fun k => ((k : Nat) : Int)
theorem row_mem {k : Int} : k ∈ row N ↔ 0 ≤ k ∧ k < N := by
  unfold row
  simp only [List.mem_map, List.mem_range]
  constructor
  · rintro ⟨m, hm, rfl⟩; omega
  · rintro ⟨h0, h1⟩; exact ⟨k.toNat, by omega, by omega⟩
theorem row_nodup : (row N).Nodup := List.Pairwise.map _ (fun a b (h : a ≠ b) => by omega) List.nodup_range
theorem row_len : (row N).length = N.toNat := by simp [row]
/-- the gaps of the places that are shown, in their order round the ring -/
theorem cyc_row (r : Rg M s P u s1) (R : Rs P s1 N a i c j) {y0 : Int} {l : List Int} (hp : (y0 :: l).Pairwise (· < ·)) (hl : ∀ x, x ∈ y0 :: l ↔ ∃ k, 0 ≤ k ∧ k < N ∧ x = pts M s b k) : (cycG (y0 + M) (y0 :: l)).Perm ((row N).map fun k => u * gk N i j a c k) := by
  have hM := r.Mp
  have e := cyc_suc (M := M) (G := fun y => u * gk N i j a c (idx M s b N y)) hp (fun y hy => by
    obtain ⟨k, _, _, rfl⟩ := (hl y).1 hy
    exact pts_in hM k) fun y hy => by
    obtain ⟨k, k0, k1, rfl⟩ := (hl y).1 hy
    show Suc M _ _ (u * gk N i j a c (idx M s b N (pts M s b k)))
    rw [idx_pts r R.NP k0 k1]
    exact suc_of r R hl k0 k1
  rw [e]
  have pm : (y0 :: l).Perm ((row N).map (pts M s b)) := by
    refine (List.perm_ext_iff_of_nodup (hp.imp fun h => Int.ne_of_lt h) ?_).2 fun x => ?_
    · refine List.pairwise_map.2 (List.Pairwise.imp_of_mem (fun {k m} hk hm h e => h ?_) row_nodup)
      have := row_mem.1 hk
      have := row_mem.1 hm
      exact pts_inj r R.NP (by omega) (by omega) (by omega) (by omega) e
    · rw [hl x, List.mem_map]
      constructor
      · rintro ⟨k, k0, k1, rfl⟩; exact ⟨k, row_mem.2 ⟨k0, k1⟩, rfl⟩
      · rintro ⟨k, hk, rfl⟩; obtain ⟨k0, k1⟩ := row_mem.1 hk; exact ⟨k, k0, k1, rfl⟩
  refine (pm.map _).trans ?_
  rw [List.map_map]
  refine List.Perm.of_eq (List.map_congr_left fun k hk => ?_)
  obtain ⟨k0, k1⟩ := row_mem.1 hk
  show u * gk N i j a c (idx M s b N (pts M s b k)) = _
  rw [idx_pts r R.NP k0 k1]
/-- which gaps they are, and how many of each -/
theorem row_gk (R : Rs P s1 N a i c j) : (row N).map (fun k => u * gk N i j a c k) = List.replicate (N - i).toNat (u * a) ++ List.replicate (i + j - N).toNat (u * (a + c)) ++ List.replicate (N - j).toNat (u * c) := by
  have h1 := R.hN
  have h2 := R.hi
  have h3 := R.hj
  have hi := R.gi.i
  have hj := R.gi.j
  refine List.ext_getElem? fun k => ?_
  rw [List.getElem?_map]
  rcases Nat.lt_or_ge k N.toNat with c | c
  · have e : (row N)[k]? = some ((k : Nat) : Int) := by unfold row; rw [List.getElem?_map, List.getElem?_range c]; rfl
    rw [e, Option.map_some]
    unfold gk
    by_cases c1 : ((k : Nat) : Int) < N - i
    · rw [if_pos c1, List.getElem?_append_left (by simp; omega), List.getElem?_append_left (by simp; omega), List.getElem?_replicate_of_lt (by omega)]
    · rw [if_neg c1]
      by_cases c2 : j ≤ ((k : Nat) : Int)
      · rw [if_pos c2, List.getElem?_append_right (by simp; omega), List.getElem?_replicate_of_lt (by simp; omega)]
      · rw [if_neg c2, List.getElem?_append_left (by simp; omega), List.getElem?_append_right (by simp; omega), List.getElem?_replicate_of_lt (by simp; omega)]
  · rw [List.getElem?_eq_none (by simp [row_len]; omega), List.getElem?_eq_none (by simp; omega)]
    rfl
end
end GAP
/-! list(zip(a, b)), a and b tuples -/
namespace LZ
open PySem PySem.W PyProof.Rows PyProof.V PySem.Spec RZ
section
variable {prog : Program} {w : World} {A : Around} {E : Value → Shared → Prop} {s : Shared}
theorem held_item {z TI TO T i j a b : Addr} {f : Bool} {oT : Obj} {k : Nat} {xs ys : Array Value} {x y : Value} {Q : Value → Shared → Prop} (D : ZipApart z TI TO i j a b)
    (zz : IsZipHeld s.heap z TI TO T f) (tt : s.heap.get? T = some oT) (ti : IsPair s.heap TI (.ref i) (.ref j))
    (ii : s.heap.IsTupleIter i a k) (jj : s.heap.IsTupleIter j b k) (la : s.heap.IsTuple a xs) (lb : s.heap.IsTuple b ys) (ex : xs[k]? = some x) (ey : ys[k]? = some y)
    (q : ∀ g, IsZipHeld g z TI TO T true → g.IsTupleIter i a (k + 1) → g.IsTupleIter j b (k + 1) → IsPair g s.heap.objs.size x y → g.objs.size = s.heap.objs.size + 1 →
      (∀ c o, c ≠ z → c ≠ i → c ≠ j → s.heap.get? c = some o → g.get? c = some o) → Q (.ref s.heap.objs.size) { s with heap := g }) :
    wpAny (model prog w) A (Builtin.«zip.__next__» ⟨[.ref z], []⟩) (fun fin s' => ∃ v, fin = .done (.ret v) ∧ Q v s') E s := by
  show wpAny _ _ (field (.ref z) 2 >>= _) _ _ _
  refine wpAny_bind (wpAny_field zz rfl (x := .bool false) rfl ?_)
  show wpAny _ _ (field (.ref z) 3 >>= _) _ _ _
  refine wpAny_bind (wpAny_field zz rfl (x := .ref TI) rfl ?_)
  refine wpAny_bind (wpAny_seqItems ti rfl ?_)
  show wpAny _ _ (Builtin.SmallTypes.ownedTupleIsFree (.ref z) >>= _) _ _ _
  refine wpAny_bind (wpAny_tupleHeld_zip zz tt fun g1 z1 e1 => ?_)
  simp only [Bool.false_eq_true, if_false]
  refine wpAny_bind ?_
  rw [← Array.forIn_toList]
  simp only [List.forIn_cons, List.forIn_nil]
  refine wpAny_bind (wpAny_bind (wpAny_holding ?_))
  show wpAny _ _ (Builtin.SmallTypes.nextOf (.ref i) >>= _) _ _ _
  refine wpAny_bind (nextOf_tuple_item (s := { s with heap := g1 }) (ii.extBut e1.extBut D.i1z) (la.extBut e1.extBut D.l1z) ex fun g2 ii2 e2 => wpAny_pure ?_)
  refine wpAny_pure ?_
  refine wpAny_bind (wpAny_bind (wpAny_holding ?_))
  show wpAny _ _ (Builtin.SmallTypes.nextOf (.ref j) >>= _) _ _ _
  refine wpAny_bind (nextOf_tuple_item (s := { s with heap := g2 }) ((jj.extBut e1.extBut D.i2z).extBut e2.extBut D.i12.symm) ((lb.extBut e1.extBut D.l2z).extBut e2.extBut D.l2i1) ey fun g3 jj3 e3 => wpAny_pure ?_)
  refine wpAny_pure (wpAny_pure ?_)
  show wpAny _ _ (newTuple [x, y] >>= _) _ _ _
  refine wpAny_bind (wpAny_newTuple ?_)
  have sz : g3.objs.size = s.heap.objs.size := by rw [e3.1, e2.1, e1.1]
  have z3 : IsZipHeld g3 z TI TO T true := e3.extBut _ _ D.i2z.symm (e2.extBut _ _ D.i1z.symm z1)
  have kp : ∀ c o, c ≠ z → c ≠ i → c ≠ j → s.heap.get? c = some o → g3.get? c = some o := fun c o c1 c2 c3 e => e3.extBut _ _ c3 (e2.extBut _ _ c2 (e1.extBut _ _ c1 e))
  have ii3 : g3.IsTupleIter i a (k + 1) := ii2.extBut e3.extBut D.i12
  refine wpAny_pure ⟨_, rfl, ?_⟩
  show Q (.ref g3.objs.size) _
  have pp : IsPair (g3.push { cls := .type "tuple", data := .seq #[x, y] }) g3.objs.size x y := Heap.get?_push_size _ rfl
  have z4 : (g3.push { cls := .type "tuple", data := .seq #[x, y] }).objs.size = g3.objs.size + 1 := Heap.size_push ..
  rw [sz] at pp z4 ⊢
  exact q _ (Heap.get?_push_of_some _ z3) (ii3.at fun o e => Heap.get?_push_of_some _ e) (jj3.at fun o e => Heap.get?_push_of_some _ e) pp z4 fun c o c1 c2 c3 e => Heap.get?_push_of_some _ (kp c o c1 c2 c3 e)
theorem held_end {z TI TO T i j a b : Addr} {f : Bool} {oT : Obj} {k : Nat} {xs ys : Array Value} {Q : Fin → Shared → Prop} (hh : A.handled = none) (D : ZipApart z TI TO i j a b)
    (zz : IsZipHeld s.heap z TI TO T f) (tt : s.heap.get? T = some oT) (ti : IsPair s.heap TI (.ref i) (.ref j))
    (ii : s.heap.IsTupleIter i a k) (jj : s.heap.IsTupleIter j b k) (la : s.heap.IsTuple a xs) (lb : s.heap.IsTuple b ys) (out : xs[k]? = none ∨ ys[k]? = none)
    (q : ∀ g e, (∀ c o, c ≠ z → c ≠ i → c ≠ j → s.heap.get? c = some o → g.get? c = some o) → (∃ o, g.get? e = some o ∧ o.cls = .type "StopIteration") → E (.ref e) { s with heap := g }) :
    wpAny (model prog w) A (Builtin.«zip.__next__» ⟨[.ref z], []⟩) Q E s := by
  show wpAny _ _ (field (.ref z) 2 >>= _) _ _ _
  refine wpAny_bind (wpAny_field zz rfl (x := .bool false) rfl ?_)
  show wpAny _ _ (field (.ref z) 3 >>= _) _ _ _
  refine wpAny_bind (wpAny_field zz rfl (x := .ref TI) rfl ?_)
  refine wpAny_bind (wpAny_seqItems ti rfl ?_)
  show wpAny _ _ (Builtin.SmallTypes.ownedTupleIsFree (.ref z) >>= _) _ _ _
  refine wpAny_bind (wpAny_tupleHeld_zip zz tt fun g1 z1 e1 => ?_)
  simp only [Bool.false_eq_true, if_false]
  refine wpAny_bind ?_
  rw [← Array.forIn_toList]
  simp only [List.forIn_cons, List.forIn_nil]
  refine wpAny_bind (wpAny_bind (wpAny_holding ?_))
  show wpAny _ _ (Builtin.SmallTypes.nextOf (.ref i) >>= _) _ _ _
  cases ex : xs[k]? with
  | none =>
    refine wpAny_bind (nextOf_tuple_end (s := { s with heap := g1 }) hh (ii.extBut e1.extBut D.i1z) (la.extBut e1.extBut D.l1z) ex fun g2 e e2 he => ?_)
    exact q g2 e (fun c o c1 c2 _ x => e2 _ _ c2 (e1.extBut _ _ c1 x)) he
  | some x =>
    have ey : ys[k]? = none := by rcases out with h | h; rw [ex] at h; cases h; exact h
    refine wpAny_bind (nextOf_tuple_item (s := { s with heap := g1 }) (ii.extBut e1.extBut D.i1z) (la.extBut e1.extBut D.l1z) ex fun g2 ii2 e2 => wpAny_pure ?_)
    refine wpAny_pure ?_
    refine wpAny_bind (wpAny_bind (wpAny_holding ?_))
    show wpAny _ _ (Builtin.SmallTypes.nextOf (.ref j) >>= _) _ _ _
    refine wpAny_bind (nextOf_tuple_end (s := { s with heap := g2 }) hh ((jj.extBut e1.extBut D.i2z).extBut e2.extBut D.i12.symm) ((lb.extBut e1.extBut D.l2z).extBut e2.extBut D.l2i1) ey fun g3 e e3 he => ?_)
    exact q g3 e (fun c o c1 c2 c3 x => e3 _ _ c3 (e2.extBut _ _ c2 (e1.extBut _ _ c1 x))) he
/-- a zip as it stands, its tuple out or not; S: where the list is -/
def ZSt (h : Heap) (z TI TO i j a b S : Addr) (xs ys : Array Value) (k : Nat) : Prop :=
  IsPair h TI (.ref i) (.ref j) ∧ h.IsTupleIter i a k ∧ h.IsTupleIter j b k ∧ h.IsTuple a xs ∧ h.IsTuple b ys ∧
    ((IsZip h z TI TO .none ∧ ∃ u v, IsPair h TO u v) ∨ ∃ T f oT, IsZipHeld h z TI TO T f ∧ h.get? T = some oT ∧ T ≠ z ∧ T ≠ i ∧ T ≠ j ∧ T ≠ S)
theorem ZSt.keep {h g : Heap} {z TI TO i j a b S : Addr} {xs ys : Array Value} {k : Nat} (st : ZSt h z TI TO i j a b S xs ys k) (n : z ≠ S ∧ TI ≠ S ∧ TO ≠ S ∧ i ≠ S ∧ j ≠ S ∧ a ≠ S ∧ b ≠ S) (kp : ∀ c o, c ≠ S → h.get? c = some o → g.get? c = some o) : ZSt g z TI TO i j a b S xs ys k := by
  obtain ⟨ti, ii, jj, la, lb, zz⟩ := st
  obtain ⟨n1, n2, n3, n4, n5, n6, n7⟩ := n
  refine ⟨kp _ _ n2 ti, ii.at fun o e => kp _ o n4 e, jj.at fun o e => kp _ o n5 e, la.at fun o e => kp _ o n6 e, lb.at fun o e => kp _ o n7 e, ?_⟩
  rcases zz with ⟨zz, u, v, to⟩ | ⟨T, f, oT, zz, tt, r1, r2, r3, r4⟩
  · exact .inl ⟨kp _ _ n1 zz, u, v, kp _ _ n3 to⟩
  · exact .inr ⟨T, f, oT, kp _ _ n1 zz, kp _ _ r4 tt, r1, r2, r3, r4⟩
theorem st_item {z TI TO i j a b S : Addr} {xs ys : Array Value} {k : Nat} {x y : Value} {Q : Option Value → Shared → Prop} (D : ZipApart z TI TO i j a b) (st : ZSt s.heap z TI TO i j a b S xs ys k) (hS : S < s.heap.objs.size) (ex : xs[k]? = some x) (ey : ys[k]? = some y)
    (q : ∀ g, ZSt g z TI TO i j a b S xs ys (k + 1) → IsPair g s.heap.objs.size x y → g.objs.size = s.heap.objs.size + 1 → (∀ c o, c ≠ z → c ≠ TO → c ≠ i → c ≠ j → s.heap.get? c = some o → g.get? c = some o) → Q (some (.ref s.heap.objs.size)) { s with heap := g }) :
    wpAny (model prog w) A (pyNext (.ref z)) Q E s := by
  obtain ⟨ti, ii, jj, la, lb, zz⟩ := st
  have lt : ∀ {c o}, s.heap.get? c = some o → s.heap.objs.size ≠ c := fun e => Nat.ne_of_gt (Heap.lt_size e)
  have n1 : s.heap.objs.size ≠ i := let ⟨_, e, _⟩ := ii; lt e
  have n2 : s.heap.objs.size ≠ j := let ⟨_, e, _⟩ := jj; lt e
  rcases zz with ⟨zz, u, v, to⟩ | ⟨T, f, oT, zz, tt, r1, r2, r3, r4⟩
  · refine pyNext_zipT_item D zz ti to ii jj la lb ex ey fun g a1 a2 a3 a4 a5 a6 kp => ?_
    exact q g ⟨kp _ _ D.TIz D.TITO D.TIi1 D.TIi2 ti, a3, a4, la.at fun o e => kp _ o D.l1z D.l1TO D.l1i1 D.l1i2 e, lb.at fun o e => kp _ o D.l2z D.l2TO D.l2i1 D.l2i2 e, .inr ⟨s.heap.objs.size, false, _, a1, a5, lt zz, n1, n2, Nat.ne_of_gt hS⟩⟩ a5 a6 kp
  · have ty : s.TypeIs (.ref z) "zip" := ⟨_, zz, rfl⟩
    unfold pyNext
    refine wpAny_bind (wpAny_attempt (wpAny_callSpecial?_slot (name := Str.ofString "__next__") ty F.slot_zip_next (wpAny_call_entry F.slot_zip_next ty F.entry_zip_next
      (held_item D zz tt ti ii jj la lb ex ey fun g a1 a3 a4 a5 a6 kp => wpAny_pure ?_) (F.args_zip_next_1 _))))
    exact q g ⟨kp _ _ D.TIz D.TIi1 D.TIi2 ti, a3, a4, la.at fun o e => kp _ o D.l1z D.l1i1 D.l1i2 e, lb.at fun o e => kp _ o D.l2z D.l2i1 D.l2i2 e, .inr ⟨T, true, oT, a1, kp _ _ r1 r2 r3 tt, r1, r2, r3, r4⟩⟩ a5 a6 fun c o c1 _ c3 c4 e => kp c o c1 c3 c4 e
theorem st_end {z TI TO i j a b S : Addr} {xs ys : Array Value} {k : Nat} {Q : Option Value → Shared → Prop} (hh : A.handled = none) (D : ZipApart z TI TO i j a b) (st : ZSt s.heap z TI TO i j a b S xs ys k) (out : xs[k]? = none ∨ ys[k]? = none)
    (q : ∀ g, (∀ c o, c ≠ z → c ≠ TO → c ≠ i → c ≠ j → s.heap.get? c = some o → g.get? c = some o) → Q none { s with heap := g }) : wpAny (model prog w) A (pyNext (.ref z)) Q E s := by
  obtain ⟨ti, ii, jj, la, lb, zz⟩ := st
  rcases zz with ⟨zz, u, v, to⟩ | ⟨T, f, oT, zz, tt, r1, r2, r3, r4⟩
  · exact pyNext_zipT_end hh D zz ti to ii jj la lb out q
  · have ty : s.TypeIs (.ref z) "zip" := ⟨_, zz, rfl⟩
    unfold pyNext
    refine wpAny_bind (wpAny_attempt (wpAny_callSpecial?_slot (name := Str.ofString "__next__") ty F.slot_zip_next (wpAny_call_entry F.slot_zip_next ty F.entry_zip_next
      (held_end hh D zz tt ti ii jj la lb out fun g e kp he => ?_) (F.args_zip_next_1 _))))
    obtain ⟨o, ho, hc⟩ := he
    refine wpAny_bind (wpAny_isInstance (T := "StopIteration") (b := true) ⟨o, ho, hc⟩ isSubtype_stop ?_)
    exact wpAny_pure (q _ fun c o c1 _ c3 c4 e => kp c o c1 c3 c4 e)
end
theorem zip_len0 : typeLookup (.type "zip") "__len__" = pure none := by rw [typeLookup_type, builtinLookup_eq_fast]; kernel_rfl
theorem zip_hint0 : typeLookup (.type "zip") "__length_hint__" = pure none := by rw [typeLookup_type, builtinLookup_eq_fast]; kernel_rfl
/-- pairs that were made, in turn -/
structure Made (xs ys : Array Value) (lo : Addr) (h : Heap) (ts : List Addr) : Prop where
  up : ts.Pairwise (· < ·)
  hi : ∀ t ∈ ts, lo < t
  pair : ∀ (m : Nat) (t : Addr), ts[m]? = some t → ∃ x y, xs[m]? = some x ∧ ys[m]? = some y ∧ IsPair h t x y
section
variable {prog : Program} {w : World} {A : Around} {E : Value → Shared → Prop} {s : Shared} {R : Result → Shared → Prop} {z TI TO i j a b S : Addr} {xs ys : Array Value}
theorem zl_loop (hh : A.handled = none) (D : ZipApart z TI TO i j a b) (n7 : z ≠ S ∧ TI ≠ S ∧ TO ≠ S ∧ i ≠ S ∧ j ≠ S ∧ a ≠ S ∧ b ≠ S) (below : z < S ∧ TO < S ∧ i < S ∧ j < S) (N : Nat) (hN : N = min xs.size ys.size) (hz : N ≤ sizeLine) (res : Value) {h0 : Heap}
    (hR : ∀ g tk acc c ts, (∀ p o, p ≠ S → p ≠ z → p ≠ TO → p ≠ i → p ≠ j → h0.get? p = some o → g.get? p = some o) → g.get? S = some { cls := .type "list", dict := none, data := .seq acc c, slots := #[] } → ts.length = N → Made xs ys S g ts → acc.toList = ts.map Value.ref → R (.ok (.ret res)) { s with heap := g, toks := tk }) :
    ∀ (k m : Nat) (h : Heap) (tk c : Nat) (acc : Array Value) (ts : List Addr), N - m = k → m ≤ N → ZSt h z TI TO i j a b S xs ys m → (∀ p o, p ≠ S → p ≠ z → p ≠ TO → p ≠ i → p ≠ j → h0.get? p = some o → h.get? p = some o) →
      h.get? S = some { cls := .type "list", dict := none, data := .seq acc c, slots := #[] } → acc.toList = ts.map Value.ref → ts.length = m → Made xs ys S h ts →
      codeAny (model prog w) A (.builtin "list.extend.loop" ⟨[.ref S, .ref z, res], []⟩) R { s with heap := h, toks := tk } := by
  obtain ⟨b1, b2, b3, b4⟩ := below
  intro k
  induction k with
  | zero =>
    intro m h tk c acc ts hk hm st kp hS ha hl G
    have em : m = N := by omega
    refine codeAny_builtin PySem.F.entry_extend_loop ?_
    rw [Around.under_plainId PySem.F.plain_extend_loop _]
    show wpAny _ A.in1 (pyNext (.ref z) >>= _) _ _ _
    have out : xs[m]? = none ∨ ys[m]? = none := by
      rcases Nat.le_total xs.size ys.size with l | l
      · exact .inl (Array.getElem?_eq_none (by omega))
      · exact .inr (Array.getElem?_eq_none (by omega))
    refine wpAny_bind (st_end (s := { s with heap := h, toks := tk }) (A := A.in1) hh D st out fun g kg => ?_)
    refine wpAny_pure (hR g tk acc c ts (fun p o c0 c1 c2 c3 c4 e => kg p o c1 c2 c3 c4 (kp p o c0 c1 c2 c3 c4 e)) (kg S _ n7.1.symm n7.2.2.1.symm n7.2.2.2.1.symm n7.2.2.2.2.1.symm hS) (by omega) ⟨G.up, G.hi, fun r t ht => ?_⟩ ha)
    obtain ⟨x, y, e1, e2, e3⟩ := G.pair r t ht
    have tS := G.hi t (List.mem_of_getElem? ht)
    exact ⟨x, y, e1, e2, kg t _ (Nat.ne_of_gt (Nat.lt_trans b1 tS)) (Nat.ne_of_gt (Nat.lt_trans b2 tS)) (Nat.ne_of_gt (Nat.lt_trans b3 tS)) (Nat.ne_of_gt (Nat.lt_trans b4 tS)) e3⟩
  | succ k ih =>
    intro m h tk c acc ts hk hm st kp hS ha hl G
    have lx : m < xs.size := by omega
    have ly : m < ys.size := by omega
    have sz : acc.size = m := by rw [← Array.length_toList, ha, List.length_map, hl]
    have hSl : S < h.objs.size := Heap.lt_size hS
    refine codeAny_builtin PySem.F.entry_extend_loop ?_
    rw [Around.under_plainId PySem.F.plain_extend_loop _]
    show wpAny _ A.in1 (pyNext (.ref z) >>= _) _ _ _
    refine wpAny_bind (st_item (s := { s with heap := h, toks := tk }) (S := S) D st hSl (Array.getElem?_eq_getElem lx) (Array.getElem?_eq_getElem ly) fun g st' pr gz kg => ?_)
    dsimp only at pr gz kg ⊢
    have hS' := kg S _ n7.1.symm n7.2.2.1.symm n7.2.2.2.1.symm n7.2.2.2.2.1.symm hS
    have upd : ∀ p o, p ≠ S → g.get? p = some o → (g.update S (Obj.mapSeq (·.push (Value.ref h.objs.size)))).get? p = some o := fun p o hp e => (Heap.get?_update_other _ _ (Ne.symm hp)).trans e
    show wpAny _ A.in1 (updateSeq S (·.push (Value.ref h.objs.size)) >>= _) _ _ _
    refine wpAny_bind ?_
    refine wpAny_updateSeq hS' rfl (wpAny_pure ⟨plainId_quiet PySem.F.plain_extend_loop _, ih (m + 1) _ tk _ (acc.push (Value.ref h.objs.size)) (ts ++ [h.objs.size]) (by omega) (by omega) (st'.keep n7 upd)
      (fun p o c0 c1 c2 c3 c4 e => upd p o c0 (kg p o c1 c2 c3 c4 (kp p o c0 c1 c2 c3 c4 e))) (Heap.get?_update_self _ hS' rfl) (by rw [Array.toList_push, ha, List.map_append]; rfl) (by rw [List.length_append, hl]; rfl) ⟨?_, ?_, ?_⟩⟩) (by rw [sz]; omega) (by show (acc.push (Value.ref h.objs.size)).size ≤ sizeLine + 1; rw [Array.size_push, sz]; omega)
    · refine List.pairwise_append.mpr ⟨G.up, List.pairwise_singleton _ _, fun t ht u hu => ?_⟩
      rw [List.mem_singleton.mp hu]
      obtain ⟨r, hr⟩ := List.getElem?_of_mem ht
      obtain ⟨_, _, _, _, e⟩ := G.pair r t hr
      exact Heap.lt_size e
    · intro t ht
      rcases List.mem_append.mp ht with ht | ht
      · exact G.hi t ht
      · rw [List.mem_singleton.mp ht]; exact hSl
    · intro r t ht
      rcases Nat.lt_trichotomy r ts.length with l | l | l
      · rw [List.getElem?_append_left l] at ht
        obtain ⟨x, y, e1, e2, e3⟩ := G.pair r t ht
        have tS := G.hi t (List.mem_of_getElem? ht)
        exact ⟨x, y, e1, e2, upd t _ (Nat.ne_of_gt tS) (kg t _ (Nat.ne_of_gt (Nat.lt_trans b1 tS)) (Nat.ne_of_gt (Nat.lt_trans b2 tS)) (Nat.ne_of_gt (Nat.lt_trans b3 tS)) (Nat.ne_of_gt (Nat.lt_trans b4 tS)) e3)⟩
      · subst l
        have et : h.objs.size = t := by simpa using ht
        subst et
        exact ⟨_, _, by rw [hl]; exact Array.getElem?_eq_getElem lx, by rw [hl]; exact Array.getElem?_eq_getElem ly, upd _ _ (Nat.ne_of_gt hSl) pr⟩
      · have no : (ts ++ [h.objs.size])[r]? = none := List.getElem?_eq_none (by rw [List.length_append, List.length_singleton]; omega)
        rw [no] at ht; cases ht
theorem zl_extend (hh : A.handled = none) (D : ZipApart z TI TO i j a b) (n7 : z ≠ S ∧ TI ≠ S ∧ TO ≠ S ∧ i ≠ S ∧ j ≠ S ∧ a ≠ S ∧ b ≠ S) (below : z < S ∧ TO < S ∧ i < S ∧ j < S) (N : Nat) (hN : N = min xs.size ys.size) (hz : N ≤ sizeLine) (res : Value) (c0 : Nat)
    (zz : IsZip s.heap z TI TO .none) (st : ZSt s.heap z TI TO i j a b S xs ys 0) (hS : s.heap.get? S = some { cls := .type "list", data := .seq #[] c0 })
    (hR : ∀ g tk acc c ts, (∀ p o, p ≠ S → p ≠ z → p ≠ TO → p ≠ i → p ≠ j → s.heap.get? p = some o → g.get? p = some o) → g.get? S = some { cls := .type "list", dict := none, data := .seq acc c, slots := #[] } → ts.length = N → Made xs ys S g ts → acc.toList = ts.map Value.ref → R (.ok (.ret res)) { s with heap := g, toks := tk }) :
    wpAny (model prog w) A.in1 (Builtin.List.listExtendWith (.ref S) (.ref z) res)
      (fun fin s' => match fin with | .done f => R (.ok f) s' | .again c' => c'.quiet = true ∧ codeAny (model prog w) A c' R s') (fun e s' => R (.error e) s') s := by
  have ty : s.TypeIs (.ref z) "zip" := ⟨_, zz, rfl⟩
  have ne : Builtin.List.listSameRef (.ref S) (.ref z) = false := by simp [Builtin.List.listSameRef, n7.1.symm]
  have t2 : (Value.type "zip" == Value.type "list") = false := by decide
  have t3 : (Value.type "zip" == Value.type "tuple") = false := by decide
  unfold Builtin.List.listExtendWith
  refine wpAny_bind (wpAny_typeOf ty ?_)
  simp only [ne, t2, t3, Bool.or_false, Bool.false_eq_true, if_false]
  refine wpAny_bind (wpAny_pyIter_zip zz ?_)
  refine wpAny_bind (wpAny_holding ?_)
  unfold Builtin.List.listLengthHint
  refine wpAny_bind (wpAny_specialOf ty zip_len0 ?_)
  show wpAny _ A.in1 (specialOf (Value.ref z) (Str.ofString "__length_hint__") >>= _) _ _ _
  refine wpAny_bind (wpAny_specialOf ty zip_hint0 ?_)
  refine wpAny_pure ?_
  show wpAny _ A.in1 (rule "list.extend.makes-room" >>= fun _ => Builtin.List.listTouch (.ref S) >>= fun _ => again (.builtin "list.extend.loop" ⟨[.ref S, .ref z, res], []⟩)) _ _ _
  refine wpAny_bind (wpAny_rule ?_)
  refine wpAny_bind ?_
  show wpAny _ A.in1 (updateSeq S (·.push .none) >>= fun _ => updateSeq S (·.pop)) _ _ _
  refine wpAny_bind (wpAny_updateSeq hS rfl ?_)
  have s2 := Heap.get?_update_self (Obj.mapSeq (·.push Value.none)) hS rfl
  refine wpAny_updateSeq (hz := by seq_fits) s2 rfl ?_
  have s3 := Heap.get?_update_self (Obj.mapSeq (·.pop)) s2 rfl
  have oth : ∀ p o, p ≠ S → s.heap.get? p = some o → ((s.heap.update S (Obj.mapSeq (·.push Value.none))).update S (Obj.mapSeq (·.pop))).get? p = some o := fun p o hp e => (Heap.get?_update_other _ _ (Ne.symm hp)).trans ((Heap.get?_update_other _ _ (Ne.symm hp)).trans e)
  exact wpAny_pure ⟨plainId_quiet PySem.F.plain_extend_loop _, zl_loop (s := s) (h0 := s.heap) hh D n7 below N hN hz res hR N 0 _ s.toks _ #[] [] (Nat.sub_zero _) (Nat.zero_le _) (st.keep n7 oth) (fun p o q _ _ _ _ e => oth p o q e) s3 rfl rfl ⟨List.Pairwise.nil, (fun _ h => nomatch h), (fun r t h => by simp at h)⟩⟩
theorem zl_init (hh : A.handled = none) (D : ZipApart z TI TO i j a b) (n7 : z ≠ S ∧ TI ≠ S ∧ TO ≠ S ∧ i ≠ S ∧ j ≠ S ∧ a ≠ S ∧ b ≠ S) (below : z < S ∧ TO < S ∧ i < S ∧ j < S) (N : Nat) (hN : N = min xs.size ys.size) (hz : N ≤ sizeLine)
    (zz : IsZip s.heap z TI TO .none) (st : ZSt s.heap z TI TO i j a b S xs ys 0) (hS : s.heap.get? S = some { cls := .type "list", data := .seq #[] })
    (hR : ∀ g tk acc c ts, (∀ p o, p ≠ S → p ≠ z → p ≠ TO → p ≠ i → p ≠ j → s.heap.get? p = some o → g.get? p = some o) → g.get? S = some { cls := .type "list", dict := none, data := .seq acc c, slots := #[] } → ts.length = N → Made xs ys S g ts → acc.toList = ts.map Value.ref → R (.ok (.ret .none)) { s with heap := g, toks := tk }) :
    wpAny (model prog w) A.in1 (Builtin.«list.__init__» ⟨[.ref S, .ref z], []⟩)
      (fun fin s' => match fin with | .done f => R (.ok f) s' | .again c' => c'.quiet = true ∧ codeAny (model prog w) A c' R s') (fun e s' => R (.error e) s') s := by
  show wpAny _ A.in1 (do let old ← Builtin.List.listItems (.ref S); Builtin.List.listUpdate (.ref S) (fun _ => #[]); letGo old.toList.reverse; Builtin.List.listExtendWith (.ref S) (.ref z) .none) _ _ s
  refine wpAny_bind ?_
  unfold Builtin.List.listItems
  refine wpAny_bind (wpAny_seqItems hS rfl (wpAny_pure ?_))
  show wpAny _ A.in1 (updateSeq S (fun _ => #[]) >>= fun _ => letGo (#[] : Array Value).toList.reverse >>= fun _ => Builtin.List.listExtendWith (.ref S) (.ref z) .none) _ _ s
  refine wpAny_bind (wpAny_updateSeq hS rfl ?_)
  have s2 := Heap.get?_update_self (Obj.mapSeq (fun _ => (#[] : Array Value))) hS rfl
  have oth : ∀ p o, p ≠ S → s.heap.get? p = some o → (s.heap.update S (Obj.mapSeq (fun _ => (#[] : Array Value)))).get? p = some o := fun p o hp e => (Heap.get?_update_other _ _ (Ne.symm hp)).trans e
  refine wpAny_bind (wpAny_letGo ?_)
  refine zl_extend (s := { s with heap := s.heap.update S (Obj.mapSeq (fun _ => (#[] : Array Value))) }) hh D n7 below N hN hz .none _ (oth z _ n7.1 zz) (st.keep n7 oth) s2 fun g tk acc c ts kp hg hl G ha => ?_
  exact hR g tk acc c ts (fun p o q c1 c2 c3 c4 e => kp p o q c1 c2 c3 c4 (oth p o q e)) hg hl G ha
theorem zl_call {Q : Value → Shared → Prop} (hh : A.handled = none) (D : ZipApart z TI TO i j a b) (low : z < s.heap.objs.size ∧ TI < s.heap.objs.size ∧ TO < s.heap.objs.size ∧ i < s.heap.objs.size ∧ j < s.heap.objs.size ∧ a < s.heap.objs.size ∧ b < s.heap.objs.size) (N : Nat) (hN : N = min xs.size ys.size) (hz : N ≤ sizeLine)
    (zz : IsZip s.heap z TI TO .none) (ti : IsPair s.heap TI (.ref i) (.ref j)) (to : IsPair s.heap TO .none .none) (ii : s.heap.IsTupleIter i a 0) (jj : s.heap.IsTupleIter j b 0) (la : s.heap.IsTuple a xs) (lb : s.heap.IsTuple b ys)
    (q : ∀ g tk acc c ts, (∀ p o, p ≠ z → p ≠ TO → p ≠ i → p ≠ j → s.heap.get? p = some o → g.get? p = some o) → g.get? s.heap.objs.size = some { cls := .type "list", dict := none, data := .seq acc c, slots := #[] } → ts.length = N → Made xs ys s.heap.objs.size g ts → acc.toList = ts.map Value.ref → Q (.ref s.heap.objs.size) { s with heap := g, toks := tk }) :
    wpAny (model prog w) A (call (.type "list") [.ref z]) Q E s := by
  refine callType_codes (Q₁ := fun obj s₁ => obj = .ref s.heap.objs.size ∧ s₁ = { s with heap := s.heap.push { cls := .type "list", data := .seq #[] } }) PySem.F.called_list (PySem.F.typeCall_list_1 _) PySem.F.entry_list_init (code_list_new _ ⟨rfl, rfl⟩) fun obj s₁ e1 => ?_
  obtain ⟨rfl, rfl⟩ := e1
  have s0 : (s.heap.push { cls := .type "list", data := .seq #[] }).get? s.heap.objs.size = some { cls := .type "list", data := .seq #[] } := Heap.get?_push_size _ rfl
  have pu : ∀ p o, s.heap.get? p = some o → (s.heap.push { cls := .type "list", data := .seq #[] }).get? p = some o := fun p o e => Heap.get?_push_of_some _ e
  obtain ⟨l1, l2, l3, l4, l5, l6, l7⟩ := low
  refine ⟨⟨_, s0, rfl⟩, PySem.F.args_list_init_2 _ _, zl_init (A := A.in1) (s := { s with heap := s.heap.push { cls := .type "list", data := .seq #[] } }) hh D ⟨Nat.ne_of_lt l1, Nat.ne_of_lt l2, Nat.ne_of_lt l3, Nat.ne_of_lt l4, Nat.ne_of_lt l5, Nat.ne_of_lt l6, Nat.ne_of_lt l7⟩ ⟨l1, l3, l4, l5⟩ N hN hz (pu _ _ zz)
    ⟨pu _ _ ti, ii.at fun o e => pu _ o e, jj.at fun o e => pu _ o e, la.at fun o e => pu _ o e, lb.at fun o e => pu _ o e, .inl ⟨pu _ _ zz, _, _, pu _ _ to⟩⟩ s0 fun g tk acc c ts kp hg hl G ha => ?_⟩
  exact ⟨rfl, q g tk acc c ts (fun p o c1 c2 c3 c4 e => kp p o (Nat.ne_of_lt (Heap.lt_size e)) c1 c2 c3 c4 (pu p o e)) hg hl G ha⟩
end
/-! ### the list and its pairs, tracked -/
open L2
def putP : Hp → List Addr → List (V × V) → Hp
  | H, t :: ts, q :: qs => putP (upd H t (.tup [q.1, q.2])) ts qs
  | H, _, _ => H
theorem putP_off {b : Addr} : ∀ (ts : List Addr) (qs : List (V × V)) (H : Hp), b ∉ ts → putP H ts qs b = H b
  | [], _, _, _ => rfl
  | _ :: _, [], _, _ => rfl
  | t :: ts, q :: qs, H, no => by
    rw [putP, putP_off ts qs _ (fun e => no (.tail _ e)), upd_ne (fun e => no (by subst e; exact .head _))]
theorem putP_at : ∀ (ts : List Addr) (qs : List (V × V)) (H : Hp), ts.Nodup → ∀ (m : Nat) (t : Addr) (q : V × V), ts[m]? = some t → qs[m]? = some q → putP H ts qs t = some (.tup [q.1, q.2])
  | [], _, _, _, m, _, _, e, _ => by simp at e
  | _ :: _, [], _, _, m, _, _, _, e => by simp at e
  | t :: ts, q :: qs, H, nd, 0, t', q', e1, e2 => by
    simp only [List.getElem?_cons_zero, Option.some.injEq] at e1 e2
    subst e1 e2
    rw [putP, putP_off ts qs _ (List.nodup_cons.mp nd).1, upd_same]
  | t :: ts, q :: qs, H, nd, m + 1, t', q', e1, e2 => by
    simp only [List.getElem?_cons_succ] at e1 e2
    exact putP_at ts qs _ (List.nodup_cons.mp nd).2 m t' q' e1 e2
theorem refs_vals : ∀ ts : List Addr, Vals (ts.map V.ref) (ts.map Value.ref)
  | [] => .nil
  | _ :: r => .cons rfl (refs_vals r)
section
variable {X : Cx}
theorem pairs_laid {pins : List (Addr × Obj)} {σ : L2.St} {H : Hp} {s : Shared} {g : Heap} {tk c S : Nat} {us vs : List V} {us' vs' : List Value} {acc : Array Value} {ts : List Addr} (I : Inv X pins σ H s) (hS : s.heap.objs.size ≤ S)
    (r1 : Vals us us') (r2 : Vals vs vs') (hz : us.length ≤ sizeLine) (kp : ∀ b o, s.heap.get? b = some o → g.get? b = some o) (hg : g.get? S = some { cls := .type "list", dict := none, data := .seq acc c, slots := #[] })
    (hl : ts.length = min us.length vs.length) (M : Made us'.toArray vs'.toArray S g ts) (ha : acc.toList = ts.map Value.ref) :
    ∃ H2 : Hp, (∀ b, b ≠ S → b ∉ ts → H2 b = H b) ∧ H S = none ∧ (∀ t ∈ ts, H t = none) ∧ H2 S = some (.lst (ts.map V.ref)) ∧ (∀ (m : Nat) (t : Addr), ts[m]? = some t → ∃ x y, us[m]? = some x ∧ vs[m]? = some y ∧ H2 t = some (.tup [x, y])) ∧ Inv X pins σ H2 { s with heap := g, toks := tk } := by
  have nS : S ∉ ts := fun e => Nat.lt_irrefl _ (M.hi _ e)
  have nd : ts.Nodup := M.up.imp fun l => Nat.ne_of_lt l
  have new : ∀ t ∈ ts, H t = none := fun t e => I.hok.fresh (Nat.le_of_lt (Nat.lt_of_le_of_lt hS (M.hi t e)))
  have newS : H S = none := I.hok.fresh hS
  have off : ∀ b, b ≠ S → b ∉ ts → putP (upd H S (.lst (ts.map V.ref))) ts (us.zip vs) b = H b := fun b n1 n2 => by rw [putP_off ts _ _ n2, upd_ne n1]
  have atS : putP (upd H S (.lst (ts.map V.ref))) ts (us.zip vs) S = some (.lst (ts.map V.ref)) := by rw [putP_off ts _ _ nS, upd_same]
  have q1 := r1.length
  have q2 := r2.length
  have atT : ∀ (m : Nat) (t : Addr), ts[m]? = some t → ∃ x y u v, us[m]? = some x ∧ vs[m]? = some y ∧ us'[m]? = some u ∧ vs'[m]? = some v ∧ IsPair g t u v ∧ RelV x u ∧ RelV y v ∧ putP (upd H S (.lst (ts.map V.ref))) ts (us.zip vs) t = some (.tup [x, y]) := fun m t e => by
    have lm : m < ts.length := (List.getElem?_eq_some_iff.mp e).1
    have l1 : m < us.length := by omega
    have l2 : m < vs.length := by omega
    obtain ⟨u, v, f1, f2, f3⟩ := M.pair m t e
    obtain ⟨u2, g1, g2⟩ := r1.get (List.getElem?_eq_getElem l1)
    obtain ⟨v2, g3, g4⟩ := r2.get (List.getElem?_eq_getElem l2)
    have f1' : us'[m]? = some u := by simpa using f1
    have f2' : vs'[m]? = some v := by simpa using f2
    rw [f1'] at g1
    rw [f2'] at g3
    cases g1
    cases g3
    have zq : (us.zip vs)[m]? = some (us[m], vs[m]) := by
      rw [List.getElem?_zip_eq_some]
      exact ⟨List.getElem?_eq_getElem l1, List.getElem?_eq_getElem l2⟩
    exact ⟨_, _, u, v, List.getElem?_eq_getElem l1, List.getElem?_eq_getElem l2, f1', f2', f3, g2, g4, putP_at ts _ _ nd m t _ e zq⟩
  have low : ∀ b o, s.heap.get? b = some o → b ≠ S ∧ b ∉ ts := fun b o e => ⟨Nat.ne_of_lt (Nat.lt_of_lt_of_le (Heap.lt_size e) hS), fun z => absurd (Heap.lt_size e) (Nat.not_lt.mpr (Nat.le_trans hS (Nat.le_of_lt (M.hi b z))))⟩
  have kh : ∀ b u, H b = some u → putP (upd H S (.lst (ts.map V.ref))) ts (us.zip vs) b = some u := fun b u e => by
    rw [off b (fun z => by rw [z, newS] at e; cases e) (fun z => by rw [new b z] at e; cases e)]
    exact e
  refine ⟨_, off, newS, new, atS, fun m t e => ?_, ?_⟩
  · obtain ⟨x, y, u, v, a1, a2, _, _, _, _, _, a3⟩ := atT m t e
    exact ⟨x, y, a1, a2, a3⟩
  · refine I.call' (ch := []) rfl ⟨fun b o e _ _ _ => kp b o e, fun b o e _ _ _ => ⟨o.slots, kp b o e⟩, fun b o e n _ => ?_, fun b o e _ => ⟨o, kp b o e⟩, fun b xs e => kh b _ e, fun b o u e => kh b _ e, fun b ps e => ⟨#[], by rw [kh b _ e]; simp⟩⟩ (fun b o e => ?_) I.bare fun b z => by simp at z
    · obtain ⟨z1, z2⟩ := low b o e
      rw [off b z1 z2]
      exact n
    · by_cases hb : b ∈ ts
      · obtain ⟨m, hm⟩ := List.getElem?_of_mem hb
        obtain ⟨x, y, u, v, a1, a2, a3, a4, a5, a6, a7, a8⟩ := atT m b hm
        rw [a8] at e
        cases e
        exact ⟨by show 2 ≤ sizeLine; decide, [u, v], .cons a6 (.cons a7 .nil), ⟨_, a5, rfl, _, rfl⟩⟩
      · by_cases hb2 : b = S
        · rw [hb2] at e ⊢
          rw [atS] at e
          cases e
          refine ⟨by rw [List.length_map]; omega, acc.toList, c, by rw [ha]; exact refs_vals ts, ?_⟩
          rw [Array.toArray_toList]
          exact hg
        · rw [off b hb2 hb] at e
          exact (I.hok b o e).stay (fun d v _ y => kp d v y) (fun d y => kh d _ y) fun d xs y => kh d _ y
def rZipT (K : PySem.W.Frag) : List V → Hp → VK → Prop := fun vs H Q => ∃ (a b : Addr) (xs ys : List V), vs = [.ref a, .ref b] ∧ SqT K H a xs ∧ SqT K H b ys ∧ ∀ (H2 : Hp) (S : Addr) (ts : List Addr), (∀ b, b ≠ S → b ∉ ts → H2 b = H b) → H S = none → (∀ t ∈ ts, H t = none) → H2 S = some (.lst (ts.map V.ref)) → ts.length = min xs.length ys.length →
  (∀ (m : Nat) (t : Addr), ts[m]? = some t → ∃ x y, xs[m]? = some x ∧ ys[m]? = some y ∧ H2 t = some (.tup [x, y])) → S ∉ ts → Q (.ref S) H2
def tListZip (K : PySem.W.Frag) (ta : TA) : TE := fun σ H Q => ta σ H fun vs H1 => rZipT K vs H1 Q
theorem pe_listZip {e e2 : Expr} {ta : TA} {p p2 pos q : Pos} (hc : X.calm = true) (hg : Gl X "list") (hm : X.mg "list" = none) (hg2 : Gl X "zip") (hm2 : X.mg "zip" = none) (ha : PA X [e, e2] ta)
    (na : starEach [.Call (.Name "zip" p2) [e, e2] [] q] X.env = (false, eval (.Call (.Name "zip" p2) [e, e2] [] q) X.env) :: starEach [] X.env := by rfl)
    (nb : starEach [e, e2] X.env = (false, eval e X.env) :: starEach [e2] X.env := by rfl) (nc : (backTo q (starEach [e2] X.env)).any (·.1) = false := by rfl) :
    PE X (.Call (.Name "list" p) [.Call (.Name "zip" p2) [e, e2] [] q] [] pos) (tListZip X.K ta) := by
  refine ⟨fun pins s σ H Q I hq => ?_⟩
  refine wpAny_Call_Name_kw (ld_blt I hg hm (show bootBuiltins "list" = some (.type "list") from rfl) ?_)
  refine PyProof.Rows.callWith_type1 ?_ na rfl
  rw [na]
  show wpAny _ _ (spliced ((false, eval (.Call (.Name "zip" p2) [e, e2] [] q) X.env) :: backTo pos (starEach [] X.env))) _ _ s
  refine Calls.spliced_cons ?_
  refine Call_ (ld_blt I hg2 hm2 PyProof.Rows.boot_zip (PyProof.Rows.callWith_type1 (thn (ha.run q pins s σ H _ I hq) fun us s1 ⟨vs, H1, I1, rr, a, b, xs, ys, ex, hx, hy, w⟩ => ?_) nb nc))
  subst ex
  cases rr with
  | cons ra rr =>
    cases rr with
    | cons rb rr =>
      cases rr
      cases ra
      cases rb
      obtain ⟨its, rv, pa, za⟩ := I1.tuple hx
      obtain ⟨jts, rv2, pb, zb⟩ := I1.tuple hy
      obtain ⟨oa, ka, _⟩ := id pa
      obtain ⟨ob, kb, _⟩ := id pb
      have la := Heap.lt_size ka
      have lb := Heap.lt_size kb
      have l1 := rv.length
      have l2 := rv2.length
      refine call_zipT (show s1.heap.IsTuple a its.toArray from pa) (show s1.heap.IsTuple b jts.toArray from pb) fun h2 k1 k2 k3 k4 k5 sz kp => ?_
      refine Calls.spliced_nil ?_
      have sN : s1.heap.objs.size + 5 = h2.objs.size := sz.symm
      refine zl_call (s := { s1 with heap := h2 }) (xs := its.toArray) (ys := jts.toArray) (I1.ok.hd hc) (PySem.W.ktu_apart s1.heap.objs.size a b la lb) ?_ (min xs.length ys.length) ?_ ?_ k1 k2 k3 k4 k5 ?_ ?_ fun g tk acc c ts kg gl ll M ea => ?_
      · show _ < h2.objs.size ∧ _ < h2.objs.size ∧ _ < h2.objs.size ∧ _ < h2.objs.size ∧ _ < h2.objs.size ∧ _ < h2.objs.size ∧ _ < h2.objs.size
        rw [sz]
        exact ⟨Nat.add_lt_add_left (by decide) _, Nat.add_lt_add_left (by decide) _, Nat.add_lt_add_left (by decide) _, Nat.lt_add_of_pos_right (by decide), Nat.add_lt_add_left (by decide) _, Nat.lt_of_lt_of_le la (Nat.le_add_right _ _), Nat.lt_of_lt_of_le lb (Nat.le_add_right _ _)⟩
      · show _ = min its.toArray.size jts.toArray.size
        rw [List.size_toArray, List.size_toArray, l1, l2]
      · omega
      · exact (show s1.heap.IsTuple a its.toArray from pa).at fun o e => kp _ o e
      · exact (show s1.heap.IsTuple b jts.toArray from pb).at fun o e => kp _ o e
      · have kk : ∀ b o, s1.heap.get? b = some o → g.get? b = some o := fun b o e => by
          have lt := Heap.lt_size e
          have no : ∀ k, b ≠ s1.heap.objs.size + k := fun k => Nat.ne_of_lt (Nat.lt_of_lt_of_le lt (Nat.le_add_right _ _))
          exact kg b o (no 4) (no 3) (no 0) (no 1) (kp b o e)
        obtain ⟨H2, c1, c2, c3, c4, c5, J⟩ := pairs_laid (tk := tk) I1 (S := h2.objs.size) (by rw [sz]; exact Nat.le_add_right _ _) rv rv2 za kk gl ll M ea
        exact ⟨.ref _, H2, J, rfl, w H2 _ ts c1 c2 c3 c4 ll c5 fun e => Nat.lt_irrefl _ (M.hi _ e)⟩
end
end LZ
/-! list(zip(a, b)) of two tuples of numbers, by data -/
namespace TL
open PySem PySem.Spec PyProof.Rows L2 RZ
section
variable {G : Ct} {X : Cx} {e e2 : Expr} {t : TL'} {p p2 pos q : Pos}
theorem rvL_of {K : PySem.W.Frag} {w : Wd} : ∀ (vs : List V) (ds : List PyData), vs.length = ds.length → (∀ (i : Nat) (v : V) (d : PyData), vs[i]? = some v → ds[i]? = some d → Rv K w v d) → RvL K w vs ds
  | [], [], _, _ => .nil
  | [], _ :: _, h, _ => by cases h
  | _ :: _, [], h, _ => by cases h
  | v :: vs, d :: ds, h, f => .cons (f 0 v d rfl rfl) (rvL_of vs ds (Nat.succ.inj h) fun i v' d' a b => f (i + 1) v' d' a b)
theorem rv_intsV {K : PySem.W.Frag} {u : Wd} : ∀ {vs : List V} {ns : List Int}, RvL K u vs (ns.map PyData.int) → vs = ns.map V.int
  | _, [], .nil => rfl
  | _, _ :: _, .cons h r => by
    cases h
    rw [rv_intsV r]
    rfl
@[simp] def xListZip (t : TL') : TX := fun E g Q => t E g fun ss g1 => ∃ (ns ms : List Int), ss = [.v (.tuple (ns.map .int)), .v (.tuple (ms.map .int))] ∧ Q (.list (zipD (ns.map .int) (ms.map .int))) g1
theorem xe_listZip (hc : X.calm = true) (hg : Gl X "list") (hm : X.mg "list" = none) (hg2 : Gl X "zip") (hm2 : X.mg "zip" = none) (ha : XA G X [e, e2] t)
    (na : starEach [.Call (.Name "zip" p2) [e, e2] [] q] X.env = (false, eval (.Call (.Name "zip" p2) [e, e2] [] q) X.env) :: starEach [] X.env := by rfl)
    (nb : starEach [e, e2] X.env = (false, eval e X.env) :: starEach [e2] X.env := by rfl) (nc : (backTo q (starEach [e2] X.env)).any (·.1) = false := by rfl) :
    XE G X (.Call (.Name "list" p) [.Call (.Name "zip" p2) [e, e2] [] q] [] pos) (xListZip t) := by
  refine ⟨fun E g Q Q' hq w => ha.mo _ _ _ _ (fun ss g1 ⟨ns, ms, e1, w⟩ => ⟨ns, ms, e1, hq _ _ w⟩) w, (LZ.pe_listZip hc hg hm hg2 hm2 ha.pa na nb nc).imp fun σ H Q ⟨cl, E, g, as, j, r, w⟩ => ?_⟩
  refine ⟨cl, E, g, as, j, r, ha.mo _ _ _ _ (fun ss g1 ⟨ns, ms, e1, q1⟩ u vs go1 j1 rs => ?_) w⟩
  subst e1
  cases rs with
  | v h t =>
    cases t with
    | v h' t =>
      cases t
      cases h with
      | tup hL hr =>
        cases h' with
        | tup hL' hr' =>
          rename_i b ys
          rename_i a xs
          have ex := rv_intsV hr
          have ey := rv_intsV hr'
          refine ⟨_, _, _, _, rfl, hL.sq, hL'.sq, fun H2 S ts c1 c2 c3 c4 c5 c6 c7 => ?_⟩
          subst ex ey
          have g0 : Go0 u ⟨H2, fun b => if b = S ∨ b ∈ ts then 0 else u.cl b⟩ := fun b o eb => by
            have n1 : b ≠ S := fun z => by rw [z, c2] at eb; cases eb
            have n2 : b ∉ ts := fun z => by rw [c3 b z] at eb; cases eb
            exact ⟨(c1 b n1 n2).trans eb, if_neg (by rintro (z | z); exact n1 z; exact n2 z)⟩
          refine q1 _ (.ref S) (go1.trans g0.go) (G.st0 g0 j1) (.lst (.inl ⟨.inl c4, if_pos (.inl rfl)⟩) (rvL_of _ _ ?_ fun i v d a1 a2 => ?_))
          · rw [List.length_map, zipD_len, c5]; simp
          · rw [List.getElem?_map] at a1
            obtain ⟨T, a3, a4⟩ := Option.map_eq_some_iff.mp a1
            subst a4
            obtain ⟨x, y, b1, b2, b3⟩ := c6 i T a3
            obtain ⟨dx, dy, d1, d2, d3⟩ := zipD_get _ _ _ _ a2
            subst d3
            rw [List.getElem?_map] at b1 b2 d1 d2
            obtain ⟨n, n1, n2⟩ := Option.map_eq_some_iff.mp b1
            obtain ⟨m, m1, m2⟩ := Option.map_eq_some_iff.mp b2
            rw [n1] at d1
            rw [m1] at d2
            subst n2 m2
            cases d1
            cases d2
            exact .tup (xs := [.int n, .int m]) (.inl ⟨{ cls := .type "tuple", data := .seq #[] }, b3, rfl, if_pos (.inr (List.mem_of_getElem? a3))⟩) (.cons (.int n) (.cons (.int m) .nil))
end
end TL
/-! sum, max, min of a tuple of numbers; of a list or a tuple -/
namespace LT
open PySem PySem.W PySem.Spec PyProof.Rows
section
variable {prog : Program} {w : World} {A : Around} {E : Value → Shared → Prop} {s : Shared} {l : Addr} {xs : Array (Int × Tok)}
theorem it_tup {Q : Value → Shared → Prop} (hl : s.heap.IsTuple l (intItems xs))
    (h : ∀ g : Heap, g = s.heap.push { cls := .type "tuple_iterator", data := .fields #[.ref l, .int 0 0] } → g.IsTupleIter s.heap.objs.size l 0 ∧ g.IsTuple l (intItems xs) → (∀ b ∈ [s.heap.objs.size, l], b < g.objs.size) → l ≠ s.heap.objs.size → Q (.ref s.heap.objs.size) { s with heap := g }) :
    wpAny (model prog w) A (pyIter (.ref l)) Q E s := by
  have lt : l < s.heap.objs.size := by obtain ⟨_, e, _⟩ := hl; exact Heap.lt_size e
  refine wpAny_pyIter_tuple hl (h _ rfl ⟨⟨_, Heap.get?_push_size _ rfl, rfl, rfl⟩, hl.push _⟩ (fun b hb => ?_) (Nat.ne_of_lt lt))
  rw [Heap.size_push]
  simp only [List.mem_cons, List.not_mem_nil, or_false] at hb
  rcases hb with e | e <;> subst e
  · exact Nat.lt_succ_self _
  · exact Nat.lt_succ_of_lt lt
theorem keep_old {g : Heap} {x : Obj} (hk : ∀ b o, b ∉ [s.heap.objs.size] → (s.heap.push x).get? b = some o → g.get? b = some o) : ∀ b o, s.heap.get? b = some o → g.get? b = some o := fun b o e =>
  hk b o (fun z => Nat.lt_irrefl _ (List.mem_singleton.mp z ▸ Heap.lt_size e)) (Heap.get?_push_of_some _ e)
theorem max_tup {Q : Value → Shared → Prop} (hh : A.handled = none) (hl : s.heap.IsTuple l (intItems xs)) (ne : 0 < xs.size)
    (h : ∀ v g tk, (intItems xs)[argBest (fun i j => decide (numAt xs i > numAt xs j)) (xs.size - 1)]? = some v → (∀ b o, s.heap.get? b = some o → g.get? b = some o) → Q v { s with heap := g, toks := tk }) :
    wpAny (model prog w) A (call (.builtin "max") [.ref l]) Q E s := by
  refine call_max_walk (it_tup hl fun g e st fp ni => ?_)
  subst e
  refine ⟨_, _, _, _, _, _, _, rfl, Walks.tuple (A := A.in1) hh _ l ni (intItems xs), st, fp, by simpa [intItems] using ne, CmpOf.ints_gt (numAt xs) (fun _ _ => intItems_at), fun v h2 tk hP hk => ?_⟩
  exact h v h2 tk (by simpa [intItems] using hP) (keep_old hk)
theorem min_tup {Q : Value → Shared → Prop} (hh : A.handled = none) (hl : s.heap.IsTuple l (intItems xs)) (ne : 0 < xs.size)
    (h : ∀ v g tk, (intItems xs)[argBest (fun i j => decide (numAt xs i < numAt xs j)) (xs.size - 1)]? = some v → (∀ b o, s.heap.get? b = some o → g.get? b = some o) → Q v { s with heap := g, toks := tk }) :
    wpAny (model prog w) A (call (.builtin "min") [.ref l]) Q E s := by
  refine call_min_walk (it_tup hl fun g e st fp ni => ?_)
  subst e
  refine ⟨_, _, _, _, _, _, _, rfl, Walks.tuple (A := A.in1) hh _ l ni (intItems xs), st, fp, by simpa [intItems] using ne, CmpOf.ints_lt (numAt xs) (fun _ _ => intItems_at), fun v h2 tk hP hk => ?_⟩
  exact h v h2 tk (by simpa [intItems] using hP) (keep_old hk)
end
open L2
theorem nums_of {is : List Value} {ns : List Int} (hi : IntsAre is ns) : ∃ xs : Array (Int × Tok), is.toArray = intItems xs ∧ xs.toList.map (·.1) = ns := by
  obtain ⟨xs, e⟩ := hi.allInts.items
  have hn : numsOf (intItems xs).toList = ns := by rw [← e]; exact hi.numsOf
  rw [nums_intItems] at hn
  exact ⟨xs, e, hn⟩
section
variable {X : Cx}
def rSumS (K : PySem.W.Frag) : List V → Hp → VK → Prop := fun vs H Q => ∃ (a : Addr) (ns : List Int), vs = [V.ref a] ∧ (SqL K H a (ns.map V.int) ∨ SqT K H a (ns.map V.int)) ∧ Q (.int ns.sum) H
def rMaxS (K : PySem.W.Frag) : List V → Hp → VK → Prop := fun vs H Q => ∃ (a : Addr) (ns : List Int), vs = [V.ref a] ∧ (SqL K H a (ns.map V.int) ∨ SqT K H a (ns.map V.int)) ∧ 0 < ns.length ∧ ∀ m, m ∈ ns → (∀ y, y ∈ ns → y ≤ m) → Q (.int m) H
def rMinS (K : PySem.W.Frag) : List V → Hp → VK → Prop := fun vs H Q => ∃ (a : Addr) (ns : List Int), vs = [V.ref a] ∧ (SqL K H a (ns.map V.int) ∨ SqT K H a (ns.map V.int)) ∧ 0 < ns.length ∧ ∀ m, m ∈ ns → (∀ y, y ∈ ns → m ≤ y) → Q (.int m) H
theorem cr_sumS (hc : X.calm = true) : CallR X (.builtin "sum") (rSumS X.K) := by
  intro pins s σ H vs us Q I r ⟨a, ns, e, hs, q⟩
  rcases hs with hs | hs
  · exact cr_sum hc pins s σ H vs us Q I r ⟨a, ns, e, hs, q⟩
  subst e
  obtain ⟨is, rv, hl, _⟩ := I.tuple hs
  rw [Vals.ref1 r]
  obtain ⟨xs, e1, e2⟩ := nums_of rv.ints
  refine ktm_sumG (I.ok.hd hc) (xs := xs) (by rw [← e1]; exact hl) fun g tk u hk => ?_
  rw [preSum_eq, List.take_of_length_le (by simp), e2]
  exact ⟨.int _, H, I.kept hk, ⟨_, rfl⟩, q⟩
theorem cr_maxS (hc : X.calm = true) : CallR X (.builtin "max") (rMaxS X.K) := by
  intro pins s σ H vs us Q I r ⟨a, ns, e, hs, ne, q⟩
  rcases hs with hs | hs
  · exact cr_max hc pins s σ H vs us Q I r ⟨a, ns, e, hs, ne, fun m => q m⟩
  subst e
  obtain ⟨is, rv, hl, _⟩ := I.tuple hs
  rw [Vals.ref1 r]
  obtain ⟨xs, e1, e2⟩ := nums_of rv.ints
  subst e2
  have sz : 0 < xs.size := by simpa using ne
  refine max_tup (I.ok.hd hc) (xs := xs) (by rw [← e1]; exact hl) sz fun v g tk hv hk => ?_
  obtain ⟨u, rfl⟩ := intItems_at hv
  obtain ⟨h1, h2⟩ := argBest_gt (numAt xs) (xs.size - 1)
  refine ⟨.int _, H, I.kept hk, ⟨_, rfl⟩, q _ ?_ fun y hy => ?_⟩
  · rw [numAt_eq]
    exact PySem.getD_mem (by rw [List.length_map, Array.length_toList]; omega)
  · obtain ⟨j, hj, rfl⟩ := mem_getD hy
    rw [List.length_map, Array.length_toList] at hj
    rw [← numAt_eq]
    exact h2 j (by omega)
theorem cr_minS (hc : X.calm = true) : CallR X (.builtin "min") (rMinS X.K) := by
  intro pins s σ H vs us Q I r ⟨a, ns, e, hs, ne, q⟩
  rcases hs with hs | hs
  · exact cr_min hc pins s σ H vs us Q I r ⟨a, ns, e, hs, ne, fun m => q m⟩
  subst e
  obtain ⟨is, rv, hl, _⟩ := I.tuple hs
  rw [Vals.ref1 r]
  obtain ⟨xs, e1, e2⟩ := nums_of rv.ints
  subst e2
  have sz : 0 < xs.size := by simpa using ne
  refine min_tup (I.ok.hd hc) (xs := xs) (by rw [← e1]; exact hl) sz fun v g tk hv hk => ?_
  obtain ⟨u, rfl⟩ := intItems_at hv
  obtain ⟨h1, h2⟩ := argBest_lt (numAt xs) (xs.size - 1)
  refine ⟨.int _, H, I.kept hk, ⟨_, rfl⟩, q _ ?_ fun y hy => ?_⟩
  · rw [numAt_eq]
    exact PySem.getD_mem (by rw [List.length_map, Array.length_toList]; omega)
  · obtain ⟨j, hj, rfl⟩ := mem_getD hy
    rw [List.length_map, Array.length_toList] at hj
    rw [← numAt_eq]
    exact h2 j (by omega)
end
end LT
namespace TL
open PySem PySem.Spec PyProof.Rows L2 LT
section
variable {G : Ct} {K : PySem.W.Frag}
@[simp] def cSumS : CD := fun ds g Q => ∃ ns : List Int, (ds = [.list (ns.map .int)] ∨ ds = [.tuple (ns.map .int)]) ∧ Q (.int ns.sum) g
@[simp] def cMaxS : CD := fun ds g Q => ∃ (ns : List Int) (m : Int), (ds = [.list (ns.map .int)] ∨ ds = [.tuple (ns.map .int)]) ∧ m ∈ ns ∧ (∀ y ∈ ns, y ≤ m) ∧ Q (.int m) g
@[simp] def cMinS : CD := fun ds g Q => ∃ (ns : List Int) (m : Int), (ds = [.list (ns.map .int)] ∨ ds = [.tuple (ns.map .int)]) ∧ m ∈ ns ∧ (∀ y ∈ ns, m ≤ y) ∧ Q (.int m) g
theorem sq_one {w : Wd} {vs : List V} {ds : List PyData} {ns : List Int} (r : RvL K w vs ds) (a : ds = [.list (ns.map .int)] ∨ ds = [.tuple (ns.map .int)]) : ∃ a, vs = [.ref a] ∧ (SqL K w.H a (ns.map V.int) ∨ SqT K w.H a (ns.map V.int)) := by
  rcases a with a | a <;> subst a
  · cases r with
    | cons h t =>
      cases t
      cases h with
      | @lst a xs _ hL rl =>
        have := ints_rv rl
        subst this
        exact ⟨a, rfl, .inl hL.sq⟩
  · cases r with
    | cons h t =>
      cases t
      cases h with
      | @tup a xs _ hL rl =>
        have := ints_rv rl
        subst this
        exact ⟨a, rfl, .inr hL.sq⟩
theorem cd_sumS : CallD G K (rSumS K) cSumS := by
  refine ⟨fun ds g Q Q' hq ⟨ns, a, q⟩ => ⟨ns, a, hq _ _ q⟩, fun w g vs ds Q j r ⟨ns, a, q⟩ => ?_⟩
  obtain ⟨p, e1, e2⟩ := sq_one r a
  exact ⟨p, ns, e1, e2, q w _ (Go.refl w) j (.int _)⟩
theorem cd_maxS : CallD G K (rMaxS K) cMaxS := by
  refine ⟨fun ds g Q Q' hq ⟨ns, m, a, b, c, q⟩ => ⟨ns, m, a, b, c, hq _ _ q⟩, fun w g vs ds Q j r ⟨ns, m, a, b, c, q⟩ => ?_⟩
  obtain ⟨p, e1, e2⟩ := sq_one r a
  refine ⟨p, ns, e1, e2, List.length_pos_of_mem b, fun m' h1 h2 => ?_⟩
  have : m' = m := by have := h2 m b; have := c m' h1; omega
  subst this
  exact q w _ (Go.refl w) j (.int _)
theorem cd_minS : CallD G K (rMinS K) cMinS := by
  refine ⟨fun ds g Q Q' hq ⟨ns, m, a, b, c, q⟩ => ⟨ns, m, a, b, c, hq _ _ q⟩, fun w g vs ds Q j r ⟨ns, m, a, b, c, q⟩ => ?_⟩
  obtain ⟨p, e1, e2⟩ := sq_one r a
  refine ⟨p, ns, e1, e2, List.length_pos_of_mem b, fun m' h1 h2 => ?_⟩
  have : m' = m := by have := h2 m b; have := c m' h1; omega
  subst this
  exact q w _ (Go.refl w) j (.int _)
end
end TL
/-! range(i, j, -1), walked -/
namespace TL
open PySem PySem.Spec PyProof.Rows L2
section
variable {K : PySem.W.Frag}
def downD : Int → Nat → List PyData
  | _, 0 => []
  | i, n + 1 => .int i :: downD (i - 1) n
@[simp] theorem downD_len : ∀ (i : Int) (n : Nat), (downD i n).length = n
  | _, 0 => rfl
  | i, n + 1 => by rw [downD, List.length_cons, downD_len]
theorem downD_get : ∀ (n : Nat) (i : Int) (k : Nat) (d : PyData), (downD i n)[k]? = some d → d = .int (i - k)
  | 0, _, _, _, h => by simp [downD] at h
  | n + 1, i, 0, d, h => by
    simp [downD] at h
    simp [← h]
  | n + 1, i, k + 1, d, h => by
    rw [downD, List.getElem?_cons_succ] at h
    rw [downD_get n (i - 1) k d h]
    congr 1
    omega
theorem wk_down {i : Int} {n : Nat} : Wk K false (Itc i (-1) n) (downD i n) fun _ => True where
  pu := fun w u h p => h
  go := fun k w h l => by
    show k < n
    simpa using l
  stop := fun k w h l => by
    show n ≤ k
    simpa using l
  yld := fun k w x H' d h e y => by
    obtain ⟨e1, e2⟩ := y
    subst e2
    refine ⟨w, e1.symm, Go0.refl w, .of ?_⟩
    rw [downD_get n i k d e, show i + (k : Int) * -1 = i - k by omega]
    exact .int _
end
section
variable {G : Ct} {X : Cx} {tg : Expr} {t : TL'} {p pos : Pos}
theorem RvA.int3 {K : PySem.W.Frag} {am : Addr} {u : Wd} {vs : List V} {i j k : Int} (h : RvA K am u vs [.v (.int i), .v (.int j), .v (.int k)]) : vs = [.int i, .int j, .int k] := by
  cases h with
  | v h t => cases h; rw [RvA.int2 t]
@[simp] def xiDown (t : TL') : TWk := fun E g Q => t E g fun ss g' => ∃ i j : Int, ss = [.v (.int i), .v (.int j), .v (.int (-1))] ∧ (-(2 ^ 62) ≤ i ∧ i < 2 ^ 62 ∧ -(2 ^ 62) ≤ j ∧ j < 2 ^ 62) ∧ Q (downD i (i - j).toNat) g'
theorem xi_down {a b c : Expr} (hg : Gl X "range") (hm : X.mg "range" = none) (ha : XA G X [a, b, c] t) (na : starEach [a, b, c] X.env = (false, eval a X.env) :: starEach [b, c] X.env := by rfl) (nb : (backTo pos (starEach [b, c] X.env)).any (·.1) = false := by rfl) :
    XI G X false tg (.Call (.Name "range" p) [a, b, c] [] pos) (xiDown t) := by
  refine ⟨fun E g Q Q' hq q => ha.mo _ _ _ _ (fun ss g1 ⟨i, j, e, b1, q⟩ => ⟨i, j, e, b1, hq _ _ q⟩) q, (pi_range3 hg hm ha.pa na nb).imp fun σ H R ⟨cl, E, g, as, j, r, q⟩ => ?_⟩
  refine ⟨cl, E, g, as, j, r, ha.mo _ _ _ _ (fun ss g1 ⟨m, n, e, ⟨b1, b2, b3, b4⟩, q1⟩ u vs go1 j1 rs => ?_) q⟩
  subst e
  exact ⟨m, n, -1, _, rs.int3, RgC.neg b1 b2 b3 b4, q1 u _ _ go1 j1 wk_down trivial⟩
end
end TL
namespace TL
open PySem PySem.Spec PyProof.Rows L2 RZ
/-! ### small things that many laws want -/
theorem cut_to (l : List PyData) (k : Int) (h : 0 ≤ k) : cutD l none (some k) = l.take k.toNat := by
  unfold cutD HT.sIx
  simp only
  rw [if_neg (by omega), List.drop_zero, Nat.sub_zero]
  rcases Nat.le_total k.toNat l.length with a | a
  · rw [Nat.min_eq_left a]
  · rw [Nat.min_eq_right a, List.take_length, List.take_of_length_le a]
theorem repD_one (n : Nat) (X : PyData) : repD n [X] = List.replicate n X := by
  induction n with
  | zero => rfl
  | succ n ih =>
    unfold repD at *
    rw [List.replicate_succ, List.flatten_cons, ih]
    rfl
theorem same_list {X : PyData} {B : Nat} (h : Sh X B 1) (n : Nat) (l : n ≤ 30) : noDicts (List.replicate n X) = true ∧ SeqAt.shaped (.list (List.replicate n X)) = true ∧ PyData.eqvAll (List.replicate n X) (List.replicate n X) = true := by
  have s := sh_list (l := List.replicate n X) (n := 30) (fun d hd => (List.mem_replicate.1 hd).2 ▸ h) (by rw [List.length_replicate]; exact l)
  have nd := s.noDict
  refine ⟨by simpa [noDict] using nd, s.shaped (by decide), ?_⟩
  have := eqv_self _ nd
  simpa [PyData.eqv] using this
theorem cut_from (l : List PyData) (k : Int) (h : 0 ≤ k) : cutD l (some k) none = l.drop k.toNat := by
  unfold cutD HT.sIx
  simp only
  rw [if_neg (by omega)]
  rcases Nat.le_total k.toNat l.length with a | a
  · rw [Nat.min_eq_left a, List.take_of_length_le (by rw [List.length_drop]; omega)]
  · rw [Nat.min_eq_right a, List.drop_of_length_le (Nat.le_refl _), List.drop_of_length_le a, List.take_nil]
theorem ix_text {x : Str} {k : Int} {g : Nat} {Q : PyData → Nat → Prop} (h0 : 0 ≤ k) (h1 : k < x.cps.toList.length) (hs : x.length ≤ sizeLine) (q : ∀ c ∈ x.cps.toList, x.cps.toList[k.toNat]? = some c → Q (.str ⟨#[c]⟩) g) : oIx (.str x) (.int k) g Q := by
  obtain ⟨n, rfl⟩ : ∃ n : Nat, k = n := ⟨k.toNat, by omega⟩
  have hn : n < x.cps.toList.length := by omega
  refine ⟨n, rfl, .inr ⟨x, x.cps.toList[n], rfl, hs, ?_, ?_⟩⟩
  · rw [atI_lit, List.getElem?_eq_getElem hn]
  · exact q _ (List.getElem_mem hn) (by rw [Int.toNat_natCast, List.getElem?_eq_getElem hn])
/-- operations on numbers that are known -/
theorem oi_of {f : Int → Int → PyData} {i j : Int} {g : Nat} {K : PyData → Nat → Prop} (h : K (f i j) g) : oI f (.int i) (.int j) g K := h
theorem oic_of {C : Int → Int → Prop} {f : Int → Int → PyData} {i j : Int} {g : Nat} {K : PyData → Nat → Prop} (c : C i j) (h : K (f i j) g) : oIC C f (.int i) (.int j) g K := ⟨c, h⟩
theorem clt (l : List PyData) (g : Nat) (Q : PyData → Nat → Prop) : cLen [.tuple l] g Q = Q (.int (l.length : Nat)) g := rfl
theorem cll (l : List PyData) (g : Nat) (Q : PyData → Nat → Prop) : cLen [.list l] g Q = Q (.int (l.length : Nat)) g := rfl
theorem range_nil {lo : Int} {n : Nat} (h : [] = rangeD lo n) : n = 0 := by
  cases n with
  | zero => rfl
  | succ n => rw [rangeD_s] at h; cases h
theorem range_cons {lo : Int} {n : Nat} {d : PyData} {r : List PyData} (h : d :: r = rangeD lo n) : ∃ m, n = m + 1 ∧ d = .int lo ∧ r = rangeD (lo + 1) m := by
  cases n with
  | zero => cases h
  | succ n => rw [rangeD_s] at h; injection h with h1 h2; exact ⟨n, rfl, h1, h2⟩
end TL
namespace TL
open PySem PySem.Spec PyProof.Rows L2 RZ
/-! ### dicts: list(d), dict(list), == of two -/
section
variable {G : Ct} {X : Cx} {K : PySem.W.Frag} {e a b : Expr} {te tb : TX} {pos : Pos}
theorem zip_fstK {α β γ : Type} (f : α → γ) {ks : List α} {xs : List β} (h : ks.length ≤ xs.length) : (ks.zip xs).map (fun p => f p.1) = ks.map f := by
  have e : (fun p : α × β => f p.1) = f ∘ Prod.fst := rfl
  rw [e, ← List.map_map, List.map_fst_zip h]
theorem keys_rv {w : Wd} : ∀ ks : List Key, RvL K w (ks.map kV) (ks.map kD)
  | [] => .nil
  | k :: r => .cons (by cases k with | inl i => exact .int i | inr x => exact .str x) (keys_rv r)
/-- list(d) of a dict that is data -/
def cLstD : CD := fun ds g Q => ∃ l : List (Key × PyData), ds = [dicD l] ∧ Q (.list (l.map fun p => kD p.1)) g
theorem dic_parts {w : Wd} {v : V} {l : List (Key × PyData)} (h : Rv K w v (dicD l)) : ∃ (a : Addr) (ks : List Key) (xs : List V) (ds : List PyData), v = .ref a ∧ l = ks.zip ds ∧ DicA w a (ks.zip xs) ∧ ks.length = xs.length ∧ RvL K w xs ds := by
  generalize hd : dicD l = d at h
  cases h with
  | @dic a ks xs ds hA hl r =>
    refine ⟨a, ks, xs, ds, rfl, ?_, hA, hl, r⟩
    have e2 : dicD l = dicD (ks.zip ds) := by rw [dicD_zip, hd]
    have inj : ∀ k k' : Key, kD k = kD k' → k = k' := fun k k' h => by
      cases k <;> cases k' <;> cases h <;> rfl
    have key : ∀ l m : List (Key × PyData), (l.map fun p => (kD p.1, p.2)) = (m.map fun p => (kD p.1, p.2)) → l = m := by
      intro l
      induction l with
      | nil => intro m h; cases m with | nil => rfl | cons p m => cases h
      | cons p l ih =>
        intro m h
        cases m with
        | nil => cases h
        | cons q m =>
          injection h with h1 h2
          injection h1 with h3 h4
          rw [ih m h2, Prod.ext (inj _ _ h3) h4]
    exact key _ _ (by unfold dicD at e2; injection e2)
  | _ => unfold dicD at hd; cases hd
theorem cd_lstD : CallD G K (fun xs H Q => ∃ (a : Addr) (kvs : List (Key × V)), xs = [.ref a] ∧ Rd H a (.dK kvs) ∧ ∀ p, H p = none → Q (.ref p) (upd H p (.lst (kvs.map fun kv => kV kv.1)))) cLstD := by
  refine ⟨fun ds g Q Q' hq ⟨l, e1, q⟩ => ⟨l, e1, hq _ _ q⟩, fun w g vs ds Q j r ⟨l, e1, q⟩ => ?_⟩
  subst e1
  cases r with
  | cons h t =>
    cases t
    obtain ⟨a, ks, xs, ds, rfl, e2, ⟨⟨o, hA⟩, hc⟩, hl, hr⟩ := dic_parts h
    refine ⟨a, ks.zip xs, rfl, .inr ⟨o, hA⟩, fun p np => ?_⟩
    have e3 : (ks.zip xs).map (fun kv => kV kv.1) = ks.map kV := zip_fstK kV (by omega)
    have e4 : l.map (fun p => kD p.1) = ks.map kD := by
      have := hr.len
      rw [e2]; exact zip_fstK kD (by omega)
    rw [e3]
    rw [e4] at q
    exact q (w.new p _ 0) _ (Go.new' np 0) (G.st0 (Go0.new np 0) j) (new_lst np (keys_rv ks))
/-- list(d) of the frame's own dict -/
@[simp] def xHdKeys (i : Nat) : TX := fun E g Q => ∃ l, E[i]? = some (.hd l) ∧ Q (.list (l.map fun p => kD p.1)) g
theorem xe_hdKeys (i : Nat) {x : Str} {p q : Pos} (hc : X.calm = true) (hg : Gl X "list") (hm : X.mg "list" = none) (hv : PE X (.Name x q) (tVar i)) (hs : starEach [.Name x q] X.env = [(false, eval (.Name x q) X.env)] := by rfl) : XE G X (.Call (.Name "list" p) [.Name x q] [] pos) (xHdKeys i) := by
  refine ⟨fun E g Q Q' hq ⟨l, e1, q⟩ => ⟨l, e1, hq _ _ q⟩, (pe_callTy (call_listD hc) hg hm (by decide +kernel) (pa_cons hv pa_nil hs) (he := hs) (hpl := by rw [show starEach [] X.env = [] from rfl]; rfl)).imp fun σ H Q ⟨cl, E, g, as, j, r, l, e1, q⟩ => ?_⟩
  obtain ⟨a, ks, xs, ds, e0, h1, h2, h3, h4, h5, h6, _⟩ := r.getHd e1
  refine ⟨.ref a, h1, a, ks.zip xs, rfl, .inl h2, fun p np => ?_⟩
  have e3 : (ks.zip xs).map (fun kv => kV kv.1) = ks.map kV := zip_fstK kV (by omega)
  have e4 : l.map (fun p => kD p.1) = ks.map kD := by
    have := h5.len
    rw [e0]; exact zip_fstK kD (by omega)
  rw [e3]
  rw [e4] at q
  exact q ((⟨H, cl⟩ : Wd).new p _ 0) _ (Go.new' np 0) (G.st0 (Go0.new np 0) j) (new_lst np (keys_rv ks))
/-- dict(list of pairs), as data -/
def rDictL (K : PySem.W.Frag) : List V → Hp → VK → Prop := fun xs H Q => ∃ (a : Addr) (ps : List Addr) (kvs : List (Key × V)), xs = [.ref a] ∧ SqL K H a (ps.map V.ref) ∧ Paired (fun p kv => SqT K H p [kV kv.1, kv.2]) ps kvs ∧ (kvs.map (·.1)).Nodup ∧
  ∀ p, H p = none → ∀ od : Obj, Q (.ref p) (upd H p (.frz od (.dK kvs)))
theorem call_dictLF (hcalm : X.calm = true) : CallR X (.type "dict") (rDictL X.K) := by
  intro pins s σ H xs us Q I r ⟨a, ps, kvs, ex, hq, hp, hnd, q⟩
  have em : mergeK [] kvs = kvs := by simpa using mergeK_nodup kvs [] (by simpa using hnd)
  refine wpAny_mono (call_dictP hcalm pins s σ H xs us (fun v H' => ∃ p, v = .ref p ∧ H p = none ∧ H' = upd H p (.dK kvs)) I r ⟨a, ps, kvs, ex, hq, hp, fun p np => ⟨p, rfl, np, by rw [em]⟩⟩) (fun u s' h => ?_) fun e s' h => h
  obtain ⟨v, H', I', rv, p, rfl, np, rfl⟩ := h
  obtain ⟨od, I2⟩ := I'.lock upd_same trivial
  rw [upd_upd] at I2
  exact ⟨.ref p, _, I2, rv, q p np od⟩
def cDictL : CD := fun ds g Q => ∃ l kvs, ds = [.list l] ∧ pairsD l = some kvs ∧ (kvs.map (·.1)).Nodup ∧ Q (dicD kvs) g
theorem refs_list {w : Wd} {a : Addr} {xs : List V} (h : LstA K w a xs) : SqL K w.H a xs := h.sq
theorem cd_dictL : CallD G K (rDictL K) cDictL := by
  refine ⟨fun ds g Q Q' hq ⟨l, kvs, e1, e3, e4, q⟩ => ⟨l, kvs, e1, e3, e4, hq _ _ q⟩, fun w g vs ds Q j r ⟨l, kvs, e1, e3, e4, q⟩ => ?_⟩
  subst e1
  cases r with
  | cons h t =>
    cases t
    cases h with
    | lst hT hr =>
      obtain ⟨ps, ys, h1, h2, h3, h4⟩ := pairsD_rv hr e3
      subst h1
      have hl : (kvs.map (·.1)).length = ys.length := by simpa using h2
      refine ⟨_, ps, (kvs.map (·.1)).zip ys, rfl, hT.sq, h4, ?_, fun x nx od => ?_⟩
      · rw [List.map_fst_zip (by omega)]; exact e4
      · have rv : Rv K (w.new x (.frz od (.dK ((kvs.map (·.1)).zip ys))) 0) (.ref x) (.dict (((kvs.map (·.1)).map kD).zip (kvs.map (·.2)))) := .dic ⟨⟨od, upd_same⟩, if_pos rfl⟩ hl (h3.go (Go.new' nx 0))
        have ez : ((kvs.map (·.1)).map kD).zip (kvs.map (·.2)) = kvs.map fun p => (kD p.1, p.2) := by
          rw [List.map_map, List.zip_map']; rfl
        rw [ez] at rv
        exact q _ _ (Go.new' nx 0) (G.st0 (Go0.new nx 0) j) rv
/-! ### a dict that is made, as the frame's own -/
abbrev TND := List S → Nat → (List (Key × PyData) → Nat → Prop) → Prop
structure XND (G : Ct) (X : Cx) (e : Expr) (t : TND) : Prop where
  mo : ∀ E g Q Q', (∀ d g', Q d g' → Q' d g') → t E g Q → t E g Q'
  pe : PE X e fun σ H Q => ∃ cl E g as, G.J g ⟨H, cl⟩ ∧ EnvR X.K G ⟨H, cl⟩ E σ as ∧ t E g fun kvs g' => ∀ u (ks : List Key) xs ds p, Go ⟨H, cl⟩ u → G.J g' u → kvs = ks.zip ds → ks.length = xs.length → RvL X.K u xs ds → u.H p = none → Q (.ref p) (upd u.H p (.dK (ks.zip xs)))
@[simp] def xndDict (te : TX) : TND := fun E g Q => te E g fun d g1 => ∃ l kvs, d = .list l ∧ pairsD l = some kvs ∧ (kvs.map (·.1)).Nodup ∧ Q kvs g1
theorem xnd_dict {p : Pos} (hc : X.calm = true) (hg : Gl X "dict") (hm : X.mg "dict" = none) (he : XE G X e te) (hs : starEach [e] X.env = [(false, eval e X.env)] := by rfl) : XND G X (.Call (.Name "dict" p) [e] [] pos) (xndDict te) := by
  refine ⟨fun E g Q Q' hq q => he.mo _ _ _ _ (fun d g1 ⟨l, kvs, a, b, c, q⟩ => ⟨l, kvs, a, b, c, hq _ _ q⟩) q, (pe_callTy (call_dictP hc) hg hm (by decide +kernel) (pa_cons he.pe pa_nil hs) (he := hs) (hpl := by rw [show starEach [] X.env = [] from rfl]; rfl)).imp fun σ H Q ⟨cl, E, g, as, j, r, q⟩ => ?_⟩
  refine ⟨cl, E, g, as, j, r, he.mo _ _ _ _ (fun d g1 ⟨l, kvs, a, b, c, q1⟩ u v go1 j1 rv => ?_) q⟩
  subst a
  cases rv with
  | lst hL rl =>
    obtain ⟨ps, ys, h1, h2, h3, h4⟩ := pairsD_rv rl b
    subst h1
    have hl : (kvs.map (·.1)).length = ys.length := by simpa using h2
    refine ⟨_, ps, (kvs.map (·.1)).zip ys, rfl, hL.sq, h4, fun p np => ?_⟩
    have nd : (((kvs.map (·.1)).zip ys).map (·.1)).Nodup := by rw [List.map_fst_zip (by omega)]; exact c
    have em : mergeK [] ((kvs.map (·.1)).zip ys) = (kvs.map (·.1)).zip ys := by simpa using mergeK_nodup ((kvs.map (·.1)).zip ys) [] (by simpa using nd)
    rw [em]
    exact q1 u (kvs.map (·.1)) ys (kvs.map (·.2)) p go1 j1 (by rw [List.zip_map']; simp) hl h3 np
theorem EnvR.newHdX {w : Wd} {E : List S} {σ : L2.St} {as : List Addr} (h : EnvR K G w E σ as) (i : Nat) {p : Addr} {ks : List Key} {xs : List V} {ds : List PyData} (n : w.H p = none) (n0 : G.w0.H p = none) (hi : i < E.length) (hl : ks.length = xs.length) (r : RvL K w xs ds) :
    ∃ bs, EnvR K G (w.new p (.dK (ks.zip xs)) 1) (E.set i (.hd (ks.zip ds))) (σ.set i (some (.ref p))) bs ∧ ∀ b ∈ bs, b ∈ as ∨ b = p := by
  obtain ⟨bs, r1, hb⟩ := h.newHd i n n0 hi
  have hlen := h.len
  have e1 : (E.set i (.hd []))[i]? = some (.hd []) := by rw [List.getElem?_set_self hi]
  have e2 : (σ.set i (some (.ref p)))[i]? = some (some (V.ref p)) := by rw [List.getElem?_set_self (by rw [hlen]; exact hi)]
  have q := r1.setHd (ks := ks) (ys := xs) (ds := ds) e1 e2 hl (r.go (Go.new' n 1))
  refine ⟨bs, ?_, hb⟩
  have eE : (E.set i (S.hd [])).set i (S.hd (ks.zip ds)) = E.set i (.hd (ks.zip ds)) := List.set_set ..
  rw [eE] at q
  have ew : (⟨upd (w.new p (.dK []) 1).H p (.dK (ks.zip xs)), (w.new p (.dK []) 1).cl⟩ : Wd) = w.new p (.dK (ks.zip xs)) 1 := by
    unfold Wd.new
    congr 1
    funext b
    by_cases c : b = p
    · subst c; simp [upd_same]
    · simp [upd_ne c]
  rw [ew] at q
  exact q
/-- x, y = a dict that is made, e -/
@[simp] def xPar2DX (i j : Nat) (t : TND) (te : TX) : TSt := fun k E g => (i < E.length ∧ i ≠ j) ∧ t E g fun kvs g1 => te E g1 fun d g2 => k.nx ((E.set i (.hd kvs)).set j (.v d)) g2
theorem xs_par2DX (i j : Nat) {s : Stmt} {t : TND} (ha : XND G X a t) (hb : XE G X b tb) (hij : i ≠ j) (h : ∀ ta' tb', PE X a ta' → PE X b tb' → PS X s (tPar i j (tCons ta' (tCons tb' tNil)))) : XS G X s (xPar2DX i j t tb) := by
  refine ⟨fun k k' E g h ⟨l, q⟩ => ⟨l, ha.mo _ _ _ _ (fun d g1 q1 => hb.mo _ _ _ _ (fun e g2 q2 => h.nx _ _ q2) q1) q⟩, (h _ _ ha.pe hb.pe).imp fun D σ H ⟨cl, E, g, as, j0, go, r, ⟨hl, _⟩, q⟩ => ?_⟩
  refine ⟨cl, E, g, as, j0, r, ha.mo _ _ _ _ (fun kvs g1 q1 u ks xs ds p go1 j1 ez lk rl np => ?_) q⟩
  subst ez
  have gn : Go u (u.new p (.dK (ks.zip xs)) 1) := Go.new' np 1
  refine ⟨(u.new p (.dK (ks.zip xs)) 1).cl, E, g1, as, G.st0 (Go0.new np 1) j1, (r.go go1).go gn, hb.mo _ _ _ _ (fun e g2 q2 u2 v2 go2 j2 rv2 => ?_) q1⟩
  refine ⟨.ref p, v2, rfl, ?_⟩
  obtain ⟨bs, r1, _⟩ := (r.go go1).newHdX i np (go_fresh (go.trans go1) np) hl lk rl
  obtain ⟨cs, r2⟩ := set_hl_v (r1.go go2) j rv2
  exact q2 u2 _ cs j2 (((go.trans go1).trans gn).trans go2) ((go1.pu.trans gn.pu).trans go2.pu) r2
/-! ### two dicts that tell the same -/
def flatPD : PyData → Bool
  | .none => true | .bool _ => true | .int _ => true | .str _ => true
  | _ => false
def oEqDic : OD := fun d e g Q => ∃ l m : List (Key × PyData), d = dicD l ∧ e = dicD m ∧ l.length = m.length ∧ (∀ p ∈ l, valP m p.1 = some p.2 ∧ flatPD p.2 = true) ∧ Q (.bool true) g
def rEqDF : R2 := fun x y H Q => ∃ a b o o' ks ls, x = .ref a ∧ y = .ref b ∧ H a = some (.frz o (.dK ks)) ∧ H b = some (.frz o' (.dK ls)) ∧ ks.length = ls.length ∧ (∀ p ∈ ks, valV ls p.1 = some p.2 ∧ flatB p.2 = true) ∧ Q (.bl true) H
theorem op_eqDF (hu : X.A.units < cLine) : OpR X (compareOp .Eq) rEqDF := by
  intro pins s σ H x y v u Q I rx ry h
  obtain ⟨a, b, o, o', ks, ls, rfl, rfl, ea, eb, hlen, hp, q⟩ := h
  obtain rfl : v = Value.ref a := rx
  obtain rfl : u = Value.ref b := ry
  obtain ⟨ya, _, _, es, ep, va, _, _, ra, da⟩ := I.frzK ea
  obtain ⟨yb, _, _, es', ep', vb, _, _, rb, db⟩ := I.frzK eb
  have hl : va.length = vb.length := by rw [← ra.length, ← rb.length]; exact hlen
  exact PySem.W.keq_eq (knd := mixKind X.prog X.w) (r := true) ya yb da.dictOf db.dictOf hu (fun _ => hits_all rb ra hp) (fin_bl I q (by simp [hl]))
theorem flat_rv {w : Wd} {v : V} {d : PyData} (h : Rv K w v d) (f : flatPD d = true) : flatB v = true := by
  cases h <;> first | rfl | cases f
theorem flat_eq {w : Wd} {v v' : V} {d : PyData} (h : Rv K w v d) (h' : Rv K w v' d) (f : flatPD d = true) : v = v' := by
  cases d with
  | none => cases h; cases h'; rfl
  | bool b => cases h; cases h'; rfl
  | int i => cases h; cases h'; rfl
  | str x => cases h; cases h'; rfl
  | _ => cases f
theorem zip_memK {w : Wd} {k : Key} {v : V} : ∀ {ks : List Key} {xs : List V} {ds : List PyData}, ks.length = xs.length → RvL K w xs ds → (k, v) ∈ ks.zip xs → ∃ d, (k, d) ∈ ks.zip ds ∧ Rv K w v d
  | [], _, _, _, _, h => by simp at h
  | _ :: _, [], _, l, _, _ => by simp at l
  | k' :: ks, x :: xs, _, l, .cons (d := d) hx t, h => by
    rw [List.zip_cons_cons] at h ⊢
    rcases List.mem_cons.1 h with e | e
    · cases e
      exact ⟨d, List.mem_cons_self, hx⟩
    · obtain ⟨d', h1, h2⟩ := zip_memK (by simpa using l) t e
      exact ⟨d', List.mem_cons_of_mem _ h1, h2⟩
theorem od_eqD : OpD G K rEqDF oEqDic := by
  refine ⟨fun d e g Q Q' hq ⟨l, m, e1, e2, hl, hp, q⟩ => ⟨l, m, e1, e2, hl, hp, hq _ _ q⟩, fun w g x y d e Q j rx ry ⟨l, m, e1, e2, hl, hp, q⟩ => ?_⟩
  subst e1 e2
  obtain ⟨a, ks, xs, ds, rfl, z1, ⟨⟨o, hA⟩, _⟩, l1, r1⟩ := dic_parts rx
  obtain ⟨b, ls, ys, es, rfl, z2, ⟨⟨o', hB⟩, _⟩, l2, r2⟩ := dic_parts ry
  refine ⟨a, b, o, o', ks.zip xs, ls.zip ys, rfl, rfl, hA, hB, ?_, fun p hp' => ?_, q w _ (Go.refl w) j (.bl _)⟩
  · have a1 := r1.len
    have a2 := r2.len
    rw [z1, z2, List.length_zip, List.length_zip] at hl
    rw [List.length_zip, List.length_zip]
    omega
  · obtain ⟨d, h1, h2⟩ := zip_memK (k := p.1) (v := p.2) l1 r1 hp'
    have := hp (p.1, d) (by rw [z1]; exact h1)
    obtain ⟨v1, f1⟩ := this
    rw [z2] at v1
    obtain ⟨v', y1, y2⟩ := (val_zip l2 r2).1 d v1
    have := flat_eq h2 y2 f1
    exact ⟨by rw [y1, this], flat_rv h2 f1⟩
theorem co_eqD (hu : X.A.units < cLine) : CO G X .Eq oEqDic := ⟨_, op_eqDF hu, od_eqD⟩
end
end TL
namespace TL
open PySem PySem.Spec PyProof.Rows L2 RZ
/-! ### a, b = x, y where a name is looked at from within: stored in order -/
theorem ps_parO {X : Cx} {pos : Pos} {i j : Nat} {x y : Str} {a b : Expr} {ta : TA} {px py pt : Pos} {kt k2 pt2} (hc : X.calm = true) (hN : X.N.Nodup) (hi : X.N[i]? = some x) (hj : X.N[j]? = some y)
    (hx : Loc X.env.scope x) (hy : Loc X.env.scope y) (hfx : X.fn x = true ∨ X.env.scope.names.lookup x = some .local) (hfy : X.fn y = true ∨ X.env.scope.names.lookup y = some .local) (ha : PA X [a, b] ta)
    (hw : swappedStores [.Tuple [.Name x px, .Name y py] kt pt] (.Tuple [a, b] k2 pt2) X.env = pure none)
    (hs : swapsWithSole [.Tuple [.Name x px, .Name y py] kt pt] (.Tuple [a, b] k2 pt2) pos.line X.env = pure false := by rfl) :
    PS X (.Assign [.Tuple [.Name x px, .Name y py] kt pt] (.Tuple [a, b] k2 pt2) pos) (tPar i j ta) := by
  refine ⟨fun pins s σ H D I h => ?_⟩
  refine wpAny_Assign_stores (Tuple_ (thn (ha.run _ pins s σ H _ I h) fun us s1 ⟨vs, H1, I1, r1, q1⟩ => ?_)) hs hw
  obtain ⟨v, w, e1, q1⟩ := q1
  subst e1
  obtain ⟨u1, u2, rfl, rv, rw'⟩ : ∃ u1 u2, us = [u1, u2] ∧ RelV v u1 ∧ RelV w u2 := by
    cases r1 with
    | cons p q =>
      cases q with
      | cons p' q' =>
        cases q'
        exact ⟨_, _, rfl, p, p'⟩
  refine wpAny_newObj_type ?_ (by show 2 ≤ sizeLine; decide)
  have I2 : Inv X pins σ H1 { s1 with heap := s1.heap.push { cls := .type "tuple", data := .seq [u1, u2].toArray } } := I1.kept (t' := s1.toks) fun b o e => Heap.get?_push_of_some _ e
  show wpAny _ _ (assign (.Tuple [.Name x px, .Name y py] kt pt) X.env (.ref s1.heap.objs.size)) _ _ _
  refine assign_Tuple_tuple (I.ok.hd hc) (IsTup.new s1.heap _) (by rfl) (by rfl) fun h' hx' => ?_
  have I3 := I2.kept (h' := h') (t' := s1.toks) fun b o e => hx' b o (Nat.ne_of_lt (Heap.lt_size e)) e
  refine assignInOrder_cons (wpAny_assign_Name (store_ok I3 hN hi hx rv (fun s2 I4 => ?_) hfx))
  exact assignInOrder_cons (wpAny_assign_Name (store_ok I4 hN hj hy rw' (fun s3 I5 => assignInOrder_nil ⟨_, H1, I5, q1⟩) hfy))
end TL
namespace TL
open PySem PySem.Spec PyProof.Rows L2 RZ
/-! ### text * number, none too -/
section
variable {G : Ct} {X : Cx} {K : PySem.W.Frag} {a b : Expr} {ta tb : TX} {pos : Pos}
def rRepS0 : R2 := fun x y H Q => ∃ z k, x = .str z ∧ y = .int k ∧ 0 ≤ k ∧ k ≤ 1000000 ∧ z.length ≤ 1000000 ∧ z.length * k.toNat ≤ sizeLine ∧ Q (.str (repS k.toNat z)) H
theorem op_repS0 : OpR X (binaryOp .Mult) rRepS0 := by
  intro pins s σ H x y v u Q I rx ry h
  obtain ⟨z, k, rfl, rfl, h1, h2, h3, h4, q⟩ := h
  by_cases k0 : k = 0
  · subst k0
    obtain ⟨t, rfl⟩ := rx
    obtain ⟨t', rfl⟩ := ry
    refine P.mul_str_none (by decide) (by decide) ?_
    exact ⟨.str Str.empty, H, I.tok _, ⟨_, rfl⟩, q⟩
  · exact op_repS pins s σ H (.str z) (.int k) v u Q I rx ry ⟨z, k, rfl, rfl, by omega, h2, h3, h4, q⟩
@[simp] def oRepS0 : OD := fun d e g Q => ∃ z k, d = .str z ∧ e = .int k ∧ 0 ≤ k ∧ k ≤ 1000000 ∧ z.length ≤ 1000000 ∧ z.length * k.toNat ≤ sizeLine ∧ Q (.str (repS k.toNat z)) g
theorem od_repS0 : OpD G K rRepS0 oRepS0 := by
  refine ⟨fun d e g Q Q' hq ⟨z, k, e1, e2, h1, h2, h3, h4, q⟩ => ⟨z, k, e1, e2, h1, h2, h3, h4, hq _ _ q⟩, fun w g x y d e Q j rx ry ⟨z, k, e1, e2, h1, h2, h3, h4, q⟩ => ?_⟩
  subst e1 e2
  cases rx
  cases ry
  exact ⟨z, k, rfl, rfl, h1, h2, h3, h4, q w _ (Go.refl w) j (.str _)⟩
theorem xe_repS0 (ha : XE G X a ta) (hb : XE G X b tb) : XE G X (.BinOp a .Mult b pos) (xBin ta tb oRepS0) := xe_op op_repS0 od_repS0 ha hb
end
end TL
namespace TL
open PySem PySem.Spec PyProof.Rows L2 RZ

/-! ### counters, runs -/
def dialS (x : Str) : Bool := decide (2 ≤ x.length) && (decide (x.length ≤ 36) && (decide x.cps.toList.Nodup && x.cps.toList.all fun c => decide (33 ≤ c) && (decide (c ≤ 126) && decide (c ≠ 37))))
def isDialD : PyData → Bool
  | .str x => dialS x
  | _ => false
def isCtrD : PyData → Bool
  | .tuple l => decide (1 ≤ l.length) && (decide (l.length ≤ 12) && l.all isDialD)
  | _ => false
def cD (c : List Str) : PyData := .tuple (c.map .str)
structure Ctr (c : List Str) : Prop where
  n : 1 ≤ c.length ∧ c.length ≤ 12
  d : ∀ x ∈ c, dialS x = true
theorem ctr_is {c : List Str} (h : Ctr c) : isCtrD (cD c) = true := by
  have := h.n
  simp only [isCtrD, cD, List.length_map, Bool.and_eq_true, decide_eq_true_eq, List.all_map, List.all_eq_true]
  exact ⟨this.1, this.2, h.d⟩
def csize : List Str → Int
  | [] => 1
  | x :: r => x.length * csize r
theorem csize_bd : ∀ (c : List Str), (∀ x ∈ c, dialS x = true) → 1 ≤ csize c ∧ csize c ≤ 36 ^ c.length
  | [], _ => by simp [csize]
  | x :: r, h => by
    obtain ⟨a, b⟩ := csize_bd r fun y hy => h y (List.mem_cons_of_mem _ hy)
    have hx := h x List.mem_cons_self
    simp only [dialS, Bool.and_eq_true, decide_eq_true_eq] at hx
    have l1 : (2 : Int) ≤ x.length := by omega
    have l2 : (x.length : Int) ≤ 36 := by omega
    simp only [csize, List.length_cons]
    have m1 : 2 * 1 ≤ (x.length : Int) * csize r := Int.mul_le_mul l1 a (by omega) (by omega)
    have m2 : (x.length : Int) * csize r ≤ 36 * 36 ^ r.length := Int.mul_le_mul l2 b (by omega) (by omega)
    rw [Int.pow_succ, Int.mul_comm _ (36 : Int)]
    omega
theorem Ctr.size {c : List Str} (h : Ctr c) : 1 ≤ csize c ∧ csize c ≤ 10 ^ 19 := by
  obtain ⟨a, b⟩ := csize_bd c h.d
  have h1 : (36 : Int) ^ c.length ≤ 36 ^ 12 := by
    have h2 : (36 : Nat) ^ c.length ≤ 36 ^ 12 := Nat.pow_le_pow_right (by decide) h.n.2
    have e : ∀ n : Nat, (36 : Int) ^ n = ((36 ^ n : Nat) : Int) := fun n => by simp
    rw [e, e]
    exact_mod_cast h2
  have : (36 : Int) ^ 12 ≤ 10 ^ 19 := by decide
  exact ⟨a, by omega⟩
structure Run where
  c : List Str
  b : Int
  s : Int
  n : Int
  k : Int
def runD (r : Run) : PyData := .tuple [cD r.c, .int r.b, .int r.s, .int r.n, .int r.k]
structure Run.Ok (r : Run) : Prop where
  c : Ctr r.c
  b : 0 ≤ r.b ∧ r.b < csize r.c
  s : -(10 ^ 18) ≤ r.s ∧ r.s ≤ 10 ^ 18
  n : 1 ≤ r.n ∧ r.n ≤ 10 ^ 30
  k : 1 ≤ r.k ∧ r.k ≤ 1000
theorem strOk_dial {x : Str} (h : dialS x = true) : PyData.strOk x = true := by
  simp only [dialS, Bool.and_eq_true, decide_eq_true_eq, List.all_eq_true] at h
  unfold PyData.strOk
  rw [← Array.all_toList, List.all_eq_true]
  intro c hc
  have := (h.2.2.2 c hc).2.1
  simp only [decide_eq_true_eq]
  omega
theorem sh_dial {x : Str} (h : dialS x = true) : Sh (.str x) 362 0 := by
  have := h
  simp only [dialS, Bool.and_eq_true, decide_eq_true_eq] at this
  exact sh_str (strOk_dial h) this.2.1
theorem sh_ctr {c : List Str} (h : Ctr c) : Sh (cD c) 4371 1 := by
  refine sh_tup (B := 362) (n := 12) (fun d hd => ?_) (by simpa using h.n.2)
  obtain ⟨x, hx, rfl⟩ := List.mem_map.1 hd
  exact sh_dial (h.d x hx)
theorem wb_s {n : Int} (h0 : -(10 ^ 90) ≤ n) (h1 : n ≤ 10 ^ 90) : Wb n := wb_of (by omega) (by omega)
@[simp] theorem gcdI_g2 (a b : Int) : gcdI a b = NT.g2 a b := rfl
theorem g2_wb {a b : Int} (h : 0 < b) (h2 : b ≤ 10 ^ 19) : 0 < NT.g2 a b ∧ Wb (NT.g2 a b) := by
  have := NT.g2_pos (a := a) h
  have := NT.g2_le (a := a) h
  exact ⟨by omega, wb_s (by omega) (by omega)⟩

/-! ### questions -/
abbrev Q4 := NT.Q4
def qD (q : Q4) : PyData := .tuple [.int q.a, .int q.m, .int q.lo, .int q.hi]
def isQD : PyData → Bool
  | .tuple [.int a, .int m, .int lo, .int hi] => decide (0 ≤ a ∧ a < m ∧ 0 ≤ lo ∧ lo ≤ hi ∧ hi < m)
  | _ => false
theorem isQ_ok {q : Q4} (ok : q.Ok) : isQD (qD q) = true := by
  simp only [isQD, qD, decide_eq_true_eq]
  exact ⟨ok.a0, ok.am, ok.l0, ok.lh, ok.hm⟩
theorem isQ_of {d : PyData} (h : isQD d = true) : ∃ q : Q4, q.Ok ∧ d = qD q := by
  unfold isQD at h
  split at h
  · rename_i a m lo hi
    simp only [decide_eq_true_eq] at h
    exact ⟨⟨a, m, lo, hi⟩, ⟨h.1, h.2.1, h.2.2.1, h.2.2.2.1, h.2.2.2.2⟩, rfl⟩
  · cases h
/-- a question with numbers that are not too great -/
structure QB (q : Q4) : Prop where
  ok : q.Ok
  m : q.m ≤ 10 ^ 40
theorem wb_p {n : Int} (h0 : 0 ≤ n) (h1 : n ≤ 10 ^ 90) : Wb n := wb_of (by omega) (by omega)
theorem QB.w {q : Q4} (h : QB q) : (Wb q.a ∧ Wb q.m) ∧ Wb q.lo ∧ Wb q.hi := by
  have ⟨⟨a0, am, l0, lh, hm⟩, m⟩ := h
  exact ⟨⟨wb_p (by omega) (by omega), wb_p (by omega) (by omega)⟩, wb_p (by omega) (by omega), wb_p (by omega) (by omega)⟩
def ointD : Option Int → PyData
  | none => .none
  | some i => .int i
theorem mul_bd {a b A B : Int} (a0 : 0 ≤ a) (aA : a ≤ A) (b0 : 0 ≤ b) (bB : b ≤ B) : 0 ≤ a * b ∧ a * b ≤ A * B :=
  ⟨Int.mul_nonneg a0 b0, Int.mul_le_mul aA bB b0 (by omega)⟩

/-! ### the texts of a counter -/
def sgn (x : Str) (i : Int) : Nat := x.cps.toList.getD i.toNat 0
def txL : List Str → Int → List Nat
  | [], _ => []
  | x :: r, n => sgn x (n / csize r % x.length) :: txL r n
def txS (c : List Str) (n : Int) : Str := ⟨(txL c n).toArray⟩
theorem txL_len (c : List Str) (n : Int) : (txL c n).length = c.length := by
  induction c with
  | nil => rfl
  | cons x r ih => simp [txL, ih]
theorem csize_pos {c : List Str} (h : ∀ x ∈ c, dialS x = true) : 1 ≤ csize c := (csize_bd c h).1
theorem dial_len {x : Str} (h : dialS x = true) : 2 ≤ x.length ∧ x.length ≤ 36 := by
  simp only [dialS, Bool.and_eq_true, decide_eq_true_eq] at h
  exact ⟨h.1, h.2.1⟩
theorem len_toList (x : Str) : x.cps.toList.length = x.length := by simp [Str.length]
/-- the sign at a place -/
theorem sgn_at {x : Str} (h : dialS x = true) (m : Int) : ∃ j : Nat, (j : Int) = m % x.length ∧ j < x.length ∧ x.cps.toList[j]? = some (sgn x (m % x.length)) ∧ ∀ k, k < j → x.cps.toList[k]? ≠ some (sgn x (m % x.length)) := by
  have hl := dial_len h
  have h0 := Int.emod_nonneg m (show (x.length : Int) ≠ 0 by omega)
  have h1 := Int.emod_lt_of_pos m (show (0 : Int) < x.length by omega)
  generalize m % (x.length : Int) = i at *
  obtain ⟨j, rfl⟩ := Int.eq_ofNat_of_zero_le h0
  have hj : j < x.cps.toList.length := by rw [len_toList]; omega
  have e : x.cps.toList[j]? = some (sgn x (j : Int)) := by
    unfold sgn
    rw [List.getD_eq_getElem?_getD]
    simp only [Int.toNat_natCast]
    rw [List.getElem?_eq_getElem hj]
    rfl
  refine ⟨j, rfl, by omega, e, fun k hk hz => ?_⟩
  simp only [dialS, Bool.and_eq_true, decide_eq_true_eq] at h
  have nd := h.2.2.1
  have := (List.getElem?_inj (by omega) nd).1 (hz.trans e.symm)
  omega
theorem div_step {n : Int} {c : List Str} {x : Str} (h : ∀ y ∈ c, dialS y = true) : n / csize c / x.length = n / csize (x :: c) := by
  have := csize_pos h
  rw [Int.ediv_ediv_of_nonneg (by omega), csize, Int.mul_comm]
theorem ix_str {x : Str} (h : dialS x = true) (m : Int) {g : Nat} {f : PyData → Nat → Prop} (q : f (.str ⟨#[sgn x (m % x.length)]⟩) g) : oIx (.str x) (.int (m % x.length)) g f := by
  obtain ⟨j, e, hj, h1, _⟩ := sgn_at h m
  have sz : (4000 : Nat) ≤ sizeLine := by decide +kernel
  have := dial_len h
  refine ⟨_, rfl, .inr ⟨x, _, rfl, by omega, ?_, q⟩⟩
  rw [← e] at h1 ⊢
  rw [atI_lit]
  exact h1
theorem txS_cons (x : Str) (r : List Str) (n : Int) : (⟨#[sgn x (n / csize r % x.length)]⟩ : Str) ++ txS r n = txS (x :: r) n := by
  show Str.mk (#[sgn x (n / csize r % x.length)] ++ (txL r n).toArray) = Str.mk _
  simp [txL]
theorem txS_len (c : List Str) (n : Int) : (txS c n).length = c.length := by
  show (txL c n).toArray.size = _
  simp [txL_len]
theorem zip_mem (n : Int) : ∀ (c : List Str), (∀ x ∈ c, dialS x = true) → ∀ d ∈ zipD (signsD (txS c n)) (c.map .str), ∃ x s, d = .tuple [.str ⟨#[s]⟩, .str x] ∧ s ∈ x.cps.toList
  | [], _, d, hd => by simp [txS, txL, signsD, zipD] at hd
  | x :: r, h, d, hd => by
    simp [txS, txL, signsD, zipD] at hd
    rcases hd with rfl | hd
    · obtain ⟨j, e, hj, h1, _⟩ := sgn_at (h x List.mem_cons_self) (n / csize r)
      exact ⟨x, _, rfl, List.mem_of_getElem? h1⟩
    · exact zip_mem n r (fun y hy => h y (List.mem_cons_of_mem _ hy)) d (by simpa [txS, signsD] using hd)
theorem sgn_in {x : Str} (h : dialS x = true) (m : Int) : sgn x (m % x.length) ≤ 126 := by
  obtain ⟨j, e, hj, h1, _⟩ := sgn_at h m
  have hm := List.mem_of_getElem? h1
  simp only [dialS, Bool.and_eq_true, decide_eq_true_eq, List.all_eq_true] at h
  have := (h.2.2.2 _ hm).2.1
  simpa using this
theorem strOk_txS {c : List Str} (h : ∀ x ∈ c, dialS x = true) (n : Int) : PyData.strOk (txS c n) = true := by
  have hs : ∀ (c : List Str), (∀ x ∈ c, dialS x = true) → ∀ s ∈ txL c n, s ≤ 126 := fun c => by
    induction c with
    | nil => intro _ s hs; cases hs
    | cons x r ih =>
      intro h s hs
      rcases List.mem_cons.1 hs with rfl | hs
      · exact sgn_in (h x List.mem_cons_self) _
      · exact ih (fun y hy => h y (List.mem_cons_of_mem _ hy)) s hs
  unfold PyData.strOk
  rw [← Array.all_toList, List.all_eq_true]
  intro s hm
  have := hs c h s (by simpa [txS] using hm)
  simp only [decide_eq_true_eq]
  omega
theorem shaped_txS {c : List Str} (h : ∀ x ∈ c, dialS x = true) (n : Int) : SeqAt.shaped (.str (txS c n)) = true := (sh_str (strOk_txS h n) (Nat.le_refl _)).shaped (by decide)
def sgS (s : Nat) : Str := ⟨#[s]⟩
theorem join_sgs : ∀ l : List Nat, Str.join (Str.ofString "") (l.map sgS) = ⟨l.toArray⟩
  | [] => rfl
  | [x] => rfl
  | x :: y :: r => by
    have h := join_sgs (y :: r)
    rw [List.map_cons, List.map_cons, Str.join, ← List.map_cons, h]
    · have e : Str.ofString "" = (⟨#[]⟩ : Str) := by rw [Str.ofString_eq_toList]; rfl
      rw [e]
      show Str.mk (#[x] ++ #[] ++ (y :: r).toArray) = _
      simp
    · simp

/-! ### texts tell their numbers -/
theorem sgn_inj {x : Str} (h : dialS x = true) (a b : Int) (e : sgn x (a % x.length) = sgn x (b % x.length)) : a % x.length = b % x.length := by
  obtain ⟨j, ej, hj, h1, h2⟩ := sgn_at h a
  obtain ⟨k, ek, hk, h3, h4⟩ := sgn_at h b
  rw [e] at h1 h2
  have a1 : ¬ j < k := fun c => h4 j c h1
  have a2 : ¬ k < j := fun c => h2 k c h3
  omega
theorem txL_inj : ∀ {c : List Str}, (∀ y ∈ c, dialS y = true) → ∀ a b : Int, txL c a = txL c b → csize c ∣ a - b
  | [], _, a, b, _ => by simp [csize]
  | x :: r, h, a, b, e => by
    have hr : ∀ y ∈ r, dialS y = true := fun y hy => h y (List.mem_cons_of_mem _ hy)
    have R := csize_pos hr
    simp only [txL, List.cons.injEq] at e
    obtain ⟨k, hk⟩ := txL_inj hr a b e.2
    obtain ⟨j, hj⟩ := NT.mod_eq_dvd.1 (sgn_inj (h x List.mem_cons_self) _ _ e.1)
    have m : a % csize r = b % csize r := NT.mod_eq_dvd.2 ⟨k, hk⟩
    have a1 := NT.mod_div a (csize r)
    have a2 := NT.mod_div b (csize r)
    refine ⟨j, ?_⟩
    have : a - b = csize r * (a / csize r - b / csize r) := by rw [Int.mul_sub]; omega
    rw [this, hj, csize, ← Int.mul_assoc, Int.mul_comm (csize r)]
theorem txL_mod : ∀ {c : List Str}, (∀ y ∈ c, dialS y = true) → ∀ a b : Int, csize c ∣ a - b → txL c a = txL c b
  | [], _, a, b, _ => rfl
  | x :: r, h, a, b, ⟨k, hk⟩ => by
    have hr : ∀ y ∈ r, dialS y = true := fun y hy => h y (List.mem_cons_of_mem _ hy)
    have R := csize_pos hr
    simp only [csize] at hk
    have e : a = b + csize r * (x.length * k) := by rw [← Int.mul_assoc, Int.mul_comm (csize r)]; omega
    simp only [txL]
    rw [txL_mod hr a b ⟨x.length * k, by omega⟩]
    congr 2
    rw [e, Int.add_mul_ediv_left _ _ (by omega), Int.add_mul_emod_self_left]
theorem txS_iff {c : List Str} (h : Ctr c) (a b : Int) : txS c a = txS c b ↔ csize c ∣ a - b := by
  constructor
  · intro e
    refine txL_inj h.d a b ?_
    injection e with e
    simpa using congrArg Array.toList e
  · intro e
    unfold txS
    rw [txL_mod h.d a b e]
/-- the text of a serial -/
def tx (r : Run) (i : Int) : Str := txS r.c ((r.b + i * r.s) % csize r.c)
theorem tx_iff {r : Run} (h : r.Ok) (i n : Int) : tx r i = txS r.c n ↔ csize r.c ∣ r.s * i - (n - r.b) := by
  unfold tx
  rw [txS_iff h.c]
  have e : csize r.c ∣ (r.b + i * r.s) % csize r.c - (r.b + i * r.s) := NT.mod_eq_dvd.1 (Int.emod_emod ..)
  have e2 : r.s * i - (n - r.b) = (r.b + i * r.s) - n := by rw [Int.mul_comm]; omega
  rw [e2]
  constructor
  · intro d
    have := Int.dvd_sub d e
    rwa [show (r.b + i * r.s) % csize r.c - n - ((r.b + i * r.s) % csize r.c - (r.b + i * r.s)) = r.b + i * r.s - n by omega] at this
  · intro d
    have := Int.dvd_add d e
    rwa [show r.b + i * r.s - n + ((r.b + i * r.s) % csize r.c - (r.b + i * r.s)) = (r.b + i * r.s) % csize r.c - n by omega] at this
def per (r : Run) : Int := csize r.c / NT.g2 r.s (csize r.c)
theorem per_pos {r : Run} (h : r.Ok) : 0 < per r ∧ per r ≤ csize r.c := by
  have := h.c.size
  have := NT.g2_div (a := r.s) (b := csize r.c) (by omega)
  exact ⟨this.2.1, this.2.2⟩
theorem tx_same {r : Run} (h : r.Ok) (i j : Int) : tx r i = tx r j ↔ per r ∣ i - j := by
  have hm := h.c.size
  show tx r i = txS r.c _ ↔ _
  rw [tx_iff h]
  have e : csize r.c ∣ (r.b + j * r.s) % csize r.c - (r.b + j * r.s) := NT.mod_eq_dvd.1 (Int.emod_emod ..)
  constructor
  · intro d
    refine NT.dvd_g2 (by omega) ?_
    have := Int.dvd_add d e
    rwa [show r.s * i - ((r.b + j * r.s) % csize r.c - r.b) + ((r.b + j * r.s) % csize r.c - (r.b + j * r.s)) = r.s * (i - j) by rw [Int.mul_sub, Int.mul_comm j]; omega] at this
  · intro d
    have := Int.dvd_sub (NT.g2_dvd (show 0 < csize r.c by omega) d) e
    rwa [show r.s * (i - j) - ((r.b + j * r.s) % csize r.c - (r.b + j * r.s)) = r.s * i - ((r.b + j * r.s) % csize r.c - r.b) by rw [Int.mul_sub, Int.mul_comm j]; omega] at this
/-- whether a serial shows a text whose least serial is told -/
def hitB (P : Int) (o : Option Int) (i : Int) : Bool := match o with | none => false | some t => decide (P ∣ i - t)
theorem hit_iff {r : Run} (h : r.Ok) {n : Int} {o : Option Int} (ho : NT.IsLF r.s (n - r.b) (csize r.c) o) (i : Int) : hitB (per r) o i = true ↔ tx r i = txS r.c n := by
  have hm := h.c.size
  rw [tx_iff h]
  cases o with
  | none => simpa [hitB] using ho i
  | some t =>
    simp only [hitB, decide_eq_true_eq]
    constructor
    · intro d
      have := Int.dvd_add (NT.g2_dvd (show 0 < csize r.c by omega) d) ho.2
      rwa [show r.s * (i - t) + (r.s * t - (n - r.b)) = r.s * i - (n - r.b) by rw [Int.mul_sub]; omega] at this
    · intro d
      exact NT.lf_uniq (by omega) d ho.2
theorem cnt_every {P t : Int} (hP : 0 < P) (t0 : 0 ≤ t) (t1 : t < P) : ∀ n : Nat, ((((List.range n).filter fun (i : Nat) => decide (P ∣ (i : Int) - t)).length : Nat) : Int) = (n - 1 - t) / P + 1
  | 0 => by
    have := (NT.div_eq (x := (0 : Int) - 1 - t) (q := -1) (r := P - 1 - t) hP (by omega) (by omega) (by omega)).1
    show (0 : Int) = ((0 : Nat) - 1 - t) / P + 1
    rw [show ((0 : Nat) : Int) - 1 - t = 0 - 1 - t from rfl, this]
    rfl
  | n + 1 => by
    have ih := cnt_every hP t0 t1 n
    rw [List.range_succ, List.filter_append, List.length_append]
    have e1 : ((n + 1 : Nat) : Int) - 1 - t = n - t := by omega
    rw [e1, Int.natCast_add, ih]
    by_cases c : P ∣ (n : Int) - t
    · obtain ⟨z, hz⟩ := c
      have a1 := (NT.div_eq (x := (n : Int) - t) (q := z) (r := 0) hP (by omega) (by omega) (by omega)).1
      have a2 := (NT.div_eq (x := (n : Int) - 1 - t) (q := z - 1) (r := P - 1) hP (by rw [Int.mul_sub]; omega) (by omega) (by omega)).1
      have : P ∣ (n : Int) - t := ⟨z, hz⟩
      simp [this]
      omega
    · have m := NT.mod_div ((n : Int) - t) P
      have m0 := Int.emod_nonneg ((n : Int) - t) (show P ≠ 0 by omega)
      have m1 := Int.emod_lt_of_pos ((n : Int) - t) hP
      have mz : ((n : Int) - t) % P ≠ 0 := fun z => c (Int.dvd_of_emod_eq_zero z)
      have a2 := (NT.div_eq (x := (n : Int) - 1 - t) (q := ((n : Int) - t) / P) (r := ((n : Int) - t) % P - 1) hP (by omega) (by omega) (by omega)).1
      simp [c]
      omega
/-- all labels of the first m serials -/
def lbs (r : Run) (m : Nat) : List Str := (List.range (m * r.k.toNat)).map fun (N : Nat) => tx r ((N : Int) / r.k)
theorem lbs_len (r : Run) (m : Nat) : (lbs r m).length = m * r.k.toNat := by simp [lbs]
theorem lbs_succ {r : Run} (h : 1 ≤ r.k) (m : Nat) : lbs r (m + 1) = lbs r m ++ List.replicate r.k.toNat (tx r m) := by
  unfold lbs
  rw [Nat.succ_mul, List.range_add, List.map_append, List.map_map]
  congr 1
  refine List.ext_getElem (by simp) fun i h1 h2 => ?_
  simp at h1
  simp
  congr 1
  have e : ((m : Int) * max r.k 0 + i) / r.k = m := (NT.div_eq (q := m) (r := i) (by omega) (by rw [show max r.k 0 = r.k by omega, Int.mul_comm]) (by omega) (by omega)).1
  rw [e]
theorem lbs_count {r : Run} (h : r.Ok) {n : Int} {o : Option Int} (ho : NT.IsLF r.s (n - r.b) (csize r.c) o) : ∀ m : Nat, ((((lbs r m).filter fun x => decide (x = txS r.c n)).length : Nat) : Int) = (((List.range m).filter fun (i : Nat) => hitB (per r) o i).length : Nat) * r.k
  | 0 => by simp [lbs]
  | m + 1 => by
    have hk := h.k
    rw [lbs_succ hk.1, List.filter_append, List.length_append, Int.natCast_add, lbs_count h ho m, List.range_succ, List.filter_append, List.length_append, Int.natCast_add, Int.add_mul]
    congr 1
    by_cases c : hitB (per r) o (m : Int) = true
    · have c2 := (hit_iff h ho m).1 c
      simp [c, c2]
      omega
    · have c2 : ¬ tx r m = txS r.c n := fun e => c ((hit_iff h ho m).2 e)
      simp [c, c2]
theorem filt_none {p : PyData → Bool} : ∀ {n : Nat} {lo : Int}, (∀ N, lo ≤ N → N < lo + n → p (.int N) = false) → (rangeD lo n).filter p = []
  | 0, lo, _ => rfl
  | n + 1, lo, h => by
    rw [rangeD_s, List.filter_cons, h lo (by omega) (by omega)]
    exact filt_none fun N a b => h N (by omega) (by omega)
theorem filt_ints (p : PyData → Bool) : ∀ (n : Nat) (lo : Int), ∃ ns : List Int, (rangeD lo n).filter p = ns.map .int
  | 0, lo => ⟨[], rfl⟩
  | n + 1, lo => by
    obtain ⟨ns, e⟩ := filt_ints p n (lo + 1)
    rw [rangeD_s, List.filter_cons, e]
    split
    · exact ⟨lo :: ns, rfl⟩
    · exact ⟨ns, rfl⟩
theorem filt_first {p : PyData → Bool} {N0 : Int} (hp : p (.int N0) = true) : ∀ {n : Nat} {lo : Int}, lo ≤ N0 → N0 < lo + n → (∀ N, lo ≤ N → N < N0 → p (.int N) = false) → ∃ ns : List Int, (rangeD lo n).filter p = (N0 :: ns).map .int
  | 0, lo, a, b, _ => absurd b (by omega)
  | n + 1, lo, a, b, h => by
    rw [rangeD_s, List.filter_cons]
    by_cases c : lo = N0
    · subst c
      obtain ⟨ns, e⟩ := filt_ints p n (lo + 1)
      rw [hp, e]
      exact ⟨ns, rfl⟩
    · rw [h lo (by omega) (by omega)]
      exact filt_first hp (by omega) (by omega) fun N x y => h N (by omega) y
theorem sh_run {r : Run} (h : r.Ok) : Sh (runD r) (5 * (4371 + 2) + 3) 2 := by
  have hM := h.c.size
  have hb := h.b
  have hs := h.s
  have hn := h.n
  have hk := h.k
  have si : ∀ i : Int, -(10 ^ 90) ≤ i → i ≤ 10 ^ 90 → Sh (.int i) 4371 1 := fun i a b => (sh_int (wb_s a b)).mono (by decide) (by decide)
  refine sh_tup (B := 4371) (n := 5) (fun d hd => ?_) (by simp)
  simp only [List.mem_cons, List.not_mem_nil, or_false] at hd
  rcases hd with rfl | rfl | rfl | rfl | rfl
  · exact sh_ctr h.c
  · exact si _ (by omega) (by omega)
  · exact si _ (by omega) (by omega)
  · exact si _ (by omega) (by omega)
  · exact si _ (by omega) (by omega)


/-! ### the gaps of a run -/
def roundI (r : Run) : Int := csize r.c / NT.g2 r.s (csize r.c)
/-- what the gaps of a run are -/
def GapsR (r : Run) (d : PyData) : Prop := ∃ a i c j A, GAP.Rs (roundI r) (r.s / NT.g2 r.s (csize r.c)) (min r.n (roundI r)) a i c j ∧ IsTally A ((GAP.row (min r.n (roundI r))).map fun k => NT.g2 r.s (csize r.c) * GAP.gk (min r.n (roundI r)) i j a c k) ∧ d = .tuple ((A.mergeSort leP).map pI)
/-- what is counted: each so often -/
def tal (u : Int) (ps : List (Int × Int)) : List Int := ps.flatMap fun p => List.replicate p.2.toNat (p.1 * u)
/-- the same, by the sorted places -/
def GapsL (r : Run) (d : PyData) : Prop := ∃ y0 l A, (y0 :: l).Pairwise (· < ·) ∧ (∀ x, x ∈ y0 :: l ↔ ∃ k, 0 ≤ k ∧ k < r.n ∧ x = GAP.pts (csize r.c) r.s r.b k) ∧ IsTally A (GAP.cycG (y0 + csize r.c) (y0 :: l)) ∧ d = .tuple ((A.mergeSort leP).map pI)
theorem gaps_same {r : Run} (h : r.Ok) {d e : PyData} (h1 : GapsR r d) (h2 : GapsL r e) : d = e := by
  obtain ⟨a, i, c, j, A, R, hA, rfl⟩ := h1
  obtain ⟨y0, l, B, hp, hl, hB, rfl⟩ := h2
  have hM := h.c.size
  have rg := GAP.rg_of (s := r.s) (M := csize r.c) (by omega)
  have pm := GAP.cyc_row (b := r.b) rg R hp (fun x => (hl x).trans (GAP.pts_min rg))
  rw [hA.perm hB pm.symm]
theorem nodup_sub {α : Type} [DecidableEq α] : ∀ {l m : List α}, l.Nodup → (∀ x ∈ l, x ∈ m) → l.length ≤ m.length
  | [], m, _, _ => Nat.zero_le _
  | x :: l, m, h, k => by
    obtain ⟨h1, h2⟩ := List.nodup_cons.1 h
    have hx := k x List.mem_cons_self
    have := nodup_sub (m := m.erase x) h2 fun y hy => by
      have ne : y ≠ x := fun e => h1 (e ▸ hy)
      exact (List.mem_erase_of_ne ne).2 (k y (List.mem_cons_of_mem _ hy))
    rw [List.length_erase_of_mem hx] at this
    have := List.length_pos_of_mem hx
    simp only [List.length_cons]
    omega
theorem tally_drop {g c : Int} {A : List (Int × Int)} {L : List Int} (h : IsTally ((g, c) :: A) L) : IsTally A (L.filter fun x => decide (x ≠ g)) ∧ c = L.count g := by
  obtain ⟨n1, n2⟩ := List.nodup_cons.1 h.nd
  have hc := ((h.iff g c).1 List.mem_cons_self).1
  refine ⟨⟨n2, fun k d => ?_⟩, hc⟩
  have e := h.iff k d
  rw [List.mem_cons, Prod.mk.injEq] at e
  by_cases kg : k = g
  · subst kg
    have : ¬ (k, d) ∈ A := fun z => n1 (List.mem_map.2 ⟨_, z, rfl⟩)
    have z : (L.filter fun x => decide (x ≠ k)).count k = 0 := List.count_eq_zero.2 (by simp)
    rw [z]
    simp [this]
    omega
  · have : (L.filter fun x => decide (x ≠ g)).count k = L.count k := List.count_filter (by simpa using kg)
    rw [this, ← e]
    simp [kg]
theorem sum_split (g : Int) : ∀ L : List Int, L.sum = (L.count g : Int) * g + (L.filter fun x => decide (x ≠ g)).sum
  | [] => by simp
  | x :: L => by
    have := sum_split g L
    by_cases e : x = g
    · subst e
      rw [List.count_cons_self, List.filter_cons_of_neg (by simp), List.sum_cons, this, show ((L.count x + 1 : Nat) : Int) = L.count x + 1 by omega, Int.add_mul]
      omega
    · rw [List.count_cons_of_ne e, List.filter_cons_of_pos (by simpa using e), List.sum_cons, List.sum_cons, this]
      omega
theorem len_split (g : Int) : ∀ L : List Int, (L.length : Int) = (L.count g : Int) + (L.filter fun x => decide (x ≠ g)).length
  | [] => by simp
  | x :: L => by
    have := len_split g L
    by_cases e : x = g
    · subst e
      rw [List.count_cons_self, List.filter_cons_of_neg (by simp), List.length_cons]
      omega
    · rw [List.count_cons_of_ne e, List.filter_cons_of_pos (by simpa using e), List.length_cons, List.length_cons]
      omega
theorem perm_sum {l m : List Int} (h : l.Perm m) : l.sum = m.sum := by
  induction h with
  | nil => rfl
  | cons x _ ih => rw [List.sum_cons, List.sum_cons, ih]
  | swap x y l => simp only [List.sum_cons]; omega
  | trans _ _ h1 h2 => exact h1.trans h2
theorem tally_nil {L : List Int} (h : IsTally [] L) : L = [] := by
  cases L with
  | nil => rfl
  | cons x L =>
    have := (h.iff x ((x :: L).count x)).2 ⟨rfl, by simp⟩
    simp at this
theorem tally_sum : ∀ {A : List (Int × Int)} {L : List Int}, IsTally A L → (A.map fun p => p.1 * p.2).sum = L.sum ∧ (A.map (·.2)).sum = L.length
  | [], L, h => by rw [tally_nil h]; simp
  | (g, c) :: A, L, h => by
    obtain ⟨h1, h2⟩ := tally_drop h
    obtain ⟨i1, i2⟩ := tally_sum h1
    have s := sum_split g L
    have t := len_split g L
    simp only [List.map_cons, List.sum_cons, i1, i2]
    subst h2
    rw [Int.mul_comm]
    omega
theorem sum_replicate (n : Nat) (x : Int) : (List.replicate n x).sum = n * x := by
  induction n with
  | zero => simp
  | succ n ih => rw [List.replicate_succ, List.sum_cons, ih, show ((n + 1 : Nat) : Int) = n + 1 by omega, Int.add_mul]; omega
/-- what the stated gaps are -/
structure GapsP (r : Run) (S : List (Int × Int)) : Prop where
  len : S.length ≤ 3
  sum : (S.map fun p => p.1 * p.2).sum = csize r.c
  many : (S.map (·.2)).sum = min r.n (roundI r)
  bd : ∀ p ∈ S, (0 ≤ p.1 ∧ p.1 ≤ csize r.c) ∧ 0 < p.2 ∧ p.2 ≤ csize r.c
  three : ∀ p q t, S = [p, q, t] → p.1 + q.1 = t.1
theorem gaps_props {r : Run} (h : r.Ok) {d : PyData} (h1 : GapsR r d) : ∃ S, d = .tuple (S.map pI) ∧ GapsP r S := by
  obtain ⟨a, i, c, j, A, R, hA, rfl⟩ := h1
  have hM := h.c.size
  have hn := h.n
  have rg := GAP.rg_of (s := r.s) (M := csize r.c) (by omega)
  have det := R.gi.det
  have ii := R.gi.i
  have ij := R.gi.j
  have ia := R.gi.a
  have ic := R.gi.b
  have R1 := R.hN
  have R2 := R.hi
  have R3 := R.hj
  have NP := R.NP
  have y1 : a * 1 ≤ a * j := Int.mul_le_mul_of_nonneg_left ij ia
  have y2 : c * 1 ≤ c * i := Int.mul_le_mul_of_nonneg_left ii (by omega)
  have hP : 0 < roundI r := rg.hP
  have eM : csize r.c = NT.g2 r.s (csize r.c) * roundI r := rg.eM
  have hu := rg.hu
  generalize hN : min r.n (roundI r) = N at *
  generalize hu2 : NT.g2 r.s (csize r.c) = u at *
  rw [GAP.row_gk R] at hA
  have pm : (A.mergeSort leP).Perm A := List.mergeSort_perm A leP
  obtain ⟨t1, t2⟩ := tally_sum hA
  have x0 : 0 ≤ u * a := Int.mul_nonneg (by omega) ia
  have x1 : 0 < u * c := Int.mul_pos hu (by omega)
  have x2 : u * (a + c) = u * a + u * c := Int.mul_add ..
  have x3 : u * (a + c) ≤ u * roundI r := Int.mul_le_mul_of_nonneg_left (by omega) (by omega)
  have mem : ∀ p ∈ A.mergeSort leP, (p.1 = u * a ∨ p.1 = u * (a + c) ∨ p.1 = u * c) ∧ 0 < p.2 ∧ p.2 ≤ N := fun p hp => by
    have hp := pm.mem_iff.1 hp
    obtain ⟨e1, e2⟩ := (hA.iff p.1 p.2).1 hp
    have e3 : p.1 ∈ List.replicate (N - i).toNat (u * a) ++ List.replicate (i + j - N).toNat (u * (a + c)) ++ List.replicate (N - j).toNat (u * c) := List.count_pos_iff.1 (by omega)
    have e4 := List.count_le_length (a := p.1) (l := List.replicate (N - i).toNat (u * a) ++ List.replicate (i + j - N).toNat (u * (a + c)) ++ List.replicate (N - j).toNat (u * c))
    simp only [List.length_append, List.length_replicate] at e4
    refine ⟨?_, e2, by omega⟩
    simp only [List.mem_append, List.mem_replicate] at e3
    rcases e3 with (e | e) | e
    · exact .inl e.2
    · exact .inr (.inl e.2)
    · exact .inr (.inr e.2)
  have nd : ((A.mergeSort leP).map (·.1)).Nodup := (pm.map _).nodup_iff.2 hA.nd
  refine ⟨A.mergeSort leP, rfl, ?_, ?_, ?_, fun p hp => ?_, fun p q t e => ?_⟩
  · have := nodup_sub (m := [u * a, u * (a + c), u * c]) nd fun x hx => by
      obtain ⟨p, hp, rfl⟩ := List.mem_map.1 hx
      have := (mem p hp).1
      simpa using this
    simpa using this
  · rw [perm_sum (pm.map _), t1, List.sum_append, List.sum_append, sum_replicate, sum_replicate, sum_replicate, eM, ← det]
    rw [show (((N - i).toNat : Nat) : Int) = N - i by omega, show (((i + j - N).toNat : Nat) : Int) = i + j - N by omega, show (((N - j).toNat : Nat) : Int) = N - j by omega]
    grind
  · rw [perm_sum (pm.map _), t2]
    simp only [List.length_append, List.length_replicate]
    omega
  · obtain ⟨e1, e2, e3⟩ := mem p hp
    have := Int.mul_le_mul_of_nonneg_right (show 1 ≤ u by omega) (show 0 ≤ roundI r by omega)
    rcases e1 with e1 | e1 | e1
    all_goals exact ⟨⟨by omega, by omega⟩, e2, by omega⟩
  · have ho : (A.mergeSort leP).Pairwise (fun a b => leP a b = true) := List.pairwise_mergeSort leP_trans leP_total A
    rw [e] at ho nd
    have m1 := (mem p (by rw [e]; simp)).1
    have m2 := (mem q (by rw [e]; simp)).1
    have m3 := (mem t (by rw [e]; simp)).1
    simp [leP] at ho nd
    obtain ⟨⟨o1, o2⟩, o3⟩ := ho
    obtain ⟨⟨n1, n2⟩, n3⟩ := nd
    have a1 : p.1 < q.1 := by omega
    have a2 : q.1 < t.1 := by omega
    clear o1 o2 o3 n1 n2 n3 t1 t2
    rcases m1 with m1 | m1 | m1 <;> rcases m2 with m2 | m2 | m2 <;> rcases m3 with m3 | m3 | m3 <;> omega
theorem sorted_ex : ∀ ns : List Int, ∃ ms : List Int, ms.Pairwise (· < ·) ∧ ∀ k, k ∈ ms ↔ k ∈ ns
  | [] => ⟨[], .nil, by simp⟩
  | x :: ns => by
    obtain ⟨ms, h1, h2⟩ := sorted_ex ns
    by_cases hx : x ∈ ms
    · refine ⟨ms, h1, fun k => ?_⟩
      rw [List.mem_cons, h2]
      constructor
      · exact .inr
      · rintro (e | e)
        · rw [e]; exact (h2 x).1 hx
        · exact e
    · have ins : ∀ ms : List Int, ms.Pairwise (· < ·) → x ∉ ms → ∃ m' : List Int, m'.Pairwise (· < ·) ∧ ∀ k, k ∈ m' ↔ k = x ∨ k ∈ ms := by
        intro ms
        induction ms with
        | nil => intro _ _; exact ⟨[x], by simp, by simp⟩
        | cons y ms ih =>
          intro hp hn
          obtain ⟨p1, p2⟩ := List.pairwise_cons.1 hp
          rw [List.mem_cons, not_or] at hn
          rcases Int.lt_or_le x y with c | c
          · refine ⟨x :: y :: ms, List.pairwise_cons.2 ⟨fun z hz => ?_, hp⟩, by simp⟩
            rcases List.mem_cons.1 hz with e | e
            · omega
            · have := p1 z e; omega
          · obtain ⟨m', a1, a2⟩ := ih p2 hn.2
            refine ⟨y :: m', List.pairwise_cons.2 ⟨fun z hz => ?_, a1⟩, fun k => ?_⟩
            · rcases (a2 z).1 hz with e | e
              · omega
              · exact p1 z e
            · rw [List.mem_cons, a2, List.mem_cons]
              constructor
              · rintro (e | e | e)
                · exact .inr (.inl e)
                · exact .inl e
                · exact .inr (.inr e)
              · rintro (e | e | e)
                · exact .inr (.inl e)
                · exact .inl e
                · exact .inr (.inr e)
      obtain ⟨m', a1, a2⟩ := ins ms h1 hx
      exact ⟨m', a1, fun k => by rw [a2, List.mem_cons, h2]⟩
theorem cyc_len (far : Int) : ∀ l, (GAP.cycG far l).length = l.length
  | [] => rfl
  | [y] => rfl
  | y :: z :: r => by simp [GAP.cycG, cyc_len far (z :: r)]
theorem cyc_get (far : Int) : ∀ (l : List Int) (k : Nat) (y z : Int), l[k]? = some y → (l ++ [far])[k + 1]? = some z → (GAP.cycG far l)[k]? = some (z - y)
  | [], k, y, z, h, _ => by simp at h
  | [x], 0, y, z, h1, h2 => by simp at h1 h2; simp [GAP.cycG, h1, h2]
  | [x], k + 1, y, z, h1, _ => by simp at h1
  | a :: b :: r, 0, y, z, h1, h2 => by simp at h1 h2; simp [GAP.cycG, h1, h2]
  | a :: b :: r, k + 1, y, z, h1, h2 => by
    have := cyc_get far (b :: r) k y z (by simpa using h1) (by simpa using h2)
    simpa [GAP.cycG] using this
theorem lookD_I (A : List (Int × Int)) (g : Int) : lookD (A.map fun p => (.int p.1, .int p.2)) (.int g) = (valP A g).map .int := by
  induction A with
  | nil => rfl
  | cons p A ih =>
    by_cases c : p.1 = g
    · simp [lookD, keyEq, valP, c]
    · have h2 : valP (p :: A) g = valP A g := by simp [valP, c]
      rw [h2, ← ih]
      simp [lookD, keyEq, c]

theorem rangeD_map (n : Nat) : rangeD 0 n = (List.range n).map fun (k : Nat) => PyData.int (k : Int) := by
  unfold rangeD
  refine List.map_congr_left fun k _ => ?_
  rw [Int.zero_add]
def sR (r : Run) (i : Int) : Int := (r.b + i * r.s) % csize r.c
def shL (r : Run) (n : Int) : List Int := (List.range n.toNat).map fun (k : Nat) => sR r k
def shF (r : Run) : PyData → PyData := fun d => match d with | .int k => .int (sR r k) | _ => .none
theorem shL_eq (r : Run) (n : Int) : [] ++ ((rangeD 0 n.toNat).filter fun _ => true).map (shF r) = (shL r n).map .int := by
  rw [rangeD_map, List.filter_eq_self.2 fun _ _ => rfl, List.nil_append, List.map_map, shL, List.map_map]
  rfl
def D81 : List Str := ["01", "abc", "wxyz", "10"]
theorem d81_ok : ∀ x ∈ D81, dialS x = true := by decide +kernel
theorem d81_len : ∀ x ∈ D81, x.length ≤ 4 := by decide +kernel
theorem csize_snoc (c : List Str) (x : Str) : csize (c ++ [x]) = csize c * x.length := by
  induction c with
  | nil => simp [csize]
  | cons y r ih => simp [csize, ih, Int.mul_assoc]
theorem txL_snoc {x : Str} (hx : 0 < x.length) : ∀ (c : List Str), (∀ y ∈ c, dialS y = true) → ∀ (n j : Nat), j < x.length → txL (c ++ [x]) ((n * x.length + j : Nat) : Int) = txL c n ++ [sgn x j]
  | [], _, n, j, hj => by
    have e : ((n * x.length + j : Nat) : Int) % (x.length : Int) = (j : Int) := by
      have : (n * x.length + j) % x.length = j := by rw [Nat.mul_comm, Nat.mul_add_mod]; exact Nat.mod_eq_of_lt hj
      omega
    have e2 : (j : Int) % (x.length : Int) = (j : Int) := Int.emod_eq_of_lt (by omega) (by omega)
    simp [txL, csize, e, e2]
  | y :: c, h, n, j, hj => by
    have ih := txL_snoc hx c (fun z hz => h z (List.mem_cons_of_mem _ hz)) n j hj
    have cp := csize_pos (c := c) fun z hz => h z (List.mem_cons_of_mem _ hz)
    have e1 : ((n * x.length + j : Nat) : Int) / csize (c ++ [x]) = (n : Int) / csize c := by
      rw [csize_snoc, Int.mul_comm, ← Int.ediv_ediv_of_nonneg (by omega)]
      have : (n * x.length + j) / x.length = n := by
        rw [Nat.mul_comm, Nat.mul_add_div hx, Nat.div_eq_of_lt hj, Nat.add_zero]
      rw [← Int.natCast_ediv, this]
    simp only [List.cons_append, txL, e1, ih]
def allT (c : List Str) : List Str := (List.range (csize c).toNat).map fun n : Nat => txS c n
theorem range_mul (f : Nat → Str) (b : Nat) : ∀ a : Nat, (List.range (a * b)).map f = (List.range a).flatMap fun i => (List.range b).map fun j => f (i * b + j)
  | 0 => by simp
  | a + 1 => by
    rw [Nat.succ_mul, List.range_add, List.map_append, range_mul f b a, List.range_succ, List.flatMap_append]
    simp [List.map_map, Function.comp_def]
theorem signs_range (x : Str) : (signsD x) = (List.range x.length).map fun j : Nat => PyData.str (sgS (sgn x j)) := by
  unfold signsD
  apply List.ext_getElem
  · simp [Str.length]
  · intro i h1 h2
    simp at h1
    simp [sgS, sgn, h1]
theorem allT_snoc {c : List Str} {x : Str} (h : ∀ y ∈ c, dialS y = true) (hx : 0 < x.length) : allT (c ++ [x]) = (allT c).flatMap fun t => (List.range x.length).map fun j : Nat => t ++ sgS (sgn x j) := by
  have cp := csize_pos h
  have e : (csize (c ++ [x])).toNat = (csize c).toNat * x.length := by
    rw [csize_snoc]
    have : csize c * (x.length : Int) = (((csize c).toNat * x.length : Nat) : Int) := by
      rw [Int.natCast_mul]
      congr
      omega
    omega
  unfold allT
  rw [e, range_mul, List.flatMap_map]
  congr
  funext n
  apply List.map_congr_left
  intro j hj
  have hj := List.mem_range.1 hj
  unfold txS
  rw [txL_snoc hx c h n j hj]
  apply congrArg Str.mk
  simp [sgS]
/-! ### one gap parted in two -/
theorem valP_putP {A : List (Int × Int)} (nd : (A.map (·.1)).Nodup) (g c h : Int) : valP (putP A g c) h = if h = g then some c else valP A h := by
  obtain ⟨n1, n2⟩ := putP_keys nd g c
  refine Option.ext fun d => ?_
  rw [valP_mem n1, n2]
  by_cases e : h = g
  · rw [if_pos e, if_pos e]; simp [eq_comm]
  · rw [if_neg e, if_neg e, valP_mem nd]
/-- A tells how often each number stands in L; it may tell of 0 too -/
structure Hs (A : List (Int × Int)) (L : List Int) : Prop where
  nd : (A.map (·.1)).Nodup
  val : ∀ g, (valP A g).getD 0 = L.count g
theorem IsTally.hs {A : List (Int × Int)} {L : List Int} (h : IsTally A L) : Hs A L := ⟨h.nd, h.val⟩
theorem Hs.put {A : List (Int × Int)} {L L' : List Int} (h : Hs A L) {g c : Int} (hc : c = L'.count g) (ho : ∀ k, k ≠ g → L'.count k = L.count k) : Hs (putP A g c) L' := by
  refine ⟨(putP_keys h.nd g c).1, fun k => ?_⟩
  rw [valP_putP h.nd]
  by_cases e : k = g
  · rw [if_pos e, e, ← hc]; rfl
  · rw [if_neg e, h.val, ho k e]
theorem Hs.pos {A : List (Int × Int)} {L : List Int} (h : Hs A L) : IsTally (A.filter fun p => decide (0 < p.2)) L := by
  refine ⟨(List.Sublist.map _ List.filter_sublist).nodup h.nd, fun g c => ?_⟩
  have v := h.val g
  rw [List.mem_filter, ← valP_mem h.nd]
  cases e : valP A g with
  | none => rw [e] at v; rw [← v]; simp; omega
  | some x => rw [e] at v; rw [← v]; simp; omega
theorem IsTally.perm1 {A : List (Int × Int)} {L L' : List Int} (h : IsTally A L) (p : L.Perm L') : IsTally A L' := ⟨h.nd, fun g c => by rw [h.iff, p.count_eq]⟩
theorem IsTally.perm2 {A B : List (Int × Int)} {L : List Int} (h : IsTally A L) (p : A.Perm B) : IsTally B L := ⟨(p.map _).nodup_iff.1 h.nd, fun g c => by rw [← p.mem_iff, h.iff]⟩
theorem IsTally.len2 {A B : List (Int × Int)} {L : List Int} (h : IsTally A L) (k : IsTally B L) : A.length = B.length := by
  have nd : ∀ {A : List (Int × Int)}, (A.map (·.1)).Nodup → A.Nodup := fun {A} h => (List.pairwise_map.1 h).imp fun hne e => hne (by rw [e])
  exact ((List.perm_ext_iff_of_nodup (nd h.nd) (nd k.nd)).2 fun ⟨g, c⟩ => by rw [h.iff, k.iff]).length_eq
theorem pairsD_I (A : List (Int × Int)) : pairsD (A.map pI) = some (dctI A) := by
  induction A with
  | nil => rfl
  | cons p A ih => simp [pairsD, pI, ih, dctI, keyD]
structure Prt (S S' : List (Int × Int)) (x y : Int) (L : List Int) : Prop where
  x1 : 1 ≤ x
  xy : x ≤ y
  h : IsTally S ((x + y) :: L)
  h' : IsTally S' (x :: y :: L)
  top : ∀ z ∈ L, z ≤ x + y
  len : S.length ≤ 3
  len' : S'.length ≤ 3
theorem gk_pos {M s P u s1 N a i c j k : Int} (r : GAP.Rg M s P u s1) (R : GAP.Rs P s1 N a i c j) (k0 : 0 ≤ k) (k1 : k < N) : 0 < GAP.gk N i j a c k := by
  have ha := R.gi.a
  have hc := R.gi.b
  have hi := R.gi.i
  unfold GAP.gk
  split
  · have := R.gi.a_pos r.cop (by have := R.NP; omega)
    omega
  · split <;> omega
theorem pI_inj {S T : List (Int × Int)} (h : S.map pI = T.map pI) : S = T := by
  refine (List.map_inj_right fun p q e => ?_).1 h
  simp [pI] at e
  exact Prod.ext e.1 e.2
/-- the gaps of a run, with what they are read from -/
structure GapsQ (r : Run) (S : List (Int × Int)) (a i c j : Int) : Prop where
  R : GAP.Rs (roundI r) (r.s / NT.g2 r.s (csize r.c)) (min r.n (roundI r)) a i c j
  t : IsTally S ((GAP.row (min r.n (roundI r))).map fun k => NT.g2 r.s (csize r.c) * GAP.gk (min r.n (roundI r)) i j a c k)
  p : GapsP r S
  asc : (S.map (·.1)).Pairwise (· < ·)
  one : ∀ p ∈ S, 1 ≤ p.1
  ne : S ≠ []
theorem gaps_more {r : Run} (h : r.Ok) {d : PyData} (h1 : GapsR r d) : ∃ S a i c j, d = .tuple (S.map pI) ∧ GapsQ r S a i c j := by
  obtain ⟨S2, e, hP⟩ := gaps_props h h1
  obtain ⟨a, i, c, j, A, R, hA, rfl⟩ := h1
  have hM := h.c.size
  have hn := h.n
  have rg := GAP.rg_of (s := r.s) (M := csize r.c) (by omega)
  have eS : A.mergeSort leP = S2 := pI_inj (by injection e)
  subst eS
  have pm : (A.mergeSort leP).Perm A := List.mergeSort_perm A leP
  have hS := hA.perm2 pm.symm
  refine ⟨_, a, i, c, j, rfl, R, hS, hP, ?_, fun p hp => ?_, fun z => ?_⟩
  · have ho : (A.mergeSort leP).Pairwise (fun a b => leP a b = true) := List.pairwise_mergeSort leP_trans leP_total A
    have nd := List.pairwise_map.1 hS.nd
    refine List.pairwise_map.2 ((ho.and nd).imp fun {p q} ⟨h1, h2⟩ => ?_)
    have : p.1 ≤ q.1 := by simp [leP] at h1; omega
    have h2 : p.1 ≠ q.1 := h2
    omega
  · obtain ⟨e1, e2⟩ := (hS.iff p.1 p.2).1 hp
    rw [e1] at e2
    obtain ⟨k, hk, e⟩ := List.mem_map.1 (List.count_pos_iff.1 (Int.natCast_pos.1 e2))
    obtain ⟨k0, k1⟩ := GAP.row_mem.1 hk
    have := Int.mul_pos rg.hu (gk_pos rg R k0 k1)
    omega
  · have := hP.sum
    rw [z] at this
    simp at this
    omega
theorem rows_same {M s P u s1 N a i c j a' i' c' j' : Int} (r : GAP.Rg M s P u s1) (R : GAP.Rs P s1 N a i c j) (R' : GAP.Rs P s1 N a' i' c' j') (hN : 1 ≤ N) : ((GAP.row N).map fun k => u * GAP.gk N i j a c k).Perm ((GAP.row N).map fun k => u * GAP.gk N i' j' a' c' k) := by
  obtain ⟨ms, m1, m2⟩ := sorted_ex ((GAP.row N).map (GAP.pts M s 0))
  have mem : ∀ x, x ∈ ms ↔ ∃ k, 0 ≤ k ∧ k < N ∧ x = GAP.pts M s 0 k := fun x => by
    rw [m2, List.mem_map]
    constructor
    · rintro ⟨k, hk, rfl⟩; obtain ⟨k0, k1⟩ := GAP.row_mem.1 hk; exact ⟨k, k0, k1, rfl⟩
    · rintro ⟨k, k0, k1, rfl⟩; exact ⟨k, GAP.row_mem.2 ⟨k0, k1⟩, rfl⟩
  cases ms with
  | nil =>
    have := (mem (GAP.pts M s 0 0)).2 ⟨0, by omega, by omega, rfl⟩
    simp at this
  | cons y0 l => exact (GAP.cyc_row r R m1 mem).symm.trans (GAP.cyc_row r R' m1 mem)
/-- the same gaps, read so that both parts serve one serial more -/
theorem rs_next {M s P u s1 N a i c j : Int} (r : GAP.Rg M s P u s1) (R : GAP.Rs P s1 N a i c j) (hN : N < P) : ∃ a' i' c' j', GAP.Rs P s1 N a' i' c' j' ∧ N < i' + j' := by
  have hi := R.gi.i
  have hj := R.gi.j
  have h1 := R.hN
  have h2 := R.hi
  have h3 := R.hj
  rcases Int.lt_or_le N (i + j) with z | z
  · exact ⟨a, i, c, j, R, z⟩
  have ne : a ≠ c := fun e => by
    have G := R.gi
    rw [e] at G
    have := G.same r.cop
    omega
  have ha := R.gi.a
  have hc := R.gi.b
  rcases Int.lt_or_le a c with z2 | z2
  · have G := R.gi.backward (t := 1) (by omega) (by omega)
    exact ⟨_, _, _, _, ⟨G, by omega, by omega, by omega, by omega⟩, by omega⟩
  · have G := R.gi.onward (t := 1) (by omega) (by omega)
    exact ⟨_, _, _, _, ⟨G, by omega, by omega, by omega, by omega⟩, by omega⟩
theorem rs_succ {P s1 N a i c j : Int} (R : GAP.Rs P s1 N a i c j) (hN : N < P) (h : N < i + j) : GAP.Rs P s1 (N + 1) a i c j :=
  ⟨R.gi, by omega, by have := R.hi; omega, by have := R.hj; omega, by omega⟩
theorem gaps_parted {r : Run} (h : r.Ok) (h' : r.n < 10 ^ 30) (hn : r.n < roundI r) {S S' : List (Int × Int)} {a i c j a' i' c' j' : Int} (h1 : GapsQ r S a i c j) (h2 : GapsQ { r with n := r.n + 1 } S' a' i' c' j') : ∃ x y L, Prt S S' x y L := by
  have hM := h.c.size
  have rn := h.n
  have rg := GAP.rg_of (s := r.s) (M := csize r.c) (by omega)
  have l1 := h1.p.len
  have l2 := h2.p.len
  have R := h1.R
  have t := h1.t
  have R2 := h2.R
  have t2 := h2.t
  have e2 : roundI { r with n := r.n + 1 } = roundI r := rfl
  rw [e2] at R2 t2
  change GAP.Rs (roundI r) (r.s / NT.g2 r.s (csize r.c)) (min (r.n + 1) (roundI r)) a' i' c' j' at R2
  change IsTally S' ((GAP.row (min (r.n + 1) (roundI r))).map fun k => NT.g2 r.s (csize r.c) * GAP.gk (min (r.n + 1) (roundI r)) i' j' a' c' k) at t2
  rw [show min r.n (roundI r) = r.n by omega] at R t
  rw [show min (r.n + 1) (roundI r) = r.n + 1 by omega] at R2 t2
  obtain ⟨a1, i1, c1, j1, R1, lt⟩ := rs_next rg R hn
  have R3 := rs_succ R1 hn lt
  have p1 := t.perm1 (rows_same rg R R1 (by omega))
  have p2 := t2.perm1 (rows_same rg R2 R3 (by omega))
  rw [GAP.row_gk R1] at p1
  rw [GAP.row_gk R3] at p2
  have hu := rg.hu
  have ha := R1.gi.a_pos rg.cop (by have := R1.hi; change i1 < roundI r; omega)
  have hc := R1.gi.b
  have q1 := R1.hi
  have q2 := R1.hj
  clear t t2 R R2 R3 h1 h2
  generalize NT.g2 r.s (csize r.c) = u at *
  generalize r.n = N at *
  have ua : 0 < u * a1 := Int.mul_pos hu (by omega)
  have uc : 0 < u * c1 := Int.mul_pos hu (by omega)
  have us : u * (a1 + c1) = u * a1 + u * c1 := Int.mul_add ..
  rw [us] at p1 p2
  rw [show (N + 1 - i1).toNat = (N - i1).toNat + 1 by omega, show (N + 1 - j1).toNat = (N - j1).toNat + 1 by omega, show i1 + j1 - (N + 1) = i1 + j1 - N - 1 by omega] at p2
  rw [show (i1 + j1 - N).toNat = (i1 + j1 - N - 1).toNat + 1 by omega] at p1
  generalize (N - i1).toNat = ka at *
  generalize (N - j1).toNat = kc at *
  generalize (i1 + j1 - N - 1).toNat = kt at *
  rw [List.replicate_succ] at p1
  rw [List.replicate_succ, List.replicate_succ] at p2
  generalize u * a1 = x at *
  generalize u * c1 = y at *
  have pm1 : (List.replicate ka x ++ ((x + y) :: List.replicate kt (x + y)) ++ List.replicate kc y).Perm ((x + y) :: (List.replicate ka x ++ List.replicate kt (x + y) ++ List.replicate kc y)) := by
    rw [List.append_assoc, List.append_assoc]
    exact List.perm_middle
  have pm2 : ((x :: List.replicate ka x) ++ List.replicate kt (x + y) ++ (y :: List.replicate kc y)).Perm (x :: y :: (List.replicate ka x ++ List.replicate kt (x + y) ++ List.replicate kc y)) := by
    rw [List.cons_append, List.cons_append]
    exact List.Perm.cons _ List.perm_middle
  have top : ∀ z ∈ List.replicate ka x ++ List.replicate kt (x + y) ++ List.replicate kc y, z ≤ x + y := fun z hz => by
    simp only [List.mem_append, List.mem_replicate] at hz
    rcases hz with (e | e) | e <;> omega
  rcases Int.le_total x y with z | z
  · exact ⟨x, y, _, by omega, z, p1.perm1 pm1, p2.perm1 pm2, top, l1, l2⟩
  · exact ⟨y, x, _, by omega, z, by rw [Int.add_comm y x]; exact p1.perm1 pm1, p2.perm1 (pm2.trans (List.Perm.swap y x _)), fun w hw => by have := top w hw; omega, l1, l2⟩
theorem gaps_still {r : Run} (h : r.Ok) (hn : roundI r ≤ r.n) {d d' : PyData} (h1 : GapsR r d) (h2 : GapsR { r with n := r.n + 1 } d') : d' = d := by
  have hM := h.c.size
  have rg := GAP.rg_of (s := r.s) (M := csize r.c) (by omega)
  obtain ⟨a, i, c, j, A, R, hA, rfl⟩ := h1
  obtain ⟨a', i', c', j', B, R', hB, rfl⟩ := h2
  have e2 : roundI { r with n := r.n + 1 } = roundI r := rfl
  rw [e2] at R' hB
  change GAP.Rs (roundI r) (r.s / NT.g2 r.s (csize r.c)) (min (r.n + 1) (roundI r)) a' i' c' j' at R'
  change IsTally B ((GAP.row (min (r.n + 1) (roundI r))).map fun k => NT.g2 r.s (csize r.c) * GAP.gk (min (r.n + 1) (roundI r)) i' j' a' c' k) at hB
  rw [show min r.n (roundI r) = roundI r by omega] at R hA
  rw [show min (r.n + 1) (roundI r) = roundI r by omega] at R' hB
  have hP : 0 < roundI r := rg.hP
  rw [hB.perm hA (rows_same rg R' R (by omega))]
theorem shown_gaps {r : Run} {S : List (Int × Int)} (P : GapsP r S) (hM : csize r.c ≤ 10 ^ 19) : Shown (.tuple (S.map pI)) := by
  have h : ∀ d ∈ S.map pI, Sh d _ _ := fun d hd => by
    obtain ⟨p, hp, rfl⟩ := List.mem_map.1 hd
    obtain ⟨⟨b1, b2⟩, b3, b4⟩ := P.bd p hp
    exact sh_tup (n := 2) (fun e he => by
      simp only [List.mem_cons, List.not_mem_nil, or_false] at he
      rcases he with rfl | rfl
      · exact sh_int (wb_s (by omega) (by omega))
      · exact sh_int (wb_s (by omega) (by omega))) (by simp)
  exact ⟨_, _, sh_tup (n := 3) h (by simpa using P.len), by decide, by decide⟩

end TL
namespace TL
open PySem PySem.Spec PyProof.Rows L2 RZ

abbrev n__law_begun : List Str := ["script", "some", "cell"]

end TL
namespace TL
open PySem PySem.Spec PyProof.Rows L2 RZ

abbrev n__law_mix : List Str := ["cell", "spot", "first", "second"]

end TL
namespace TL
open PySem PySem.Spec PyProof.Rows L2 RZ

abbrev n__law_draw : List Str := ["m", "limit", "spot", "here", "left"]
abbrev pt__law_draw : PT' := ptNextD
abbrev pt__law_draw_mo := @ptNextD_mo

end TL
namespace TL
open PySem PySem.Spec PyProof.Rows L2 RZ

abbrev n__law_counter : List Str := ["m", "dials", "some", "dial", "longer", "text", "k", "sign"]
def lp__law_counter_0 : TSt := (xAsg (xBin (xVar 4) (xComp (xiSeq (xVar 3)) (yName 7) xYes (xBin (xVar 5) (xVar 7) oAdd) [7]) oAdd) (yName 4))
def lp__law_counter_1 : TSt := (xSeq (xAsg (xLst xaNil) (yName 4))
    (xSeq (xFor (xiSeq (xVar 2)) (yName 5)
    lp__law_counter_0)
    (xAsg (xVar 4) (yName 2))))
def tb__law_counter : TSt := (xSeq (xAsg (xCB (xaCons (xComp (xiRng1 (xaCons (xBin (xC (.int 1)) (xCall (xaTok 0 (xaCons (xC (.int 3)) xaNil)) pt__law_draw) oAdd) xaNil)) (yName 6) xYes (xBin (xLst (xaCons (xC (.str "01")) (xaCons (xC (.str "abc")) (xaCons (xC (.str "wxyz")) (xaCons (xC (.str "10")) xaNil))))) (xCall (xaTok 0 (xaCons (xC (.int 4)) xaNil)) pt__law_draw) oIx) [6]) xaNil) cTup) (yName 1))
    (xSeq (xAsg (xLst (xaCons (xC (.str "")) xaNil)) (yName 2))
    (xSeq (xFor (xiSeq (xVar 1)) (yName 3)
    lp__law_counter_1)
    (xRet (xTup (xaCons (xVar 1) (xaCons (xVar 2) xaNil)))))))
abbrev pt__law_counter : PT' := ptG (fun _ : Unit => [.tok]) (fun _ => True) (fun _ => 4) fun _ d => ∃ c, Ctr c ∧ (c.length ≤ 3 ∧ ∀ x ∈ c, x ∈ D81) ∧ d = .tuple [cD c, .list ((allT c).map .str)]
abbrev pt__law_counter_mo := @ptG_mo _ (fun _ : Unit => [.tok]) (fun _ => True) (fun _ => 4) fun _ d => ∃ c, Ctr c ∧ (c.length ≤ 3 ∧ ∀ x ∈ c, x ∈ D81) ∧ d = .tuple [cD c, .list ((allT c).map .str)]
theorem sp__law_counter : ∀ ss g Q, ss.length = 1 → pt__law_counter ss g Q → tb__law_counter { nx := fun _ g' => Q .none g', rt := Q } (envOf n__law_counter ss) g := by
  rintro ss g Q _ ⟨_, rfl, -, hg, q⟩
  have hg : 4 ≤ g := hg
  have q : ∀ d g', (∃ c, Ctr c ∧ (c.length ≤ 3 ∧ ∀ x ∈ c, x ∈ D81) ∧ d = .tuple [cD c, .list ((allT c).map .str)]) → g ≤ g' + 4 → Q d g' := q
  have sz : (4000 : Nat) ≤ sizeLine := by decide +kernel
  simp [tb__law_counter, and_assoc, -forT, -compT]
  refine next_ofD (by omega) (wb_s (by omega) (by omega)) (by omega) fun k k0 k1 => ?_
  simp [-forT, -compT]
  refine ⟨by omega, by omega, by omega, ?_⟩
  refine compT_all (c := 1) (R := fun _ z => ∃ x, x ∈ D81 ∧ z = .str x) _ _ _ _ _ (by rw [rangeD_len]; omega) (fun d hd g _ k1 k2 hk1 => ?_) fun l g' hl hg' => ?_
  · simp [-forT, -compT]
    refine ⟨by omega, next_ofD (by omega) (wb_s (by omega) (by omega)) (by omega) fun j j0 j1 => ?_⟩
    have hj : j = 0 ∨ j = 1 ∨ j = 2 ∨ j = 3 := by omega
    rcases hj with rfl | rfl | rfl | rfl
    all_goals simp
    · exact hk1 _ _ ⟨"01", by decide, rfl⟩ (by omega)
    · exact hk1 _ _ ⟨"abc", by decide, rfl⟩ (by omega)
    · exact hk1 _ _ ⟨"wxyz", by decide, rfl⟩ (by omega)
    · exact hk1 _ _ ⟨"10", by decide, rfl⟩ (by omega)
  have ofl : ∀ (ds l : List PyData), Rel2 (fun _ z => ∃ x, x ∈ D81 ∧ z = .str x) ds l → ∃ c : List Str, l = c.map .str ∧ c.length = ds.length ∧ ∀ x ∈ c, x ∈ D81 := by
    intro ds l h
    induction h with
    | nil => exact ⟨[], rfl, rfl, by simp⟩
    | cons h _ ih =>
      obtain ⟨x, hx, rfl⟩ := h
      obtain ⟨c, rfl, e, hc⟩ := ih
      exact ⟨x :: c, rfl, by simp [e], fun y hy => by
        rcases List.mem_cons.1 hy with rfl | hy
        · exact hx
        · exact hc y hy⟩
  obtain ⟨c, rfl, lc, hc⟩ := ofl _ _ hl
  rw [rangeD_len] at lc hg'
  have dl : ∀ x ∈ c, dialS x = true := fun x hx => d81_ok x (hc x hx)
  have hC : Ctr c := ⟨by omega, dl⟩
  simp [-forT]
  refine ⟨by omega, ?_⟩
  have bd : ∀ c : List Str, (∀ x ∈ c, x ∈ D81) → csize c ≤ 4 ^ c.length := by
    intro c
    induction c with
    | nil => intro _; simp [csize]
    | cons x r ih =>
      intro h
      have h1 := d81_len x (h x List.mem_cons_self)
      have h2 := ih fun y hy => h y (List.mem_cons_of_mem _ hy)
      have h3 := csize_pos (c := r) fun y hy => d81_ok y (h y (List.mem_cons_of_mem _ hy))
      have : (x.length : Int) * csize r ≤ 4 * 4 ^ r.length := Int.mul_le_mul (by omega) h2 (by omega) (by omega)
      simp only [csize, List.length_cons, Int.pow_succ]
      omega
  refine forT_suf (g := g') (fun ds E => ∃ (pre suf : List Str) (e3 e4 e5 e6 e7 : S), c = pre ++ suf ∧ ds = suf.map .str ∧ E = [S.tok, S.v (cD c), S.v (.list ((allT pre).map .str)), e3, e4, e5, e6, e7]) _ _ ?_ (fun d rr E hI hh hq => ?_) fun E hI => ?_
  · exact ⟨[], c, _, _, _, _, _, rfl, rfl, rfl⟩
  · obtain ⟨pre, suf, e3, e4, e5, e6, e7, e, ed, rfl⟩ := hI
    cases suf with
    | nil => cases ed
    | cons x suf =>
    simp only [List.map_cons, List.cons.injEq] at ed
    obtain ⟨rfl, rfl⟩ := ed
    simp [lp__law_counter_1, -forT]
    have hx : x ∈ D81 := hc x (by rw [e]; simp)
    have hpre : ∀ y ∈ pre, dialS y = true := fun y hy => dl y (by rw [e]; simp [hy])
    have dx := dial_len (dl x (by rw [e]; simp))
    have x4 := d81_len x hx
    have tot := allT_snoc hpre (x := x) (by omega)
    have lt : ∀ t ∈ allT pre, t.length ≤ 3 := fun t ht => by
      obtain ⟨n, _, rfl⟩ := List.mem_map.1 ht
      rw [txS_len]
      have := congrArg List.length e
      simp at this
      omega
    have lT : ((allT (pre ++ [x])).length : Int) ≤ 64 := by
      have h1 := bd (pre ++ [x]) fun y hy => hc y (by rw [e]; simp at hy ⊢; rcases hy with h | h <;> simp [h])
      have h2 : (pre ++ [x]).length ≤ 3 := by
        have := congrArg List.length e
        simp at this ⊢
        omega
      have h3 : (4 : Int) ^ (pre ++ [x]).length ≤ 4 ^ 3 := by
        have : (4 : Nat) ^ (pre ++ [x]).length ≤ 4 ^ 3 := Nat.pow_le_pow_right (by decide) h2
        have e2 : ((4 ^ (pre ++ [x]).length : Nat) : Int) = (4 : Int) ^ (pre ++ [x]).length := by simp
        omega
      unfold allT
      simp only [List.length_map, List.length_range]
      omega
    rw [tot] at lT
    refine forT_suf (g := g') (fun ds E => ∃ (L R : List Str) (e5 e6 e7 : S), ds = R.map .str ∧ (∀ t ∈ R, t.length ≤ 3) ∧ L ++ (R.flatMap fun t => (List.range x.length).map fun j : Nat => t ++ sgS (sgn x j)) = (allT pre).flatMap (fun t => (List.range x.length).map fun j : Nat => t ++ sgS (sgn x j)) ∧ E = [S.tok, S.v (cD c), S.v (.list ((allT pre).map .str)), S.v (.str x), S.v (.list (L.map .str)), e5, e6, e7]) _ _ ⟨[], allT pre, _, _, _, rfl, lt, rfl, rfl⟩ (fun d2 rr2 E2 hI2 hh2 hq2 => ?_) fun E2 hI2 => ?_
    · obtain ⟨L, R, e5', e6', e7', ed, hR, eq, rfl⟩ := hI2
      cases R with
      | nil => cases ed
      | cons t R =>
      simp only [List.map_cons, List.cons.injEq] at ed
      obtain ⟨rfl, rfl⟩ := ed
      simp [lp__law_counter_0, -compT]
      have lsg := signs_range x
      have lt := hR t List.mem_cons_self
      have lsn : (signsD x).length = x.length := by rw [lsg]; simp
      refine ⟨by omega, ?_⟩
      refine compT_pure (p := fun _ => true) (f := fun d => match d with | .str s => .str (t ++ s) | _ => .none) _ _ _ _ _ (fun d hd k1 k2 hk1 hk2 => ?_) ?_
      · rw [lsg] at hd
        obtain ⟨j, hj, rfl⟩ := List.mem_map.1 hd
        simp
        exact ⟨by simp [sgS, Str.length]; simp [Str.length] at lt; omega, hk1 rfl⟩
      rw [List.nil_append, List.filter_eq_self.2 fun _ _ => rfl, lsg, List.map_map]
      have lL : L.length ≤ 64 := by
        have := congrArg List.length eq
        rw [List.length_append] at this
        omega
      refine ⟨by simp; omega, ?_⟩
      refine hq2 _ ⟨L ++ (List.range x.length).map fun j : Nat => t ++ sgS (sgn x j), R, S.v (.str t), e6', e7', rfl, fun y hy => hR y (List.mem_cons_of_mem _ hy), ?_, by simp [List.map_map, Function.comp_def]⟩
      rw [← eq, List.flatMap_cons, List.append_assoc]
    · obtain ⟨L, R, e5', e6', e7', ed, hR, eq, rfl⟩ := hI2
      have eR : R = [] := by
        cases R with
        | nil => rfl
        | cons _ _ => cases ed
      subst eR
      simp at eq
      subst eq
      rw [← tot]
      simp
      exact hq _ ⟨pre ++ [x], suf, _, _, _, _, _, by simp [e], rfl, rfl⟩
  · obtain ⟨pre, suf, e3, e4, e5, e6, e7, e, ed, rfl⟩ := hI
    have es : suf = [] := by
      cases suf with
      | nil => rfl
      | cons _ _ => cases ed
    subst es
    rw [List.append_nil] at e
    subst e
    simp
    exact ⟨by omega, q _ _ ⟨c, hC, ⟨by omega, hc⟩, rfl⟩ (by omega)⟩
end TL
namespace TL
open PySem PySem.Spec PyProof.Rows L2 RZ

abbrev n__law_run : List Str := ["m", "counter_so", "total"]
def tb__law_run : TSt := (xRet (xTup (xaCons (xVar 1) (xaCons (xCall (xaTok 0 (xaCons (xVar 2) xaNil)) pt__law_draw) (xaCons (xBin (xCall (xaTok 0 (xaCons (xC (.int 81)) xaNil)) pt__law_draw) (xC (.int 40)) oSub) (xaCons (xBin (xC (.int 1)) (xCall (xaTok 0 (xaCons (xC (.int 60)) xaNil)) pt__law_draw) oAdd) (xaCons (xBin (xC (.int 1)) (xCall (xaTok 0 (xaCons (xC (.int 3)) xaNil)) pt__law_draw) oAdd) xaNil)))))))
abbrev pt__law_run : PT' := ptG (fun a : List Str => [.tok, .v (cD a), .v (.int (csize a))]) (fun a => Ctr a) (fun _ => 4) fun a d => ∃ r : Run, r.Ok ∧ r.c = a ∧ r.n ≤ 60 ∧ r.k ≤ 3 ∧ (-40 ≤ r.s ∧ r.s ≤ 40) ∧ d = runD r
abbrev pt__law_run_mo := @ptG_mo _ (fun a : List Str => [.tok, .v (cD a), .v (.int (csize a))]) (fun a => Ctr a) (fun _ => 4) fun a d => ∃ r : Run, r.Ok ∧ r.c = a ∧ r.n ≤ 60 ∧ r.k ≤ 3 ∧ (-40 ≤ r.s ∧ r.s ≤ 40) ∧ d = runD r
theorem sp__law_run : ∀ ss g Q, ss.length = 3 → pt__law_run ss g Q → tb__law_run { nx := fun _ g' => Q .none g', rt := Q } (envOf n__law_run ss) g := by
  rintro ss g Q _ ⟨c, rfl, hc, hg, q⟩
  have hc : Ctr c := hc
  have hg : 4 ≤ g := hg
  have q : ∀ d g', (∃ r : Run, r.Ok ∧ r.c = c ∧ r.n ≤ 60 ∧ r.k ≤ 3 ∧ (-40 ≤ r.s ∧ r.s ≤ 40) ∧ d = runD r) → g ≤ g' + 4 → Q d g' := q
  have hs := hc.size
  simp [tb__law_run]
  refine next_ofD (by omega) (wb_s (by omega) (by omega)) (by omega) fun b b0 b1 => ?_
  try simp
  refine next_ofD (by omega) (wb_s (by omega) (by omega)) (by omega) fun s s0 s1 => ?_
  try simp
  refine next_ofD (by omega) (wb_s (by omega) (by omega)) (by omega) fun n n0 n1 => ?_
  try simp
  refine next_ofD (by omega) (wb_s (by omega) (by omega)) (by omega) fun k k0 k1 => ?_
  try simp
  have sz : (4000 : Nat) ≤ sizeLine := by decide +kernel
  exact ⟨by omega, q _ _ ⟨⟨c, b, s - 40, 1 + n, 1 + k⟩, ⟨hc, ⟨b0, b1⟩, ⟨by show _ ≤ s - 40; omega, by show s - 40 ≤ _; omega⟩, ⟨by show 1 ≤ 1 + n; omega, by show 1 + n ≤ _; omega⟩, ⟨by show 1 ≤ 1 + k; omega, by show 1 + k ≤ _; omega⟩⟩, rfl, by show 1 + n ≤ 60; omega, by show 1 + k ≤ 3; omega, ⟨by show -40 ≤ s - 40; omega, by show s - 40 ≤ 40; omega⟩, rfl⟩ (by omega)⟩
end TL
namespace TL
open PySem PySem.Spec PyProof.Rows L2 RZ

abbrev n_is_dial : List Str := ["value", "sign"]
def tb_is_dial : TSt := (xSeq (xIfS (xOr (xNot (xTest (xIsi "str" (xVar 0)))) (xOr (xNot (xTest (xChain (xC (.int 2)) (xCB (xaCons (xVar 0) xaNil) cLen) (xC (.int 36)) oLe2 oLe2))) (xTest (xBin (xLenSetS (xVar 0)) (xCB (xaCons (xVar 0) xaNil) cLen) oLt2))))
    (xRet (xC (.bool false)))
    xNext)
    (xRet (xCB (xaCons (xComp (xiSeq (xVar 0)) (yName 1) xYes (xAndV (xChain (xC (.str "!")) (xVar 1) (xC (.str "~")) oLe2 oLe2) (xBin (xCB (xaCons (xVar 1) xaNil) cOrd) (xC (.int 37)) oNe)) [1]) xaNil) cAll)))
abbrev pt_is_dial : PT' := ptA (fun a : PyData => [.v a]) (fun a => ∀ x, a = .str x → x.length ≤ sizeLine) fun a => .bool (isDialD a)
abbrev pt_is_dial_mo := @ptA_mo _ (fun a : PyData => [.v a]) (fun a => ∀ x, a = .str x → x.length ≤ sizeLine) fun a => .bool (isDialD a)
theorem filter_tt' {α : Type} (l : List α) : l.filter (fun _ => true) = l := List.filter_eq_self.2 fun _ _ => rfl
theorem bang : (Str.ofString "!").cps.toList = [33] := by decide +kernel
theorem tilde : (Str.ofString "~").cps.toList = [126] := by decide +kernel
theorem signsS_nodup (x : Str) : (signsS x).Nodup ↔ x.cps.toList.Nodup := by
  unfold signsS
  generalize x.cps.toList = l
  have inj : ∀ a b : Nat, (⟨#[a]⟩ : Str) = ⟨#[b]⟩ → a = b := fun a b e => by
    injection e with e1
    have := congrArg Array.toList e1
    simpa using this
  induction l with
  | nil => simp
  | cons c r ih =>
    rw [List.map_cons, List.nodup_cons, List.nodup_cons]
    refine and_congr (not_congr ?_) ih
    rw [List.mem_map]
    exact ⟨fun ⟨b, hb, e⟩ => (inj _ _ e) ▸ hb, fun h => ⟨c, h, rfl⟩⟩
theorem dial_ded {x : Str} : ((ded (signsS x)).length < x.length) ↔ ¬ x.cps.toList.Nodup := by
  have hl : (signsS x).length = x.length := by unfold signsS; simp; rfl
  by_cases h : x.cps.toList.Nodup
  · rw [ded_nodup ((signsS_nodup x).2 h), hl]
    simp [h]
  · have := ded_lt (fun k => h ((signsS_nodup x).1 k))
    rw [hl] at this
    exact ⟨fun _ => h, fun _ => this⟩
theorem sign_lo (c : Nat) : (decide ((⟨#[c]⟩ : Str).cps.toList < (Str.ofString "!").cps.toList)) = decide (c < 33) := by
  rw [bang, decide_eq_decide]
  show [c] < [33] ↔ c < 33
  rw [List.cons_lt_cons_iff]
  constructor
  · rintro (h | ⟨_, h⟩)
    · exact h
    · exact absurd h (List.not_lt_nil _)
  · exact .inl
theorem sign_hi (c : Nat) : (decide ((Str.ofString "~").cps.toList < (⟨#[c]⟩ : Str).cps.toList)) = decide (126 < c) := by
  rw [tilde, decide_eq_decide]
  show [126] < [c] ↔ 126 < c
  rw [List.cons_lt_cons_iff]
  constructor
  · rintro (h | ⟨_, h⟩)
    · exact h
    · exact absurd h (List.not_lt_nil _)
  · exact .inl
theorem sp_is_dial : ∀ ss g Q, ss.length = 1 → pt_is_dial ss g Q → tb_is_dial { nx := fun _ g' => Q .none g', rt := Q } (envOf n_is_dial ss) g := by
  rintro ss g Q _ ⟨d, rfl, hp, q⟩
  have q : Q (.bool (isDialD d)) g := q
  cases d with
  | str x =>
    have hl : x.length ≤ sizeLine := hp x rfl
    have q : Q (.bool (dialS x)) g := q
    simp [tb_is_dial, and_assoc, hl, -compT]
    have sz : (4000 : Nat) ≤ sizeLine := by decide +kernel
    have nl : (signsD x).length = x.length := by unfold signsD; simp; rfl
    by_cases c1 : x.length < 2
    · have e : dialS x = false := by simp [dialS, show ¬ 2 ≤ x.length by omega]
      rw [e] at q
      exact .inl ⟨by omega, q⟩
    refine .inr ⟨by omega, ?_⟩
    by_cases c2 : 36 < x.length
    · have e : dialS x = false := by simp [dialS, show ¬ x.length ≤ 36 by omega]
      rw [e] at q
      exact .inl ⟨by omega, q⟩
    refine .inr ⟨by omega, by omega, ?_⟩
    by_cases c3 : x.cps.toList.Nodup
    · left
      have := mt dial_ded.1 (fun h => h c3)
      refine ⟨by omega, by omega, ?_⟩
      refine compT_pure (p := fun _ => true) (f := fun d => match d with | .str y => .bool (decide (33 ≤ y.cps.getD 0 0) && (decide (y.cps.getD 0 0 ≤ 126) && decide (y.cps.getD 0 0 ≠ 37))) | _ => .none) _ _ _ _ _ (fun d hd k1 k2 hk1 hk2 => ?_) ?_
      · obtain ⟨c, hc, rfl⟩ := List.mem_map.1 hd
        have hk := hk1 rfl
        simp at hk
        have l1 : (⟨#[c]⟩ : Str).length = 1 := rfl
        have sl := sign_lo c
        have sh := sign_hi c
        simp only [yName, xYes, xAndV, xTest, xChain, xC, xVar, oLe2, xBin]
        refine ⟨_, rfl, ?_⟩
        simp only [oLe2_ss, sl, sh]
        have e37 : (!((c : Int) == 37)) = !decide (c = 37) := by
          by_cases h : c = 37
          · subst h; rfl
          · simp [h, show ¬ (c : Int) = 37 by omega]
        by_cases h1 : c < 33
        · have h1' : ¬ 33 ≤ c := by omega
          simp [h1, h1'] at hk ⊢
          exact hk
        · have h1' : 33 ≤ c := by omega
          by_cases h2 : 126 < c
          · have h2' : ¬ c ≤ 126 := by omega
            simp [h1, h1', h2, h2'] at hk ⊢
            exact hk
          · have h2' : c ≤ 126 := by omega
            simp [h1, h1', h2, h2', l1, e37] at hk ⊢
            exact hk
      · rw [List.nil_append, filter_tt']
        have e : (signsD x).map (fun d => match d with | .str y => PyData.bool (decide (33 ≤ y.cps.getD 0 0) && (decide (y.cps.getD 0 0 ≤ 126) && decide (y.cps.getD 0 0 ≠ 37))) | _ => .none) = x.cps.toList.map fun c => .bool (decide (33 ≤ c) && (decide (c ≤ 126) && decide (c ≠ 37))) := by
          unfold signsD
          rw [List.map_map]
          exact List.map_congr_left fun c _ => by simp
        rw [e, bools_map]
        refine ⟨_, rfl, ?_⟩
        have e2 : dialS x = (x.cps.toList.map fun c => (decide (33 ≤ c) && (decide (c ≤ 126) && decide (c ≠ 37)))).all id := by
          simp [dialS, c3, show 2 ≤ x.length by omega, show x.length ≤ 36 by omega, List.all_map, Function.comp_def]
        rw [← e2]
        exact q
    · right
      have e : dialS x = false := by simp [dialS, c3]
      rw [e] at q
      exact ⟨dial_ded.2 c3, q⟩
  | _ => simpa [tb_is_dial, ptA, and_assoc, isDialD] using q
end TL
namespace TL
open PySem PySem.Spec PyProof.Rows L2 RZ

abbrev n_need_counter : List Str := ["thing", "number", "dial"]
def lp_need_counter_0 : TSt := (xIfS (xNot (xTest (xCall (xaCons (xVar 2) xaNil) pt_is_dial)))
    xNever
    xNext)
def tb_need_counter : TSt := (xSeq (xIfS (xOr (xNot (xTest (xIsi "tuple" (xVar 0)))) (xNot (xTest (xChain (xC (.int 1)) (xCB (xaCons (xVar 0) xaNil) cLen) (xC (.int 12)) oLe2 oLe2))))
    xNever
    xNext)
    (xSeq (xFor (xiEnum (xaCons (xVar 0) xaNil)) (yTup 2 (yCons (yName 1) (yCons (yName 2) yNil)))
    lp_need_counter_0)
    (xRet (xVar 0))))
theorem enum_mem : ∀ (c : List Str) (i : Nat) (d : PyData), d ∈ enumD i (c.map PyData.str) → ∃ (k : Int) (x : Str), d = .tuple [.int k, .str x] ∧ x ∈ c
  | [], i, d, h => by simp [enumD] at h
  | x :: r, i, d, h => by
    simp [enumD] at h
    rcases h with rfl | h
    · exact ⟨_, x, rfl, List.mem_cons_self⟩
    · obtain ⟨k, y, e, hy⟩ := enum_mem r _ d h
      exact ⟨k, y, e, List.mem_cons_of_mem _ hy⟩
abbrev pt_need_counter : PT' := ptA (fun a : List Str => [.v (cD a)]) (fun a => Ctr a) fun a => cD a
abbrev pt_need_counter_mo := @ptA_mo _ (fun a : List Str => [.v (cD a)]) (fun a => Ctr a) fun a => cD a
theorem sp_need_counter : ∀ ss g Q, ss.length = 1 → pt_need_counter ss g Q → tb_need_counter { nx := fun _ g' => Q .none g', rt := Q } (envOf n_need_counter ss) g := by
  rintro ss g Q _ ⟨c, rfl, h, q⟩
  have h : Ctr c := h
  have q : Q (cD c) g := q
  have hn := h.n
  simp [tb_need_counter, cD, -forT]
  refine ⟨by omega, by omega, forT_inv (fun E => ∃ e1 e2, E = [S.v (cD c), e1, e2]) _ _ ⟨_, _, rfl⟩ (fun d hd E hE f hf => ?_) fun E hE => ?_⟩
  · obtain ⟨e1, e2, rfl⟩ := hE
    obtain ⟨k, x, rfl, hx⟩ := enum_mem c _ d hd
    simp [lp_need_counter_0, ptA]
    have hl := dial_len (h.d x hx)
    have sz : (4000 : Nat) ≤ sizeLine := by decide +kernel
    exact ⟨_, _, ⟨rfl, rfl⟩, _, _, rfl, rfl, fun y e => by cases e; omega, h.d x hx, hf _ ⟨_, _, rfl⟩⟩
  · obtain ⟨e1, e2, rfl⟩ := hE
    simpa using q
end TL
namespace TL
open PySem PySem.Spec PyProof.Rows L2 RZ

abbrev n_size_of : List Str := ["counter", "product", "dial"]
def lp_size_of_0 : TSt := (xAsg (xBin (xVar 1) (xCB (xaCons (xVar 2) xaNil) cLen) oMulB) (yName 1))
def tb_size_of : TSt := (xSeq (xAsg (xC (.int 1)) (yName 1))
    (xSeq (xFor (xiSeq (xVar 0)) (yName 2)
    lp_size_of_0)
    (xRet (xVar 1))))
abbrev pt_size_of : PT' := ptA (fun a : List Str => [.v (cD a)]) (fun a => Ctr a) fun a => .int (csize a)
abbrev pt_size_of_mo := @ptA_mo _ (fun a : List Str => [.v (cD a)]) (fun a => Ctr a) fun a => .int (csize a)
theorem sp_size_of : ∀ ss g Q, ss.length = 1 → pt_size_of ss g Q → tb_size_of { nx := fun _ g' => Q .none g', rt := Q } (envOf n_size_of ss) g := by
  rintro ss g Q _ ⟨c, rfl, hc, q⟩
  have hc : Ctr c := hc
  have q : Q (.int (csize c)) g := q
  simp [tb_size_of, cD, -forT]
  refine forT_suf (fun ds E => ∃ (r : List Str) (p : Int) (e2 : S), ds = r.map .str ∧ E = [S.v (cD c), S.v (.int p), e2] ∧ p * csize r = csize c ∧ 1 ≤ p ∧ p ≤ 10 ^ 19 ∧ ∀ x ∈ r, dialS x = true) _ _ ⟨c, 1, _, rfl, rfl, by omega, by decide, by decide, hc.d⟩ (fun d r E hI hh hq => ?_) fun E hI => ?_
  · obtain ⟨r', p, e2, e, rfl, hp, p0, p1, hd⟩ := hI
    cases r' with
    | nil => simp at e
    | cons x r' =>
      simp at e
      obtain ⟨rfl, rfl⟩ := e
      have hx := hd x List.mem_cons_self
      have hx2 := hx
      simp only [dialS, Bool.and_eq_true, decide_eq_true_eq] at hx2
      have sz : (4000 : Nat) ≤ sizeLine := by decide +kernel
      have hr := csize_bd r' fun y hy => hd y (List.mem_cons_of_mem _ hy)
      have hs := hc.size
      have e1 : p * x.length * csize r' = csize c := by rw [← hp, csize, Int.mul_assoc]
      have m1 : p * 1 ≤ p * (x.length : Int) := Int.mul_le_mul_of_nonneg_left (by omega) (by omega)
      have m2 : p * (x.length : Int) * 1 ≤ p * x.length * csize r' := Int.mul_le_mul_of_nonneg_left hr.1 (by omega)
      simp [lp_size_of_0]
      refine ⟨by omega, ⟨wb_s (by omega) (by omega), wb_s (by omega) (by omega)⟩, hq _ ⟨r', _, .v (.str x), rfl, rfl, e1, by omega, by omega, fun y hy => hd y (List.mem_cons_of_mem _ hy)⟩⟩
  · obtain ⟨r', p, e2, e, rfl, hp, p0, p1, hd⟩ := hI
    have : r' = [] := by cases r' with | nil => rfl | cons => simp at e
    subst this
    simp [csize] at hp
    simp [hp]
    exact q
end TL
namespace TL
open PySem PySem.Spec PyProof.Rows L2 RZ

abbrev n_size : List Str := ["counter"]
def tb_size : TSt := (xSeq (xDrop (xCall (xaCons (xVar 0) xaNil) pt_need_counter))
    (xRet (xCall (xaCons (xVar 0) xaNil) pt_size_of)))
abbrev pt_size : PT' := ptA (fun a : List Str => [.v (cD a)]) (fun a => Ctr a) fun a => .int (csize a)
abbrev pt_size_mo := @ptA_mo _ (fun a : List Str => [.v (cD a)]) (fun a => Ctr a) fun a => .int (csize a)
theorem sp_size : ∀ ss g Q, ss.length = 1 → pt_size ss g Q → tb_size { nx := fun _ g' => Q .none g', rt := Q } (envOf n_size ss) g := by
  rintro ss g Q _ ⟨c, rfl, h, q⟩
  have h : Ctr c := h
  simp [tb_size, ptA, and_assoc]
  exact ⟨c, rfl, h, c, rfl, h, q⟩
end TL
namespace TL
open PySem PySem.Spec PyProof.Rows L2 RZ

abbrev n__law_ten : List Str := ["many"]
def tb__law_ten : TSt := (xRet (xCB (xaCons (xBin (xC (.str "1")) (xBin (xC (.str "0")) (xVar 0) oRepS0) oAdd) xaNil) cIntS))
abbrev pt__law_ten : PT' := ptA (fun a : Int => [.v (.int a)]) (fun a => 0 ≤ a ∧ a ≤ 25) fun a => .int (10 ^ a.toNat)
abbrev pt__law_ten_mo := @ptA_mo _ (fun a : Int => [.v (.int a)]) (fun a => 0 ≤ a ∧ a ≤ 25) fun a => .int (10 ^ a.toNat)
theorem sp__law_ten : ∀ ss g Q, ss.length = 1 → pt__law_ten ss g Q → tb__law_ten { nx := fun _ g' => Q .none g', rt := Q } (envOf n__law_ten ss) g := by
  rintro ss g Q _ ⟨a, rfl, ⟨h0, h1⟩, q⟩
  have h0 : 0 ≤ a := h0
  have h1 : a ≤ 25 := h1
  have q : Q (.int (10 ^ a.toNat)) g := q
  simp [tb__law_ten]
  have sz : (4000 : Nat) ≤ sizeLine := by decide +kernel
  have key : ∀ n : Fin 26, (Str.ofString "1" ++ repS (n.val) (Str.ofString "0")).length ≤ 640 ∧ (Str.ofString "0").length * (n.val) ≤ 4000 ∧ (Str.ofString "1").length + (repS (n.val) (Str.ofString "0")).length ≤ 4000 ∧ intText? (Str.ofString "1" ++ repS (n.val) (Str.ofString "0")) = some (10 ^ (n.val)) := by decide +kernel
  have k := key ⟨a.toNat, by omega⟩
  simp only at k
  exact ⟨by omega, by omega, by decide +kernel, by omega, by omega, _, k.2.2.2, k.1, q⟩
end TL
namespace TL
open PySem PySem.Spec PyProof.Rows L2 RZ

abbrev n__law_great : List Str := ["m", "some", "dials", "total", "begin", "step", "many", "k"]
def tb__law_great : TSt := (xSeq (xAsg (xLst (xaCons (xC (.str "0123456789")) (xaCons (xC (.str "0123456789ab")) (xaCons (xC (.str "01")) (xaCons (xC (.str "abcdefghijklmnopqrstuvwxyz")) xaNil))))) (yName 1))
    (xSeq (xAsg (xCB (xaCons (xComp (xiRng1 (xaCons (xC (.int 12)) xaNil)) (yName 7) xYes (xBin (xVar 1) (xCall (xaTok 0 (xaCons (xC (.int 4)) xaNil)) pt__law_draw) oIx) [7]) xaNil) cTup) (yName 2))
    (xSeq (xAsg (xCall (xaCons (xVar 2) xaNil) pt_size) (yName 3))
    (xSeq (xAsg (xBin (xCB (xaCons (xBin (xBin (xBin (xVar 3) (xBin (xC (.int 1)) (xCall (xaTok 0 (xaCons (xC (.int 99)) xaNil)) pt__law_draw) oAdd) oMulB) (xC (.int 100)) oDivB) (xCall (xaTok 0 (xaCons (xC (.int 1000)) xaNil)) pt__law_draw) oAdd) xaNil) cInt) (xVar 3) oMod) (yName 4))
    (xSeq (xAsg (xBin (xBin (xCB (xaCons (xBin (xBin (xVar 3) (xBin (xC (.int 1)) (xCall (xaTok 0 (xaCons (xC (.int 997)) xaNil)) pt__law_draw) oAdd) oMulB) (xBin (xC (.int 2)) (xCall (xaTok 0 (xaCons (xC (.int 997)) xaNil)) pt__law_draw) oAdd) oDivB) xaNil) cInt) (xBin (xC (.int 10)) (xC (.int 18)) oPow) oMod) (xBin (xC (.int 5)) (xBin (xC (.int 10)) (xC (.int 17)) oPow) oMulB) oSub) (yName 5))
    (xSeq (xAsg (xBin (xLst (xaCons (xBin (xC (.int 1)) (xCall (xaTok 0 (xaCons (xC (.int 50)) xaNil)) pt__law_draw) oAdd) (xaCons (xBin (xC (.int 1)) (xBin (xCall (xaCons (xCall (xaTok 0 (xaCons (xC (.int 13)) xaNil)) pt__law_draw) xaNil) pt__law_ten) (xBin (xC (.int 1)) (xCall (xaTok 0 (xaCons (xC (.int 9)) xaNil)) pt__law_draw) oAdd) oMulB) oAdd) (xaCons (xBin (xC (.int 10)) (xC (.int 30)) oPow) xaNil)))) (xCall (xaTok 0 (xaCons (xC (.int 3)) xaNil)) pt__law_draw) oIx) (yName 6))
    (xRet (xTup (xaCons (xTup (xaCons (xVar 2) (xaCons (xVar 4) (xaCons (xVar 5) (xaCons (xVar 6) (xaCons (xBin (xC (.int 1)) (xCall (xaTok 0 (xaCons (xC (.int 1000)) xaNil)) pt__law_draw) oAdd) xaNil)))))) (xaCons (xVar 3) xaNil))))))))))
def D82 : List Str := ["0123456789", "0123456789ab", "01", "abcdefghijklmnopqrstuvwxyz"]
theorem d82_ok : ∀ x ∈ D82, dialS x = true := by decide +kernel
abbrev pt__law_great : PT' := ptG (fun _ : Unit => [.tok]) (fun _ => True) (fun _ => 21) fun _ d => ∃ r : Run, r.Ok ∧ d = .tuple [runD r, .int (csize r.c)]
abbrev pt__law_great_mo := @ptG_mo _ (fun _ : Unit => [.tok]) (fun _ => True) (fun _ => 21) fun _ d => ∃ r : Run, r.Ok ∧ d = .tuple [runD r, .int (csize r.c)]
theorem sp__law_great : ∀ ss g Q, ss.length = 1 → pt__law_great ss g Q → tb__law_great { nx := fun _ g' => Q .none g', rt := Q } (envOf n__law_great ss) g := by
  rintro ss g Q _ ⟨_, rfl, _, hg, q⟩
  have hg : 21 ≤ g := hg
  have q : ∀ d g', (∃ r : Run, r.Ok ∧ d = .tuple [runD r, .int (csize r.c)]) → g ≤ g' + 21 → Q d g' := q
  have sz : (4000 : Nat) ≤ sizeLine := by decide +kernel
  simp [tb__law_great, -compT]
  refine ⟨by omega, by omega, ?_⟩
  refine compT_all (c := 1) (R := fun _ z => ∃ x, x ∈ D82 ∧ z = .str x) _ _ [] _ _ (by rw [rangeD_len]; omega) (fun d hd g4 hg4 k1 k2 hk => ?_) fun l g4 hl hg4 => ?_
  · simp
    refine next_ofD (by omega) (wb_of (by omega) (by omega)) (by omega) fun v v0 v1 => ?_
    obtain ⟨v, rfl⟩ : ∃ n : Nat, v = n := ⟨v.toNat, by omega⟩
    have vl : v < D82.length := by show v < 4; omega
    show oIx (.list (D82.map .str)) (.int v) _ _
    rw [oIx_l]
    exact ⟨_, by rw [atI_lit, List.getElem?_map, List.getElem?_eq_getElem vl]; rfl, hk _ _ ⟨_, List.getElem_mem vl, rfl⟩ (by omega)⟩
  rw [rangeD_len] at hg4
  have texts : ∀ {ds l : List PyData}, Rel2 (fun (_ : PyData) z => ∃ x, x ∈ D82 ∧ z = PyData.str x) ds l → ∃ c : List Str, l = c.map .str ∧ c.length = ds.length ∧ ∀ x ∈ c, x ∈ D82 := by
    intro ds l h
    induction h with
    | nil => exact ⟨[], rfl, rfl, by simp⟩
    | cons h t ih =>
      obtain ⟨x, hx, rfl⟩ := h
      obtain ⟨c, e1, e2, e3⟩ := ih
      exact ⟨x :: c, by rw [e1]; rfl, by rw [List.length_cons, e2]; rfl, fun y hy => by
        rcases List.mem_cons.1 hy with hy | hy
        · rw [hy]; exact hx
        · exact e3 y hy⟩
  obtain ⟨c, rfl, cl, cD82⟩ := texts hl
  rw [rangeD_len] at cl
  have hc : Ctr c := ⟨by rw [cl]; decide, fun x hx => d82_ok x (cD82 x hx)⟩
  have M := hc.size
  rw [List.nil_append]
  show pt_size [S.v (cD c)] g4 _
  refine ⟨c, rfl, hc, ?_⟩
  simp only []
  generalize hM : csize c = m at *
  refine next_ofD (by omega) (wb_of (by omega) (by omega)) (by omega) fun a a0 a1 => ?_
  rw [oAdd_ii]
  have m1 : m * (1 + a) ≤ 10 ^ 19 * 99 := Int.mul_le_mul (by omega) (by omega) (by omega) (by omega)
  have m2 : 0 ≤ m * (1 + a) := Int.mul_nonneg (by omega) (by omega)
  refine oic_of ⟨wb_of (by omega) (by omega), wb_of (by omega) (by omega)⟩ (oic_of ⟨by omega, wb_of (by omega) (by omega)⟩ ?_)
  refine next_ofD (by omega) (wb_of (by omega) (by omega)) (by omega) fun b b0 b1 => ?_
  rw [oAdd_ii]
  have cI : ∀ (i : Int) (g : Nat) (Q : PyData → Nat → Prop), Q (.int i) g → cInt [.int i] g Q := fun i g Q q => by simp [cInt]; exact q
  refine cI _ _ _ (oic_of (by omega) ?_)
  have B0 := Int.emod_nonneg (m * (1 + a) / 100 + b) (show m ≠ 0 by omega)
  have B1 := Int.emod_lt_of_pos (m * (1 + a) / 100 + b) (show 0 < m by omega)
  generalize (m * (1 + a) / 100 + b) % m = B at *
  refine next_ofD (by omega) (wb_of (by omega) (by omega)) (by omega) fun d d0 d1 => ?_
  rw [oAdd_ii]
  have m3 : m * (1 + d) ≤ 10 ^ 19 * 997 := Int.mul_le_mul (by omega) (by omega) (by omega) (by omega)
  have m4 : 0 ≤ m * (1 + d) := Int.mul_nonneg (by omega) (by omega)
  refine oic_of ⟨wb_of (by omega) (by omega), wb_of (by omega) (by omega)⟩ ?_
  refine next_ofD (by omega) (wb_of (by omega) (by omega)) (by omega) fun e e0 e1 => ?_
  rw [oAdd_ii]
  refine oic_of ⟨by omega, wb_of (by omega) (by omega)⟩ (cI _ _ _ (oic_of (by omega) ⟨⟨wb_of (by omega) (by omega), wb_of (by omega) (by omega)⟩, oi_of ?_⟩))
  have S0 := Int.emod_nonneg (m * (1 + d) / (2 + e)) (show (1000000000000000000 : Int) ≠ 0 by omega)
  have S1 := Int.emod_lt_of_pos (m * (1 + d) / (2 + e)) (show (0 : Int) < 1000000000000000000 by omega)
  generalize m * (1 + d) / (2 + e) % 1000000000000000000 = st at *
  refine next_ofD (by omega) (wb_of (by omega) (by omega)) (by omega) fun f f0 f1 => ?_
  rw [oAdd_ii]
  refine next_ofD (by omega) (wb_of (by omega) (by omega)) (by omega) fun t t0 t1 => ?_
  refine ⟨t, rfl, ⟨t0, by show t ≤ 25; omega⟩, ?_⟩
  have p10 : (1 : Int) ≤ 10 ^ t.toNat ∧ (10 : Int) ^ t.toNat ≤ 10 ^ 12 := by
    have : ∀ k : Fin 13, (1 : Int) ≤ 10 ^ k.val ∧ (10 : Int) ^ k.val ≤ 10 ^ 12 := by decide +kernel
    exact this ⟨t.toNat, by omega⟩
  simp only []
  refine next_ofD (by omega) (wb_of (by omega) (by omega)) (by omega) fun u u0 u1 => ?_
  rw [oAdd_ii]
  generalize (10 : Int) ^ t.toNat = T at *
  refine oic_of ⟨wb_of (by omega) (by omega), wb_of (by omega) (by omega)⟩ ?_
  have w1 : T * (1 + u) ≤ 10 ^ 12 * 9 := Int.mul_le_mul p10.2 (by omega) (by omega) (by omega)
  have w2 : 0 ≤ T * (1 + u) := Int.mul_nonneg (by omega) (by omega)
  rw [oAdd_ii]
  refine ⟨by omega, next_ofD (by omega) (wb_of (by omega) (by omega)) (by omega) fun w w0 w1' => ?_⟩
  rw [oIx_l]
  have fin : ∀ N : Int, 1 ≤ N → N ≤ 10 ^ 30 → ∀ x : Int, 0 ≤ x → x < 1000 → Q (.tuple [.tuple [.tuple (c.map .str), .int B, .int (st - 500000000000000000), .int N, .int (1 + x)], .int m]) (g4 - 1 - 1 - 1 - 1 - 1 - 1 - 1 - 1 - 1) := fun N N1 N2 x x0 x1 => by
    refine q _ _ ⟨⟨c, B, st - 500000000000000000, N, 1 + x⟩, ⟨hc, ⟨B0, by show B < csize c; rw [hM]; exact B1⟩, ⟨by show _ ≤ st - 500000000000000000; omega, by show st - 500000000000000000 ≤ _; omega⟩, ⟨N1, N2⟩, ⟨by show 1 ≤ 1 + x; omega, by show 1 + x ≤ _; omega⟩⟩, ?_⟩ (by omega)
    show _ = PyData.tuple [_, .int (csize c)]
    rw [hM]
    rfl
  have last : ∀ N : Int, 1 ≤ N → N ≤ 10 ^ 30 → pt__law_draw [S.tok, S.v (PyData.int 1000)] (g4 - 1 - 1 - 1 - 1 - 1 - 1 - 1 - 1) fun e g2 => oAdd (PyData.int 1) e g2 fun d_1 g1 => 5 ≤ sizeLine ∧ 2 ≤ sizeLine ∧ Q (.tuple [.tuple [.tuple (c.map .str), .int B, .int (st - 500000000000000000), .int N, d_1], .int m]) g1 := fun N N1 N2 =>
    next_ofD (by omega) (wb_of (by omega) (by omega)) (by omega) fun x x0 x1 => by
      rw [oAdd_ii]
      exact ⟨by omega, by omega, fin N N1 N2 x x0 x1⟩
  rcases (by omega : w = 0 ∨ w = 1 ∨ w = 2) with rfl | rfl | rfl
  · exact ⟨_, rfl, last (1 + f) (by omega) (by omega)⟩
  · exact ⟨_, rfl, last (1 + T * (1 + u)) (by omega) (by omega)⟩
  · exact ⟨_, rfl, last 1000000000000000000000000000000 (by omega) (by omega)⟩
end TL
namespace TL
open PySem PySem.Spec PyProof.Rows L2 RZ

abbrev n_is_row : List Str := ["value", "many"]
def tb_is_row : TSt := (xRet (xAndV (xIsi "tuple" (xVar 0)) (xBin (xCB (xaCons (xVar 0) xaNil) cLen) (xVar 1) oEq)))
/-- whether a value is a tuple of so many things -/
@[simp] def isRowD : PyData → Int → Bool
  | .tuple l, n => (l.length : Int) == n
  | _, _ => false
abbrev pt_is_row : PT' := ptA (fun a : PyData × Int => [.v a.1, .v (.int a.2)]) (fun a => True) fun a => .bool (isRowD a.1 a.2)
abbrev pt_is_row_mo := @ptA_mo _ (fun a : PyData × Int => [.v a.1, .v (.int a.2)]) (fun a => True) fun a => .bool (isRowD a.1 a.2)
theorem sp_is_row : ∀ ss g Q, ss.length = 2 → pt_is_row ss g Q → tb_is_row { nx := fun _ g' => Q .none g', rt := Q } (envOf n_is_row ss) g := by
  rintro ss g Q _ ⟨⟨d, n⟩, rfl, -, q⟩
  cases d <;> simpa [tb_is_row] using q
end TL
namespace TL
open PySem PySem.Spec PyProof.Rows L2 RZ

abbrev n_is_counter : List Str := ["value", "dial"]
def tb_is_counter : TSt := (xSeq (xIfS (xOr (xNot (xTest (xIsi "tuple" (xVar 0)))) (xNot (xTest (xChain (xC (.int 1)) (xCB (xaCons (xVar 0) xaNil) cLen) (xC (.int 12)) oLe2 oLe2))))
    (xRet (xC (.bool false)))
    xNext)
    (xRet (xCB (xaCons (xComp (xiSeq (xVar 0)) (yName 1) xYes (xCall (xaCons (xVar 1) xaNil) pt_is_dial) [1]) xaNil) cAll)))
abbrev pt_is_counter : PT' := ptA (fun a : PyData => [.v a]) (fun a => ∀ l, a = .tuple l → l.length ≤ sizeLine ∧ ∀ x, PyData.str x ∈ l → x.length ≤ sizeLine) fun a => .bool (isCtrD a)
abbrev pt_is_counter_mo := @ptA_mo _ (fun a : PyData => [.v a]) (fun a => ∀ l, a = .tuple l → l.length ≤ sizeLine ∧ ∀ x, PyData.str x ∈ l → x.length ≤ sizeLine) fun a => .bool (isCtrD a)
theorem sp_is_counter : ∀ ss g Q, ss.length = 1 → pt_is_counter ss g Q → tb_is_counter { nx := fun _ g' => Q .none g', rt := Q } (envOf n_is_counter ss) g := by
  rintro ss g Q _ ⟨d, rfl, hp, q⟩
  have q : Q (.bool (isCtrD d)) g := q
  cases d with
  | tuple l =>
    obtain ⟨hl, hx⟩ := hp l rfl
    simp [tb_is_counter, and_assoc, hl, -compT]
    by_cases c1 : l.length < 1
    · have e : isCtrD (.tuple l) = false := by simp [isCtrD]; omega
      rw [e] at q
      exact .inl ⟨by omega, q⟩
    refine .inr ⟨by omega, ?_⟩
    by_cases c2 : 12 < l.length
    · have e : isCtrD (.tuple l) = false := by simp [isCtrD]; omega
      rw [e] at q
      exact .inl ⟨by omega, q⟩
    refine .inr ⟨by omega, ?_⟩
    refine compT_pure (p := fun _ => true) (f := fun d => .bool (isDialD d)) _ _ _ _ _ (fun d hd k1 k2 hk1 hk2 => ?_) ?_
    · simp [ptA, and_assoc]
      exact ⟨fun x e => hx x (e ▸ hd), hk1 rfl⟩
    · rw [List.nil_append, filter_tt', bools_map]
      refine ⟨_, rfl, ?_⟩
      have e : isCtrD (.tuple l) = (l.map isDialD).all id := by
        simp [isCtrD, show 1 ≤ l.length by omega, show l.length ≤ 12 by omega, List.all_map, Function.comp_def]
      rw [← e]
      exact q
  | _ => simpa [tb_is_counter, ptA, and_assoc, isCtrD] using q
end TL
namespace TL
open PySem PySem.Spec PyProof.Rows L2 RZ

abbrev n_is_whole : List Str := ["value"]
def tb_is_whole : TSt := (xRet (xAndV (xIsi "int" (xVar 0)) (xNotV (xIsi "bool" (xVar 0)))))
@[simp] def isWholeD : PyData → Bool
  | .int _ => true
  | _ => false
abbrev pt_is_whole : PT' := ptA (fun a : PyData => [.v a]) (fun a => True) fun a => .bool (isWholeD a)
abbrev pt_is_whole_mo := @ptA_mo _ (fun a : PyData => [.v a]) (fun a => True) fun a => .bool (isWholeD a)
theorem sp_is_whole : ∀ ss g Q, ss.length = 1 → pt_is_whole ss g Q → tb_is_whole { nx := fun _ g' => Q .none g', rt := Q } (envOf n_is_whole ss) g := by
  rintro ss g Q _ ⟨d, rfl, -, q⟩
  cases d <;> simpa [tb_is_whole] using q
end TL
namespace TL
open PySem PySem.Spec PyProof.Rows L2 RZ

abbrev n_is_between : List Str := ["value", "low", "high"]
def tb_is_between : TSt := (xRet (xAndV (xCall (xaCons (xVar 0) xaNil) pt_is_whole) (xChain (xVar 1) (xVar 0) (xVar 2) oLe2 oLe2)))
@[simp] def isBetweenD : PyData → Int → Int → Bool
  | .int i, lo, hi => decide (lo ≤ i) && decide (i ≤ hi)
  | _, _, _ => false
abbrev pt_is_between : PT' := ptA (fun a : PyData × Int × Int => [.v a.1, .v (.int a.2.1), .v (.int a.2.2)]) (fun a => True) fun a => .bool (isBetweenD a.1 a.2.1 a.2.2)
abbrev pt_is_between_mo := @ptA_mo _ (fun a : PyData × Int × Int => [.v a.1, .v (.int a.2.1), .v (.int a.2.2)]) (fun a => True) fun a => .bool (isBetweenD a.1 a.2.1 a.2.2)
theorem sp_is_between : ∀ ss g Q, ss.length = 3 → pt_is_between ss g Q → tb_is_between { nx := fun _ g' => Q .none g', rt := Q } (envOf n_is_between ss) g := by
  rintro ss g Q _ ⟨⟨d, lo, hi⟩, rfl, -, q⟩
  cases d with
  | int i =>
    by_cases h : lo ≤ i
    · have h' : ¬ i < lo := by omega
      simpa [tb_is_between, ptA, h, h'] using q
    · have h' : i < lo := by omega
      simpa [tb_is_between, ptA, h, h'] using q
  | _ => simpa [tb_is_between, ptA] using q
end TL
namespace TL
open PySem PySem.Spec PyProof.Rows L2 RZ

abbrev n_need_run : List Str := ["thing", "counter", "begin", "step", "many", "copies"]
def tb_need_run : TSt := (xSeq (xIfS (xNot (xTest (xCall (xaCons (xVar 0) (xaCons (xC (.int 5)) xaNil)) pt_is_row)))
    xNever
    xNext)
    (xSeq (xAsg (xVar 0) (yTup 5 (yCons (yName 1) (yCons (yName 2) (yCons (yName 3) (yCons (yName 4) (yCons (yName 5) yNil)))))))
    (xSeq (xIfS (xNot (xTest (xCall (xaCons (xVar 1) xaNil) pt_is_counter)))
    xNever
    xNext)
    (xSeq (xIfS (xNot (xTest (xCall (xaCons (xVar 2) (xaCons (xC (.int 0)) (xaCons (xBin (xCall (xaCons (xVar 1) xaNil) pt_size_of) (xC (.int 1)) oSub) xaNil))) pt_is_between)))
    xNever
    xNext)
    (xSeq (xIfS (xNot (xTest (xCall (xaCons (xVar 3) (xaCons (xNeg (xC (.int 1000000000000000000))) (xaCons (xC (.int 1000000000000000000)) xaNil))) pt_is_between)))
    xNever
    xNext)
    (xSeq (xIfS (xNot (xTest (xCall (xaCons (xVar 4) (xaCons (xC (.int 1)) (xaCons (xC (.int 1000000000000000000000000000000)) xaNil))) pt_is_between)))
    xNever
    xNext)
    (xSeq (xIfS (xNot (xTest (xCall (xaCons (xVar 5) (xaCons (xC (.int 1)) (xaCons (xC (.int 1000)) xaNil))) pt_is_between)))
    xNever
    xNext)
    (xRet (xVar 0)))))))))
abbrev pt_need_run : PT' := ptA (fun a : Run => [.v (runD a)]) (fun a => a.Ok) fun a => runD a
abbrev pt_need_run_mo := @ptA_mo _ (fun a : Run => [.v (runD a)]) (fun a => a.Ok) fun a => runD a
theorem sp_need_run : ∀ ss g Q, ss.length = 1 → pt_need_run ss g Q → tb_need_run { nx := fun _ g' => Q .none g', rt := Q } (envOf n_need_run ss) g := by
  rintro ss g Q _ ⟨r, rfl, ok, q⟩
  have ok : r.Ok := ok
  have q : Q (runD r) g := q
  simp [tb_need_run, ptA, and_assoc, runD]
  have sz : (4000 : Nat) ≤ sizeLine := by decide +kernel
  have ⟨hb, ⟨hs1, hs2⟩, ⟨hn1, hn2⟩, hk⟩ := (⟨ok.b, ok.s, ok.n, ok.k⟩ : _ ∧ _ ∧ _ ∧ _)
  refine ⟨fun l e => ?_, ctr_is ok.c, r.c, rfl, ok.c, hb.1, by omega, hs1, hs2, hn1, hn2, hk.1, hk.2, q⟩
  have e : PyData.tuple (r.c.map .str) = .tuple l := e
  cases e
  refine ⟨by have := ok.c.n; simp; omega, fun x hx => ?_⟩
  obtain ⟨y, hy, e⟩ := List.mem_map.1 hx
  cases e
  have := ok.c.d x hy
  simp only [dialS, Bool.and_eq_true, decide_eq_true_eq] at this
  omega
end TL
namespace TL
open PySem PySem.Spec PyProof.Rows L2 RZ

abbrev n_period_of : List Str := ["step", "modulus"]
def tb_period_of : TSt := (xRet (xBin (xVar 1) (xCB (xaCons (xVar 0) (xaCons (xVar 1) xaNil)) cGcd) oDivB))
abbrev pt_period_of : PT' := ptA (fun a : Int × Int => [.v (.int a.1), .v (.int a.2)]) (fun a => 0 < a.2 ∧ a.2 ≤ 10 ^ 19) fun a => .int (a.2 / NT.g2 a.1 a.2)
abbrev pt_period_of_mo := @ptA_mo _ (fun a : Int × Int => [.v (.int a.1), .v (.int a.2)]) (fun a => 0 < a.2 ∧ a.2 ≤ 10 ^ 19) fun a => .int (a.2 / NT.g2 a.1 a.2)
theorem sp_period_of : ∀ ss g Q, ss.length = 2 → pt_period_of ss g Q → tb_period_of { nx := fun _ g' => Q .none g', rt := Q } (envOf n_period_of ss) g := by
  rintro ss g Q _ ⟨⟨s, m⟩, rfl, ⟨h0, h1⟩, q⟩
  have q : Q (.int (m / NT.g2 s m)) g := q
  simp only at h0 h1
  have ⟨gp, gw⟩ := g2_wb (a := s) h0 h1
  simpa [tb_period_of, gp, gw, and_assoc] using q
end TL
namespace TL
open PySem PySem.Spec PyProof.Rows L2 RZ

abbrev n_round_length : List Str := ["run"]
def tb_round_length : TSt := (xRet (xCall (xaCons (xBin (xVar 0) (xC (.int 2)) oIx) (xaCons (xCall (xaCons (xBin (xVar 0) (xC (.int 0)) oIx) xaNil) pt_size_of) xaNil)) pt_period_of))
abbrev pt_round_length : PT' := ptA (fun a : Run => [.v (runD a)]) (fun a => a.Ok) fun a => .int (csize a.c / NT.g2 a.s (csize a.c))
abbrev pt_round_length_mo := @ptA_mo _ (fun a : Run => [.v (runD a)]) (fun a => a.Ok) fun a => .int (csize a.c / NT.g2 a.s (csize a.c))
theorem sp_round_length : ∀ ss g Q, ss.length = 1 → pt_round_length ss g Q → tb_round_length { nx := fun _ g' => Q .none g', rt := Q } (envOf n_round_length ss) g := by
  rintro ss g Q _ ⟨r, rfl, ok, q⟩
  have ok : r.Ok := ok
  have q : Q (.int (csize r.c / NT.g2 r.s (csize r.c))) g := q
  have := ok.c.size
  simp [tb_round_length, ptA, and_assoc, runD]
  exact ⟨r.c, rfl, ok.c, by omega, this.2, q⟩
end TL
namespace TL
open PySem PySem.Spec PyProof.Rows L2 RZ

abbrev n_nearest : List Str := ["step", "modulus", "many", "on", "back", "often"]
def lp_nearest_0 : TSt := (xIfS (xTest (xBin (xBin (xVar 3) (xC (.int 0)) oIx) (xBin (xVar 4) (xC (.int 0)) oIx) oGt))
    (xSeq (xAsg (xCB (xaCons (xBin (xBin (xBin (xVar 3) (xC (.int 0)) oIx) (xC (.int 1)) oSub) (xBin (xVar 4) (xC (.int 0)) oIx) oDivB) (xaCons (xBin (xBin (xVar 2) (xBin (xVar 3) (xC (.int 1)) oIx) oSub) (xBin (xVar 4) (xC (.int 1)) oIx) oDivB) xaNil)) cMin) (yName 5))
    (xAsg (xTup (xaCons (xBin (xBin (xVar 3) (xC (.int 0)) oIx) (xBin (xVar 5) (xBin (xVar 4) (xC (.int 0)) oIx) oMulB) oSub) (xaCons (xBin (xBin (xVar 3) (xC (.int 1)) oIx) (xBin (xVar 5) (xBin (xVar 4) (xC (.int 1)) oIx) oMulB) oAdd) xaNil))) (yName 3)))
    (xSeq (xAsg (xCB (xaCons (xBin (xBin (xBin (xVar 4) (xC (.int 0)) oIx) (xC (.int 1)) oSub) (xBin (xVar 3) (xC (.int 0)) oIx) oDivB) (xaCons (xBin (xBin (xVar 2) (xBin (xVar 4) (xC (.int 1)) oIx) oSub) (xBin (xVar 3) (xC (.int 1)) oIx) oDivB) xaNil)) cMin) (yName 5))
    (xAsg (xTup (xaCons (xBin (xBin (xVar 4) (xC (.int 0)) oIx) (xBin (xVar 5) (xBin (xVar 3) (xC (.int 0)) oIx) oMulB) oSub) (xaCons (xBin (xBin (xVar 4) (xC (.int 1)) oIx) (xBin (xVar 5) (xBin (xVar 3) (xC (.int 1)) oIx) oMulB) oAdd) xaNil))) (yName 4))))
def tb_nearest : TSt := (xSeq (xPar2 3 4 (xaCons (xTup (xaCons (xVar 0) (xaCons (xC (.int 1)) xaNil))) (xaCons (xTup (xaCons (xBin (xVar 1) (xVar 0) oSub) (xaCons (xC (.int 1)) xaNil))) xaNil)))
    (xSeq (xWhile (xTest (xBin (xBin (xBin (xVar 3) (xC (.int 1)) oIx) (xBin (xVar 4) (xC (.int 1)) oIx) oAdd) (xVar 2) oLe2))
    lp_nearest_0)
    (xRet (xTup (xaCons (xVar 3) (xaCons (xVar 4) xaNil))))))
abbrev pt_nearest : PT' := ptG (fun a : Int × Int × Int => [.v (.int a.1), .v (.int a.2.1), .v (.int a.2.2)]) (fun a => (1 ≤ a.2.1 ∧ a.2.1 ≤ 10 ^ 19) ∧ (0 ≤ a.2.2 ∧ a.2.2 < a.2.1) ∧ ∃ s, a.1 = s % a.2.1 ∧ ∀ k, a.2.1 ∣ k * s → a.2.1 ∣ k) (fun _ => 0) fun a d => ∀ s, a.1 = s % a.2.1 → (∀ k, a.2.1 ∣ k * s → a.2.1 ∣ k) → ∃ x i c j, GAP.Rs a.2.1 s (a.2.2 + 1) x i c j ∧ d = .tuple [.tuple [.int x, .int i], .tuple [.int c, .int j]]
abbrev pt_nearest_mo := @ptG_mo _ (fun a : Int × Int × Int => [.v (.int a.1), .v (.int a.2.1), .v (.int a.2.2)]) (fun a => (1 ≤ a.2.1 ∧ a.2.1 ≤ 10 ^ 19) ∧ (0 ≤ a.2.2 ∧ a.2.2 < a.2.1) ∧ ∃ s, a.1 = s % a.2.1 ∧ ∀ k, a.2.1 ∣ k * s → a.2.1 ∣ k) (fun _ => 0) fun a d => ∀ s, a.1 = s % a.2.1 → (∀ k, a.2.1 ∣ k * s → a.2.1 ∣ k) → ∃ x i c j, GAP.Rs a.2.1 s (a.2.2 + 1) x i c j ∧ d = .tuple [.tuple [.int x, .int i], .tuple [.int c, .int j]]
theorem often_of {x y a i : Int} (ha : 1 ≤ a) (hi : 1 ≤ i) (hx : a ≤ x) (hy : i ≤ y) : 1 ≤ (if y / i < x / a then y / i else x / a) ∧ (if y / i < x / a then y / i else x / a) * a ≤ x ∧ (if y / i < x / a then y / i else x / a) * i ≤ y ∧ (if y / i < x / a then y / i else x / a) ≤ x := by
  have m1 := NT.mod_div x a
  have m2 := Int.emod_nonneg x (show a ≠ 0 by omega)
  have m3 := NT.mod_div y i
  have m4 := Int.emod_nonneg y (show i ≠ 0 by omega)
  have e1 : 1 ≤ x / a := (Int.le_ediv_iff_mul_le (by omega)).2 (by omega)
  have e2 : 1 ≤ y / i := (Int.le_ediv_iff_mul_le (by omega)).2 (by omega)
  have e3 : x / a ≤ x := Int.ediv_le_self _ (by omega)
  rw [Int.mul_comm] at m1 m3
  split
  · rename_i c
    have := Int.mul_le_mul_of_nonneg_right (show y / i ≤ x / a by omega) (show 0 ≤ a by omega)
    exact ⟨e2, by omega, by omega, by omega⟩
  · rename_i c
    have := Int.mul_le_mul_of_nonneg_right (show x / a ≤ y / i by omega) (show 0 ≤ i by omega)
    exact ⟨e1, by omega, by omega, by omega⟩
theorem sp_nearest : ∀ ss g Q, ss.length = 3 → pt_nearest ss g Q → tb_nearest { nx := fun _ g' => Q .none g', rt := Q } (envOf n_nearest ss) g := by
  rintro ss g Q _ ⟨⟨s0, P, N⟩, rfl, ⟨⟨h0, h1⟩, ⟨h2, h3⟩, s, hs, cop⟩, -, q⟩
  have h0 : 1 ≤ P := h0
  have h1 : P ≤ 10 ^ 19 := h1
  have h2 : 0 ≤ N := h2
  have h3 : N < P := h3
  have hs : s0 = s % P := hs
  have cop : ∀ k, P ∣ k * s → P ∣ k := cop
  have q : ∀ d g', (∀ s, s0 = s % P → (∀ k, P ∣ k * s → P ∣ k) → ∃ x i c j, GAP.Rs P s (N + 1) x i c j ∧ d = .tuple [.tuple [.int x, .int i], .tuple [.int c, .int j]]) → g ≤ g' + 0 → Q d g' := q
  have sz : (4000 : Nat) ≤ sizeLine := by decide +kernel
  have gi0 : GAP.GI P s s0 1 (P - s0) 1 := by rw [hs]; exact GAP.GI.first (by omega)
  simp [tb_nearest]
  refine ⟨by omega, _, _, ⟨rfl, rfl⟩, ?_⟩
  refine ⟨fun k E g' => g' = g ∧ ∃ a i c j e5, E = [S.v (.int s0), S.v (.int P), S.v (.int N), S.v (.tuple [.int a, .int i]), S.v (.tuple [.int c, .int j]), e5] ∧ k = (a + c).toNat ∧ GAP.GI P s a i c j ∧ i ≤ N + 1 ∧ j ≤ N + 1, ⟨_, rfl, _, _, _, _, _, rfl, rfl, gi0, by omega, by omega⟩, ?_⟩
  rintro k E g' ⟨rfl, a, i, c, j, e5, rfl, rfl, I, hi, hj⟩
  simp [lp_nearest_0, and_assoc]
  have ia := I.a
  have ib := I.b
  have ii := I.i
  have ij := I.j
  have det := I.det
  have x1 : a * 1 ≤ a * j := Int.mul_le_mul_of_nonneg_left ij ia
  have x2 : c * 1 ≤ c * i := Int.mul_le_mul_of_nonneg_left ii (by omega)
  rcases Int.lt_or_le N (i + j) with z | z
  · refine .inl ⟨z, by omega, q _ _ (fun s' hs' cop' => ?_) (by omega)⟩
    have same : P ∣ s - s' := NT.mod_eq_dvd.1 (by rw [← hs, hs'])
    refine ⟨a, i, c, j, ⟨⟨I.det, ?_, ?_, ii, ij, ia, ib⟩, by omega, hi, hj, by omega⟩, rfl⟩
    · have : i * s' - a = (i * s - a) - i * (s - s') := by grind
      rw [this]
      exact Int.dvd_sub I.on (Int.dvd_mul_of_dvd_right same)
    · have : j * s' + c = (j * s + c) - j * (s - s') := by grind
      rw [this]
      exact Int.dvd_sub I.bk (Int.dvd_mul_of_dvd_right same)
  · have a1 := I.a_pos cop (by omega)
    have wa := wb_s (n := a) (by omega) (by omega)
    have wc := wb_s (n := c) (by omega) (by omega)
    have wi := wb_s (n := i) (by omega) (by omega)
    have wj := wb_s (n := j) (by omega) (by omega)
    refine .inr ⟨z, ?_⟩
    rcases Int.lt_or_le c a with k | k
    · have o := often_of (x := a - 1) (y := N - i) (a := c) (i := j) ib ij (by omega) (by omega)
      generalize (if (N - i) / j < (a - 1) / c then (N - i) / j else (a - 1) / c) = t at *
      obtain ⟨o1, o2, o3, o4⟩ := o
      have wt := wb_s (n := t) (by omega) (by omega)
      have := GAP.mul_ge o1 (show 0 ≤ c by omega)
      exact .inr ⟨k, by omega, wc, by omega, wj, wt, wc, wt, wj, by omega, _, by omega, rfl, I.onward (by omega) (by omega), by omega, hj⟩
    · have k2 : a < c := by
        rcases Int.lt_or_le a c with w | w
        · exact w
        · have e : c = a := by omega
          subst e
          have := I.same cop
          omega
      have o := often_of (x := c - 1) (y := N - j) (a := a) (i := i) a1 ii (by omega) (by omega)
      generalize (if (N - j) / i < (c - 1) / a then (N - j) / i else (c - 1) / a) = t at *
      obtain ⟨o1, o2, o3, o4⟩ := o
      have wt := wb_s (n := t) (by omega) (by omega)
      have := GAP.mul_ge o1 (show 0 ≤ a by omega)
      exact .inl ⟨k, by omega, wa, by omega, wi, wt, wa, wt, wi, by omega, _, by omega, rfl, I.backward (by omega) (by omega), hi, by omega⟩
end TL
namespace TL
open PySem PySem.Spec PyProof.Rows L2 RZ

abbrev n_gaps : List Str := ["run", "around", "unit", "shown", "on", "back", "found", "length", "many"]
def lp_gaps_0 : TSt := (xIfS (xTest (xBin (xVar 8) (xC (.int 0)) oGt))
    (xDPut 6 (xBin (xHdGet 6 (xBin (xVar 7) (xVar 2) oMulB) (xC (.int 0))) (xVar 8) oAdd) (xBin (xVar 7) (xVar 2) oMulB))
    xNext)
def tb_gaps : TSt := (xSeq (xDrop (xCall (xaCons (xVar 0) xaNil) pt_need_run))
    (xSeq (xAsg (xCall (xaCons (xVar 0) xaNil) pt_round_length) (yName 1))
    (xSeq (xAsg (xBin (xCall (xaCons (xBin (xVar 0) (xC (.int 0)) oIx) xaNil) pt_size_of) (xVar 1) oDivB) (yName 2))
    (xSeq (xAsg (xCB (xaCons (xBin (xVar 0) (xC (.int 3)) oIx) (xaCons (xVar 1) xaNil)) cMin) (yName 3))
    (xSeq (xAsg (xCall (xaCons (xBin (xBin (xBin (xVar 0) (xC (.int 2)) oIx) (xVar 2) oDivB) (xVar 1) oMod) (xaCons (xVar 1) (xaCons (xBin (xVar 3) (xC (.int 1)) oSub) xaNil))) pt_nearest) (yTup 2 (yCons (yName 4) (yCons (yName 5) yNil))))
    (xSeq (xOwnD 6)
    (xSeq (xFor (xiTup (xTup (xaCons (xTup (xaCons (xBin (xVar 4) (xC (.int 0)) oIx) (xaCons (xBin (xVar 3) (xBin (xVar 4) (xC (.int 1)) oIx) oSub) xaNil))) (xaCons (xTup (xaCons (xBin (xVar 5) (xC (.int 0)) oIx) (xaCons (xBin (xVar 3) (xBin (xVar 5) (xC (.int 1)) oIx) oSub) xaNil))) (xaCons (xTup (xaCons (xBin (xBin (xVar 4) (xC (.int 0)) oIx) (xBin (xVar 5) (xC (.int 0)) oIx) oAdd) (xaCons (xBin (xBin (xBin (xVar 4) (xC (.int 1)) oIx) (xBin (xVar 5) (xC (.int 1)) oIx) oAdd) (xVar 3) oSub) xaNil))) xaNil))))) (yTup 2 (yCons (yName 7) (yCons (yName 8) yNil)))
    lp_gaps_0)
    (xRet (xCB (xaCons (xCB (xaCons (xHdItems 6) xaNil) cSort) xaNil) cTup)))))))))
abbrev pt_gaps : PT' := ptG (fun a : Run => [.v (runD a)]) (fun a => a.Ok) (fun _ => 0) fun a d => GapsR a d
abbrev pt_gaps_mo := @ptG_mo _ (fun a : Run => [.v (runD a)]) (fun a => a.Ok) (fun _ => 0) fun a d => GapsR a d
theorem sp_gaps : ∀ ss g Q, ss.length = 1 → pt_gaps ss g Q → tb_gaps { nx := fun _ g' => Q .none g', rt := Q } (envOf n_gaps ss) g := by
  rintro ss g Q _ ⟨r, rfl, h1, -, q⟩
  have h1 : r.Ok := h1
  have q : ∀ d g', GapsR r d → g ≤ g' → Q d g' := fun d g' h hg => q d g' h (by simpa using hg)
  simp [tb_gaps, ptA, and_assoc, -forT]
  refine ⟨r, rfl, h1, ?_⟩
  have hM := h1.c.size
  have hn := h1.n
  have hs := h1.s
  obtain ⟨e1, Pp, Pl⟩ := NT.g2_div (a := r.s) (b := csize r.c) (by omega)
  have gp := NT.g2_pos (a := r.s) (b := csize r.c) (by omega)
  have rg := GAP.rg_of (s := r.s) (M := csize r.c) (by omega)
  have eu : csize r.c / (csize r.c / NT.g2 r.s (csize r.c)) = NT.g2 r.s (csize r.c) := by
    conv => lhs; arg 1; rw [← e1]
    exact Int.mul_ediv_cancel _ (by omega)
  have wP := wb_s (n := csize r.c / NT.g2 r.s (csize r.c)) (by omega) (by omega)
  have gl := NT.g2_le (a := r.s) (b := csize r.c) (by omega)
  have wu := wb_s (n := NT.g2 r.s (csize r.c)) (by omega) (by omega)
  have x0 : ∀ {g : Nat} {f : PyData → Nat → Prop}, f (cD r.c) g → oIx (runD r) (.int 0) g f := fun h => by simpa [runD] using h
  have x2 : ∀ {g : Nat} {f : PyData → Nat → Prop}, f (.int r.s) g → oIx (runD r) (.int 2) g f := fun h => by simpa [runD] using h
  have x3 : ∀ {g : Nat} {f : PyData → Nat → Prop}, f (.int r.n) g → oIx (runD r) (.int 3) g f := fun h => by simpa [runD] using h
  refine ⟨r, rfl, h1, x0 ⟨r.c, rfl, h1.c, Pp, wP, x3 ?_⟩⟩
  have q : ∀ d g', GapsR r d → g ≤ g' → Q d g' := q
  simp only [eu]
  have mn : (if csize r.c / NT.g2 r.s (csize r.c) < r.n then csize r.c / NT.g2 r.s (csize r.c) else r.n) = min r.n (roundI r) := by unfold roundI; split <;> omega
  simp [mn, -forT]
  refine x2 ?_
  simp [gp, wu, -forT]
  have hmn : 1 ≤ min r.n (roundI r) ∧ min r.n (roundI r) ≤ roundI r := by
    have : roundI r = csize r.c / NT.g2 r.s (csize r.c) := rfl
    omega
  refine ⟨Pp, (r.s / NT.g2 r.s (csize r.c) % (csize r.c / NT.g2 r.s (csize r.c)), csize r.c / NT.g2 r.s (csize r.c), min r.n (roundI r) - 1), rfl, ⟨⟨by show 1 ≤ roundI r; omega, by show csize r.c / NT.g2 r.s (csize r.c) ≤ 10 ^ 19; omega⟩, ⟨by show 0 ≤ min r.n (roundI r) - 1; omega, by show min r.n (roundI r) - 1 < roundI r; omega⟩, _, rfl, rg.cop⟩, Nat.zero_le _, fun d g1 hd hg1 => ?_⟩
  obtain ⟨a, i, c, j, R, ed⟩ := hd _ rfl rg.cop
  have hg1 : g ≤ g1 := by simpa using hg1
  have ed : d = .tuple [.tuple [.int a, .int i], .tuple [.int c, .int j]] := ed
  subst ed
  have R : GAP.Rs (roundI r) (r.s / NT.g2 r.s (csize r.c)) (min r.n (roundI r)) a i c j := by
    have e : min r.n (roundI r) - 1 + 1 = min r.n (roundI r) := by omega
    have R' : GAP.Rs (roundI r) (r.s / NT.g2 r.s (csize r.c)) (min r.n (roundI r) - 1 + 1) a i c j := R
    rwa [e] at R'
  refine ⟨_, rfl, rfl, _, _, rfl, _, _, rfl, rfl, ?_⟩
  have det := R.gi.det
  have ii := R.gi.i
  have ij := R.gi.j
  have ia := R.gi.a
  have ic := R.gi.b
  have y1 : a * 1 ≤ a * j := Int.mul_le_mul_of_nonneg_left ij ia
  have y2 : c * 1 ≤ c * i := Int.mul_le_mul_of_nonneg_left ii (by omega)
  have eP : roundI r = csize r.c / NT.g2 r.s (csize r.c) := rfl
  have R1 := R.hN
  have R2 := R.hi
  have R3 := R.hj
  have sz : (4000 : Nat) ≤ sizeLine := by decide +kernel
  simp [-forT]
  refine ⟨by omega, by omega, ?_⟩
  generalize hN : min r.n (roundI r) = N at *
  generalize hu : NT.g2 r.s (csize r.c) = u at *
  refine forT_suf (fun ds E => ∃ (pd pr : List (Int × Int)) (A : List (Int × Int)) (e0 e1 e3 e4 e5 e7 e8 : S), [(a, N - i), (c, N - j), (a + c, i + j - N)] = pd ++ pr ∧ ds = pr.map pI ∧ E = [e0, e1, S.v (.int u), e3, e4, e5, .hd (dctI A), e7, e8] ∧ IsTally A (tal u pd) ∧ A.length ≤ pd.length) _ _ ⟨[], _, [], _, _, _, _, _, _, _, rfl, rfl, rfl, .nil, Nat.le_refl _⟩ (fun d l E hI hh hq => ?_) fun E hI => ?_
  · obtain ⟨pd, pr, A, e0, e1, e3, e4, e5, e7, e8, hps, hds, rfl, hA, hAl⟩ := hI
    cases pr with
    | nil => simp at hds
    | cons p pr =>
      simp only [List.map_cons, List.cons.injEq] at hds
      obtain ⟨rfl, rfl⟩ := hds
      have hp : (0 ≤ p.2 ∧ p.2 ≤ 10 ^ 40) ∧ 0 ≤ p.1 ∧ p.1 ≤ 10 ^ 40 := by
        have : p ∈ [(a, N - i), (c, N - j), (a + c, i + j - N)] := by rw [hps]; simp
        simp at this
        rcases this with rfl | rfl | rfl <;> simp <;> omega
      have hl : pd.length + pr.length + 1 = 3 := by
        have := congrArg List.length hps
        simp at this
        omega
      simp [lp_gaps_0, pI]
      have w1 := wb_s (n := p.1) (by omega) (by omega)
      refine ⟨_, _, ⟨rfl, rfl⟩, _, _, rfl, rfl, ?_⟩
      simp [w1, wu, dctI_val, dctI_len]
      rcases Int.lt_or_le 0 p.2 with z | z
      · refine .inr ⟨z, by omega, ?_⟩
        rw [dctI_put]
        have hT := hA.put (p.1 * u) (n := p.2.toNat) (by omega)
        rw [show ((p.2.toNat : Nat) : Int) = p.2 by omega] at hT
        have := putP_len A (p.1 * u) ((valP A (p.1 * u)).getD 0 + p.2)
        exact hq _ ⟨pd ++ [p], pr, _, e0, e1, e3, e4, e5, _, _, by simp [hps], rfl, rfl, by simpa [tal] using hT, by simp; omega⟩
      · have e0' : p.2 = 0 := by omega
        exact .inl ⟨z, hq _ ⟨pd ++ [p], pr, A, e0, e1, e3, e4, e5, _, _, by simp [hps], rfl, rfl, by simpa [tal, e0'] using hA, by simp; omega⟩⟩
  · obtain ⟨pd, pr, A, e0, e1, e3, e4, e5, e7, e8, hps, hds, rfl, hA, hAl⟩ := hI
    have : pr = [] := by
      cases pr with
      | nil => rfl
      | cons p pr => simp at hds
    subst this
    rw [List.append_nil] at hps
    subst hps
    have hk := dctI_keys A
    have ei := dctI_items A
    simp only [List.length_cons, List.length_nil] at hAl
    simp
    refine ⟨fun k b hm => hk (k, b) hm, ?_⟩
    rw [ei]
    refine cSort_pairs A _ _ ?_
    simp
    refine q _ g1 ⟨a, i, c, j, A, by rw [hN, hu]; exact R, ⟨hA.nd, fun g d => ?_⟩, rfl⟩ (by omega)
    rw [hA.iff]
    have : ((GAP.row N).map fun k => u * GAP.gk N i j a c k).Perm (tal u [(a, N - i), (c, N - j), (a + c, i + j - N)]) := by
      rw [GAP.row_gk (R := R)]
      simp only [tal, List.flatMap_cons, List.flatMap_nil, List.append_nil, Int.mul_comm u, List.append_assoc]
      exact List.Perm.append_left _ List.perm_append_comm
    rw [hN, hu, this.count_eq]
end TL
namespace TL
open PySem PySem.Spec PyProof.Rows L2 RZ

abbrev n__law_parted : List Str := ["near", "far", "some", "gap", "many", "left", "more", "top", "rest", "one"]
def lp__law_parted_0 : TSt := (xAsg (xBin (xVar 2) (xLst (xaCons (xTup (xaCons (xVar 3) (xaCons (xVar 4) xaNil))) xaNil)) oAdd) (yName 2))
def lp__law_parted_1 : TSt := (xDPut 5 (xBin (xHdGet 5 (xVar 9) (xC (.int 0))) (xC (.int 1)) oAdd) (xVar 9))
def lp__law_parted_2 : TSt := (xIfS (xTest (xBin (xHdGet 5 (xVar 3) (xC (.int 0))) (xDGet (xVar 6) (xVar 3)) oLt2))
    (xSeq (xAsg (xBin (xVar 7) (xVar 3) oSub) (yName 8))
    (xSeq (xFor (xiTup (xTup (xaCons (xVar 3) (xaCons (xVar 8) xaNil)))) (yName 9)
    lp__law_parted_1)
    (xFrzD 5 (xRet (xBin (xCB (xaCons (xComp (xiKeys (xVar 5)) (yName 9) (xTest (xBin (xDGet (xVar 5) (xVar 9)) (xC (.int 0)) oGt)) (xTup (xaCons (xVar 9) (xaCons (xDGet (xVar 5) (xVar 9)) xaNil))) [9]) xaNil) cDictL) (xVar 6) oEqDic)))))
    xNext)
def tb__law_parted : TSt := (xSeq (xAsg (xLst xaNil) (yName 2))
    (xSeq (xFor (xiSeq (xVar 0)) (yTup 2 (yCons (yName 3) (yCons (yName 4) yNil)))
    lp__law_parted_0)
    (xSeq (xPar2DX 5 6 (xndDict (xVar 2)) (xCB (xaCons (xCB (xaCons (xVar 1) xaNil) cLst) xaNil) cDictL))
    (xSeq (xAsg (xCB (xaCons (xHdKeys 5) xaNil) cMaxS) (yName 7))
    (xSeq (xDPut 5 (xBin (xHdIx 5 (xVar 7)) (xC (.int 1)) oSub) (xVar 7))
    (xSeq (xFor (xiSeq (xCB (xaCons (xCB (xaCons (xVar 6) xaNil) cLstD) xaNil) cSort)) (yName 3)
    lp__law_parted_2)
    (xRet (xC (.bool false)))))))))
abbrev pt__law_parted : PT' := ptG (fun a : List (Int × Int) × List (Int × Int) => [.v (.tuple (a.1.map pI)), .v (.tuple (a.2.map pI))]) (fun a => ∃ x y L, Prt a.1 a.2 x y L) (fun _ => 0) fun a d => d = .bool true
abbrev pt__law_parted_mo := @ptG_mo _ (fun a : List (Int × Int) × List (Int × Int) => [.v (.tuple (a.1.map pI)), .v (.tuple (a.2.map pI))]) (fun a => ∃ x y L, Prt a.1 a.2 x y L) (fun _ => 0) fun a d => d = .bool true
theorem sp__law_parted : ∀ ss g Q, ss.length = 2 → pt__law_parted ss g Q → tb__law_parted { nx := fun _ g' => Q .none g', rt := Q } (envOf n__law_parted ss) g := by
  rintro ss g Q _ ⟨⟨A, A'⟩, rfl, ⟨x, y, L, P⟩, -, q⟩
  have q : ∀ g', g ≤ g' → Q (.bool true) g' := fun g' hg => q _ g' rfl (by simpa using hg)
  have P : Prt A A' x y L := P
  have sz : (4000 : Nat) ≤ sizeLine := by decide +kernel
  simp [tb__law_parted, -forT, -compT]
  refine forT_suf (fun ds E => ∃ (k : Nat) (e3 e4 : S), ds = (A.drop k).map pI ∧ E = [S.v (.tuple (A.map pI)), S.v (.tuple (A'.map pI)), S.v (.list ((A.take k).map pI)), e3, e4, .un, .un, .un, .un, .un]) _ _ ⟨0, _, _, rfl, rfl⟩ (fun d ds E hI hh hq => ?_) fun E hI => ?_
  · obtain ⟨k, e3, e4, hds, rfl⟩ := hI
    have hk2 : k < A.length := by
      rcases Nat.lt_or_ge k A.length with z | z
      · exact z
      · rw [List.drop_of_length_le z] at hds
        cases hds
    rw [List.drop_eq_getElem_cons hk2, List.map_cons] at hds
    obtain ⟨rfl, rfl⟩ := List.cons.inj hds
    simp [lp__law_parted_0, pI]
    have := P.len
    refine ⟨_, _, ⟨rfl, rfl⟩, _, _, rfl, rfl, by omega, by omega, by omega, ?_⟩
    refine hq _ ⟨k + 1, .v (.int A[k].1), .v (.int A[k].2), rfl, ?_⟩
    rw [List.take_add_one, List.getElem?_eq_getElem hk2, List.map_append, List.map_take]
    rfl
  obtain ⟨k, e3, e4, hds, rfl⟩ := hI
  have hk : A.length ≤ k := by
    rcases Nat.lt_or_ge k A.length with z | z
    · rw [List.drop_eq_getElem_cons z] at hds
      cases hds
    · exact z
  rw [List.take_of_length_le hk]
  simp [-forT, -compT]
  have nk : ∀ {B : List (Int × Int)}, (B.map (·.1)).Nodup → ((dctI B).map (·.1)).Nodup := fun {B} h => by
    have : (dctI B).map (·.1) = (B.map (·.1)).map Sum.inl := by simp [dctI, Function.comp_def]
    rw [this]
    exact List.Pairwise.map _ (fun a b (h : a ≠ b) e => h (Sum.inl.inj e)) h
  have xt : ((x + y), (((x + y) :: L).count (x + y) : Int)) ∈ A := (P.h.iff _ _).2 ⟨rfl, by rw [List.count_cons_self]; omega⟩
  have vt : valP A (x + y) = some (((x + y) :: L).count (x + y) : Int) := (valP_mem P.h.nd).2 xt
  refine ⟨dctI A, pairsD_I A, nk P.h.nd, ?_⟩
  rw [show ∀ l g Q, cLst [.tuple l] g Q = Q (.list l) g from fun _ _ _ => rfl]
  refine ⟨_, dctI A', rfl, pairsD_I A', nk P.h'.nd, A.map (·.1), by simp [dctI, kD, Function.comp_def], x + y, List.mem_map.2 ⟨_, xt, rfl⟩, fun z hz => ?_, ?_⟩
  · obtain ⟨p, hp, rfl⟩ := List.mem_map.1 hz
    obtain ⟨e1, e2⟩ := (P.h.iff p.1 p.2).1 hp
    have : p.1 ∈ (x + y) :: L := List.count_pos_iff.1 (by omega)
    rcases List.mem_cons.1 this with h | h
    · omega
    · exact P.top _ h
  rw [dctI_val, vt]
  refine ⟨_, rfl, ?_⟩
  rw [oI_ii, dctI_put]
  have hA := P.h.hs.put (g := x + y) (c := (((x + y) :: L).count (x + y) : Int) - 1) (L' := L) (by rw [List.count_cons_self]; omega) fun k hk => (List.count_cons_of_ne (Ne.symm hk)).symm
  have lA := P.len
  have := putP_len A (x + y) ((((x + y) :: L).count (x + y) : Int) - 1)
  refine ⟨by rw [dctI_len]; omega, dctI A', rfl, ?_⟩
  have ek : ((dctI A').map fun p => kD p.1) = (A'.map (·.1)).map .int := by simp [dctI, kD, Function.comp_def]
  rw [ek]
  refine cSort_ints _ _ _ ?_
  refine ⟨_, rfl, ?_⟩
  generalize putP A (x + y) ((((x + y) :: L).count (x + y) : Int) - 1) = B at *
  refine forT_suf (fun ds E => ∃ (ks : List Int) (e3 : S), ds = ks.map .int ∧ x ∈ ks ∧ ks.Pairwise (· ≤ ·) ∧ (∀ z ∈ ks, z ∈ A'.map (·.1)) ∧ E = [.v (.tuple (A.map pI)), .v (.tuple (A'.map pI)), .v (.list (A.map pI)), e3, e4, .hd (dctI B), .v (dicD (dctI A')), .v (.int (x + y)), .un, .un]) _ _ ⟨_, _, rfl, ?_, ?_, ?_, rfl⟩ (fun d ds E hI hh hq => ?_) fun E hI => ?_
  · rw [List.mem_mergeSort]
    exact List.mem_map.2 ⟨_, (P.h'.iff x ((x :: y :: L).count x)).2 ⟨rfl, by rw [List.count_cons_self]; omega⟩, rfl⟩
  · exact (List.pairwise_mergeSort leI_trans leI_total _).imp fun h => by simpa [leI] using h
  · exact fun z hz => List.mem_mergeSort.1 hz
  · obtain ⟨ks, e3, hds, hx, hp, hm, rfl⟩ := hI
    cases ks with
    | nil => cases hds
    | cons z ks =>
    obtain ⟨rfl, rfl⟩ := List.cons.inj hds
    obtain ⟨p, hpA, rfl⟩ := List.mem_map.1 (hm z List.mem_cons_self)
    simp [lp__law_parted_2, -forT, -compT]
    have p2 := ((P.h'.iff p.1 p.2).1 hpA).1
    have vp : valP A' p.1 = some p.2 := (valP_mem P.h'.nd).2 hpA
    have gB : (valP (dctI B) (Sum.inl p.1)).getD (PyData.int 0) = .int (L.count p.1) := by
      rw [dctI_val, ← hA.val]
      cases valP B p.1 <;> rfl
    refine ⟨_, dicD_I A', .int p.2, by rw [lookD_I, vp]; rfl, ?_⟩
    rw [gB, oLt2_i]
    have zx : p.1 ≤ x := by
      rcases List.mem_cons.1 hx with e | e
      · omega
      · exact (List.pairwise_cons.1 hp).1 x e
    generalize p.1 = z at *
    rw [List.count_cons, List.count_cons] at p2
    have xy := P.xy
    by_cases c : z = x
    · subst c
      refine .inr ⟨by simp at p2 ⊢; split at p2 <;> omega, by omega, ?_⟩
      rw [show z + y - z = y by omega]
      simp [lp__law_parted_1, -compT]
      rw [gB, oAdd_ii, dctI_put, dctI_val]
      have h1 := hA.put (g := z) (c := (L.count z : Int) + 1) (L' := z :: L) (by rw [List.count_cons_self]; omega) fun k hk => List.count_cons_of_ne (Ne.symm hk)
      have l1 := putP_len B z ((L.count z : Int) + 1)
      generalize putP B z ((L.count z : Int) + 1) = B1 at *
      have g1 : ((valP B1 y).map PyData.int).getD (.int 0) = .int ((z :: L).count y) := by
        rw [← h1.val]
        cases valP B1 y <;> rfl
      rw [g1, oAdd_ii, dctI_put]
      have h2 := h1.put (g := y) (c := ((z :: L).count y : Int) + 1) (L' := y :: z :: L) (by rw [List.count_cons_self]; omega) fun k hk => List.count_cons_of_ne (Ne.symm hk)
      have l2 := putP_len B1 y (((z :: L).count y : Int) + 1)
      generalize putP B1 y (((z :: L).count y : Int) + 1) = C at *
      refine ⟨by rw [dctI_len]; omega, by rw [dctI_len]; omega, _, dicD_I C, ?_⟩
      have eC : keysD (C.map fun p => (PyData.int p.1, PyData.int p.2)) = C.map fun p => .int p.1 := by simp [keysD, Function.comp_def]
      rw [eC]
      refine ⟨by simp; omega, compT_pure (p := fun d => match d with | .int g => decide (0 < (valP C g).getD 0) | _ => false) (f := fun d => match d with | .int g => .tuple [.int g, .int ((valP C g).getD 0)] | _ => .none) _ _ _ _ _ (fun d hd k1 k2 hk1 hk2 => ?_) ?_⟩
      · obtain ⟨p, hp, rfl⟩ := List.mem_map.1 hd
        have hv : valP C p.1 = some p.2 := (valP_mem h2.nd).2 hp
        simp [dicD_I, lookD_I, hv]
        simp [hv] at hk1 hk2
        rcases Int.lt_or_le 0 p.2 with c | c
        · exact .inr ⟨c, by omega, hk1 c⟩
        · exact .inl ⟨c, hk2 c⟩
      · have eF : ([] : List PyData) ++ ((C.map fun p => PyData.int p.1).filter fun d => match d with | .int g => decide (0 < (valP C g).getD 0) | _ => false).map (fun d => match d with | .int g => PyData.tuple [.int g, .int ((valP C g).getD 0)] | _ => .none) = (C.filter fun p => decide (0 < p.2)).map pI := by
          rw [List.nil_append, List.filter_map, List.map_map]
          have e1 : C.filter ((fun d => match d with | .int g => decide (0 < (valP C g).getD 0) | _ => false) ∘ fun p => PyData.int p.1) = C.filter fun p => decide (0 < p.2) := List.filter_congr fun p hp => by
            have hv : valP C p.1 = some p.2 := (valP_mem h2.nd).2 hp
            simp [hv]
          rw [e1]
          refine List.map_congr_left fun p hp => ?_
          have hv : valP C p.1 = some p.2 := (valP_mem h2.nd).2 (List.mem_filter.1 hp).1
          simp [hv, pI]
        rw [eF]
        have h3 := h2.pos.perm1 (List.Perm.swap z y L)
        generalize (C.filter fun p => decide (0 < p.2)) = F at *
        refine ⟨_, dctI F, rfl, pairsD_I F, nk h3.nd, dctI F, dctI A', rfl, rfl, by rw [dctI_len, dctI_len]; exact h3.len2 P.h', fun p hp => ?_, q _ (Nat.le_refl _)⟩
        obtain ⟨p, hp', rfl⟩ := List.mem_map.1 hp
        refine ⟨?_, rfl⟩
        rw [dctI_val, (valP_mem P.h'.nd).2 ((P.h'.iff p.1 p.2).2 ((h3.iff p.1 p.2).1 hp'))]
        rfl
    · have c1 : ¬ z = y := by omega
      refine .inl ⟨by simp [Ne.symm c, Ne.symm c1] at p2 ⊢; omega, hq _ ⟨ks, _, rfl, ?_, (List.pairwise_cons.1 hp).2, fun w hw => hm w (List.mem_cons_of_mem _ hw), rfl⟩⟩
      rcases List.mem_cons.1 hx with e | e
      · exact absurd e.symm c
      · exact e
  · obtain ⟨ks, e3, hds, hx, hp, hm, rfl⟩ := hI
    cases ks with
    | nil => cases hx
    | cons => cases hds
end TL
namespace TL
open PySem PySem.Spec PyProof.Rows L2 RZ

abbrev n_round_of : List Str := ["run"]
def tb_round_of : TSt := (xSeq (xDrop (xCall (xaCons (xVar 0) xaNil) pt_need_run))
    (xRet (xCall (xaCons (xVar 0) xaNil) pt_round_length)))
abbrev pt_round_of : PT' := ptA (fun a : Run => [.v (runD a)]) (fun a => a.Ok) fun a => .int (csize a.c / NT.g2 a.s (csize a.c))
abbrev pt_round_of_mo := @ptA_mo _ (fun a : Run => [.v (runD a)]) (fun a => a.Ok) fun a => .int (csize a.c / NT.g2 a.s (csize a.c))
theorem sp_round_of : ∀ ss g Q, ss.length = 1 → pt_round_of ss g Q → tb_round_of { nx := fun _ g' => Q .none g', rt := Q } (envOf n_round_of ss) g := by
  rintro ss g Q _ ⟨r, rfl, ok, q⟩
  have ok : r.Ok := ok
  simp [tb_round_of, ptA, and_assoc]
  exact ⟨r, rfl, ok, r, rfl, ok, q⟩
end TL
namespace TL
open PySem PySem.Spec PyProof.Rows L2 RZ

abbrev n__law_right : List Str := ["run_so", "total", "said", "kinds", "many", "later", "pair"]
def tb__law_right : TSt := (xSeq (xAsg (xCall (xaCons (xVar 0) xaNil) pt_gaps) (yName 2))
    (xSeq (xPar2 3 4 (xaCons (xComp (xiSeq (xVar 2)) (yName 6) xYes (xBin (xVar 6) (xC (.int 0)) oIx) [6]) (xaCons (xCB (xaCons (xComp (xiSeq (xVar 2)) (yName 6) xYes (xBin (xVar 6) (xC (.int 1)) oIx) [6]) xaNil) cSumS) xaNil)))
    (xSeq (xIfS (xOr (xTest (xBin (xVar 3) (xSortSet (xVar 3)) oNe)) (xOr (xNot (xTest (xChain (xC (.int 1)) (xCB (xaCons (xVar 3) xaNil) cLen) (xC (.int 3)) oLe2 oLe2))) (xTest (xBin (xCB (xaCons (xVar 3) xaNil) cMinS) (xC (.int 1)) oLt2))))
    (xRet (xC (.bool false)))
    xNext)
    (xSeq (xIfS (xTest (xBin (xCB (xaCons (xComp (xiSeq (xVar 2)) (yName 6) xYes (xBin (xVar 6) (xC (.int 1)) oIx) [6]) xaNil) cMinS) (xC (.int 1)) oLt2))
    (xRet (xC (.bool false)))
    xNext)
    (xSeq (xIfS (xOr (xTest (xBin (xCB (xaCons (xComp (xiSeq (xVar 2)) (yName 6) xYes (xBin (xBin (xVar 6) (xC (.int 0)) oIx) (xBin (xVar 6) (xC (.int 1)) oIx) oMulB) [6]) xaNil) cSumS) (xVar 1) oNe)) (xTest (xBin (xVar 4) (xCB (xaCons (xBin (xVar 0) (xC (.int 3)) oIx) (xaCons (xCall (xaCons (xVar 0) xaNil) pt_round_of) xaNil)) cMin) oNe)))
    (xRet (xC (.bool false)))
    xNext)
    (xSeq (xIfS (xAnd (xTest (xBin (xCB (xaCons (xVar 3) xaNil) cLen) (xC (.int 3)) oEq)) (xTest (xBin (xBin (xBin (xVar 3) (xC (.int 0)) oIx) (xBin (xVar 3) (xC (.int 1)) oIx) oAdd) (xBin (xVar 3) (xC (.int 2)) oIx) oNe)))
    (xRet (xC (.bool false)))
    xNext)
    (xSeq (xIfS (xTest (xBin (xBin (xVar 0) (xC (.int 3)) oIx) (xBin (xC (.int 10)) (xC (.int 30)) oPow) oGe))
    (xRet (xC (.bool true)))
    xNext)
    (xSeq (xAsg (xCall (xaCons (xBin (xBin (xSlice (xVar 0) xoNone (xoSome (xC (.int 3)))) (xTup (xaCons (xBin (xBin (xVar 0) (xC (.int 3)) oIx) (xC (.int 1)) oAdd) xaNil)) oAdd) (xSlice (xVar 0) (xoSome (xC (.int 4))) xoNone) oAdd) xaNil) pt_gaps) (yName 5))
    (xSeq (xIfS (xTest (xBin (xBin (xVar 0) (xC (.int 3)) oIx) (xCall (xaCons (xVar 0) xaNil) pt_round_of) oGe))
    (xRet (xBin (xVar 5) (xVar 2) oEq))
    xNext)
    (xRet (xCall (xaCons (xVar 2) (xaCons (xVar 5) xaNil)) pt__law_parted)))))))))))
abbrev pt__law_right : PT' := ptG (fun a : Run => [.v (runD a), .v (.int (csize a.c))]) (fun a => a.Ok) (fun _ => 0) fun a d => d = .bool true
abbrev pt__law_right_mo := @ptG_mo _ (fun a : Run => [.v (runD a), .v (.int (csize a.c))]) (fun a => a.Ok) (fun _ => 0) fun a d => d = .bool true
theorem sp__law_right : ∀ ss g Q, ss.length = 2 → pt__law_right ss g Q → tb__law_right { nx := fun _ g' => Q .none g', rt := Q } (envOf n__law_right ss) g := by
  rintro ss g Q _ ⟨r, rfl, h, -, q⟩
  have h : r.Ok := h
  have q : ∀ g', g ≤ g' → Q (.bool true) g' := fun g' hg => q _ g' rfl (by simpa using hg)
  have sz : (4000 : Nat) ≤ sizeLine := by decide +kernel
  have hM := h.c.size
  have hn := h.n
  simp [tb__law_right, -compT]
  refine ⟨r, rfl, h, Nat.zero_le _, fun d g1 hd hg => ?_⟩
  have hg : g ≤ g1 := by simpa using hg
  obtain ⟨S, a, i, c, j, rfl, G⟩ := gaps_more h hd
  have l3 := G.p.len
  refine ⟨_, rfl, by simp; omega, ?_⟩
  refine compT_pure (p := fun _ => true) (f := fun d => match d with | .tuple [x, _] => x | _ => .none) _ _ _ _ _ (fun d hd k1 k2 hk1 hk2 => ?_) ?_
  · obtain ⟨p, hp, rfl⟩ := List.mem_map.1 hd
    simp [pI]
    exact hk1 rfl
  rw [List.nil_append, List.filter_eq_self.2 fun _ _ => rfl, List.map_map]
  rw [show ((fun d => match d with | PyData.tuple [x, _] => x | _ => .none) ∘ pI) = (fun p : Int × Int => PyData.int p.1) from rfl]
  refine ⟨_, rfl, by simp; omega, ?_⟩
  refine compT_pure (p := fun _ => true) (f := fun d => match d with | .tuple [_, x] => x | _ => .none) _ _ _ _ _ (fun d hd k1 k2 hk1 hk2 => ?_) ?_
  · obtain ⟨p, hp, rfl⟩ := List.mem_map.1 hd
    simp [pI]
    exact hk1 rfl
  rw [List.nil_append, List.filter_eq_self.2 fun _ _ => rfl, List.map_map]
  rw [show ((fun d => match d with | PyData.tuple [_, x] => x | _ => .none) ∘ pI) = (fun p : Int × Int => PyData.int p.2) from rfl]
  refine ⟨S.map (·.2), by simp [Function.comp_def], _, _, ⟨rfl, rfl⟩, S.map (·.1), by simp [Function.comp_def], by simp; omega, S.map (·.1), G.asc, fun k => Iff.rfl, by simp; omega, ?_⟩
  have e1 : S.map (fun p => PyData.int p.1) = (S.map (·.1)).map .int := by simp [Function.comp_def]
  have e2 : S.map (fun p => PyData.int p.2) = (S.map (·.2)).map .int := by simp [Function.comp_def]
  have mn : ∀ l : List Int, l ≠ [] → ∃ m ∈ l, ∀ y ∈ l, m ≤ y := by
    intro l
    induction l with
    | nil => intro h; exact absurd rfl h
    | cons x l ih =>
      intro _
      by_cases c : l = []
      · exact ⟨x, List.mem_cons_self, fun y hy => by rw [c] at hy; simp at hy; omega⟩
      · obtain ⟨m, h1, h2⟩ := ih c
        rcases Int.le_total x m with z | z
        · exact ⟨x, List.mem_cons_self, fun y hy => by
            rcases List.mem_cons.1 hy with e | e
            · omega
            · have := h2 y e; omega⟩
        · exact ⟨m, List.mem_cons_of_mem _ h1, fun y hy => by
            rcases List.mem_cons.1 hy with e | e
            · omega
            · exact h2 y e⟩
  have ne := G.ne
  have lS : 0 < S.length := List.length_pos_iff.2 ne
  rw [e1]
  refine ⟨⟨nd_ints _, nd_ints _, shaped_ints _, shaped_ints _⟩, .inl ⟨by rw [eqv_ll, ev_ints]; simp, ?_⟩⟩
  rw [cll, List.length_map, List.length_map, show oLe2 (.int 1) (.int (S.length : Nat)) g1 = fun Q => Q (.bool (decide ((1 : Int) ≤ S.length))) g1 from rfl]
  refine .inr ⟨by simp; omega, ?_⟩
  rw [show oLe2 (.int (S.length : Nat)) (.int 3) g1 = fun Q => Q (.bool (decide ((S.length : Int) ≤ 3))) g1 from rfl]
  refine .inr ⟨by simp; omega, _, .inl rfl, ?_⟩
  obtain ⟨m, m1, m2⟩ := mn (S.map (·.1)) (by simpa using ne)
  refine ⟨m, m1, m2, .inl ⟨?_, _, rfl, by simp; omega, ?_⟩⟩
  · obtain ⟨p, hp, rfl⟩ := List.mem_map.1 m1
    exact G.one p hp
  refine compT_pure (p := fun _ => true) (f := fun d => match d with | .tuple [_, x] => x | _ => .none) _ _ _ _ _ (fun d hd k1 k2 hk1 hk2 => ?_) ?_
  · obtain ⟨p, hp, rfl⟩ := List.mem_map.1 hd
    simp [pI]
    exact hk1 rfl
  rw [List.nil_append, List.filter_eq_self.2 fun _ _ => rfl, List.map_map]
  rw [show ((fun d => match d with | PyData.tuple [_, x] => x | _ => .none) ∘ pI) = (fun p : Int × Int => PyData.int p.2) from rfl, e2]
  obtain ⟨w, w1, w2⟩ := mn (S.map (·.2)) (by simpa using ne)
  refine ⟨_, rfl, w, w1, w2, .inl ⟨?_, _, rfl, by simp; omega, ?_⟩⟩
  · obtain ⟨p, hp, rfl⟩ := List.mem_map.1 w1
    have := (G.p.bd p hp).2.1
    omega
  refine compT_pure (p := fun _ => true) (f := fun d => match d with | .tuple [.int x, .int y] => .int (x * y) | _ => .none) _ _ _ _ _ (fun d hd k1 k2 hk1 hk2 => ?_) ?_
  · obtain ⟨p, hp, rfl⟩ := List.mem_map.1 hd
    have := G.p.bd p hp
    simp [pI]
    exact ⟨⟨wb_of (by omega) (by omega), wb_of (by omega) (by omega)⟩, hk1 rfl⟩
  rw [List.nil_append, List.filter_eq_self.2 fun _ _ => rfl, List.map_map]
  rw [show ((fun d => match d with | PyData.tuple [.int x, .int y] => PyData.int (x * y) | _ => .none) ∘ pI) = (fun p : Int × Int => PyData.int (p.1 * p.2)) from rfl]
  refine ⟨S.map fun p => p.1 * p.2, by simp [Function.comp_def], .inl ⟨G.p.sum, ?_⟩⟩
  simp [runD, -compT]
  have shn := shown_gaps G.p (by omega)
  have fin : ∀ gg, g ≤ gg → (r.n < 1000000000000000000000000000000 ∧ 1 ≤ sizeLine ∧ 4 ≤ sizeLine ∧ 5 ≤ sizeLine ∧ pt_gaps [TL.S.v (runD { r with n := r.n + 1 })] gg (fun d g1 => pt_round_of [TL.S.v (runD r)] g1 fun e g2 => oI (fun i j => .bool (decide (j ≤ i))) (.int r.n) e g2 fun d_1 g' => (d_1 = .bool false ∧ pt__law_parted [TL.S.v (.tuple (S.map pI)), TL.S.v d] g' Q ∨ d_1 = .bool true ∧ (noDict d = true ∧ noDicts (S.map pI) = true ∧ SeqAt.shaped d = true ∧ SeqAt.shaped (.tuple (S.map pI)) = true) ∧ Q (.bool (d.eqv (.tuple (S.map pI)))) g')) ∨ 1000000000000000000000000000000 ≤ r.n ∧ Q (.bool true) gg) := fun gg hgg => by
    rcases Int.lt_or_le r.n 1000000000000000000000000000000 with c | c
    · have h' : Run.Ok { r with n := r.n + 1 } := ⟨h.c, h.b, h.s, ⟨by show 1 ≤ r.n + 1; omega, by show r.n + 1 ≤ _; omega⟩, h.k⟩
      refine .inl ⟨c, by omega, by omega, by omega, _, rfl, h', Nat.zero_le _, fun d g3 hd2 hg3 => ⟨r, rfl, h, ?_⟩⟩
      have hg3 : gg ≤ g3 := by simpa using hg3
      show oI (fun i j => PyData.bool (decide (j ≤ i))) (.int r.n) (.int (roundI r)) g3 _
      rw [oI_ii]
      rcases Int.lt_or_le r.n (roundI r) with z | z
      · obtain ⟨S', a', i', c', j', rfl, G'⟩ := gaps_more h' hd2
        refine .inl ⟨by have z : ¬ roundI r ≤ r.n := by omega
                        exact congrArg PyData.bool (decide_eq_false z), (S, S'), rfl, gaps_parted h (by omega) z G G', Nat.zero_le _, fun d g4 hd hg4 => ?_⟩
        have hg4 : g3 ≤ g4 := by simpa using hg4
        rw [hd]
        exact q _ (by omega)
      · have e := gaps_still h z hd hd2
        subst e
        refine .inr ⟨congrArg PyData.bool (decide_eq_true z), ⟨shn.noDict, shn.noDict, shn.shaped, shn.shaped⟩, ?_⟩
        rw [shn.refl]
        exact q _ (by omega)
    · exact .inr ⟨c, q _ hgg⟩
  refine ⟨r, rfl, h, ?_⟩
  show _ ∧ _
  have em : (if roundI r < r.n then roundI r else r.n) = min r.n (roundI r) := by split <;> omega
  simp [cI2]
  refine .inl ⟨?_, ?_⟩
  · show (S.map (·.2)).sum = if roundI r < r.n then roundI r else r.n
    rw [em]
    exact G.p.many
  split
  · rename_i c3
    obtain ⟨p, p', t, e⟩ : ∃ p p' t, S = [p, p', t] := by
      exact (fun (T : List (Int × Int)) (h : T.length = 3) => show ∃ p p' t, T = [p, p', t] from match T, h with
        | [p, p', t], _ => ⟨p, p', t, rfl⟩) S (by omega)
    have three := G.p.three p p' t e
    refine ⟨_, ⟨p.1, ⟨p.2, by rw [e]; rfl⟩, rfl⟩, _, ⟨p'.1, ⟨p'.2, by rw [e]; rfl⟩, rfl⟩, ?_⟩
    rw [oAdd_ii]
    exact ⟨_, ⟨t.1, ⟨t.2, by rw [e]; rfl⟩, rfl⟩, ⟨rfl, rfl, rfl, rfl⟩, .inl ⟨by rw [eqv_ii, three]; simp, fin _ hg⟩⟩
  · exact fin _ hg
end TL
namespace TL
open PySem PySem.Spec PyProof.Rows L2 RZ

abbrev n__law_gaps : List Str := ["numbers_so", "total", "some", "found", "k", "number", "far", "gap"]
def lp__law_gaps_0 : TSt := (xSeq (xAsg (xIf (xTest (xBin (xBin (xVar 4) (xC (.int 1)) oAdd) (xCB (xaCons (xVar 2) xaNil) cLen) oLt2)) (xBin (xVar 2) (xBin (xVar 4) (xC (.int 1)) oAdd) oIx) (xBin (xBin (xVar 2) (xC (.int 0)) oIx) (xVar 1) oAdd)) (yName 6))
    (xDPut 3 (xBin (xHdGet 3 (xBin (xVar 6) (xVar 5) oSub) (xC (.int 0))) (xC (.int 1)) oAdd) (xBin (xVar 6) (xVar 5) oSub)))
def tb__law_gaps : TSt := (xSeq (xPar2D 2 3 (xSortSet (xVar 0)))
    (xSeq (xFor (xiEnum (xaCons (xVar 2) xaNil)) (yTup 2 (yCons (yName 4) (yCons (yName 5) yNil)))
    lp__law_gaps_0)
    (xFrzD 3 (xRet (xCB (xaCons (xCB (xaCons (xComp (xiKeys (xVar 3)) (yName 7) xYes (xTup (xaCons (xVar 7) (xaCons (xDGet (xVar 3) (xVar 7)) xaNil))) [7]) xaNil) cSort) xaNil) cTup)))))
abbrev pt__law_gaps : PT' := ptG (fun a : Run => [.v (.list ((shL a a.n).map .int)), .v (.int (csize a.c))]) (fun a => a.Ok ∧ csize a.c ≤ 64 ∧ a.n ≤ 60) (fun _ => 0) fun a d => GapsL a d
abbrev pt__law_gaps_mo := @ptG_mo _ (fun a : Run => [.v (.list ((shL a a.n).map .int)), .v (.int (csize a.c))]) (fun a => a.Ok ∧ csize a.c ≤ 64 ∧ a.n ≤ 60) (fun _ => 0) fun a d => GapsL a d
theorem sp__law_gaps : ∀ ss g Q, ss.length = 2 → pt__law_gaps ss g Q → tb__law_gaps { nx := fun _ g' => Q .none g', rt := Q } (envOf n__law_gaps ss) g := by
  rintro ss g Q _ ⟨r, rfl, ⟨h1, h2, h3⟩, -, q⟩
  have h1 : r.Ok := h1
  have h2 : csize r.c ≤ 64 := h2
  have h3 : r.n ≤ 60 := h3
  have q : ∀ d g', GapsL r d → g ≤ g' → Q d g' := fun d g' h hg => q d g' h (by simpa using hg)
  have hM := h1.c.size
  have hn := h1.n
  have sz : (4000 : Nat) ≤ sizeLine := by decide +kernel
  obtain ⟨ms, m1, m2⟩ := sorted_ex (shL r r.n)
  have ln : (shL r r.n).length ≤ 60 := by unfold shL; rw [List.length_map, List.length_range]; omega
  simp [tb__law_gaps, -forT, -compT]
  have mem : ∀ x, x ∈ ms ↔ ∃ k, 0 ≤ k ∧ k < r.n ∧ x = GAP.pts (csize r.c) r.s r.b k := fun x => by
    rw [m2]
    unfold shL
    rw [List.mem_map]
    constructor
    · rintro ⟨k, hk, rfl⟩
      have := List.mem_range.1 hk
      exact ⟨_, by omega, by omega, rfl⟩
    · rintro ⟨k, k0, k1, rfl⟩
      exact ⟨k.toNat, List.mem_range.2 (by omega), by rw [show ((k.toNat : Nat) : Int) = k by omega]; rfl⟩
  have ml : ms.length ≤ 60 := by
    have := nodup_sub (lt_nodup m1) fun x hx => (m2 x).1 hx
    omega
  refine ⟨shL r r.n, rfl, by omega, ms, m1, m2, by omega, ?_⟩
  cases ms with
  | nil =>
    have := (mem (GAP.pts (csize r.c) r.s r.b 0)).2 ⟨0, by omega, by omega, rfl⟩
    simp at this
  | cons y0 l =>
  have hp := m1
  refine forT_suf (fun ds E => ∃ (k : Nat) (A : List (Int × Int)) (e4 e5 e6 e7 : S), ds = enumD k (((y0 :: l).drop k).map .int) ∧ k ≤ (y0 :: l).length ∧ E = [S.v (.list ((shL r r.n).map .int)), S.v (.int (csize r.c)), S.v (.list ((y0 :: l).map .int)), .hd (dctI A), e4, e5, e6, e7] ∧ IsTally A ((GAP.cycG (y0 + csize r.c) (y0 :: l)).take k) ∧ A.length ≤ k) _ _ ⟨0, [], _, _, _, _, rfl, Nat.zero_le _, rfl, by simpa using IsTally.nil, Nat.le_refl _⟩ (fun d ds E hI hh hq => ?_) fun E hI => ?_
  · obtain ⟨k, A, e4, e5, e6, e7, hds, hk, rfl, hA, hAl⟩ := hI
    have hk2 : k < (y0 :: l).length := by
      rcases Nat.lt_or_ge k (y0 :: l).length with z | z
      · exact z
      · rw [List.drop_of_length_le z] at hds
        cases hds
    rw [List.drop_eq_getElem_cons hk2, List.map_cons] at hds
    obtain ⟨rfl, rfl⟩ := List.cons.inj hds
    have hy : (y0 :: l)[k]? = some (y0 :: l)[k] := List.getElem?_eq_getElem hk2
    generalize (y0 :: l)[k] = y at *
    obtain ⟨z, hz⟩ : ∃ z, ((y0 :: l) ++ [y0 + csize r.c])[k + 1]? = some z := ⟨_, List.getElem?_eq_getElem (by simp at hk2 ⊢; omega)⟩
    have cg := cyc_get _ _ _ _ _ hy hz
    simp [lp__law_gaps_0, dctI_val, dctI_len]
    simp only [List.length_cons] at ml hk2
    have put : ∀ (f d1 : S), hh [S.v (.list ((shL r r.n).map .int)), S.v (.int (csize r.c)), S.v (.list (PyData.int y0 :: l.map .int)), S.hd (putP (dctI A) (Sum.inl (z - y)) (.int ((valP A (z - y)).getD 0 + 1))), S.v (.int k), S.v (.int y), d1, f] g := fun f d1 => by
      rw [dctI_put]
      have hT := hA.put (z - y) (n := 1) (by omega)
      have := putP_len A (z - y) ((valP A (z - y)).getD 0 + 1)
      refine hq _ ⟨k + 1, putP A (z - y) ((valP A (z - y)).getD 0 + 1), S.v (.int (k : Nat)), S.v (.int y), d1, f, rfl, by simp; omega, rfl, ?_, by omega⟩
      rw [List.take_add_one, cg]
      simpa using hT
    have get : (valP (dctI A) (Sum.inl (z - y))).getD (PyData.int 0) = .int ((valP A (z - y)).getD 0) := by
      rw [dctI_val]
      cases valP A (z - y) <;> rfl
    refine ⟨_, _, ⟨rfl, rfl⟩, _, _, rfl, rfl, ?_⟩
    rw [oAdd_ii, oLt2_i]
    by_cases c : k + 1 < l.length + 1
    · refine .inr ⟨by simp; omega, ?_⟩
      rw [oAdd_ii]
      show oIx (.list ((y0 :: l).map .int)) (.int ((k : Int) + 1)) _ _
      have hz2 : (y0 :: l)[k + 1]? = some z := by
        rw [List.getElem?_append_left (by simp; omega)] at hz
        exact hz
      rw [oIx_l]
      refine ⟨.int z, by rw [show ((k : Nat) : Int) + 1 = ((k + 1 : Nat) : Int) by omega, atI_lit, List.getElem?_map, hz2]; rfl, oi_of ⟨Sum.inl (z - y), rfl, ?_⟩⟩
      rw [get, oAdd_ii]
      exact oi_of ⟨Sum.inl (z - y), rfl, by omega, put _ _⟩
    · refine .inl ⟨by simp; omega, oi_of ?_⟩
      have ez : z = y0 + csize r.c := by
        have : k + 1 = (y0 :: l).length := by simp; omega
        rw [this, List.getElem?_append_right (Nat.le_refl _), Nat.sub_self] at hz
        exact (Option.some.inj hz).symm
      rw [← ez]
      refine ⟨Sum.inl (z - y), rfl, ?_⟩
      rw [get, oAdd_ii]
      exact oi_of ⟨Sum.inl (z - y), rfl, by omega, put _ _⟩
  · obtain ⟨k, A, e4, e5, e6, e7, hds, hk, rfl, hA, hAl⟩ := hI
    have hk2 : k = (y0 :: l).length := by
      rcases Nat.lt_or_ge k (y0 :: l).length with z | z
      · rw [List.drop_eq_getElem_cons z, List.map_cons] at hds
        cases hds
      · omega
    subst hk2
    rw [List.take_of_length_le (by rw [cyc_len]; exact Nat.le_refl _)] at hA
    simp [dicD_I, -compT]
    have ek : keysD (A.map fun p => (PyData.int p.1, PyData.int p.2)) = A.map fun p => .int p.1 := by simp [keysD, Function.comp_def]
    simp only [List.length_cons] at ml hAl
    rw [ek]
    refine ⟨by simp; omega, compT_pure (p := fun _ => true) (f := fun d => match d with | .int g => .tuple [.int g, .int ((valP A g).getD 0)] | _ => .none) _ _ _ _ _ (fun d hd k1 k2 hk1 hk2 => ?_) ?_⟩
    · obtain ⟨p, hp, rfl⟩ := List.mem_map.1 hd
      have hv : valP A p.1 = some p.2 := (valP_mem hA.nd).2 hp
      simp [lookD_I, hv]
      exact ⟨by omega, by simpa [hv] using hk1 rfl⟩
    · rw [List.nil_append, List.filter_eq_self.2 fun _ _ => rfl, List.map_map]
      have e : (A.map ((fun d => match d with | .int g => PyData.tuple [.int g, .int ((valP A g).getD 0)] | _ => .none) ∘ fun p => PyData.int p.1)) = A.map pI := List.map_congr_left fun p hp => by
        have hv : valP A p.1 = some p.2 := (valP_mem hA.nd).2 hp
        simp [pI, hv]
      rw [e]
      refine cSort_pairs A _ _ ?_
      simp
      exact q _ g ⟨y0, l, A, hp, mem, hA, rfl⟩ (Nat.le_refl _)
end TL
namespace TL
open PySem PySem.Spec PyProof.Rows L2 RZ

abbrev n__law_numbers : List Str := ["run_so", "total", "k"]
def tb__law_numbers : TSt := (xRet (xComp (xiRng1 (xaCons (xBin (xVar 0) (xC (.int 3)) oIx) xaNil)) (yName 2) xYes (xBin (xCB (xaCons (xBin (xBin (xVar 0) (xC (.int 1)) oIx) (xBin (xVar 2) (xBin (xVar 0) (xC (.int 2)) oIx) oMulB) oAdd) xaNil) cInt) (xVar 1) oMod) [2]))
abbrev pt__law_numbers : PT' := ptA (fun a : Run => [.v (runD a), .v (.int (csize a.c))]) (fun a => a.Ok ∧ a.n ≤ 60) fun a => .list ((shL a a.n).map .int)
abbrev pt__law_numbers_mo := @ptA_mo _ (fun a : Run => [.v (runD a), .v (.int (csize a.c))]) (fun a => a.Ok ∧ a.n ≤ 60) fun a => .list ((shL a a.n).map .int)
theorem sp__law_numbers : ∀ ss g Q, ss.length = 2 → pt__law_numbers ss g Q → tb__law_numbers { nx := fun _ g' => Q .none g', rt := Q } (envOf n__law_numbers ss) g := by
  rintro ss g Q _ ⟨r, rfl, ⟨h, hn⟩, q⟩
  have h : r.Ok := h
  have hn : r.n ≤ 60 := hn
  have q : Q (.list ((shL r r.n).map .int)) g := q
  have sz : (4000 : Nat) ≤ sizeLine := by decide +kernel
  have hM := h.c.size
  have h1 := h.n
  have hs := h.s
  simp [tb__law_numbers, runD, -compT]
  refine ⟨by omega, by omega, by omega, ?_⟩
  refine compT_pure (p := fun _ => true) (f := shF r) _ _ _ _ _ (fun d hd k1 k2 hk1 hk2 => ?_) ?_
  · obtain ⟨i, rfl, i0, i1⟩ := range_mem hd
    have w1 := wb_s (n := i) (by omega) (by omega)
    have w2 := wb_s (n := r.s) (by omega) (by omega)
    simp [w1, w2, show 0 < csize r.c by omega]
    exact hk1 rfl
  rw [shL_eq]
  exact q
end TL
namespace TL
open PySem PySem.Spec PyProof.Rows L2 RZ

abbrev n_law : List Str := ["script", "m", "turn", "dials", "some", "run_so", "total"]
def lp_law_0 : TSt := (xSeq (xAsg (xCall (xaTok 1 xaNil) pt__law_counter) (yTup 2 (yCons (yName 3) (yCons (yName 4) yNil))))
    (xSeq (xAsg (xCall (xaTok 1 (xaCons (xVar 3) (xaCons (xCB (xaCons (xVar 4) xaNil) cLen) xaNil))) pt__law_run) (yName 5))
    (xSeq (xIfS (xTest (xBin (xCB (xaCons (xCall (xaCons (xVar 5) xaNil) pt_gaps) xaNil) cReprU) (xCB (xaCons (xCall (xaCons (xCall (xaCons (xVar 5) (xaCons (xCB (xaCons (xVar 4) xaNil) cLen) xaNil)) pt__law_numbers) (xaCons (xCB (xaCons (xVar 4) xaNil) cLen) xaNil)) pt__law_gaps) xaNil) cReprU) oNeS))
    (xRet (xC (.bool false)))
    xNext)
    (xSeq (xIfS (xNot (xTest (xCall (xaCons (xVar 5) (xaCons (xCB (xaCons (xVar 4) xaNil) cLen) xaNil)) pt__law_right)))
    (xRet (xC (.bool false)))
    xNext)
    (xSeq (xAsg (xCall (xaTok 1 xaNil) pt__law_great) (yTup 2 (yCons (yName 5) (yCons (yName 6) yNil))))
    (xIfS (xNot (xTest (xCall (xaCons (xVar 5) (xaCons (xVar 6) xaNil)) pt__law_right)))
    (xRet (xC (.bool false)))
    xNext))))))
def tb_law : TSt := (xSeq (xFor (xiRng1 (xaCons (xBin (xC (.int 6)) (xCB (xaCons (xC (.int 10)) (xaCons (xCB (xaCons (xVar 0) xaNil) cLen) xaNil)) cMin) oAdd) xaNil)) (yName 2)
    lp_law_0)
    (xRet (xC (.bool true))))
theorem sp_law (ns : List Int) (hn : ns.length ≤ 63) (g : Nat) (hg : 10000 ≤ g) : tb_law { nx := fun _ _ => False, rt := fun d _ => d = .bool true } [S.v (.list (ns.map .int)), S.tok, S.un, S.un, S.un, S.un, S.un] g := by
  have sz : (4000 : Nat) ≤ sizeLine := by decide +kernel
  unfold tb_law
  simp [-forT]
  refine ⟨by split <;> omega, by split <;> omega, ?_⟩
  have hl : (6 + if (ns.length : Int) < 10 then (ns.length : Int) else 10).toNat ≤ 16 := by split <;> omega
  refine forT_dr (c := 29) (fun E => ∃ e2 e3 e4 e5 e6, E = [S.v (.list (ns.map .int)), S.tok, e2, e3, e4, e5, e6]) _ _ _ ⟨_, _, _, _, _, rfl⟩ (by rw [rangeD_len]; omega) (fun dt hd E g hE hg h q => ?_) fun E g' hE hg' => ?_
  · obtain ⟨e2, e3, e4, e5, e6, rfl⟩ := hE
    simp [lp_law_0, -forT]
    have hg : 29 ≤ g := hg
    refine ⟨(), rfl, trivial, by show 4 ≤ g; omega, fun d g1 ⟨c, hc, ⟨c3, cD⟩, e⟩ hg1 => ?_⟩
    have hg1 : g ≤ g1 + 4 := hg1
    subst e
    have hs := hc.size
    have h64 : csize c ≤ 64 := by
      have pos : ∀ l : List Str, (∀ x ∈ l, x ∈ D81) → csize l ≤ 4 ^ l.length := by
        intro l
        induction l with
        | nil => intro _; decide
        | cons x l ih =>
          intro h
          have i := ih fun y hy => h y (List.mem_cons_of_mem _ hy)
          have a := d81_len x (h x List.mem_cons_self)
          have := csize_pos (c := l) fun y hy => d81_ok y (h y (List.mem_cons_of_mem _ hy))
          have := Int.mul_le_mul (show (x.length : Int) ≤ 4 by omega) i (by omega) (by omega)
          show (x.length : Int) * csize l ≤ _
          rw [List.length_cons, Int.pow_succ]
          omega
      have := pos c cD
      have h4 : c.length = 0 ∨ c.length = 1 ∨ c.length = 2 ∨ c.length = 3 := by omega
      rcases h4 with e | e | e | e <;> rw [e] at this <;> omega
    have ll : (((allT c).map PyData.str).length : Int) = csize c := by
      unfold allT
      rw [List.length_map, List.length_map, List.length_range]
      omega
    refine ⟨_, rfl, rfl, _, _, rfl, _, _, rfl, rfl, ?_⟩
    rw [cll, ll]
    refine ⟨c, rfl, hc, by show 4 ≤ g1; omega, fun d g2 ⟨r, hr, rc, rn, rk, rs, e⟩ hg2 => ?_⟩
    have hg2 : g1 ≤ g2 + 4 := hg2
    subst e
    subst rc
    refine ⟨r, rfl, hr, Nat.zero_le _, fun d3 g3 h3 hg3 => ?_⟩
    have hg3 : g2 ≤ g3 := by simpa using hg3
    obtain ⟨S, a, i, cc, j, rfl, G⟩ := gaps_more hr h3
    have sh := shown_gaps G.p (by omega)
    refine ⟨sh, ?_⟩
    rw [cll, ll]
    refine ⟨r, rfl, ⟨hr, rn⟩, ?_⟩
    show cLen [.list ((allT r.c).map .str)] g3 _
    rw [cll, ll]
    refine ⟨r, rfl, ⟨hr, h64, rn⟩, Nat.zero_le _, fun d4 g4 h4 hg4 => ?_⟩
    have hg4 : g3 ≤ g4 := by simpa using hg4
    have e := gaps_same hr h3 h4
    subst e
    refine ⟨sh, rfl, ?_⟩
    rw [cll, ll]
    refine ⟨r, rfl, hr, Nat.zero_le _, fun d5 g5 h5 hg5 => ⟨h5, ?_⟩⟩
    have hg5 : g4 ≤ g5 := by simpa using hg5
    refine ⟨(), rfl, trivial, by show 21 ≤ g5; omega, fun d6 g6 ⟨r2, hr2, e⟩ hg6 => ?_⟩
    have hg6 : g5 ≤ g6 + 21 := hg6
    subst e
    refine ⟨_, rfl, rfl, _, _, rfl, _, _, rfl, rfl, r2, rfl, hr2, Nat.zero_le _, fun d7 g7 h7 hg7 => ⟨h7, q _ _ ⟨_, _, _, _, _, rfl⟩ ?_⟩⟩
    have hg7 : g6 ≤ g7 := by simpa using hg7
    omega
  · obtain ⟨e2, e3, e4, e5, e6, rfl⟩ := hE
    simp
end TL
namespace TL
open PySem PySem.Spec PyProof.Rows L2 RZ

def topS (i : Nat) : Stmt := PySem.Challenge.pw_labelhouse_k82_whole_three_gaps.main.body.getD i (.Pass ⟨0, 0, 0, 0⟩)
abbrev s__law_begun : Stmt := topS 29
theorem sc__law_begun : FnScope n__law_begun ["script"] (defScope s__law_begun) := ⟨rfl, rfl, rfl, by decide +kernel, rfl, by decide +kernel, by decide +kernel⟩
abbrev s__law_mix : Stmt := topS 28
theorem sc__law_mix : FnScope n__law_mix ["cell", "spot"] (defScope s__law_mix) := ⟨rfl, rfl, rfl, by decide +kernel, rfl, by decide +kernel, by decide +kernel⟩
abbrev s__law_draw : Stmt := topS 30
theorem sc__law_draw : FnScope n__law_draw ["m", "limit"] (defScope s__law_draw) := ⟨rfl, rfl, rfl, by decide +kernel, rfl, by decide +kernel, by decide +kernel⟩
abbrev s__law_counter : Stmt := topS 32
theorem sc__law_counter : FnScope n__law_counter ["m"] (defScope s__law_counter) := ⟨rfl, rfl, rfl, by decide +kernel, rfl, by decide +kernel, by decide +kernel⟩
abbrev s__law_run : Stmt := topS 33
theorem sc__law_run : FnScope n__law_run ["m", "counter_so", "total"] (defScope s__law_run) := ⟨rfl, rfl, rfl, by decide +kernel, rfl, by decide +kernel, by decide +kernel⟩
abbrev s_is_dial : Stmt := topS 11
theorem sc_is_dial : FnScope n_is_dial ["value"] (defScope s_is_dial) := ⟨rfl, rfl, rfl, by decide +kernel, rfl, by decide +kernel, by decide +kernel⟩
abbrev s_need_counter : Stmt := topS 13
theorem sc_need_counter : FnScope n_need_counter ["thing"] (defScope s_need_counter) := ⟨rfl, rfl, rfl, by decide +kernel, rfl, by decide +kernel, by decide +kernel⟩
abbrev s_size_of : Stmt := topS 14
theorem sc_size_of : FnScope n_size_of ["counter"] (defScope s_size_of) := ⟨rfl, rfl, rfl, by decide +kernel, rfl, by decide +kernel, by decide +kernel⟩
abbrev s_size : Stmt := topS 15
theorem sc_size : FnScope n_size ["counter"] (defScope s_size) := ⟨rfl, rfl, rfl, by decide +kernel, rfl, by decide +kernel, by decide +kernel⟩
abbrev s__law_ten : Stmt := topS 31
theorem sc__law_ten : FnScope n__law_ten ["many"] (defScope s__law_ten) := ⟨rfl, rfl, rfl, by decide +kernel, rfl, by decide +kernel, by decide +kernel⟩
abbrev s__law_great : Stmt := topS 36
theorem sc__law_great : FnScope n__law_great ["m"] (defScope s__law_great) := ⟨rfl, rfl, rfl, by decide +kernel, rfl, by decide +kernel, by decide +kernel⟩
abbrev s_is_row : Stmt := topS 7
theorem sc_is_row : FnScope n_is_row ["value", "many"] (defScope s_is_row) := ⟨rfl, rfl, rfl, by decide +kernel, rfl, by decide +kernel, by decide +kernel⟩
abbrev s_is_counter : Stmt := topS 12
theorem sc_is_counter : FnScope n_is_counter ["value"] (defScope s_is_counter) := ⟨rfl, rfl, rfl, by decide +kernel, rfl, by decide +kernel, by decide +kernel⟩
abbrev s_is_whole : Stmt := topS 5
theorem sc_is_whole : FnScope n_is_whole ["value"] (defScope s_is_whole) := ⟨rfl, rfl, rfl, by decide +kernel, rfl, by decide +kernel, by decide +kernel⟩
abbrev s_is_between : Stmt := topS 6
theorem sc_is_between : FnScope n_is_between ["value", "low", "high"] (defScope s_is_between) := ⟨rfl, rfl, rfl, by decide +kernel, rfl, by decide +kernel, by decide +kernel⟩
abbrev s_need_run : Stmt := topS 22
theorem sc_need_run : FnScope n_need_run ["thing"] (defScope s_need_run) := ⟨rfl, rfl, rfl, by decide +kernel, rfl, by decide +kernel, by decide +kernel⟩
abbrev s_period_of : Stmt := topS 17
theorem sc_period_of : FnScope n_period_of ["step", "modulus"] (defScope s_period_of) := ⟨rfl, rfl, rfl, by decide +kernel, rfl, by decide +kernel, by decide +kernel⟩
abbrev s_round_length : Stmt := topS 23
theorem sc_round_length : FnScope n_round_length ["run"] (defScope s_round_length) := ⟨rfl, rfl, rfl, by decide +kernel, rfl, by decide +kernel, by decide +kernel⟩
abbrev s_nearest : Stmt := topS 25
theorem sc_nearest : FnScope n_nearest ["step", "modulus", "many"] (defScope s_nearest) := ⟨rfl, rfl, rfl, by decide +kernel, rfl, by decide +kernel, by decide +kernel⟩
abbrev s_gaps : Stmt := topS 26
theorem sc_gaps : FnScope n_gaps ["run"] (defScope s_gaps) := ⟨rfl, rfl, rfl, by decide +kernel, rfl, by decide +kernel, by decide +kernel⟩
abbrev s__law_parted : Stmt := topS 37
theorem sc__law_parted : FnScope n__law_parted ["near", "far"] (defScope s__law_parted) := ⟨rfl, rfl, rfl, by decide +kernel, rfl, by decide +kernel, by decide +kernel⟩
abbrev s_round_of : Stmt := topS 24
theorem sc_round_of : FnScope n_round_of ["run"] (defScope s_round_of) := ⟨rfl, rfl, rfl, by decide +kernel, rfl, by decide +kernel, by decide +kernel⟩
abbrev s__law_right : Stmt := topS 38
theorem sc__law_right : FnScope n__law_right ["run_so", "total"] (defScope s__law_right) := ⟨rfl, rfl, rfl, by decide +kernel, rfl, by decide +kernel, by decide +kernel⟩
abbrev s__law_gaps : Stmt := topS 35
theorem sc__law_gaps : FnScope n__law_gaps ["numbers_so", "total"] (defScope s__law_gaps) := ⟨rfl, rfl, rfl, by decide +kernel, rfl, by decide +kernel, by decide +kernel⟩
abbrev s__law_numbers : Stmt := topS 34
theorem sc__law_numbers : FnScope n__law_numbers ["run_so", "total"] (defScope s__law_numbers) := ⟨rfl, rfl, rfl, by decide +kernel, rfl, by decide +kernel, by decide +kernel⟩
abbrev s_law : Stmt := topS 39
theorem sc_law : FnScope n_law ["script"] (defScope s_law) := ⟨rfl, rfl, rfl, by decide +kernel, rfl, by decide +kernel, by decide +kernel⟩
/-- what the top has left -/
structure Tp (K : PySem.W.Frag) (w : World) (mg : Str → Option Value) where
  f__law_begun : Addr
  fd__law_begun : FuncData
  F__law_begun : Fun K "_law_begun" "_law_begun" s__law_begun f__law_begun fd__law_begun
  g__law_begun : mg "_law_begun" = some (.ref f__law_begun)
  b__law_begun : Binds K fd__law_begun ["script"] []
  f__law_mix : Addr
  fd__law_mix : FuncData
  F__law_mix : Fun K "_law_mix" "_law_mix" s__law_mix f__law_mix fd__law_mix
  g__law_mix : mg "_law_mix" = some (.ref f__law_mix)
  b__law_mix : Binds K fd__law_mix ["cell", "spot"] []
  f__law_draw : Addr
  fd__law_draw : FuncData
  F__law_draw : Fun K "_law_draw" "_law_draw" s__law_draw f__law_draw fd__law_draw
  g__law_draw : mg "_law_draw" = some (.ref f__law_draw)
  b__law_draw : Binds K fd__law_draw ["m", "limit"] []
  f__law_counter : Addr
  fd__law_counter : FuncData
  F__law_counter : Fun K "_law_counter" "_law_counter" s__law_counter f__law_counter fd__law_counter
  g__law_counter : mg "_law_counter" = some (.ref f__law_counter)
  b__law_counter : Binds K fd__law_counter ["m"] []
  f__law_run : Addr
  fd__law_run : FuncData
  F__law_run : Fun K "_law_run" "_law_run" s__law_run f__law_run fd__law_run
  g__law_run : mg "_law_run" = some (.ref f__law_run)
  b__law_run : Binds K fd__law_run ["m", "counter_so", "total"] []
  f_is_dial : Addr
  fd_is_dial : FuncData
  F_is_dial : Fun K "is_dial" "is_dial" s_is_dial f_is_dial fd_is_dial
  g_is_dial : mg "is_dial" = some (.ref f_is_dial)
  b_is_dial : Binds K fd_is_dial ["value"] []
  f_need_counter : Addr
  fd_need_counter : FuncData
  F_need_counter : Fun K "need_counter" "need_counter" s_need_counter f_need_counter fd_need_counter
  g_need_counter : mg "need_counter" = some (.ref f_need_counter)
  b_need_counter : Binds K fd_need_counter ["thing"] []
  f_size_of : Addr
  fd_size_of : FuncData
  F_size_of : Fun K "size_of" "size_of" s_size_of f_size_of fd_size_of
  g_size_of : mg "size_of" = some (.ref f_size_of)
  b_size_of : Binds K fd_size_of ["counter"] []
  f_size : Addr
  fd_size : FuncData
  F_size : Fun K "size" "size" s_size f_size fd_size
  g_size : mg "size" = some (.ref f_size)
  b_size : Binds K fd_size ["counter"] []
  f__law_ten : Addr
  fd__law_ten : FuncData
  F__law_ten : Fun K "_law_ten" "_law_ten" s__law_ten f__law_ten fd__law_ten
  g__law_ten : mg "_law_ten" = some (.ref f__law_ten)
  b__law_ten : Binds K fd__law_ten ["many"] []
  f__law_great : Addr
  fd__law_great : FuncData
  F__law_great : Fun K "_law_great" "_law_great" s__law_great f__law_great fd__law_great
  g__law_great : mg "_law_great" = some (.ref f__law_great)
  b__law_great : Binds K fd__law_great ["m"] []
  f_is_row : Addr
  fd_is_row : FuncData
  F_is_row : Fun K "is_row" "is_row" s_is_row f_is_row fd_is_row
  g_is_row : mg "is_row" = some (.ref f_is_row)
  b_is_row : Binds K fd_is_row ["value", "many"] []
  f_is_counter : Addr
  fd_is_counter : FuncData
  F_is_counter : Fun K "is_counter" "is_counter" s_is_counter f_is_counter fd_is_counter
  g_is_counter : mg "is_counter" = some (.ref f_is_counter)
  b_is_counter : Binds K fd_is_counter ["value"] []
  f_is_whole : Addr
  fd_is_whole : FuncData
  F_is_whole : Fun K "is_whole" "is_whole" s_is_whole f_is_whole fd_is_whole
  g_is_whole : mg "is_whole" = some (.ref f_is_whole)
  b_is_whole : Binds K fd_is_whole ["value"] []
  f_is_between : Addr
  fd_is_between : FuncData
  F_is_between : Fun K "is_between" "is_between" s_is_between f_is_between fd_is_between
  g_is_between : mg "is_between" = some (.ref f_is_between)
  b_is_between : Binds K fd_is_between ["value", "low", "high"] []
  f_need_run : Addr
  fd_need_run : FuncData
  F_need_run : Fun K "need_run" "need_run" s_need_run f_need_run fd_need_run
  g_need_run : mg "need_run" = some (.ref f_need_run)
  b_need_run : Binds K fd_need_run ["thing"] []
  f_period_of : Addr
  fd_period_of : FuncData
  F_period_of : Fun K "period_of" "period_of" s_period_of f_period_of fd_period_of
  g_period_of : mg "period_of" = some (.ref f_period_of)
  b_period_of : Binds K fd_period_of ["step", "modulus"] []
  f_round_length : Addr
  fd_round_length : FuncData
  F_round_length : Fun K "round_length" "round_length" s_round_length f_round_length fd_round_length
  g_round_length : mg "round_length" = some (.ref f_round_length)
  b_round_length : Binds K fd_round_length ["run"] []
  f_nearest : Addr
  fd_nearest : FuncData
  F_nearest : Fun K "nearest" "nearest" s_nearest f_nearest fd_nearest
  g_nearest : mg "nearest" = some (.ref f_nearest)
  b_nearest : Binds K fd_nearest ["step", "modulus", "many"] []
  f_gaps : Addr
  fd_gaps : FuncData
  F_gaps : Fun K "gaps" "gaps" s_gaps f_gaps fd_gaps
  g_gaps : mg "gaps" = some (.ref f_gaps)
  b_gaps : Binds K fd_gaps ["run"] []
  f__law_parted : Addr
  fd__law_parted : FuncData
  F__law_parted : Fun K "_law_parted" "_law_parted" s__law_parted f__law_parted fd__law_parted
  g__law_parted : mg "_law_parted" = some (.ref f__law_parted)
  b__law_parted : Binds K fd__law_parted ["near", "far"] []
  f_round_of : Addr
  fd_round_of : FuncData
  F_round_of : Fun K "round_of" "round_of" s_round_of f_round_of fd_round_of
  g_round_of : mg "round_of" = some (.ref f_round_of)
  b_round_of : Binds K fd_round_of ["run"] []
  f__law_right : Addr
  fd__law_right : FuncData
  F__law_right : Fun K "_law_right" "_law_right" s__law_right f__law_right fd__law_right
  g__law_right : mg "_law_right" = some (.ref f__law_right)
  b__law_right : Binds K fd__law_right ["run_so", "total"] []
  f__law_gaps : Addr
  fd__law_gaps : FuncData
  F__law_gaps : Fun K "_law_gaps" "_law_gaps" s__law_gaps f__law_gaps fd__law_gaps
  g__law_gaps : mg "_law_gaps" = some (.ref f__law_gaps)
  b__law_gaps : Binds K fd__law_gaps ["numbers_so", "total"] []
  f__law_numbers : Addr
  fd__law_numbers : FuncData
  F__law_numbers : Fun K "_law_numbers" "_law_numbers" s__law_numbers f__law_numbers fd__law_numbers
  g__law_numbers : mg "_law_numbers" = some (.ref f__law_numbers)
  b__law_numbers : Binds K fd__law_numbers ["run_so", "total"] []
  f_law : Addr
  fd_law : FuncData
  F_law : Fun K "law" "law" s_law f_law fd_law
  g_law : mg "law" = some (.ref f_law)
  b_law : Binds K fd_law ["script"] []
  m_all : mg "all" = none
  m_bool : mg "bool" = none
  m_dict : mg "dict" = none
  m_enumerate : mg "enumerate" = none
  m_int : mg "int" = none
  m_isinstance : mg "isinstance" = none
  m_len : mg "len" = none
  m_list : mg "list" = none
  m_max : mg "max" = none
  m_min : mg "min" = none
  m_ord : mg "ord" = none
  m_range : mg "range" = none
  m_repr : mg "repr" = none
  m_set : mg "set" = none
  m_sorted : mg "sorted" = none
  m_str : mg "str" = none
  m_sum : mg "sum" = none
  m_tuple : mg "tuple" = none
  i_gcd : mg "gcd" = some (.builtin "math.gcd")
  c_PERCENT : Cst K mg "PERCENT" (.int 37)
  c_MOST_DIALS : Cst K mg "MOST_DIALS" (.int 12)
  c_MOST_COPIES : Cst K mg "MOST_COPIES" (.int 1000)
  c_MOST_MANY : Cst K mg "MOST_MANY" (.int 1000000000000000000000000000000)
  c_MOST_STEP : Cst K mg "MOST_STEP" (.int 1000000000000000000)
end TL
namespace TL
open PySem PySem.Spec PyProof.Rows L2 RZ

section
variable {P : Program} {w : World} {K : PySem.W.Frag} {mg : Str → Option Value} {base : Heap}
theorem ok__law_begun (T : Tp K w mg) : FnOk P w K mg base CX0 1 T.f__law_begun T.fd__law_begun ["script"] (spBegunD K) := by
  have mli := T.m_list
  refine T.F__law_begun.ok sc__law_begun (fun vs H Q E h => ?_) (fun cdv A outer s H vs Q E hr h => ?_)
  · obtain ⟨a, ns, e, _⟩ := h
    rw [e]
    rfl
  obtain ⟨a, ns, e, hS, hl, q⟩ := h
  subst e
  let tB : TS := fun D σ Hx => ∃ (c : Addr) (cs : List Int), σ = [some (.ref a), some (.ref c), none] ∧ Same H Hx ∧ H c = none ∧ Hx c = some (.lst (cs.map V.int)) ∧ 0 < cs.length ∧ cs.length ≤ 63 ∧
    ∀ p r (rest : List Int) H', H p = none → H r = none → Same H H' → H' p = some (.dK (dkD c r 0)) → H' c = some (.lst (cs.map V.int)) → H' r = some (.lst (rest.map V.int)) → r ≠ c → rest.length = cs.length → D.rt (.ref p) H'
  refine ⟨_, pss_cons (ps_set (i := 1) sc__law_begun.nd rfl (.inl rfl) (pe_ifExp (pt_cmpR (op_neD hr.units) (pv 0) (pe_lst pa_nil) (nomark _)) (pe_callTy call_list_of (by rfl) mli (by decide +kernel) (pa_cons (pv 0) pa_nil)) (pe_lst (pa_cons pe_int pa_nil))))
    (L2.PSs.imp (t' := tB) (pss_one (ps_ret (pe_disp (pps_cons pe_str (pv 1)
    (pps_cons pe_str (pe_lc (own := [("cell", 2)]) (g := gName 2) (by rfl) sc__law_begun.nd (pi_list (pv 1)) (blkOk_by (own := [("cell", 2)]) (N := ["script", "some", "cell"]) (sc := defScope s__law_begun) (by decide +kernel))
        (fun _ _ _ _ _ => pg_name (i := 2) sc__law_begun.nd rfl (Or.inl rfl)) (fun _ _ _ _ _ => pts_nil) (fun _ _ _ _ _ => pe_ifExp (pt_cmpR op_ge (pv 2) (pe_op op_pow pe_int pe_int) (nomark _)) (pv 2) pe_int))
    (pps_cons pe_str pe_int pps_nil))) (by rfl) (by rfl) (fun z => by cases z) (by decide)))) ?B), ?A⟩
  case A =>
    refine ⟨_, rfl, Nat.zero_le _, fun p np => ?_⟩
    have s1 : Same H (upd H p (.lst [])) := same_new np
    refine ⟨.list (ns.map PyData.int), .list [], .lst (s1.seq hS) (dp_ints ns), .lst (.inl (.inl upd_same)) .nil, shaped_ints ns, shaped_ints [], _, rfl, ?_⟩
    rw [eqv_intnil]
    cases ns with
    | nil =>
      refine iteF ?_
      refine ⟨by decide +kernel, fun c nc => ⟨c, [0], rfl, s1.trans (same_new nc), s1.free nc, upd_same, by decide, by decide, fun p' r rest H' n1 n2 sm h1 h2 h3 ne le => q p' c r _ rest H' n1 (s1.free nc) n2 sm h1 h2 h3 ne le (by decide) (by decide)⟩⟩
    | cons x xs =>
      refine iteT ?_
      refine ⟨_, rfl, a, (x :: xs).map V.int, rfl, .inl (s1.seq hS), fun c nc => ⟨c, x :: xs, rfl, s1.trans (same_new nc), s1.free nc, upd_same, by simp, hl, fun p' r rest H' n1 n2 sm h1 h2 h3 ne le => q p' c r _ rest H' n1 (s1.free nc) n2 sm h1 h2 h3 ne le (by simp) hl⟩⟩
  case B =>
    intro D σ Hx ⟨c, cs, e1, sm, nc, hc, l0, l1, fin⟩
    subst e1
    intro p np
    have s1 : Same Hx (upd Hx p (.dK [])) := same_new np
    have ncp : c ≠ p := fun z => by rw [z, np] at hc; cases hc
    have hc1 : (upd Hx p (.dK [])) c = some (.lst (cs.map V.int)) := (upd_ne ncp).trans hc
    refine ⟨_, rfl, ?_⟩
    refine ⟨.ref c, rfl, c, rfl, ⟨_, .inl (.inl hc1)⟩, fun L nL => ?_⟩
    have nLp : L ≠ p := fun z => by rw [z, upd_same] at nL; cases nL
    have nLc : L ≠ c := fun z => by rw [z, hc1] at nL; cases nL
    refine lc_list (K := K) (a := c) (xs := cs.map V.int) (fun i H' => ∃ rest : List Int, rest.length = i ∧ H' L = some (.lst (rest.map V.int)) ∧ Same Hx H' ∧ H' p = some (.dK []) ∧ H' c = some (.lst (cs.map V.int))) ⟨[], rfl, upd_same, s1.trans (same_new nL), (upd_ne nLp.symm).trans upd_same, (upd_ne nLc.symm).trans hc1⟩ (fun i H' _ ⟨rest, _, _, s3, _, h⟩ => .inl (.inl h)) (fun i x H' ex ⟨rest, lr, hL, s3, hp, hc⟩ => ?_) (fun H' ⟨rest, lr, hL, s3, hp, hc⟩ => ?_)
    · obtain ⟨n, en⟩ : ∃ n : Int, x = .int n := by
        rw [List.getElem?_map] at ex
        cases z : cs[i]? with
        | none => rw [z] at ex; cases ex
        | some n => rw [z] at ex; exact ⟨n, (Option.some.inj ex).symm⟩
      subst en
      have li : i < cs.length := by
        have : i < (cs.map V.int).length := (List.getElem?_eq_some_iff.mp ex).1
        rwa [List.length_map] at this
      have sz : (4000 : Nat) ≤ sizeLine := by decide +kernel
      have nHL : Hx L = none := s1.free nL
      have fin : ∀ v : Int, ∃ acc, H' L = some (HO.lst acc) ∧ acc.length < sizeLine ∧ ∃ rest : List Int, rest.length = i + 1 ∧ upd H' L (HO.lst (acc ++ [V.int v])) L = some (HO.lst (List.map V.int rest)) ∧ Same Hx (upd H' L (HO.lst (acc ++ [V.int v]))) ∧ upd H' L (HO.lst (acc ++ [V.int v])) p = some (HO.dK []) ∧ upd H' L (HO.lst (acc ++ [V.int v])) c = some (HO.lst (List.map V.int cs)) := fun v =>
        ⟨_, hL, by rw [List.length_map]; omega, rest ++ [v], by simp [lr], by rw [upd_same]; simp, fun b o e => by rw [upd_ne (ne_of_none e nHL)]; exact s3 b o e, (upd_ne nLp.symm).trans hp, (upd_ne nLc.symm).trans hc⟩
      refine ⟨rfl, ?_⟩
      simp only [tYes, if_true]
      refine ⟨_, rfl, 10, 18, rfl, rfl, ⟨by decide, by decide, by decide⟩, n, _, rfl, rfl, _, rfl, ?_⟩
      exact ite2 (fun _ => ⟨_, rfl, fin n⟩) (fun _ => fin 0)
    · refine ⟨hp, [(kS "cells", .ref c), (kS "left", .ref L), (kS "spot", .int 0)], rfl, (by show 3 ≤ 15; decide), ?_⟩
      have em : mergeK [] [(kS "cells", V.ref c), (kS "left", V.ref L), (kS "spot", V.int 0)] = dkD c L 0 := mergeK_nodup _ [] (by simp)
      rw [em]
      exact fin p L rest _ (sm.free np) (sm.free (s1.free nL)) (fun b o e => by rw [upd_ne (ne_of_none (sm b o e) np)]; exact s3 b o (sm b o e)) upd_same ((upd_ne ncp).trans hc) ((upd_ne nLp).trans hL) nLc (by rw [lr]; simp)

end
end TL
namespace TL
open PySem PySem.Spec PyProof.Rows L2 RZ

section
variable {P : Program} {w : World} {K : PySem.W.Frag} {mg : Str → Option Value} {base : Heap}
theorem ok__law_mix (T : Tp K w mg) : FnOk P w K mg base CX0 1 T.f__law_mix T.fd__law_mix ["cell", "spot"] spMix := by
  have mi := T.m_int
  refine T.F__law_mix.ok sc__law_mix (fun vs H Q E h => ?_) (fun cdv A outer s H vs Q E hr h => ?_)
  · obtain ⟨c, s, e, _⟩ := h
    rw [e]
    rfl
  obtain ⟨c, sp, e, ⟨s0, s1⟩, q⟩ := h
  subst e
  have w1 : -(2 ^ 64) < sp ∧ sp < 2 ^ 64 := ⟨by omega, by omega⟩
  refine ⟨_, pss_cons (ps_set (i := 2) sc__law_mix.nd rfl (.inl rfl) (pe_op op_mod (pe_callTy call_int1 (by rfl) mi (by decide +kernel) (pa_cons (pe_op op_add (pe_op op_add (pe_op op_mul (pv 0) pe_int) (pe_op op_mul (pv 1) pe_int)) pe_int) pa_nil)) pe_int))
    (pss_cons (ps_set (i := 3) sc__law_mix.nd rfl (.inl rfl) (pe_op op_mod (pe_callTy call_int1 (by rfl) mi (by decide +kernel) (pa_cons (pe_op op_add (pe_op op_add (pe_op op_mul (pv 2) pe_int) (pv 0)) (pv 1)) pa_nil)) pe_int))
    (pss_one (ps_ret (pe_op op_mod (pe_callTy call_int1 (by rfl) mi (by decide +kernel) (pa_cons (pe_op op_add (pe_op op_mul (pv 3) pe_int) (pe_op op_mul (pe_op op_mul (pv 1) (pv 1)) pe_int)) pa_nil)) pe_int)))), ?_⟩
  refine ⟨_, rfl, _, 40503, rfl, rfl, .inr ⟨by decide, by decide⟩, _, rfl, _, 69069, rfl, rfl, .inr ⟨by decide, by decide⟩, _, _, rfl, rfl, _, _, rfl, rfl, .inl ⟨_, rfl, _, 2147483647, rfl, rfl, (by show (0 : Int) < 2147483647; decide), ?_⟩⟩
  refine ⟨_, rfl, _, 48271, rfl, rfl, .inr ⟨by decide, by decide⟩, _, rfl, _, _, rfl, rfl, _, rfl, _, _, rfl, rfl, .inl ⟨_, rfl, _, 2147483647, rfl, rfl, (by show (0 : Int) < 2147483647; decide), ?_⟩⟩
  refine ⟨_, rfl, _, 16807, rfl, rfl, .inr ⟨by decide, by decide⟩, _, rfl, _, rfl, _, _, rfl, rfl, .inr w1, _, 7919, rfl, rfl, .inr ⟨by decide, by decide⟩, _, _, rfl, rfl, .inl ⟨_, rfl, _, 2147483647, rfl, rfl, (by show (0 : Int) < 2147483647; decide), ?_⟩⟩
  exact q _ (Int.emod_nonneg _ (by decide))

end
end TL
namespace TL
open PySem PySem.Spec PyProof.Rows L2 RZ

section
variable {P : Program} {w : World} {K : PySem.W.Frag} {mg : Str → Option Value} {base : Heap}
theorem ok__law_draw (T : Tp K w mg) (am : Addr) : FnOk P w K mg base CX0 2 T.f__law_draw T.fd__law_draw ["m", "limit"] (spD K am (JD am) 2 ptNextD) := by
  have mi := T.m_int
  have ml := T.m_len
  refine T.F__law_draw.ok sc__law_draw (fun vs H Q E h => ?_) (fun cdv A outer s H vs Q E hr h => ?_)
  · obtain ⟨cl, g, ss, l, _⟩ := h
    exact l
  obtain ⟨cl, g, ss, l, ⟨c, r, cells, rest, n, pb0, ⟨l0, lc⟩, n0, ng⟩, rs, tot, e, t0, t1, g1, q⟩ := h
  subst e
  have ev : vs = [.ref am, .int tot] := by
    cases rs with
    | tok t =>
      cases t with
      | v h t => cases t; cases h; rfl
  subst ev
  have hu := hu_of hr
  refine ⟨_, pss_cons (ps_set (i := 2) sc__law_draw.nd rfl (.inl rfl) (pe_dget hu (pv 0) pe_str (fun _ _ => rfl)))
    (pss_cons (ps_dput hu (pv 0) pe_str (pe_op op_add (pv 2) pe_int) rfl)
    (pss_cons (ps_set (i := 3) sc__law_draw.nd rfl (.inl rfl) (pe_op op_mod (pe_callTy call_int1 (by rfl) mi (by decide +kernel) (pa_cons (pv 2) pa_nil)) (pe_callB call_len_seq (by rfl) ml (by decide +kernel) (pa_cons (pe_dget hu (pv 0) pe_str (fun _ _ => rfl)) pa_nil))))
    (pss_cons (ps_set (i := 4) sc__law_draw.nd rfl (.inl rfl) (pe_ix ix_list (pe_dget hu (pv 0) pe_str (fun _ _ => rfl)) (pv 3) (fun _ _ => rfl)))
    (pss_cons (ps_if (pt_cmpR op_gt (pv 4) pe_int (nomark _))
        (pss_cons (ps_asg (pe_op op_divB (pv 4) (pv 1)) (pg_sub (pe_dget hu (pv 0) pe_str (fun _ _ => rfl)) (pv 3) set_list))
        (pss_one (ps_ret (pe_op op_mod (pe_callTy call_int1 (by rfl) mi (by decide +kernel) (pa_cons (pv 4) pa_nil)) (pv 1))))) pss_nil)
    (pss_one (ps_ret (pe_op op_mod (pe_callTy call_int1 (by rfl) mi (by decide +kernel) (pa_cons (pe_op op_fdiv (pe_call (dvs := []) (ok__law_mix T) hr (by rfl) T.g__law_mix T.F__law_mix.kp T.b__law_mix .nil pass0 (pa_cons (pe_ix ix_list (pe_dget hu (pv 0) pe_str (fun _ _ => rfl)) (pv 3) (fun _ _ => rfl)) (pa_cons (pv 2) pa_nil))) pe_int) pa_nil)) (pv 1)))))))), ?_⟩
  -- spot = m["spot"]
  refine ⟨_, rfl, am, .int n, rfl, .inl ⟨_, kS "spot", .inl pb0.d, rfl, (dkD_spot c r n).symm⟩, ?_⟩
  -- m["spot"] = spot + 1
  refine ⟨_, rfl, n, 1, rfl, rfl, ?_⟩
  refine ⟨_, rfl, am, _, rfl, .inl ⟨_, kS "spot", pb0.d, rfl, dkD_len _ _ _, rfl⟩, ?_⟩
  rw [dkD_putN]
  have nc : am ≠ c := ne_of pb0.d pb0.hc (by intro z; cases z)
  have nr : am ≠ r := ne_of pb0.d pb0.hr (by intro z; cases z)
  let u2 : Wd := ⟨upd H am (.dK (dkD c r (n + 1))), cl⟩
  have pb2 : PDx am c r cells rest (n + 1) u2 := ⟨upd_same, (upd_ne nc.symm).trans pb0.hc, (upd_ne nr.symm).trans pb0.hr, pb0.ca, pb0.cc, pb0.cr, pb0.ne, pb0.lr⟩
  have go2 : Go ⟨H, cl⟩ u2 := go_write2 pb0.d pb0.ca
  have hl : (0 : Int) < (cells.map V.int).length := by rw [List.length_map]; omega
  have i0 : 0 ≤ n % ((cells.map V.int).length : Int) := Int.emod_nonneg _ (by omega)
  have i1 : n % ((cells.map V.int).length : Int) < ((cells.map V.int).length : Int) := Int.emod_lt_of_pos _ hl
  obtain ⟨j, hj⟩ : ∃ j : Nat, n % ((cells.map V.int).length : Int) = (j : Int) := ⟨_, (Int.toNat_of_nonneg i0).symm⟩
  have jl : j < cells.length := by
    rw [hj, List.length_map] at i1
    omega
  have jr : j < rest.length := by rw [pb0.lr]; exact jl
  have ej : (cells.map V.int)[j]? = some (.int cells[j]) := by
    rw [List.getElem?_map, List.getElem?_eq_getElem jl]
    rfl
  have er : (rest.map V.int)[j]? = some (.int rest[j]) := by
    rw [List.getElem?_map, List.getElem?_eq_getElem jr]
    rfl
  -- here
  refine ⟨_, rfl, .inl ⟨n, rfl, _, rfl, am, .ref c, rfl, .inl ⟨_, kS "cells", .inl pb2.d, rfl, (dkD_cells c r (n + 1)).symm⟩, c, _, rfl, .inl (.inl (.inl pb2.hc)), n, _, rfl, rfl, hl, ?_⟩⟩
  -- left
  refine ⟨_, rfl, am, .ref r, rfl, .inl ⟨_, kS "left", .inl pb2.d, rfl, (dkD_rest c r (n + 1)).symm⟩, _, rfl, r, _, _, _, rfl, rfl, .inl (.inl pb2.hr), (by rw [hj]; exact atI_nat er), ?_⟩
  refine ⟨_, rfl, _, _, rfl, rfl, _, rfl, ?_⟩
  refine ite2 (fun _ => ?_) (fun _ => ?_)
  · have ix : L2.ixN (rest.map V.int).length (n % ((cells.map V.int).length : Int)) = some j := by
      rw [hj]
      simp [L2.ixN]
      omega
    refine ⟨_, rfl, _, rfl, rest[j], tot, rfl, rfl, ⟨t0, t1⟩, _, rfl, am, .ref r, rfl, .inl ⟨_, kS "left", .inl pb2.d, rfl, (dkD_rest c r (n + 1)).symm⟩, _, rfl, r, rest.map V.int, _, j, rfl, rfl, pb2.hr, ix, ?_⟩
    have e3 : (rest.map V.int).set j (V.int (rest[j] / tot)) = (rest.set j (rest[j] / tot)).map V.int := by rw [List.map_set]
    rw [e3]
    refine ⟨_, rfl, .inl ⟨rest[j], rfl, _, rfl, rest[j], tot, rfl, rfl, t0, ?_⟩⟩
    exact q (rest[j] % tot) (Int.emod_nonneg _ (by omega)) (Int.emod_lt_of_pos _ t0) ⟨_, u2.cl⟩ (.int _) (go2.trans (go_write2 pb2.hr pb2.cr)) ⟨c, r, cells, rest.set j (rest[j] / tot), n + 1, ⟨(upd_ne nr).trans pb2.d, (upd_ne pb2.ne.symm).trans pb2.hc, upd_same, pb2.ca, pb2.cc, pb2.cr, pb2.ne, by simp [pb2.lr]⟩, ⟨l0, lc⟩, by omega, by omega⟩ (.int _)
  · refine ⟨_, rfl, am, .ref c, rfl, .inl ⟨_, kS "cells", .inl pb2.d, rfl, (dkD_cells c r (n + 1)).symm⟩, _, rfl, c, _, _, _, rfl, rfl, .inl (.inl pb2.hc), (by rw [hj]; exact atI_nat ej), _, rfl, ?_⟩
    refine ⟨cells[j], n, rfl, ⟨n0, by omega⟩, fun k k0 => ?_⟩
    refine ⟨k, 97, rfl, rfl, ⟨by decide, by decide⟩, .inl ⟨_, rfl, _, rfl, _, tot, rfl, rfl, t0, ?_⟩⟩
    exact q _ (Int.emod_nonneg _ (by omega)) (Int.emod_lt_of_pos _ t0) u2 (.int _) go2 ⟨c, r, cells, rest, n + 1, pb2, ⟨l0, lc⟩, by omega, by omega⟩ (.int _)

end
end TL
namespace TL
open PySem PySem.Spec PyProof.Rows L2 RZ

section
variable {P : Program} {w : World} {K : PySem.W.Frag} {mg : Str → Option Value} {base : Heap}
theorem ok__law_counter (T : Tp K w mg) (am : Addr) : FnG P w K mg base CX0 3 T.f__law_counter T.fd__law_counter ["m"] (spD K am (JD am) 1 pt__law_counter) :=
  fn_okG (G := ⟨am, (JD am), (JD.st am), ⟨fun _ => none, fun _ => 0⟩⟩) (k := 2) T.F__law_counter sc__law_counter rfl pt__law_counter_mo fun u X cdv A outer s H E hX hr hg => by
    subst hX
    exact ⟨tb__law_counter, (xs_cons (xs_set 1 (xe_callTy call_tupF cd_tup (by rfl) T.m_tuple (by decide +kernel) (xa_cons (xe_lc (own := [("k", 6)]) (by rfl) sc__law_counter.nd (xi_rng1 (by rfl) T.m_range (xa_cons (xe_add xe_int (xe_callG (ok__law_draw T am).g pt__law_draw_mo hr hg (by rfl) T.g__law_draw T.F__law_draw.kp T.b__law_draw (xl_tok 0 (pv 0) (xl_cons xe_int xl_nil)))) xa_nil)) (blkOk_by (own := [("k", 6)]) (N := n__law_counter) (sc := defScope s__law_counter) (by decide +kernel)) (xgb_name 6 (fun _ _ _ _ _ => pg_name (i := 6) sc__law_counter.nd rfl (by first | exact Or.inl rfl | exact Or.inr rfl))) (by decide) (fun _ _ _ _ _ => xts_nil) (fun _ _ _ _ _ => (xe_ix (xe_lst (xa_cons xe_str (xa_cons xe_str (xa_cons xe_str (xa_cons xe_str xa_nil))))) (xe_callG (ok__law_draw T am).g pt__law_draw_mo hr hg (by rfl) T.g__law_draw T.F__law_draw.kp T.b__law_draw (xl_tok 0 (pv 0) (xl_cons xe_int xl_nil))) (fun _ _ => rfl)))) xa_nil)) (fun _ he => ps_set (i := 1) sc__law_counter.nd rfl (by first | exact Or.inl rfl | exact Or.inr rfl) he))
    (xs_cons (xs_set 2 (xe_lst (xa_cons xe_str xa_nil)) (fun _ he => ps_set (i := 2) sc__law_counter.nd rfl (by first | exact Or.inl rfl | exact Or.inr rfl) he))
    (xs_cons (xs_for PassesOwn.never (by rfl) (xi_seq (xe_var 1 (pv 1))) (xg_name 3 (pg_name (i := 3) sc__law_counter.nd rfl (by first | exact Or.inl rfl | exact Or.inr rfl)))
    (xs_cons (xs_set 4 (xe_lst xa_nil) (fun _ he => ps_set (i := 4) sc__law_counter.nd rfl (by first | exact Or.inl rfl | exact Or.inr rfl) he))
    (xs_cons (xs_for PassesOwn.never (by rfl) (xi_seq (xe_var 2 (pv 2))) (xg_name 5 (pg_name (i := 5) sc__law_counter.nd rfl (by first | exact Or.inl rfl | exact Or.inr rfl)))
    (xs_one (xs_set 4 (xe_add (xe_var 4 (pv 4)) (xe_lc (own := [("sign", 7)]) (by rfl) sc__law_counter.nd (xi_seq (xe_var 3 (pv 3))) (blkOk_by (own := [("sign", 7)]) (N := n__law_counter) (sc := defScope s__law_counter) (by decide +kernel)) (xgb_name 7 (fun _ _ _ _ _ => pg_name (i := 7) sc__law_counter.nd rfl (by first | exact Or.inl rfl | exact Or.inr rfl))) (by decide) (fun _ _ _ _ _ => xts_nil) (fun _ _ _ _ _ => (xe_add (xe_var 5 (pv 5)) (xe_var 7 (pv 7)))))) (fun _ he => ps_set (i := 4) sc__law_counter.nd rfl (by first | exact Or.inl rfl | exact Or.inr rfl) he))))
    (xs_one (xs_set 2 (xe_var 4 (pv 4)) (fun _ he => ps_set (i := 2) sc__law_counter.nd rfl (by first | exact Or.inl rfl | exact Or.inr rfl) he))))))
    (xs_one (xs_ret (xe_tup (xa_cons (xe_var 1 (pv 1)) (xa_cons (xe_var 2 (pv 2)) xa_nil)))))))), sp__law_counter⟩
end
end TL
namespace TL
open PySem PySem.Spec PyProof.Rows L2 RZ

section
variable {P : Program} {w : World} {K : PySem.W.Frag} {mg : Str → Option Value} {base : Heap}
theorem ok__law_run (T : Tp K w mg) (am : Addr) : FnG P w K mg base CX0 3 T.f__law_run T.fd__law_run ["m", "counter_so", "total"] (spD K am (JD am) 3 pt__law_run) :=
  fn_okG (G := ⟨am, (JD am), (JD.st am), ⟨fun _ => none, fun _ => 0⟩⟩) (k := 2) T.F__law_run sc__law_run rfl pt__law_run_mo fun u X cdv A outer s H E hX hr hg => by
    subst hX
    exact ⟨tb__law_run, (xs_one (xs_ret (xe_tup (xa_cons (xe_var 1 (pv 1)) (xa_cons (xe_callG (ok__law_draw T am).g pt__law_draw_mo hr hg (by rfl) T.g__law_draw T.F__law_draw.kp T.b__law_draw (xl_tok 0 (pv 0) (xl_cons (xe_var 2 (pv 2)) xl_nil))) (xa_cons (xe_sub (xe_callG (ok__law_draw T am).g pt__law_draw_mo hr hg (by rfl) T.g__law_draw T.F__law_draw.kp T.b__law_draw (xl_tok 0 (pv 0) (xl_cons xe_int xl_nil))) xe_int) (xa_cons (xe_add xe_int (xe_callG (ok__law_draw T am).g pt__law_draw_mo hr hg (by rfl) T.g__law_draw T.F__law_draw.kp T.b__law_draw (xl_tok 0 (pv 0) (xl_cons xe_int xl_nil)))) (xa_cons (xe_add xe_int (xe_callG (ok__law_draw T am).g pt__law_draw_mo hr hg (by rfl) T.g__law_draw T.F__law_draw.kp T.b__law_draw (xl_tok 0 (pv 0) (xl_cons xe_int xl_nil)))) xa_nil)))))))), sp__law_run⟩
end
end TL
namespace TL
open PySem PySem.Spec PyProof.Rows L2 RZ

section
variable {P : Program} {w : World} {K : PySem.W.Frag} {mg : Str → Option Value} {base : Heap}
theorem ok_is_dial (T : Tp K w mg) (am : Addr) (J : Nat → Wd → Prop) (st : ∀ g w u, (∀ a o, w.H a = some o → w.cl a = 2 → u.H a = some o ∧ u.cl a = 2) → J g w → J g u) : FnG P w K mg base CX0 1 T.f_is_dial T.fd_is_dial ["value"] (spD K am J 1 pt_is_dial) :=
  fn_okG (G := ⟨am, J, st, ⟨fun _ => none, fun _ => 0⟩⟩) (k := 0) T.F_is_dial sc_is_dial rfl pt_is_dial_mo fun u X cdv A outer s H E hX hr hg => by
    subst hX
    exact ⟨tb_is_dial, (xs_cons (xs_if (XW.c (xw_or (xc_not (xc_val (xe_isi (T := "str") (isi_def "str" (by decide +kernel)) (by rfl) T.m_isinstance (by rfl) T.m_str (by decide +kernel) (xe_var 0 (pv 0))))) (xw_or (xc_not (xc_chain co_le2 co_le2 xe_int (xe_callB call_lenA cd_len (by rfl) T.m_len (by decide +kernel) (xa_cons (xe_var 0 (pv 0)) xa_nil)) xe_int)) (xw_or1 (xc_co co_lt2 (xe_lenSetS (by rfl) (by rfl) T.m_len (by rfl) T.m_set (xe_var 0 (pv 0))) (xe_callB call_lenA cd_len (by rfl) T.m_len (by decide +kernel) (xa_cons (xe_var 0 (pv 0)) xa_nil)) (nomark _))))))
    (xs_one (xs_ret xe_bl))
    xs_nil)
    (xs_one (xs_ret (xe_callB (cr_all (by rfl)) cd_all (by rfl) T.m_all (by decide +kernel) (xa_cons (xe_lc (own := [("sign", 1)]) (by rfl) sc_is_dial.nd (xi_seq (xe_var 0 (pv 0))) (blkOk_by (own := [("sign", 1)]) (N := n_is_dial) (sc := defScope s_is_dial) (by decide +kernel)) (xgb_name 1 (fun _ _ _ _ _ => pg_name (i := 1) sc_is_dial.nd rfl (by first | exact Or.inl rfl | exact Or.inr rfl))) (by decide) (fun _ _ _ _ _ => xts_nil) (fun _ _ _ _ _ => (xe_and (xe_chain co_le2 co_le2 xe_str (xe_var 1 (pv 1)) xe_str) (xe_one (xe_co (co_ne hr.units) (xe_callB call_ord cd_ord (by rfl) T.m_ord (by decide +kernel) (xa_cons (xe_var 1 (pv 1)) xa_nil)) (T.c_PERCENT.xe (by rfl)) (nomark _)))))) xa_nil))))), sp_is_dial⟩
end
end TL
namespace TL
open PySem PySem.Spec PyProof.Rows L2 RZ

section
variable {P : Program} {w : World} {K : PySem.W.Frag} {mg : Str → Option Value} {base : Heap}
theorem ok_need_counter (T : Tp K w mg) (am : Addr) (J : Nat → Wd → Prop) (st : ∀ g w u, (∀ a o, w.H a = some o → w.cl a = 2 → u.H a = some o ∧ u.cl a = 2) → J g w → J g u) : FnG P w K mg base CX0 2 T.f_need_counter T.fd_need_counter ["thing"] (spD K am J 1 pt_need_counter) :=
  fn_okG (G := ⟨am, J, st, ⟨fun _ => none, fun _ => 0⟩⟩) (k := 1) T.F_need_counter sc_need_counter rfl pt_need_counter_mo fun u X cdv A outer s H E hX hr hg => by
    subst hX
    exact ⟨tb_need_counter, (xs_cons (xs_if (XW.c (xw_or (xc_not (xc_val (xe_isi (T := "tuple") (isi_def "tuple" (by decide +kernel)) (by rfl) T.m_isinstance (by rfl) T.m_tuple (by decide +kernel) (xe_var 0 (pv 0))))) (xw_or1 (xc_not (xc_chain co_le2 co_le2 xe_int (xe_callB call_lenA cd_len (by rfl) T.m_len (by decide +kernel) (xa_cons (xe_var 0 (pv 0)) xa_nil)) (T.c_MOST_DIALS.xe (by rfl)))))))
    xss_never
    xs_nil)
    (xs_cons (xs_for PassesOwn.never (by rfl) (xi_enum (by rfl) T.m_enumerate (xa_cons (xe_var 0 (pv 0)) xa_nil)) (xg_tup (by rfl) (xgs_cons (xg_name 1 (pg_name (i := 1) sc_need_counter.nd rfl (by first | exact Or.inl rfl | exact Or.inr rfl))) (xgs_cons (xg_name 2 (pg_name (i := 2) sc_need_counter.nd rfl (by first | exact Or.inl rfl | exact Or.inr rfl))) xgs_nil)))
    (xs_one (xs_if (xc_not (xc_val (xe_callG (ok_is_dial T am J st) pt_is_dial_mo hr hg (by rfl) T.g_is_dial T.F_is_dial.kp T.b_is_dial (xl_cons (xe_var 2 (pv 2)) xl_nil))))
    xss_never
    xs_nil)))
    (xs_one (xs_ret (xe_var 0 (pv 0)))))), sp_need_counter⟩
end
end TL
namespace TL
open PySem PySem.Spec PyProof.Rows L2 RZ

section
variable {P : Program} {w : World} {K : PySem.W.Frag} {mg : Str → Option Value} {base : Heap}
theorem ok_size_of (T : Tp K w mg) (am : Addr) (J : Nat → Wd → Prop) (st : ∀ g w u, (∀ a o, w.H a = some o → w.cl a = 2 → u.H a = some o ∧ u.cl a = 2) → J g w → J g u) : FnG P w K mg base CX0 1 T.f_size_of T.fd_size_of ["counter"] (spD K am J 1 pt_size_of) :=
  fn_okG (G := ⟨am, J, st, ⟨fun _ => none, fun _ => 0⟩⟩) (k := 0) T.F_size_of sc_size_of rfl pt_size_of_mo fun u X cdv A outer s H E hX hr hg => by
    subst hX
    exact ⟨tb_size_of, (xs_cons (xs_set 1 xe_int (fun _ he => ps_set (i := 1) sc_size_of.nd rfl (by first | exact Or.inl rfl | exact Or.inr rfl) he))
    (xs_cons (xs_for PassesOwn.never (by rfl) (xi_seq (xe_var 0 (pv 0))) (xg_name 2 (pg_name (i := 2) sc_size_of.nd rfl (by first | exact Or.inl rfl | exact Or.inr rfl)))
    (xs_one (xs_set 1 (xe_mulB (xe_var 1 (pv 1)) (xe_callB call_lenA cd_len (by rfl) T.m_len (by decide +kernel) (xa_cons (xe_var 2 (pv 2)) xa_nil))) (fun _ he => ps_set (i := 1) sc_size_of.nd rfl (by first | exact Or.inl rfl | exact Or.inr rfl) he))))
    (xs_one (xs_ret (xe_var 1 (pv 1)))))), sp_size_of⟩
end
end TL
namespace TL
open PySem PySem.Spec PyProof.Rows L2 RZ

section
variable {P : Program} {w : World} {K : PySem.W.Frag} {mg : Str → Option Value} {base : Heap}
theorem ok_size (T : Tp K w mg) (am : Addr) (J : Nat → Wd → Prop) (st : ∀ g w u, (∀ a o, w.H a = some o → w.cl a = 2 → u.H a = some o ∧ u.cl a = 2) → J g w → J g u) : FnG P w K mg base CX0 3 T.f_size T.fd_size ["counter"] (spD K am J 1 pt_size) :=
  fn_okG (G := ⟨am, J, st, ⟨fun _ => none, fun _ => 0⟩⟩) (k := 2) T.F_size sc_size rfl pt_size_mo fun u X cdv A outer s H E hX hr hg => by
    subst hX
    exact ⟨tb_size, (xs_cons (xs_expr (xe_callG (ok_need_counter T am J st) pt_need_counter_mo hr hg (by rfl) T.g_need_counter T.F_need_counter.kp T.b_need_counter (xl_cons (xe_var 0 (pv 0)) xl_nil)))
    (xs_one (xs_ret (xe_callG (ok_size_of T am J st) pt_size_of_mo (hr.mono (by decide)) hg (by rfl) T.g_size_of T.F_size_of.kp T.b_size_of (xl_cons (xe_var 0 (pv 0)) xl_nil))))), sp_size⟩
end
end TL
namespace TL
open PySem PySem.Spec PyProof.Rows L2 RZ

section
variable {P : Program} {w : World} {K : PySem.W.Frag} {mg : Str → Option Value} {base : Heap}
theorem ok__law_ten (T : Tp K w mg) (am : Addr) : FnG P w K mg base CX0 1 T.f__law_ten T.fd__law_ten ["many"] (spD K am (JD am) 1 pt__law_ten) :=
  fn_okG (G := ⟨am, (JD am), (JD.st am), ⟨fun _ => none, fun _ => 0⟩⟩) (k := 0) T.F__law_ten sc__law_ten rfl pt__law_ten_mo fun u X cdv A outer s H E hX hr hg => by
    subst hX
    exact ⟨tb__law_ten, (xs_one (xs_ret (xe_callTy call_int_str cd_intS (by rfl) T.m_int (by decide +kernel) (xa_cons (xe_add xe_str (xe_repS0 xe_str (xe_var 0 (pv 0)))) xa_nil)))), sp__law_ten⟩
end
end TL
namespace TL
open PySem PySem.Spec PyProof.Rows L2 RZ

section
variable {P : Program} {w : World} {K : PySem.W.Frag} {mg : Str → Option Value} {base : Heap}
theorem ok__law_great (T : Tp K w mg) (am : Addr) : FnG P w K mg base CX0 4 T.f__law_great T.fd__law_great ["m"] (spD K am (JD am) 1 pt__law_great) :=
  fn_okG (G := ⟨am, (JD am), (JD.st am), ⟨fun _ => none, fun _ => 0⟩⟩) (k := 3) T.F__law_great sc__law_great rfl pt__law_great_mo fun u X cdv A outer s H E hX hr hg => by
    subst hX
    exact ⟨tb__law_great, (xs_cons (xs_set 1 (xe_lst (xa_cons xe_str (xa_cons xe_str (xa_cons xe_str (xa_cons xe_str xa_nil))))) (fun _ he => ps_set (i := 1) sc__law_great.nd rfl (by first | exact Or.inl rfl | exact Or.inr rfl) he))
    (xs_cons (xs_set 2 (xe_callTy call_tupF cd_tup (by rfl) T.m_tuple (by decide +kernel) (xa_cons (xe_lc (own := [("k", 7)]) (by rfl) sc__law_great.nd (xi_rng1 (by rfl) T.m_range (xa_cons xe_int xa_nil)) (blkOk_by (own := [("k", 7)]) (N := n__law_great) (sc := defScope s__law_great) (by decide +kernel)) (xgb_name 7 (fun _ _ _ _ _ => pg_name (i := 7) sc__law_great.nd rfl (by first | exact Or.inl rfl | exact Or.inr rfl))) (by decide) (fun _ _ _ _ _ => xts_nil) (fun _ _ _ _ _ => (xe_ix (xe_var 1 (pv 1)) (xe_callG (ok__law_draw T am).g pt__law_draw_mo (hr.mono (by decide)) hg (by rfl) T.g__law_draw T.F__law_draw.kp T.b__law_draw (xl_tok 0 (pv 0) (xl_cons xe_int xl_nil))) (fun _ _ => rfl)))) xa_nil)) (fun _ he => ps_set (i := 2) sc__law_great.nd rfl (by first | exact Or.inl rfl | exact Or.inr rfl) he))
    (xs_cons (xs_set 3 (xe_callG (ok_size T am (JD am) (JD.st am)) pt_size_mo hr hg (by rfl) T.g_size T.F_size.kp T.b_size (xl_cons (xe_var 2 (pv 2)) xl_nil)) (fun _ he => ps_set (i := 3) sc__law_great.nd rfl (by first | exact Or.inl rfl | exact Or.inr rfl) he))
    (xs_cons (xs_set 4 (xe_mod (xe_callTy call_int1 cd_int (by rfl) T.m_int (by decide +kernel) (xa_cons (xe_add (xe_divB (xe_mulB (xe_var 3 (pv 3)) (xe_add xe_int (xe_callG (ok__law_draw T am).g pt__law_draw_mo (hr.mono (by decide)) hg (by rfl) T.g__law_draw T.F__law_draw.kp T.b__law_draw (xl_tok 0 (pv 0) (xl_cons xe_int xl_nil))))) xe_int) (xe_callG (ok__law_draw T am).g pt__law_draw_mo (hr.mono (by decide)) hg (by rfl) T.g__law_draw T.F__law_draw.kp T.b__law_draw (xl_tok 0 (pv 0) (xl_cons xe_int xl_nil)))) xa_nil)) (xe_var 3 (pv 3))) (fun _ he => ps_set (i := 4) sc__law_great.nd rfl (by first | exact Or.inl rfl | exact Or.inr rfl) he))
    (xs_cons (xs_set 5 (xe_sub (xe_mod (xe_callTy call_int1 cd_int (by rfl) T.m_int (by decide +kernel) (xa_cons (xe_divB (xe_mulB (xe_var 3 (pv 3)) (xe_add xe_int (xe_callG (ok__law_draw T am).g pt__law_draw_mo (hr.mono (by decide)) hg (by rfl) T.g__law_draw T.F__law_draw.kp T.b__law_draw (xl_tok 0 (pv 0) (xl_cons xe_int xl_nil))))) (xe_add xe_int (xe_callG (ok__law_draw T am).g pt__law_draw_mo (hr.mono (by decide)) hg (by rfl) T.g__law_draw T.F__law_draw.kp T.b__law_draw (xl_tok 0 (pv 0) (xl_cons xe_int xl_nil))))) xa_nil)) (xe_pow xe_int xe_int)) (xe_mulB xe_int (xe_pow xe_int xe_int))) (fun _ he => ps_set (i := 5) sc__law_great.nd rfl (by first | exact Or.inl rfl | exact Or.inr rfl) he))
    (xs_cons (xs_set 6 (xe_ix (xe_lst (xa_cons (xe_add xe_int (xe_callG (ok__law_draw T am).g pt__law_draw_mo (hr.mono (by decide)) hg (by rfl) T.g__law_draw T.F__law_draw.kp T.b__law_draw (xl_tok 0 (pv 0) (xl_cons xe_int xl_nil)))) (xa_cons (xe_add xe_int (xe_mulB (xe_callG (ok__law_ten T am) pt__law_ten_mo (hr.mono (by decide)) hg (by rfl) T.g__law_ten T.F__law_ten.kp T.b__law_ten (xl_cons (xe_callG (ok__law_draw T am).g pt__law_draw_mo (hr.mono (by decide)) hg (by rfl) T.g__law_draw T.F__law_draw.kp T.b__law_draw (xl_tok 0 (pv 0) (xl_cons xe_int xl_nil))) xl_nil)) (xe_add xe_int (xe_callG (ok__law_draw T am).g pt__law_draw_mo (hr.mono (by decide)) hg (by rfl) T.g__law_draw T.F__law_draw.kp T.b__law_draw (xl_tok 0 (pv 0) (xl_cons xe_int xl_nil)))))) (xa_cons (xe_pow xe_int xe_int) xa_nil)))) (xe_callG (ok__law_draw T am).g pt__law_draw_mo (hr.mono (by decide)) hg (by rfl) T.g__law_draw T.F__law_draw.kp T.b__law_draw (xl_tok 0 (pv 0) (xl_cons xe_int xl_nil))) (fun _ _ => rfl)) (fun _ he => ps_set (i := 6) sc__law_great.nd rfl (by first | exact Or.inl rfl | exact Or.inr rfl) he))
    (xs_one (xs_ret (xe_tup (xa_cons (xe_tup (xa_cons (xe_var 2 (pv 2)) (xa_cons (xe_var 4 (pv 4)) (xa_cons (xe_var 5 (pv 5)) (xa_cons (xe_var 6 (pv 6)) (xa_cons (xe_add xe_int (xe_callG (ok__law_draw T am).g pt__law_draw_mo (hr.mono (by decide)) hg (by rfl) T.g__law_draw T.F__law_draw.kp T.b__law_draw (xl_tok 0 (pv 0) (xl_cons xe_int xl_nil)))) xa_nil)))))) (xa_cons (xe_var 3 (pv 3)) xa_nil))))))))))), sp__law_great⟩
end
end TL
namespace TL
open PySem PySem.Spec PyProof.Rows L2 RZ

section
variable {P : Program} {w : World} {K : PySem.W.Frag} {mg : Str → Option Value} {base : Heap}
theorem ok_is_row (T : Tp K w mg) (am : Addr) (J : Nat → Wd → Prop) (st : ∀ g w u, (∀ a o, w.H a = some o → w.cl a = 2 → u.H a = some o ∧ u.cl a = 2) → J g w → J g u) : FnG P w K mg base CX0 1 T.f_is_row T.fd_is_row ["value", "many"] (spD K am J 2 pt_is_row) :=
  fn_okG (G := ⟨am, J, st, ⟨fun _ => none, fun _ => 0⟩⟩) (k := 0) T.F_is_row sc_is_row rfl pt_is_row_mo fun u X cdv A outer s H E hX hr hg => by
    subst hX
    exact ⟨tb_is_row, (xs_one (xs_ret (xe_and (xe_isi (T := "tuple") (isi_def "tuple" (by decide +kernel)) (by rfl) T.m_isinstance (by rfl) T.m_tuple (by decide +kernel) (xe_var 0 (pv 0))) (xe_one (xe_co (co_eq hr.units) (xe_callB call_lenA cd_len (by rfl) T.m_len (by decide +kernel) (xa_cons (xe_var 0 (pv 0)) xa_nil)) (xe_var 1 (pv 1)) (nomark _)))))), sp_is_row⟩
end
end TL
namespace TL
open PySem PySem.Spec PyProof.Rows L2 RZ

section
variable {P : Program} {w : World} {K : PySem.W.Frag} {mg : Str → Option Value} {base : Heap}
theorem ok_is_counter (T : Tp K w mg) (am : Addr) (J : Nat → Wd → Prop) (st : ∀ g w u, (∀ a o, w.H a = some o → w.cl a = 2 → u.H a = some o ∧ u.cl a = 2) → J g w → J g u) : FnG P w K mg base CX0 2 T.f_is_counter T.fd_is_counter ["value"] (spD K am J 1 pt_is_counter) :=
  fn_okG (G := ⟨am, J, st, ⟨fun _ => none, fun _ => 0⟩⟩) (k := 1) T.F_is_counter sc_is_counter rfl pt_is_counter_mo fun u X cdv A outer s H E hX hr hg => by
    subst hX
    exact ⟨tb_is_counter, (xs_cons (xs_if (XW.c (xw_or (xc_not (xc_val (xe_isi (T := "tuple") (isi_def "tuple" (by decide +kernel)) (by rfl) T.m_isinstance (by rfl) T.m_tuple (by decide +kernel) (xe_var 0 (pv 0))))) (xw_or1 (xc_not (xc_chain co_le2 co_le2 xe_int (xe_callB call_lenA cd_len (by rfl) T.m_len (by decide +kernel) (xa_cons (xe_var 0 (pv 0)) xa_nil)) (T.c_MOST_DIALS.xe (by rfl)))))))
    (xs_one (xs_ret xe_bl))
    xs_nil)
    (xs_one (xs_ret (xe_callB (cr_all (by rfl)) cd_all (by rfl) T.m_all (by decide +kernel) (xa_cons (xe_lc (own := [("dial", 1)]) (by rfl) sc_is_counter.nd (xi_seq (xe_var 0 (pv 0))) (blkOk_by (own := [("dial", 1)]) (N := n_is_counter) (sc := defScope s_is_counter) (by decide +kernel)) (xgb_name 1 (fun _ _ _ _ _ => pg_name (i := 1) sc_is_counter.nd rfl (by first | exact Or.inl rfl | exact Or.inr rfl))) (by decide) (fun _ _ _ _ _ => xts_nil) (fun _ _ _ _ _ => (xe_callG (ok_is_dial T am J st) pt_is_dial_mo hr hg (by rfl) T.g_is_dial T.F_is_dial.kp T.b_is_dial (xl_cons (xe_var 1 (pv 1)) xl_nil)))) xa_nil))))), sp_is_counter⟩
end
end TL
namespace TL
open PySem PySem.Spec PyProof.Rows L2 RZ

section
variable {P : Program} {w : World} {K : PySem.W.Frag} {mg : Str → Option Value} {base : Heap}
theorem ok_is_whole (T : Tp K w mg) (am : Addr) (J : Nat → Wd → Prop) (st : ∀ g w u, (∀ a o, w.H a = some o → w.cl a = 2 → u.H a = some o ∧ u.cl a = 2) → J g w → J g u) : FnG P w K mg base CX0 1 T.f_is_whole T.fd_is_whole ["value"] (spD K am J 1 pt_is_whole) :=
  fn_okG (G := ⟨am, J, st, ⟨fun _ => none, fun _ => 0⟩⟩) (k := 0) T.F_is_whole sc_is_whole rfl pt_is_whole_mo fun u X cdv A outer s H E hX hr hg => by
    subst hX
    exact ⟨tb_is_whole, (xs_one (xs_ret (xe_and (xe_isi (T := "int") (isi_def "int" (by decide +kernel)) (by rfl) T.m_isinstance (by rfl) T.m_int (by decide +kernel) (xe_var 0 (pv 0))) (xe_one (xe_not (xe_isi (T := "bool") (isi_def "bool" (by decide +kernel)) (by rfl) T.m_isinstance (by rfl) T.m_bool (by decide +kernel) (xe_var 0 (pv 0)))))))), sp_is_whole⟩
end
end TL
namespace TL
open PySem PySem.Spec PyProof.Rows L2 RZ

section
variable {P : Program} {w : World} {K : PySem.W.Frag} {mg : Str → Option Value} {base : Heap}
theorem ok_is_between (T : Tp K w mg) (am : Addr) (J : Nat → Wd → Prop) (st : ∀ g w u, (∀ a o, w.H a = some o → w.cl a = 2 → u.H a = some o ∧ u.cl a = 2) → J g w → J g u) : FnG P w K mg base CX0 2 T.f_is_between T.fd_is_between ["value", "low", "high"] (spD K am J 3 pt_is_between) :=
  fn_okG (G := ⟨am, J, st, ⟨fun _ => none, fun _ => 0⟩⟩) (k := 1) T.F_is_between sc_is_between rfl pt_is_between_mo fun u X cdv A outer s H E hX hr hg => by
    subst hX
    exact ⟨tb_is_between, (xs_one (xs_ret (xe_and (xe_callG (ok_is_whole T am J st) pt_is_whole_mo hr hg (by rfl) T.g_is_whole T.F_is_whole.kp T.b_is_whole (xl_cons (xe_var 0 (pv 0)) xl_nil)) (xe_one (xe_chain co_le2 co_le2 (xe_var 1 (pv 1)) (xe_var 0 (pv 0)) (xe_var 2 (pv 2))))))), sp_is_between⟩
end
end TL
namespace TL
open PySem PySem.Spec PyProof.Rows L2 RZ

section
variable {P : Program} {w : World} {K : PySem.W.Frag} {mg : Str → Option Value} {base : Heap}
theorem ok_need_run (T : Tp K w mg) (am : Addr) (J : Nat → Wd → Prop) (st : ∀ g w u, (∀ a o, w.H a = some o → w.cl a = 2 → u.H a = some o ∧ u.cl a = 2) → J g w → J g u) : FnG P w K mg base CX0 3 T.f_need_run T.fd_need_run ["thing"] (spD K am J 1 pt_need_run) :=
  fn_okG (G := ⟨am, J, st, ⟨fun _ => none, fun _ => 0⟩⟩) (k := 2) T.F_need_run sc_need_run rfl pt_need_run_mo fun u X cdv A outer s H E hX hr hg => by
    subst hX
    exact ⟨tb_need_run, (xs_cons (xs_if (xc_not (xc_val (xe_callG (ok_is_row T am J st) pt_is_row_mo (hr.mono (by decide)) hg (by rfl) T.g_is_row T.F_is_row.kp T.b_is_row (xl_cons (xe_var 0 (pv 0)) (xl_cons xe_int xl_nil)))))
    xss_never
    xs_nil)
    (xs_cons (xs_asg (b := false) (xe_var 0 (pv 0)) (xg_tup (by rfl) (xgs_cons (xg_name 1 (pg_name (i := 1) sc_need_run.nd rfl (by first | exact Or.inl rfl | exact Or.inr rfl))) (xgs_cons (xg_name 2 (pg_name (i := 2) sc_need_run.nd rfl (by first | exact Or.inl rfl | exact Or.inr rfl))) (xgs_cons (xg_name 3 (pg_name (i := 3) sc_need_run.nd rfl (by first | exact Or.inl rfl | exact Or.inr rfl))) (xgs_cons (xg_name 4 (pg_name (i := 4) sc_need_run.nd rfl (by first | exact Or.inl rfl | exact Or.inr rfl))) (xgs_cons (xg_name 5 (pg_name (i := 5) sc_need_run.nd rfl (by first | exact Or.inl rfl | exact Or.inr rfl))) xgs_nil)))))))
    (xs_cons (xs_if (xc_not (xc_val (xe_callG (ok_is_counter T am J st) pt_is_counter_mo hr hg (by rfl) T.g_is_counter T.F_is_counter.kp T.b_is_counter (xl_cons (xe_var 1 (pv 1)) xl_nil))))
    xss_never
    xs_nil)
    (xs_cons (xs_if (xc_not (xc_val (xe_callG (ok_is_between T am J st) pt_is_between_mo hr hg (by rfl) T.g_is_between T.F_is_between.kp T.b_is_between (xl_cons (xe_var 2 (pv 2)) (xl_cons xe_int (xl_cons (xe_sub (xe_callG (ok_size_of T am J st) pt_size_of_mo (hr.mono (by decide)) hg (by rfl) T.g_size_of T.F_size_of.kp T.b_size_of (xl_cons (xe_var 1 (pv 1)) xl_nil)) xe_int) xl_nil))))))
    xss_never
    xs_nil)
    (xs_cons (xs_if (xc_not (xc_val (xe_callG (ok_is_between T am J st) pt_is_between_mo hr hg (by rfl) T.g_is_between T.F_is_between.kp T.b_is_between (xl_cons (xe_var 3 (pv 3)) (xl_cons (xe_neg (T.c_MOST_STEP.xe (by rfl))) (xl_cons (T.c_MOST_STEP.xe (by rfl)) xl_nil))))))
    xss_never
    xs_nil)
    (xs_cons (xs_if (xc_not (xc_val (xe_callG (ok_is_between T am J st) pt_is_between_mo hr hg (by rfl) T.g_is_between T.F_is_between.kp T.b_is_between (xl_cons (xe_var 4 (pv 4)) (xl_cons xe_int (xl_cons (T.c_MOST_MANY.xe (by rfl)) xl_nil))))))
    xss_never
    xs_nil)
    (xs_cons (xs_if (xc_not (xc_val (xe_callG (ok_is_between T am J st) pt_is_between_mo hr hg (by rfl) T.g_is_between T.F_is_between.kp T.b_is_between (xl_cons (xe_var 5 (pv 5)) (xl_cons xe_int (xl_cons (T.c_MOST_COPIES.xe (by rfl)) xl_nil))))))
    xss_never
    xs_nil)
    (xs_one (xs_ret (xe_var 0 (pv 0))))))))))), sp_need_run⟩
end
end TL
namespace TL
open PySem PySem.Spec PyProof.Rows L2 RZ

section
variable {P : Program} {w : World} {K : PySem.W.Frag} {mg : Str → Option Value} {base : Heap}
theorem ok_period_of (T : Tp K w mg) (am : Addr) (J : Nat → Wd → Prop) (st : ∀ g w u, (∀ a o, w.H a = some o → w.cl a = 2 → u.H a = some o ∧ u.cl a = 2) → J g w → J g u) : FnG P w K mg base CX0 1 T.f_period_of T.fd_period_of ["step", "modulus"] (spD K am J 2 pt_period_of) :=
  fn_okG (G := ⟨am, J, st, ⟨fun _ => none, fun _ => 0⟩⟩) (k := 0) T.F_period_of sc_period_of rfl pt_period_of_mo fun u X cdv A outer s H E hX hr hg => by
    subst hX
    exact ⟨tb_period_of, (xs_one (xs_ret (xe_divB (xe_var 1 (pv 1)) (xe_callFun cr_gcd cd_gcd (by rfl) T.i_gcd (xa_cons (xe_var 0 (pv 0)) (xa_cons (xe_var 1 (pv 1)) xa_nil)))))), sp_period_of⟩
end
end TL
namespace TL
open PySem PySem.Spec PyProof.Rows L2 RZ

section
variable {P : Program} {w : World} {K : PySem.W.Frag} {mg : Str → Option Value} {base : Heap}
theorem ok_round_length (T : Tp K w mg) (am : Addr) (J : Nat → Wd → Prop) (st : ∀ g w u, (∀ a o, w.H a = some o → w.cl a = 2 → u.H a = some o ∧ u.cl a = 2) → J g w → J g u) : FnG P w K mg base CX0 2 T.f_round_length T.fd_round_length ["run"] (spD K am J 1 pt_round_length) :=
  fn_okG (G := ⟨am, J, st, ⟨fun _ => none, fun _ => 0⟩⟩) (k := 1) T.F_round_length sc_round_length rfl pt_round_length_mo fun u X cdv A outer s H E hX hr hg => by
    subst hX
    exact ⟨tb_round_length, (xs_one (xs_ret (xe_callG (ok_period_of T am J st) pt_period_of_mo hr hg (by rfl) T.g_period_of T.F_period_of.kp T.b_period_of (xl_cons (xe_ix (xe_var 0 (pv 0)) xe_int (fun _ _ => rfl)) (xl_cons (xe_callG (ok_size_of T am J st) pt_size_of_mo hr hg (by rfl) T.g_size_of T.F_size_of.kp T.b_size_of (xl_cons (xe_ix (xe_var 0 (pv 0)) xe_int (fun _ _ => rfl)) xl_nil)) xl_nil))))), sp_round_length⟩
end
end TL
namespace TL
open PySem PySem.Spec PyProof.Rows L2 RZ

section
variable {P : Program} {w : World} {K : PySem.W.Frag} {mg : Str → Option Value} {base : Heap}
theorem ok_nearest (T : Tp K w mg) (am : Addr) (J : Nat → Wd → Prop) (st : ∀ g w u, (∀ a o, w.H a = some o → w.cl a = 2 → u.H a = some o ∧ u.cl a = 2) → J g w → J g u) : FnG P w K mg base CX0 1 T.f_nearest T.fd_nearest ["step", "modulus", "many"] (spD K am J 3 pt_nearest) :=
  fn_okG (G := ⟨am, J, st, ⟨fun _ => none, fun _ => 0⟩⟩) (k := 0) T.F_nearest sc_nearest rfl pt_nearest_mo fun u X cdv A outer s H E hX hr hg => by
    subst hX
    exact ⟨tb_nearest, (xs_cons (xs_par2 3 4 (xa_cons (xe_tup (xa_cons (xe_var 0 (pv 0)) (xa_cons xe_int xa_nil))) (xa_cons (xe_tup (xa_cons (xe_sub (xe_var 1 (pv 1)) (xe_var 0 (pv 0))) (xa_cons xe_int xa_nil))) xa_nil)) (fun _ ha => ps_par (i := 3) (j := 4) (by rfl) sc_nearest.nd rfl rfl (by decide) rfl rfl ha (by rfl)))
    (xs_cons (xs_while PassesOwn.never (xc_co co_le2 (xe_add (xe_ix (xe_var 3 (pv 3)) xe_int (fun _ _ => rfl)) (xe_ix (xe_var 4 (pv 4)) xe_int (fun _ _ => rfl))) (xe_var 2 (pv 2)) (nomark _))
    (xs_one (xs_if (xc_co co_gt (xe_ix (xe_var 3 (pv 3)) xe_int (fun _ _ => rfl)) (xe_ix (xe_var 4 (pv 4)) xe_int (fun _ _ => rfl)) (nomark _))
    (xs_cons (xs_set 5 (xe_callB (call_min2 (by rfl)) cd_I2 (by rfl) T.m_min (by decide +kernel) (xa_cons (xe_divB (xe_sub (xe_ix (xe_var 3 (pv 3)) xe_int (fun _ _ => rfl)) xe_int) (xe_ix (xe_var 4 (pv 4)) xe_int (fun _ _ => rfl))) (xa_cons (xe_divB (xe_sub (xe_var 2 (pv 2)) (xe_ix (xe_var 3 (pv 3)) xe_int (fun _ _ => rfl))) (xe_ix (xe_var 4 (pv 4)) xe_int (fun _ _ => rfl))) xa_nil))) (fun _ he => ps_set (i := 5) sc_nearest.nd rfl (by first | exact Or.inl rfl | exact Or.inr rfl) he))
    (xs_one (xs_set 3 (xe_tup (xa_cons (xe_sub (xe_ix (xe_var 3 (pv 3)) xe_int (fun _ _ => rfl)) (xe_mulB (xe_var 5 (pv 5)) (xe_ix (xe_var 4 (pv 4)) xe_int (fun _ _ => rfl)))) (xa_cons (xe_add (xe_ix (xe_var 3 (pv 3)) xe_int (fun _ _ => rfl)) (xe_mulB (xe_var 5 (pv 5)) (xe_ix (xe_var 4 (pv 4)) xe_int (fun _ _ => rfl)))) xa_nil))) (fun _ he => ps_set (i := 3) sc_nearest.nd rfl (by first | exact Or.inl rfl | exact Or.inr rfl) he))))
    (xs_cons (xs_set 5 (xe_callB (call_min2 (by rfl)) cd_I2 (by rfl) T.m_min (by decide +kernel) (xa_cons (xe_divB (xe_sub (xe_ix (xe_var 4 (pv 4)) xe_int (fun _ _ => rfl)) xe_int) (xe_ix (xe_var 3 (pv 3)) xe_int (fun _ _ => rfl))) (xa_cons (xe_divB (xe_sub (xe_var 2 (pv 2)) (xe_ix (xe_var 4 (pv 4)) xe_int (fun _ _ => rfl))) (xe_ix (xe_var 3 (pv 3)) xe_int (fun _ _ => rfl))) xa_nil))) (fun _ he => ps_set (i := 5) sc_nearest.nd rfl (by first | exact Or.inl rfl | exact Or.inr rfl) he))
    (xs_one (xs_set 4 (xe_tup (xa_cons (xe_sub (xe_ix (xe_var 4 (pv 4)) xe_int (fun _ _ => rfl)) (xe_mulB (xe_var 5 (pv 5)) (xe_ix (xe_var 3 (pv 3)) xe_int (fun _ _ => rfl)))) (xa_cons (xe_add (xe_ix (xe_var 4 (pv 4)) xe_int (fun _ _ => rfl)) (xe_mulB (xe_var 5 (pv 5)) (xe_ix (xe_var 3 (pv 3)) xe_int (fun _ _ => rfl)))) xa_nil))) (fun _ he => ps_set (i := 4) sc_nearest.nd rfl (by first | exact Or.inl rfl | exact Or.inr rfl) he)))))))
    (xs_one (xs_ret (xe_tup (xa_cons (xe_var 3 (pv 3)) (xa_cons (xe_var 4 (pv 4)) xa_nil))))))), sp_nearest⟩
end
end TL
namespace TL
open PySem PySem.Spec PyProof.Rows L2 RZ

section
variable {P : Program} {w : World} {K : PySem.W.Frag} {mg : Str → Option Value} {base : Heap}
theorem ok_gaps (T : Tp K w mg) (am : Addr) (J : Nat → Wd → Prop) (st : ∀ g w u, (∀ a o, w.H a = some o → w.cl a = 2 → u.H a = some o ∧ u.cl a = 2) → J g w → J g u) : FnG P w K mg base CX0 4 T.f_gaps T.fd_gaps ["run"] (spD K am J 1 pt_gaps) :=
  fn_okG (G := ⟨am, J, st, ⟨fun _ => none, fun _ => 0⟩⟩) (k := 3) T.F_gaps sc_gaps rfl pt_gaps_mo fun u X cdv A outer s H E hX hr hg => by
    subst hX
    exact ⟨tb_gaps, (xs_cons (xs_expr (xe_callG (ok_need_run T am J st) pt_need_run_mo hr hg (by rfl) T.g_need_run T.F_need_run.kp T.b_need_run (xl_cons (xe_var 0 (pv 0)) xl_nil)))
    (xs_cons (xs_set 1 (xe_callG (ok_round_length T am J st) pt_round_length_mo (hr.mono (by decide)) hg (by rfl) T.g_round_length T.F_round_length.kp T.b_round_length (xl_cons (xe_var 0 (pv 0)) xl_nil)) (fun _ he => ps_set (i := 1) sc_gaps.nd rfl (by first | exact Or.inl rfl | exact Or.inr rfl) he))
    (xs_cons (xs_set 2 (xe_divB (xe_callG (ok_size_of T am J st) pt_size_of_mo (hr.mono (by decide)) hg (by rfl) T.g_size_of T.F_size_of.kp T.b_size_of (xl_cons (xe_ix (xe_var 0 (pv 0)) xe_int (fun _ _ => rfl)) xl_nil)) (xe_var 1 (pv 1))) (fun _ he => ps_set (i := 2) sc_gaps.nd rfl (by first | exact Or.inl rfl | exact Or.inr rfl) he))
    (xs_cons (xs_set 3 (xe_callB (call_min2 (by rfl)) cd_I2 (by rfl) T.m_min (by decide +kernel) (xa_cons (xe_ix (xe_var 0 (pv 0)) xe_int (fun _ _ => rfl)) (xa_cons (xe_var 1 (pv 1)) xa_nil))) (fun _ he => ps_set (i := 3) sc_gaps.nd rfl (by first | exact Or.inl rfl | exact Or.inr rfl) he))
    (xs_cons (xs_asg (b := false) (xe_callG (ok_nearest T am J st) pt_nearest_mo (hr.mono (by decide)) hg (by rfl) T.g_nearest T.F_nearest.kp T.b_nearest (xl_cons (xe_mod (xe_divB (xe_ix (xe_var 0 (pv 0)) xe_int (fun _ _ => rfl)) (xe_var 2 (pv 2))) (xe_var 1 (pv 1))) (xl_cons (xe_var 1 (pv 1)) (xl_cons (xe_sub (xe_var 3 (pv 3)) xe_int) xl_nil)))) (xg_tup (by rfl) (xgs_cons (xg_name 4 (pg_name (i := 4) sc_gaps.nd rfl (by first | exact Or.inl rfl | exact Or.inr rfl))) (xgs_cons (xg_name 5 (pg_name (i := 5) sc_gaps.nd rfl (by first | exact Or.inl rfl | exact Or.inr rfl))) xgs_nil))))
    (xs_cons (xs_ownD 6 (ps_set (i := 6) sc_gaps.nd rfl (by first | exact Or.inl rfl | exact Or.inr rfl) pe_dnewK))
    (xs_cons (xs_for PassesOwn.never (by rfl) (xi_tup (xe_tup (xa_cons (xe_tup (xa_cons (xe_ix (xe_var 4 (pv 4)) xe_int (fun _ _ => rfl)) (xa_cons (xe_sub (xe_var 3 (pv 3)) (xe_ix (xe_var 4 (pv 4)) xe_int (fun _ _ => rfl))) xa_nil))) (xa_cons (xe_tup (xa_cons (xe_ix (xe_var 5 (pv 5)) xe_int (fun _ _ => rfl)) (xa_cons (xe_sub (xe_var 3 (pv 3)) (xe_ix (xe_var 5 (pv 5)) xe_int (fun _ _ => rfl))) xa_nil))) (xa_cons (xe_tup (xa_cons (xe_add (xe_ix (xe_var 4 (pv 4)) xe_int (fun _ _ => rfl)) (xe_ix (xe_var 5 (pv 5)) xe_int (fun _ _ => rfl))) (xa_cons (xe_sub (xe_add (xe_ix (xe_var 4 (pv 4)) xe_int (fun _ _ => rfl)) (xe_ix (xe_var 5 (pv 5)) xe_int (fun _ _ => rfl))) (xe_var 3 (pv 3))) xa_nil))) xa_nil))))) (xg_tup (by rfl) (xgs_cons (xg_name 7 (pg_name (i := 7) sc_gaps.nd rfl (by first | exact Or.inl rfl | exact Or.inr rfl))) (xgs_cons (xg_name 8 (pg_name (i := 8) sc_gaps.nd rfl (by first | exact Or.inl rfl | exact Or.inr rfl))) xgs_nil)))
    (xs_one (xs_if (xc_co co_gt (xe_var 8 (pv 8)) xe_int (nomark _))
    (xs_one (xs_dput 6 (hu_of hr) (xe_add (xe_hdGet 6 (hu_of hr) (pv 6) (xe_mulB (xe_var 7 (pv 7)) (xe_var 2 (pv 2))) xe_int ⟨by rfl, by rfl, by rfl, by rfl⟩) (xe_var 8 (pv 8))) (xe_mulB (xe_var 7 (pv 7)) (xe_var 2 (pv 2))) (pv 6) (by rfl)))
    xs_nil)))
    (xs_one (xs_ret (xe_callTy call_tupF cd_tup (by rfl) T.m_tuple (by decide +kernel) (xa_cons (xe_callB (cr_sortD (un66 hr)) cd_sort (by rfl) T.m_sorted (by decide +kernel) (xa_cons (xe_hdItems 6 (by rfl) (pv 6) (fun _ he => LiI.pe_listItems (by rfl) he (by rfl) T.m_list (by decide +kernel))) xa_nil)) xa_nil))))))))))), sp_gaps⟩
end
end TL
namespace TL
open PySem PySem.Spec PyProof.Rows L2 RZ

section
variable {P : Program} {w : World} {K : PySem.W.Frag} {mg : Str → Option Value} {base : Heap}
theorem ok__law_parted (T : Tp K w mg) (am : Addr) : FnG P w K mg base CX0 1 T.f__law_parted T.fd__law_parted ["near", "far"] (spD K am (JD am) 2 pt__law_parted) :=
  fn_okG (G := ⟨am, (JD am), (JD.st am), ⟨fun _ => none, fun _ => 0⟩⟩) (k := 0) T.F__law_parted sc__law_parted rfl pt__law_parted_mo fun u X cdv A outer s H E hX hr hg => by
    subst hX
    exact ⟨tb__law_parted, (xs_cons (xs_set 2 (xe_lst xa_nil) (fun _ he => ps_set (i := 2) sc__law_parted.nd rfl (by first | exact Or.inl rfl | exact Or.inr rfl) he))
    (xs_cons (xs_for PassesOwn.never (by rfl) (xi_seq (xe_var 0 (pv 0))) (xg_tup (by rfl) (xgs_cons (xg_name 3 (pg_name (i := 3) sc__law_parted.nd rfl (by first | exact Or.inl rfl | exact Or.inr rfl))) (xgs_cons (xg_name 4 (pg_name (i := 4) sc__law_parted.nd rfl (by first | exact Or.inl rfl | exact Or.inr rfl))) xgs_nil)))
    (xs_one (xs_set 2 (xe_add (xe_var 2 (pv 2)) (xe_lst (xa_cons (xe_tup (xa_cons (xe_var 3 (pv 3)) (xa_cons (xe_var 4 (pv 4)) xa_nil))) xa_nil))) (fun _ he => ps_set (i := 2) sc__law_parted.nd rfl (by first | exact Or.inl rfl | exact Or.inr rfl) he))))
    (xs_cons (xs_par2DX 5 6 (xnd_dict (by rfl) (by rfl) T.m_dict (xe_var 2 (pv 2))) (xe_callTy (call_dictLF (by rfl)) cd_dictL (by rfl) T.m_dict (by decide +kernel) (xa_cons (xe_callTy call_list_of cd_lst (by rfl) T.m_list (by decide +kernel) (xa_cons (xe_var 1 (pv 1)) xa_nil)) xa_nil)) (by decide) (fun _ _ ha hb => ps_parO (i := 5) (j := 6) (by rfl) sc__law_parted.nd rfl rfl (by first | exact Or.inl rfl | exact Or.inr rfl) (by first | exact Or.inl rfl | exact Or.inr rfl) (by first | exact Or.inl rfl | exact Or.inr rfl) (by first | exact Or.inl rfl | exact Or.inr rfl) (pa_cons ha (pa_cons hb pa_nil)) (by rfl)))
    (xs_cons (xs_set 7 (xe_callB (LT.cr_maxS (by rfl)) cd_maxS (by rfl) T.m_max (by decide +kernel) (xa_cons (xe_hdKeys 5 (by rfl) (by rfl) T.m_list (pv 5)) xa_nil)) (fun _ he => ps_set (i := 7) sc__law_parted.nd rfl (by first | exact Or.inl rfl | exact Or.inr rfl) he))
    (xs_cons (xs_dput 5 (hu_of hr) (xe_sub (xe_hdIx 5 (hu_of hr) (pv 5) (xe_var 7 (pv 7)) (fun _ _ => rfl)) xe_int) (xe_var 7 (pv 7)) (pv 5) (by rfl))
    (xs_cons (xs_for PassesOwn.never (by rfl) (xi_seq (xe_callB (cr_sortD (un66 hr)) cd_sort (by rfl) T.m_sorted (by decide +kernel) (xa_cons (xe_callTy (call_listD (by rfl)) cd_lstD (by rfl) T.m_list (by decide +kernel) (xa_cons (xe_var 6 (pv 6)) xa_nil)) xa_nil))) (xg_name 3 (pg_name (i := 3) sc__law_parted.nd rfl (by first | exact Or.inl rfl | exact Or.inr rfl)))
    (xs_one (xs_if (xc_co co_lt2 (xe_hdGet 5 (hu_of hr) (pv 5) (xe_var 3 (pv 3)) xe_int ⟨by rfl, by rfl, by rfl, by rfl⟩) (xe_dget (hu_of hr) (xe_var 6 (pv 6)) (xe_var 3 (pv 3)) (fun _ _ => rfl)) (nomark _))
    (xs_cons (xs_set 8 (xe_sub (xe_var 7 (pv 7)) (xe_var 3 (pv 3))) (fun _ he => ps_set (i := 8) sc__law_parted.nd rfl (by first | exact Or.inl rfl | exact Or.inr rfl) he))
    (xs_cons (xs_for PassesOwn.never (by rfl) (xi_tup (xe_tup (xa_cons (xe_var 3 (pv 3)) (xa_cons (xe_var 8 (pv 8)) xa_nil)))) (xg_name 9 (pg_name (i := 9) sc__law_parted.nd rfl (by first | exact Or.inl rfl | exact Or.inr rfl)))
    (xs_one (xs_dput 5 (hu_of hr) (xe_add (xe_hdGet 5 (hu_of hr) (pv 5) (xe_var 9 (pv 9)) xe_int ⟨by rfl, by rfl, by rfl, by rfl⟩) xe_int) (xe_var 9 (pv 9)) (pv 5) (by rfl))))
    (xss_frzD 5 (xs_one (xs_ret (xe_co (co_eqD (by have := hr.units; omega)) (xe_callTy (call_dictLF (by rfl)) cd_dictL (by rfl) T.m_dict (by decide +kernel) (xa_cons (xe_lc (own := [("one", 9)]) (by rfl) sc__law_parted.nd (xi_keys (xe_var 5 (pv 5))) (blkOk_by (own := [("one", 9)]) (N := n__law_parted) (sc := defScope s__law_parted) (by decide +kernel)) (xgb_name 9 (fun _ _ _ _ _ => pg_name (i := 9) sc__law_parted.nd rfl (by first | exact Or.inl rfl | exact Or.inr rfl))) (by decide) (fun _ _ _ _ _ => (xts_one (xc_co co_gt (xe_dget (hu_of hr) (xe_var 5 (pv 5)) (xe_var 9 (pv 9)) (fun _ _ => rfl)) xe_int (nomark _)))) (fun _ _ _ _ _ => (xe_tup (xa_cons (xe_var 9 (pv 9)) (xa_cons (xe_dget (hu_of hr) (xe_var 5 (pv 5)) (xe_var 9 (pv 9)) (fun _ _ => rfl)) xa_nil))))) xa_nil)) (xe_var 6 (pv 6)) (nomark _)))))))
    xs_nil)))
    (xs_one (xs_ret xe_bl)))))))), sp__law_parted⟩
end
end TL
namespace TL
open PySem PySem.Spec PyProof.Rows L2 RZ

section
variable {P : Program} {w : World} {K : PySem.W.Frag} {mg : Str → Option Value} {base : Heap}
theorem ok_round_of (T : Tp K w mg) (am : Addr) (J : Nat → Wd → Prop) (st : ∀ g w u, (∀ a o, w.H a = some o → w.cl a = 2 → u.H a = some o ∧ u.cl a = 2) → J g w → J g u) : FnG P w K mg base CX0 4 T.f_round_of T.fd_round_of ["run"] (spD K am J 1 pt_round_of) :=
  fn_okG (G := ⟨am, J, st, ⟨fun _ => none, fun _ => 0⟩⟩) (k := 3) T.F_round_of sc_round_of rfl pt_round_of_mo fun u X cdv A outer s H E hX hr hg => by
    subst hX
    exact ⟨tb_round_of, (xs_cons (xs_expr (xe_callG (ok_need_run T am J st) pt_need_run_mo hr hg (by rfl) T.g_need_run T.F_need_run.kp T.b_need_run (xl_cons (xe_var 0 (pv 0)) xl_nil)))
    (xs_one (xs_ret (xe_callG (ok_round_length T am J st) pt_round_length_mo (hr.mono (by decide)) hg (by rfl) T.g_round_length T.F_round_length.kp T.b_round_length (xl_cons (xe_var 0 (pv 0)) xl_nil))))), sp_round_of⟩
end
end TL
namespace TL
open PySem PySem.Spec PyProof.Rows L2 RZ

section
variable {P : Program} {w : World} {K : PySem.W.Frag} {mg : Str → Option Value} {base : Heap}
theorem ok__law_right (T : Tp K w mg) (am : Addr) : FnG P w K mg base CX0 5 T.f__law_right T.fd__law_right ["run_so", "total"] (spD K am (JD am) 2 pt__law_right) :=
  fn_okG (G := ⟨am, (JD am), (JD.st am), ⟨fun _ => none, fun _ => 0⟩⟩) (k := 4) T.F__law_right sc__law_right rfl pt__law_right_mo fun u X cdv A outer s H E hX hr hg => by
    subst hX
    exact ⟨tb__law_right, (xs_cons (xs_set 2 (xe_callG (ok_gaps T am (JD am) (JD.st am)) pt_gaps_mo hr hg (by rfl) T.g_gaps T.F_gaps.kp T.b_gaps (xl_cons (xe_var 0 (pv 0)) xl_nil)) (fun _ he => ps_set (i := 2) sc__law_right.nd rfl (by first | exact Or.inl rfl | exact Or.inr rfl) he))
    (xs_cons (xs_par2 3 4 (xa_cons (xe_lc (own := [("pair", 6)]) (by rfl) sc__law_right.nd (xi_seq (xe_var 2 (pv 2))) (blkOk_by (own := [("pair", 6)]) (N := n__law_right) (sc := defScope s__law_right) (by decide +kernel)) (xgb_name 6 (fun _ _ _ _ _ => pg_name (i := 6) sc__law_right.nd rfl (by first | exact Or.inl rfl | exact Or.inr rfl))) (by decide) (fun _ _ _ _ _ => xts_nil) (fun _ _ _ _ _ => (xe_ix (xe_var 6 (pv 6)) xe_int (fun _ _ => rfl)))) (xa_cons (xe_callB (LT.cr_sumS (by rfl)) cd_sumS (by rfl) T.m_sum (by decide +kernel) (xa_cons (xe_lc (own := [("pair", 6)]) (by rfl) sc__law_right.nd (xi_seq (xe_var 2 (pv 2))) (blkOk_by (own := [("pair", 6)]) (N := n__law_right) (sc := defScope s__law_right) (by decide +kernel)) (xgb_name 6 (fun _ _ _ _ _ => pg_name (i := 6) sc__law_right.nd rfl (by first | exact Or.inl rfl | exact Or.inr rfl))) (by decide) (fun _ _ _ _ _ => xts_nil) (fun _ _ _ _ _ => (xe_ix (xe_var 6 (pv 6)) xe_int (fun _ _ => rfl)))) xa_nil)) xa_nil)) (fun _ ha => ps_par (i := 3) (j := 4) (by rfl) sc__law_right.nd rfl rfl (by decide) rfl rfl ha (by rfl)))
    (xs_cons (xs_if (XW.c (xw_or (xc_co (co_ne hr.units) (xe_var 3 (pv 3)) (xe_sortSet (by rfl) (by rfl) T.m_sorted (by rfl) T.m_set (xe_var 3 (pv 3)) (fun _ he => pe_callB (cr_sortedSet (by rfl)) (by rfl) T.m_sorted (by decide +kernel) (pa_cons (pe_callTy (cr_setL (by rfl)) (by rfl) T.m_set (by decide +kernel) (pa_cons he pa_nil (by rfl)) (by decide) (by decide) (by rfl) (by rfl)) pa_nil (by rfl)) (by decide) (by decide) (by rfl) (by rfl))) (nomark _)) (xw_or (xc_not (xc_chain co_le2 co_le2 xe_int (xe_callB call_lenA cd_len (by rfl) T.m_len (by decide +kernel) (xa_cons (xe_var 3 (pv 3)) xa_nil)) xe_int)) (xw_or1 (xc_co co_lt2 (xe_callB (LT.cr_minS (by rfl)) cd_minS (by rfl) T.m_min (by decide +kernel) (xa_cons (xe_var 3 (pv 3)) xa_nil)) xe_int (nomark _))))))
    (xs_one (xs_ret xe_bl))
    xs_nil)
    (xs_cons (xs_if (xc_co co_lt2 (xe_callB (LT.cr_minS (by rfl)) cd_minS (by rfl) T.m_min (by decide +kernel) (xa_cons (xe_lc (own := [("pair", 6)]) (by rfl) sc__law_right.nd (xi_seq (xe_var 2 (pv 2))) (blkOk_by (own := [("pair", 6)]) (N := n__law_right) (sc := defScope s__law_right) (by decide +kernel)) (xgb_name 6 (fun _ _ _ _ _ => pg_name (i := 6) sc__law_right.nd rfl (by first | exact Or.inl rfl | exact Or.inr rfl))) (by decide) (fun _ _ _ _ _ => xts_nil) (fun _ _ _ _ _ => (xe_ix (xe_var 6 (pv 6)) xe_int (fun _ _ => rfl)))) xa_nil)) xe_int (nomark _))
    (xs_one (xs_ret xe_bl))
    xs_nil)
    (xs_cons (xs_if (XW.c (xw_or (xc_co (co_ne hr.units) (xe_callB (LT.cr_sumS (by rfl)) cd_sumS (by rfl) T.m_sum (by decide +kernel) (xa_cons (xe_lc (own := [("pair", 6)]) (by rfl) sc__law_right.nd (xi_seq (xe_var 2 (pv 2))) (blkOk_by (own := [("pair", 6)]) (N := n__law_right) (sc := defScope s__law_right) (by decide +kernel)) (xgb_name 6 (fun _ _ _ _ _ => pg_name (i := 6) sc__law_right.nd rfl (by first | exact Or.inl rfl | exact Or.inr rfl))) (by decide) (fun _ _ _ _ _ => xts_nil) (fun _ _ _ _ _ => (xe_mulB (xe_ix (xe_var 6 (pv 6)) xe_int (fun _ _ => rfl)) (xe_ix (xe_var 6 (pv 6)) xe_int (fun _ _ => rfl))))) xa_nil)) (xe_var 1 (pv 1)) (nomark _)) (xw_or1 (xc_co (co_ne hr.units) (xe_var 4 (pv 4)) (xe_callB (call_min2 (by rfl)) cd_I2 (by rfl) T.m_min (by decide +kernel) (xa_cons (xe_ix (xe_var 0 (pv 0)) xe_int (fun _ _ => rfl)) (xa_cons (xe_callG (ok_round_of T am (JD am) (JD.st am)) pt_round_of_mo hr hg (by rfl) T.g_round_of T.F_round_of.kp T.b_round_of (xl_cons (xe_var 0 (pv 0)) xl_nil)) xa_nil))) (nomark _)))))
    (xs_one (xs_ret xe_bl))
    xs_nil)
    (xs_cons (xs_if (XW.c (xw_and (xc_co (co_eq hr.units) (xe_callB call_lenA cd_len (by rfl) T.m_len (by decide +kernel) (xa_cons (xe_var 3 (pv 3)) xa_nil)) xe_int (nomark _)) (xw_and1 (xc_co (co_ne hr.units) (xe_add (xe_ix (xe_var 3 (pv 3)) xe_int (fun _ _ => rfl)) (xe_ix (xe_var 3 (pv 3)) xe_int (fun _ _ => rfl))) (xe_ix (xe_var 3 (pv 3)) xe_int (fun _ _ => rfl)) (nomark _)))))
    (xs_one (xs_ret xe_bl))
    xs_nil)
    (xs_cons (xs_if (xc_co co_ge (xe_ix (xe_var 0 (pv 0)) xe_int (fun _ _ => rfl)) (xe_pow xe_int xe_int) (nomark _))
    (xs_one (xs_ret xe_bl))
    xs_nil)
    (xs_cons (xs_set 5 (xe_callG (ok_gaps T am (JD am) (JD.st am)) pt_gaps_mo hr hg (by rfl) T.g_gaps T.F_gaps.kp T.b_gaps (xl_cons (xe_add (xe_add (xe_slice (xe_var 0 (pv 0)) xo_none (xo_some xe_int)) (xe_tup (xa_cons (xe_add (xe_ix (xe_var 0 (pv 0)) xe_int (fun _ _ => rfl)) xe_int) xa_nil))) (xe_slice (xe_var 0 (pv 0)) (xo_some xe_int) xo_none)) xl_nil)) (fun _ he => ps_set (i := 5) sc__law_right.nd rfl (by first | exact Or.inl rfl | exact Or.inr rfl) he))
    (xs_cons (xs_if (xc_co co_ge (xe_ix (xe_var 0 (pv 0)) xe_int (fun _ _ => rfl)) (xe_callG (ok_round_of T am (JD am) (JD.st am)) pt_round_of_mo hr hg (by rfl) T.g_round_of T.F_round_of.kp T.b_round_of (xl_cons (xe_var 0 (pv 0)) xl_nil)) (nomark _))
    (xs_one (xs_ret (xe_co (co_eq hr.units) (xe_var 5 (pv 5)) (xe_var 2 (pv 2)) (nomark _))))
    xs_nil)
    (xs_one (xs_ret (xe_callG (ok__law_parted T am) pt__law_parted_mo (hr.mono (by decide)) hg (by rfl) T.g__law_parted T.F__law_parted.kp T.b__law_parted (xl_cons (xe_var 2 (pv 2)) (xl_cons (xe_var 5 (pv 5)) xl_nil)))))))))))))), sp__law_right⟩
end
end TL
namespace TL
open PySem PySem.Spec PyProof.Rows L2 RZ

section
variable {P : Program} {w : World} {K : PySem.W.Frag} {mg : Str → Option Value} {base : Heap}
theorem ok__law_gaps (T : Tp K w mg) (am : Addr) : FnG P w K mg base CX0 1 T.f__law_gaps T.fd__law_gaps ["numbers_so", "total"] (spD K am (JD am) 2 pt__law_gaps) :=
  fn_okG (G := ⟨am, (JD am), (JD.st am), ⟨fun _ => none, fun _ => 0⟩⟩) (k := 0) T.F__law_gaps sc__law_gaps rfl pt__law_gaps_mo fun u X cdv A outer s H E hX hr hg => by
    subst hX
    exact ⟨tb__law_gaps, (xs_cons (xs_par2D 2 3 (xe_sortSet (by rfl) (by rfl) T.m_sorted (by rfl) T.m_set (xe_var 0 (pv 0)) (fun _ he => pe_callB (cr_sortedSet (by rfl)) (by rfl) T.m_sorted (by decide +kernel) (pa_cons (pe_callTy (cr_setL (by rfl)) (by rfl) T.m_set (by decide +kernel) (pa_cons he pa_nil (by rfl)) (by decide) (by decide) (by rfl) (by rfl)) pa_nil (by rfl)) (by decide) (by decide) (by rfl) (by rfl))) (by decide) (fun _ ha => ps_parO (i := 2) (j := 3) (by rfl) sc__law_gaps.nd rfl rfl (by first | exact Or.inl rfl | exact Or.inr rfl) (by first | exact Or.inl rfl | exact Or.inr rfl) (by first | exact Or.inl rfl | exact Or.inr rfl) (by first | exact Or.inl rfl | exact Or.inr rfl) (pa_cons ha (pa_cons pe_dnewK pa_nil)) (by rfl)))
    (xs_cons (xs_for PassesOwn.never (by rfl) (xi_enum (by rfl) T.m_enumerate (xa_cons (xe_var 2 (pv 2)) xa_nil)) (xg_tup (by rfl) (xgs_cons (xg_name 4 (pg_name (i := 4) sc__law_gaps.nd rfl (by first | exact Or.inl rfl | exact Or.inr rfl))) (xgs_cons (xg_name 5 (pg_name (i := 5) sc__law_gaps.nd rfl (by first | exact Or.inl rfl | exact Or.inr rfl))) xgs_nil)))
    (xs_cons (xs_set 6 (xe_if (xc_co co_lt2 (xe_add (xe_var 4 (pv 4)) xe_int) (xe_callB call_lenA cd_len (by rfl) T.m_len (by decide +kernel) (xa_cons (xe_var 2 (pv 2)) xa_nil)) (nomark _)) (xe_ix (xe_var 2 (pv 2)) (xe_add (xe_var 4 (pv 4)) xe_int) (fun _ _ => rfl)) (xe_add (xe_ix (xe_var 2 (pv 2)) xe_int (fun _ _ => rfl)) (xe_var 1 (pv 1)))) (fun _ he => ps_set (i := 6) sc__law_gaps.nd rfl (by first | exact Or.inl rfl | exact Or.inr rfl) he))
    (xs_one (xs_dput 3 (hu_of hr) (xe_add (xe_hdGet 3 (hu_of hr) (pv 3) (xe_sub (xe_var 6 (pv 6)) (xe_var 5 (pv 5))) xe_int ⟨by rfl, by rfl, by rfl, by rfl⟩) xe_int) (xe_sub (xe_var 6 (pv 6)) (xe_var 5 (pv 5))) (pv 3) (by rfl)))))
    (xss_frzD 3 (xs_one (xs_ret (xe_callTy call_tupF cd_tup (by rfl) T.m_tuple (by decide +kernel) (xa_cons (xe_callB (cr_sortD (un66 hr)) cd_sort (by rfl) T.m_sorted (by decide +kernel) (xa_cons (xe_lc (own := [("gap", 7)]) (by rfl) sc__law_gaps.nd (xi_keys (xe_var 3 (pv 3))) (blkOk_by (own := [("gap", 7)]) (N := n__law_gaps) (sc := defScope s__law_gaps) (by decide +kernel)) (xgb_name 7 (fun _ _ _ _ _ => pg_name (i := 7) sc__law_gaps.nd rfl (by first | exact Or.inl rfl | exact Or.inr rfl))) (by decide) (fun _ _ _ _ _ => xts_nil) (fun _ _ _ _ _ => (xe_tup (xa_cons (xe_var 7 (pv 7)) (xa_cons (xe_dget (hu_of hr) (xe_var 3 (pv 3)) (xe_var 7 (pv 7)) (fun _ _ => rfl)) xa_nil))))) xa_nil)) xa_nil))))))), sp__law_gaps⟩
end
end TL
namespace TL
open PySem PySem.Spec PyProof.Rows L2 RZ

section
variable {P : Program} {w : World} {K : PySem.W.Frag} {mg : Str → Option Value} {base : Heap}
theorem ok__law_numbers (T : Tp K w mg) (am : Addr) : FnG P w K mg base CX0 1 T.f__law_numbers T.fd__law_numbers ["run_so", "total"] (spD K am (JD am) 2 pt__law_numbers) :=
  fn_okG (G := ⟨am, (JD am), (JD.st am), ⟨fun _ => none, fun _ => 0⟩⟩) (k := 0) T.F__law_numbers sc__law_numbers rfl pt__law_numbers_mo fun u X cdv A outer s H E hX hr hg => by
    subst hX
    exact ⟨tb__law_numbers, (xs_one (xs_ret (xe_lc (own := [("k", 2)]) (by rfl) sc__law_numbers.nd (xi_rng1 (by rfl) T.m_range (xa_cons (xe_ix (xe_var 0 (pv 0)) xe_int (fun _ _ => rfl)) xa_nil)) (blkOk_by (own := [("k", 2)]) (N := n__law_numbers) (sc := defScope s__law_numbers) (by decide +kernel)) (xgb_name 2 (fun _ _ _ _ _ => pg_name (i := 2) sc__law_numbers.nd rfl (by first | exact Or.inl rfl | exact Or.inr rfl))) (by decide) (fun _ _ _ _ _ => xts_nil) (fun _ _ _ _ _ => (xe_mod (xe_callTy call_int1 cd_int (by rfl) T.m_int (by decide +kernel) (xa_cons (xe_add (xe_ix (xe_var 0 (pv 0)) xe_int (fun _ _ => rfl)) (xe_mulB (xe_var 2 (pv 2)) (xe_ix (xe_var 0 (pv 0)) xe_int (fun _ _ => rfl)))) xa_nil)) (xe_var 1 (pv 1))))))), sp__law_numbers⟩
end
end TL
namespace TL
open PySem PySem.Spec PyProof.Rows L2 RZ

section
variable {P : Program} {w : World} {K : PySem.W.Frag} {mg : Str → Option Value} {base : Heap}
theorem xs_law (T : Tp K w mg) (am : Addr) (w0 : Wd) {cdv : Value} {A : Around} {outer : List Env} {s : Shared} {H : Hp} {E : XK} (hg : (cxOf CX0 P w K mg base n_law "law" (defScope s_law) T.f_law cdv A outer s H E).nox.A.guards = some []) (hr : Room 5 (cxOf CX0 P w K mg base n_law "law" (defScope s_law) T.f_law cdv A outer s H E).nox.A) :
    XSs ⟨am, JD am, JD.st am, w0⟩ (cxOf CX0 P w K mg base n_law "law" (defScope s_law) T.f_law cdv A outer s H E).nox (defBody s_law).tail tb_law :=
  (xs_cons (xs_for PassesOwn.never (by rfl) (xi_rng1 (by rfl) T.m_range (xa_cons (xe_add xe_int (xe_callB (call_min2 (by rfl)) cd_I2 (by rfl) T.m_min (by decide +kernel) (xa_cons xe_int (xa_cons (xe_callB call_lenA cd_len (by rfl) T.m_len (by decide +kernel) (xa_cons (xe_var 0 (pv 0)) xa_nil)) xa_nil)))) xa_nil)) (xg_name 2 (pg_name (i := 2) sc_law.nd rfl (by first | exact Or.inl rfl | exact Or.inr rfl)))
    (xs_cons (xs_asg (b := false) (xe_callG (ok__law_counter T am) pt__law_counter_mo (hr.mono (by decide)) hg (by rfl) T.g__law_counter T.F__law_counter.kp T.b__law_counter (xl_tok 1 (pv 1) xl_nil)) (xg_tup (by rfl) (xgs_cons (xg_name 3 (pg_name (i := 3) sc_law.nd rfl (by first | exact Or.inl rfl | exact Or.inr rfl))) (xgs_cons (xg_name 4 (pg_name (i := 4) sc_law.nd rfl (by first | exact Or.inl rfl | exact Or.inr rfl))) xgs_nil))))
    (xs_cons (xs_set 5 (xe_callG (ok__law_run T am) pt__law_run_mo (hr.mono (by decide)) hg (by rfl) T.g__law_run T.F__law_run.kp T.b__law_run (xl_tok 1 (pv 1) (xl_cons (xe_var 3 (pv 3)) (xl_cons (xe_callB call_lenA cd_len (by rfl) T.m_len (by decide +kernel) (xa_cons (xe_var 4 (pv 4)) xa_nil)) xl_nil)))) (fun _ he => ps_set (i := 5) sc_law.nd rfl (by first | exact Or.inl rfl | exact Or.inr rfl) he))
    (xs_cons (xs_if (xc_co co_neS (xe_callB (call_reprU hg (un66 hr)) cd_reprU (by rfl) T.m_repr (by decide +kernel) (xa_cons (xe_callG (ok_gaps T am (JD am) (JD.st am)) pt_gaps_mo (hr.mono (by decide)) hg (by rfl) T.g_gaps T.F_gaps.kp T.b_gaps (xl_cons (xe_var 5 (pv 5)) xl_nil)) xa_nil)) (xe_callB (call_reprU hg (un66 hr)) cd_reprU (by rfl) T.m_repr (by decide +kernel) (xa_cons (xe_callG (ok__law_gaps T am) pt__law_gaps_mo (hr.mono (by decide)) hg (by rfl) T.g__law_gaps T.F__law_gaps.kp T.b__law_gaps (xl_cons (xe_callG (ok__law_numbers T am) pt__law_numbers_mo (hr.mono (by decide)) hg (by rfl) T.g__law_numbers T.F__law_numbers.kp T.b__law_numbers (xl_cons (xe_var 5 (pv 5)) (xl_cons (xe_callB call_lenA cd_len (by rfl) T.m_len (by decide +kernel) (xa_cons (xe_var 4 (pv 4)) xa_nil)) xl_nil))) (xl_cons (xe_callB call_lenA cd_len (by rfl) T.m_len (by decide +kernel) (xa_cons (xe_var 4 (pv 4)) xa_nil)) xl_nil))) xa_nil)) (nomark _))
    (xs_one (xs_ret xe_bl))
    xs_nil)
    (xs_cons (xs_if (xc_not (xc_val (xe_callG (ok__law_right T am) pt__law_right_mo hr hg (by rfl) T.g__law_right T.F__law_right.kp T.b__law_right (xl_cons (xe_var 5 (pv 5)) (xl_cons (xe_callB call_lenA cd_len (by rfl) T.m_len (by decide +kernel) (xa_cons (xe_var 4 (pv 4)) xa_nil)) xl_nil)))))
    (xs_one (xs_ret xe_bl))
    xs_nil)
    (xs_cons (xs_asg (b := false) (xe_callG (ok__law_great T am) pt__law_great_mo (hr.mono (by decide)) hg (by rfl) T.g__law_great T.F__law_great.kp T.b__law_great (xl_tok 1 (pv 1) xl_nil)) (xg_tup (by rfl) (xgs_cons (xg_name 5 (pg_name (i := 5) sc_law.nd rfl (by first | exact Or.inl rfl | exact Or.inr rfl))) (xgs_cons (xg_name 6 (pg_name (i := 6) sc_law.nd rfl (by first | exact Or.inl rfl | exact Or.inr rfl))) xgs_nil))))
    (xs_one (xs_if (xc_not (xc_val (xe_callG (ok__law_right T am) pt__law_right_mo hr hg (by rfl) T.g__law_right T.F__law_right.kp T.b__law_right (xl_cons (xe_var 5 (pv 5)) (xl_cons (xe_var 6 (pv 6)) xl_nil)))))
    (xs_one (xs_ret xe_bl))
    xs_nil))))))))
    (xs_one (xs_ret xe_bl)))
end
end TL
namespace TL
open PySem PySem.Spec PyProof.Rows L2 RZ
section
variable {P : Program} {w : World} {K : PySem.W.Frag} {mg : Str → Option Value}
theorem rv_script {a : Addr} {vs : List Value} {ns : List Int} {H' : Hp} {cl : Addr → Nat} (sq : SqL K (hpOf K a vs ns) a (ns.map V.int)) (same : Same (hpOf K a vs ns) H') (c0 : ∀ b o, hpOf K a vs ns b = some o → cl b = 0) : Rv K ⟨H', cl⟩ (.ref a) (.list (ns.map PyData.int)) := by
  have rl : ∀ l : List Int, RvL K ⟨H', cl⟩ (l.map V.int) (l.map PyData.int) := fun l => by
    induction l with
    | nil => exact .nil
    | cons n r ih => exact .cons (.int n) ih
  refine .lst ?_ (rl ns)
  rcases sq with (z | ⟨o, z⟩) | z
  · exact .inl ⟨.inl (same _ _ z), c0 _ _ z⟩
  · exact .inl ⟨.inr ⟨o, same _ _ z⟩, c0 _ _ z⟩
  · exact .inr (.inr z)
theorem law_body (T : Tp K w mg) {base : Heap} {cdv : Value} {s1 : Shared} {a : Addr} {vs : List Value} {ns : List Int} (few : ns.length ≤ 63) (sq : SqL K (hpOf K a vs ns) a (ns.map V.int))
    (hr : Room 5 (callerA.deeper (envOfC "law" (defScope s_law) s1.heap.objs.size T.f_law cdv))) :
    ∃ t, PSs (cxOf CX0 P w K mg base n_law "law" (defScope s_law) T.f_law cdv callerA [] s1 (hpOf K a vs ns) fun _ _ _ => False).nox (defBody s_law) t ∧ t { nx := fun _ _ => V.non = V.bl true, rt := fun v _ => v = V.bl true } (start n_law [.ref a]) (hpOf K a vs ns) := by
  refine ⟨_, pss_cons (ps_set (i := 1) sc_law.nd rfl (by first | exact Or.inl rfl | exact Or.inr rfl) (pe_call (dvs := []) (ok__law_begun T) (hr.mono (by decide)) (by rfl) T.g__law_begun T.F__law_begun.kp T.b__law_begun .nil pass0 (pa_cons (pv 0) pa_nil))) (pss_ex fun am => (xs_law T am ⟨hpOf K a vs ns, fun _ => 0⟩ rfl hr).ps), ?_⟩
  refine ⟨_, rfl, a, ns, rfl, sq, few, fun p c r cells rest H' np nc nr same hp hc hrr ne lr lz lc => ?_⟩
  have c0 : ∀ b o, hpOf K a vs ns b = some o → (if b = p ∨ b = c ∨ b = r then 2 else 0) = 0 := fun b o z => by
    refine if_neg fun y => ?_
    rcases y with y | y | y <;> rw [y] at z
    · rw [np] at z; cases z
    · rw [nc] at z; cases z
    · rw [nr] at z; cases z
  let u : Wd := ⟨H', fun b => if b = p ∨ b = c ∨ b = r then 2 else 0⟩
  refine ⟨p, u.cl, [S.v (.list (ns.map .int)), S.tok, S.un, S.un, S.un, S.un, S.un], 10000, [], ?_, ?_, ?_, ?_⟩
  · exact ⟨c, r, cells, rest, 0, ⟨hp, hc, hrr, if_pos (.inl rfl), if_pos (.inr (.inl rfl)), if_pos (.inr (.inr rfl)), ne, lr⟩, ⟨lz, lc⟩, by omega, by omega⟩
  · exact ⟨fun b o z => ⟨c0 b o z, fun _ => same b o z⟩, fun b o z => ⟨o, same b o z⟩⟩
  · exact .v (rv_script sq same c0) (.tok (.un none (.un none (.un none (.un none (.un none .nil))))))
  · refine (xs_law (P := P) (base := base) (outer := []) (s := s1) (H := hpOf K a vs ns) (E := fun _ _ _ => False) T p ⟨hpOf K a vs ns, fun _ => 0⟩ rfl hr).mo { nx := fun _ _ => False, rt := fun d _ => d = .bool true } _ _ _ ⟨fun _ _ z => z.elim, fun d g e x v _ _ rv => ?_, fun _ _ z => z.elim, fun _ _ z => z.elim⟩ (sp_law ns few 10000 (Nat.le_refl _))
    subst e
    cases rv
    rfl
theorem law_F (T : Tp K w mg) {fa : Addr} (hfa : mg "law" = some (.ref fa)) :
    ∃ fd : FuncData, Fun K "law" "law" s_law fa fd ∧ (∀ (s : Shared) (u : Value), BindsTo s fd ⟨[u], []⟩ [("script", u)]) ∧
      ∀ (s1 : Shared) (a : Addr) (vs : List Value) (ns : List Int) (base : Heap) (cdv : Value), ns.length ≤ 63 → K.In base → base.Ns mainGlobals mg → SqL K (hpOf K a vs ns) a (ns.map V.int) → Room 5 (callerA.deeper (envOfC "law" (defScope s_law) s1.heap.objs.size fa cdv)) →
        ∃ t, PSs (cxOf CX0 P w K mg base n_law "law" (defScope s_law) fa cdv callerA [] s1 (hpOf K a vs ns) fun _ _ _ => False).nox (defBody s_law) t ∧ t { nx := fun _ _ => V.non = V.bl true, rt := fun v _ => v = V.bl true } (start n_law [.ref a]) (hpOf K a vs ns) := by
  have e := T.g_law.symm.trans hfa
  cases e
  refine ⟨T.fd_law, T.F_law, fun s u => ?_, fun s1 a vs ns base cdv few _ _ sq hr => law_body T few sq hr⟩
  obtain ⟨oc, od, kV, doc, pm, an, cdv, ct, osl, efd, _, _⟩ := T.F_law.ex
  rw [efd]
  exact .of_eq rfl
end
end TL

namespace TL
open PySem PySem.Spec PyProof.Rows L2 RZ
set_option maxHeartbeats 0 in
theorem top_mk {w : World} {K : PySem.W.Frag} {mg : Str → Option Value} {h : Heap} (X : K.In h) (G : h.Ns mainGlobals mg)
    {f0 : Addr} {od0 an0 : Option Addr} {sl0 : Array (Option Value)} {oc0 kV0 dc0 pm0 cd0 ct0 : Value}
    {f1 : Addr} {od1 an1 : Option Addr} {sl1 : Array (Option Value)} {oc1 kV1 dc1 pm1 cd1 ct1 : Value}
    {f2 : Addr} {od2 an2 : Option Addr} {sl2 : Array (Option Value)} {oc2 kV2 dc2 pm2 cd2 ct2 : Value}
    {f3 : Addr} {od3 an3 : Option Addr} {sl3 : Array (Option Value)} {oc3 kV3 dc3 pm3 cd3 ct3 : Value}
    {f4 : Addr} {od4 an4 : Option Addr} {sl4 : Array (Option Value)} {oc4 kV4 dc4 pm4 cd4 ct4 : Value}
    {f5 : Addr} {od5 an5 : Option Addr} {sl5 : Array (Option Value)} {oc5 kV5 dc5 pm5 cd5 ct5 : Value}
    {f6 : Addr} {od6 an6 : Option Addr} {sl6 : Array (Option Value)} {oc6 kV6 dc6 pm6 cd6 ct6 : Value}
    {f7 : Addr} {od7 an7 : Option Addr} {sl7 : Array (Option Value)} {oc7 kV7 dc7 pm7 cd7 ct7 : Value}
    {f8 : Addr} {od8 an8 : Option Addr} {sl8 : Array (Option Value)} {oc8 kV8 dc8 pm8 cd8 ct8 : Value}
    {f9 : Addr} {od9 an9 : Option Addr} {sl9 : Array (Option Value)} {oc9 kV9 dc9 pm9 cd9 ct9 : Value}
    {f10 : Addr} {od10 an10 : Option Addr} {sl10 : Array (Option Value)} {oc10 kV10 dc10 pm10 cd10 ct10 : Value}
    {f11 : Addr} {od11 an11 : Option Addr} {sl11 : Array (Option Value)} {oc11 kV11 dc11 pm11 cd11 ct11 : Value}
    {f12 : Addr} {od12 an12 : Option Addr} {sl12 : Array (Option Value)} {oc12 kV12 dc12 pm12 cd12 ct12 : Value}
    {f13 : Addr} {od13 an13 : Option Addr} {sl13 : Array (Option Value)} {oc13 kV13 dc13 pm13 cd13 ct13 : Value}
    {f14 : Addr} {od14 an14 : Option Addr} {sl14 : Array (Option Value)} {oc14 kV14 dc14 pm14 cd14 ct14 : Value}
    {f15 : Addr} {od15 an15 : Option Addr} {sl15 : Array (Option Value)} {oc15 kV15 dc15 pm15 cd15 ct15 : Value}
    {f16 : Addr} {od16 an16 : Option Addr} {sl16 : Array (Option Value)} {oc16 kV16 dc16 pm16 cd16 ct16 : Value}
    {f17 : Addr} {od17 an17 : Option Addr} {sl17 : Array (Option Value)} {oc17 kV17 dc17 pm17 cd17 ct17 : Value}
    {f18 : Addr} {od18 an18 : Option Addr} {sl18 : Array (Option Value)} {oc18 kV18 dc18 pm18 cd18 ct18 : Value}
    {f19 : Addr} {od19 an19 : Option Addr} {sl19 : Array (Option Value)} {oc19 kV19 dc19 pm19 cd19 ct19 : Value}
    {f20 : Addr} {od20 an20 : Option Addr} {sl20 : Array (Option Value)} {oc20 kV20 dc20 pm20 cd20 ct20 : Value}
    {f21 : Addr} {od21 an21 : Option Addr} {sl21 : Array (Option Value)} {oc21 kV21 dc21 pm21 cd21 ct21 : Value}
    {f22 : Addr} {od22 an22 : Option Addr} {sl22 : Array (Option Value)} {oc22 kV22 dc22 pm22 cd22 ct22 : Value}
    {f23 : Addr} {od23 an23 : Option Addr} {sl23 : Array (Option Value)} {oc23 kV23 dc23 pm23 cd23 ct23 : Value}
    {f24 : Addr} {od24 an24 : Option Addr} {sl24 : Array (Option Value)} {oc24 kV24 dc24 pm24 cd24 ct24 : Value}
    {f25 : Addr} {od25 an25 : Option Addr} {sl25 : Array (Option Value)} {oc25 kV25 dc25 pm25 cd25 ct25 : Value}
    {u_PERCENT : Tok}
    {u_MOST_DIALS : Tok}
    {u_MOST_COPIES : Tok}
    {u_MOST_MANY : Tok}
    {u_MOST_STEP : Tok}
    (a0 : PySem.W.nsIn K mainGlobals "_law_begun" = some (some (.ref f0)))
    (l0 : K.lookup f0 = some ⟨oc0, od0, .func (PySem.W.fnOf "_law_begun" "_law_begun" (defArgs s__law_begun) (defBody s__law_begun) (defScope s__law_begun) .none kV0 dc0 pm0 an0 cd0 ct0), sl0⟩)
    (c0 : PySem.W.codeIn K cd0 "_law_begun" = true)
    (k0 : PySem.W.keepIn K (.ref f0) = true)
    (a1 : PySem.W.nsIn K mainGlobals "_law_mix" = some (some (.ref f1)))
    (l1 : K.lookup f1 = some ⟨oc1, od1, .func (PySem.W.fnOf "_law_mix" "_law_mix" (defArgs s__law_mix) (defBody s__law_mix) (defScope s__law_mix) .none kV1 dc1 pm1 an1 cd1 ct1), sl1⟩)
    (c1 : PySem.W.codeIn K cd1 "_law_mix" = true)
    (k1 : PySem.W.keepIn K (.ref f1) = true)
    (a2 : PySem.W.nsIn K mainGlobals "_law_draw" = some (some (.ref f2)))
    (l2 : K.lookup f2 = some ⟨oc2, od2, .func (PySem.W.fnOf "_law_draw" "_law_draw" (defArgs s__law_draw) (defBody s__law_draw) (defScope s__law_draw) .none kV2 dc2 pm2 an2 cd2 ct2), sl2⟩)
    (c2 : PySem.W.codeIn K cd2 "_law_draw" = true)
    (k2 : PySem.W.keepIn K (.ref f2) = true)
    (a3 : PySem.W.nsIn K mainGlobals "_law_counter" = some (some (.ref f3)))
    (l3 : K.lookup f3 = some ⟨oc3, od3, .func (PySem.W.fnOf "_law_counter" "_law_counter" (defArgs s__law_counter) (defBody s__law_counter) (defScope s__law_counter) .none kV3 dc3 pm3 an3 cd3 ct3), sl3⟩)
    (c3 : PySem.W.codeIn K cd3 "_law_counter" = true)
    (k3 : PySem.W.keepIn K (.ref f3) = true)
    (a4 : PySem.W.nsIn K mainGlobals "_law_run" = some (some (.ref f4)))
    (l4 : K.lookup f4 = some ⟨oc4, od4, .func (PySem.W.fnOf "_law_run" "_law_run" (defArgs s__law_run) (defBody s__law_run) (defScope s__law_run) .none kV4 dc4 pm4 an4 cd4 ct4), sl4⟩)
    (c4 : PySem.W.codeIn K cd4 "_law_run" = true)
    (k4 : PySem.W.keepIn K (.ref f4) = true)
    (a5 : PySem.W.nsIn K mainGlobals "is_dial" = some (some (.ref f5)))
    (l5 : K.lookup f5 = some ⟨oc5, od5, .func (PySem.W.fnOf "is_dial" "is_dial" (defArgs s_is_dial) (defBody s_is_dial) (defScope s_is_dial) .none kV5 dc5 pm5 an5 cd5 ct5), sl5⟩)
    (c5 : PySem.W.codeIn K cd5 "is_dial" = true)
    (k5 : PySem.W.keepIn K (.ref f5) = true)
    (a6 : PySem.W.nsIn K mainGlobals "need_counter" = some (some (.ref f6)))
    (l6 : K.lookup f6 = some ⟨oc6, od6, .func (PySem.W.fnOf "need_counter" "need_counter" (defArgs s_need_counter) (defBody s_need_counter) (defScope s_need_counter) .none kV6 dc6 pm6 an6 cd6 ct6), sl6⟩)
    (c6 : PySem.W.codeIn K cd6 "need_counter" = true)
    (k6 : PySem.W.keepIn K (.ref f6) = true)
    (a7 : PySem.W.nsIn K mainGlobals "size_of" = some (some (.ref f7)))
    (l7 : K.lookup f7 = some ⟨oc7, od7, .func (PySem.W.fnOf "size_of" "size_of" (defArgs s_size_of) (defBody s_size_of) (defScope s_size_of) .none kV7 dc7 pm7 an7 cd7 ct7), sl7⟩)
    (c7 : PySem.W.codeIn K cd7 "size_of" = true)
    (k7 : PySem.W.keepIn K (.ref f7) = true)
    (a8 : PySem.W.nsIn K mainGlobals "size" = some (some (.ref f8)))
    (l8 : K.lookup f8 = some ⟨oc8, od8, .func (PySem.W.fnOf "size" "size" (defArgs s_size) (defBody s_size) (defScope s_size) .none kV8 dc8 pm8 an8 cd8 ct8), sl8⟩)
    (c8 : PySem.W.codeIn K cd8 "size" = true)
    (k8 : PySem.W.keepIn K (.ref f8) = true)
    (a9 : PySem.W.nsIn K mainGlobals "_law_ten" = some (some (.ref f9)))
    (l9 : K.lookup f9 = some ⟨oc9, od9, .func (PySem.W.fnOf "_law_ten" "_law_ten" (defArgs s__law_ten) (defBody s__law_ten) (defScope s__law_ten) .none kV9 dc9 pm9 an9 cd9 ct9), sl9⟩)
    (c9 : PySem.W.codeIn K cd9 "_law_ten" = true)
    (k9 : PySem.W.keepIn K (.ref f9) = true)
    (a10 : PySem.W.nsIn K mainGlobals "_law_great" = some (some (.ref f10)))
    (l10 : K.lookup f10 = some ⟨oc10, od10, .func (PySem.W.fnOf "_law_great" "_law_great" (defArgs s__law_great) (defBody s__law_great) (defScope s__law_great) .none kV10 dc10 pm10 an10 cd10 ct10), sl10⟩)
    (c10 : PySem.W.codeIn K cd10 "_law_great" = true)
    (k10 : PySem.W.keepIn K (.ref f10) = true)
    (a11 : PySem.W.nsIn K mainGlobals "is_row" = some (some (.ref f11)))
    (l11 : K.lookup f11 = some ⟨oc11, od11, .func (PySem.W.fnOf "is_row" "is_row" (defArgs s_is_row) (defBody s_is_row) (defScope s_is_row) .none kV11 dc11 pm11 an11 cd11 ct11), sl11⟩)
    (c11 : PySem.W.codeIn K cd11 "is_row" = true)
    (k11 : PySem.W.keepIn K (.ref f11) = true)
    (a12 : PySem.W.nsIn K mainGlobals "is_counter" = some (some (.ref f12)))
    (l12 : K.lookup f12 = some ⟨oc12, od12, .func (PySem.W.fnOf "is_counter" "is_counter" (defArgs s_is_counter) (defBody s_is_counter) (defScope s_is_counter) .none kV12 dc12 pm12 an12 cd12 ct12), sl12⟩)
    (c12 : PySem.W.codeIn K cd12 "is_counter" = true)
    (k12 : PySem.W.keepIn K (.ref f12) = true)
    (a13 : PySem.W.nsIn K mainGlobals "is_whole" = some (some (.ref f13)))
    (l13 : K.lookup f13 = some ⟨oc13, od13, .func (PySem.W.fnOf "is_whole" "is_whole" (defArgs s_is_whole) (defBody s_is_whole) (defScope s_is_whole) .none kV13 dc13 pm13 an13 cd13 ct13), sl13⟩)
    (c13 : PySem.W.codeIn K cd13 "is_whole" = true)
    (k13 : PySem.W.keepIn K (.ref f13) = true)
    (a14 : PySem.W.nsIn K mainGlobals "is_between" = some (some (.ref f14)))
    (l14 : K.lookup f14 = some ⟨oc14, od14, .func (PySem.W.fnOf "is_between" "is_between" (defArgs s_is_between) (defBody s_is_between) (defScope s_is_between) .none kV14 dc14 pm14 an14 cd14 ct14), sl14⟩)
    (c14 : PySem.W.codeIn K cd14 "is_between" = true)
    (k14 : PySem.W.keepIn K (.ref f14) = true)
    (a15 : PySem.W.nsIn K mainGlobals "need_run" = some (some (.ref f15)))
    (l15 : K.lookup f15 = some ⟨oc15, od15, .func (PySem.W.fnOf "need_run" "need_run" (defArgs s_need_run) (defBody s_need_run) (defScope s_need_run) .none kV15 dc15 pm15 an15 cd15 ct15), sl15⟩)
    (c15 : PySem.W.codeIn K cd15 "need_run" = true)
    (k15 : PySem.W.keepIn K (.ref f15) = true)
    (a16 : PySem.W.nsIn K mainGlobals "period_of" = some (some (.ref f16)))
    (l16 : K.lookup f16 = some ⟨oc16, od16, .func (PySem.W.fnOf "period_of" "period_of" (defArgs s_period_of) (defBody s_period_of) (defScope s_period_of) .none kV16 dc16 pm16 an16 cd16 ct16), sl16⟩)
    (c16 : PySem.W.codeIn K cd16 "period_of" = true)
    (k16 : PySem.W.keepIn K (.ref f16) = true)
    (a17 : PySem.W.nsIn K mainGlobals "round_length" = some (some (.ref f17)))
    (l17 : K.lookup f17 = some ⟨oc17, od17, .func (PySem.W.fnOf "round_length" "round_length" (defArgs s_round_length) (defBody s_round_length) (defScope s_round_length) .none kV17 dc17 pm17 an17 cd17 ct17), sl17⟩)
    (c17 : PySem.W.codeIn K cd17 "round_length" = true)
    (k17 : PySem.W.keepIn K (.ref f17) = true)
    (a18 : PySem.W.nsIn K mainGlobals "nearest" = some (some (.ref f18)))
    (l18 : K.lookup f18 = some ⟨oc18, od18, .func (PySem.W.fnOf "nearest" "nearest" (defArgs s_nearest) (defBody s_nearest) (defScope s_nearest) .none kV18 dc18 pm18 an18 cd18 ct18), sl18⟩)
    (c18 : PySem.W.codeIn K cd18 "nearest" = true)
    (k18 : PySem.W.keepIn K (.ref f18) = true)
    (a19 : PySem.W.nsIn K mainGlobals "gaps" = some (some (.ref f19)))
    (l19 : K.lookup f19 = some ⟨oc19, od19, .func (PySem.W.fnOf "gaps" "gaps" (defArgs s_gaps) (defBody s_gaps) (defScope s_gaps) .none kV19 dc19 pm19 an19 cd19 ct19), sl19⟩)
    (c19 : PySem.W.codeIn K cd19 "gaps" = true)
    (k19 : PySem.W.keepIn K (.ref f19) = true)
    (a20 : PySem.W.nsIn K mainGlobals "_law_parted" = some (some (.ref f20)))
    (l20 : K.lookup f20 = some ⟨oc20, od20, .func (PySem.W.fnOf "_law_parted" "_law_parted" (defArgs s__law_parted) (defBody s__law_parted) (defScope s__law_parted) .none kV20 dc20 pm20 an20 cd20 ct20), sl20⟩)
    (c20 : PySem.W.codeIn K cd20 "_law_parted" = true)
    (k20 : PySem.W.keepIn K (.ref f20) = true)
    (a21 : PySem.W.nsIn K mainGlobals "round_of" = some (some (.ref f21)))
    (l21 : K.lookup f21 = some ⟨oc21, od21, .func (PySem.W.fnOf "round_of" "round_of" (defArgs s_round_of) (defBody s_round_of) (defScope s_round_of) .none kV21 dc21 pm21 an21 cd21 ct21), sl21⟩)
    (c21 : PySem.W.codeIn K cd21 "round_of" = true)
    (k21 : PySem.W.keepIn K (.ref f21) = true)
    (a22 : PySem.W.nsIn K mainGlobals "_law_right" = some (some (.ref f22)))
    (l22 : K.lookup f22 = some ⟨oc22, od22, .func (PySem.W.fnOf "_law_right" "_law_right" (defArgs s__law_right) (defBody s__law_right) (defScope s__law_right) .none kV22 dc22 pm22 an22 cd22 ct22), sl22⟩)
    (c22 : PySem.W.codeIn K cd22 "_law_right" = true)
    (k22 : PySem.W.keepIn K (.ref f22) = true)
    (a23 : PySem.W.nsIn K mainGlobals "_law_gaps" = some (some (.ref f23)))
    (l23 : K.lookup f23 = some ⟨oc23, od23, .func (PySem.W.fnOf "_law_gaps" "_law_gaps" (defArgs s__law_gaps) (defBody s__law_gaps) (defScope s__law_gaps) .none kV23 dc23 pm23 an23 cd23 ct23), sl23⟩)
    (c23 : PySem.W.codeIn K cd23 "_law_gaps" = true)
    (k23 : PySem.W.keepIn K (.ref f23) = true)
    (a24 : PySem.W.nsIn K mainGlobals "_law_numbers" = some (some (.ref f24)))
    (l24 : K.lookup f24 = some ⟨oc24, od24, .func (PySem.W.fnOf "_law_numbers" "_law_numbers" (defArgs s__law_numbers) (defBody s__law_numbers) (defScope s__law_numbers) .none kV24 dc24 pm24 an24 cd24 ct24), sl24⟩)
    (c24 : PySem.W.codeIn K cd24 "_law_numbers" = true)
    (k24 : PySem.W.keepIn K (.ref f24) = true)
    (a25 : PySem.W.nsIn K mainGlobals "law" = some (some (.ref f25)))
    (l25 : K.lookup f25 = some ⟨oc25, od25, .func (PySem.W.fnOf "law" "law" (defArgs s_law) (defBody s_law) (defScope s_law) .none kV25 dc25 pm25 an25 cd25 ct25), sl25⟩)
    (c25 : PySem.W.codeIn K cd25 "law" = true)
    (k25 : PySem.W.keepIn K (.ref f25) = true)
    (z_all : PySem.W.nsIn K mainGlobals "all" = some none)
    (z_bool : PySem.W.nsIn K mainGlobals "bool" = some none)
    (z_dict : PySem.W.nsIn K mainGlobals "dict" = some none)
    (z_enumerate : PySem.W.nsIn K mainGlobals "enumerate" = some none)
    (z_int : PySem.W.nsIn K mainGlobals "int" = some none)
    (z_isinstance : PySem.W.nsIn K mainGlobals "isinstance" = some none)
    (z_len : PySem.W.nsIn K mainGlobals "len" = some none)
    (z_list : PySem.W.nsIn K mainGlobals "list" = some none)
    (z_max : PySem.W.nsIn K mainGlobals "max" = some none)
    (z_min : PySem.W.nsIn K mainGlobals "min" = some none)
    (z_ord : PySem.W.nsIn K mainGlobals "ord" = some none)
    (z_range : PySem.W.nsIn K mainGlobals "range" = some none)
    (z_repr : PySem.W.nsIn K mainGlobals "repr" = some none)
    (z_set : PySem.W.nsIn K mainGlobals "set" = some none)
    (z_sorted : PySem.W.nsIn K mainGlobals "sorted" = some none)
    (z_str : PySem.W.nsIn K mainGlobals "str" = some none)
    (z_sum : PySem.W.nsIn K mainGlobals "sum" = some none)
    (z_tuple : PySem.W.nsIn K mainGlobals "tuple" = some none)
    (y_gcd : PySem.W.nsIn K mainGlobals "gcd" = some (some (.builtin "math.gcd")))
    (a_PERCENT : PySem.W.nsIn K mainGlobals "PERCENT" = some (some (.int 37 u_PERCENT)))
    (a_MOST_DIALS : PySem.W.nsIn K mainGlobals "MOST_DIALS" = some (some (.int 12 u_MOST_DIALS)))
    (a_MOST_COPIES : PySem.W.nsIn K mainGlobals "MOST_COPIES" = some (some (.int 1000 u_MOST_COPIES)))
    (a_MOST_MANY : PySem.W.nsIn K mainGlobals "MOST_MANY" = some (some (.int 1000000000000000000000000000000 u_MOST_MANY)))
    (a_MOST_STEP : PySem.W.nsIn K mainGlobals "MOST_STEP" = some (some (.int 1000000000000000000 u_MOST_STEP))) : Nonempty (Tp K w mg) := ⟨{
    f__law_begun := f0, fd__law_begun := _, F__law_begun := fun_mk (st := s__law_begun) l0 c0 k0, g__law_begun := PySem.W.mg_of X G a0, b__law_begun := (fun_mk (st := s__law_begun) l0 c0 k0).binds (ps := ["script"]) fun _ _ _ _ _ _ us hl => match us, hl with | [_], _ => rfl,
    f__law_mix := f1, fd__law_mix := _, F__law_mix := fun_mk (st := s__law_mix) l1 c1 k1, g__law_mix := PySem.W.mg_of X G a1, b__law_mix := (fun_mk (st := s__law_mix) l1 c1 k1).binds (ps := ["cell", "spot"]) fun _ _ _ _ _ _ us hl => match us, hl with | [_, _], _ => rfl,
    f__law_draw := f2, fd__law_draw := _, F__law_draw := fun_mk (st := s__law_draw) l2 c2 k2, g__law_draw := PySem.W.mg_of X G a2, b__law_draw := (fun_mk (st := s__law_draw) l2 c2 k2).binds (ps := ["m", "limit"]) fun _ _ _ _ _ _ us hl => match us, hl with | [_, _], _ => rfl,
    f__law_counter := f3, fd__law_counter := _, F__law_counter := fun_mk (st := s__law_counter) l3 c3 k3, g__law_counter := PySem.W.mg_of X G a3, b__law_counter := (fun_mk (st := s__law_counter) l3 c3 k3).binds (ps := ["m"]) fun _ _ _ _ _ _ us hl => match us, hl with | [_], _ => rfl,
    f__law_run := f4, fd__law_run := _, F__law_run := fun_mk (st := s__law_run) l4 c4 k4, g__law_run := PySem.W.mg_of X G a4, b__law_run := (fun_mk (st := s__law_run) l4 c4 k4).binds (ps := ["m", "counter_so", "total"]) fun _ _ _ _ _ _ us hl => match us, hl with | [_, _, _], _ => rfl,
    f_is_dial := f5, fd_is_dial := _, F_is_dial := fun_mk (st := s_is_dial) l5 c5 k5, g_is_dial := PySem.W.mg_of X G a5, b_is_dial := (fun_mk (st := s_is_dial) l5 c5 k5).binds (ps := ["value"]) fun _ _ _ _ _ _ us hl => match us, hl with | [_], _ => rfl,
    f_need_counter := f6, fd_need_counter := _, F_need_counter := fun_mk (st := s_need_counter) l6 c6 k6, g_need_counter := PySem.W.mg_of X G a6, b_need_counter := (fun_mk (st := s_need_counter) l6 c6 k6).binds (ps := ["thing"]) fun _ _ _ _ _ _ us hl => match us, hl with | [_], _ => rfl,
    f_size_of := f7, fd_size_of := _, F_size_of := fun_mk (st := s_size_of) l7 c7 k7, g_size_of := PySem.W.mg_of X G a7, b_size_of := (fun_mk (st := s_size_of) l7 c7 k7).binds (ps := ["counter"]) fun _ _ _ _ _ _ us hl => match us, hl with | [_], _ => rfl,
    f_size := f8, fd_size := _, F_size := fun_mk (st := s_size) l8 c8 k8, g_size := PySem.W.mg_of X G a8, b_size := (fun_mk (st := s_size) l8 c8 k8).binds (ps := ["counter"]) fun _ _ _ _ _ _ us hl => match us, hl with | [_], _ => rfl,
    f__law_ten := f9, fd__law_ten := _, F__law_ten := fun_mk (st := s__law_ten) l9 c9 k9, g__law_ten := PySem.W.mg_of X G a9, b__law_ten := (fun_mk (st := s__law_ten) l9 c9 k9).binds (ps := ["many"]) fun _ _ _ _ _ _ us hl => match us, hl with | [_], _ => rfl,
    f__law_great := f10, fd__law_great := _, F__law_great := fun_mk (st := s__law_great) l10 c10 k10, g__law_great := PySem.W.mg_of X G a10, b__law_great := (fun_mk (st := s__law_great) l10 c10 k10).binds (ps := ["m"]) fun _ _ _ _ _ _ us hl => match us, hl with | [_], _ => rfl,
    f_is_row := f11, fd_is_row := _, F_is_row := fun_mk (st := s_is_row) l11 c11 k11, g_is_row := PySem.W.mg_of X G a11, b_is_row := (fun_mk (st := s_is_row) l11 c11 k11).binds (ps := ["value", "many"]) fun _ _ _ _ _ _ us hl => match us, hl with | [_, _], _ => rfl,
    f_is_counter := f12, fd_is_counter := _, F_is_counter := fun_mk (st := s_is_counter) l12 c12 k12, g_is_counter := PySem.W.mg_of X G a12, b_is_counter := (fun_mk (st := s_is_counter) l12 c12 k12).binds (ps := ["value"]) fun _ _ _ _ _ _ us hl => match us, hl with | [_], _ => rfl,
    f_is_whole := f13, fd_is_whole := _, F_is_whole := fun_mk (st := s_is_whole) l13 c13 k13, g_is_whole := PySem.W.mg_of X G a13, b_is_whole := (fun_mk (st := s_is_whole) l13 c13 k13).binds (ps := ["value"]) fun _ _ _ _ _ _ us hl => match us, hl with | [_], _ => rfl,
    f_is_between := f14, fd_is_between := _, F_is_between := fun_mk (st := s_is_between) l14 c14 k14, g_is_between := PySem.W.mg_of X G a14, b_is_between := (fun_mk (st := s_is_between) l14 c14 k14).binds (ps := ["value", "low", "high"]) fun _ _ _ _ _ _ us hl => match us, hl with | [_, _, _], _ => rfl,
    f_need_run := f15, fd_need_run := _, F_need_run := fun_mk (st := s_need_run) l15 c15 k15, g_need_run := PySem.W.mg_of X G a15, b_need_run := (fun_mk (st := s_need_run) l15 c15 k15).binds (ps := ["thing"]) fun _ _ _ _ _ _ us hl => match us, hl with | [_], _ => rfl,
    f_period_of := f16, fd_period_of := _, F_period_of := fun_mk (st := s_period_of) l16 c16 k16, g_period_of := PySem.W.mg_of X G a16, b_period_of := (fun_mk (st := s_period_of) l16 c16 k16).binds (ps := ["step", "modulus"]) fun _ _ _ _ _ _ us hl => match us, hl with | [_, _], _ => rfl,
    f_round_length := f17, fd_round_length := _, F_round_length := fun_mk (st := s_round_length) l17 c17 k17, g_round_length := PySem.W.mg_of X G a17, b_round_length := (fun_mk (st := s_round_length) l17 c17 k17).binds (ps := ["run"]) fun _ _ _ _ _ _ us hl => match us, hl with | [_], _ => rfl,
    f_nearest := f18, fd_nearest := _, F_nearest := fun_mk (st := s_nearest) l18 c18 k18, g_nearest := PySem.W.mg_of X G a18, b_nearest := (fun_mk (st := s_nearest) l18 c18 k18).binds (ps := ["step", "modulus", "many"]) fun _ _ _ _ _ _ us hl => match us, hl with | [_, _, _], _ => rfl,
    f_gaps := f19, fd_gaps := _, F_gaps := fun_mk (st := s_gaps) l19 c19 k19, g_gaps := PySem.W.mg_of X G a19, b_gaps := (fun_mk (st := s_gaps) l19 c19 k19).binds (ps := ["run"]) fun _ _ _ _ _ _ us hl => match us, hl with | [_], _ => rfl,
    f__law_parted := f20, fd__law_parted := _, F__law_parted := fun_mk (st := s__law_parted) l20 c20 k20, g__law_parted := PySem.W.mg_of X G a20, b__law_parted := (fun_mk (st := s__law_parted) l20 c20 k20).binds (ps := ["near", "far"]) fun _ _ _ _ _ _ us hl => match us, hl with | [_, _], _ => rfl,
    f_round_of := f21, fd_round_of := _, F_round_of := fun_mk (st := s_round_of) l21 c21 k21, g_round_of := PySem.W.mg_of X G a21, b_round_of := (fun_mk (st := s_round_of) l21 c21 k21).binds (ps := ["run"]) fun _ _ _ _ _ _ us hl => match us, hl with | [_], _ => rfl,
    f__law_right := f22, fd__law_right := _, F__law_right := fun_mk (st := s__law_right) l22 c22 k22, g__law_right := PySem.W.mg_of X G a22, b__law_right := (fun_mk (st := s__law_right) l22 c22 k22).binds (ps := ["run_so", "total"]) fun _ _ _ _ _ _ us hl => match us, hl with | [_, _], _ => rfl,
    f__law_gaps := f23, fd__law_gaps := _, F__law_gaps := fun_mk (st := s__law_gaps) l23 c23 k23, g__law_gaps := PySem.W.mg_of X G a23, b__law_gaps := (fun_mk (st := s__law_gaps) l23 c23 k23).binds (ps := ["numbers_so", "total"]) fun _ _ _ _ _ _ us hl => match us, hl with | [_, _], _ => rfl,
    f__law_numbers := f24, fd__law_numbers := _, F__law_numbers := fun_mk (st := s__law_numbers) l24 c24 k24, g__law_numbers := PySem.W.mg_of X G a24, b__law_numbers := (fun_mk (st := s__law_numbers) l24 c24 k24).binds (ps := ["run_so", "total"]) fun _ _ _ _ _ _ us hl => match us, hl with | [_, _], _ => rfl,
    f_law := f25, fd_law := _, F_law := fun_mk (st := s_law) l25 c25 k25, g_law := PySem.W.mg_of X G a25, b_law := (fun_mk (st := s_law) l25 c25 k25).binds (ps := ["script"]) fun _ _ _ _ _ _ us hl => match us, hl with | [_], _ => rfl,
    m_all := PySem.W.mg_none_of X G z_all,
    m_bool := PySem.W.mg_none_of X G z_bool,
    m_dict := PySem.W.mg_none_of X G z_dict,
    m_enumerate := PySem.W.mg_none_of X G z_enumerate,
    m_int := PySem.W.mg_none_of X G z_int,
    m_isinstance := PySem.W.mg_none_of X G z_isinstance,
    m_len := PySem.W.mg_none_of X G z_len,
    m_list := PySem.W.mg_none_of X G z_list,
    m_max := PySem.W.mg_none_of X G z_max,
    m_min := PySem.W.mg_none_of X G z_min,
    m_ord := PySem.W.mg_none_of X G z_ord,
    m_range := PySem.W.mg_none_of X G z_range,
    m_repr := PySem.W.mg_none_of X G z_repr,
    m_set := PySem.W.mg_none_of X G z_set,
    m_sorted := PySem.W.mg_none_of X G z_sorted,
    m_str := PySem.W.mg_none_of X G z_str,
    m_sum := PySem.W.mg_none_of X G z_sum,
    m_tuple := PySem.W.mg_none_of X G z_tuple,
    i_gcd := PySem.W.mg_of X G y_gcd,
    c_PERCENT := cst_of X G a_PERCENT (valk_int _ _),
    c_MOST_DIALS := cst_of X G a_MOST_DIALS (valk_int _ _),
    c_MOST_COPIES := cst_of X G a_MOST_COPIES (valk_int _ _),
    c_MOST_MANY := cst_of X G a_MOST_MANY (valk_int _ _),
    c_MOST_STEP := cst_of X G a_MOST_STEP (valk_int _ _) }⟩
end TL
open PySem PySem.W PyProof.Rows
set_option maxHeartbeats 0 in
theorem PySem.Challenge.cw_labelhouse_k82_whole_three_gaps_holds : PySem.Challenge.rw_labelhouse_k82_whole_three_gaps.Holds := by
  w_on; o_law; k_head; (case hw => w_witness2)
  k_fill
  refine TL.walk_at (l := PySem.Challenge.rw_labelhouse_k82_whole_three_gaps) (n := 63) (k := 5) (x := "law") (qual := "law") (xn := "script") (st := TL.s_law) (N := TL.n_law) rfl (by decide) rfl ⟨rfl, by decide, by decide⟩ TL.sc_law (fun w h Y => PySem.W.kIn_of Y) ?F
  case F =>
    intro w mg fa h KX G hmg
    refine' Nonempty.elim (TL.top_mk KX G ?a0 ?l0 ?c0 ?k0 ?a1 ?l1 ?c1 ?k1 ?a2 ?l2 ?c2 ?k2 ?a3 ?l3 ?c3 ?k3 ?a4 ?l4 ?c4 ?k4 ?a5 ?l5 ?c5 ?k5 ?a6 ?l6 ?c6 ?k6 ?a7 ?l7 ?c7 ?k7 ?a8 ?l8 ?c8 ?k8 ?a9 ?l9 ?c9 ?k9 ?a10 ?l10 ?c10 ?k10 ?a11 ?l11 ?c11 ?k11 ?a12 ?l12 ?c12 ?k12 ?a13 ?l13 ?c13 ?k13 ?a14 ?l14 ?c14 ?k14 ?a15 ?l15 ?c15 ?k15 ?a16 ?l16 ?c16 ?k16 ?a17 ?l17 ?c17 ?k17 ?a18 ?l18 ?c18 ?k18 ?a19 ?l19 ?c19 ?k19 ?a20 ?l20 ?c20 ?k20 ?a21 ?l21 ?c21 ?k21 ?a22 ?l22 ?c22 ?k22 ?a23 ?l23 ?c23 ?k23 ?a24 ?l24 ?c24 ?k24 ?a25 ?l25 ?c25 ?k25 ?z_all ?z_bool ?z_dict ?z_enumerate ?z_int ?z_isinstance ?z_len ?z_list ?z_max ?z_min ?z_ord ?z_range ?z_repr ?z_set ?z_sorted ?z_str ?z_sum ?z_tuple ?y_gcd ?a_PERCENT ?a_MOST_DIALS ?a_MOST_COPIES ?a_MOST_MANY ?a_MOST_STEP) fun T => TL.law_F T hmg
    (case a0 => k_is)
    (case l0 => k_is)
    (case c0 => k_is)
    (case k0 => k_is)
    (case a1 => k_is)
    (case l1 => k_is)
    (case c1 => k_is)
    (case k1 => k_is)
    (case a2 => k_is)
    (case l2 => k_is)
    (case c2 => k_is)
    (case k2 => k_is)
    (case a3 => k_is)
    (case l3 => k_is)
    (case c3 => k_is)
    (case k3 => k_is)
    (case a4 => k_is)
    (case l4 => k_is)
    (case c4 => k_is)
    (case k4 => k_is)
    (case a5 => k_is)
    (case l5 => k_is)
    (case c5 => k_is)
    (case k5 => k_is)
    (case a6 => k_is)
    (case l6 => k_is)
    (case c6 => k_is)
    (case k6 => k_is)
    (case a7 => k_is)
    (case l7 => k_is)
    (case c7 => k_is)
    (case k7 => k_is)
    (case a8 => k_is)
    (case l8 => k_is)
    (case c8 => k_is)
    (case k8 => k_is)
    (case a9 => k_is)
    (case l9 => k_is)
    (case c9 => k_is)
    (case k9 => k_is)
    (case a10 => k_is)
    (case l10 => k_is)
    (case c10 => k_is)
    (case k10 => k_is)
    (case a11 => k_is)
    (case l11 => k_is)
    (case c11 => k_is)
    (case k11 => k_is)
    (case a12 => k_is)
    (case l12 => k_is)
    (case c12 => k_is)
    (case k12 => k_is)
    (case a13 => k_is)
    (case l13 => k_is)
    (case c13 => k_is)
    (case k13 => k_is)
    (case a14 => k_is)
    (case l14 => k_is)
    (case c14 => k_is)
    (case k14 => k_is)
    (case a15 => k_is)
    (case l15 => k_is)
    (case c15 => k_is)
    (case k15 => k_is)
    (case a16 => k_is)
    (case l16 => k_is)
    (case c16 => k_is)
    (case k16 => k_is)
    (case a17 => k_is)
    (case l17 => k_is)
    (case c17 => k_is)
    (case k17 => k_is)
    (case a18 => k_is)
    (case l18 => k_is)
    (case c18 => k_is)
    (case k18 => k_is)
    (case a19 => k_is)
    (case l19 => k_is)
    (case c19 => k_is)
    (case k19 => k_is)
    (case a20 => k_is)
    (case l20 => k_is)
    (case c20 => k_is)
    (case k20 => k_is)
    (case a21 => k_is)
    (case l21 => k_is)
    (case c21 => k_is)
    (case k21 => k_is)
    (case a22 => k_is)
    (case l22 => k_is)
    (case c22 => k_is)
    (case k22 => k_is)
    (case a23 => k_is)
    (case l23 => k_is)
    (case c23 => k_is)
    (case k23 => k_is)
    (case a24 => k_is)
    (case l24 => k_is)
    (case c24 => k_is)
    (case k24 => k_is)
    (case a25 => k_is)
    (case l25 => k_is)
    (case c25 => k_is)
    (case k25 => k_is)
    (case z_all => k_is)
    (case z_bool => k_is)
    (case z_dict => k_is)
    (case z_enumerate => k_is)
    (case z_int => k_is)
    (case z_isinstance => k_is)
    (case z_len => k_is)
    (case z_list => k_is)
    (case z_max => k_is)
    (case z_min => k_is)
    (case z_ord => k_is)
    (case z_range => k_is)
    (case z_repr => k_is)
    (case z_set => k_is)
    (case z_sorted => k_is)
    (case z_str => k_is)
    (case z_sum => k_is)
    (case z_tuple => k_is)
    (case y_gcd => k_is)
    (case a_PERCENT => k_is)
    (case a_MOST_DIALS => k_is)
    (case a_MOST_COPIES => k_is)
    (case a_MOST_MANY => k_is)
    (case a_MOST_STEP => k_is)
