import PyProof.Rows.All
import Wide.All
import OpenK.AllK
import Wide.FinOn
import Lean
import PyProof.EqAt
import PyProof.EqKinds
import PyProof.TupleCall
import PySem.Challenge.RW_countboard_k14_refused_frames
set_option Elab.async false
set_option linter.all false
set_option maxRecDepth 100000
/-! THE HAND LAYER, for ints, bools, texts, own classes, LISTS and tuples (index, slices, in, append, pop ..), calls, loops. Paste it whole ahead of your own text; what your proof does not reach may be deleted. -/
namespace L2
open PySem PySem.Spec PyProof.Rows

/-- a key: an int or a str -/
abbrev Key := Sum Int Str
def keyIs : Key → Value → Bool
  | .inl k, v => Value.isInt k v
  | .inr x, v => Value.isStrOf x v
def keyH (w : World) : Key → Int
  | .inl k => hashInt k
  | .inr x => hashStr w x
theorem keyIs_shape : ∀ {k : Key} {v : Value}, keyIs k v = true → (∃ i t, k = Sum.inl i ∧ v = Value.int i t) ∨ (∃ x t, k = Sum.inr x ∧ v = Value.str x t)
  | .inl i, v, h => by
    obtain ⟨t, e⟩ := Value.isInt_shape (k := i) (v := v) h
    exact .inl ⟨i, t, rfl, e⟩
  | .inr x, v, h => by
    obtain ⟨t, e⟩ := Value.isStrOf_shape (x := x) (v := v) h
    exact .inr ⟨x, t, rfl, e⟩
theorem key_ll (a b : Int) : decide ((Sum.inl a : Key) = Sum.inl b) = (a == b) := by
  by_cases e : a = b
  · subst e; simp
  · have h : ¬ (Sum.inl a : Key) = Sum.inl b := fun q => e (Sum.inl.inj q)
    rw [decide_eq_false h]
    exact (beq_eq_false_iff_ne.mpr e).symm
theorem key_rr (a b : Str) : decide ((Sum.inr a : Key) = Sum.inr b) = decide (a = b) := by
  by_cases e : a = b
  · subst e; simp
  · have h : ¬ (Sum.inr a : Key) = Sum.inr b := fun q => e (Sum.inr.inj q)
    rw [decide_eq_false h, decide_eq_false e]
theorem key_lr (a : Int) (b : Str) : decide ((Sum.inl a : Key) = Sum.inr b) = false := decide_eq_false (fun q => nomatch q)
theorem key_rl (a : Str) (b : Int) : decide ((Sum.inr a : Key) = Sum.inl b) = false := decide_eq_false (fun q => nomatch q)

def mixKind (prog : Program) (w : World) : PySem.KeyKind prog w Key where
  is := keyIs
  hash := keyH w
  inj := fun v a b ha hb => by
    rcases keyIs_shape ha with ⟨i, t, rfl, rfl⟩ | ⟨x, t, rfl, rfl⟩
    · rcases keyIs_shape hb with ⟨j, u, rfl, e⟩ | ⟨y, u, rfl, e⟩
      · injection e with e1 _; rw [e1]
      · exact nomatch e
    · rcases keyIs_shape hb with ⟨j, u, rfl, e⟩ | ⟨y, u, rfl, e⟩
      · exact nomatch e
      · injection e with e1 _; rw [e1]
  byValue := fun k v h => by
    rcases keyIs_shape h with ⟨i, t, rfl, rfl⟩ | ⟨x, t, rfl, rfl⟩ <;> rfl
  pyHash := fun hv h => by
    rcases keyIs_shape hv with ⟨i, t, rfl, rfl⟩ | ⟨x, t, rfl, rfl⟩
    · exact wpAny_pyHash_int h
    · exact wpAny_pyHash_str h
  eqBool := fun hu hv h => by
    rcases keyIs_shape hu with ⟨i, t, rfl, rfl⟩ | ⟨x, t, rfl, rfl⟩
    · rcases keyIs_shape hv with ⟨j, u, rfl, rfl⟩ | ⟨y, u, rfl, rfl⟩
      · rw [key_ll] at h; exact wpAny_eqBool_int h
      · rw [key_lr] at h; exact SeqAt.EqAt.int_str i t y u _ _ _ _ h
    · rcases keyIs_shape hv with ⟨j, u, rfl, rfl⟩ | ⟨y, u, rfl, rfl⟩
      · rw [key_rl] at h; exact SeqAt.EqAt.str_int x t j u _ _ _ _ h
      · rw [key_rr] at h; exact wpAny_eqBool_str h
  «strs» := fun k x t v h => by
    rcases keyIs_shape h with ⟨i, u, rfl, e⟩ | ⟨y, u, rfl, e⟩
    · exact nomatch e
    · injection e with e1 _
      subst e1
      cases v <;> rfl

end L2

namespace L2
open PySem PySem.Spec PyProof.Rows

/-- a value, without the heap -/
inductive V where
  | non | bl (b : Bool) | int (i : Int) | str (x : Str) | byt (b : Array UInt8) | flt (b : UInt64) | ref (a : Addr) | ty (n : String)
  deriving DecidableEq

def RelV : V → Value → Prop
  | .non, u => u = Value.none
  | .bl b, u => u = Value.bool b
  | .int i, u => ∃ t, u = Value.int i t
  | .str x, u => ∃ t, u = Value.str x t
  | .byt b, u => ∃ t, u = Value.bytes b t
  | .flt b, u => ∃ t, u = Value.float b t
  | .ref a, u => u = Value.ref a
  | .ty n, u => u = Value.type n

abbrev Vals : List V → List Value → Prop := Paired RelV
theorem Vals.length {xs : List V} {us : List Value} (r : Vals xs us) : xs.length = us.length := Paired.length r
theorem Vals.get : ∀ {xs : List V} {us : List Value} {i : Nat} {x : V}, Vals xs us → xs[i]? = some x → ∃ u, us[i]? = some u ∧ RelV x u
  | _, _, _, _, .nil, e => by simp at e
  | _, _, 0, _, .cons r _, e => by simp at e; subst e; exact ⟨_, rfl, r⟩
  | _, _, i + 1, x, .cons _ t, e => by
    obtain ⟨u, h1, h2⟩ := Vals.get (i := i) (x := x) t (by simpa using e)
    exact ⟨u, by simpa using h1, h2⟩
theorem Vals.set {x : V} {u : Value} (r : RelV x u) : ∀ {xs : List V} {us : List Value} (i : Nat), Vals xs us → Vals (xs.set i x) (us.set i u)
  | _, _, _, .nil => .nil
  | _, _, 0, .cons _ t => .cons r t
  | _, _, i + 1, .cons q t => .cons q (Vals.set r i t)
theorem Vals.append : ∀ {xs ys : List V} {us ws : List Value}, Vals xs us → Vals ys ws → Vals (xs ++ ys) (us ++ ws)
  | _, _, _, _, .nil, s => s
  | _, _, _, _, .cons r t, s => .cons r (Vals.append t s)
theorem Vals.take : ∀ {xs : List V} {us : List Value} (n : Nat), Vals xs us → Vals (xs.take n) (us.take n)
  | _, _, 0, _ => .nil
  | _, _, _ + 1, .nil => .nil
  | _, _, n + 1, .cons r t => .cons r (Vals.take n t)
theorem Vals.drop : ∀ {xs : List V} {us : List Value} (n : Nat), Vals xs us → Vals (xs.drop n) (us.drop n)
  | _, _, 0, r => r
  | _, _, _ + 1, .nil => .nil
  | _, _, n + 1, .cons _ t => Vals.drop n t
def RelO : Option V → Option Value → Prop
  | some v, some u => RelV v u
  | none, none => True
  | _, _ => False
def KV {κ : Type} : List (κ × V) → List (κ × Value) → Prop := Paired fun (p : κ × V) (q : κ × Value) => p.1 = q.1 ∧ RelV p.2 q.2

/-- a key of a dict (00_mix): an int or a text -/
def kV : Key → V
  | .inl i => .int i
  | .inr x => .str x

/-- what stands at a tracked address -/
inductive HO where
  /-- a list -/
  | lst (xs : List V)
  /-- a tuple (never changes) -/
  | tup (xs : List V)
  /-- a dict whose keys are ints and texts; one whose keys are tuples of ints and texts (the empty one is both) -/
  | dK (kvs : List (Key × V)) | dT (kvs : List (List Key × V))
  /-- a set of ints: its members, its size -/
  | set (S : Int → Bool) (n : Nat)
  /-- an instance of the class at C, its dict at dx, its attributes -/
  | ins (C dx : Addr) (fs : List (Str × V))
  /-- the dict of the instance at x -/
  | own (x : Addr)
  /-- the dict of an exception -/
  | xd (fs : List (Str × V))
  /-- a bound method, f of x -/
  | met (f x : Addr)
  /-- a range object lo, lo + 1, .. below hi -/
  | rng (lo hi : Int)
  /-- a thing that is known to the object (the script; a dict while a loop walks it): read, never written while it is so -/
  | frz (o : Obj) (u : HO)
  /-- a code object's table -/
  | tbl (ps : Array Value)
  /-- any other thing, by what is true of its one object (a def of one's own: SetO a S n := HO.ext fun h => ..) -/
  | ext (φ : Heap → Prop)

abbrev Hp := Addr → Option HO
def upd (H : Hp) (a : Addr) (o : HO) : Hp := fun b => if b = a then some o else H b
theorem upd_same {H : Hp} {a : Addr} {o : HO} : upd H a o a = some o := by unfold upd; rw [if_pos rfl]
theorem upd_ne {H : Hp} {a b : Addr} {o : HO} (h : b ≠ a) : upd H a o b = H b := by unfold upd; rw [if_neg h]
/-- two objects of different content stand apart -/
theorem ne_of {H : Hp} {a b : Addr} {o u : HO} (h : H a = some o) (h' : H b = some u) (d : o ≠ u) : a ≠ b := by
  intro e; subst e; rw [h] at h'; exact d (Option.some.inj h')
theorem ne_of_none {H : Hp} {a b : Addr} {o : HO} (h : H a = some o) (h' : H b = none) : a ≠ b := by
  intro e; subst e; rw [h] at h'; cases h'

section
variable (P : Program) (w : World)
def ObjOk (H : Hp) (h : Heap) (a : Addr) : HO → Prop
  | .lst xs => xs.length ≤ sizeLine ∧ ∃ (its : List Value) (n : Nat), Vals xs its ∧ h.get? a = some { cls := .type "list", data := .seq its.toArray n }
  | .tup xs => xs.length ≤ sizeLine ∧ ∃ its : List Value, Vals xs its ∧ IsTup h a its.toArray
  | .dK kvs => kvs.length ≤ sizeLine ∧ (a == sysModules) = false ∧ ∃ vs, KV kvs vs ∧ h.DictOf (mixKind P w) a vs
  | .dT kvs => kvs.length ≤ sizeLine ∧ (a == sysModules) = false ∧ ∃ xs : List (List Key × Addr × Value),
      Paired (fun (p : List Key × V) (q : List Key × Addr × Value) => p.1 = q.1 ∧ H q.2.1 = some (.tup (p.1.map kV)) ∧ RelV p.2 q.2.2) kvs xs ∧
      ∃ o es ep, h.get? a = some o ∧ o.ExactDict ∧ o.data = .dict es ep ∧ es.toList = xs.map (entryOfKey (tupleKind (mixKind P w))) ∧ (xs.map (·.1)).Nodup
  | .set S n => h.SetOf (intKind P w) a S n
  | .ins C dx fs => H dx = some (.own a) ∧ fs.length ≤ 1000 ∧ dx ≠ a ∧ h.get? a = some (PySem.W.instObj C dx) ∧
      ∃ mA, h.Ns1 dx mA ∧ (∀ f, RelO (fs.lookup f) (mA f)) ∧ PySem.Within mA (fs.map (·.1))
  | .own _ => ∃ o, h.get? a = some o
  | .xd fs => ∃ mA, h.Ns1 a mA ∧ ∀ f, RelO (fs.lookup f) (mA f)
  | .rng lo hi => ∃ t u v, h.get? a = some { cls := .type "range", data := .fields #[.int lo t, .int hi u, .int 1 v] }
  | .frz o u => h.get? a = some o ∧ ObjOk H h a u
  | .tbl ps => h.get? a = some { cls := .none, data := .fields ps }
  | .met f x => h.get? a = some (PySem.W.methodObj (.ref f) (.ref x))
  | .ext φ => φ h ∧ (∃ o, h.get? a = some o) ∧ ∀ h1 h2 : Heap, φ h1 → (∀ o, h1.get? a = some o → h2.get? a = some o) → φ h2
/-- the abstract heap is held -/
def HOk (H : Hp) (h : Heap) : Prop := ∀ a o, H a = some o → ObjOk P w H h a o
end

section
variable {P : Program} {w : World} {H H' : Hp} {h h' : Heap} {a : Addr} {o : HO}
theorem ObjOk.lt (x : ObjOk P w H h a o) : a < h.objs.size := by
  cases o with
  | lst xs => obtain ⟨_, _, _, _, e⟩ := x; exact Heap.lt_size e
  | tup xs => obtain ⟨_, _, _, p⟩ := x; exact p.lt
  | dK kvs => obtain ⟨_, _, _, _, o, _, _, e, _⟩ := x; exact Heap.lt_size e
  | dT kvs => obtain ⟨_, _, _, _, o, _, _, e, _⟩ := x; exact Heap.lt_size e
  | set S n => obtain ⟨o, _, _, _, e, _⟩ := x; exact Heap.lt_size e
  | ins C dx fs => obtain ⟨_, _, _, e, _⟩ := x; exact Heap.lt_size e
  | own y => obtain ⟨_, e⟩ := x; exact Heap.lt_size e
  | xd fs => obtain ⟨_, ⟨_, _, _, e, _⟩, _⟩ := x; exact Heap.lt_size e
  | rng lo hi => obtain ⟨_, _, _, e⟩ := x; exact Heap.lt_size e
  | frz ob u => obtain ⟨e, _⟩ := x; exact Heap.lt_size e
  | tbl ps => exact Heap.lt_size (show h.get? a = some _ from x)
  | met f y => exact Heap.lt_size (show h.get? a = some _ from x)
  | ext φ => obtain ⟨_, ⟨_, e⟩, _⟩ := x; exact Heap.lt_size e
theorem Paired.mapP {α β : Type} {F G : α → β → Prop} : ∀ {l₁ : List α} {l₂ : List β}, Paired F l₁ l₂ → (∀ a b, F a b → G a b) → Paired G l₁ l₂
  | _, _, .nil, _ => .nil
  | _, _, .cons r t, f => .cons (f _ _ r) (Paired.mapP t f)
/-- what an object's description leans on: its own object, its own dict, the tuples -/
theorem ObjOk.stay (x : ObjOk P w H h a o) (k : ∀ b u, (b = a ∨ H b = some (.own a)) → h.get? b = some u → h'.get? b = some u)
    (ho : ∀ b, H b = some (.own a) → H' b = some (.own a)) (ht : ∀ b xs, H b = some (.tup xs) → H' b = some (.tup xs)) : ObjOk P w H' h' a o := by
  induction o with
  | lst xs => obtain ⟨z, its, n, r, e⟩ := x; exact ⟨z, its, n, r, k _ _ (.inl rfl) e⟩
  | tup xs => obtain ⟨z, its, r, ob, e, c⟩ := x; exact ⟨z, its, r, ob, k _ _ (.inl rfl) e, c⟩
  | dK kvs => obtain ⟨z, y, vs, r, ob, es, ep, e, c⟩ := x; exact ⟨z, y, vs, r, ob, es, ep, k _ _ (.inl rfl) e, c⟩
  | dT kvs =>
    obtain ⟨z, y, xs, r, ob, es, ep, e, c⟩ := x
    exact ⟨z, y, xs, Paired.mapP r fun p q z => ⟨z.1, ht _ _ z.2.1, z.2.2⟩, ob, es, ep, k _ _ (.inl rfl) e, c⟩
  | set S n => obtain ⟨ob, es, ep, t, e, c⟩ := x; exact ⟨ob, es, ep, t, k _ _ (.inl rfl) e, c⟩
  | ins C dx fs =>
    obtain ⟨d, z, ne, e, mA, ⟨od, es, ep, e2, c⟩, r⟩ := x
    exact ⟨ho _ d, z, ne, k _ _ (.inl rfl) e, mA, ⟨od, es, ep, k _ _ (.inr d) e2, c⟩, r⟩
  | own y => obtain ⟨ob, e⟩ := x; exact ⟨ob, k _ _ (.inl rfl) e⟩
  | xd fs => obtain ⟨mA, ⟨od, es, ep, e, c⟩, r⟩ := x; exact ⟨mA, ⟨od, es, ep, k _ _ (.inl rfl) e, c⟩, r⟩
  | rng lo hi => obtain ⟨t, u, v, e⟩ := x; exact ⟨t, u, v, k _ _ (.inl rfl) e⟩
  | frz ob u ih => obtain ⟨e, q⟩ := x; exact ⟨k _ _ (.inl rfl) e, ih q⟩
  | tbl ps =>
    have e : h.get? a = some { cls := .none, data := .fields ps } := x
    show h'.get? a = some { cls := .none, data := .fields ps }
    exact k a _ (.inl rfl) e
  | met f y =>
    have e : h.get? a = some (PySem.W.methodObj (.ref f) (.ref y)) := x
    show h'.get? a = some (PySem.W.methodObj (.ref f) (.ref y))
    exact k a _ (.inl rfl) e
  | ext φ => obtain ⟨p, ⟨o, e⟩, st⟩ := x; exact ⟨st _ _ p fun o q => k _ _ (.inl rfl) q, ⟨o, k _ _ (.inl rfl) e⟩, st⟩
theorem HOk.lt (x : HOk P w H h) (e : H a = some o) : a < h.objs.size := (x a o e).lt
theorem HOk.fresh (x : HOk P w H h) (e : h.objs.size ≤ a) : H a = none := by
  cases q : H a with
  | none => rfl
  | some u => exact absurd (Nat.lt_of_lt_of_le (x.lt q) e) (Nat.lt_irrefl _)
/-- every object of the heap is kept -/
theorem HOk.kept (x : HOk P w H h) (k : ∀ b u, h.get? b = some u → h'.get? b = some u) : HOk P w H h' := fun a o e =>
  (x a o e).stay (fun b u _ q => k b u q) (fun _ q => q) fun _ _ q => q
/-- a new object is laid and tracked -/
theorem HOk.laid (x : HOk P w H h) (k : ∀ b u, h.get? b = some u → h'.get? b = some u) (hp : h.objs.size ≤ a) (new : ObjOk P w (upd H a o) h' a o) : HOk P w (upd H a o) h' := fun b u e => by
  have hn := x.fresh hp
  by_cases hb : b = a
  · subst hb; rw [upd_same] at e; cases e; exact new
  · rw [upd_ne hb] at e
    exact (x b u e).stay (fun c v _ q => k c v q) (fun c q => by rw [upd_ne (ne_of_none q hn)]; exact q) fun c xs q => by rw [upd_ne (ne_of_none q hn)]; exact q
end

/-- what may be read as u: it is u, or a known u -/
def Rd (H : Hp) (a : Addr) (u : HO) : Prop := H a = some u ∨ ∃ o, H a = some (.frz o u)
theorem Rd.ok {P : Program} {w : World} {H : Hp} {h : Heap} {a : Addr} {u : HO} (r : Rd H a u) (x : HOk P w H h) : ObjOk P w H h a u := by
  rcases r with r | ⟨o, r⟩
  · exact x a u r
  · obtain ⟨_, q⟩ := x a _ r
    exact q
/-- what may be written -/
def Mut : Option HO → Prop
  | some (.lst _) => True
  | some (.dK _) => True
  | some (.dT _) => True
  | some (.set _ _) => True
  | some (.ins _ _ _) => True
  | some (.ext _) => True
  | _ => False
section
variable {P : Program} {w : World} {H : Hp} {h h' : Heap} {x e : Addr} {o' : HO}
/-- the object at e is changed: x itself, or the dict of the instance x -/
theorem HOk.write (ok : HOk P w H h) (mu : Mut (H x)) (he : e = x ∨ H e = some (.own x)) (k : ∀ b u, b ≠ e → h.get? b = some u → h'.get? b = some u) (heo : ∃ u, h'.get? e = some u)
    (new : ObjOk P w (upd H x o') h' x o') : HOk P w (upd H x o') h' := fun b u q => by
  have nown : ∀ c y, H c = some (.own y) → c ≠ x := fun c y r z => by subst z; rw [r] at mu; exact mu
  have ntup : ∀ c xs, H c = some (.tup xs) → c ≠ x := fun c xs r z => by subst z; rw [r] at mu; exact mu
  by_cases hb : b = x
  · subst hb; rw [upd_same] at q; cases q; exact new
  · rw [upd_ne hb] at q
    by_cases hbe : b = e
    · have q' : H b = some (.own x) := by
        rcases he with z | z
        · exact absurd (hbe.trans z) hb
        · rw [hbe]; exact z
      rw [q] at q'; cases q'
      obtain ⟨v, hv⟩ := heo
      exact ⟨v, by rw [hbe]; exact hv⟩
    · refine (ok b u q).stay (fun c v hc r => k c v ?_ r) (fun c r => by rw [upd_ne (nown c b r)]; exact r) fun c xs r => by rw [upd_ne (ntup c xs r)]; exact r
      rcases hc with rfl | hc
      · exact hbe
      · rintro rfl
        rcases he with z | z
        · exact nown c b hc z
        · rw [hc] at z; cases z; exact hb rfl
end

/-! ### kept unless tracked; of the frames at fs (the callers') the slots may change (an exception that passes writes there); of the records at ex (iterators) nothing is said -/
structure Un (fs ex : List Addr) (H H' : Hp) (h h' : Heap) : Prop where
  keep : ∀ b o, h.get? b = some o → H b = none → b ∉ fs → b ∉ ex → h'.get? b = some o
  slot : ∀ b o, h.get? b = some o → H b = none → b ∈ fs → b ∉ ex → ∃ sl, h'.get? b = some { o with slots := sl }
  free : ∀ b o, h.get? b = some o → H b = none → b ∉ ex → H' b = none
  there : ∀ b o, h.get? b = some o → b ∉ ex → ∃ o', h'.get? b = some o'
  tups : ∀ b xs, H b = some (.tup xs) → H' b = some (.tup xs)
  frzs : ∀ b o u, H b = some (.frz o u) → H' b = some (.frz o u)
  tbls : ∀ b ps, H b = some (.tbl ps) → ∃ more, H' b = some (.tbl (ps ++ more))
section
variable {fs fs' ex ex' : List Addr} {H H1 H2 : Hp} {h h1 h2 h' : Heap} {a x e : Addr} {o : HO}
theorem Un.any (u : Un fs ex H H1 h h1) {b : Addr} {ob : Obj} (q : h.get? b = some ob) (n : H b = none) (hx : b ∉ ex) : ∃ sl, h1.get? b = some { ob with slots := sl } := by
  by_cases hb : b ∈ fs
  · exact u.slot b ob q n hb hx
  · exact ⟨ob.slots, u.keep b ob q n hb hx⟩
theorem Un.kept (k : ∀ b u, h.get? b = some u → h'.get? b = some u) : Un fs ex H H h h' :=
  ⟨fun b ob q _ _ _ => k b ob q, fun b ob q _ _ _ => ⟨ob.slots, k b ob q⟩, fun _ _ _ n _ => n, fun b ob q _ => ⟨ob, k b ob q⟩, fun _ _ q => q, fun _ _ _ q => q, fun _ ps q => ⟨#[], by rw [q]; simp⟩⟩
theorem Un.refl : Un fs ex H H h h := Un.kept fun _ _ q => q
theorem Un.laid (k : ∀ b u, h.get? b = some u → h'.get? b = some u) (hp : h.objs.size ≤ a) (hn : H a = none) : Un fs ex H (upd H a o) h h' where
  keep := fun b u q _ _ _ => k b u q
  slot := fun b u q _ _ _ => ⟨u.slots, k b u q⟩
  free := fun b u q n _ => by rw [upd_ne (Nat.ne_of_lt (Nat.lt_of_lt_of_le (Heap.lt_size q) hp))]; exact n
  there := fun b u q _ => ⟨u, k b u q⟩
  tups := fun b xs q => by rw [upd_ne (ne_of_none q hn)]; exact q
  frzs := fun b u xs q => by rw [upd_ne (ne_of_none q hn)]; exact q
  tbls := fun b ps q => ⟨#[], by rw [upd_ne (ne_of_none q hn), q]; simp⟩
theorem Un.write (mu : Mut (H x)) (he : e = x ∨ H e = some (.own x)) (k : ∀ b u, b ≠ e → h.get? b = some u → h'.get? b = some u) (heo : ∃ u, h'.get? e = some u) : Un fs ex H (upd H x o) h h' := by
  have hx : ∀ b, H b = none → b ≠ x := fun b n z => by subst z; rw [n] at mu; exact mu
  have hb : ∀ b, H b = none → b ≠ e := fun b n z => by
    subst z
    rcases he with r | r
    · exact hx b n r
    · rw [n] at r; cases r
  have hm : ∀ b u, H b = some u → ¬ Mut (some u) → b ≠ x := fun b u q nm z => by subst z; rw [q] at mu; exact nm mu
  refine ⟨fun b u q n _ _ => k b u (hb b n) q, fun b u q n _ _ => ⟨u.slots, k b u (hb b n) q⟩, fun b u q n _ => by rw [upd_ne (hx b n)]; exact n, fun b u q _ => ?_,
    fun b xs q => by rw [upd_ne (hm b _ q fun z => z)]; exact q, fun b u xs q => by rw [upd_ne (hm b _ q fun z => z)]; exact q, fun b ps q => ⟨#[], by rw [upd_ne (hm b _ q fun z => z), q]; simp⟩⟩
  by_cases hbe : b = e
  · subst hbe; exact heo
  · exact ⟨u, k b u hbe q⟩
end

/-! ### the heap without what is tracked -/
def trk (h : Heap) (H : Hp) : List Addr := (List.range h.objs.size).filter fun a => (H a).isSome
def hidT (h : Heap) (H : Hp) : Heap := PySem.W.hideAll h (trk h H)
theorem hidT_size (h : Heap) (H : Hp) : (hidT h H).objs.size = h.objs.size := PySem.W.hideAll_size _ _
theorem hidT_get {h : Heap} {H : Hp} {b : Addr} {o : Obj} (e : h.get? b = some o) (n : H b = none) : (hidT h H).get? b = some o :=
  PySem.W.hideAll_get _ e fun hm => by
    have q : (H b).isSome = true := (List.mem_filter.mp hm).2
    rw [n] at q; simp at q
theorem of_hidT {h : Heap} {H : Hp} {b : Addr} {o : Obj} (e : (hidT h H).get? b = some o) : h.get? b = some o ∧ H b = none := by
  have e' : h.get? b = some o := PySem.W.of_hideAll (trk h H) e
  refine ⟨e', ?_⟩
  cases q : H b with
  | none => rfl
  | some x =>
    have hm : b ∈ trk h H := List.mem_filter.mpr ⟨List.mem_range.mpr (Heap.lt_size e'), by simp [q]⟩
    have z : (hidT h H).get? b = none := PySem.W.hideAll_none (trk h H) hm
    rw [z] at e; cases e

/-! ### OpenK's ledger, filled with every new object but one -/
def allNews (g h : Heap) (L : Addr) : List (Addr × Obj) := (List.range h.objs.size).filterMap fun a => if a = L ∨ (g.get? a).isSome = true then none else (h.get? a).map fun o => (a, o)
theorem mem_allNews {g h : Heap} {L a : Addr} {o : Obj} (h1 : a ≠ L) (h2 : g.get? a = none) (h3 : h.get? a = some o) : (a, o) ∈ allNews g h L :=
  List.mem_filterMap.mpr ⟨a, List.mem_range.mpr (Heap.lt_size h3), by simp [h1, h2, h3]⟩
theorem of_mem_allNews {g h : Heap} {L : Addr} {p : Addr × Obj} (hp : p ∈ allNews g h L) : p.1 ≠ L ∧ g.get? p.1 = none ∧ h.get? p.1 = some p.2 := by
  obtain ⟨b, _, e⟩ := List.mem_filterMap.mp hp
  split at e
  · cases e
  · rename_i hn
    cases q : h.get? b with
    | none => rw [q] at e; simp at e
    | some u =>
      rw [q] at e
      simp only [Option.map_some, Option.some.injEq] at e
      subst e
      refine ⟨fun z => hn (.inl z), ?_, q⟩
      show g.get? b = none
      cases r : g.get? b with
      | none => rfl
      | some v => exact (hn (.inr (by simp [r]))).elim
theorem news_all {g h : Heap} {L : Addr} : News g L h (allNews g h L) := fun p hp => let ⟨a, b, c⟩ := of_mem_allNews hp; ⟨c, a, b⟩
end L2

namespace L2
open PySem PySem.Spec PyProof.Rows

/-- the module's facts, over the base: the heap at the law's entry without what is tracked there -/
structure Mod (K : PySem.W.Frag) (mg : Str → Option Value) (base : Heap) : Prop where
  kin : K.In base
  glob : base.Ns mainGlobals mg
  blt : ∃ mb, base.Ns builtinsNs mb ∧ ∀ x : Str, x ≠ "__name__" → mb x = bootBuiltins x
  nolimit : base.NoLimit

/-- the context: a def's body (or a comprehension's block) running. base: fixed through the whole law; s₀, H₀: the entry; outer: the frames whose slots others may change (a def's callers); stack: all frames that run;
   ex: iterators that were made ahead of the entry and are walked here (a comprehension's); fn: the names whose cells were made at the entry (a def: all; a comprehension's block: its own); calm: not within an except suite; pn: pins that every state bears; xe: what is wanted of an exception that leaves the code -/
structure Cx where
  prog : Program
  w : World
  K : PySem.W.Frag
  mg : Str → Option Value
  base : Heap
  A : Around
  N : List Str
  s₀ : Shared
  H₀ : Hp
  env : Env
  outer : List Env
  stack : List Env
  ex : List Addr
  fn : Str → Bool
  calm : Bool
  pn : List (Addr × Obj)
  xe : Value → Shared → Prop
/-- the callers' frames -/
def frs (l : List Env) : List Addr := l.filterMap (·.frame)
abbrev Cx.fs (X : Cx) : List Addr := frs X.outer

def Vis (sc : Scope) (x : Str) : Prop := sc.names.lookup x = some .local ∨ sc.names.lookup x = some .cell ∨ sc.names.lookup x = some .free
def Loc (sc : Scope) (x : Str) : Prop := sc.names.lookup x = some .local ∨ sc.names.lookup x = some .cell
def Look (env : Env) (h : Heap) (m : Str → Option Value) (x : Str) (u : Value) : Prop :=
  (env.kindOf x = some .local ∧ m x = some u) ∨ ((env.kindOf x = some .cell ∨ env.kindOf x = some .free) ∧ ∃ c, env.cells.lookup x = some c ∧ h.IsCell c (some u))

structure Cx.Ok (X : Cx) : Prop where
  mod : Mod X.K X.mg X.base
  kind : X.env.scope.kind = .function
  glob : X.env.globals = mainGlobals
  blt : X.env.builtins = builtinsNs
  above : X.s₀.heap.objs.size ≤ X.env.locals
  inj : ∀ x y c, X.env.cells.lookup x = some c → X.env.cells.lookup y = some c → x = y
  has : ∀ x, (X.env.kindOf x = some .cell ∨ X.env.kindOf x = some .free) → ∃ c, X.env.cells.lookup x = some c
  cab : ∀ x c, X.fn x = true → X.env.cells.lookup x = some c → X.s₀.heap.objs.size ≤ c
  hd : X.calm = true → X.A.handled = none
  frames : X.A.frames = some X.stack
  stk : X.stack = X.outer ∨ (X.stack = X.env :: X.outer ∧ X.env.frame = some X.env.locals)
  exf : ∀ b ∈ X.ex, b ≠ X.env.locals ∧ ∀ x c, X.env.cells.lookup x = some c → c ≠ b
  bs : ∀ b o, X.base.get? b = some o → X.s₀.heap.get? b = some o ∧ X.H₀ b = none
  bsz : X.base.objs.size ≤ X.s₀.heap.objs.size
  noex : ∀ b o, X.base.get? b = some o → b ∉ X.ex
  exfs : ∀ b ∈ X.ex, b ∉ X.fs
  funs : X.s₀.heap.FunFrames X.base X.outer
  frf : ∀ b ∈ X.fs, X.H₀ b = none

structure Inv (X : Cx) (pins : List (Addr × Obj)) (σ : List (Option V)) (H : Hp) (s : Shared) : Prop where
  ok : X.Ok
  os : s.os = X.s₀.os
  bare : AllBare s.gens
  base : Un X.fs X.ex X.H₀ H X.s₀.heap s.heap
  loc : ∃ m, s.heap.Ns X.env.locals m ∧ ∀ (i : Nat) (x : Str) (v : V), X.N[i]? = some x → σ[i]? = some (some v) → Vis X.env.scope x → ∃ u, RelV v u ∧ Look X.env s.heap m x u
  cell : ∀ x c, X.env.cells.lookup x = some c → ∃ v, s.heap.IsCell c v
  free : H X.env.locals = none
  freeC : ∀ x c, X.env.cells.lookup x = some c → H c = none
  pin : ∀ p ∈ X.pn ++ pins, s.heap.get? p.1 = some p.2 ∧ H p.1 = none ∧ p.1 ≠ X.env.locals ∧ p.1 ∉ X.fs ∧ ∀ v, p.2.data ≠ .cell v
  hok : HOk X.prog X.w H s.heap
  len : σ.length = X.N.length

section
variable {X : Cx} {pins : List (Addr × Obj)} {σ : List (Option V)} {H H' : Hp} {s : Shared} {h' : Heap}

theorem Cx.Ok.nofr (ok : X.Ok) {b : Addr} {o : Obj} (e : X.base.get? b = some o) : b ∉ X.fs := fun hb => by
  have := (ok.funs.mem hb).1
  rw [e] at this; cases this
theorem Inv.bs (I : Inv X pins σ H s) : ∀ b o, X.base.get? b = some o → s.heap.get? b = some o ∧ H b = none := fun b o e =>
  ⟨I.base.keep b o (I.ok.bs b o e).1 (I.ok.bs b o e).2 (I.ok.nofr e) (I.ok.noex b o e), I.base.free b o (I.ok.bs b o e).1 (I.ok.bs b o e).2 (I.ok.noex b o e)⟩
theorem Inv.bk (I : Inv X pins σ H s) : ∀ b o, X.base.get? b = some o → s.heap.get? b = some o := fun b o e => (I.bs b o e).1
theorem Inv.mod (I : Inv X pins σ H s) : Mod X.K X.mg X.base := I.ok.mod
theorem Inv.kIn (I : Inv X pins σ H s) : X.K.In s.heap := I.ok.mod.kin.keeps I.bk
theorem Inv.lt (I : Inv X pins σ H s) : X.env.locals < s.heap.objs.size := let ⟨_, hn, _⟩ := I.loc; hn.lt
theorem Inv.sz (I : Inv X pins σ H s) : X.s₀.heap.objs.size ≤ s.heap.objs.size := Nat.le_trans I.ok.above (Nat.le_of_lt I.lt)
theorem Inv.nofs (I : Inv X pins σ H s) {a : Addr} (h : s.heap.objs.size ≤ a) : a ∉ X.fs := fun hb => by
  obtain ⟨_, o, ho, _⟩ := I.ok.funs.mem hb
  exact absurd (Nat.lt_of_lt_of_le (Heap.lt_size ho) (Nat.le_trans I.sz h)) (Nat.lt_irrefl _)
theorem Inv.cne (I : Inv X pins σ H s) : ∀ x c, X.env.cells.lookup x = some c → c ≠ X.env.locals := fun x c e z => by
  obtain ⟨v, o, ho, hd⟩ := I.cell x c e
  obtain ⟨m, ⟨o', es, ep, ho', hd', _⟩, _⟩ := I.loc
  rw [z, ho'] at ho; cases ho; rw [hd'] at hd; cases hd
theorem Inv.funs (I : Inv X pins σ H s) : s.heap.FunFrames X.base X.outer := by
  have all : ∀ (l : List Env), (∀ b ∈ frs l, b ∈ X.fs) → X.s₀.heap.FunFrames X.base l → s.heap.FunFrames X.base l := by
    intro l
    induction l with
    | nil => intro _ _; trivial
    | cons env r ih =>
      intro hs hl
      obtain ⟨hk, ⟨L, o, hf, hn, ho, hd⟩, hr⟩ := hl
      have hL : L ∈ X.fs := hs L (by unfold frs; rw [List.filterMap_cons, hf]; exact List.mem_cons_self)
      obtain ⟨sl, e⟩ := I.base.slot L o ho (I.ok.frf L hL) hL fun z => I.ok.exfs L z hL
      exact ⟨hk, ⟨L, _, hf, hn, e, hd⟩, ih (fun b hb => hs b (by unfold frs; rw [List.filterMap_cons, hf]; exact List.mem_cons_of_mem _ hb)) hr⟩
  exact all X.outer (fun _ hb => hb) I.ok.funs

/-- the frames that run, for a call -/
theorem Inv.stack (I : Inv X pins σ H s) : s.heap.FunFrames X.base X.stack := by
  rcases I.ok.stk with e | ⟨e, hf⟩
  · rw [e]; exact I.funs
  · rw [e]
    obtain ⟨m, hn, _⟩ := I.loc
    refine .cons (by rw [I.ok.kind]; decide) hf hn ?_ I.funs
    exact Heap.get?_none_of_le (Nat.le_trans I.ok.bsz I.ok.above)
theorem Inv.stkSub (I : Inv X pins σ H s) : ∀ b ∈ frs X.stack, b ∈ X.env.locals :: X.fs := fun b hb => by
  rcases I.ok.stk with e | ⟨e, hf⟩
  · rw [e] at hb; exact List.mem_cons_of_mem _ hb
  · rw [e] at hb
    unfold frs at hb
    rw [List.filterMap_cons, hf] at hb
    exact hb
theorem Inv.stkFree (I : Inv X pins σ H s) : ∀ b ∈ frs X.stack, H b = none := fun b hb => by
  rcases List.mem_cons.mp (I.stkSub b hb) with e | hb
  · rw [e]; exact I.free
  · obtain ⟨_, o, ho, _⟩ := I.ok.funs.mem hb
    exact I.base.free b o ho (I.ok.frf b hb) fun z => I.ok.exfs b z hb

/-- THE STEP: the untracked objects but the frame and the records at ch are kept (the callers' frames up to slots), the frame's map is kept, the new abstract heap is held -/
theorem Inv.step {g' : Array GenState} {t' : Nat} {d' : Drawn} {ch : List Addr} (I : Inv X pins σ H s)
    (hch : ∀ b ∈ ch, (b ∈ X.ex ∨ X.s₀.heap.objs.size ≤ b) ∧ b ≠ X.env.locals ∧ (∀ x c, X.env.cells.lookup x = some c → c ≠ b) ∧ ∀ p ∈ X.pn ++ pins, p.1 ≠ b)
    (keep : ∀ b o, b ≠ X.env.locals → b ∉ X.fs → b ∉ ch → s.heap.get? b = some o → H b = none → h'.get? b = some o)
    (slot : ∀ b o, b ≠ X.env.locals → b ∈ X.fs → b ∉ ch → s.heap.get? b = some o → H b = none → ∃ sl, h'.get? b = some { o with slots := sl }) (free : ∀ b o, b ∉ ch → s.heap.get? b = some o → H b = none → H' b = none)
    (there : ∀ b o, b ∉ ch → s.heap.get? b = some o → ∃ o', h'.get? b = some o')
    (tups : ∀ b xs, H b = some (.tup xs) → H' b = some (.tup xs)) (frzs : ∀ b o u, H b = some (.frz o u) → H' b = some (.frz o u)) (tbls : ∀ b ps, H b = some (.tbl ps) → ∃ more, H' b = some (.tbl (ps ++ more)))
    (ns : ∀ m, s.heap.Ns X.env.locals m → h'.Ns X.env.locals m) (hok : HOk X.prog X.w H' h') (hg : AllBare g') :
    Inv X pins σ H' { s with heap := h', gens := g', drawn := d', toks := t' } := by
  have neL : ∀ b o, X.s₀.heap.get? b = some o → b ≠ X.env.locals := fun b o e => Nat.ne_of_lt (Nat.lt_of_lt_of_le (Heap.lt_size e) I.ok.above)
  have neC : ∀ b o, X.s₀.heap.get? b = some o → b ∉ X.ex → b ∉ ch := fun b o e hx hb => by
    rcases (hch b hb).1 with z | z
    · exact hx z
    · exact absurd (Nat.lt_of_lt_of_le (Heap.lt_size e) z) (Nat.lt_irrefl _)
  have cellK : ∀ x c, X.env.cells.lookup x = some c → ∀ v, s.heap.IsCell c v → h'.IsCell c v := fun x c e v ⟨o, ho, hd⟩ => by
    have nch : c ∉ ch := fun z => (hch c z).2.2.1 x c e rfl
    by_cases hc : c ∈ X.fs
    · obtain ⟨sl, q⟩ := slot c o (I.cne x c e) hc nch ho (I.freeC x c e)
      exact ⟨_, q, hd⟩
    · exact ⟨o, keep c o (I.cne x c e) hc nch ho (I.freeC x c e), hd⟩
  refine ⟨I.ok, I.os, hg, ⟨fun b o e n hb hx => ?_, fun b o e n hb hx => ?_, fun b o e n hx => ?_, fun b o e hx => ?_, fun b xs e => tups b xs (I.base.tups b xs e), fun b o xs e => frzs b o xs (I.base.frzs b o xs e), fun b ps e => ?_⟩, ?_, fun x c e => ?_, ?_, fun x c e => ?_, fun p hp => ?_, hok, I.len⟩
  · exact keep b o (neL b o e) hb (neC b o e hx) (I.base.keep b o e n hb hx) (I.base.free b o e n hx)
  · obtain ⟨sl, e1⟩ := I.base.slot b o e n hb hx
    obtain ⟨sl', e2⟩ := slot b _ (neL b o e) hb (neC b o e hx) e1 (I.base.free b o e n hx)
    exact ⟨sl', e2⟩
  · obtain ⟨o', e1⟩ := I.base.there b o e hx
    exact free b o' (neC b o e hx) e1 (I.base.free b o e n hx)
  · obtain ⟨o', e1⟩ := I.base.there b o e hx
    exact there b o' (neC b o e hx) e1
  · obtain ⟨m1, e1⟩ := I.base.tbls b ps e
    obtain ⟨m2, e2⟩ := tbls b _ e1
    exact ⟨m1 ++ m2, by rw [e2, Array.append_assoc]⟩
  · obtain ⟨m, hn, hl⟩ := I.loc
    refine ⟨m, ns m hn, fun i x v e1 e2 e3 => ?_⟩
    obtain ⟨u, r, l⟩ := hl i x v e1 e2 e3
    refine ⟨u, r, ?_⟩
    rcases l with l | ⟨k, c, e, z⟩
    · exact .inl l
    · exact .inr ⟨k, c, e, cellK x c e _ z⟩
  · obtain ⟨v, z⟩ := I.cell x c e
    exact ⟨v, cellK x c e v z⟩
  · obtain ⟨m, ⟨o, _, _, ho, _⟩, _⟩ := I.loc
    exact free _ o (fun z => (hch _ z).2.1 rfl) ho I.free
  · obtain ⟨v, o, ho, hd⟩ := I.cell x c e
    exact free c o (fun z => (hch c z).2.2.1 x c e rfl) ho (I.freeC x c e)
  · obtain ⟨e, n, ne, nf, d⟩ := I.pin p hp
    have nch : p.1 ∉ ch := fun z => (hch p.1 z).2.2.2 p hp rfl
    exact ⟨keep p.1 p.2 ne nf nch e n, free p.1 p.2 nch e n, ne, nf, d⟩
/-- .. where the frame's own object is kept too -/
theorem Inv.un {t' : Nat} (I : Inv X pins σ H s) (u : Un X.fs [] H H' s.heap h') (hok : HOk X.prog X.w H' h') : Inv X pins σ H' { s with heap := h', toks := t' } := by
  obtain ⟨m, ⟨o, es, ep, ho, r⟩, _⟩ := id I.loc
  obtain ⟨sl, hL⟩ := u.any ho I.free (by simp)
  exact I.step (g' := s.gens) (d' := s.drawn) (ch := []) (fun _ z => nomatch z) (fun b o _ hb _ e n => u.keep b o e n hb (by simp)) (fun b o _ hb _ e n => u.slot b o e n hb (by simp)) (fun b o _ e n => u.free b o e n (by simp)) (fun b o _ e => u.there b o e (by simp)) u.tups u.frzs u.tbls (fun m' hm => by
    obtain ⟨o', es', ep', ho', r'⟩ := hm
    rw [ho] at ho'; cases ho'
    exact ⟨_, es', ep', hL, r'⟩) hok I.bare
/-- behind a call (or a comprehension's block): the slots of this frame may have changed too, the records at ch may have turned -/
theorem Inv.call {g' : Array GenState} {t' : Nat} {d' : Drawn} {ch : List Addr} (I : Inv X pins σ H s) (u : Un (frs X.stack) ch H H' s.heap h') (hok : HOk X.prog X.w H' h') (hg : AllBare g')
    (hch : ∀ b ∈ ch, (b ∈ X.ex ∨ X.s₀.heap.objs.size ≤ b) ∧ b ≠ X.env.locals ∧ (∀ x c, X.env.cells.lookup x = some c → c ≠ b) ∧ ∀ p ∈ X.pn ++ pins, p.1 ≠ b) :
    Inv X pins σ H' { s with heap := h', gens := g', drawn := d', toks := t' } := by
  obtain ⟨m, ⟨o, es, ep, ho, r⟩, _⟩ := id I.loc
  obtain ⟨sl, hL⟩ := u.any ho I.free fun z => (hch _ z).2.1 rfl
  exact I.step (ch := ch) hch (fun b o hL hb hc e n => u.keep b o e n (fun z => (List.mem_cons.mp (I.stkSub b z)).elim hL hb) hc) (fun b o _ _ hc e n => u.any e n hc) (fun b o hc e n => u.free b o e n hc) (fun b o hc e => u.there b o e hc) u.tups u.frzs u.tbls (fun m' hm => by
    obtain ⟨o', es', ep', ho', r'⟩ := hm
    rw [ho] at ho'; cases ho'
    exact ⟨_, es', ep', hL, r'⟩) hok hg
/-- an untracked record of ours (an iterator) has turned -/
theorem Inv.turned {t' : Nat} {it : Addr} (I : Inv X pins σ H s) (k : ∀ b o, b ≠ it → s.heap.get? b = some o → h'.get? b = some o) (hn : H it = none) (hL : it ≠ X.env.locals)
    (h1 : it ∈ X.ex ∨ X.s₀.heap.objs.size ≤ it) (h2 : ∀ x c, X.env.cells.lookup x = some c → c ≠ it) (h3 : ∀ p ∈ X.pn ++ pins, p.1 ≠ it) : Inv X pins σ H { s with heap := h', toks := t' } := by
  have nit : ∀ b u, H b = some u → b ≠ it := fun b u e z => by rw [z, hn] at e; cases e
  refine I.step (g' := s.gens) (d' := s.drawn) (ch := [it]) (fun b hb => ?_) (fun b o _ _ hc e _ => k b o (fun z => hc (by simp [z])) e) (fun b o _ _ hc e _ => ⟨o.slots, k b o (fun z => hc (by simp [z])) e⟩) (fun _ _ _ _ n => n)
    (fun b o hc e => ⟨o, k b o (fun z => hc (by simp [z])) e⟩) (fun _ _ e => e) (fun _ _ _ e => e) (fun b ps e => ⟨#[], by rw [e]; simp⟩) (fun m hm => ?_) (fun b u e => ?_) I.bare
  · have e : b = it := by simpa using hb
    subst e
    exact ⟨h1, hL, h2, h3⟩
  · obtain ⟨o, es, ep, ho, r⟩ := hm
    exact ⟨o, es, ep, k _ o (Ne.symm hL) ho, r⟩
  · refine (I.hok b u e).stay (fun c v hc q => k c v ?_ q) (fun _ q => q) fun _ _ q => q
    rcases hc with z | z
    · rw [z]; exact nit b u e
    · exact nit c _ z
theorem Inv.tok (I : Inv X pins σ H s) (t : Nat) : Inv X pins σ H { s with toks := t } := I.un (h' := s.heap) (t' := t) Un.refl I.hok
/-- all objects kept -/
theorem Inv.kept {t' : Nat} (I : Inv X pins σ H s) (k : ∀ b u, s.heap.get? b = some u → h'.get? b = some u) : Inv X pins σ H { s with heap := h', toks := t' } := I.un (Un.kept k) (I.hok.kept k)
/-- a new object laid and tracked -/
theorem Inv.laid {a : Addr} {o : HO} {t' : Nat} (I : Inv X pins σ H s) (k : ∀ b u, s.heap.get? b = some u → h'.get? b = some u) (hp : s.heap.objs.size ≤ a) (new : ObjOk X.prog X.w (upd H a o) h' a o) :
    Inv X pins σ (upd H a o) { s with heap := h', toks := t' } := I.un (Un.laid k hp (I.hok.fresh hp)) (I.hok.laid k hp new)
/-- an object written -/
theorem Inv.write {x e : Addr} {o : HO} {t' : Nat} (I : Inv X pins σ H s) (mu : Mut (H x)) (he : e = x ∨ H e = some (.own x)) (k : ∀ b u, b ≠ e → s.heap.get? b = some u → h'.get? b = some u) (heo : ∃ u, h'.get? e = some u)
    (new : ObjOk X.prog X.w (upd H x o) h' x o) : Inv X pins σ (upd H x o) { s with heap := h', toks := t' } := I.un (Un.write mu he k heo) (I.hok.write mu he k heo new)
/-- forgetting slots, pins -/
theorem Inv.weak {σ' : List (Option V)} (I : Inv X pins σ H s) (hl : σ'.length = σ.length) (w : ∀ (i : Nat) v, σ'[i]? = some (some v) → σ[i]? = some (some v)) : Inv X pins σ' H s :=
  ⟨I.ok, I.os, I.bare, I.base, let ⟨m, hn, hl'⟩ := I.loc; ⟨m, hn, fun i x v e1 e2 e3 => hl' i x v e1 (w i v e2) e3⟩, I.cell, I.free, I.freeC, I.pin, I.hok, hl.trans I.len⟩
theorem Inv.pins_of {pins' : List (Addr × Obj)} (I : Inv X pins σ H s) (h : ∀ p ∈ pins', s.heap.get? p.1 = some p.2 ∧ H p.1 = none ∧ p.1 ≠ X.env.locals ∧ p.1 ∉ X.fs ∧ ∀ v, p.2.data ≠ .cell v) : Inv X pins' σ H s :=
  ⟨I.ok, I.os, I.bare, I.base, I.loc, I.cell, I.free, I.freeC, fun p hp => (List.mem_append.mp hp).elim (fun z => I.pin p (List.mem_append_left _ z)) (h p), I.hok, I.len⟩

theorem nodup_ix {N : List Str} (hN : N.Nodup) {i j : Nat} {x : Str} (a : N[i]? = some x) (b : N[j]? = some x) : i = j := by
  obtain ⟨h1, e1⟩ := List.getElem?_eq_some_iff.mp a
  obtain ⟨h2, e2⟩ := List.getElem?_eq_some_iff.mp b
  exact (List.getElem_inj hN).mp (e1.trans e2.symm)

/-- a name is stored; what changed -/
theorem store_ok2 {M : Model} {A : Around} {E : Value → Shared → Prop} {i : Nat} {x : Str} {v : V} {u : Value} {Q : Unit → Shared → Prop} (I : Inv X pins σ H s) (hN : X.N.Nodup) (hi : X.N[i]? = some x) (hx : Loc X.env.scope x) (r : RelV v u)
    (h : ∀ s', Inv X pins (σ.set i (some v)) H s' → (∃ a, Heap.SameBut a s.heap s'.heap ∧ (a = X.env.locals ∨ X.env.cells.lookup x = some a)) → Q () s') (hf : X.fn x = true ∨ X.env.scope.names.lookup x = some .local := by first | exact .inl rfl | exact .inr rfl | assumption) : wpAny M A (storeName X.env x u) Q E s := by
  obtain ⟨m, hn, hl⟩ := id I.loc
  have hcls : (X.env.scope.kind == .class || (X.env.scope.kind == .module && X.env.locals != X.env.globals)) = false := by rw [I.ok.kind]; rfl
  have hiσ : i < σ.length := by rw [I.len]; exact (List.getElem?_eq_some_iff.mp hi).1
  have cne := I.cne
  have tracked : ∀ {a : Addr} {h' : Heap}, (∃ o, s.heap.get? a = some o ∧ H a = none) → Heap.SameBut a s.heap h' → HOk X.prog X.w H h' := fun {a h'} ha hs b ob e => by
    obtain ⟨_, _, hfree⟩ := ha
    refine (I.hok b ob e).stay (fun c w' hc q => (hs.2 c ?_).trans q) (fun _ q => q) fun _ _ q => q
    rintro rfl
    rcases hc with rfl | hc
    · rw [hfree] at e; cases e
    · rw [hfree] at hc; cases hc
  rcases hx with hk | hk
  · refine wpAny_storeName_local hk hn (fun h' hn' hs => ?_) hcls
    obtain ⟨oL, _, _, hoL, _⟩ := id hn
    refine h _ ⟨I.ok, I.os, I.bare, ⟨fun b o e n hb hx => ?_, fun b o e n hb hx => ?_, I.base.free, fun b o e hx => ?_, I.base.tups, I.base.frzs, I.base.tbls⟩, ⟨_, hn', fun j y v' e1 e2 e3 => ?_⟩, fun y c e => ?_, I.free, I.freeC, fun p hp => ?_, tracked ⟨oL, hoL, I.free⟩ hs, by simpa using I.len⟩ ⟨_, hs, .inl rfl⟩
    · exact (hs.2 b (Nat.ne_of_lt (Nat.lt_of_lt_of_le (Heap.lt_size e) I.ok.above))).trans (I.base.keep b o e n hb hx)
    · obtain ⟨sl, e1⟩ := I.base.slot b o e n hb hx
      exact ⟨sl, (hs.2 b (Nat.ne_of_lt (Nat.lt_of_lt_of_le (Heap.lt_size e) I.ok.above))).trans e1⟩
    · obtain ⟨o', e1⟩ := I.base.there b o e hx
      exact ⟨o', (hs.2 b (Nat.ne_of_lt (Nat.lt_of_lt_of_le (Heap.lt_size e) I.ok.above))).trans e1⟩
    · by_cases hj : j = i
      · subst hj
        rw [hi] at e1; cases e1
        rw [List.getElem?_set_self hiσ] at e2
        cases e2
        exact ⟨u, r, .inl ⟨hk, by simp⟩⟩
      · rw [List.getElem?_set_ne (Ne.symm hj)] at e2
        obtain ⟨u', r', q⟩ := hl j y v' e1 e2 e3
        refine ⟨u', r', ?_⟩
        rcases q with ⟨k, e⟩ | ⟨k, c, e, z⟩
        · refine .inl ⟨k, ?_⟩
          have : y ≠ x := fun e => hj (nodup_ix hN e1 (e ▸ hi))
          simp [this, e]
        · exact .inr ⟨k, c, e, z.sameBut hs (cne y c e)⟩
    · obtain ⟨w', z⟩ := I.cell y c e
      exact ⟨w', z.sameBut hs (cne y c e)⟩
    · obtain ⟨e, n, ne, nf, d⟩ := I.pin p hp
      exact ⟨(hs.2 p.1 ne).trans e, n, ne, nf, d⟩
  · have hfn : X.fn x = true := by
      rcases hf with z | z
      · exact z
      · rw [z] at hk; cases hk
    obtain ⟨c, hc⟩ := I.ok.has x (.inl hk)
    obtain ⟨w', z⟩ := I.cell x c hc
    refine wpAny_storeName_cell I.ok.kind hk hc z (fun h' hc' hs => ?_)
    obtain ⟨oc, hoc, hocd⟩ := id z
    refine h { s with heap := h' } ⟨I.ok, I.os, I.bare, ⟨fun b o e n hb hx => ?_, fun b o e n hb hx => ?_, I.base.free, fun b o e hx => ?_, I.base.tups, I.base.frzs, I.base.tbls⟩, ⟨m, hn.sameBut hs (Ne.symm (cne x c hc)), fun j y v' e1 e2 e3 => ?_⟩, fun y c' e => ?_, I.free, I.freeC, fun p hp => ?_, tracked ⟨oc, hoc, I.freeC x c hc⟩ hs, by simpa using I.len⟩ ⟨c, hs, .inr hc⟩
    · exact (hs.2 b (Nat.ne_of_lt (Nat.lt_of_lt_of_le (Heap.lt_size e) (I.ok.cab x c hfn hc)))).trans (I.base.keep b o e n hb hx)
    · obtain ⟨sl, e1⟩ := I.base.slot b o e n hb hx
      exact ⟨sl, (hs.2 b (Nat.ne_of_lt (Nat.lt_of_lt_of_le (Heap.lt_size e) (I.ok.cab x c hfn hc)))).trans e1⟩
    · obtain ⟨o', e1⟩ := I.base.there b o e hx
      exact ⟨o', (hs.2 b (Nat.ne_of_lt (Nat.lt_of_lt_of_le (Heap.lt_size e) (I.ok.cab x c hfn hc)))).trans e1⟩
    · by_cases hj : j = i
      · subst hj
        rw [hi] at e1; cases e1
        rw [List.getElem?_set_self hiσ] at e2
        cases e2
        exact ⟨u, r, .inr ⟨.inl hk, c, hc, hc'⟩⟩
      · rw [List.getElem?_set_ne (Ne.symm hj)] at e2
        obtain ⟨u', r', q⟩ := hl j y v' e1 e2 e3
        refine ⟨u', r', ?_⟩
        rcases q with q | ⟨k, c', e, z'⟩
        · exact .inl q
        · refine .inr ⟨k, c', e, z'.sameBut hs ?_⟩
          rintro rfl
          exact hj (nodup_ix hN e1 (I.ok.inj _ _ _ e hc ▸ hi))
    · by_cases hcc : c' = c
      · subst hcc; exact ⟨_, hc'⟩
      · obtain ⟨w2, z2⟩ := I.cell y c' e
        exact ⟨w2, z2.sameBut hs hcc⟩
    · obtain ⟨e, n, ne, nf, d⟩ := I.pin p hp
      refine ⟨(hs.2 p.1 ?_).trans e, n, ne, nf, d⟩
      intro q
      rw [q, hoc] at e
      have q' : oc = p.2 := Option.some.inj e
      exact d w' (by rw [← q']; exact hocd)
theorem store_ok {M : Model} {A : Around} {E : Value → Shared → Prop} {i : Nat} {x : Str} {v : V} {u : Value} {Q : Unit → Shared → Prop} (I : Inv X pins σ H s) (hN : X.N.Nodup) (hi : X.N[i]? = some x) (hx : Loc X.env.scope x) (r : RelV v u)
    (h : ∀ s', Inv X pins (σ.set i (some v)) H s' → Q () s') (hf : X.fn x = true ∨ X.env.scope.names.lookup x = some .local := by first | exact .inl rfl | exact .inr rfl | assumption) : wpAny M A (storeName X.env x u) Q E s :=
  store_ok2 I hN hi hx r (fun s' I' _ => h s' I') hf
/-- behind a call or a block, the state as it is -/
theorem Inv.call' {s' : Shared} {ch : List Addr} (I : Inv X pins σ H s) (ho : s'.os = s.os) (u : Un (frs X.stack) ch H H' s.heap s'.heap) (hok : HOk X.prog X.w H' s'.heap) (hg : AllBare s'.gens)
    (hch : ∀ b ∈ ch, (b ∈ X.ex ∨ X.s₀.heap.objs.size ≤ b) ∧ b ≠ X.env.locals ∧ (∀ x c, X.env.cells.lookup x = some c → c ≠ b) ∧ ∀ p ∈ X.pn ++ pins, p.1 ≠ b) : Inv X pins σ H' s' := by
  obtain ⟨h', g', d', t', o'⟩ := s'
  have e : o' = s.os := ho
  subst e
  exact I.call (g' := g') (t' := t') (d' := d') u hok hg hch
end

/-! ### the judgements -/
/-- an exception: its class, its own dict's address (where it has one), the abstract heap behind it -/
abbrev XK := Value → Option Addr → Hp → Prop
abbrev St := List (Option V)
abbrev VK := V → Hp → Prop
/-- an expression's reading; a test's; an argument list's -/
abbrev TE := St → Hp → VK → Prop
abbrev TT := St → Hp → (Bool → Hp → Prop) → Prop
abbrev TA := St → Hp → (List V → Hp → Prop) → Prop
/-- what is wanted behind a statement -/
structure Ends where
  nx : St → Hp → Prop
  rt : VK
  bk : St → Hp → Prop := fun _ _ => False
  ct : St → Hp → Prop := fun _ _ => False
abbrev TS := Ends → St → Hp → Prop

def EP (X : Cx) (pins : List (Addr × Obj)) (σ : St) (Q : VK) (u : Value) (s' : Shared) : Prop := ∃ v H', Inv X pins σ H' s' ∧ RelV v u ∧ Q v H'
def TP (X : Cx) (pins : List (Addr × Obj)) (σ : St) (Q : Bool → Hp → Prop) (b : Bool) (s' : Shared) : Prop := ∃ H', Inv X pins σ H' s' ∧ Q b H'
def AP (X : Cx) (pins : List (Addr × Obj)) (σ : St) (Q : List V → Hp → Prop) (us : List Value) (s' : Shared) : Prop := ∃ vs H', Inv X pins σ H' s' ∧ Vals vs us ∧ Q vs H'
def SP (X : Cx) (pins : List (Addr × Obj)) (D : Ends) (f : Flow) (s' : Shared) : Prop :=
  match f with
  | .next => ∃ σ' H', Inv X pins σ' H' s' ∧ D.nx σ' H'
  | .brk => ∃ σ' H', Inv X pins σ' H' s' ∧ D.bk σ' H'
  | .cont => ∃ σ' H', Inv X pins σ' H' s' ∧ D.ct σ' H'
  | .ret u => ∃ v σ' H', Inv X pins σ' H' s' ∧ RelV v u ∧ D.rt v H'

def PE (X : Cx) (e : Expr) (t : TE) : Prop :=
  ∀ (pins : List (Addr × Obj)) (s : Shared) (σ : St) (H : Hp) (Q : VK), Inv X pins σ H s → t σ H Q → wpAny (model X.prog X.w) X.A (eval e X.env) (EP X pins σ Q) X.xe s
def PT (X : Cx) (e : Expr) (t : TT) : Prop :=
  ∀ (pins : List (Addr × Obj)) (s : Shared) (σ : St) (H : Hp) (Q : Bool → Hp → Prop), Inv X pins σ H s → t σ H Q → wpAny (model X.prog X.w) X.A (isTrue e X.env (eval e X.env)) (TP X pins σ Q) X.xe s
/-- a test whatever its 'whole' is (and, or) -/
def PW (X : Cx) (e : Expr) (t : TT) : Prop :=
  ∀ (whole : Sem Value) (pins : List (Addr × Obj)) (s : Shared) (σ : St) (H : Hp) (Q : Bool → Hp → Prop), Inv X pins σ H s → t σ H Q → wpAny (model X.prog X.w) X.A (isTrue e X.env whole) (TP X pins σ Q) X.xe s
theorem PW.pt {X : Cx} {e : Expr} {t : TT} (h : PW X e t) : PT X e t := h _
/-- an argument list (no star), from the left -/
def PA (X : Cx) (es : List Expr) (t : TA) : Prop :=
  ∀ (pos : Pos) (pins : List (Addr × Obj)) (s : Shared) (σ : St) (H : Hp) (Q : List V → Hp → Prop), Inv X pins σ H s → t σ H Q → wpAny (model X.prog X.w) X.A (spliced (backTo pos (starEach es X.env))) (AP X pins σ Q) X.xe s
def PS (X : Cx) (st : Stmt) (t : TS) : Prop :=
  ∀ (pins : List (Addr × Obj)) (s : Shared) (σ : St) (H : Hp) (D : Ends), Inv X pins σ H s → t D σ H → wpAny (model X.prog X.w) X.A (exec st X.env) (SP X pins D) X.xe s
def PSs (X : Cx) (st : List Stmt) (t : TS) : Prop :=
  ∀ (pins : List (Addr × Obj)) (s : Shared) (σ : St) (H : Hp) (D : Ends), Inv X pins σ H s → t D σ H → wpAny (model X.prog X.w) X.A (execs st X.env) (SP X pins D) X.xe s
/-- weaken the end -/
theorem thn {α : Type} {t : Sem α} {Q Q' : α → Shared → Prop} {M : Model} {A : Around} {E : Value → Shared → Prop} {s : Shared} (h : wpAny M A t Q E s) (hQ : ∀ a s, Q a s → Q' a s) : wpAny M A t Q' E s := wpAny_mono h hQ fun _ _ x => x
end L2

namespace L2
open PySem PySem.Spec PyProof.Rows
section
variable {X : Cx}

/-! ### names and constants -/
def tVar (i : Nat) : TE := fun σ H Q => ∃ v, σ[i]? = some (some v) ∧ Q v H
def tC (v : V) : TE := fun _ H Q => Q v H
theorem pe_var {i : Nat} {x : Str} {pos : Pos} (hN : X.N[i]? = some x) (hv : Vis X.env.scope x) (hd : (x == ("__debug__" : Str)) = false := by decide) (hcd : (x == ("__classdict__" : Str)) = false := by decide) : PE X (.Name x pos) (tVar i) := by
  intro pins s σ H Q I h
  obtain ⟨v, e, h⟩ := h
  obtain ⟨m, hn, hl⟩ := I.loc
  obtain ⟨u, r, l⟩ := hl i x v hN e hv
  have fin : EP X pins σ Q u s := ⟨v, H, I, r, h⟩
  rcases l with ⟨hk, hm⟩ | ⟨hk, c, hc, hcell⟩
  · exact wpAny_Name (wpAny_loadName_local I.ok.kind hk hn hm fin) hd
  · rcases hk with hk | hk
    · exact wpAny_Name (wpAny_loadName_cell I.ok.kind hk hc hcell fin) hd
    · exact wpAny_Name (wpAny_loadName_free I.ok.kind hk hc hcell fin hcd) hd
theorem pe_int {i j pos} : PE X (.Constant (.int i) j pos) (tC (.int i)) := fun _ _ _ H _ I h => wpAny_Constant_int ⟨.int i, H, I.tok _, ⟨_, rfl⟩, h⟩
theorem pe_bl {b j pos} : PE X (.Constant (.bool b) j pos) (tC (.bl b)) := fun _ _ _ H _ I h => Constant_bool ⟨.bl b, H, I, rfl, h⟩
theorem pe_str {x j pos} : PE X (.Constant (.str x) j pos) (tC (.str x)) := fun _ _ _ H _ I h => Calls.Constant_str ⟨.str x, H, I.tok _, ⟨_, rfl⟩, h⟩

/-- a global name of the def -/
def Gl (X : Cx) (x : Str) : Prop := X.env.kindOf x = some .globalImplicit
theorem ld_glob {E : Value → Shared → Prop} {pins : List (Addr × Obj)} {s : Shared} {σ : St} {H : Hp} {x : Str} {u : Value} {pos : Pos} {Q : Value → Shared → Prop} (I : Inv X pins σ H s) (hg : Gl X x) (hm : X.mg x = some u) (h : Q u s)
    (hd : (x == ("__debug__" : Str)) = false := by decide) : wpAny (model X.prog X.w) X.A (eval (.Name x pos) X.env) Q E s :=
  Calls.Name_function_global I.ok.kind hg (Calls.loadGlobal_global (by rw [I.ok.glob]; exact I.mod.glob.keeps I.bk) hm h) hd
theorem ld_blt {E : Value → Shared → Prop} {pins : List (Addr × Obj)} {s : Shared} {σ : St} {H : Hp} {x : Str} {u : Value} {pos : Pos} {Q : Value → Shared → Prop} (I : Inv X pins σ H s) (hg : Gl X x) (hm : X.mg x = none) (hv : bootBuiltins x = some u) (h : Q u s)
    (hn : x ≠ "__name__" := by decide) (hd : (x == ("__debug__" : Str)) = false := by decide) : wpAny (model X.prog X.w) X.A (eval (.Name x pos) X.env) Q E s := by
  obtain ⟨mb, h1, h2⟩ := I.mod.blt
  exact Calls.Name_function_global I.ok.kind hg (Calls.loadGlobal_builtin (by rw [I.ok.glob]; exact I.mod.glob.keeps I.bk) hm (by rw [I.ok.blt]; exact h1.keeps I.bk) ((h2 x hn).trans hv) h) hd
/-- a module's constant, a class, a function, as a value -/
theorem pe_glob {x : Str} {v : V} {u : Value} {pos : Pos} (hg : Gl X x) (hm : X.mg x = some u) (r : RelV v u) (hd : (x == ("__debug__" : Str)) = false := by decide) : PE X (.Name x pos) (tC v) :=
  fun _ _ _ H _ I h => ld_glob I hg hm ⟨v, H, I, r, h⟩ hd
theorem pe_bltn {x : Str} {v : V} {u : Value} {pos : Pos} (hg : Gl X x) (hm : X.mg x = none) (hv : bootBuiltins x = some u) (r : RelV v u) (hn : x ≠ "__name__" := by decide) (hd : (x == ("__debug__" : Str)) = false := by decide) : PE X (.Name x pos) (tC v) :=
  fun _ _ _ H _ I h => ld_blt I hg hm hv ⟨v, H, I, r, h⟩ hn hd

variable {a b : Expr} {ta tb : TE} {pos : Pos}
/-- a comparison as a value, as a test -/
def tB (t : TE) : TT := fun σ H Q => t σ H fun x H1 => ∃ c, x = .bl c ∧ Q c H1
/-- an expression whose value is a bool, as a test -/
theorem pt_val {e : Expr} {t : TE} (h : PE X e t) (he : ∀ whole, isTrue e X.env whole = (do let v ← whole; standAt e.pos; holding [v] (truthy v)) := by intro _; rfl) : PT X e (tB t) := by
  intro pins s σ H Q I hw
  refine isTrue_plain (thn (h pins s σ H _ I hw) fun v s1 ⟨x, H1, I1, r1, q1⟩ => ?_) (he _)
  obtain ⟨d, rfl, q⟩ := q1
  cases r1
  exact wpAny_truthy_bool ⟨H1, I1, q⟩

/-! ### and, or, not -/
variable {tA tB' : TT} {rest : List Expr}
def tAnd (t u : TT) : TT := fun σ H Q => t σ H fun c H1 => if c = true then u σ H1 Q else Q false H1
def tOr (t u : TT) : TT := fun σ H Q => t σ H fun c H1 => if c = true then Q true H1 else u σ H1 Q
def tNot (t : TT) : TT := fun σ H Q => t σ H fun c H1 => Q (!c) H1
theorem pw_and1 (ha : PT X a tA) : PW X (.BoolOp .And [a] pos) tA := by
  intro wh pins s σ H Q I h
  refine isTrue_and (thn (ha pins s σ H Q I h) fun c s1 e => ?_)
  cases c with
  | true => exact isTrue_and_nil e
  | false => exact e
theorem pw_or1 (ha : PT X a tA) : PW X (.BoolOp .Or [a] pos) tA := by
  intro wh pins s σ H Q I h
  refine isTrue_or (thn (ha pins s σ H Q I h) fun c s1 e => ?_)
  cases c with
  | false => exact isTrue_or_nil e
  | true => exact e
theorem pw_and (ha : PT X a tA) (hb : PW X (.BoolOp .And (b :: rest) pos) tB') : PW X (.BoolOp .And (a :: b :: rest) pos) (tAnd tA tB') := by
  intro wh pins s σ H Q I h
  refine isTrue_and (thn (ha pins s σ H _ I h) fun c s1 ⟨H1, I1, q1⟩ => ?_)
  cases c with
  | true => exact hb wh pins s1 σ H1 Q I1 q1
  | false => exact ⟨H1, I1, q1⟩
theorem pw_or (ha : PT X a tA) (hb : PW X (.BoolOp .Or (b :: rest) pos) tB') : PW X (.BoolOp .Or (a :: b :: rest) pos) (tOr tA tB') := by
  intro wh pins s σ H Q I h
  refine isTrue_or (thn (ha pins s σ H _ I h) fun c s1 ⟨H1, I1, q1⟩ => ?_)
  cases c with
  | true => exact ⟨H1, I1, q1⟩
  | false => exact hb wh pins s1 σ H1 Q I1 q1
theorem pt_not (ha : PT X a tA) : PT X (.UnaryOp .Not a pos) (tNot tA) := by
  intro pins s σ H Q I h
  exact isTrue_not (ha pins s σ H (fun c H1 => Q (!c) H1) I h)
end
end L2

namespace L2
open PySem PySem.Spec PyProof.Rows

/-! ### a list, a tuple that is read: tracked, frozen, or an object of the module -/
def SqL (K : PySem.W.Frag) (H : Hp) (a : Addr) (xs : List V) : Prop :=
  Rd H a (.lst xs) ∨
    ∃ (o : Obj) (its : Array Value) (n : Nat), K.lookup a = some o ∧ o.cls = .type "list" ∧ o.dict = none ∧ o.data = .seq its n ∧ its.size ≤ sizeLine ∧ Vals xs its.toList
def SqT (K : PySem.W.Frag) (H : Hp) (a : Addr) (xs : List V) : Prop :=
  Rd H a (.tup xs) ∨
    ∃ (o : Obj) (its : Array Value) (n : Nat), K.lookup a = some o ∧ o.cls = .type "tuple" ∧ o.data = .seq its n ∧ its.size ≤ sizeLine ∧ Vals xs its.toList
def absV : Value → Option V
  | .none => some .non
  | .bool b => some (.bl b)
  | .int i _ => some (.int i)
  | .str x _ => some (.str x)
  | .bytes b _ => some (.byt b)
  | .float b _ => some (.flt b)
  | .ref a => some (.ref a)
  | .type n => some (.ty n)
  | _ => none
theorem RelV.abs {x : V} {u : Value} (r : RelV x u) : absV u = some x := by
  cases x with
  | non => cases r; rfl
  | bl _ => cases r; rfl
  | int _ => obtain ⟨t, rfl⟩ := r; rfl
  | str _ => obtain ⟨t, rfl⟩ := r; rfl
  | byt _ => obtain ⟨t, rfl⟩ := r; rfl
  | flt _ => obtain ⟨t, rfl⟩ := r; rfl
  | ref _ => cases r; rfl
  | ty _ => cases r; rfl
theorem RelV.inj {x y : V} {u : Value} (r : RelV x u) (q : RelV y u) : x = y := Option.some.inj (r.abs.symm.trans q.abs)
theorem Vals.inj : ∀ {xs ys : List V} {us : List Value}, Vals xs us → Vals ys us → xs = ys
  | _, _, _, .nil, .nil => rfl
  | _, _, _, .cons r t, .cons r' t' => by rw [r.inj r', Vals.inj t t']
section
variable {X : Cx} {pins : List (Addr × Obj)} {σ : St} {H : Hp} {s : Shared} {a : Addr} {xs ys : List V}
theorem SqL.of {K : PySem.W.Frag} (h : H a = some (.lst xs)) : SqL K H a xs := .inl (.inl h)
theorem SqT.of {K : PySem.W.Frag} (h : H a = some (.tup xs)) : SqT K H a xs := .inl (.inl h)
theorem Inv.list (I : Inv X pins σ H s) (h : SqL X.K H a xs) : ∃ its : List Value, Vals xs its ∧ PlainL s.heap a its.toArray ∧ xs.length ≤ sizeLine := by
  rcases h with h | ⟨o, its, n, hk, hc, hd, hs, hz, r⟩
  · obtain ⟨z, its, n, r, e⟩ := h.ok I.hok
    exact ⟨its, r, ⟨_, n, e, rfl, rfl, rfl⟩, z⟩
  · refine ⟨its.toList, r, ⟨o, n, I.kIn a o hk, hc, hd, by simpa using hs⟩, ?_⟩
    have e := r.length
    simp only [Array.length_toList] at e
    omega
theorem Inv.tuple (I : Inv X pins σ H s) (h : SqT X.K H a xs) : ∃ its : List Value, Vals xs its ∧ IsTup s.heap a its.toArray ∧ xs.length ≤ sizeLine := by
  rcases h with h | ⟨o, its, n, hk, hc, hs, hz, r⟩
  · obtain ⟨z, its, r, p⟩ := h.ok I.hok
    exact ⟨its, r, p, z⟩
  · refine ⟨its.toList, r, ⟨o, I.kIn a o hk, hc, n, by simpa using hs⟩, ?_⟩
    have e := r.length
    simp only [Array.length_toList] at e
    omega
theorem Inv.list_inj (I : Inv X pins σ H s) (h : SqL X.K H a xs) (h' : SqL X.K H a ys) : xs = ys := by
  obtain ⟨its, r, ⟨o, n, e, _, _, d⟩, _⟩ := I.list h
  obtain ⟨its', r', ⟨o', n', e', _, _, d'⟩, _⟩ := I.list h'
  rw [e] at e'; cases e'
  rw [d] at d'
  injection d' with d1 _
  have : its = its' := by simpa using congrArg Array.toList d1
  subst this
  exact r.inj r'
end

/-! ### another wish about exceptions -/
abbrev Cx.wish (X : Cx) (E : Value → Shared → Prop) : Cx := { X with xe := E }
/-- no exception leaves -/
abbrev Cx.nox (X : Cx) : Cx := X.wish fun _ _ => False
theorem Cx.Ok.wish {X : Cx} (ok : X.Ok) (E : Value → Shared → Prop) : (X.wish E).Ok :=
  ⟨ok.mod, ok.kind, ok.glob, ok.blt, ok.above, ok.inj, ok.has, ok.cab, ok.hd, ok.frames, ok.stk, ok.exf, ok.bs, ok.bsz, ok.noex, ok.exfs, ok.funs, ok.frf⟩
theorem Cx.Ok.unwish {X : Cx} {E : Value → Shared → Prop} (ok : (X.wish E).Ok) : X.Ok :=
  ⟨ok.mod, ok.kind, ok.glob, ok.blt, ok.above, ok.inj, ok.has, ok.cab, ok.hd, ok.frames, ok.stk, ok.exf, ok.bs, ok.bsz, ok.noex, ok.exfs, ok.funs, ok.frf⟩
section
variable {X : Cx} {pins : List (Addr × Obj)} {σ : St} {H : Hp} {s : Shared} {E : Value → Shared → Prop}
theorem Inv.wish (I : Inv X pins σ H s) (E : Value → Shared → Prop) : Inv (X.wish E) pins σ H s := ⟨I.ok.wish E, I.os, I.bare, I.base, I.loc, I.cell, I.free, I.freeC, I.pin, I.hok, I.len⟩
theorem Inv.unwish (I : Inv (X.wish E) pins σ H s) : Inv X pins σ H s := ⟨I.ok.unwish, I.os, I.bare, I.base, I.loc, I.cell, I.free, I.freeC, I.pin, I.hok, I.len⟩
theorem SP.unwish {D : Ends} {f : Flow} {s' : Shared} (h : SP (X.wish E) pins D f s') : SP X pins D f s' := by
  cases f with
  | next => obtain ⟨σ', H', I, q⟩ := h; exact ⟨σ', H', I.unwish, q⟩
  | brk => obtain ⟨σ', H', I, q⟩ := h; exact ⟨σ', H', I.unwish, q⟩
  | cont => obtain ⟨σ', H', I, q⟩ := h; exact ⟨σ', H', I.unwish, q⟩
  | ret u => obtain ⟨v, σ', H', I, r, q⟩ := h; exact ⟨v, σ', H', I.unwish, r, q⟩
theorem PSs.nox {st : List Stmt} {t : TS} (h : PSs X.nox st t) : PSs X st t := fun pins s σ H D I hw =>
  wpAny_mono (h pins s σ H D (I.wish _) hw) (fun _ _ q => q.unwish) fun _ _ z => False.elim z
end

/-! ### blocks and small statements -/
section
variable {X : Cx} {st : Stmt} {rest : List Stmt} {t u : TS} {e : Expr} {te : TE} {pos : Pos}
def tNext : TS := fun D σ H => D.nx σ H
def tSeq (t u : TS) : TS := fun D σ H => t { D with nx := u D } σ H
theorem pss_nil : PSs X [] tNext := fun _ _ σ H _ I h => wpAny_execs_nil ⟨σ, H, I, h⟩
theorem pss_cons (h1 : PS X st t) (h2 : PSs X rest u) : PSs X (st :: rest) (tSeq t u) := by
  intro pins s σ H D I h
  refine wpAny_execs_cons (thn (h1 pins s σ H { D with nx := u D } I h) fun f s1 q => ?_)
  cases f with
  | next =>
    obtain ⟨σ', H', I', q⟩ := q
    exact h2 pins s1 σ' H' D I' q
  | ret v => exact q
  | brk => exact q
  | cont => exact q
theorem pss_one (h1 : PS X st t) : PSs X [st] t := by
  intro pins s σ H D I h
  refine wpAny_execs_cons (thn (h1 pins s σ H D I h) fun f s1 q => ?_)
  cases f with
  | next => exact wpAny_execs_nil q
  | ret v => exact q
  | brk => exact q
  | cont => exact q
/-- in a def's body nothing is shown -/
theorem Inv.quiet {pins : List (Addr × Obj)} {σ : St} {H : Hp} {s : Shared} (I : Inv X pins σ H s) : interactive X.env = false := by simp [interactive, I.ok.kind]
/-- an expression whose value is dropped -/
def tDrop (te : TE) : TS := fun D σ H => te σ H fun _ H1 => D.nx σ H1
theorem ps_expr (he : PE X e te) (hs : swapsWith e none pos.line X.env = pure false := by rfl) : PS X (.Expr e pos) (tDrop te) := by
  intro pins s σ H D I h
  exact wpAny_Expr_any (thn (he pins s σ H _ I h) fun v s1 ⟨x, H1, I1, r1, q1⟩ => ⟨σ, H1, I1, q1⟩) I.quiet hs
def tRet (te : TE) : TS := fun D σ H => te σ H D.rt
theorem ps_ret (he : PE X e te) : PS X (.Return (some e) pos) (tRet te) := by
  intro pins s σ H D I h
  exact wpAny_Return_some (thn (he pins s σ H _ I h) fun v s1 ⟨x, H1, I1, r1, q1⟩ => ⟨x, σ, H1, I1, r1, q1⟩)
def tIfS (c : TT) (t u : TS) : TS := fun D σ H => c σ H fun b H1 => if b = true then t D σ H1 else u D σ H1
theorem ps_if {c : Expr} {a b : List Stmt} {tc : TT} (hc : PT X c tc) (ha : PSs X a t) (hb : PSs X b u) : PS X (.If c a b pos) (tIfS tc t u) := by
  intro pins s σ H D I h
  refine wpAny_If (thn (hc pins s σ H _ I h) fun d s1 ⟨H1, I1, q1⟩ => ?_)
  cases d with
  | true => exact ha pins s1 σ H1 D I1 q1
  | false => exact hb pins s1 σ H1 D I1 q1
/-- code that the proof never comes to -/
def tNever : TS := fun _ _ _ => False
theorem ps_never : PS X st tNever := fun _ _ _ _ _ _ h => h.elim
theorem pss_never {sts : List Stmt} : PSs X sts tNever := fun _ _ _ _ _ _ h => h.elim
end

/-! ### targets -/
abbrev TG := V → St → Hp → (St → Hp → Prop) → Prop
abbrev TGs := List V → St → Hp → (St → Hp → Prop) → Prop
def PG (X : Cx) (target : Expr) (t : TG) : Prop :=
  ∀ (pins : List (Addr × Obj)) (s : Shared) (σ : St) (H : Hp) (v : V) (u : Value) (Q : St → Hp → Prop), Inv X pins σ H s → RelV v u → t v σ H Q →
    wpAny (model X.prog X.w) X.A (assign target X.env u) (fun _ s' => ∃ σ' H', Inv X pins σ' H' s' ∧ Q σ' H') X.xe s
/-- several targets, one after another -/
def PGs (X : Cx) (ts : List Expr) (t : TGs) : Prop :=
  ∀ (pins : List (Addr × Obj)) (s : Shared) (σ : St) (H : Hp) (vs : List V) (us : List Value) (Q : St → Hp → Prop), Inv X pins σ H s → Vals vs us → t vs σ H Q →
    wpAny (model X.prog X.w) X.A (assignInOrder ((assignEach ts X.env).map (·.2)) us) (fun _ s' => ∃ σ' H', Inv X pins σ' H' s' ∧ Q σ' H') X.xe s
/-- o[i] = v, by values -/
abbrev TSet := V → V → V → Hp → (Hp → Prop) → Prop
def PSet (X : Cx) (t : TSet) : Prop :=
  ∀ (pins : List (Addr × Obj)) (s : Shared) (σ : St) (H : Hp) (o i v : V) (ov iv u : Value) (Q : Hp → Prop), Inv X pins σ H s → RelV o ov → RelV i iv → RelV v u → t o i v H Q →
    wpAny (model X.prog X.w) X.A (setItem ov iv u) (fun _ s' => ∃ H', Inv X pins σ H' s' ∧ Q H') X.xe s
section
variable {X : Cx} {pos : Pos}
def gName (i : Nat) : TG := fun v σ H Q => Q (σ.set i (some v)) H
theorem pg_name {i : Nat} {x : Str} (hN : X.N.Nodup) (hi : X.N[i]? = some x) (hx : Loc X.env.scope x) (hf : X.fn x = true ∨ X.env.scope.names.lookup x = some .local := by first | exact .inl rfl | exact .inr rfl | assumption) : PG X (.Name x pos) (gName i) := by
  intro pins s σ H v u Q I r h
  exact wpAny_assign_Name (store_ok I hN hi hx r (fun s' I' => ⟨_, H, I', h⟩) hf)
def gNil : TGs := fun vs σ H Q => vs = [] ∧ Q σ H
def gCons (t : TG) (u : TGs) : TGs := fun vs σ H Q => ∃ v r, vs = v :: r ∧ t v σ H fun σ' H' => u r σ' H' Q
theorem pgs_nil : PGs X [] gNil := by
  intro pins s σ H vs us Q I r h
  obtain ⟨e, h⟩ := h
  subst e
  cases r
  exact assignInOrder_nil ⟨σ, H, I, h⟩
theorem pgs_cons {e : Expr} {es : List Expr} {t : TG} {u : TGs} (h1 : PG X e t) (h2 : PGs X es u)
    (hs : (assignEach (e :: es) X.env).map (·.2) = assign e X.env :: (assignEach es X.env).map (·.2) := by rfl) : PGs X (e :: es) (gCons t u) := by
  intro pins s σ H vs us Q I r h
  obtain ⟨v, vr, e1, h⟩ := h
  subst e1
  cases r with
  | cons r rr =>
    rw [hs]
    refine assignInOrder_cons (thn (h1 pins s σ H _ _ _ I r h) fun _ s1 ⟨σ1, H1, I1, q1⟩ => ?_)
    exact h2 pins s1 σ1 H1 _ _ Q I1 rr q1
/-- (a, b, ..) = a tuple of that length -/
def gTup (K : PySem.W.Frag) (n : Nat) (t : TGs) : TG := fun v σ H Q => ∃ a xs, v = .ref a ∧ SqT K H a xs ∧ xs.length = n ∧ t xs σ H Q
theorem pg_tup {es : List Expr} {k : Nat} {t : TGs} {n : Nat} (hc : X.calm = true) (h : PGs X es t)
    (hn : (assignEach es X.env).length = n := by rfl) (hst : (assignEach es X.env).findIdx? (·.1) = none := by rfl) : PG X (.Tuple es k pos) (gTup X.K n t) := by
  intro pins s σ H v u Q I r hw
  obtain ⟨a, xs, e1, hq, hl, hw⟩ := hw
  subst e1
  cases r
  obtain ⟨its, rv, ht, hz⟩ := I.tuple hq
  refine assign_Tuple_tuple (I.ok.hd hc) ht (by simp [hn, ← hl, rv.length]) hst fun h' hx => ?_
  have I1 : Inv X pins σ H { s with heap := h' } := I.kept (t' := s.toks) fun b o e => hx b o (Nat.ne_of_lt (Heap.lt_size e)) e
  exact h pins _ σ H xs _ Q I1 (by simpa using rv) hw
/-- o[i] = .. -/
def gSub (to ti : TE) (t : TSet) : TG := fun v σ H Q => to σ H fun o H1 => ti σ H1 fun i H2 => t o i v H2 fun H3 => Q σ H3
theorem pg_sub {o i : Expr} {to ti : TE} {t : TSet} (ho : PE X o to) (hi : PE X i ti) (hs : PSet X t)
    (ha : ∀ v, assign (.Subscript o i pos) X.env v = (do
      let ov ← holding [v] (eval o X.env)
      let iv ← holding [v, ov] (eval i X.env)
      standAt pos
      holding [v, ov, iv] (setItem ov iv v)
      release [v, ov, iv] []) := by intro _; rfl) : PG X (.Subscript o i pos) (gSub to ti t) := by
  intro pins s σ H v u Q I r h
  rw [ha]
  refine wpAny_bind (wpAny_holding (thn (ho pins s σ H _ I h) fun ov s1 ⟨x, H1, I1, r1, q1⟩ => ?_))
  refine wpAny_bind (wpAny_holding (thn (hi pins s1 σ H1 _ I1 q1) fun iv s2 ⟨y, H2, I2, r2, q2⟩ => ?_))
  refine wpAny_bind (wpAny_standAt (wpAny_bind (wpAny_holding (thn (hs pins s2 σ H2 x y v ov iv u _ I2 r1 r2 r q2) fun _ s3 ⟨H3, I3, q3⟩ => ?_))))
  exact wpAny_release ⟨σ, H3, I3, q3⟩
/-- target = value -/
def tAsg (te : TE) (g : TG) : TS := fun D σ H => te σ H fun x H1 => g x σ H1 D.nx
theorem ps_asg {tg e : Expr} {te : TE} {g : TG} (he : PE X e te) (hg : PG X tg g) (hs : swapsWithSole [tg] e pos.line X.env = pure false := by rfl) (hw : swappedStores [tg] e X.env = pure none := by rfl)
    (h1 : (assignEach [tg] X.env).map (·.2) = [assign tg X.env] := by rfl) : PS X (.Assign [tg] e pos) (tAsg te g) := by
  intro pins s σ H D I h
  refine wpAny_Assign_stores (thn (he pins s σ H _ I h) fun v s1 ⟨x, H1, I1, r1, q1⟩ => ?_) hs hw
  rw [h1]
  exact thn (hg pins s1 σ H1 x v _ I1 r1 q1) fun _ s2 q => q
/-- name = value -/
theorem ps_set {i : Nat} {x : Str} {e : Expr} {te : TE} {pos' : Pos} (hN : X.N.Nodup) (hi : X.N[i]? = some x) (hx : Loc X.env.scope x) (he : PE X e te) (hs : swapsWith e (some (.Name x pos')) pos.line X.env = pure false := by rfl) (hf : X.fn x = true ∨ X.env.scope.names.lookup x = some .local := by first | exact .inl rfl | exact .inr rfl | assumption) :
    PS X (.Assign [.Name x pos'] e pos) (tAsg te (gName i)) := by
  intro pins s σ H D I h
  refine wpAny_Assign_Name (thn (he pins s σ H _ I h) fun v s1 ⟨y, H1, I1, r1, q1⟩ => ?_) hs
  exact store_ok I1 hN hi hx r1 (fun s2 I2 => ⟨_, H1, I2, q1⟩) hf
/-- a, b = x, y with plain local names: stored from the right; the pair itself is not tracked (the opening rows as in PyProof/Rows/TupAssign.lean:23) -/
def tPar (i j : Nat) (ta : TA) : TS := fun D σ H => ta σ H fun vs H1 => ∃ v w, vs = [v, w] ∧ D.nx ((σ.set i (some v)).set j (some w)) H1
theorem ps_par {i j : Nat} {x y : Str} {a b : Expr} {ta : TA} {px py pt : Pos} {kt k2 pt2} (hc : X.calm = true) (hN : X.N.Nodup) (hi : X.N[i]? = some x) (hj : X.N[j]? = some y) (hij : i ≠ j)
    (hx : X.env.scope.names.lookup x = some .local) (hy : X.env.scope.names.lookup y = some .local) (ha : PA X [a, b] ta)
    (hw : swappedStores [.Tuple [.Name x px, .Name y py] kt pt] (.Tuple [a, b] k2 pt2) X.env = pure (some [x, y]))
    (hs : swapsWithSole [.Tuple [.Name x px, .Name y py] kt pt] (.Tuple [a, b] k2 pt2) pos.line X.env = pure false := by rfl) :
    PS X (.Assign [.Tuple [.Name x px, .Name y py] kt pt] (.Tuple [a, b] k2 pt2) pos) (tPar i j ta) := by
  intro pins s σ H D I h
  rw [exec_Assign_arm]
  refine wpAny_bind (wpAny_standAt ?_)
  rw [hs]
  refine wpAny_bind (wpAny_pure ?_)
  rw [if_neg (by decide)]
  refine wpAny_bind (Tuple_ (thn (ha _ pins s σ H _ I h) fun us s1 ⟨vs, H1, I1, r1, q1⟩ => ?_))
  obtain ⟨v, w, e1, q1⟩ := q1
  subst e1
  obtain ⟨u1, u2, rfl, rv, rw'⟩ : ∃ u1 u2, us = [u1, u2] ∧ RelV v u1 ∧ RelV w u2 := by
    cases r1 with
    | cons p q =>
      cases q with
      | cons p' q' =>
        cases q'
        exact ⟨_, _, rfl, p, p'⟩
  refine wpAny_newObj_type ?_ (by show 2 ≤ sizeLine; decide)
  have I2 : Inv X pins σ H1 { s1 with heap := s1.heap.push { cls := .type "tuple", data := .seq [u1, u2].toArray } } := I1.kept (t' := s1.toks) fun b o e => Heap.get?_push_of_some _ e
  rw [hw]
  refine wpAny_bind (wpAny_pure ?_)
  show wpAny (model X.prog X.w) X.A (do rule "assign.swapped-stores"; let items ← unpackItems (.ref s1.heap.objs.size) 2 none; assignInOrder [fun v => bindName X.env y v, fun v => bindName X.env x v] items.reverse; pure Flow.next) _ _ _
  refine wpAny_bind (wpAny_rule (wpAny_bind (unpackItems_tuple (items := #[u1, u2]) (I.ok.hd hc) (IsTup.new s1.heap _) fun h' hx' => ?_)))
  have I3 := I2.kept (h' := h') (t' := s1.toks) fun b o e => hx' b o (Nat.ne_of_lt (Heap.lt_size e)) e
  show wpAny _ _ (assignInOrder [fun v => bindName X.env y v, fun v => bindName X.env x v] [u2, u1] >>= fun _ => pure Flow.next) _ _ _
  refine wpAny_bind (assignInOrder_cons (wpAny_bindName (store_ok I3 hN hj (.inl hy) rw' (fun s2 I4 => ?_) (.inr hy))))
  refine assignInOrder_cons (wpAny_bindName (store_ok I4 hN hi (.inl hx) rv (fun s3 I5 => assignInOrder_nil (wpAny_pure ?_)) (.inr hx)))
  rw [List.set_comm _ _ (Ne.symm hij)] at I5
  exact ⟨_, H1, I5, q1⟩
end

/-! ### while -/
section
variable {X : Cx} {pos : Pos}
end

/-! ### what a loop or a comprehension walks -/
/-- at turn i: it yields x (the heap may grow), or it stops -/
structure It where
  go : Nat → Hp → Prop
  yld : Nat → Hp → V → Hp → Prop
  stop : Nat → Hp → Prop
/-- the iterator's own objects may turn: they are not the frame's, not pinned, younger than the entry (or a comprehension's own) -/
def FpOk (X : Cx) (pins : List (Addr × Obj)) (H : Hp) (b : Addr) : Prop :=
  H b = none ∧ b ≠ X.env.locals ∧ b ∉ X.fs ∧ (b ∈ X.ex ∨ X.s₀.heap.objs.size ≤ b) ∧ (∀ x c, X.env.cells.lookup x = some c → c ≠ b) ∧ ∀ p ∈ X.pn ++ pins, p.1 ≠ b
theorem Inv.fpOk {X : Cx} {pins : List (Addr × Obj)} {σ : St} {H H' : Hp} {s : Shared} {b : Addr} (I : Inv X pins σ H s) (hb : s.heap.objs.size ≤ b) (hn : H' b = none) : FpOk X pins H' b := by
  refine ⟨hn, Nat.ne_of_gt (Nat.lt_of_lt_of_le I.lt hb), I.nofs hb, .inr (Nat.le_trans I.sz hb), fun x c e z => ?_, fun p hp z => ?_⟩
  · obtain ⟨v, q⟩ := I.cell x c e
    exact absurd (Nat.lt_of_lt_of_le q.lt (by rw [z]; exact hb)) (Nat.lt_irrefl _)
  · exact absurd (Nat.lt_of_lt_of_le (Heap.lt_size (I.pin p hp).1) (by rw [z]; exact hb)) (Nat.lt_irrefl _)
structure Turn (P : Program) (w : World) (K : PySem.W.Frag) (tg : Expr) (J : It) (fp : List Addr) (it : Addr) (tn : Nat → Heap → Prop) : Prop where
  mem : it ∈ fp
  obj : ∀ i h, tn i h → ∀ b ∈ fp, ∃ o, h.get? b = some o ∧ ∀ v, o.data ≠ .cell v
  keep : ∀ i h h', tn i h → (∀ b ∈ fp, ∀ o, h.get? b = some o → h'.get? b = some o) → tn i h'
  item : ∀ (X : Cx), X.prog = P → X.w = w → X.K = K → X.calm = true → ∀ (i : Nat) (pins : List (Addr × Obj)) (s : Shared) (σ : St) (H : Hp) (E : Value → Shared → Prop), Inv X pins σ H s → (∀ b ∈ fp, FpOk X pins H b) → tn i s.heap → J.go i H →
    wpAny (model P w) X.A (pyNext (.ref it)) (fun r s1 => ∃ u, r = some u ∧
      wpAny (model P w) X.A (letOwnedTupleGo tg (.ref it) u) (fun _ s2 => ∃ x H', Inv X pins σ H' s2 ∧ RelV x u ∧ J.yld i H x H' ∧ tn (i + 1) s2.heap ∧ ∀ b ∈ fp, H' b = none) E s1) E s
  done : ∀ (X : Cx), X.prog = P → X.w = w → X.K = K → X.calm = true → ∀ (i : Nat) (pins : List (Addr × Obj)) (s : Shared) (σ : St) (H : Hp) (E : Value → Shared → Prop), Inv X pins σ H s → (∀ b ∈ fp, FpOk X pins H b) → tn i s.heap → J.stop i H →
    wpAny (model P w) X.A (pyNext (.ref it)) (fun r s1 => r = none ∧ Inv X pins σ H s1) E s
  self : ∀ (A : Around) (i : Nat) (s : Shared) (Q : Value → Shared → Prop) (E : Value → Shared → Prop), tn i s.heap → Q (.ref it) s → wpAny (model P w) A (pyIter (.ref it)) Q E s
abbrev TI := St → Hp → (It → Hp → Prop) → Prop
/-- an iterator has come -/
def PIE (X : Cx) (pins : List (Addr × Obj)) (σ : St) (tg : Expr) (R : It → Hp → Prop) (itv : Value) (s2 : Shared) : Prop :=
  ∃ (it : Addr) (fp : List Addr) (tn : Nat → Heap → Prop) (J : It) (H' : Hp), itv = .ref it ∧ Inv X pins σ H' s2 ∧ Turn X.prog X.w X.K tg J fp it tn ∧ tn 0 s2.heap ∧ (∀ b ∈ fp, FpOk X pins H' b) ∧ R J H'
def PI (X : Cx) (tg iter : Expr) (wi : TI) : Prop :=
  ∀ (pins : List (Addr × Obj)) (s : Shared) (σ : St) (H : Hp) (R : It → Hp → Prop), Inv X pins σ H s → wi σ H R →
    wpAny (model X.prog X.w) X.A (eval iter X.env) (fun v s1 => wpAny (model X.prog X.w) X.A (pyIter v) (PIE X pins σ tg R) X.xe s1) X.xe s

/-- the step ahead of the store is nothing for an iterator that keeps no tuple -/
theorem go_of {M : Model} {A : Around} {E : Value → Shared → Prop} {s : Shared} {tg : Expr} {it : Addr} {u : Value} {o : Obj} {n : String} {vs : Array Value} {Q : Unit → Shared → Prop} (ho : s.heap.get? it = some o) (hc : o.cls = .type n) (hd : o.data = .fields vs)
    (hn : ["enumerate", "zip", "dict_itemiterator", "dict_reverseitemiterator", "odict_iterator", "itertools.zip_longest", "itertools.pairwise"].contains n = false) (hQ : Q () s) : wpAny M A (letOwnedTupleGo tg (.ref it) u) Q E s := by
  unfold letOwnedTupleGo
  cases tg <;> first
    | exact wpAny_pure hQ
    | (cases u <;> first
        | exact wpAny_pure hQ
        | (refine wpAny_bind (wpAny_load ho ?_)
           rw [hc, hd]
           show wpAny M A (if (["enumerate", "zip", "dict_itemiterator", "dict_reverseitemiterator", "odict_iterator", "itertools.zip_longest", "itertools.pairwise"].contains n && vs[0]? == some (rawInt _)) = true then _ else _) Q E s
           rw [if_neg (by intro h; rw [hn, Bool.false_and] at h; cases h)]
           exact wpAny_pure hQ))

/-- the list at a, as it stands at each turn (a loop may append to it) -/
def Itl (K : PySem.W.Frag) (a : Addr) : It :=
  ⟨fun i H => ∃ xs x, SqL K H a xs ∧ xs[i]? = some x, fun i H x H' => H' = H ∧ ∀ xs, SqL K H a xs → xs[i]? = some x, fun i H => ∃ xs, SqL K H a xs ∧ xs.length ≤ i⟩
/-- lo, lo + 1, .. (n of them) -/
def Itr (lo : Int) (n : Nat) : It := ⟨fun i _ => i < n, fun i H x H' => H' = H ∧ x = .int (lo + i), fun i _ => n ≤ i⟩
theorem turn_list {P : Program} {w : World} {K : PySem.W.Frag} {tg : Expr} (a it : Addr) : Turn P w K tg (Itl K a) [it] it (fun i h => h.IsListIter it a i) where
  mem := by simp
  obj := fun i h st b hb => by
    have e : b = it := by simpa using hb
    subst e
    obtain ⟨o, e, c, d⟩ := st
    exact ⟨o, e, fun v z => by rw [d] at z; cases z⟩
  keep := fun i h h' st k => st.at fun o e => k it (by simp) o e
  item := by
    intro X hP hw hK hc i pins s σ H E I hf st hg
    subst hP hw hK
    obtain ⟨xs, x, hq, hx⟩ := hg
    obtain ⟨its, rv, p, hz⟩ := I.list hq
    obtain ⟨u, hu, ru⟩ := rv.get hx
    obtain ⟨f0, f1, f2, f3, f4, f5⟩ := hf it (by simp)
    refine wpAny_pyNext_list_item st p.isList (x := u) (by simpa using hu) fun h' st' sb => ?_
    have I1 : Inv X pins σ H { s with heap := h' } := I.turned (t' := s.toks) (fun b o hb e => (sb.2 b hb).trans e) f0 f1 f3 f4 f5
    obtain ⟨o, e, c, d⟩ := id st'
    exact ⟨u, rfl, go_of (s := { s with heap := h' }) e c d (by decide) ⟨x, H, I1, ru, ⟨rfl, fun ys hy => by rw [I.list_inj hy hq]; exact hx⟩, st', fun b hb => (hf b hb).1⟩⟩
  done := by
    intro X hP hw hK hc i pins s σ H E I hf st hg
    subst hP hw hK
    obtain ⟨xs, hq, hx⟩ := hg
    obtain ⟨its, rv, p, hz⟩ := I.list hq
    obtain ⟨f0, f1, f2, f3, f4, f5⟩ := hf it (by simp)
    have hl := rv.length
    exact wpAny_pyNext_list_end (I.ok.hd hc) st p.isList (by simp; omega) fun h' eb => ⟨rfl, I.turned (t' := s.toks) (fun b o hb e => eb b o hb e) f0 f1 f3 f4 f5⟩
  self := fun _ _ _ _ _ st h => wpAny_pyIter_listiter st h
theorem turn_range {P : Program} {w : World} {K : PySem.W.Frag} {tg : Expr} (it : Addr) (lo : Int) (n : Nat) : Turn P w K tg (Itr lo n) [it] it (fun i h => IsRangeIter h it (lo + (i : Nat) * 1) ((n : Int) - (i : Nat)) 1) where
  mem := by simp
  obj := fun i h st b hb => by
    have e : b = it := by simpa using hb
    subst e
    exact ⟨_, st, fun v z => by
      have z' : Data.fields _ = Data.cell v := z
      cases z'⟩
  keep := fun i h h' st k => k it (by simp) _ st
  item := by
    intro X hP hw hK hc i pins s σ H E I hf st hg
    subst hP hw hK
    obtain ⟨f0, f1, f2, f3, f4, f5⟩ := hf it (by simp)
    have W := Walks.range (prog := X.prog) (w := X.w) (I.ok.hd hc) it lo 1 n
    refine W.item i s _ _ hg st fun v h' tk hv st' kk => ?_
    obtain ⟨t, rfl⟩ := hv
    have I1 : Inv X pins σ H { s with heap := h', toks := tk } := I.turned (fun b o hb e => kk b o (by simpa using hb) e) f0 f1 f3 f4 f5
    refine ⟨_, rfl, go_of (s := { s with heap := h', toks := tk }) (n := "range_iterator") st' rfl rfl (by decide) ⟨.int (lo + i), H, I1, ⟨t, ?_⟩, ⟨rfl, rfl⟩, st', fun b hb => (hf b hb).1⟩⟩
    rw [Int.mul_one]
  done := by
    intro X hP hw hK hc i pins s σ H E I hf st hg
    subst hP hw hK
    obtain ⟨f0, f1, f2, f3, f4, f5⟩ := hf it (by simp)
    exact wpAny_pyNext_range_end (I.ok.hd hc) st (by have : n ≤ i := hg; omega) fun h' eb => ⟨rfl, I.turned (t' := s.toks) (fun b o hb e => eb b o hb e) f0 f1 f3 f4 f5⟩
  self := fun _ _ _ _ _ st h => wpAny_pyIter_rangeiter st h
end L2

namespace L2
open PySem PySem.Spec PyProof.Rows
section
variable {X : Cx} {tg : Expr}
def iList (K : PySem.W.Frag) (tl : TE) : TI := fun σ H R => tl σ H fun x H1 => ∃ a, x = .ref a ∧ (∃ xs, SqL K H1 a xs) ∧ R (Itl K a) H1
theorem pi_list {l : Expr} {tl : TE} (hl : PE X l tl) : PI X tg l (iList X.K tl) := by
  intro pins s σ H R I h
  refine thn (hl pins s σ H _ I h) fun v s1 ⟨x, H1, I1, r1, q1⟩ => ?_
  obtain ⟨a, e, ⟨xs, hq⟩, q⟩ := q1
  subst e
  cases r1
  obtain ⟨its, rv, p, hz⟩ := I1.list hq
  refine wpAny_pyIter_list p.isList ?_
  refine ⟨s1.heap.objs.size, [s1.heap.objs.size], _, _, H1, rfl, I1.kept (t' := s1.toks) fun b o e => Heap.get?_push_of_some _ e, turn_list a _, ⟨_, Heap.get?_push_size _ rfl, rfl, rfl⟩, fun b hb => ?_, q⟩
  have e : b = s1.heap.objs.size := by simpa using hb
  subst e
  exact I1.fpOk (Nat.le_refl _) (I1.hok.fresh (Nat.le_refl _))
/-- a range object just made, walked -/
theorem range_it {pins : List (Addr × Obj)} {σ : St} {H : Hp} {s : Shared} {R : It → Hp → Prop} {E : Value → Shared → Prop} {lo hi : Int} {t u v : Tok} {tk : Nat} (I : Inv X pins σ H s) (h1 : -(2 ^ 62) ≤ lo) (h2 : lo < 2 ^ 62) (h3 : -(2 ^ 62) ≤ hi) (h4 : hi < 2 ^ 62)
    (q : R (Itr lo (hi - lo).toNat) H) : wpAny (model X.prog X.w) X.A (pyIter (.ref s.heap.objs.size)) (PIE X pins σ tg R) E { s with heap := s.heap.push { cls := .type "range", data := .fields #[.int lo t, .int hi u, .int 1 v] }, toks := tk } := by
  refine wpAny_pyIter_range (IsRange.new ..) (small_one h1 h2 h3 h4) ?_
  have I1 : Inv X pins σ H { s with heap := s.heap.push { cls := .type "range", data := .fields #[.int lo t, .int hi u, .int 1 v] }, toks := tk } := I.kept fun b o e => Heap.get?_push_of_some _ e
  refine ⟨(s.heap.push { cls := .type "range", data := .fields #[.int lo t, .int hi u, .int 1 v] }).objs.size, [(s.heap.push { cls := .type "range", data := .fields #[.int lo t, .int hi u, .int 1 v] }).objs.size], _, _, H, rfl,
    I1.kept (t' := tk) fun b o e => Heap.get?_push_of_some _ e, turn_range _ lo (hi - lo).toNat, ?_, fun b hb => ?_, q⟩
  · have e1 : lo + ((0 : Nat) : Int) * 1 = lo := by simp
    have e2 : (((hi - lo).toNat : Nat) : Int) - ((0 : Nat) : Int) = Builtin.Range.rangeSize lo hi 1 := by rw [rangeSize_one]; split <;> omega
    show IsRangeIter _ _ (lo + ((0 : Nat) : Int) * 1) ((((hi - lo).toNat : Nat) : Int) - ((0 : Nat) : Int)) 1
    rw [e1, e2]
    exact Heap.get?_push_size _ rfl
  · have e : b = (s.heap.push { cls := .type "range", data := .fields #[.int lo t, .int hi u, .int 1 v] }).objs.size := by simpa using hb
    subst e
    exact I1.fpOk (Nat.le_refl _) (I1.hok.fresh (Nat.le_refl _))
def iRng1 (ta : TA) : TI := fun σ H R => ta σ H fun vs H1 => ∃ j : Int, vs = [.int j] ∧ -(2 ^ 62) ≤ j ∧ j < 2 ^ 62 ∧ R (Itr 0 j.toNat) H1
def iRng2 (ta : TA) : TI := fun σ H R => ta σ H fun vs H1 => ∃ i j : Int, vs = [.int i, .int j] ∧ (-(2 ^ 62) ≤ i ∧ i < 2 ^ 62 ∧ -(2 ^ 62) ≤ j ∧ j < 2 ^ 62) ∧ R (Itr i (j - i).toNat) H1
theorem pi_range1 {a : Expr} {ta : TA} {p pos : Pos} (hg : Gl X "range") (hm : X.mg "range" = none) (ha : PA X [a] ta) (hs : starEach [a] X.env = [(false, eval a X.env)] := by rfl) : PI X tg (.Call (.Name "range" p) [a] [] pos) (iRng1 ta) := by
  intro pins s σ H R I h
  refine Call_ (ld_blt I hg hm boot_range (PyProof.Rows.callWith_type1 (thn (ha pos pins s σ H _ I h) fun us s1 ⟨vs, H1, I1, r1, q1⟩ => ?_) hs rfl))
  obtain ⟨j, e, q1, q2, q⟩ := q1
  subst e
  cases r1 with
  | cons r rr =>
    cases rr
    obtain ⟨t, rfl⟩ := r
    exact call_range_1 (range_it I1 (by omega) (by omega) q1 q2 (by simpa using q))
theorem pi_range2 {a b : Expr} {ta : TA} {p pos : Pos} (hg : Gl X "range") (hm : X.mg "range" = none) (ha : PA X [a, b] ta) (hs : starEach [a, b] X.env = [(false, eval a X.env), (false, eval b X.env)] := by rfl) (hs2 : starEach [b] X.env = [(false, eval b X.env)] := by rfl) :
    PI X tg (.Call (.Name "range" p) [a, b] [] pos) (iRng2 ta) := by
  intro pins s σ H R I h
  refine Call_ (ld_blt I hg hm boot_range (PyProof.Rows.callWith_type1 (thn (ha pos pins s σ H _ I h) fun us s1 ⟨vs, H1, I1, r1, q1⟩ => ?_) (by rw [hs, hs2]) (by rw [hs2]; rfl)))
  obtain ⟨i, j, e, ⟨q1, q2, q3, q4⟩, q⟩ := q1
  subst e
  cases r1 with
  | cons r rr =>
    cases rr with
    | cons r' rr =>
      cases rr
      obtain ⟨t, rfl⟩ := r
      obtain ⟨t', rfl⟩ := r'
      exact call_range_2 (range_it I1 q1 q2 q3 q4 q)

/-! ### for -/
/-- W: the invariant by the turn and a measure; N: what the body is to reach -/
def tFor (wi : TI) (g : TG) (tb : TS) : TS := fun D σ H => wi σ H fun J H1 => ∃ W : Nat → Nat → St → Hp → Prop, (∃ m, W 0 m σ H1) ∧ ∀ i m σ H, W i m σ H →
  (J.stop i H ∧ D.nx σ H) ∨ (J.go i H ∧ ∃ N : St → Hp → Prop, (∀ σ' H', N σ' H' → ∃ m', m' < m ∧ W (i + 1) m' σ' H') ∧ ∀ x H', J.yld i H x H' → g x σ H' fun σ2 H2 => tb { D with nx := N, ct := N, bk := D.nx } σ2 H2)
/-- the records at fp as they stand -/
def pinsAt (fp : List Addr) (h : Heap) : List (Addr × Obj) := fp.filterMap fun b => (h.get? b).map fun o => (b, o)
theorem mem_pinsAt {fp : List Addr} {h : Heap} {b : Addr} {o : Obj} (hb : b ∈ fp) (e : h.get? b = some o) : (b, o) ∈ pinsAt fp h := List.mem_filterMap.mpr ⟨b, hb, by rw [e]; rfl⟩
theorem of_pinsAt {fp : List Addr} {h : Heap} {p : Addr × Obj} (hp : p ∈ pinsAt fp h) : p.1 ∈ fp ∧ h.get? p.1 = some p.2 := by
  obtain ⟨b, hb, e⟩ := List.mem_filterMap.mp hp
  cases q : h.get? b with
  | none => rw [q] at e; cases e
  | some o =>
    rw [q] at e
    have e' : (b, o) = p := Option.some.inj e
    subst e'
    exact ⟨hb, q⟩
theorem Inv.pinned {pins : List (Addr × Obj)} {σ : St} {H : Hp} {s : Shared} {fp : List Addr} (I : Inv X pins σ H s) (hf : ∀ b ∈ fp, FpOk X pins H b) (ho : ∀ b ∈ fp, ∃ o, s.heap.get? b = some o ∧ ∀ v, o.data ≠ .cell v) : Inv X (pins ++ pinsAt fp s.heap) σ H s :=
  I.pins_of fun p hp => (List.mem_append.mp hp).elim (fun z => I.pin p (List.mem_append_right _ z)) fun z => by
    obtain ⟨hb, e⟩ := of_pinsAt z
    obtain ⟨f0, f1, f2, _⟩ := hf p.1 hb
    obtain ⟨o, e', d⟩ := ho p.1 hb
    rw [e] at e'; cases e'
    exact ⟨e, f0, f1, f2, d⟩
theorem Inv.unpinned {pins pl : List (Addr × Obj)} {σ : St} {H : Hp} {s : Shared} (I : Inv X (pins ++ pl) σ H s) : Inv X pins σ H s := I.pins_of fun p hp => I.pin p (List.mem_append_right _ (List.mem_append_left _ hp))
theorem ps_for {iter : Expr} {body : List Stmt} {wi : TI} {g : TG} {tb : TS} {pos : Pos} (hp : PassesOwn (model X.prog X.w) X.A X.env X.xe) (hc : X.calm = true) (hi : PI X tg iter wi) (hg : PG X tg g) (hb : PSs X body tb)
    (hs : ∀ x, foldedSetIterable iter X.env x = pure x := by intro _; rfl) : PS X (.For tg iter body [] pos) (tFor wi g tb) := by
  intro pins s σ H D I h
  refine wpAny_For (thn (hi pins s σ H _ I h) fun v s1 h1 => thn h1 fun itv s2 h2 => ?_) hs
  obtain ⟨it, fp, tn, J, H2, e, I2, T, st2, f2, W, ⟨m0, w0⟩, turn⟩ := h2
  subst e
  -- what stays true of the iterator's objects through the loop
  have stat : ∀ {H' : Hp}, (∀ b ∈ fp, H' b = none) → ∀ b ∈ fp, FpOk X pins H' b := fun hn b hb => ⟨hn b hb, (f2 b hb).2⟩
  refine codeAny_forLoop_any (fun n s' => ∃ i σ' H', Inv X pins σ' H' s' ∧ tn i s'.heap ∧ (∀ b ∈ fp, H' b = none) ∧ W i n σ' H') ?_ m0 ⟨0, σ, H2, I2, st2, fun b hb => (f2 b hb).1, w0⟩
  rintro n s3 ⟨i, σ3, H3, I3, st3, fr3, w3⟩
  rcases turn i n σ3 H3 w3 with ⟨stop, qn⟩ | ⟨go, N, hN, step⟩
  · refine wpAny_passesOwn hp (thn (T.done X rfl rfl rfl hc i pins s3 σ3 H3 X.xe I3 (stat fr3) st3 stop) fun r s4 ⟨hr, I4⟩ => ?_)
    subst hr
    exact wpAny_execs_nil ⟨σ3, H3, I4, qn⟩
  · refine wpAny_passesOwn hp (thn (T.item X rfl rfl rfl hc i pins s3 σ3 H3 X.xe I3 (stat fr3) st3 go) fun r s4 ⟨u, hr, h4⟩ => ?_)
    subst hr
    refine wpAny_passesOwn hp (thn h4 fun _ s5 ⟨x, H5, I5, r5, y5, st5, fr5⟩ => ?_)
    have I5' := I5.pinned (stat fr5) (T.obj _ _ st5)
    refine wpAny_passesOwn hp (thn (hg _ s5 σ3 H5 x u _ I5' r5 (step x H5 y5)) fun _ s6 ⟨σ6, H6, I6, q6⟩ => ?_)
    refine wpAny_passesOwn hp (thn (hb _ s6 σ6 H6 _ I6 q6) fun f s7 q7 => ?_)
    have again : ∀ {σ7 : St} {H7 : Hp}, Inv X (pins ++ pinsAt fp s5.heap) σ7 H7 s7 → N σ7 H7 → ∃ m, m < n ∧ ∃ i σ' H', Inv X pins σ' H' s7 ∧ tn i s7.heap ∧ (∀ b ∈ fp, H' b = none) ∧ W i m σ' H' := fun {σ7 H7} I7 n7 => by
      obtain ⟨m', hm, w7⟩ := hN σ7 H7 n7
      refine ⟨m', hm, i + 1, σ7, H7, I7.unpinned, T.keep _ _ _ st5 fun b hb o e => (I7.pin (b, o) (List.mem_append_right _ (List.mem_append_right _ (mem_pinsAt hb e)))).1, fun b hb => ?_, w7⟩
      obtain ⟨o, e, d⟩ := T.obj _ _ st5 b hb
      exact (I7.pin (b, o) (List.mem_append_right _ (List.mem_append_right _ (mem_pinsAt hb e)))).2.1
    cases f with
    | next => obtain ⟨σ7, H7, I7, n7⟩ := q7; exact again I7 n7
    | cont => obtain ⟨σ7, H7, I7, n7⟩ := q7; exact again I7 n7
    | brk => obtain ⟨σ7, H7, I7, q7⟩ := q7; exact ⟨σ7, H7, I7.unpinned, q7⟩
    | ret v => obtain ⟨x7, σ7, H7, I7, r7, q7⟩ := q7; exact ⟨x7, σ7, H7, I7.unpinned, r7, q7⟩
end

/-! ### the forms one uses -/
/-- over a list that the body leaves as it is -/
theorem for_list {K : PySem.W.Frag} {a : Addr} {xs : List V} {g : TG} {tb : TS} {D : Ends} {σ : St} {H : Hp} (Pv : Nat → St → Hp → Prop) (h0 : Pv 0 σ H) (hl : ∀ i σ H, i ≤ xs.length → Pv i σ H → SqL K H a xs)
    (hs : ∀ i x σ H, xs[i]? = some x → Pv i σ H → g x σ H fun σ2 H2 => tb { D with nx := Pv (i + 1), ct := Pv (i + 1), bk := D.nx } σ2 H2) (hd : ∀ σ H, Pv xs.length σ H → D.nx σ H) :
    ∃ W : Nat → Nat → St → Hp → Prop, (∃ m, W 0 m σ H) ∧ ∀ i m σ H, W i m σ H →
      ((Itl K a).stop i H ∧ D.nx σ H) ∨ ((Itl K a).go i H ∧ ∃ N : St → Hp → Prop, (∀ σ' H', N σ' H' → ∃ m', m' < m ∧ W (i + 1) m' σ' H') ∧ ∀ x H', (Itl K a).yld i H x H' → g x σ H' fun σ2 H2 => tb { D with nx := N, ct := N, bk := D.nx } σ2 H2) := by
  refine ⟨fun i m σ H => m = xs.length - i ∧ i ≤ xs.length ∧ Pv i σ H, ⟨xs.length, by simp, Nat.zero_le _, h0⟩, ?_⟩
  rintro i m σ H ⟨rfl, hi, p⟩
  have q := hl i σ H hi p
  by_cases hlt : i < xs.length
  · refine .inr ⟨⟨xs, xs[i], q, by simp [hlt]⟩, Pv (i + 1), fun σ' H' p' => ⟨xs.length - (i + 1), by omega, rfl, hlt, p'⟩, fun x H' y => ?_⟩
    obtain ⟨e, y⟩ := y
    subst e
    exact hs i x σ _ (y xs q) p
  · have e : i = xs.length := by omega
    subst e
    exact .inl ⟨⟨xs, q, Nat.le_refl _⟩, hd σ H p⟩
theorem for_range {lo : Int} {n : Nat} {g : TG} {tb : TS} {D : Ends} {σ : St} {H : Hp} (Pv : Nat → St → Hp → Prop) (h0 : Pv 0 σ H)
    (hs : ∀ i σ H, i < n → Pv i σ H → g (.int (lo + i)) σ H fun σ2 H2 => tb { D with nx := Pv (i + 1), ct := Pv (i + 1), bk := D.nx } σ2 H2) (hd : ∀ σ H, Pv n σ H → D.nx σ H) :
    ∃ W : Nat → Nat → St → Hp → Prop, (∃ m, W 0 m σ H) ∧ ∀ i m σ H, W i m σ H →
      ((Itr lo n).stop i H ∧ D.nx σ H) ∨ ((Itr lo n).go i H ∧ ∃ N : St → Hp → Prop, (∀ σ' H', N σ' H' → ∃ m', m' < m ∧ W (i + 1) m' σ' H') ∧ ∀ x H', (Itr lo n).yld i H x H' → g x σ H' fun σ2 H2 => tb { D with nx := N, ct := N, bk := D.nx } σ2 H2) := by
  refine ⟨fun i m σ H => m = n - i ∧ i ≤ n ∧ Pv i σ H, ⟨n, by simp, Nat.zero_le _, h0⟩, ?_⟩
  rintro i m σ H ⟨rfl, hi, p⟩
  by_cases hlt : i < n
  · refine .inr ⟨hlt, Pv (i + 1), fun σ' H' p' => ⟨n - (i + 1), by omega, rfl, hlt, p'⟩, fun x H' y => ?_⟩
    obtain ⟨e, y⟩ := y
    subst e y
    exact hs i σ _ hlt p
  · have e : i = n := by omega
    subst e
    exact .inl ⟨Nat.le_refl _, hd σ H p⟩
end L2

namespace L2
open PySem PySem.Spec PyProof.Rows

abbrev R2 := V → V → Hp → VK → Prop
/-- a two-place operation on values: f is binaryOp op, inplaceOp op or compareOp op -/
def OpR (X : Cx) (f : Value → Value → Sem Value) (r : R2) : Prop :=
  ∀ (pins : List (Addr × Obj)) (s : Shared) (σ : St) (H : Hp) (x y : V) (v u : Value) (Q : VK), Inv X pins σ H s → RelV x v → RelV y u → r x y H Q →
    wpAny (model X.prog X.w) X.A (f v u) (EP X pins σ Q) X.xe s
/-- a one-place operation -/
def UnR (X : Cx) (f : Value → Sem Value) (r : V → Hp → VK → Prop) : Prop :=
  ∀ (pins : List (Addr × Obj)) (s : Shared) (σ : St) (H : Hp) (x : V) (v : Value) (Q : VK), Inv X pins σ H s → RelV x v → r x H Q →
    wpAny (model X.prog X.w) X.A (f v) (EP X pins σ Q) X.xe s
/-- a call of a value that is known (a builtin, a type) with values -/
def CallR (X : Cx) (f : Value) (r : List V → Hp → VK → Prop) : Prop :=
  ∀ (pins : List (Addr × Obj)) (s : Shared) (σ : St) (H : Hp) (xs : List V) (us : List Value) (Q : VK), Inv X pins σ H s → Vals xs us → r xs H Q →
    wpAny (model X.prog X.w) X.A (call f us) (EP X pins σ Q) X.xe s
def tOp (r : R2) (ta tb : TE) : TE := fun σ H Q => ta σ H fun x H1 => tb σ H1 fun y H2 => r x y H2 Q
def tUn (r : V → Hp → VK → Prop) (ta : TE) : TE := fun σ H Q => ta σ H fun x H1 => r x H1 Q
/-- ints in, under C, and a value out -/
def rI (C : Int → Int → Prop) (g : Int → Int → V) : R2 := fun x y H Q => ∃ i j, x = .int i ∧ y = .int j ∧ C i j ∧ Q (g i j) H
def rI0 (g : Int → Int → V) : R2 := fun x y H Q => ∃ i j, x = .int i ∧ y = .int j ∧ Q (g i j) H
def rU (g : Int → V) : V → Hp → VK → Prop := fun x H Q => ∃ i, x = .int i ∧ Q (g i) H

section
variable {X : Cx} {a b c : Expr} {ta tb tc : TE} {pos : Pos}

theorem binT (ha : PE X a ta) (hb : PE X b tb) {pins : List (Addr × Obj)} {s : Shared} {σ : St} {H : Hp} {R : V → V → Hp → Prop} (I : Inv X pins σ H s)
    (h : ta σ H fun x H1 => tb σ H1 fun y H2 => R x y H2) {Q : Value → Shared → Prop} {f : Value → Value → Sem Value}
    (hf : ∀ v u s2 x y H2, Inv X pins σ H2 s2 → RelV x v → RelV y u → R x y H2 → wpAny (model X.prog X.w) X.A (f v u) Q X.xe s2) :
    wpAny (model X.prog X.w) X.A (eval a X.env) (fun v s₁ => wpAny (model X.prog X.w) X.A (eval b X.env) (fun u s₂ => wpAny (model X.prog X.w) X.A (f v u) Q X.xe s₂) X.xe s₁) X.xe s := by
  refine thn (ha pins s σ H _ I h) fun v s1 ⟨x, H1, I1, r1, q1⟩ => ?_
  refine thn (hb pins s1 σ H1 _ I1 q1) fun u s2 ⟨y, H2, I2, r2, q2⟩ => ?_
  exact hf v u s2 x y H2 I2 r1 r2 q2

theorem pe_op {op : Operator} {r : R2} (ho : OpR X (binaryOp op) r) (ha : PE X a ta) (hb : PE X b tb) : PE X (.BinOp a op b pos) (tOp r ta tb) := by
  intro pins s σ H Q I h
  exact wpAny_BinOp (binT ha hb I h fun v u s2 x y H2 I2 rx ry q => ho pins s2 σ H2 x y v u Q I2 rx ry q)
theorem pe_un {op : UnaryOp} {r : V → Hp → VK → Prop} (ho : UnR X (unaryOp op) r) (ha : PE X a ta) : PE X (.UnaryOp op a pos) (tUn r ta) := by
  intro pins s σ H Q I h
  exact UnaryOp_ (thn (ha pins s σ H _ I h) fun v s1 ⟨x, H1, I1, r1, q1⟩ => ho pins s1 σ H1 x v Q I1 r1 q1)
/-! ### ints -/
theorem opI {f : Value → Value → Sem Value} {C : Int → Int → Prop} {g : Int → Int → Int}
    (rule : ∀ (i j : Int) (t u : Tok) (s : Shared) (Q : Value → Shared → Prop) (E : Value → Shared → Prop), C i j → Q (.int (g i j) s.toks) { s with toks := s.toks + 1 } → wpAny (model X.prog X.w) X.A (f (.int i t) (.int j u)) Q E s) :
    OpR X f (rI C fun i j => .int (g i j)) := by
  intro pins s σ H x y v u Q I rx ry h
  obtain ⟨i, j, rfl, rfl, hc, q⟩ := h
  obtain ⟨t, rfl⟩ := rx
  obtain ⟨t', rfl⟩ := ry
  exact rule i j t t' s _ _ hc ⟨.int (g i j), H, I.tok _, ⟨_, rfl⟩, q⟩
theorem opI0 {f : Value → Value → Sem Value} {g : Int → Int → Int}
    (rule : ∀ (i j : Int) (t u : Tok) (s : Shared) (Q : Value → Shared → Prop) (E : Value → Shared → Prop), Q (.int (g i j) s.toks) { s with toks := s.toks + 1 } → wpAny (model X.prog X.w) X.A (f (.int i t) (.int j u)) Q E s) :
    OpR X f (rI0 fun i j => .int (g i j)) := by
  intro pins s σ H x y v u Q I rx ry h
  obtain ⟨i, j, rfl, rfl, q⟩ := h
  obtain ⟨t, rfl⟩ := rx
  obtain ⟨t', rfl⟩ := ry
  exact rule i j t t' s _ _ ⟨.int (g i j), H, I.tok _, ⟨_, rfl⟩, q⟩
theorem opB0 {f : Value → Value → Sem Value} {g : Int → Int → Bool}
    (rule : ∀ (i j : Int) (t u : Tok) (s : Shared) (Q : Value → Shared → Prop) (E : Value → Shared → Prop), Q (.bool (g i j)) s → wpAny (model X.prog X.w) X.A (f (.int i t) (.int j u)) Q E s) :
    OpR X f (rI0 fun i j => .bl (g i j)) := by
  intro pins s σ H x y v u Q I rx ry h
  obtain ⟨i, j, rfl, rfl, q⟩ := h
  obtain ⟨t, rfl⟩ := rx
  obtain ⟨t', rfl⟩ := ry
  exact rule i j t t' s _ _ ⟨.bl (g i j), H, I, rfl, q⟩

def CDiv (i j : Int) : Prop := 0 < j ∧ j < 1073741824
def CPow (i j : Int) : Prop := 0 ≤ j ∧ j ≤ 1000000 ∧ i.natAbs < 2 ^ 64
def CMul (i j : Int) : Prop := (-(2 ^ 64) < i ∧ i < 2 ^ 64) ∨ (-(2 ^ 64) < j ∧ j < 2 ^ 64)
theorem CMul.ok {i j : Int} (h : CMul i j) : IntMulOk i j := by
  rcases h with ⟨h1, h2⟩ | ⟨h1, h2⟩
  · exact .of_left (intBits_le_64 h1 h2)
  · exact .of_right (intBits_le_64 h1 h2)
theorem op_add : OpR X (binaryOp .Add) (rI0 fun i j => .int (i + j)) := opI0 fun _ _ _ _ _ _ _ q => add_int q
theorem op_sub : OpR X (binaryOp .Sub) (rI0 fun i j => .int (i - j)) := opI0 fun _ _ _ _ _ _ _ q => sub_int q
theorem op_mul : OpR X (binaryOp .Mult) (rI CMul fun i j => .int (i * j)) := opI fun _ _ _ _ _ _ _ hc q => mul_int q hc.ok
/-- // by a positive divisor -/
theorem op_fdiv : OpR X (binaryOp .FloorDiv) (rI CDiv fun i j => .int (i / j)) := opI fun i j _ _ _ _ _ hc q => by
  have h1 : (0 : Int) < j := hc.1
  have h2 : j < 1073741824 := hc.2
  exact floordiv_int (by omega) (by rw [Int.fdiv_eq_ediv_of_nonneg i (by omega)]; exact q) (.inl (PyProof.noPylong_small (by omega)))
/-- % by a positive divisor of any size -/
theorem op_mod : OpR X (binaryOp .Mod) (rI (fun _ j => 0 < j) fun i j => .int (i % j)) := opI fun i j _ _ _ _ _ hc q => by
  have h1 : (0 : Int) < j := hc
  exact mod_int' (by omega) (by rw [Int.fmod_eq_emod_of_nonneg i (by omega)]; exact q)
theorem op_pow : OpR X (binaryOp .Pow) (rI CPow fun i j => .int (i ^ j.toNat)) := opI fun _ _ _ _ _ _ _ hc q => pow_int_small hc.1 hc.2.1 hc.2.2 q
theorem unI {f : Value → Sem Value} {g : Int → Int}
    (rule : ∀ (i : Int) (t : Tok) (s : Shared) (Q : Value → Shared → Prop) (E : Value → Shared → Prop), Q (.int (g i) s.toks) { s with toks := s.toks + 1 } → wpAny (model X.prog X.w) X.A (f (.int i t)) Q E s) :
    UnR X f (rU fun i => .int (g i)) := by
  intro pins s σ H x v Q I rx h
  obtain ⟨i, rfl, q⟩ := h
  obtain ⟨t, rfl⟩ := rx
  exact rule i t s _ _ ⟨.int (g i), H, I.tok _, ⟨_, rfl⟩, q⟩
theorem un_neg : UnR X (unaryOp .USub) (rU fun i => .int (-i)) := unI fun _ _ _ _ _ q => neg_int q
end

/-! ### comparisons -/
/-- the scalars that == tells apart as data does -/
def scal : V → V → Bool
  | .non, .non => true | .non, .int _ => true | .int _, .non => true | .non, .bl _ => true | .bl _, .non => true | .non, .str _ => true | .str _, .non => true
  | .int _, .int _ => true | .bl _, .bl _ => true | .str _, .str _ => true | .byt _, .byt _ => true
  | .int _, .str _ => true | .str _, .int _ => true | .bl _, .str _ => true | .str _, .bl _ => true
  | _, _ => false
def rEq : R2 := fun x y H Q => scal x y = true ∧ Q (.bl (decide (x = y))) H
def rNe : R2 := fun x y H Q => scal x y = true ∧ Q (.bl (!decide (x = y))) H

theorem dec_int {i j : Int} : decide (V.int i = V.int j) = (i == j) := by
  rw [Bool.eq_iff_iff]
  simp
theorem dec_bl {i j : Bool} : decide (V.bl i = V.bl j) = (i == j) := by
  rw [Bool.eq_iff_iff]
  simp
theorem dec_str {i j : Str} : decide (V.str i = V.str j) = (i == j) := by
  rw [Bool.eq_iff_iff]
  simp
theorem dec_byt {i j : Array UInt8} : decide (V.byt i = V.byt j) = (i.toList == j.toList) := by
  rw [Bool.eq_iff_iff]
  cases i
  cases j
  simp

section
variable {X : Cx} {a b c : Expr} {ta tb tc : TE} {pos : Pos}
theorem fin_bl {pins : List (Addr × Obj)} {σ : St} {H : Hp} {s : Shared} {Q : VK} {k k' : Bool} (I : Inv X pins σ H s) (q : Q (.bl k) H) (e : k = k') : EP X pins σ Q (.bool k') s := by
  subst e
  exact ⟨.bl k, H, I, rfl, q⟩
theorem op_eq : OpR X (compareOp .Eq) rEq := by
  intro pins s σ H x y v u Q I rx ry h
  obtain ⟨hs, q⟩ := h
  cases x with
  | non =>
    cases rx
    cases y with
    | non => cases ry; exact PySem.EqNone.eq_none_none (fin_bl I q (by simp))
    | bl j => cases ry; exact PySem.EqNone.eq_none_bool (fin_bl I q (by simp))
    | int j => obtain ⟨t', rfl⟩ := ry; exact PySem.EqNone.eq_none_int (fin_bl I q (by simp))
    | str j => obtain ⟨t', rfl⟩ := ry; exact PySem.EqNone.eq_none_str (fin_bl I q (by simp))
    | _ => exact absurd (show false = true from hs) Bool.false_ne_true
  | bl i =>
    cases rx
    cases y with
    | non => cases ry; exact PySem.EqNone.eq_bool_none (fin_bl I q (by simp))
    | bl j => cases ry; exact eq_bool (fin_bl I q dec_bl)
    | str j => obtain ⟨t', rfl⟩ := ry; exact PySem.EqMixed.eq_bool_str (fin_bl I q (by simp))
    | _ => exact absurd (show false = true from hs) Bool.false_ne_true
  | int i =>
    obtain ⟨t, rfl⟩ := rx
    cases y with
    | non => cases ry; exact PySem.EqNone.eq_int_none (fin_bl I q (by simp))
    | int j => obtain ⟨t', rfl⟩ := ry; exact eq_int (fin_bl I q dec_int)
    | str j => obtain ⟨t', rfl⟩ := ry; exact PySem.EqMixed.eq_int_str (fin_bl I q (by simp))
    | _ => exact absurd (show false = true from hs) Bool.false_ne_true
  | str i =>
    obtain ⟨t, rfl⟩ := rx
    cases y with
    | non => cases ry; exact PySem.EqNone.eq_str_none (fin_bl I q (by simp))
    | bl j => cases ry; exact PySem.EqMixed.eq_str_bool (fin_bl I q (by simp))
    | int j => obtain ⟨t', rfl⟩ := ry; exact PySem.EqMixed.eq_str_int (fin_bl I q (by simp))
    | str j => obtain ⟨t', rfl⟩ := ry; exact eq_str (fin_bl I q dec_str)
    | _ => exact absurd (show false = true from hs) Bool.false_ne_true
  | byt i =>
    obtain ⟨t, rfl⟩ := rx
    cases y with
    | byt j => obtain ⟨t', rfl⟩ := ry; exact PySem.W.eq_bytes (fin_bl I q dec_byt)
    | _ => exact absurd (show false = true from hs) Bool.false_ne_true
  | _ => cases y <;> exact absurd (show false = true from hs) Bool.false_ne_true
theorem op_ne : OpR X (compareOp .NotEq) rNe := by
  intro pins s σ H x y v u Q I rx ry h
  obtain ⟨hs, q⟩ := h
  cases x with
  | non =>
    cases rx
    cases y with
    | non => cases ry; exact PySem.EqNone.ne_none_none (fin_bl I q (by simp))
    | bl j => cases ry; exact PySem.EqNone.ne_none_bool (fin_bl I q (by simp))
    | int j => obtain ⟨t', rfl⟩ := ry; exact PySem.EqNone.ne_none_int (fin_bl I q (by simp))
    | str j => obtain ⟨t', rfl⟩ := ry; exact PySem.EqNone.ne_none_str (fin_bl I q (by simp))
    | _ => exact absurd (show false = true from hs) Bool.false_ne_true
  | bl i =>
    cases rx
    cases y with
    | non => cases ry; exact PySem.EqNone.ne_bool_none (fin_bl I q (by simp))
    | bl j => cases ry; exact ne_bool (fin_bl I q (congrArg not dec_bl))
    | str j => obtain ⟨t', rfl⟩ := ry; exact PySem.EqMixed.ne_bool_str (fin_bl I q (by simp))
    | _ => exact absurd (show false = true from hs) Bool.false_ne_true
  | int i =>
    obtain ⟨t, rfl⟩ := rx
    cases y with
    | non => cases ry; exact PySem.EqNone.ne_int_none (fin_bl I q (by simp))
    | int j => obtain ⟨t', rfl⟩ := ry; exact ne_int (fin_bl I q (congrArg not dec_int))
    | str j => obtain ⟨t', rfl⟩ := ry; exact PySem.EqMixed.ne_int_str (fin_bl I q (by simp))
    | _ => exact absurd (show false = true from hs) Bool.false_ne_true
  | str i =>
    obtain ⟨t, rfl⟩ := rx
    cases y with
    | non => cases ry; exact PySem.EqNone.ne_str_none (fin_bl I q (by simp))
    | bl j => cases ry; exact PySem.EqMixed.ne_str_bool (fin_bl I q (by simp))
    | int j => obtain ⟨t', rfl⟩ := ry; exact PySem.EqMixed.ne_str_int (fin_bl I q (by simp))
    | str j => obtain ⟨t', rfl⟩ := ry; exact ne_str (fin_bl I q (congrArg not dec_str))
    | _ => exact absurd (show false = true from hs) Bool.false_ne_true
  | byt i =>
    obtain ⟨t, rfl⟩ := rx
    cases y with
    | byt j => obtain ⟨t', rfl⟩ := ry; exact PySem.W.ne_bytes (fin_bl I q (congrArg not dec_byt))
    | _ => exact absurd (show false = true from hs) Bool.false_ne_true
  | _ => cases y <;> exact absurd (show false = true from hs) Bool.false_ne_true

theorem op_lt : OpR X (compareOp .Lt) (rI0 fun i j => .bl (decide (i < j))) := opB0 fun _ _ _ _ _ _ _ q => lt_int q
theorem op_gt : OpR X (compareOp .Gt) (rI0 fun i j => .bl (decide (j < i))) := opB0 fun _ _ _ _ _ _ _ q => gt_int q
theorem op_ge : OpR X (compareOp .GtE) (rI0 fun i j => .bl (decide (j ≤ i))) := opB0 fun _ _ _ _ _ _ _ q => ge_int q
/-- the one string within the other -/
theorem op_in_str : OpR X (compareOp .In) (fun x y H Q => ∃ i j, x = .str i ∧ y = .str j ∧ Q (.bl (!(Builtin.Str.occurrences j i 0 j.length 1).isEmpty)) H) := by
  intro pins s σ H x y v u Q I rx ry h
  obtain ⟨i, j, rfl, rfl, q⟩ := h
  obtain ⟨t, rfl⟩ := rx
  obtain ⟨t', rfl⟩ := ry
  exact in_str (fin_bl I q rfl)

theorem nomark (b : Expr) {op : CmpOp} (h : op ≠ .In := by decide) (h2 : op ≠ .NotIn := by decide) : behindInMarks op b = false := by
  have e1 : (op == CmpOp.In) = false := by cases op <;> first | rfl | exact absurd rfl h
  have e2 : (op == CmpOp.NotIn) = false := by cases op <;> first | rfl | exact absurd rfl h2
  cases b <;> simp [behindInMarks, e1, e2]
/-- a comparison as a value; hm: nomark b, or (for in, not in) by with_unfolding_all rfl -/
theorem pe_cmpR {op : CmpOp} {r : R2} (ho : OpR X (compareOp op) r) (ha : PE X a ta) (hb : PE X b tb) (hm : behindInMarks op b = false) : PE X (.Compare a [op] [b] pos) (tOp r ta tb) := by
  intro pins s σ H Q I h
  exact wpAny_Compare1 (binT ha hb I h fun v u s2 x y H2 I2 rx ry q => ho pins s2 σ H2 x y v u Q I2 rx ry q) hm
/-- a reading of a value as a test -/
def tTest (t : TE) : TT := fun σ H Q => t σ H fun x H' => ∃ k, x = .bl k ∧ Q k H'
theorem pt_cmpR {op : CmpOp} {r : R2} (ho : OpR X (compareOp op) r) (ha : PE X a ta) (hb : PE X b tb) (hm : behindInMarks op b = false) : PT X (.Compare a [op] [b] pos) (tTest (tOp r ta tb)) := by
  intro pins s σ H Q I h
  refine wpAny_isTrue_Compare1 (thn (ha pins s σ H _ I h) fun v s1 ⟨x, H1, I1, r1, q1⟩ => thn (hb pins s1 σ H1 _ I1 q1) fun u s2 ⟨y, H2, I2, r2, q2⟩ =>
    thn (ho pins s2 σ H2 x y v u _ I2 r1 r2 q2) fun c s3 ⟨z, H3, I3, r3, k, e, q3⟩ => ?_) hm
  subst e
  cases r3
  exact wpAny_truthy_bool ⟨H3, I3, q3⟩
theorem line63 : (sizeLine : Nat) < 2 ^ 63 := by rw [sizeLine_eq]; decide
/-! ### scalar builtins, by CallR -/
theorem vals1 {x : V} {us : List Value} (r : Vals [x] us) : ∃ u, us = [u] ∧ RelV x u := by
  cases r with
  | cons r1 r2 => cases r2; exact ⟨_, rfl, r1⟩
theorem vals2 {x y : V} {us : List Value} (r : Vals [x, y] us) : ∃ u w', us = [u, w'] ∧ RelV x u ∧ RelV y w' := by
  cases r with
  | cons r1 r2 =>
    cases r2 with
    | cons r3 r4 => cases r4; exact ⟨_, _, rfl, r1, r3⟩
theorem call_str_int : CallR X (.type "str") (fun xs H Q => ∃ i, xs = [.int i] ∧ i.natAbs.log2 < 1920 ∧ Q (.str (toString i)) H) := by
  intro pins s σ H xs us Q I r h
  obtain ⟨i, rfl, hz, q⟩ := h
  obtain ⟨u, rfl, t, rfl⟩ := vals1 r
  exact PySem.P.str_of_int hz ⟨.str _, H, I.tok _, ⟨_, rfl⟩, q⟩
end
end L2

namespace L2
open PySem PySem.Spec PyProof.Rows

section
variable {prog : Program} {w : World} {A : Around} {E : Value → Shared → Prop} {s : Shared} {K : PySem.W.Frag} {x dx C f : Addr} {mA : Str → Option Value} {name : Str} {v : Value}

end

section
variable {P : Program} {w : World} {H H' : Hp} {h h' : Heap} {a C dx : Addr} {fs fs' : List (Str × V)}
end

section
variable {X : Cx} {pins : List (Addr × Obj)} {σ : St} {H : Hp} {s : Shared} {a C dx : Addr} {fs : List (Str × V)} {f : Str} {v : V} {A : Around} {E : Value → Shared → Prop}

end

section
variable {X : Cx} {o e value : Expr} {f : Str} {pos pos' tpos : Pos} {ta tv : TE}
end

/-! ### isinstance -/
section
variable {X : Cx} {pins : List (Addr × Obj)} {σ : St} {H : Hp} {s : Shared} {A : Around} {E : Value → Shared → Prop} {Q : Value → Shared → Prop} {c : Value} {b : Bool}
end
end L2

namespace L2
open PySem PySem.Spec PyProof.Rows

/-! ### room -/
structure Room (k : Nat) (A : Around) : Prop where
  hd : A.handled = none
  dp : A.depth + 3 * k + 5 < recursionLimit
  un : A.units + 16 * k + 200 < cLine
theorem Room.mono {j k : Nat} {A : Around} (r : Room k A) (h : j ≤ k) : Room j A := ⟨r.hd, by have := r.dp; omega, by have := r.un; omega⟩
theorem Room.deeper {k : Nat} {A : Around} (r : Room (k + 1) A) (env : Env) : Room k (A.deeper env) :=
  ⟨r.hd, by have := r.dp; show A.depth + 1 + 3 * k + 5 < _; omega, by have := r.un; show A.units + 3 + 16 * k + 200 < _; omega⟩
theorem Room.depth {k : Nat} {A : Around} (r : Room k A) : A.depth < recursionLimit := by have := r.dp; omega
theorem Room.units {k : Nat} {A : Around} (r : Room k A) : A.units + 64 < cLine := by have := r.un; omega
/-! ### argument lists and displays -/
def tNil : TA := fun _ H Q => Q [] H
def tCons (ta : TE) (tr : TA) : TA := fun σ H Q => ta σ H fun x H1 => tr σ H1 fun xs H2 => Q (x :: xs) H2
section
variable {X : Cx} {e : Expr} {es : List Expr} {te : TE} {t : TA} {pos : Pos}
theorem pa_nil : PA X [] tNil := fun _ _ _ _ H Q I h => Calls.spliced_nil ⟨[], H, I, .nil, h⟩
theorem pa_cons (ha : PE X e te) (hr : PA X es t) (hs : starEach (e :: es) X.env = (false, eval e X.env) :: starEach es X.env := by rfl) : PA X (e :: es) (tCons te t) := by
  intro pos pins s σ H Q I h
  rw [hs]
  show wpAny _ _ (spliced ((false, eval e X.env) :: backTo pos (starEach es X.env))) _ _ s
  refine Calls.spliced_cons (thn (ha pins s σ H _ I h) fun u s1 ⟨x, H1, I1, r1, q1⟩ => ?_)
  exact thn (hr pos pins s1 σ H1 _ I1 q1) fun us s2 ⟨xs, H2, I2, r2, q2⟩ => ⟨x :: xs, H2, I2, .cons r1 r2, q2⟩

/-- a tuple, a list of written items -/
def tTup (t : TA) : TE := fun σ H Q => t σ H fun xs H1 => xs.length ≤ sizeLine ∧ ∀ p, H1 p = none → Q (.ref p) (upd H1 p (.tup xs))
def tLst (t : TA) : TE := fun σ H Q => t σ H fun xs H1 => xs.length ≤ sizeLine ∧ ∀ p, H1 p = none → Q (.ref p) (upd H1 p (.lst xs))
theorem pe_tup {x1} (h : PA X es t) : PE X (.Tuple es x1 pos) (tTup t) := by
  intro pins s σ H Q I hq
  refine wpAny_Tuple_spliced (thn (h pos pins s σ H _ I hq) fun us s1 ⟨xs, H1, I1, r, z, q⟩ => ⟨by rw [← r.length]; exact z, ?_⟩)
  have hf : H1 s1.heap.objs.size = none := I1.hok.fresh (Nat.le_refl _)
  refine ⟨.ref s1.heap.objs.size, upd H1 s1.heap.objs.size (.tup xs), I1.laid (t' := s1.toks) (fun b u e => Heap.get?_push_of_some _ e) (Nat.le_refl _) ?_, rfl, q _ hf⟩
  exact ⟨z, us, r, ⟨_, Heap.get?_push_size _ rfl, rfl, _, rfl⟩⟩
theorem pe_lst (h : PA X es t) : PE X (.List es pos) (tLst t) := by
  intro pins s σ H Q I hq
  refine wpAny_List_spliced (thn (h pos pins s σ H _ I hq) fun us s1 ⟨xs, H1, I1, r, z, q⟩ => ⟨by rw [← r.length]; exact z, ?_⟩)
  have hf : H1 s1.heap.objs.size = none := I1.hok.fresh (Nat.le_refl _)
  refine ⟨.ref s1.heap.objs.size, upd H1 s1.heap.objs.size (.lst xs), I1.laid (t' := s1.toks) (fun b u e => Heap.get?_push_of_some _ e) (Nat.le_refl _) ?_, rfl, q _ hf⟩
  exact ⟨z, us, 0, r, Heap.get?_push_size _ rfl⟩
end

/-! ### what a def promises -/
/-- a def's promise: the bound arguments in the parameters' order, the heap, the wanted end, the wanted exception -/
abbrev Sp := List V → Hp → VK → XK → Prop
/-- how an exception lies behind a call (file 08 gives it): the callers' frames, abstract heap and state ahead of the call, the wish, the exception, the state -/
abbrev CXT := List Env → Hp → Shared → XK → Value → Shared → Prop

/-- the state at a call -/
structure Env0 (P : Program) (w : World) (K : PySem.W.Frag) (mg : Str → Option Value) (base : Heap) (A : Around) (outer : List Env) (s : Shared) (H : Hp) : Prop where
  frames : A.frames = some outer
  mod : Mod K mg base
  bs : ∀ b o, base.get? b = some o → s.heap.get? b = some o ∧ H b = none
  bsz : base.objs.size ≤ s.heap.objs.size
  funs : s.heap.FunFrames base outer
  frf : ∀ b ∈ frs outer, H b = none
  hok : HOk P w H s.heap
  bare : AllBare s.gens
/-- a call's end -/
def CE (outer : List Env) (P : Program) (w : World) (H : Hp) (s : Shared) (Q : VK) (u : Value) (s' : Shared) : Prop :=
  ∃ v H', s'.os = s.os ∧ AllBare s'.gens ∧ Un (frs outer) [] H H' s.heap s'.heap ∧ HOk P w H' s'.heap ∧ RelV v u ∧ Q v H'
def CR (CX : CXT) (outer : List Env) (P : Program) (w : World) (H : Hp) (s : Shared) (Q : VK) (E : XK) (r : Result) (s' : Shared) : Prop :=
  match r with
  | .ok (.ret u) => CE outer P w H s Q u s'
  | .ok _ => False
  | .error e => CX outer H s E e s'
structure FnOk (P : Program) (w : World) (K : PySem.W.Frag) (mg : Str → Option Value) (base : Heap) (CX : CXT) (k : Nat) (f : Addr) (fd : FuncData) (ps : List Str) (sp : Sp) : Prop where
  len : ∀ vs H Q E, sp vs H Q E → vs.length = ps.length
  run : ∀ (A : Around) (outer : List Env) (s : Shared) (H : Hp) (args : Args) (us : List Value) (vs : List V) (Q : VK) (E : XK), Room k A → Env0 P w K mg base A outer s H → BindsTo s fd args (ps.zip us) → Vals vs us → sp vs H Q E →
    codeAny (model P w) A (.call (.ref f) args) (CR CX outer P w H s Q E) s
section
variable {X : Cx} {pins : List (Addr × Obj)} {σ : St} {H : Hp} {s s' : Shared}
/-- from a body: what a callee wants -/
theorem Inv.env0 (I : Inv X pins σ H s) : Env0 X.prog X.w X.K X.mg X.base X.A X.stack s H :=
  ⟨I.ok.frames, I.ok.mod, I.bs, Nat.le_trans I.ok.bsz I.sz, I.stack, I.stkFree, I.hok, I.bare⟩
/-- behind a call -/
theorem Inv.after {Q : VK} {u : Value} (I : Inv X pins σ H s) (h : CE X.stack X.prog X.w H s Q u s') : EP X pins σ Q u s' := by
  obtain ⟨v, H', os, bare, un, hok, r, q⟩ := h
  obtain ⟨hh, g, d, t, os'⟩ := s'
  obtain rfl : os' = s.os := os
  exact ⟨v, H', I.call (h' := hh) (g' := g) (d' := d) (t' := t) (ch := []) un hok bare (fun b z => absurd z (by simp)), r, q⟩
end

/-! ### calls -/
/-- f(..): the written arguments, then the defaults dvs; E: what is wanted of an exception -/
def tCall (sp : Sp) (dvs : List V) (E : XK) (t : TA) : TE := fun σ H Q => t σ H fun vs H1 => sp (vs ++ dvs) H1 Q E
/-- how the parameters are bound: us the positional arguments, kw the keywords' values by name, ds the defaults that fill up -/
def Binds (K : PySem.W.Frag) (fd : FuncData) (ps : List Str) (ds : List Value) : Prop :=
  ∀ (s : Shared) (us : List Value), K.In s.heap → (us ++ ds).length = ps.length → BindsTo s fd ⟨us, []⟩ (ps.zip (us ++ ds))
/-- every parameter is given -/
theorem Binds.all {K : PySem.W.Frag} {fd : FuncData} {ps : List Str} (h : ∀ us : List Value, us.length = ps.length → bindArgs fd ⟨us, []⟩ = pure (ps.zip us)) : Binds K fd ps [] := fun s us _ hl => by
  rw [List.append_nil] at hl ⊢
  exact .of_eq (h us hl)

/-- an exception of a callee reaches what this body wants of exceptions -/
def Passes (CX : CXT) (X : Cx) (E : XK) : Prop := ∀ (pins : List (Addr × Obj)) (σ : St) (H : Hp) (s : Shared) (e : Value) (s' : Shared), Inv X pins σ H s → CX X.stack H s E e s' → X.xe e s'

section
variable {X : Cx} {CX : CXT} {k : Nat} {f C : Addr} {fd : FuncData} {ps : List Str} {sp : Sp} {dvs : List V} {ds : List Value} {E : XK} {x m : Str} {p pos apos : Pos} {e o : Expr} {es : List Expr} {ta : TE} {t : TA}

/-- the callee runs -/
theorem run_fn {pins : List (Addr × Obj)} {σ : St} {H : Hp} {s : Shared} {Q : VK} {us : List Value} {vs : List V} (F : FnOk X.prog X.w X.K X.mg X.base CX k f fd ps sp) (hr : Room k X.A) (hb : Binds X.K fd ps ds) (hd : Vals dvs ds) (hx : Passes CX X E)
    (I : Inv X pins σ H s) (r : Vals vs us) (h : sp (vs ++ dvs) H Q E) : wpAny (model X.prog X.w) X.A (call (.ref f) us) (EP X pins σ Q) X.xe s := by
  have r2 : Vals (vs ++ dvs) (us ++ ds) := r.append hd
  have hl : (us ++ ds).length = ps.length := by rw [← r2.length]; exact F.len _ _ _ _ h
  refine wpAny_call (codeAny_mono (F.run X.A X.stack s H ⟨us, []⟩ (us ++ ds) (vs ++ dvs) Q E hr I.env0 (hb s us I.kIn hl) r2 h) fun r s' hq => ?_)
  cases r with
  | error e => exact hx pins σ H s e s' I hq
  | ok fl =>
    cases fl with
    | ret u => exact I.after hq
    | next => exact False.elim hq
    | brk => exact False.elim hq
    | cont => exact False.elim hq

theorem pe_call (F : FnOk X.prog X.w X.K X.mg X.base CX k f fd ps sp) (hr : Room k X.A) (hg : Gl X x) (hm : X.mg x = some (.ref f)) (hk : PySem.W.keepIn X.K (.ref f) = true) (hb : Binds X.K fd ps ds) (hd : Vals dvs ds) (hx : Passes CX X E)
    (ha : PA X (e :: es) t) (hdb : (x == ("__debug__" : Str)) = false := by decide) (he : starEach (e :: es) X.env = (false, eval e X.env) :: starEach es X.env := by rfl) (hpl : (backTo pos (starEach es X.env)).any (·.1) = false := by rfl) :
    PE X (.Call (.Name x p) (e :: es) [] pos) (tCall sp dvs E t) := by
  intro pins s σ H Q I h
  refine wpAny_Call_Name_kw (ld_glob I hg hm ?_ hdb)
  refine PySem.W.callWith_K (h₀ := X.base) I.ok.mod.kin hk (thn (ha pos pins s σ H _ I h) fun us s1 ⟨vs, H1, I1, r, q⟩ => ⟨I1.kIn, ?_⟩) he hpl
  exact run_fn F hr hb hd hx I1 r q
end

section
variable {X : Cx} {CX : CXT} {k : Nat} {f C : Addr} {fd : FuncData} {ps ks : List Str} {sp : Sp} {E : XK} {x m : Str} {p pos apos kpos : Pos} {e o : Expr} {es : List Expr} {kws : List Keyword} {te ta : TE} {t tk : TA} {nm : Option Str}
variable {g : List Value → List Value → List Value} {gV : List V → List V → List V}
end

/-! ### a def's body keeps its promise -/
/-- names: the parameters first -/
structure FnScope (N P : List Str) (sc : Scope) : Prop where
  kind : sc.kind = .function
  co : sc.isCoroutine = false
  gen : sc.isGenerator = false
  nd : N.Nodup
  pre : N.take P.length = P
  par : ∀ x ∈ P, sc.names.lookup x = some .local ∨ sc.names.lookup x = some .cell
  nofree : ∀ y ∈ sc.names, y.2 ≠ .free

theorem bindL_out {kindOf : Str → Option NameKind} {x : Str} : ∀ {binds : List (Str × Value)} {m : Str → Option Value}, (∀ v, (x, v) ∉ binds) → bindL kindOf binds m x = m x
  | [], _, _ => rfl
  | (n, v) :: r, m, h => by
    unfold bindL
    rw [bindL_out fun w hw => h w (List.mem_cons_of_mem _ hw)]
    split
    · have : x ≠ n := by rintro rfl; exact h v List.mem_cons_self
      simp [this]
    · rfl
theorem bindC_out {kindOf : Str → Option NameKind} {x : Str} : ∀ {binds : List (Str × Value)} {m : Str → Option Value}, (∀ v, (x, v) ∉ binds) → bindC kindOf binds m x = m x
  | [], _, _ => rfl
  | (n, v) :: r, m, h => by
    unfold bindC
    rw [bindC_out fun w hw => h w (List.mem_cons_of_mem _ hw)]
    split
    · rfl
    · have : x ≠ n := by rintro rfl; exact h v List.mem_cons_self
      simp [this]
theorem bindL_get {kindOf : Str → Option NameKind} {x : Str} {v : Value} : ∀ {P : List Str} {vs : List Value} {i : Nat} {m : Str → Option Value}, P.Nodup → P[i]? = some x → vs[i]? = some v → kindOf x = some .local →
    bindL kindOf (P.zip vs) m x = some v
  | [], _, _, _, _, h, _, _ => by simp at h
  | _ :: _, [], _, _, _, _, h, _ => by simp at h
  | p :: P, w :: vs, 0, m, nd, h1, h2, hk => by
    simp at h1 h2; subst h1; subst h2
    show bindL kindOf ((p, w) :: P.zip vs) m p = _
    unfold bindL
    rw [bindL_out fun v hv => (List.nodup_cons.mp nd).1 (List.of_mem_zip hv).1, if_pos hk]
    simp
  | p :: P, w :: vs, i + 1, m, nd, h1, h2, hk => by
    show bindL kindOf ((p, w) :: P.zip vs) m x = _
    unfold bindL
    exact bindL_get (i := i) (List.nodup_cons.mp nd).2 (by simpa using h1) (by simpa using h2) hk
theorem bindC_get {kindOf : Str → Option NameKind} {x : Str} {v : Value} : ∀ {P : List Str} {vs : List Value} {i : Nat} {m : Str → Option Value}, P.Nodup → P[i]? = some x → vs[i]? = some v → kindOf x ≠ some .local →
    bindC kindOf (P.zip vs) m x = some v
  | [], _, _, _, _, h, _, _ => by simp at h
  | _ :: _, [], _, _, _, _, h, _ => by simp at h
  | p :: P, w :: vs, 0, m, nd, h1, h2, hk => by
    simp at h1 h2; subst h1; subst h2
    show bindC kindOf ((p, w) :: P.zip vs) m p = _
    unfold bindC
    rw [bindC_out fun v hv => (List.nodup_cons.mp nd).1 (List.of_mem_zip hv).1, if_neg hk]
    simp
  | p :: P, w :: vs, i + 1, m, nd, h1, h2, hk => by
    show bindC kindOf ((p, w) :: P.zip vs) m x = _
    unfold bindC
    exact bindC_get (i := i) (List.nodup_cons.mp nd).2 (by simpa using h1) (by simpa using h2) hk

/-- the names' values at the entry -/
def start (N : List Str) (vs : List V) : St := vs.map some ++ List.replicate (N.length - vs.length) none

/-- the context of a def's body, at its entry; an exception leaves the frame, then lies as CX says -/
def cxOf (CX : CXT) (P : Program) (w : World) (K : PySem.W.Frag) (mg : Str → Option Value) (base : Heap) (N : List Str) (qual : Str) (scope : Scope) (f : Addr) (cd : Value) (A : Around) (outer : List Env) (s : Shared) (H : Hp) (E : XK) : Cx where
  prog := P
  w := w
  K := K
  mg := mg
  base := base
  A := A.deeper (envOfC qual scope s.heap.objs.size f cd)
  N := N
  s₀ := s
  H₀ := H
  env := envOfC qual scope s.heap.objs.size f cd
  outer := outer
  stack := envOfC qual scope s.heap.objs.size f cd :: outer
  ex := []
  calm := true
  fn := fun _ => true
  pn := []
  xe := fun e s' => wpAny (model P w) (A.deeper (envOfC qual scope s.heap.objs.size f cd)) (leaving (envOfC qual scope s.heap.objs.size f cd) e) (fun _ s'' => CX outer H s E e s'') (fun e' s'' => CX outer H s E e' s'') s'

theorem cell_has {sc : Scope} {n : Nat} {x : Str} (h : sc.names.lookup x = some .cell) : ∃ c, (cellsFrom n sc.names []).lookup x = some c := by
  have q := PySem.W.cellsFrom_some sc.names n [] (.inl h)
  exact Option.isSome_iff_exists.mp q

theorem inv_start {CX : CXT} {P : Program} {w : World} {K : PySem.W.Frag} {mg : Str → Option Value} {base : Heap} {N ps : List Str} {qual : Str} {scope : Scope} {f : Addr} {cd : Value} {A : Around} {outer : List Env} {s s1 : Shared} {H : Hp} {E : XK} {us : List Value} {vs : List V}
    (S : FnScope N ps scope) (hd : A.handled = none) (e0 : Env0 P w K mg base A outer s H) (hl : vs.length = ps.length) (r : Vals vs us)
    (x : InCallC s s.heap.objs.size (bindL (envOfC qual scope s.heap.objs.size f cd).kindOf (ps.zip us) fun _ => none) (cellsFrom (s.heap.objs.size + 1) scope.names []) (bindC (envOfC qual scope s.heap.objs.size f cd).kindOf (ps.zip us) fun _ => none) s1) :
    Inv (cxOf CX P w K mg base N qual scope f cd A outer s H E) [] (start N vs) H s1 := by
  have hpl : ps.length ≤ N.length := by have := congrArg List.length S.pre; rw [List.length_take] at this; omega
  obtain ⟨h1, tk, rfl, hk⟩ := x.done
  have noA : ∀ b : Addr, b ∉ (cxOf CX P w K mg base N qual scope f cd A outer s H E).ex := fun b z => absurd (show b ∈ ([] : List Addr) from z) (by simp)
  refine ⟨⟨e0.mod, S.kind, rfl, rfl, Nat.le_refl _, fun y z c h1 h2 => ?_, fun y hy => ?_, fun y c _ h => ?_, fun _ => hd, Around.frames_deeper e0.frames, .inr ⟨rfl, rfl⟩, fun b z => absurd z (noA b), e0.bs, e0.bsz, fun b _ _ => noA b, fun b z => absurd z (noA b), e0.funs, e0.frf⟩,
    rfl, e0.bare, Un.kept hk, ⟨_, x.toInCall.ns, fun i y v h1 h2 h3 => ?_⟩, fun y c h => ⟨_, x.cell y c h⟩, e0.hok.fresh (Nat.le_refl _), fun y c h => ?_, fun p hp => absurd (show p ∈ ([] : List (Addr × Obj)) from hp) (by simp), e0.hok.kept hk, ?_⟩
  · exact name_of_addr x.apart (PySem.mem_of_lookup h1) (PySem.mem_of_lookup h2)
  · have hy : scope.names.lookup y = some .cell ∨ scope.names.lookup y = some .free := hy
    rcases hy with hy | hy
    · exact cell_has hy
    · exact absurd rfl (S.nofree _ (PySem.mem_of_lookup hy))
  · exact Nat.le_of_lt (x.above y c (PySem.mem_of_lookup h))
  · have hi : i < vs.length := by
      unfold start at h2
      by_cases hi : i < vs.length
      · exact hi
      · rw [List.getElem?_append_right (by simpa using hi)] at h2
        rw [List.getElem?_replicate] at h2
        split at h2 <;> cases h2
    have ha : vs[i]? = some v := by
      unfold start at h2
      rw [List.getElem?_append_left (by simpa using hi), List.getElem?_map] at h2
      cases e : vs[i]? with
      | none => rw [e] at h2; cases h2
      | some a => rw [e] at h2; cases h2; rfl
    obtain ⟨u, hu, rv⟩ := r.get ha
    have hp : ps[i]? = some y := by
      rw [← S.pre, List.getElem?_take_of_lt (by omega)]; exact h1
    have ndP : ps.Nodup := by rw [← S.pre]; exact S.nd.sublist (List.take_sublist _ _)
    refine ⟨u, rv, ?_⟩
    rcases S.par y (List.mem_of_getElem? hp) with k | k
    · exact .inl ⟨k, bindL_get ndP hp hu k⟩
    · obtain ⟨c, e⟩ := cell_has (n := s.heap.objs.size + 1) k
      refine .inr ⟨.inl k, c, e, ?_⟩
      have q := x.cell y c e
      rw [bindC_get ndP hp hu (by show scope.names.lookup y ≠ _; rw [k]; decide)] at q
      exact q
  · exact e0.hok.fresh (Nat.le_of_lt (x.above y c (PySem.mem_of_lookup h)))
  · unfold start
    show _ = N.length
    rw [List.length_append, List.length_map, List.length_replicate]
    omega

/-- THE RULE: a def (or a method) of the text, by its body. The body's reading t is chosen for each entry; it is run at the parameters' values -/
theorem fn_of {CX : CXT} {P : Program} {w : World} {K : PySem.W.Frag} {mg : Str → Option Value} {base : Heap} {k : Nat} {f : Addr} {name qual : Str} {params : Arguments} {body : List Stmt} {scope : Scope} {dV kV doc pm cdv ct oc : Value} {an od : Option Addr}
    {osl : Array (Option Value)} {N ps : List Str} {sp : Sp} (lk : K.lookup f = some ⟨oc, od, .func (PySem.W.fnOf name qual params body scope dV kV doc pm an cdv ct), osl⟩) (hcd : PySem.W.codeIn K cdv qual = true) (S : FnScope N ps scope)
    (len : ∀ vs H Q E, sp vs H Q E → vs.length = ps.length)
    (hbody : ∀ (A : Around) (outer : List Env) (s : Shared) (H : Hp) (vs : List V) (Q : VK) (E : XK), Room k (A.deeper (envOfC qual scope s.heap.objs.size f cdv)) → sp vs H Q E →
      ∃ t, PSs (cxOf CX P w K mg base N qual scope f cdv A outer s H E) body t ∧ t { nx := fun _ H' => Q .non H', rt := Q } (start N vs) H) :
    FnOk P w K mg base CX (k + 1) f (PySem.W.fnOf name qual params body scope dV kV doc pm an cdv ct) ps sp := by
  refine ⟨len, fun A outer s H args us vs Q E hr e0 hb r hsp => ?_⟩
  have hl := len _ _ _ _ hsp
  have KX : K.In s.heap := e0.mod.kin.keeps fun b o e => (e0.bs b o e).1
  have lim : s.heap.NoLimit := e0.mod.nolimit.keeps fun b o e => (e0.bs b o e).1
  have hkind : ∀ y ∈ ps.zip us, scope.names.lookup y.1 = some .local ∨ (scope.names.lookup y.1 = some .cell ∧ ((cellsFrom (s.heap.objs.size + 1) scope.names []).lookup y.1).isSome = true) := fun ⟨n, v⟩ hy => by
    rcases S.par n (List.of_mem_zip hy).1 with q | q
    · exact .inl q
    · exact .inr ⟨q, PySem.W.cellsFrom_some _ _ _ (.inl q)⟩
  refine codeAny_call_function hr.depth (KX _ _ lk) rfl S.co S.gen rfl (PySem.W.codeRec_of KX hcd) (hb _ _ _ _ ?_)
  refine wpAny_newFunctionEnv_cells S.kind hkind fun env he s1 x => ?_
  subst he
  refine ⟨lim.keeps x.toInCall.keep, codeAny_func ?_⟩
  obtain ⟨t, ht, hq⟩ := hbody A outer s H vs Q E (hr.deeper _) hsp
  have I : Inv (cxOf CX P w K mg base N qual scope f cdv A outer s H E) [] (start N vs) H s1 := inv_start S hr.hd e0 hl r x
  refine wpAny_mono (ht [] s1 (start N vs) H _ I hq) (fun fl s' hs => ?_) fun e s' hs => hs
  have fin : ∀ {σ' : St} {H' : Hp} {v : V} {u : Value}, Inv (cxOf CX P w K mg base N qual scope f cdv A outer s H E) [] σ' H' s' → RelV v u → Q v H' → CE outer P w H s Q u s' :=
    fun {σ' H' v u} J rv q => ⟨v, H', J.os, J.bare, J.base, J.hok, rv, q⟩
  cases fl with
  | ret u =>
    obtain ⟨v, σ', H', J, rv, q⟩ := hs
    exact fin J rv q
  | next =>
    obtain ⟨σ', H', J, q⟩ := hs
    exact fin (v := V.non) (u := Value.none) J rfl q
  | brk =>
    obtain ⟨_, _, _, q⟩ := hs
    exact False.elim q
  | cont =>
    obtain ⟨_, _, _, q⟩ := hs
    exact False.elim q
end L2

namespace L2
open PySem PySem.Spec PyProof.Rows
section
variable {X : Cx} {x : Str} {p pos : Pos} {e : Expr} {es : List Expr} {t : TA} {id T : String} {r : List V → Hp → VK → Prop}

def tCB (r : List V → Hp → VK → Prop) (t : TA) : TE := fun σ H Q => t σ H fun vs H1 => r vs H1 Q
/-- f(e, ..), f a built-in function -/
theorem pe_callB (hc : CallR X (.builtin id) r) (hg : Gl X x) (hm : X.mg x = none) (hv : bootBuiltins x = some (.builtin id)) (ha : PA X (e :: es) t) (hn : x ≠ "__name__" := by decide) (hdb : (x == ("__debug__" : Str)) = false := by decide)
    (he : starEach (e :: es) X.env = (false, eval e X.env) :: starEach es X.env := by rfl) (hpl : (backTo pos (starEach es X.env)).any (·.1) = false := by rfl) : PE X (.Call (.Name x p) (e :: es) [] pos) (tCB r t) := by
  intro pins s σ H Q I h
  refine wpAny_Call_Name_kw (ld_blt I hg hm hv ?_ hn hdb)
  exact PyProof.Rows.callWith_builtin1 (thn (ha pos pins s σ H _ I h) fun us s1 ⟨vs, H1, I1, r1, q1⟩ => hc pins s1 σ H1 vs us Q I1 r1 q1) he hpl
/-- T(e, ..), T a built-in type -/
theorem pe_callTy (hc : CallR X (.type T) r) (hg : Gl X x) (hm : X.mg x = none) (hv : bootBuiltins x = some (.type T)) (ha : PA X (e :: es) t) (hn : x ≠ "__name__" := by decide) (hdb : (x == ("__debug__" : Str)) = false := by decide)
    (he : starEach (e :: es) X.env = (false, eval e X.env) :: starEach es X.env := by rfl) (hpl : (backTo pos (starEach es X.env)).any (·.1) = false := by rfl) : PE X (.Call (.Name x p) (e :: es) [] pos) (tCB r t) := by
  intro pins s σ H Q I h
  refine wpAny_Call_Name_kw (ld_blt I hg hm hv ?_ hn hdb)
  exact PyProof.Rows.callWith_type1 (thn (ha pos pins s σ H _ I h) fun us s1 ⟨vs, H1, I1, r1, q1⟩ => hc pins s1 σ H1 vs us Q I1 r1 q1) he hpl
end
end L2

namespace HT
open PySem PyProof.Rows

section
open PySem.SeqAt
open PySem.AutoSeq1 (wpAny_loadPart')
open PySem.MeetsSeq PySem.MeetsSeq2 PySem.MeetsSeq3

end

section
variable {prog : Program} {w : World} {A : Around} {E : Value → Shared → Prop} {s : Shared}

/-! ### t[a:b], not the whole -/
/-- a slice's bound as a place among n (d where it is left out) -/
def sIx (n d : Nat) : Option Int → Nat
  | none => d
  | some v => if v < 0 then (v + (n : Int)).toNat else min v.toNat n
theorem sIx_none (n d : Nat) : sIx n d none = d := rfl
theorem sIx_nat (n d k : Nat) : sIx n d (some (k : Int)) = min k n := by
  show (if (k : Int) < 0 then ((k : Int) + (n : Int)).toNat else min (k : Int).toNat n) = min k n
  rw [if_neg (by omega), Int.toNat_natCast]
end
end HT

namespace L2
open PySem PySem.Spec PyProof.Rows

/-! ### the parts of a slice -/
abbrev TO := St → Hp → (Option Int → Hp → Prop) → Prop
/-- a slice's part (left out, or an int) -/
def PO (X : Cx) (e : Option Expr) (t : TO) : Prop :=
  ∀ (pins : List (Addr × Obj)) (s : Shared) (σ : St) (H : Hp) (Q : Option Int → Hp → Prop), Inv X pins σ H s → t σ H Q →
    wpAny (model X.prog X.w) X.A (evalPart e X.env) (fun u s' => ∃ o H', Inv X pins σ H' s' ∧ IsPart u o ∧ Q o H') X.xe s
def tNoPart : TO := fun _ H Q => Q none H
def tPart (t : TE) : TO := fun σ H Q => t σ H fun x H1 => ∃ i, x = .int i ∧ Q (some i) H1

theorem intsAre_of {ns : List Int} : ∀ {us : List Value}, Vals (ns.map V.int) us → IntsAre us ns := by
  induction ns with
  | nil => intro us r; rw [List.map_nil] at r; cases r; exact .nil
  | cons n ns ih =>
    intro us r
    rw [List.map_cons] at r
    cases r with
    | cons r1 r2 =>
      obtain ⟨t, e⟩ := r1
      subst e
      exact .cons n t (ih r2)

section
variable {X : Cx} {e : Expr} {te : TE} {lo hi : Option Expr} {tl th : TO} {pos p2 : Pos}

theorem po_none : PO X none tNoPart := by
  intro pins s σ H Q I h
  rw [evalPart_none]
  exact wpAny_pure ⟨none, H, I, .none, h⟩
theorem po_some (h : PE X e te) : PO X (some e) (tPart te) := by
  intro pins s σ H Q I hw
  rw [evalPart_some]
  refine thn (h pins s σ H _ I hw) fun u s1 ⟨x, H1, I1, r1, q1⟩ => ?_
  obtain ⟨i, rfl, q⟩ := q1
  obtain ⟨t, rfl⟩ := r1
  exact ⟨some i, H1, I1, .int i t, q⟩

/-- what a slice of a value is, by values: the slice object stands at sl -/
def SlR (X : Cx) (r : V → Option Int → Option Int → Hp → VK → Prop) : Prop :=
  ∀ (pins : List (Addr × Obj)) (s : Shared) (σ : St) (H : Hp) (x : V) (v vl vu : Value) (lo hi : Option Int) (sl : Addr) (Q : VK), Inv X pins σ H s → RelV x v → s.heap.IsSliceOf sl vl vu .none → IsPart vl lo → IsPart vu hi → r x lo hi H Q →
    ∃ T id, typeLookup (.type T) "__getitem__" = pure (some (.builtin id)) ∧ s.TypeIs v T ∧ wpAny (model X.prog X.w) X.A (getItem v (.ref sl)) (EP X pins σ Q) X.xe s
def tSl (r : V → Option Int → Option Int → Hp → VK → Prop) (te : TE) (tl th : TO) : TE := fun σ H Q => te σ H fun x H1 => tl σ H1 fun l H2 => th σ H2 fun u H3 => r x l u H3 Q
/-- a[lo:hi], any a -/
theorem pe_slice {r : V → Option Int → Option Int → Hp → VK → Prop} (hr : SlR X r) (he : PE X e te) (hl : PO X lo tl) (hu : PO X hi th) : PE X (.Subscript e (.Slice lo hi none p2) pos) (tSl r te tl th) := by
  intro pins s σ H Q I h
  refine Subscript_ (thn (he pins s σ H _ I h) fun v s1 ⟨x, H1, I1, r1, q1⟩ => ?_)
  refine wpAny_Slice (thn (hl pins s1 σ H1 _ I1 q1) fun vl s2 ⟨l, H2, I2, pl, q2⟩ => thn (hu pins s2 σ H2 _ I2 q2) fun vu s3 ⟨u, H3, I3, pu, q3⟩ => ?_)
  rw [evalPart_none]
  refine wpAny_pure ?_
  have I4 : Inv X pins σ H3 { s3 with heap := s3.heap.push { cls := .type "slice", data := .fields #[vl, vu, .none] } } := I3.kept (t' := s3.toks) fun b ob q => Heap.get?_push_of_some _ q
  obtain ⟨T, id, hT, ht, hg⟩ := hr pins { s3 with heap := s3.heap.push { cls := .type "slice", data := .fields #[vl, vu, .none] } } σ H3 x v vl vu l u s3.heap.objs.size Q I4 r1 (Heap.IsSliceOf.new ..) pl pu q3
  show wpAny (model X.prog X.w) X.A (subscriptTail e (.Slice lo hi none p2) v (.ref s3.heap.objs.size)) (EP X pins σ Q) X.xe { s3 with heap := s3.heap.push { cls := .type "slice", data := .fields #[vl, vu, .none] } }
  exact tail_any (ops := [.ref s3.heap.objs.size, v]) ht hT hg (by with_unfolding_all rfl)

/-- the items of xs[lo:hi] -/
def cutV (xs : List V) (lo hi : Option Int) : List V := (xs.drop (HT.sIx xs.length 0 lo)).take (HT.sIx xs.length xs.length hi - HT.sIx xs.length 0 lo)
theorem cutV_length (xs : List V) (lo hi : Option Int) : (cutV xs lo hi).length ≤ xs.length := by
  unfold cutV
  rw [List.length_take, List.length_drop]
  omega
end
end L2

namespace L2
open PySem PySem.Spec PyProof.Rows

/-! ### places -/
/-- the place that an index of any sign means -/
def ixN (n : Nat) (i : Int) : Option Nat := if 0 ≤ i then (if i < n then some i.toNat else none) else if -(n : Int) ≤ i then some (i + n).toNat else none
def atI {α : Type} (xs : List α) (i : Int) : Option α := (ixN xs.length i).bind fun j => xs[j]?
theorem ixN_seq {n : Nat} {i : Int} {j : Nat} (h : ixN n i = some j) : seqIndex? i n = some j ∧ j < n ∧ -(n : Int) ≤ i ∧ i < n := by
  unfold ixN at h
  by_cases h0 : 0 ≤ i
  · rw [if_pos h0] at h
    by_cases h1 : i < n
    · rw [if_pos h1] at h
      have e : i.toNat = j := Option.some.inj h
      exact ⟨by rw [seqIndex_of h0 h1, e], by omega, by omega, h1⟩
    · rw [if_neg h1] at h; cases h
  · rw [if_neg h0] at h
    by_cases h1 : -(n : Int) ≤ i
    · rw [if_pos h1] at h
      have e : (i + n).toNat = j := Option.some.inj h
      exact ⟨by rw [seqIndex_neg (by omega) h1, e], by omega, h1, by omega⟩
    · rw [if_neg h1] at h; cases h
theorem atI_get {α : Type} {xs : List α} {i : Int} {v : α} (h : atI xs i = some v) : ∃ j, seqIndex? i xs.length = some j ∧ xs[j]? = some v ∧ j < xs.length ∧ -(xs.length : Int) ≤ i ∧ i < xs.length := by
  unfold atI at h
  cases e : ixN xs.length i with
  | none => rw [e] at h; cases h
  | some j =>
    rw [e] at h
    obtain ⟨h1, h2, h3, h4⟩ := ixN_seq e
    exact ⟨j, h1, h, h2, h3, h4⟩
theorem atI_nat {α : Type} {xs : List α} {j : Nat} {v : α} (h : xs[j]? = some v) : atI xs (j : Int) = some v := by
  have hj : j < xs.length := (List.getElem?_eq_some_iff.mp h).1
  have e : ixN xs.length (j : Int) = some j := by
    unfold ixN
    rw [if_pos (by omega), if_pos (by omega)]; simp
  unfold atI; rw [e]; exact h
theorem atI_last {α : Type} (xs : List α) (v : α) : atI (xs ++ [v]) (-1) = some v := by
  have hl : (xs ++ [v]).length = xs.length + 1 := by simp
  have e : ixN (xs ++ [v]).length (-1) = some xs.length := by
    unfold ixN
    rw [hl, if_neg (by decide), if_pos (by omega)]
    congr 1
    omega
  unfold atI
  rw [e]
  show (xs ++ [v])[xs.length]? = some v
  simp

/-! ### what may be subscripted -/
/-- what stands as an index of a plain subscript -/
def PlainIx (b : Expr) : Prop := ∀ o i, subscripted b false o i = operate [o, i] (getItem o i)
/-- a subscript by values -/
def IxR (X : Cx) (r : R2) : Prop :=
  ∀ (value slice : Expr) (pins : List (Addr × Obj)) (s : Shared) (σ : St) (H : Hp) (x y : V) (v u : Value) (Q : VK), Inv X pins σ H s → RelV x v → RelV y u → r x y H Q →
    subscripted slice false v u = operate [v, u] (getItem v u) → wpAny (model X.prog X.w) X.A (subscriptTail value slice v u) (EP X pins σ Q) X.xe s
/-- a call of a builtin's method by values: the receiver, the arguments -/
def MtR (X : Cx) (id : String) (r : V → List V → Hp → VK → Prop) : Prop :=
  ∀ (pins : List (Addr × Obj)) (s : Shared) (σ : St) (H : Hp) (x : V) (xs : List V) (v : Value) (us : List Value) (Q : VK), Inv X pins σ H s → RelV x v → Vals xs us → r x xs H Q →
    wpAny (model X.prog X.w) X.A (call (.builtin id) (v :: us)) (EP X pins σ Q) X.xe s
section
variable {X : Cx} {a b : Expr} {ta tb : TE} {pos : Pos}
/-- a[b] -/
theorem pe_ix {r : R2} (hr : IxR X r) (ha : PE X a ta) (hb : PE X b tb) (hs : PlainIx b) : PE X (.Subscript a b pos) (tOp r ta tb) := by
  intro pins s σ H Q I h
  exact Subscript_ (binT ha hb I h fun v u s2 x y H2 I2 rx ry q => hr a b pins s2 σ H2 x y v u Q I2 rx ry q (hs _ _))

def rIxL (K : PySem.W.Frag) : R2 := fun x y H Q => ∃ p xs i v, x = .ref p ∧ y = .int i ∧ SqL K H p xs ∧ atI xs i = some v ∧ Q v H
def rIxS : R2 := fun x y H Q => ∃ z i c, x = .str z ∧ y = .int i ∧ z.length ≤ sizeLine ∧ atI z.cps.toList i = some c ∧ Q (.str ⟨#[c]⟩) H
theorem ix_list : IxR X (rIxL X.K) := by
  intro value slice pins s σ H x y v u Q I rx ry h hs
  obtain ⟨p, xs, i, z, rfl, rfl, hq, he, q⟩ := h
  cases rx
  obtain ⟨t, rfl⟩ := ry
  obtain ⟨its, r, pl, hz⟩ := I.list hq
  obtain ⟨j, h1, h2, h3, h4, h5⟩ := atI_get he
  obtain ⟨w, ew, rw'⟩ := r.get h2
  have hl := r.length
  have hn := line63
  have fin : EP X pins σ Q w s := ⟨z, H, I, rw', q⟩
  by_cases h0 : 0 ≤ i
  · have hj : i.toNat = j := by
      rw [seqIndex_of h0 h5] at h1
      exact Option.some.inj h1
    exact item_listR pl.isList h0 (by omega) (by rw [hj]; simpa using ew) fin hs
  · have hj : (i + (its.toArray.size : Int)).toNat = j := by
      rw [seqIndex_neg (by omega) h4] at h1
      rw [List.size_toArray, ← hl]
      exact Option.some.inj h1
    exact subscriptTail_builtinR (x := w) pl.isList.typeIs slot_list_getitem.lookup
      (wpAny_getItem_list_neg (Q := fun r s' => r = w ∧ EP X pins σ Q r s') pl.isList (by omega) (by rw [List.size_toArray] <;> omega) (by omega) (by rw [hj]; simpa using ew) ⟨rfl, fin⟩) hs
theorem ix_str : IxR X rIxS := by
  intro value slice pins s σ H x y v u Q I rx ry h hs
  obtain ⟨z, i, c, rfl, rfl, hz, he, q⟩ := h
  obtain ⟨t, rfl⟩ := rx
  obtain ⟨t', rfl⟩ := ry
  obtain ⟨j, h1, h2, h3, h4, h5⟩ := atI_get he
  have hl : z.cps.toList.length = z.length := by simp [Str.length]
  rw [hl] at h1 h4 h5
  have hn := line63
  exact tail_any (typeIs_str s z t) slot_str_getitem.lookup (getItem_str (c := c) (by
    have e1 : decide (i < -(2 ^ 63 : Int)) = false := decide_eq_false (by omega)
    have e2 : decide (i ≥ 2 ^ 63) = false := decide_eq_false (by omega)
    rw [e1, e2, Bool.or_false]) (by rw [h1]; simpa using h2) ⟨.str ⟨#[c]⟩, H, I.tok _, ⟨_, rfl⟩, q⟩) hs
/-! ### xs[i] = v, any sign -/
/-- the list's object behind a store -/
theorem mapSeq_set (its : List Value) (n j : Nat) (u : Value) : Obj.mapSeq (·.setIfInBounds j u) { cls := .type "list", data := .seq its.toArray n } = { cls := .type "list", data := .seq (its.set j u).toArray n } := by
  simp [Obj.mapSeq]
theorem Inv.lst {pins : List (Addr × Obj)} {σ : St} {H : Hp} {s : Shared} {p : Addr} {xs : List V} (I : Inv X pins σ H s) (h : H p = some (.lst xs)) :
    ∃ (its : List Value) (n : Nat), Vals xs its ∧ s.heap.get? p = some { cls := .type "list", data := .seq its.toArray n } ∧ xs.length ≤ sizeLine := by
  obtain ⟨z, its, n, r, e⟩ := I.hok p _ h
  exact ⟨its, n, r, e, z⟩
/-- the list at p is written by an update of its object -/
theorem Inv.lstUpd {pins : List (Addr × Obj)} {σ : St} {H : Hp} {s : Shared} {p : Addr} {xs ys : List V} {its its' : List Value} {n n' : Nat} {f : Obj → Obj} (I : Inv X pins σ H s) (h : H p = some (.lst xs))
    (ho : s.heap.get? p = some { cls := .type "list", data := .seq its.toArray n }) (hf : f { cls := .type "list", data := .seq its.toArray n } = { cls := .type "list", data := .seq its'.toArray n' }) (r : Vals ys its') (hz : ys.length ≤ sizeLine) (t : Nat) :
    Inv X pins σ (upd H p (.lst ys)) { s with heap := s.heap.update p f, toks := t } := by
  have e : (s.heap.update p f).get? p = some { cls := .type "list", data := .seq its'.toArray n' } := by
    rw [Heap.get?_update_self f ho (by rw [hf] <;> rfl), hf]
  refine I.write (x := p) (e := p) (by rw [h]; trivial) (.inl rfl) (fun b u hb q => (Heap.get?_update_other _ _ (Ne.symm hb)).trans q) ⟨_, e⟩ ?_
  exact ⟨hz, its', n', r, e⟩
def rSetL : V → V → V → Hp → (Hp → Prop) → Prop := fun o i v H Q => ∃ p xs k j, o = .ref p ∧ i = .int k ∧ H p = some (.lst xs) ∧ ixN xs.length k = some j ∧ Q (upd H p (.lst (xs.set j v)))
theorem set_list : PSet X rSetL := by
  intro pins s σ H o i v ov iv u Q I ro ri rv h
  obtain ⟨p, xs, k, j, rfl, rfl, hp, hj, q⟩ := h
  cases ro
  obtain ⟨t, rfl⟩ := ri
  obtain ⟨its, n, r, ho, hz⟩ := I.lst hp
  obtain ⟨h1, h2, h3, h4⟩ := ixN_seq hj
  have hl := r.length
  have hn := line63
  have I' : Inv X pins σ (upd H p (.lst (xs.set j v))) { s with heap := s.heap.update p (Obj.mapSeq (·.setIfInBounds j u)) } :=
    I.lstUpd hp ho (mapSeq_set its n j u) (r.set rv j) (by rw [List.length_set]; exact hz) s.toks
  by_cases h0 : 0 ≤ k
  · have hk : k.toNat = j := by
      rw [seqIndex_of h0 h4] at h1
      exact Option.some.inj h1
    exact PySem.W.ki_setAt ho h0 (by omega) (by rw [List.size_toArray, ← hl]; exact h4) (by rw [hk]; exact ⟨_, I', q⟩)
  · have hk : (k + (its.toArray.size : Int)).toNat = j := by
      rw [seqIndex_neg (by omega) h3] at h1
      rw [List.size_toArray, ← hl]
      exact Option.some.inj h1
    exact PySem.W.ki_setBack ho (by omega) (by rw [List.size_toArray, ← hl]; exact h3) (by omega) (by rw [hk]; exact ⟨_, I', q⟩)

/-! ### slices -/
theorem slice_bounds (lo hi : Option Int) (n : Nat) : (sliceBounds lo hi none n).1 = ((HT.sIx n 0 lo : Nat) : Int) ∧ (sliceBounds lo hi none n).2.1 = ((HT.sIx n n hi : Nat) : Int) ∧ (sliceBounds lo hi none n).2.2 = 1 := by
  refine ⟨?_, ?_, rfl⟩
  · cases lo with
    | none => simp [sliceBounds, HT.sIx]
    | some i =>
      simp only [sliceBounds, HT.sIx, Option.getD_none, show (1 : Int) > 0 by decide, if_true]
      by_cases h : i < 0
      · simp only [h, if_true] <;> omega
      · simp only [h, if_false] <;> omega
  · cases hi with
    | none => simp [sliceBounds, HT.sIx]
    | some i =>
      simp only [sliceBounds, HT.sIx, Option.getD_none, show (1 : Int) > 0 by decide, if_true]
      by_cases h : i < 0
      · simp only [h, if_true] <;> omega
      · simp only [h, if_false] <;> omega
theorem slicePick_cut (its : List Value) (lo hi : Option Int) : slicePick its.toArray lo hi none = ((its.drop (HT.sIx its.length 0 lo)).take (HT.sIx its.length its.length hi - HT.sIx its.length 0 lo)).toArray := by
  obtain ⟨h1, h2, h3⟩ := slice_bounds lo hi its.toArray.size
  unfold slicePick
  rw [h1, h2, h3]
  simp only [sliceRange_one, pick_run, List.size_toArray] <;> rfl
/-- xs[lo:hi] of a list: a new list -/
def rSlL (K : PySem.W.Frag) : V → Option Int → Option Int → Hp → VK → Prop := fun x lo hi H Q => ∃ a xs, x = .ref a ∧ SqL K H a xs ∧ ∀ p, H p = none → Q (.ref p) (upd H p (.lst (cutV xs lo hi)))
theorem sl_list : SlR X (rSlL X.K) := by
  intro pins s σ H x v vl vu lo hi sl Q I rx hs pl pu h
  obtain ⟨a, xs, rfl, hx, q⟩ := h
  cases rx
  obtain ⟨its, r, ht, hz⟩ := I.list hx
  have hlen := r.length
  refine ⟨"list", _, slot_list_getitem.lookup, ht.isList.typeIs, ?_⟩
  refine wpAny_getItem_list_slice ht.isList hs pl pu .none (by simp) ?_ (by rw [List.size_toArray] <;> omega)
  rw [slicePick_cut, ← hlen]
  refine ⟨.ref s.heap.objs.size, _, I.laid (t' := s.toks) (o := .lst (cutV xs lo hi)) (fun b ob q => Heap.get?_push_of_some _ q) (Nat.le_refl _) ?_, rfl, q _ (I.hok.fresh (Nat.le_refl _))⟩
  exact ⟨Nat.le_trans (cutV_length xs lo hi) hz, _, 0, (r.drop (HT.sIx xs.length 0 lo)).take (HT.sIx xs.length xs.length hi - HT.sIx xs.length 0 lo), Heap.get?_push_size _ rfl⟩

/-! ### in, not in: flat items -/
def flatV : V → Bool
  | .non => true
  | .bl _ => true
  | .int _ => true
  | .str _ => true
  | _ => false
/-- == of flat values -/
def eqV : V → V → Bool
  | .non, .non => true
  | .bl a, .bl b => a == b
  | .bl a, .int b => (if a then 1 else 0) == b
  | .int a, .bl b => a == (if b then 1 else 0)
  | .int a, .int b => a == b
  | .str a, .str b => a == b
  | _, _ => false
theorem eqAt_V {A : Around} {s : Shared} {y x : V} {u v : Value} (ry : RelV y u) (rx : RelV x v) (fy : flatV y = true) (fx : flatV x = true) : SeqAt.EqAt A s u v (eqV y x) := by
  cases y with
  | non =>
    cases ry
    cases x with
    | non => cases rx; exact SeqAt.EqAt.same _
    | bl b => cases rx; exact SeqAt.EqAt.none_bool b
    | int b => obtain ⟨t, rfl⟩ := rx; exact SeqAt.EqAt.none_int b t
    | str b => obtain ⟨t, rfl⟩ := rx; exact SeqAt.EqAt.none_str b t
    | _ => exact absurd (show false = true from fx) Bool.false_ne_true
  | bl a =>
    cases ry
    cases x with
    | non => cases rx; exact SeqAt.EqAt.bool_none a
    | bl b => cases rx; exact SeqAt.EqAt.bool_bool a b
    | int b => obtain ⟨t, rfl⟩ := rx; exact SeqAt.EqAt.bool_int a b t
    | str b => obtain ⟨t, rfl⟩ := rx; exact SeqAt.EqAt.bool_str a b t
    | _ => exact absurd (show false = true from fx) Bool.false_ne_true
  | int a =>
    obtain ⟨t', rfl⟩ := ry
    cases x with
    | non => cases rx; exact SeqAt.EqAt.int_none a t'
    | bl b => cases rx; exact SeqAt.EqAt.int_bool a t' b
    | int b => obtain ⟨t, rfl⟩ := rx; exact SeqAt.EqAt.int_int a t' b t
    | str b => obtain ⟨t, rfl⟩ := rx; exact SeqAt.EqAt.int_str a t' b t
    | _ => exact absurd (show false = true from fx) Bool.false_ne_true
  | str a =>
    obtain ⟨t', rfl⟩ := ry
    cases x with
    | non => cases rx; exact SeqAt.EqAt.str_none a t'
    | bl b => cases rx; exact SeqAt.EqAt.str_bool a t' b
    | int b => obtain ⟨t, rfl⟩ := rx; exact SeqAt.EqAt.str_int a t' b t
    | str b => obtain ⟨t, rfl⟩ := rx; exact SeqAt.EqAt.str_str a t' b t
    | _ => exact absurd (show false = true from fx) Bool.false_ne_true
  | _ => exact absurd (show false = true from fy) Bool.false_ne_true
/-- the items' answers, read off the values (a value's own answer does not lean on its token) -/
def eqU (x : V) (u : Value) : Bool := match u with
  | .none => eqV .non x
  | .bool b => eqV (.bl b) x
  | .int i _ => eqV (.int i) x
  | .str z _ => eqV (.str z) x
  | _ => false
theorem eqU_of {x y : V} {u : Value} (r : RelV y u) (f : flatV y = true) : eqU x u = eqV y x := by
  cases y with
  | non => cases r; rfl
  | bl b => cases r; rfl
  | int i => obtain ⟨t, rfl⟩ := r; rfl
  | str z => obtain ⟨t, rfl⟩ := r; rfl
  | _ => exact absurd (show false = true from f) Bool.false_ne_true
theorem mem_eqAt {A : Around} {s : Shared} {x : V} {v : Value} (rx : RelV x v) (fx : flatV x = true) : ∀ {xs : List V} {us : List Value}, Vals xs us → xs.all flatV = true → ∀ u ∈ us, SeqAt.EqAt A s u v (eqU x u)
  | _, _, .nil, _ => fun u hu => by cases hu
  | y :: xs, u :: us, .cons r t, f => fun u' hu => by
    rw [List.all_cons, Bool.and_eq_true] at f
    rcases List.mem_cons.mp hu with rfl | hu
    · rw [eqU_of r f.1]; exact eqAt_V r rx f.1 fx
    · exact mem_eqAt rx fx t f.2 u' hu
/-! ### len, list(x), tuple(x) of any list or tuple that is read -/
theorem call_len_seq : CallR X (.builtin "len") (fun xs H Q => ∃ p ys, xs = [.ref p] ∧ (SqL X.K H p ys ∨ SqT X.K H p ys) ∧ Q (.int ys.length) H) := by
  intro pins s σ H xs us Q I r h
  obtain ⟨p, ys, rfl, hq, q⟩ := h
  obtain ⟨u, rfl, rx⟩ := vals1 r
  cases rx
  have hn := line63
  rcases hq with hq | hq
  · obtain ⟨its, r', pl, hz⟩ := I.list hq
    have hlen := r'.length
    exact Calls.call_len_list pl.isList (by simp only [List.size_toArray] <;> omega) ⟨.int ys.length, H, I.tok _, ⟨s.toks + 1, by rw [List.size_toArray, hlen]⟩, q⟩
  · obtain ⟨its, r', pl, hz⟩ := I.tuple hq
    have hlen := r'.length
    exact len_tuple pl (by simp only [List.size_toArray] <;> omega) ⟨.int ys.length, H, I.tok _, ⟨s.toks + 1, by rw [List.size_toArray, hlen]⟩, q⟩
theorem call_len_str : CallR X (.builtin "len") (fun xs H Q => ∃ z, xs = [.str z] ∧ z.length ≤ sizeLine ∧ Q (.int z.length) H) := by
  intro pins s σ H xs us Q I r h
  obtain ⟨z, rfl, hz, q⟩ := h
  obtain ⟨u, rfl, t, rfl⟩ := vals1 r
  have hn := line63
  exact len_str (by omega) ⟨.int z.length, H, I.tok _, ⟨_, rfl⟩, q⟩
theorem call_list_of : CallR X (.type "list") (fun xs H Q => ∃ p ys, xs = [.ref p] ∧ (SqL X.K H p ys ∨ SqT X.K H p ys) ∧ ∀ l, H l = none → Q (.ref l) (upd H l (.lst ys))) := by
  intro pins s σ H xs us Q I r h
  obtain ⟨p, ys, rfl, hq, q⟩ := h
  obtain ⟨u, rfl, rx⟩ := vals1 r
  cases rx
  have fin : ∀ (its : List Value), Vals ys its → ys.length ≤ sizeLine → ∀ (h' : Heap) (c' : Nat), (∀ b o', s.heap.get? b = some o' → h'.get? b = some o') →
      h'.get? s.heap.objs.size = some { cls := .type "list", dict := none, data := .seq its.toArray c', slots := #[] } → EP X pins σ Q (.ref s.heap.objs.size) { s with heap := h' } := fun its r' hz h' c' kp e =>
    ⟨.ref s.heap.objs.size, _, I.laid (t' := s.toks) kp (Nat.le_refl _) (show ObjOk X.prog X.w _ h' _ (.lst ys) from ⟨hz, its, c', r', e⟩), rfl, q _ (I.hok.fresh (Nat.le_refl _))⟩
  rcases hq with hq | hq
  · obtain ⟨its, r', pl, hz⟩ := I.list hq
    have hlen := r'.length
    obtain ⟨o, ho, hc, n, hd⟩ := pl.isList
    exact call_list_seq p (.inl rfl) ho hc hd (fun h' c' kp e => fin its r' hz h' c' kp e) (by simp only [List.size_toArray] <;> omega)
  · obtain ⟨its, r', pl, hz⟩ := I.tuple hq
    have hlen := r'.length
    obtain ⟨o, ho, hc, n, hd⟩ := pl
    exact call_list_seq p (.inr rfl) ho hc hd (fun h' c' kp e => fin its r' hz h' c' kp e) (by simp only [List.size_toArray] <;> omega)
/-! ### the call of a builtin's method: o.m(..) -/
/-- the value is of that builtin type -/
def tyV (K : PySem.W.Frag) (T : String) (x : V) (H : Hp) : Prop := match x with
  | .str _ => T = "str"
  | .int _ => T = "int"
  | .ref p => (T = "list" ∧ ∃ xs, SqL K H p xs) ∨ (T = "tuple" ∧ ∃ o, K.lookup p = some o ∧ o.cls = .type "tuple" ∧ o.dict = none) ∨
      (T = "dict" ∧ ((∃ kvs, H p = some (.dK kvs)) ∨ ∃ kvs, H p = some (.dT kvs))) ∨ (T = "set" ∧ ∃ S n, H p = some (.set S n))
  | _ => False
theorem tyV_is {pins : List (Addr × Obj)} {σ : St} {H : Hp} {s : Shared} {T : String} {x : V} {v : Value} (I : Inv X pins σ H s) (r : RelV x v) (ty : tyV X.K T x H) :
    s.TypeIs v T ∧ ∀ a, v = .ref a → ∃ ob, s.heap.get? a = some ob ∧ ob.dict = none := by
  cases x with
  | str z =>
    obtain ⟨t, rfl⟩ := r
    cases (show T = "str" from ty)
    exact ⟨typeIs_str s z t, fun _ e => nomatch e⟩
  | int i =>
    obtain ⟨t, rfl⟩ := r
    cases (show T = "int" from ty)
    exact ⟨typeIs_int s i t, fun _ e => nomatch e⟩
  | ref p =>
    cases r
    rcases ty with ⟨rfl, xs, hq⟩ | ⟨rfl, o, hk, hc, hd⟩ | ⟨rfl, hk⟩ | ⟨rfl, S, n, hk⟩
    · obtain ⟨its, _, pl, _⟩ := I.list hq
      refine ⟨pl.isList.typeIs, fun a e => ?_⟩
      cases e
      obtain ⟨o, n, e, c, hd, _⟩ := pl
      exact ⟨o, e, hd⟩
    · refine ⟨⟨o, I.kIn p o hk, hc⟩, fun a e => ?_⟩
      cases e
      exact ⟨o, I.kIn _ o hk, hd⟩
    · have z : ∃ o, s.heap.get? p = some o ∧ o.ExactDict := by
        rcases hk with ⟨kvs, hk⟩ | ⟨kvs, hk⟩
        · obtain ⟨_, _, _, _, o, _, _, e, ex, _⟩ := I.hok p _ hk
          exact ⟨o, e, ex⟩
        · obtain ⟨_, _, _, _, o, _, _, e, ex, _⟩ := I.hok p _ hk
          exact ⟨o, e, ex⟩
      obtain ⟨o, e, ex⟩ := z
      refine ⟨⟨o, e, ex.1⟩, fun a e2 => ?_⟩
      cases e2
      exact ⟨o, e, ex.2.1⟩
    · obtain ⟨o, _, _, _, e, ex, _⟩ := I.hok p _ hk
      refine ⟨⟨o, e, ex.1⟩, fun a e2 => ?_⟩
      cases e2
      exact ⟨o, e, ex.2.1⟩
  | _ => exact False.elim ty
def tBM (K : PySem.W.Frag) (T : String) (r : V → List V → Hp → VK → Prop) (to : TE) (t : TA) : TE := fun σ H Q => to σ H fun x H1 => tyV K T x H1 ∧ t σ H1 fun xs H2 => r x xs H2 Q
variable {o e : Expr} {es : List Expr} {to : TE} {t : TA} {name : Str} {apos cpos : Pos} {T id : String} {r : V → List V → Hp → VK → Prop}
theorem pe_bm (pa : PlainAttrs T) (slot : Slot T name id) (hty : typeOf (.builtin id) = pure (.type "method_descriptor")) (hm : MtR X id r) (ho : PE X o to) (ha : PA X (e :: es) t)
    (hbase : attributeBase o name X.env (eval o X.env) = eval o X.env := by rfl)
    (hfew : ((backTo cpos (starEach (e :: es) X.env)).all (fun x => !x.1) && (backToKw cpos (keywordEach [] X.env)).all (fun x => x.1.isSome)
      && decide ((e :: es).length + ([] : List Keyword).length + (if ([] : List Keyword).isEmpty then 0 else 1) < 30)) = true := by rfl)
    (hline : (apos.endLine == cpos.line) = true := by rfl) (hs : starEach (e :: es) X.env = (false, eval e X.env) :: starEach es X.env := by rfl) (hplain : (backTo cpos (starEach es X.env)).any (·.1) = false := by rfl) :
    PE X (.Call (.Attribute o name apos) (e :: es) [] cpos) (tBM X.K T r to t) := by
  intro pins s σ H Q I h
  refine wpAny_Call_method_late hbase hfew hline rfl (thn (ho pins s σ H _ I h) fun v s1 ⟨x, H1, I1, r1, ty, q1⟩ => ?_)
  obtain ⟨h1, h2⟩ := tyV_is I1 r1 ty
  refine ⟨T, id, pa, slot, hty, h1, h2, ?_⟩
  have hA := ha cpos pins s1 σ H1 _ I1 q1
  rw [hs] at hA ⊢
  refine Calls.callWith_builtin (by show (false || (backTo cpos (starEach es X.env)).any (·.1)) = false; rw [hplain] <;> rfl) (Calls.evalArgs_plain ?_)
  exact thn hA fun us s2 ⟨vs, H2, I2, r2, q2⟩ => hm pins s2 σ H2 x vs v us Q I2 r1 r2 q2
/- xs.append(e), list.index on a module's tuple .. are MtR facts of 06m -/
end
end L2

namespace L2
open PySem PySem.Spec PyProof.Rows

def MtM (X : Cx) (id : String) (r : V → List V → Hp → VK → Prop) : Prop :=
  ∀ (pins : List (Addr × Obj)) (s : Shared) (σ : St) (H : Hp) (x : V) (xs : List V) (v : Value) (us : List Value) (Q : VK), Inv X pins σ H s → RelV x v → Vals xs us → r x xs H Q →
    wpAny (model X.prog X.w) X.A (call (.builtin id) (v :: us)) (EP X pins σ Q) X.xe s

/-! ### lists of values -/
theorem Vals.one : ∀ {x : V} {us : List Value}, Vals [x] us → ∃ u, us = [u] ∧ RelV x u
  | _, _, .cons r .nil => ⟨_, rfl, r⟩
section
variable {X : Cx} {pins : List (Addr × Obj)} {σ : St} {H : Hp} {s : Shared} {l b : Addr} {xs ys zs : List V}

/-! ### the two steps: a tracked list is rewritten, a new list is laid -/
theorem Inv.lset {its its' : List Value} {n : Nat} {f : Array Value → Array Value} {t' : Nat} (I : Inv X pins σ H s) (hH : H l = some (.lst xs))
    (e : s.heap.get? l = some { cls := .type "list", data := .seq its.toArray n }) (hf : f its.toArray = its'.toArray) (hv : Vals ys its') (hz : ys.length ≤ sizeLine) :
    Inv X pins σ (upd H l (.lst ys)) { s with heap := s.heap.update l (Obj.mapSeq f), toks := t' } := by
  have q := PySem.IsL.update e f
  rw [hf] at q
  refine I.write (x := l) (e := l) (by rw [hH]; exact trivial) (.inl rfl) (fun b' u hb hu => (Heap.get?_update_other s.heap (Obj.mapSeq f) (Ne.symm hb)).trans hu) ⟨_, q⟩ ?_
  exact ⟨hz, its', _, hv, q⟩
theorem Inv.lnew {its : List Value} {t' : Nat} (I : Inv X pins σ H s) (hv : Vals ys its) (hz : ys.length ≤ sizeLine) :
    Inv X pins σ (upd H s.heap.objs.size (.lst ys)) { s with heap := s.heap.push { cls := .type "list", data := .seq its.toArray }, toks := t' } :=
  I.laid (fun _ _ q => Heap.get?_push_of_some _ q) (Nat.le_refl _) ⟨hz, its, 0, hv, Heap.get?_push_size _ rfl⟩
theorem Inv.fresh (I : Inv X pins σ H s) : H s.heap.objs.size = none := I.hok.fresh (Nat.le_refl _)
theorem Inv.lstM (I : Inv X pins σ H s) (hH : H l = some (.lst xs)) : xs.length ≤ sizeLine ∧ ∃ (its : List Value) (n : Nat), Vals xs its ∧ xs.length = its.length ∧ s.heap.get? l = some { cls := .type "list", data := .seq its.toArray n } := by
  obtain ⟨z, its, n, r, e⟩ := I.hok l _ hH
  exact ⟨z, its, n, r, r.length, e⟩

end

section
variable {X : Cx}

/-! ### methods -/
def rAppend : V → List V → Hp → VK → Prop := fun x vs H Q => ∃ l xs y, x = .ref l ∧ vs = [y] ∧ H l = some (.lst xs) ∧ xs.length < sizeLine ∧ Q .non (upd H l (.lst (xs ++ [y])))
theorem mt_append : MtM X "list.append" rAppend := by
  intro pins s σ H x vs v us Q I rx rv h
  obtain ⟨l, xs, y, rfl, rfl, hH, hz, q⟩ := h
  cases rx
  obtain ⟨u, rfl, ru⟩ := rv.one
  obtain ⟨z, its, n, r, hl, e⟩ := I.lstM hH
  refine call_meets F.slot_list_append ⟨_, e, rfl⟩ F.entry_list_append (F.args_list_append_2 _ _) (PySem.list_append l its.toArray n u (by rw [List.size_toArray]; omega)) ⟨e, ?_⟩
  refine ⟨.non, _, I.lset (its' := its ++ [u]) hH e (by simp) (r.append (.cons ru .nil)) ?_, rfl, q⟩
  rw [List.length_append, List.length_singleton]
  omega

/-! ### list + list, list += list, list * int -/
def rCat : R2 := fun x y H Q => ∃ l b xs zs, x = .ref l ∧ y = .ref b ∧ H l = some (.lst xs) ∧ H b = some (.lst zs) ∧ xs.length + zs.length ≤ sizeLine ∧ ∀ p, H p = none → Q (.ref p) (upd H p (.lst (xs ++ zs)))
theorem op_cat : OpR X (binaryOp .Add) rCat := by
  intro pins s σ H x y v u Q I rx ry h
  obtain ⟨l, b, xs, zs, rfl, rfl, hH, hB, hz, q⟩ := h
  cases rx
  cases ry
  obtain ⟨z, its, n, r, hl, e⟩ := I.lstM hH
  obtain ⟨z2, its2, n2, r2, hl2, e2⟩ := I.lstM hB
  refine PySem.P.add_list e e2 ?_ (by rw [List.size_toArray, List.size_toArray]; omega)
  have ea : its.toArray ++ its2.toArray = (its ++ its2).toArray := by simp
  rw [ea]
  exact ⟨.ref _, _, I.lnew (t' := s.toks) (r.append r2) (by rw [List.length_append]; omega), rfl, q _ I.fresh⟩
end

/-! ### xs[a:b] = ys -/
section
variable {prog : Program} {w : World} {A : Around} {E : Value → Shared → Prop} {s : Shared}
end

section
variable {X : Cx}
end
end L2

namespace Att
open PySem PySem.W PySem.Calls PyProof.Rows

/-! ### the script -/
theorem ints_of_wellAll {P : Params} {h : Heap} : ∀ (ns : List Int) (vs : List Value), WellAll P h vs (ns.map WData.int) → IntsAre vs ns := by
  intro ns
  induction ns with
  | nil =>
    intro vs w
    rw [List.map_nil] at w
    cases w
    exact .nil
  | cons n ns ih =>
    intro vs w
    rw [List.map_cons] at w
    cases w with
    | cons a b =>
      cases a
      exact .cons _ _ (ih _ b)

theorem script_of {l : OpenLaw} {n : Nat} (hn : l.most = some n) {P : Params} {h : Heap} {args : List WData} {vals : List Value}
    (hpre : l.row.toRowW.claim.pre args = true) (hwl : WellAll P h vals args) :
    ∃ a vs ns, vals = [Value.ref a] ∧ args = [WData.list (ns.map WData.int)] ∧ h.get? a = some { cls := .type "list", data := .seq vs.toArray } ∧ IntsAre vs ns ∧ ns.length ≤ n := by
  have hsh : WShape.hasAll [] args [.list .int] = true := (pre_splitW hpre).1
  have hc : l.pre.holds [] { args := args } = true := (pre_splitW hpre).2
  obtain ⟨d, r, rfl, h1, h2⟩ := hasAllW_cons hsh
  obtain rfl := hasAllW_nil h2
  obtain ⟨xs, rfl, h3⟩ := hasW_list h1
  obtain ⟨ns, rfl⟩ := items_int h3
  have hlen : ns.length ≤ n := by
    unfold OpenLaw.pre at hc
    have h4 : (WTm.not (.lt (.lit (.int (n : Int))) (.len (.arg 0)))).holds [] { args := [.list (ns.map .int)] } = true := by
      have h4 := (holds_andW hc).1
      rw [hn] at h4
      exact h4
    have h5 := condW_of h4 (w_not (w_lt w_lit (w_len_list (w_arg rfl))))
    rw [List.length_map] at h5
    refine Nat.le_of_not_lt fun q => ?_
    have q' : (n : Int) < ((ns.length : Nat) : Int) := by omega
    first
      | (rw [decide_eq_true q'] at h5; exact absurd h5 (by decide))
      | (simp at h5; omega)
  cases hwl with
  | cons w1 w2 =>
    cases w2
    cases w1 with
    | list ho hall => exact ⟨_, _, ns, rfl, rfl, ho, ints_of_wellAll ns _ hall, hlen⟩

theorem post_true (l : OpenLaw) (args : List WData) : l.row.toRowW.claim.post args (.bool true) args = true :=
  postW_of (r := l.row.toRowW) (X := (true == true))
    (show WShape.has [] (.bool true) .bool = true by first | rfl | decide | simp [WShape.has, WShape.arms, WShape.armsAll])
    (show (WTm.eq .res (.lit (.bool true))).value [] { args := args, res := some (.bool true), after := args } = some (.bool (true == true)) from w_eq_bool (w_res rfl) w_lit) rfl

/-- the same from a codeAny of the CALL (for a layer whose function contracts speak of calls) -/
theorem attach_call {l : OpenLaw} {n : Nat} {q : Program} {loose : List Str} {XP : (Str → Option Value) → Heap → Prop} {YP : World → Heap → Prop} {d : DefRec}
    (hn : l.most = some n) (hdf : d.params.defaults = [])
    (call : ∀ (w : World) (s₀ s₁ : Shared) (mg mb : Str → Option Value) (fa : Addr) (o : Obj) (pm cd doc : Value) (a : Addr) (vs : List Value) (ns : List Int),
      Ground q loose [] XP w s₀ mg mb s₁.heap → YP w s₁.heap →
      s₁.heap.get? fa = some o → o.data = .func (docDef d.name d.params d.body d.scope pm cd doc) → s₁.heap.CodeRec cd d.name → mg d.name = some (.ref fa) →
      s₁.heap.get? a = some { cls := .type "list", data := .seq vs.toArray } → IntsAre vs ns → ns.length ≤ n → s₁.gens = #[] →
      codeAny (model l.prog w) callerA (.call (.ref fa) ⟨[.ref a], []⟩) (fun r s' => r = .ok (.ret (.bool true)) ∧ OldK s₁.heap s'.heap ∧ s'.os = s₁.os ∧ AllBare s'.gens) s₁) :
    WalkO q loose XP YP l.row.toRowW d [] (fun f vs => PySem.call f vs) := by
  intro w s₀ s₁ mg mb G Y fa o pm cd doc dV kV ho hd hcd hD hmg hg args vals as hpre hlay hrd hwl hlo
  obtain rfl : dV = .none := Dflts.none hD hdf
  obtain rfl : kV = .none := Dflts.noKw hD
  obtain ⟨a, vs, ns, rfl, rfl, hobj, hints, hlen⟩ := script_of hn hpre hwl
  refine enter_call (codeAny_mono (call w s₀ s₁ mg mb fa o pm cd doc a vs ns G Y ho (fd_plain hd) hcd hmg hobj hints hlen hg) fun r s' hq => ?_)
  obtain ⟨rfl, h2, h3, h4⟩ := hq
  exact ⟨.inl ⟨.bool true, .bool true, [], rfl, fun _ => rfl, .bool true, post_true l _, fun _ => ⟨List.Pairwise.nil, fun _ hm => (nomatch hm)⟩⟩, h2, h3, h4⟩

/-! ### rules over ANY heap (no ledger) from facts about the written part K: the library's own take a ledger (News) for what they write -/
section
variable {prog : Program} {w : World} {A : Around} {E : Value → Shared → Prop} {s : Shared} {K : Frag}

end
end Att

namespace L2
open PySem PySem.Spec PyProof.Rows

theorem vals_ints : ∀ {vs : List Value} {ns : List Int}, IntsAre vs ns → Vals (ns.map V.int) vs
  | _, _, .nil => .nil
  | _, _, .cons n t h => .cons ⟨t, rfl⟩ (vals_ints h)

/-- nothing is tracked but the script, known to the object (or it is an object of the module) -/
def Only (H : Hp) : Prop := ∀ b, H b = none ∨ ∃ o xs, H b = some (.frz o (.lst xs))

/-- THE HEAD: the law's promise, at the heap behind the top. F, the promise of the law's def, may use that base is part of the heap (so K.In base, base.Ns mainGlobals mg stand in Mod) -/
theorem law_call {P : Program} {w : World} {K : PySem.W.Frag} {mg mb : Str → Option Value} {CX : CXT} {k : Nat} {fa a : Addr} {fd : FuncData} {x : Str} {sp : Sp} {s₁ : Shared} {vs : List Value} {ns : List Int}
    (KX : K.In s₁.heap) (hns : s₁.heap.Ns mainGlobals mg) (hb : s₁.heap.Ns builtinsNs mb) (hbb : ∀ x : Str, x ≠ "__name__" → mb x = bootBuiltins x) (hlim : s₁.heap.NoLimit) (hg : s₁.gens = #[])
    (ha : s₁.heap.get? a = some { cls := .type "list", data := .seq vs.toArray }) (hi : IntsAre vs ns) (hl : ns.length ≤ sizeLine) (hr : Room k callerA)
    (F : ∀ base : Heap, K.In base → base.Ns mainGlobals mg → FnOk P w K mg base CX k fa fd [x] sp) (hbind : ∀ (s : Shared) (u : Value), BindsTo s fd ⟨[u], []⟩ [(x, u)])
    (hsp : ∀ H : Hp, Only H → SqL K H a (ns.map V.int) → sp [.ref a] H (fun v _ => v = .bl true) fun _ _ _ => False)
    (hCX : ∀ H e s', CX [] H s₁ (fun _ _ _ => False) e s' → False) :
    codeAny (model P w) callerA (.call (.ref fa) ⟨[.ref a], []⟩) (fun r s' => r = .ok (.ret (.bool true)) ∧ OldK s₁.heap s'.heap ∧ s'.os = s₁.os ∧ AllBare s'.gens) s₁ := by
  have rv := vals_ints hi
  have lenV := hi.length
  -- from an abstract heap in which nothing but the script may be tracked
  have core : ∀ H : Hp, Only H → SqL K H a (ns.map V.int) → HOk P w H s₁.heap → (∀ b, H b ≠ none → b = a) → (H a ≠ none → K.lookup a = none) →
      codeAny (model P w) callerA (.call (.ref fa) ⟨[.ref a], []⟩) (fun r s' => r = .ok (.ret (.bool true)) ∧ OldK s₁.heap s'.heap ∧ s'.os = s₁.os ∧ AllBare s'.gens) s₁ := by
    intro H hO hS hok hA hK
    have base_of : ∀ {b : Addr} {o : Obj}, s₁.heap.get? b = some o → H b = none → (hidT s₁.heap H).get? b = some o := fun e n => hidT_get e n
    have noA : ∀ {b : Addr} {o : Obj} {es : Array DictEntry} {ep : Nat}, s₁.heap.get? b = some o → o.data = .dict es ep → H b = none := fun {b o es ep} e d => by
      cases q : H b with
      | none => rfl
      | some u =>
        have e' : b = a := hA b (by rw [q]; simp)
        subst e'
        rw [ha] at e; cases e
        have d' : Data.seq vs.toArray _ = Data.dict es ep := d
        cases d'
    have nsK : ∀ {b : Addr} {m : Str → Option Value}, s₁.heap.Ns b m → (hidT s₁.heap H).Ns b m := fun {b m} ⟨o, es, ep, e, d, r⟩ => ⟨o, es, ep, base_of e (noA e d), d, r⟩
    have hKb : K.In (hidT s₁.heap H) := fun b o e => base_of (KX b o e) (by
      cases q : H b with
      | none => rfl
      | some u =>
        have e' : b = a := hA b (by rw [q]; simp)
        subst e'
        rw [hK (by rw [q]; simp)] at e; cases e)
    have hM : Mod K mg (hidT s₁.heap H) := ⟨hKb, nsK hns, ⟨mb, nsK hb, hbb⟩, let ⟨mc, h1, h2⟩ := hlim; ⟨mc, nsK h1, h2⟩⟩
    have e0 : Env0 P w K mg (hidT s₁.heap H) callerA [] s₁ H := ⟨rfl, hM, fun b o e => of_hidT e, Nat.le_of_eq (hidT_size _ _), trivial, fun b hb => absurd (show b ∈ ([] : List Addr) from hb) (by simp), hok, .of_eq hg⟩
    refine codeAny_mono ((F _ hKb (nsK hns)).run callerA [] s₁ H ⟨[.ref a], []⟩ [.ref a] [.ref a] _ _ hr e0 (hbind s₁ (.ref a)) (.cons rfl .nil) (hsp H hO hS)) fun r s' h => ?_
    cases r with
    | error e => exact (hCX H e s' h).elim
    | ok fl =>
      cases fl with
      | next => exact False.elim h
      | brk => exact False.elim h
      | cont => exact False.elim h
      | ret u =>
        obtain ⟨v, H', os, bare, un, hok', r', q⟩ := h
        have q' : v = .bl true := q
        subst q'
        obtain rfl : u = Value.bool true := r'
        refine ⟨rfl, OldK.of_keep fun b o e => ?_, os, bare⟩
        cases q : H b with
        | none => exact un.keep b o e q (by intro z; exact absurd (show b ∈ ([] : List Addr) from z) (by simp)) (by simp)
        | some u =>
          rcases hO b with z | ⟨ob, xs, z⟩
          · rw [q] at z; cases z
          · have z2 := un.frzs b ob _ z
            obtain ⟨e1, _⟩ := hok b _ z
            obtain ⟨e2, _⟩ := hok' b _ z2
            rw [e] at e1; cases e1
            exact e2
  cases hk : K.lookup a with
  | some o =>
    -- the script is one of the module's own objects
    have e := KX a o hk
    rw [ha] at e
    cases e
    refine core (fun _ => none) (fun _ => .inl rfl) (.inr ⟨_, vs.toArray, _, hk, rfl, rfl, rfl, by rw [List.size_toArray, lenV]; exact hl, by simpa using rv⟩) (fun b u z => by have z' : (none : Option HO) = some u := z; cases z') (fun b z => absurd rfl z) fun z => absurd rfl z
  | none =>
    refine core (fun b => if b = a then some (.frz { cls := .type "list", data := .seq vs.toArray } (.lst (ns.map V.int))) else none) (fun b => ?_) (.inl (.inr ⟨{ cls := .type "list", data := .seq vs.toArray }, if_pos rfl⟩)) (fun b u z => ?_) (fun b z => ?_) fun _ => hk
    · by_cases hb : b = a
      · exact .inr ⟨_, _, if_pos hb⟩
      · exact .inl (if_neg hb)
    · by_cases hb : b = a
      · have z' := (if_pos hb).symm.trans z
        cases z'
        subst hb
        exact ⟨ha, by rw [List.length_map]; exact hl, vs, _, rv, ha⟩
      · have z' := (if_neg hb).symm.trans z
        cases z'
    · by_cases hb : b = a
      · exact hb
      · exact absurd (if_neg hb) z
end L2

namespace L2
open PySem PySem.Spec PyProof.Rows

/-- the goal that k_head leaves (case hc), from the law's promise. F gives the function object fd (K's own) once, then the promise over every base -/
theorem walk_of {l : PySem.W.OpenLaw} {n k : Nat} {q : Program} {loose : List Str} {XP : (Str → Option Value) → Heap → Prop} {YP : World → Heap → Prop} {d : DefRec} {K : Params → PySem.W.Frag} {CX : World → CXT} {sp : World → Sp} {x : Str}
    (hn : l.most = some n) (hn2 : n ≤ sizeLine) (hdf : d.params.defaults = []) (hr : Room k callerA)
    (hY : ∀ (w : World) (h : Heap), YP w h → (K w.params).In h)
    (F : ∀ (w : World) (mg : Str → Option Value) (fa : Addr) (h : Heap), (K w.params).In h → h.Ns mainGlobals mg → mg d.name = some (.ref fa) →
      ∃ fd : FuncData, (∀ (s : Shared) (u : Value), BindsTo s fd ⟨[u], []⟩ [(x, u)]) ∧
        ∀ base : Heap, (K w.params).In base → base.Ns mainGlobals mg → FnOk l.prog w (K w.params) mg base (CX w) k fa fd [x] (sp w))
    (hsp : ∀ (w : World) (H : Hp) (a : Addr) (ns : List Int), ns.length ≤ n → Only H → SqL (K w.params) H a (ns.map V.int) → sp w [.ref a] H (fun v _ => v = .bl true) fun _ _ _ => False)
    (hCX : ∀ (w : World) (H : Hp) (s : Shared) (e : Value) (s' : Shared), CX w [] H s (fun _ _ _ => False) e s' → False) :
    PySem.W.WalkO q loose XP YP l.row.toRowW d [] (fun f vs => PySem.call f vs) := by
  refine Att.attach_call hn hdf fun w s₀ s₁ mg mb fa o pm cd doc a vs ns G Y ho hd hcd hmg hobj hints hlen hg => ?_
  have KX := hY w _ Y
  obtain ⟨fd, hb, hF⟩ := F w mg fa _ KX G.T.g hmg
  exact law_call KX G.T.g G.T.b G.T.builtins G.T.nolimit hg hobj hints (Nat.le_trans hlen hn2) hr hF hb (fun H hO hS => hsp w H a ns hlen hO hS) fun H e s' => hCX w H s₁ e s'
end L2

/- THE LAST THEOREM (shape; LID, My.* are yours):
   My.Adr: a structure of the addresses that your layer names (classes, functions); My.Txt K t: a structure (Prop) of the equations over K;
   My.txt_mk : {K} {implicit addresses ..} (e1 : nsIn K mainGlobals "law" = some (some (.ref f))) (e2 : K.lookup f = some ⟨oc, od, .func (fnOf "law" "law" params body scope dV kV doc pm an cdv ct), sl⟩) (e3 : codeIn K cdv "law" = true) .. : ∃ t, My.Txt K t

set_option maxRecDepth 100000 in
set_option maxHeartbeats 0 in
theorem PySem.Challenge.cw_LID_holds : PySem.Challenge.rw_LID.Holds := by
  w_on; o_law; k_head; (case hw => w_witness2)
  k_fill
  refine L2.walk_of (l := PySem.Challenge.rw_LID) (n := 63) (k := 40) (x := "script") (CX := fun w => ..) (sp := fun _ => My.sp_law) rfl (by decide) rfl ⟨rfl, by decide, by decide⟩ (fun w h Y => PySem.W.kIn_of Y) ?F ?S ?C
  case F =>
    intro w mg fa h KX G hmg
    have T : ∃ t, My.Txt (L2.KOf KX) t := by
      dsimp only [L2.KOf]                          -- K must stand as «<heap const> w.params» for k_is
      refine' My.txt_mk ?e1 ?e2 ?e3 ..
      (case e1 => PySem.W.k_is)                    -- in the order: a name -> its address -> its object -> its parts
      (case e2 => PySem.W.k_is)
      ..
    obtain ⟨t, T⟩ := T
    have e0 := hmg.symm.trans (PySem.W.mg_of KX G T.law)
    cases e0                                       -- fa is the law's own address
    exact ⟨_, fun s u => .of_eq rfl, fun base kb nb => My.law_fn T kb nb⟩     -- if «.of_eq rfl» comes too early: refine' ⟨_, ?b, fun base kb nb => My.law_fn T kb nb⟩; exact fun s u => .of_eq rfl
  case S => exact fun w H a ns hl hO hS => ..
  case C => exact ..
(the tactic k_is has no namespace: write k_is) -/

/-! SHORT WORDS over the layer: a def of the text, its body, what a loop and a test want. -/
namespace L2
open PySem PySem.Spec PyProof.Rows

def defArgs (s : Stmt) : Arguments := match s with
  | .FunctionDef _ a _ _ _ _ _ _ _ _ => a
  | _ => { posonlyargs := [], args := [], vararg := none, kwonlyargs := [], kw_defaults := [], kwarg := none, defaults := [] }
def defBody (s : Stmt) : List Stmt := match s with
  | .FunctionDef _ _ b _ _ _ _ _ _ _ => b
  | _ => []
def defScope (s : Stmt) : Scope := match s with
  | .FunctionDef _ _ _ _ _ _ sc _ _ _ => sc
  | _ => { kind := .function, names := [], isGenerator := false, isCoroutine := false }

/-! ### no exception leaves a def -/
abbrev CX0 : CXT := fun _ _ _ _ _ _ => False
abbrev E0 : XK := fun _ _ _ => False
theorem pass0 {X : Cx} : Passes CX0 X E0 := fun _ _ _ _ _ _ _ h => h.elim

/-! ### a def (or method) of the text as it stands behind the top -/
structure Fun (K : PySem.W.Frag) (x qual : Str) (st : Stmt) (f : Addr) (fd : FuncData) : Prop where
  ex : ∃ (oc : Value) (od : Option Addr) (kV doc pm : Value) (an : Option Addr) (cdv ct : Value) (osl : Array (Option Value)),
    fd = PySem.W.fnOf x qual (defArgs st) (defBody st) (defScope st) .none kV doc pm an cdv ct ∧ K.lookup f = some ⟨oc, od, .func fd, osl⟩ ∧ PySem.W.codeIn K cdv qual = true
  kp : PySem.W.keepIn K (.ref f) = true
section
variable {P : Program} {w : World} {K : PySem.W.Frag} {mg : Str → Option Value} {base : Heap}
/-- THE RULE for a def: its body as a term of rules, and the reading of that term -/
theorem Fun.ok {x qual : Str} {st : Stmt} {f : Addr} {fd : FuncData} {N ps : List Str} {k : Nat} {sp : Sp} (F : Fun K x qual st f fd) (S : FnScope N ps (defScope st)) (len : ∀ vs H Q E, sp vs H Q E → vs.length = ps.length)
    (hbody : ∀ (cdv : Value) (A : Around) (outer : List Env) (s : Shared) (H : Hp) (vs : List V) (Q : VK) (E : XK), Room k (A.deeper (envOfC qual (defScope st) s.heap.objs.size f cdv)) → sp vs H Q E →
      ∃ t, PSs (cxOf CX0 P w K mg base N qual (defScope st) f cdv A outer s H E).nox (defBody st) t ∧ t { nx := fun _ H' => Q .non H', rt := Q } (start N vs) H) : FnOk P w K mg base CX0 (k + 1) f fd ps sp := by
  obtain ⟨oc, od, kV, doc, pm, an, cdv, ct, osl, rfl, lk, hcd⟩ := F.ex
  refine fn_of lk hcd S len fun A outer s H vs Q E hr hsp => ?_
  obtain ⟨t, h, q⟩ := hbody cdv A outer s H vs Q E hr hsp
  exact ⟨t, h.nox, q⟩
/-- how its arguments bind (no defaults): h is «fun _ _ _ _ _ _ us hl => match us, hl with | [_, _], _ => rfl», one _ a parameter -/
theorem Fun.binds {x qual : Str} {st : Stmt} {f : Addr} {fd : FuncData} {ps : List Str} (F : Fun K x qual st f fd)
    (h : ∀ (kV doc pm : Value) (an : Option Addr) (cdv ct : Value) (us : List Value), us.length = ps.length → bindArgs (PySem.W.fnOf x qual (defArgs st) (defBody st) (defScope st) .none kV doc pm an cdv ct) ⟨us, []⟩ = pure (ps.zip us)) : Binds K fd ps [] := by
  obtain ⟨oc, od, kV, doc, pm, an, cdv, ct, osl, rfl, lk, hcd⟩ := F.ex
  exact .all (h kV doc pm an cdv ct)
theorem fun_mk {x qual : Str} {st : Stmt} {f : Addr} {oc : Value} {od an : Option Addr} {osl : Array (Option Value)} {kV doc pm cdv ct : Value} (l : K.lookup f = some ⟨oc, od, .func (PySem.W.fnOf x qual (defArgs st) (defBody st) (defScope st) .none kV doc pm an cdv ct), osl⟩)
    (c : PySem.W.codeIn K cdv qual = true) (k : PySem.W.keepIn K (.ref f) = true) : Fun K x qual st f (PySem.W.fnOf x qual (defArgs st) (defBody st) (defScope st) .none kV doc pm an cdv ct) := ⟨⟨oc, od, kV, doc, pm, an, cdv, ct, osl, rfl, l, c⟩, k⟩
end
theorem small1000 {n : Nat} (h : n ≤ 1000) : n < sizeLine := Nat.lt_of_le_of_lt h (by decide)

/-! ### expressions in short: the name that stands in the i-th slot -/
section
variable {X : Cx}
theorem pv (i : Nat) {x : Str} {pos : Pos} (hN : X.N[i]? = some x := by rfl) (hv : Vis X.env.scope x := by first | exact Or.inl rfl | exact Or.inr (Or.inl rfl) | exact Or.inr (Or.inr rfl)) (hd : (x == ("__debug__" : Str)) = false := by decide)
    (hcd : (x == ("__classdict__" : Str)) = false := by decide) : PE X (.Name x pos) (tVar i) := pe_var hN hv hd hcd
end

/-! ### tests -/
theorem iteF {A B : Prop} (h : B) : if false = true then A else B := by
  rw [if_neg Bool.false_ne_true]
  exact h
theorem iteT {A B : Prop} (h : A) : if true = true then A else B := by
  rw [if_pos rfl]
  exact h
theorem ite2 {c A B : Prop} [Decidable c] (h1 : c → A) (h2 : ¬ c → B) : if c then A else B := by
  by_cases h : c
  · rw [if_pos h]
    exact h1 h
  · rw [if_neg h]
    exact h2 h
theorem iteNS {c A B : Prop} [Decidable c] (hc : c) (h : B) : if (!decide c) = true then A else B := by
  rw [decide_eq_true hc]
  exact iteF h

/-! ### heaps -/
/-- all that was tracked is as it was -/
def Same (H H' : Hp) : Prop := ∀ b o, H b = some o → H' b = some o
theorem Same.refl (H : Hp) : Same H H := fun _ _ h => h
theorem Same.trans {H H1 H2 : Hp} (a : Same H H1) (b : Same H1 H2) : Same H H2 := fun c o h => b c o (a c o h)
theorem Same.free {H H' : Hp} (e : Same H H') {l : Addr} (h : H' l = Option.none) : H l = Option.none := by
  cases q : H l with
  | none => rfl
  | some o =>
    rw [e l o q] at h
    cases h
theorem Same.seq {K : PySem.W.Frag} {H H' : Hp} {a : Addr} {xs : List V} (e : Same H H') (h : SqL K H a xs) : SqL K H' a xs := by
  rcases h with (h | ⟨o, h⟩) | h
  · exact .inl (.inl (e _ _ h))
  · exact .inl (.inr ⟨o, e _ _ h⟩)
  · exact .inr h

end L2

set_option maxHeartbeats 2000000
/-! plain mathematics of frames and boards -/
namespace CB

/-- cell k of the script, nought beyond its end -/
def cell (ns : List Int) (k : Nat) : Int := ns.getD k 0

/-- what a board is worth, by rising lines -/
def wv : List Int → List Int → Int
  | _, [] => 0
  | [], b :: bs => b + wv [] bs
  | r :: rs, b :: bs => b + r * wv rs bs

/-- the plain board of a number -/
def dg : List Int → Int → List Int
  | [], n => [n]
  | r :: rs, n => n % r :: dg rs (n / r)

/-- the lines' worths from p on -/
def ws : Int → List Int → List Int
  | p, [] => [p]
  | p, r :: rs => p :: ws (p * r) rs

theorem ws_length (p : Int) (rs : List Int) : (ws p rs).length = rs.length + 1 := by
  induction rs generalizing p with
  | nil => rfl
  | cons r rs ih => simp [ws, ih]

/-- sum of products -/
def dot : List Int → List Int → Int
  | a :: as, b :: bs => a * b + dot as bs
  | _, _ => 0

theorem dot_eq_sum (as bs : List Int) : dot as bs = ((as.zip bs).map fun p => p.1 * p.2).sum := by
  induction as generalizing bs with
  | nil => simp [dot]
  | cons a as ih =>
    cases bs with
    | nil => simp [dot]
    | cons b bs => simp [dot, ih]

theorem dot_ws (p : Int) (rs bs : List Int) (h : bs.length = rs.length + 1) : dot (ws p rs) bs = p * wv rs bs := by
  induction rs generalizing p bs with
  | nil =>
    match bs, h with
    | [b], _ => simp [ws, dot, wv]
  | cons r rs ih =>
    match bs, h with
    | b :: bs, h =>
      simp only [ws, dot, wv]
      rw [ih (p * r) bs (by simpa using h), Int.mul_add, Int.mul_assoc]

/-- a board of a frame -/
def Bd (rs bs : List Int) : Prop := bs.length = rs.length + 1 ∧ ∀ b ∈ bs, 0 ≤ b
def Fr (rs : List Int) : Prop := rs.length ≤ 11 ∧ ∀ r ∈ rs, 2 ≤ r ∧ r ≤ 12

theorem wv_nonneg {rs bs : List Int} (hr : ∀ r ∈ rs, 0 ≤ r) (hb : ∀ b ∈ bs, 0 ≤ b) : 0 ≤ wv rs bs := by
  induction bs generalizing rs with
  | nil => cases rs <;> simp [wv]
  | cons b bs ih =>
    have h0 : 0 ≤ b := hb b (by simp)
    have hb' : ∀ x ∈ bs, 0 ≤ x := fun x hx => hb x (by simp [hx])
    cases rs with
    | nil =>
      have := ih (rs := []) (by simp) hb'
      simp only [wv]; omega
    | cons r rs =>
      have h1 := ih (rs := rs) (fun x hx => hr x (by simp [hx])) hb'
      have h2 : 0 ≤ r := hr r (by simp)
      have h3 := Int.mul_nonneg h2 h1
      simp only [wv]; omega

def pr : List Int → Int
  | [] => 1
  | r :: rs => r * pr rs
def wsI : Int → List Int → List Int
  | _, [] => []
  | p, r :: rs => p :: wsI (p * r) rs
theorem ws_split (p : Int) (rs : List Int) : ws p rs = wsI p rs ++ [p * pr rs] := by
  induction rs generalizing p with
  | nil => simp [ws, wsI, pr]
  | cons r rs ih => simp [ws, wsI, pr, ih, Int.mul_assoc]
theorem pr_snoc (rs : List Int) (r : Int) : pr (rs ++ [r]) = pr rs * r := by
  induction rs with
  | nil => simp [pr]
  | cons a rs ih => simp [pr, ih, Int.mul_assoc]
theorem wsI_snoc (p : Int) (rs : List Int) (r : Int) : wsI p (rs ++ [r]) = wsI p rs ++ [p * pr rs] := by
  induction rs generalizing p with
  | nil => simp [wsI, pr]
  | cons a rs ih => simp [wsI, pr, ih, Int.mul_assoc]
theorem ws_snoc (p : Int) (rs : List Int) (r : Int) : ws p (rs ++ [r]) = ws p rs ++ [p * pr rs * r] := by
  rw [ws_split, wsI_snoc, pr_snoc, ← ws_split, Int.mul_assoc]
theorem take_snoc {α : Type} {l : List α} {i : Nat} {x : α} (h : l[i]? = some x) : l.take (i + 1) = l.take i ++ [x] := by
  rw [List.take_add_one, h]; rfl

theorem ws_bound {rs : List Int} (hr : ∀ r ∈ rs, 2 ≤ r ∧ r ≤ 12) (p : Int) (hp : 0 < p) : ∀ w ∈ ws p rs, 0 < w ∧ w ≤ p * 12 ^ rs.length := by
  induction rs generalizing p with
  | nil =>
    intro w hw
    simp [ws] at hw
    subst hw
    simp [hp]
  | cons r rs ih =>
    intro w hw
    obtain ⟨h1, h2⟩ := hr r (by simp)
    have hpr : 0 < p * r := Int.mul_pos hp (by omega)
    have hpw : (0 : Int) < 12 ^ rs.length := Int.pow_pos (by decide)
    have hle : p * r ≤ p * 12 := Int.mul_le_mul_of_nonneg_left h2 (Int.le_of_lt hp)
    have e : p * 12 ^ (rs.length + 1) = p * 12 * 12 ^ rs.length := by rw [Int.pow_succ, Int.mul_comm (12 ^ rs.length) 12, Int.mul_assoc]
    have hq : p * r * 12 ^ rs.length ≤ p * 12 * 12 ^ rs.length := Int.mul_le_mul_of_nonneg_right hle (Int.le_of_lt hpw)
    have h12 : p ≤ p * 12 := by omega
    have h13 : p * 12 * 1 ≤ p * 12 * 12 ^ rs.length := Int.mul_le_mul_of_nonneg_left hpw (by omega)
    simp only [ws, List.mem_cons] at hw
    simp only [List.length_cons]
    rw [e]
    rcases hw with rfl | hw
    · exact ⟨hp, by omega⟩
    · obtain ⟨q1, q2⟩ := ih (fun x hx => hr x (by simp [hx])) (p * r) hpr w hw
      exact ⟨q1, Int.le_trans q2 hq⟩
theorem ws_small {rs : List Int} (hF : Fr rs) : ∀ w ∈ ws 1 rs, 0 < w ∧ w ≤ 743008370688 := by
  intro w hw
  obtain ⟨h1, h2⟩ := ws_bound hF.2 1 (by decide) w hw
  refine ⟨h1, Int.le_trans h2 ?_⟩
  have h3 : (12 : Int) ^ rs.length ≤ 12 ^ 11 := by
    have := Nat.pow_le_pow_right (show 0 < 12 by decide) hF.1
    exact_mod_cast this
  have h4 : (12 : Int) ^ 11 = 743008370688 := by decide
  omega
/-- is each line but the last below its ratio -/
def plainB (rs bs : List Int) : Bool := (List.zipWith (fun c r => decide (c < r)) bs rs).all id
/-- the lines that could be raised -/
def tall (rs bs : List Int) (i : Nat) : Bool := decide (rs.getD i 0 ≤ bs.getD i 0)
end CB

/-! raisings, steps -/
namespace CB
/-- how often each line is raised, c counters coming from below -/
def rz : Int → List Int → List Int → List Int
  | c, r :: rs, b :: bs => (b + c) / r :: rz ((b + c) / r) rs bs
  | _, _, _ => []
/-- what comes to the line behind -/
def cr : Int → List Int → List Int → Int
  | c, r :: rs, b :: bs => cr ((b + c) / r) rs bs
  | c, _, _ => c
theorem rz_snoc (c : Int) (rs bs : List Int) (r b : Int) (h : rs.length = bs.length) : rz c (rs ++ [r]) (bs ++ [b]) = rz c rs bs ++ [(b + cr c rs bs) / r] := by
  induction rs generalizing c bs with
  | nil =>
    match bs, h with
    | [], _ => simp [rz, cr]
  | cons a rs ih =>
    match bs, h with
    | d :: bs, h => simp [rz, cr, ih _ bs (by simpa using h)]
theorem cr_snoc (c : Int) (rs bs : List Int) (r b : Int) (h : rs.length = bs.length) : cr c (rs ++ [r]) (bs ++ [b]) = (b + cr c rs bs) / r := by
  induction rs generalizing c bs with
  | nil =>
    match bs, h with
    | [], _ => simp [cr]
  | cons a rs ih =>
    match bs, h with
    | d :: bs, h => simp [cr, ih _ bs (by simpa using h)]
theorem rz_length (c : Int) (rs bs : List Int) (h : rs.length ≤ bs.length) : (rz c rs bs).length = rs.length := by
  induction rs generalizing c bs with
  | nil => simp [rz]
  | cons a rs ih =>
    match bs, h with
    | d :: bs, h => simp [rz, ih _ bs (by simpa using h)]
theorem rz_take (c : Int) (rs bs : List Int) (h : rs.length ≤ bs.length) : rz c rs (bs.take rs.length) = rz c rs bs := by
  induction rs generalizing c bs with
  | nil => simp [rz]
  | cons a rs ih =>
    match bs, h with
    | d :: bs, h => simp [rz, ih _ bs (by simpa using h)]

def boardN (ns : List Int) (first n : Nat) (m : Int) : List Int := (List.range (n + 1)).map fun k => cell ns (first + k) % m
theorem boardN_ok (ns : List Int) (first : Nat) {rs : List Int} {n : Nat} {m : Int} (h : rs.length = n) (hm : 0 < m) : Bd rs (boardN ns first n m) := by
  refine ⟨by simp [boardN, h], fun b hb => ?_⟩
  unfold boardN at hb
  obtain ⟨k, _, rfl⟩ := List.mem_map.mp hb
  exact Int.emod_nonneg _ (by omega)
theorem boardN_le (ns : List Int) (first n : Nat) {m : Int} (hm : 0 < m) : ∀ b ∈ boardN ns first n m, b ≤ m - 1 := by
  intro b hb
  unfold boardN at hb
  obtain ⟨k, _, rfl⟩ := List.mem_map.mp hb
  have := Int.emod_lt_of_pos (cell ns (first + k)) hm
  omega

end CB

/-! the steps that can be done -/
namespace CB
def low (bs : List Int) (k : Nat) : Bool := decide (1 ≤ bs.getD (k + 1) 0)
def canAt (rs bs : List Int) (k : Nat) : List (Nat × Bool) := (if tall rs bs k = true then [(k, true)] else []) ++ (if low bs k = true then [(k, false)] else [])
def canN (rs bs : List Int) (n : Nat) : List (Nat × Bool) := (List.range n).flatMap (canAt rs bs)
def canL (rs bs : List Int) : List (Nat × Bool) := canN rs bs rs.length
theorem canN_succ (rs bs : List Int) (n : Nat) : canN rs bs (n + 1) = canN rs bs n ++ canAt rs bs n := by
  unfold canN
  rw [List.range_succ, List.flatMap_append]
  simp
theorem canAt_length (rs bs : List Int) (k : Nat) : (canAt rs bs k).length ≤ 2 := by
  unfold canAt
  split <;> split <;> simp
theorem canN_length (rs bs : List Int) (n : Nat) : (canN rs bs n).length ≤ 2 * n := by
  induction n with
  | zero => simp [canN]
  | succ n ih =>
    rw [canN_succ, List.length_append]
    have := canAt_length rs bs n
    omega
end CB

namespace L2
open PySem PySem.Spec PyProof.Rows
section
variable {X : Cx}
/-- a module's number -/
theorem pe_globI {x : Str} {i : Int} {pos : Pos} (hg : Gl X x) (hm : ∃ t, X.mg x = some (.int i t)) (hd : (x == ("__debug__" : Str)) = false := by decide) : PE X (.Name x pos) (tC (.int i)) := by
  obtain ⟨t, hm⟩ := hm
  exact pe_glob hg hm ⟨t, rfl⟩ hd
end
section
variable {X : Cx}
/-- a built-in class as a value -/
theorem pe_ty {x : Str} {n : String} {pos : Pos} (hg : Gl X x) (hm : X.mg x = none) (hv : bootBuiltins x = some (.type n)) (hn : x ≠ "__name__" := by decide) (hd : (x == ("__debug__" : Str)) = false := by decide) : PE X (.Name x pos) (tC (.ty n)) :=
  pe_bltn (v := .ty n) hg hm hv rfl hn hd
end
theorem iteDF {c A B : Prop} [Decidable c] (hc : ¬ c) (h : B) : if decide c = true then A else B := by
  rw [decide_eq_false hc]
  exact iteF h
theorem iteDT {c A B : Prop} [Decidable c] (hc : c) (h : A) : if decide c = true then A else B := by
  rw [decide_eq_true hc]
  exact iteT h
theorem ite2D {c A B : Prop} [Decidable c] (h1 : c → A) (h2 : ¬ c → B) : if decide c = true then A else B := by
  by_cases h : c
  · exact iteDT h (h1 h)
  · exact iteDF h (h2 h)
theorem iteBT {b : Bool} {A B : Prop} (hb : b = true) (h : A) : if b = true then A else B := by
  rw [if_pos hb]
  exact h
theorem iteBF {b : Bool} {A B : Prop} (hb : b = false) (h : B) : if b = true then A else B := by
  rw [hb]
  exact iteF h
theorem int_at {rs : List Int} {i : Nat} {y : V} (h : (rs.map V.int)[i]? = some y) : ∃ z, rs[i]? = some z ∧ y = V.int z := by
  rw [List.getElem?_map] at h
  cases e : rs[i]? with
  | none => rw [e] at h; cases h
  | some z => rw [e] at h; exact ⟨z, rfl, (Option.some.inj h).symm⟩
theorem at_int {rs : List Int} {i : Nat} {z : Int} (h : rs[i]? = some z) : (rs.map V.int)[i]? = some (V.int z) := by
  rw [List.getElem?_map, h]
  rfl
theorem lt_len {α : Type} {l : List α} {i : Nat} {x : α} (h : l[i]? = some x) : i < l.length := (List.getElem?_eq_some_iff.mp h).1
theorem atIn {rs : List Int} {i : Nat} {z : Int} (h : rs[i]? = some z) : atI (rs.map V.int) (i : Int) = some (V.int z) := atI_nat (at_int h)
theorem ixN_nat {n j : Nat} (h : j < n) : ixN n (j : Int) = some j := by
  unfold ixN
  rw [if_pos (by omega), if_pos (by omega), Int.toNat_natCast]
theorem set_int (rs : List Int) (i : Nat) (z : Int) : (rs.map V.int).set i (V.int z) = (rs.set i z).map V.int := by rw [List.map_set]
/-- a function of two ints over values -/
def f2 (g : Int → Int → V) : V → V → V
  | .int i, .int j => g i j
  | _, _ => .non
theorem zipWith_f2 (g : Int → Int → V) (as bs : List Int) : List.zipWith (f2 g) (as.map V.int) (bs.map V.int) = List.zipWith g as bs := by
  rw [List.zipWith_map]
  rfl
theorem Same.upd {H H2 : Hp} (e : Same H H2) {l : Addr} {o : HO} (h : H l = none) : Same H (upd H2 l o) := fun b u q => by
  rw [upd_ne (ne_of_none q h)]
  exact e b u q
theorem Same.new {H : Hp} {l : Addr} {o : HO} (h : H l = none) : Same H (L2.upd H l o) := (Same.refl H).upd h
end L2

namespace L2
open PySem PySem.Spec PyProof.Rows

/-! ### deep data: == and in over lists and tuples of flat values -/
mutual
inductive DatV (K : PySem.W.Frag) (H : Hp) : V → PyData → Prop
  | non : DatV K H .non .none
  | bl (b : Bool) : DatV K H (.bl b) (.bool b)
  | int (i : Int) : DatV K H (.int i) (.int i)
  | str (x : Str) : DatV K H (.str x) (.str x)
  | lst {a : Addr} {xs : List V} {ds : List PyData} : SqL K H a xs → DatVs K H xs ds → DatV K H (.ref a) (.list ds)
  | tup {a : Addr} {xs : List V} {ds : List PyData} : SqT K H a xs → DatVs K H xs ds → DatV K H (.ref a) (.tuple ds)
inductive DatVs (K : PySem.W.Frag) (H : Hp) : List V → List PyData → Prop
  | nil : DatVs K H [] []
  | cons {x : V} {d : PyData} {xs : List V} {ds : List PyData} : DatV K H x d → DatVs K H xs ds → DatVs K H (x :: xs) (d :: ds)
end

section
variable {X : Cx} {pins : List (Addr × Obj)} {σ : St} {H : Hp} {s : Shared}
mutual
theorem datV_reads (I : Inv X pins σ H s) : ∀ {x : V} {d : PyData} {u : Value}, DatV X.K H x d → RelV x u → ∃ as, Reads s.heap u d as
  | _, _, _, .non, r => by
    cases (show _ = Value.none from r)
    exact ⟨[], .none⟩
  | _, _, _, .bl b, r => by
    cases (show _ = Value.bool b from r)
    exact ⟨[], .bool b⟩
  | _, _, _, .int i, r => by
    obtain ⟨t, e⟩ := (show ∃ t, _ = Value.int i t from r)
    cases e
    exact ⟨[], .int i t⟩
  | _, _, _, .str x, r => by
    obtain ⟨t, e⟩ := (show ∃ t, _ = Value.str x t from r)
    cases e
    exact ⟨[], .str x t⟩
  | _, _, _, .lst (a := a) hq hs, r => by
    cases (show _ = Value.ref a from r)
    obtain ⟨its, rv, ⟨o, n, e, c, _, dt⟩, _⟩ := I.list hq
    obtain ⟨as, q⟩ := datVs_reads I hs rv
    exact ⟨_, .list e c dt (by simpa using q)⟩
  | _, _, _, .tup (a := a) hq hs, r => by
    cases (show _ = Value.ref a from r)
    obtain ⟨its, rv, ⟨o, e, c, n, dt⟩, _⟩ := I.tuple hq
    obtain ⟨as, q⟩ := datVs_reads I hs rv
    exact ⟨_, .tuple e c dt (by simpa using q)⟩
theorem datVs_reads (I : Inv X pins σ H s) : ∀ {xs : List V} {ds : List PyData} {us : List Value}, DatVs X.K H xs ds → Vals xs us → ∃ as, ReadsAll s.heap us ds as
  | _, _, _, .nil, .nil => ⟨[], .nil⟩
  | _, _, _, .cons h t, .cons r q => by
    obtain ⟨as, a⟩ := datV_reads I h r
    obtain ⟨bs, b⟩ := datVs_reads I t q
    exact ⟨_, .cons a b⟩
end
end

/-- two data compared -/
def rEqD (K : PySem.W.Frag) (neg : Bool) : R2 := fun x y H Q => ∃ da db, DatV K H x da ∧ DatV K H y db ∧ SeqAt.shaped da = true ∧ SeqAt.shaped db = true ∧ Q (.bl (if neg then !PyData.eqv da db else PyData.eqv da db)) H
section
variable {X : Cx}
theorem op_neD (hu : X.A.units + 64 < cLine) : OpR X (compareOp .NotEq) (rEqD X.K true) := by
  intro pins s σ H x y v u Q I rx ry h
  obtain ⟨da, db, hx, hy, sx, sy, q⟩ := h
  obtain ⟨as, ra⟩ := datV_reads I hx rx
  obtain ⟨bs, rb⟩ := datV_reads I hy ry
  exact ne_dataH ra rb sx sy hu ⟨.bl _, H, I, rfl, q⟩
end

/-! lists of ints as data -/
section
variable {K : PySem.W.Frag} {H : Hp}
theorem datVs_ints : ∀ ns : List Int, DatVs K H (ns.map V.int) (ns.map PyData.int)
  | [] => .nil
  | n :: ns => .cons (.int n) (datVs_ints ns)
theorem datV_ints {a : Addr} {ns : List Int} (h : SqL K H a (ns.map V.int)) : DatV K H (.ref a) (.list (ns.map PyData.int)) := .lst h (datVs_ints ns)
end
theorem eqvAll_ints : ∀ ns ms : List Int, PyData.eqvAll (ns.map PyData.int) (ms.map PyData.int) = decide (ns = ms)
  | [], [] => by simp [PyData.eqvAll]
  | [], _ :: _ => by simp [PyData.eqvAll]
  | _ :: _, [] => by simp [PyData.eqvAll]
  | n :: ns, m :: ms => by
    simp only [List.map_cons, PyData.eqvAll, eqvAll_ints ns ms, PyData.eqv]
    by_cases h : n = m <;> simp [h]
theorem eqv_ints (ns ms : List Int) : PyData.eqv (.list (ns.map PyData.int)) (.list (ms.map PyData.int)) = decide (ns = ms) := by
  simp only [PyData.eqv]
  exact eqvAll_ints ns ms
theorem shaped_intsL (ns : List Int) : SeqAt.shaped (.list (ns.map PyData.int)) = true := PySem.W.shaped_ints ns
section
variable {K : PySem.W.Frag} {H : Hp}
end
end L2

namespace L2
open PySem PySem.Spec PyProof.Rows

/-! ### isinstance, sum, all, min of lists -/
section
variable {X : Cx}
/-- behind a rule of the ledger's make that changed nothing but the heap's end -/
theorem Inv.viaN {pins : List (Addr × Obj)} {σ : St} {H : Hp} {s : Shared} {h' : Heap} {tk : Nat} {m : Str → Option Value} (I : Inv X pins σ H s) (hm : s.heap.Ns X.env.locals m) (F' : Fr X.base X.env.locals h' m)
    (N' : News X.base X.env.locals h' (allNews X.base s.heap X.env.locals)) : Inv X pins σ H { s with heap := h', toks := tk } := by
  have kp : ∀ b o, b ≠ X.env.locals → s.heap.get? b = some o → h'.get? b = some o := fun b o hb e => by
    cases q : X.base.get? b with
    | some u =>
      have e2 := I.bk b u q
      rw [e] at e2
      cases e2
      exact F'.keep b _ q
    | none => exact (N' (b, o) (mem_allNews hb q e)).1
  have neL : ∀ b o, H b = some o → b ≠ X.env.locals := fun b o e z => by
    rw [z, I.free] at e
    cases e
  refine I.step (g' := s.gens) (t' := tk) (d' := s.drawn) (ch := []) (fun _ z => nomatch z) (fun b o hb _ _ e _ => kp b o hb e) (fun b o hb _ _ e _ => ⟨o.slots, kp b o hb e⟩) (fun _ _ _ _ n => n) (fun b o _ e => ?_)
    (fun _ _ e => e) (fun _ _ _ e => e) (fun b ps e => ⟨#[], by rw [e]; simp⟩) (fun m' hm' => ?_) (fun b o e => (I.hok b o e).stay (fun c v hc q => ?_) (fun _ q => q) fun _ _ q => q) I.bare
  · by_cases hb : b = X.env.locals
    · obtain ⟨ob, _, _, z, _⟩ := F'.ns
      exact ⟨ob, by rw [hb]; exact z⟩
    · exact ⟨o, kp b o hb e⟩
  · have em : m' = m := by
      obtain ⟨o1, es1, ep1, a1, b1, _, c1⟩ := hm
      obtain ⟨o2, es2, ep2, a2, b2, _, c2⟩ := hm'
      rw [a1] at a2
      cases a2
      rw [b1] at b2
      cases b2
      funext x
      rw [← c1 x, ← c2 x]
    rw [em]
    exact F'.ns
  · rcases hc with z | z
    · exact kp c v (by rw [z]; exact neL b o e) q
    · exact kp c v (neL c _ z) q

theorem call_sum_ints (hc : X.calm = true) : CallR X (.builtin "sum") (fun xs H Q => ∃ (p : Addr) (ns : List Int), xs = [.ref p] ∧ SqL X.K H p (ns.map V.int) ∧ Q (.int ns.sum) H) := by
  intro pins s σ H xs us Q I r h
  obtain ⟨p, ns, rfl, hq, q⟩ := h
  obtain ⟨u, rfl, rx⟩ := vals1 r
  cases (show u = Value.ref p from rx)
  obtain ⟨its, rv, pl, _⟩ := I.list hq
  obtain ⟨m, hm, _⟩ := I.loc
  exact LSm.sum_ints ⟨hm, I.bk, Nat.le_trans I.ok.bsz I.ok.above⟩ news_all (I.ok.hd hc) pl.isList (intsAre_of rv) fun h' tk t' F' N' => ⟨.int ns.sum, H, I.viaN hm F' N', ⟨_, rfl⟩, q⟩

theorem boolsAre_of : ∀ {bs : List Bool} {us : List Value}, Vals (bs.map V.bl) us → LSm.BoolsAre us bs
  | [], _, .nil => .nil
  | b :: bs, _, .cons r t => by
    cases (show _ = Value.bool b from r)
    exact .cons b (boolsAre_of t)
theorem call_all_bools (hc : X.calm = true) : CallR X (.builtin "all") (fun xs H Q => ∃ (p : Addr) (bs : List Bool), xs = [.ref p] ∧ SqL X.K H p (bs.map V.bl) ∧ Q (.bl (bs.all id)) H) := by
  intro pins s σ H xs us Q I r h
  obtain ⟨p, bs, rfl, hq, q⟩ := h
  obtain ⟨u, rfl, rx⟩ := vals1 r
  cases (show u = Value.ref p from rx)
  obtain ⟨its, rv, pl, _⟩ := I.list hq
  obtain ⟨m, hm, _⟩ := I.loc
  exact LSm.all_bools ⟨hm, I.bk, Nat.le_trans I.ok.bsz I.ok.above⟩ news_all (I.ok.hd hc) pl.isList (boolsAre_of rv) fun h' tk F' N' => ⟨.bl (bs.all id), H, I.viaN hm F' N', rfl, q⟩
end
end L2

namespace L2
open PySem PySem.Spec PyProof.Rows

/-! ### a comprehension: a block with its own names, over the frame's cells -/
def clOf (env : Env) : List (Str × NameKind) → List (Str × Addr) → List (Str × Addr)
  | [], acc => acc
  | p :: r, acc => clOf env r (if p.2 = .free then (match env.cells.lookup p.1 with | some c => (p.1, c) :: acc | none => acc) else acc)
theorem clOf_sub {env : Env} {x : Str} {c : Addr} : ∀ {ns : List (Str × NameKind)} {acc : List (Str × Addr)}, (clOf env ns acc).lookup x = some c → acc.lookup x = some c ∨ env.cells.lookup x = some c
  | [], _, h => .inl h
  | p :: r, acc, h => by
    unfold clOf at h
    rcases clOf_sub h with h | h
    · by_cases k : p.2 = .free
      · rw [if_pos k] at h
        cases e : env.cells.lookup p.1 with
        | none => rw [e] at h; exact .inl h
        | some d =>
          rw [e] at h
          by_cases q : x = p.1
          · subst q
            simp only [List.lookup_cons, beq_self_eq_true] at h
            cases h
            exact .inr e
          · have q' : (x == p.1) = false := by simpa using q
            simp only [List.lookup_cons, q'] at h
            exact .inl h
      · rw [if_neg k] at h
        exact .inl h
    · exact .inr h
theorem clOf_keeps {env : Env} {x : Str} : ∀ {ns : List (Str × NameKind)} {acc : List (Str × Addr)}, (∃ c, acc.lookup x = some c) → ∃ c, (clOf env ns acc).lookup x = some c
  | [], _, h => h
  | p :: r, acc, ⟨c, h⟩ => by
    unfold clOf
    refine clOf_keeps ?_
    by_cases k : p.2 = .free
    · rw [if_pos k]
      cases e : env.cells.lookup p.1 with
      | none => exact ⟨c, h⟩
      | some d =>
        by_cases q : x = p.1
        · subst q
          exact ⟨d, by simp⟩
        · have q' : (x == p.1) = false := by simpa using q
          exact ⟨c, by simp only [List.lookup_cons, q']; exact h⟩
    · rw [if_neg k]
      exact ⟨c, h⟩
theorem clOf_has {env : Env} {x : Str} {c : Addr} (hc : env.cells.lookup x = some c) : ∀ {ns : List (Str × NameKind)} {acc : List (Str × Addr)}, (x, NameKind.free) ∈ ns → ∃ d, (clOf env ns acc).lookup x = some d
  | p :: r, acc, h => by
    unfold clOf
    rcases List.mem_cons.mp h with e | h
    · refine clOf_keeps ?_
      subst e
      rw [if_pos rfl, hc]
      exact ⟨c, by simp⟩
    · exact clOf_has hc h
theorem closure_eq {scope : Scope} {env : Env} (h : ∀ p ∈ scope.names, p.2 = .free → ∃ c, env.cells.lookup p.1 = some c) : closureFor scope env = pure (clOf env scope.names []) := by
  have key : ∀ (ns : List (Str × NameKind)) (acc : List (Str × Addr)), (∀ p ∈ ns, p.2 = .free → ∃ c, env.cells.lookup p.1 = some c) →
      (forIn ns acc (fun (x : Str × NameKind) (r : List (Str × Addr)) => if (x.2 == NameKind.free) = true then (do let a ← cellOf env x.1; pure (ForInStep.yield ((x.1, a) :: r))) else pure (ForInStep.yield r)) : Sem (List (Str × Addr))) = pure (clOf env ns acc) := by
    intro ns
    induction ns with
    | nil => intro acc _; rfl
    | cons p r ih =>
      intro acc hp
      have ih' := fun acc => ih acc fun q hq => hp q (List.mem_cons_of_mem _ hq)
      rw [List.forIn_cons]
      by_cases k : p.2 = .free
      · obtain ⟨c, e⟩ := hp p List.mem_cons_self k
        have e2 : cellOf env p.1 = pure c := by unfold cellOf; rw [e]
        have e3 : clOf env (p :: r) acc = clOf env r ((p.1, c) :: acc) := by
          show clOf env r (if p.2 = .free then (match env.cells.lookup p.1 with | some c => (p.1, c) :: acc | none => acc) else acc) = _
          rw [if_pos k, e]
        rw [e3]
        simp only [k, beq_self_eq_true, if_true, e2, pure_bind, ih']
      · have k' : (p.2 == NameKind.free) = false := by simpa using k
        have e3 : clOf env (p :: r) acc = clOf env r acc := by
          show clOf env r (if p.2 = .free then (match env.cells.lookup p.1 with | some c => (p.1, c) :: acc | none => acc) else acc) = _
          rw [if_neg k]
        rw [e3]
        simp only [k', Bool.false_eq_true, if_false, pure_bind, ih']
  have z := key scope.names [] h
  simp only [closureFor]
  simp only [bind_pure]
  exact z

theorem relabel_inv {env : Env} {x : Str} {k' : NameKind} : ∀ {ns : List (Str × NameKind)},
    (ns.map fun (n, k) => if (k == NameKind.free && env.scope.kind == .function && env.kindOf n == some .cell) then (n, NameKind.cell) else (n, k)).lookup x = some k' →
      ∃ k, (x, k) ∈ ns ∧ ns.lookup x = some k ∧ k' = (if (k == NameKind.free && env.scope.kind == .function && env.kindOf x == some .cell) then NameKind.cell else k)
  | [], h => by simp at h
  | (n, k) :: r, h => by
    rw [List.map_cons] at h
    by_cases q : x = n
    · subst q
      refine ⟨k, List.mem_cons_self, by simp, ?_⟩
      dsimp only at h
      split at h
      · rename_i c
        rw [if_pos c]
        simp at h
        exact h.symm
      · rename_i c
        rw [if_neg c]
        simp at h
        exact h.symm
    · have q' : (x == n) = false := by simpa using q
      dsimp only at h
      have h2 : (r.map fun (n, k) => if (k == NameKind.free && env.scope.kind == .function && env.kindOf n == some .cell) then (n, NameKind.cell) else (n, k)).lookup x = some k' := by
        split at h <;> (simp only [List.lookup_cons, q'] at h; exact h)
      obtain ⟨k2, h3, h4, h5⟩ := relabel_inv h2
      exact ⟨k2, List.mem_cons_of_mem _ h3, by simp only [List.lookup_cons, q']; exact h4, h5⟩
theorem relabel_free {env : Env} {x : Str} (hk : env.scope.kind = .function) (hx : env.kindOf x = some .cell) : ∀ {ns : List (Str × NameKind)}, ns.lookup x = some .free →
    (ns.map fun (n, k) => if (k == NameKind.free && env.scope.kind == .function && env.kindOf n == some .cell) then (n, NameKind.cell) else (n, k)).lookup x = some .cell
  | [], h => by simp at h
  | (n, k) :: r, h => by
    rw [List.map_cons]
    by_cases q : x = n
    · subst q
      simp only [List.lookup_cons, beq_self_eq_true] at h
      cases h
      simp [hk, hx]
    · have q' : (x == n) = false := by simpa using q
      simp only [List.lookup_cons, q'] at h
      have ih := relabel_free hk hx h
      dsimp only
      split <;> (simp only [List.lookup_cons, q']; exact ih)

/-- the block's slots out of the frame's: none, a name of the block's own -/
def capS (src : List (Option Nat)) (σ : St) : St := src.map fun o => match o with | none => none | some j => (σ[j]?).getD none
def capsB (N0 : List Str) (esc scope : Scope) : List Str → List (Option Nat) → Bool
  | x :: N, some j :: r => N0[j]? == some x && (scope.names.lookup x == some .free && (esc.names.lookup x == some .cell && capsB N0 esc scope N r))
  | _ :: N, none :: r => capsB N0 esc scope N r
  | [], [] => true
  | _, _ => false
theorem capsB_len {N0 : List Str} {esc scope : Scope} : ∀ {N : List Str} {src : List (Option Nat)}, capsB N0 esc scope N src = true → src.length = N.length
  | [], [], _ => rfl
  | _ :: N, none :: r, h => by
    have := capsB_len (N := N) (src := r) h
    simp [this]
  | _ :: N, some _ :: r, h => by
    simp only [capsB, Bool.and_eq_true] at h
    have := capsB_len (N := N) (src := r) h.2.2.2
    simp [this]
  | [], _ :: _, h => by simp [capsB] at h
  | _ :: _, [], h => by simp [capsB] at h
theorem capsB_get {N0 : List Str} {esc scope : Scope} : ∀ {N : List Str} {src : List (Option Nat)} {i : Nat} {x : Str} {j : Nat}, capsB N0 esc scope N src = true → N[i]? = some x → src[i]? = some (some j) →
    N0[j]? = some x ∧ scope.names.lookup x = some .free ∧ esc.names.lookup x = some .cell
  | y :: N, some k :: r, 0, x, j, h, h1, h2 => by
    simp at h1 h2
    subst h1 h2
    simp only [capsB, Bool.and_eq_true, beq_iff_eq] at h
    exact ⟨h.1, h.2.1, h.2.2.1⟩
  | y :: N, some k :: r, i + 1, x, j, h, h1, h2 => by
    simp only [capsB, Bool.and_eq_true] at h
    exact capsB_get (i := i) h.2.2.2 (by simpa using h1) (by simpa using h2)
  | y :: N, none :: r, 0, x, j, h, h1, h2 => by simp at h2
  | y :: N, none :: r, i + 1, x, j, h, h1, h2 => capsB_get (N := N) (src := r) (i := i) (by simpa [capsB] using h) (by simpa using h1) (by simpa using h2)
  | [], _, _, _, _, _, h1, _ => by simp at h1
  | _ :: _, [], _, _, _, _, _, h2 => by simp at h2

/-- what is asked of a comprehension's scope: a look at written names -/
def compB (N0 : List Str) (esc scope : Scope) (N : List Str) (src : List (Option Nat)) : Bool :=
  (scope.kind == .function) && ((scope.names.all fun y => y.2 != .cell) && ((scope.names.all fun y => y.2 != .local || scope.names.lookup y.1 == some .local) &&
    ((scope.names.all fun y => y.2 != .free || esc.names.lookup y.1 == some .cell) && capsB N0 esc scope N src)))
structure CompSc (X : Cx) (scope : Scope) (N : List Str) (src : List (Option Nat)) : Prop where
  kind : scope.kind = .function
  cell : ∀ y ∈ scope.names, y.2 ≠ .cell
  own : ∀ y ∈ scope.names, y.2 = .local → scope.names.lookup y.1 = some .local
  free : ∀ y ∈ scope.names, y.2 = .free → X.env.scope.names.lookup y.1 = some .cell
  caps : capsB X.N X.env.scope scope N src = true
theorem comp_sc {X : Cx} {scope : Scope} {N : List Str} {src : List (Option Nat)} {N0 : List Str} {esc : Scope} (h : compB N0 esc scope N src = true) (hN : X.N = N0 := by rfl) (hE : X.env.scope = esc := by rfl) : CompSc X scope N src := by
  unfold compB at h
  simp only [Bool.and_eq_true, List.all_eq_true, Bool.or_eq_true, bne_iff_ne, beq_iff_eq] at h
  obtain ⟨h1, h2, h3, h4, h5⟩ := h
  refine ⟨h1, h2, fun y hy k => (h3 y hy).resolve_left fun z => z k, fun y hy k => ?_, by rw [hN, hE]; exact h5⟩
  rw [hE]
  exact (h4 y hy).resolve_left fun z => z k

/-- the block's context: it starts at s, H; fp: its iterator's records -/
def cxComp (X : Cx) (scope : Scope) (N : List Str) (fp : List Addr) (s : Shared) (H : Hp) : Cx where
  prog := X.prog
  w := X.w
  K := X.K
  mg := X.mg
  base := X.base
  A := X.A
  N := N
  s₀ := s
  H₀ := H
  env := compEnvC scope (clOf X.env scope.names []) s.heap.objs.size X.env
  outer := X.stack
  stack := X.stack
  ex := fp
  fn := fun _ => false
  calm := X.calm
  pn := []
  xe := fun _ _ => False

/-- the tests of a clause -/
def PTs (X : Cx) (ifs : List Expr) (t : TT) : Prop :=
  ∀ (pins : List (Addr × Obj)) (s : Shared) (σ : St) (H : Hp) (Q : Bool → Hp → Prop) (E : Value → Shared → Prop), Inv X pins σ H s → t σ H Q →
    wpAny (model X.prog X.w) X.A (forIn ifs true fun c r => if r = true then do let ok ← isTrue c X.env (eval c X.env); pure (ForInStep.yield ok) else pure (ForInStep.yield r)) (TP X pins σ Q) E s
def tTrue : TT := fun _ H Q => Q true H
theorem pts_nil {X : Cx} : PTs X [] tTrue := fun _ _ _ H _ _ I h => wpAny_tests_nil ⟨H, I, h⟩
/-- W: what holds at turn i (with a measure), the list at D as it has grown -/
def tTurns (src : List (Option Nat)) (J : It) (g : TG) (tc : TT) (te : TE) (D : Addr) (σ : St) (H : Hp) (Q : VK) : Prop :=
  ∃ W : Nat → Nat → Hp → Prop, (∃ m, W 0 m H) ∧ ∀ i m H2, W i m H2 → (J.stop i H2 ∧ Q (.ref D) H2) ∨
    (J.go i H2 ∧ ∀ x H3, J.yld i H2 x H3 → g x (capS src σ) H3 fun σ2 H4 => tc σ2 H4 fun b H5 =>
      if b = true then te σ2 H5 fun y H6 => ∃ zs, H6 D = some (.lst zs) ∧ zs.length < sizeLine ∧ ∃ m', m' < m ∧ W (i + 1) m' (upd H6 D (.lst (zs ++ [y])))
      else ∃ m', m' < m ∧ W (i + 1) m' H5)
def tComp (src : List (Option Nat)) (wi : TI) (g : TG) (tc : TT) (te : TE) : TE := fun σ H Q =>
  wi σ H fun J H1 => ∀ D, H1 D = none → tTurns src J g tc te D σ (upd H1 D (.lst [])) Q

/-- what was known of the slots is known still -/
def Keep (σ σ2 : St) : Prop := σ2.length = σ.length ∧ ∀ (k : Nat) (v : V), σ[k]? = some (some v) → σ2[k]? = some (some v)
theorem Keep.refl (σ : St) : Keep σ σ := ⟨rfl, fun _ _ h => h⟩
theorem Keep.set {σ σ1 : St} {i : Nat} {w : Option V} (h : σ[i]? = some none ∨ σ[i]? = none) (k : Keep σ σ1) : Keep σ (σ1.set i w) := by
  refine ⟨by rw [List.length_set]; exact k.1, fun j v e => ?_⟩
  have hj : i ≠ j := by
    rintro rfl
    rcases h with h | h
    · rw [h] at e; cases e
    · rw [h] at e; cases e
  rw [List.getElem?_set_ne hj]
  exact k.2 j v e
theorem capS_own {src : List (Option Nat)} {σ : St} {i : Nat} (h : src[i]? = some none) : (capS src σ)[i]? = some none := by
  unfold capS
  rw [List.getElem?_map, h]
  rfl
/-- a target that stores into the block's own slots alone -/
def OwnT (src : List (Option Nat)) (g : TG) : Prop := ∀ (x : V) (σ : St) (H : Hp) (Q : St → Hp → Prop), g x (capS src σ) H Q → g x (capS src σ) H fun σ2 H2 => Keep (capS src σ) σ2 ∧ Q σ2 H2
theorem own_name {src : List (Option Nat)} {i : Nat} (h : src[i]? = some none := by rfl) : OwnT src (gName i) := fun _ σ _ _ q => ⟨(Keep.refl _).set (.inl (capS_own h)), q⟩
theorem own_two {K : PySem.W.Frag} {src : List (Option Nat)} {i j n : Nat} (h : src[i]? = some none := by rfl) (h' : src[j]? = some none := by rfl) : OwnT src (gTup K n (gCons (gName i) (gCons (gName j) gNil))) := by
  rintro x σ H Q ⟨a, xs, e, hq, hl, v, r, e1, v2, r2, e2, e3, q⟩
  exact ⟨a, xs, e, hq, hl, v, r, e1, v2, r2, e2, e3, ((Keep.refl _).set (.inl (capS_own h))).set (.inl (capS_own h')), q⟩

section
variable {X : Cx} {elt target iter : Expr} {ifs : List Expr} {scope : Scope} {pos : Pos} {N : List Str} {src : List (Option Nat)} {wi : TI} {g : TG} {tc : TT} {te : TE}

theorem capS_get {src : List (Option Nat)} {σ : St} {i : Nat} {v : V} (h : (capS src σ)[i]? = some (some v)) : ∃ j, src[i]? = some (some j) ∧ σ[j]? = some (some v) := by
  unfold capS at h
  rw [List.getElem?_map] at h
  cases e : src[i]? with
  | none => rw [e] at h; cases h
  | some o =>
    rw [e] at h
    cases o with
    | none => cases h
    | some j =>
      refine ⟨j, rfl, ?_⟩
      have h' : (σ[j]?).getD none = some v := Option.some.inj h
      cases q : σ[j]? with
      | none => rw [q] at h'; cases h'
      | some z => rw [q] at h'; rw [show z = some v from h']

/-- the block's first state -/
theorem inv_comp {pins : List (Addr × Obj)} {s : Shared} {σ : St} {H : Hp} {fp : List Addr} {h' : Heap} {tk : Nat} {m : Str → Option Value} (S : CompSc X scope N src) (I : Inv X pins σ H s) (hfp : ∀ b ∈ fp, FpOk X pins H b)
    (hlt : ∀ b ∈ fp, b < s.heap.objs.size) (hns : h'.Ns s.heap.objs.size m) (hk : ∀ b o, s.heap.get? b = some o → h'.get? b = some o) :
    Inv (cxComp X scope N fp s H) [] (capS src σ) H { s with heap := h', toks := tk } := by
  have sub : ∀ {x : Str} {c : Addr}, (clOf X.env scope.names []).lookup x = some c → X.env.cells.lookup x = some c := fun {x c} e => by
    rcases clOf_sub e with z | z
    · simp at z
    · exact z
  have cells : ∀ y ∈ scope.names, y.2 = .free → ∃ c, X.env.cells.lookup y.1 = some c := fun y hy k => I.ok.has y.1 (.inl (S.free y hy k))
  refine ⟨⟨I.ok.mod, ?_, I.ok.glob, I.ok.blt, Nat.le_refl _, fun x y c h1 h2 => I.ok.inj x y c (sub h1) (sub h2), fun x hx => ?_, fun x c z => absurd z Bool.false_ne_true, I.ok.hd, I.ok.frames, .inl rfl, fun b hb => ⟨Nat.ne_of_lt (hlt b hb), fun x c e => (hfp b hb).2.2.2.2.1 x c (sub e)⟩,
    I.bs, Nat.le_trans I.ok.bsz I.sz, fun b o e hb => ?_, fun b hb z => ?_, I.stack, I.stkFree⟩, rfl, I.bare, Un.kept hk, ⟨m, hns, fun i x v h1 h2 h3 => ?_⟩, fun x c e => ?_, I.hok.fresh (Nat.le_refl _), fun x c e => I.freeC x c (sub e), fun p hp => absurd (show p ∈ ([] : List (Addr × Obj)) from hp) (by simp), I.hok.kept hk, ?_⟩
  · exact S.kind
  · have hx' : (relabel scope X.env).names.lookup x = some .cell ∨ (relabel scope X.env).names.lookup x = some .free := hx
    have go : ∀ k', (relabel scope X.env).names.lookup x = some k' → (k' = .cell ∨ k' = .free) → ∃ c, (clOf X.env scope.names []).lookup x = some c := fun k' e hk' => by
      obtain ⟨k, h1, h2, h3⟩ := relabel_inv (show (scope.names.map _).lookup x = some k' from e)
      by_cases q : k = .free
      · subst q
        obtain ⟨c, hc⟩ := cells (x, .free) h1 rfl
        exact clOf_has hc h1
      · exfalso
        have q' : (k == NameKind.free) = false := by simpa using q
        rw [q'] at h3
        simp only [Bool.false_and, Bool.false_eq_true, if_false] at h3
        subst h3
        rcases hk' with z | z
        · exact S.cell _ h1 z
        · exact q z
    rcases hx' with e | e
    · exact go _ e (.inl rfl)
    · exact go _ e (.inr rfl)
  · rcases (hfp b hb).2.2.2.1 with z | z
    · exact I.ok.noex b o e z
    · exact absurd (Nat.lt_of_lt_of_le (Heap.lt_size (I.ok.bs b o e).1) z) (Nat.lt_irrefl _)
  · rcases List.mem_cons.mp (I.stkSub b z) with q | q
    · exact (hfp b hb).2.1 q
    · exact (hfp b hb).2.2.1 q
  · obtain ⟨j, e1, e2⟩ := capS_get h2
    obtain ⟨q1, q2, q3⟩ := capsB_get S.caps h1 e1
    obtain ⟨m0, _, hl⟩ := I.loc
    obtain ⟨u, r, l⟩ := hl j x v q1 e2 (.inr (.inl q3))
    refine ⟨u, r, .inr ⟨.inl (relabel_free I.ok.kind q3 q2), ?_⟩⟩
    rcases l with ⟨k, _⟩ | ⟨_, c, e, z⟩
    · have k' : X.env.scope.names.lookup x = some .local := k
      rw [q3] at k'; cases k'
    · obtain ⟨d, hd⟩ := clOf_has (acc := []) e (PySem.mem_of_lookup q2)
      have hd' := sub hd
      rw [e] at hd'; cases hd'
      exact ⟨c, hd, let ⟨o, ho, hv⟩ := z; ⟨o, hk _ _ ho, hv⟩⟩
  · obtain ⟨v, o, ho, hv⟩ := I.cell x c (sub e)
    exact ⟨v, o, hk _ _ ho, hv⟩
  · show (capS src σ).length = N.length
    unfold capS
    rw [List.length_map]
    exact capsB_len S.caps

/-- the block runs -/
theorem comp_block {pins : List (Addr × Obj)} {s : Shared} {σ : St} {H : Hp} {fp : List Addr} {it : Addr} {tn : Nat → Heap → Prop} {J : It} {Q : VK} {RR : Value → Addr → Result → Shared → Prop} {E : Value → Shared → Prop}
    (hc : X.calm = true) (S : CompSc X scope N src) (ow : OwnT src g) (hg : ∀ fp s H, PG (cxComp X scope N fp s H) target g) (ht : ∀ fp s H, PTs (cxComp X scope N fp s H) ifs tc) (he : ∀ fp s H, PE (cxComp X scope N fp s H) elt te)
    (I : Inv X pins σ H s) (T : Turn X.prog X.w X.K target J fp it tn) (st : tn 0 s.heap) (hfp : ∀ b ∈ fp, FpOk X pins H b)
    (hw : ∀ D, H D = none → tTurns src J g tc te D σ (upd H D (.lst [])) Q)
    (hRR : ∀ D C s' H', Inv X pins σ H' s' → FpOk X pins H' C → (∃ m, s'.heap.Ns C m) → Q (.ref D) H' → RR (.ref D) C (.ok .next) s') :
    wpAny (model X.prog X.w) X.A (newList []) (fun acc s₃ => wpAny (model X.prog X.w) X.A (newFunctionEnv scope X.env.globals (clOf X.env scope.names []) [] X.env.qual none .none (some X.env)) (fun cenv s₄ =>
      codeAny (model X.prog X.w) X.A (.compStart (.ListComp elt [⟨target, iter, ifs, 0⟩] scope pos) 0 (.ref it) acc { cenv with scope := relabel scope X.env }) (RR acc cenv.locals) s₄) E s₃) E s := by
  refine wpAny_newObj_type ?_
  have hD : H s.heap.objs.size = none := I.hok.fresh (Nat.le_refl _)
  obtain ⟨W, ⟨m0, w0⟩, turn⟩ := hw _ hD
  have I3 : Inv X pins σ (upd H s.heap.objs.size (.lst [])) { s with heap := s.heap.push { cls := .type "list", data := .seq ([] : List Value).toArray } } := I.lnew (t' := s.toks) (ys := []) (its := []) .nil (Nat.zero_le _)
  have lt2 : ∀ b ∈ fp, b < s.heap.objs.size := fun b hb => let ⟨_, e, _⟩ := T.obj 0 _ st b hb; Heap.lt_size e
  have hfp3 : ∀ b ∈ fp, FpOk X pins (upd H s.heap.objs.size (.lst [])) b := fun b hb => ⟨by rw [upd_ne (Nat.ne_of_lt (lt2 b hb))]; exact (hfp b hb).1, (hfp b hb).2⟩
  refine wpAny_newFunctionEnv S.cell (by intro y hy; simp at hy) (fun h₁ hns hsb => ?_) S.kind
  have kept : ∀ b o, (s.heap.push { cls := .type "list", data := .seq ([] : List Value).toArray }).get? b = some o → h₁.get? b = some o := fun b o e =>
    hsb.extBut b o (Nat.ne_of_lt (Heap.lt_size e)) (Heap.get?_push_of_some _ e)
  have lt3 : ∀ b ∈ fp, b < (s.heap.push { cls := .type "list", data := .seq ([] : List Value).toArray }).objs.size := fun b hb => by
    rw [Heap.size_push]
    exact Nat.lt_succ_of_lt (lt2 b hb)
  have J0 : Inv (cxComp X scope N fp { s with heap := s.heap.push { cls := .type "list", data := .seq ([] : List Value).toArray } } (upd H s.heap.objs.size (.lst []))) [] (capS src σ) (upd H s.heap.objs.size (.lst []))
      { s with heap := h₁, toks := s.toks + ([] : List (Str × Value)).length } := inv_comp S I3 hfp3 lt3 hns kept
  have st1 : tn 0 h₁ := T.keep _ _ _ st fun b hb o e => kept b o (Heap.get?_push_of_some _ e)
  -- the records of the iterator, within the block
  have fpIn : ∀ {H' : Hp}, (∀ b ∈ fp, H' b = none) → ∀ b ∈ fp, FpOk (cxComp X scope N fp { s with heap := s.heap.push { cls := .type "list", data := .seq ([] : List Value).toArray } } (upd H s.heap.objs.size (.lst []))) [] H' b := fun hn b hb =>
    ⟨hn b hb, (J0.ok.exf b hb).1, J0.ok.exfs b hb, .inl hb, fun x c e => (J0.ok.exf b hb).2 x c e, fun p hp => absurd (show p ∈ ([] : List (Addr × Obj)) from hp) (by simp)⟩
  have loop : codeAny (model X.prog X.w) X.A (.compLoop (.ListComp elt [⟨target, iter, ifs, 0⟩] scope pos) 0 (.ref it) (.ref s.heap.objs.size)
      (cxComp X scope N fp { s with heap := s.heap.push { cls := .type "list", data := .seq ([] : List Value).toArray } } (upd H s.heap.objs.size (.lst []))).env)
      (RR (.ref s.heap.objs.size) (s.heap.push { cls := .type "list", data := .seq ([] : List Value).toArray }).objs.size) { s with heap := h₁, toks := s.toks + ([] : List (Str × Value)).length } := by
    refine codeAny_loop rfl (fun n s' => ∃ i H', Inv (cxComp X scope N fp { s with heap := s.heap.push { cls := .type "list", data := .seq ([] : List Value).toArray } } (upd H s.heap.objs.size (.lst []))) [] (capS src σ) H' s' ∧
      tn i s'.heap ∧ (∀ b ∈ fp, H' b = none) ∧ W i n H') (fun n s' hI => ?_) m0 ⟨0, _, J0, st1, fun b hb => (hfp3 b hb).1, w0⟩
    obtain ⟨i, H', I', st', fr', w'⟩ := hI
    show wpAny _ X.A ((compTurn (.ListComp elt [⟨target, iter, ifs, 0⟩] scope pos) 0 (.ref it) (.ref s.heap.objs.size) _).onRaise (fun x => do noteFrame x _; theTreesLotGoes x)) _ _ s'
    refine wpAny_noted ?_
    rw [compTurn_list]
    refine wpAny_bind (wpAny_standAt (wpAny_bind ?_))
    rcases turn i n H' w' with ⟨stop, q⟩ | ⟨go, step⟩
    · refine wpAny_mono (T.done (cxComp X scope N fp { s with heap := s.heap.push { cls := .type "list", data := .seq ([] : List Value).toArray } } (upd H s.heap.objs.size (.lst []))) rfl rfl rfl hc i [] s' (capS src σ) H' (fun _ _ => False) I' (fpIn fr') st' stop) (fun r s4 ⟨hr, I4⟩ => ?_) fun _ _ z => z.elim
      subst hr
      refine wpAny_pure ?_
      have O : Inv X pins σ H' s4 := I3.call' I4.os I4.base I4.hok I4.bare fun b hb => ⟨(hfp b hb).2.2.2.1, (hfp b hb).2.1, (hfp b hb).2.2.2.2.1, (hfp b hb).2.2.2.2.2⟩
      obtain ⟨m, hm, _⟩ := I4.loc
      exact hRR _ _ s4 H' O (I3.fpOk (Nat.le_refl _) I4.free) ⟨m, hm⟩ q
    · refine wpAny_mono (T.item (cxComp X scope N fp { s with heap := s.heap.push { cls := .type "list", data := .seq ([] : List Value).toArray } } (upd H s.heap.objs.size (.lst []))) rfl rfl rfl hc i [] s' (capS src σ) H' (fun _ _ => False) I' (fpIn fr') st' go) (fun r s4 ⟨u, hr, h4⟩ => ?_) fun _ _ z => z.elim
      subst hr
      refine wpAny_bind (wpAny_mono h4 (fun _ s5 ⟨x, H5, I5, r5, y5, st5, fr5⟩ => ?_) fun _ _ z => z.elim)
      have I5' := I5.pinned (fpIn fr5) (T.obj _ _ st5)
      refine wpAny_bind (wpAny_mono (hg _ _ _ _ s5 _ H5 x u _ I5' r5 (ow _ _ _ _ (step x H5 y5))) (fun _ s6 ⟨σ6, H6, I6, k6, q6⟩ => ?_) fun _ _ z => z.elim)
      refine wpAny_bind (wpAny_mono (ht _ _ _ _ s6 σ6 H6 _ (fun _ _ => False) I6 q6) (fun b s7 ⟨H7, I7, q7⟩ => ?_) fun _ _ z => z.elim)
      have again : ∀ {H8 : Hp} {s8 : Shared}, Inv (cxComp X scope N fp { s with heap := s.heap.push { cls := .type "list", data := .seq ([] : List Value).toArray } } (upd H s.heap.objs.size (.lst []))) ([] ++ pinsAt fp s5.heap) σ6 H8 s8 → (∃ m', m' < n ∧ W (i + 1) m' H8) →
          ∃ m', m' < n ∧ ∃ i H', Inv (cxComp X scope N fp { s with heap := s.heap.push { cls := .type "list", data := .seq ([] : List Value).toArray } } (upd H s.heap.objs.size (.lst []))) [] (capS src σ) H' s8 ∧ tn i s8.heap ∧ (∀ b ∈ fp, H' b = none) ∧ W i m' H' := by
        rintro H8 s8 I8 ⟨m', hm, w8⟩
        refine ⟨m', hm, i + 1, H8, ?_, T.keep _ _ _ st5 fun b hb o e => (I8.pin (b, o) (List.mem_append_right _ (List.mem_append_right _ (mem_pinsAt hb e)))).1, fun b hb => ?_, w8⟩
        · exact I8.unpinned.weak k6.1.symm k6.2
        · obtain ⟨o, e, d⟩ := T.obj _ _ st5 b hb
          exact (I8.pin (b, o) (List.mem_append_right _ (List.mem_append_right _ (mem_pinsAt hb e)))).2.1
      cases b with
      | false => exact wpAny_pure ⟨rfl, again I7 q7⟩
      | true =>
        refine wpAny_bind (wpAny_bind (wpAny_mono (he _ _ _ _ s7 σ6 H7 _ I7 q7) (fun y s8 ⟨z, H8, I8, r8, zs, e8, l8, q8⟩ => ?_) fun _ _ z => z.elim))
        have A8 := mt_append _ s8 σ6 H8 (.ref s.heap.objs.size) [z] (.ref s.heap.objs.size) [y] (fun _ H9 => ∃ m', m' < n ∧ W (i + 1) m' H9) I8 rfl (.cons r8 .nil) ⟨_, zs, z, rfl, rfl, e8, l8, q8⟩
        refine wpAny_bind (wpAny_mono A8 (fun _ s9 ⟨_, H9, I9, _, q9⟩ => ?_) fun _ _ z => z.elim)
        exact wpAny_pure (wpAny_pure ⟨rfl, again I9 q9⟩)
  exact codeAny_compStart_list loop (T.self X.A 0 _ _ _ st1 loop)

/-- [elt for target in iter if ..] as a value -/
theorem pe_comp (hc : X.calm = true) (S : CompSc X scope N src) (ow : OwnT src g) (hi : PI X target iter wi) (hg : ∀ fp s H, PG (cxComp X scope N fp s H) target g) (ht : ∀ fp s H, PTs (cxComp X scope N fp s H) ifs tc) (he : ∀ fp s H, PE (cxComp X scope N fp s H) elt te)
    (hs : ∀ x, foldedSetIterable iter X.env x = pure x := by intro _; rfl) : PE X (.ListComp elt [⟨target, iter, ifs, 0⟩] scope pos) (tComp src wi g tc te) := by
  intro pins s σ H Q I h
  rw [eval_ListComp]
  have hcl := closure_eq (scope := scope) (env := X.env) fun y hy k => I.ok.has y.1 (.inl (S.free y hy k))
  refine wpAny_comprehension_free (use := none) rfl hs hcl S.kind S.own (thn (hi pins s σ H _ I h) fun v s1 h1 => thn h1 fun itv s2 h2 => ?_)
  obtain ⟨it, fp, tn, J, H2, e, I2, T, st2, f2, hw⟩ := h2
  subst e
  refine comp_block hc S ow hg ht he I2 T st2 f2 hw fun D C s' H' I' fC hm q => ?_
  obtain ⟨m, hm⟩ := hm
  exact ⟨m, hm, fun h' hs' => ⟨.ref D, H', I'.turned (it := C) (t' := s'.toks) (fun b o hb e => hs'.extBut b o hb e) fC.1 fC.2.1 fC.2.2.2.1 fC.2.2.2.2.1 fC.2.2.2.2.2, rfl, q⟩⟩

/-- x = [elt for target in iter if ..]: the name is stored ahead of the block's end -/
theorem ps_comp {i : Nat} {x : Str} {px spos : Pos} (hc : X.calm = true) (S : CompSc X scope N src) (ow : OwnT src g) (hN : X.N.Nodup) (hix : X.N[i]? = some x) (hx : Loc X.env.scope x) (hi : PI X target iter wi) (hg : ∀ fp s H, PG (cxComp X scope N fp s H) target g)
    (ht : ∀ fp s H, PTs (cxComp X scope N fp s H) ifs tc) (he : ∀ fp s H, PE (cxComp X scope N fp s H) elt te)
    (hsw : swapsWith (.ListComp elt [⟨target, iter, ifs, 0⟩] scope pos) (some (.Name x px)) spos.line X.env = pure true := by rfl)
    (hf : X.fn x = true ∨ X.env.scope.names.lookup x = some .local := by first | exact .inl rfl | exact .inr rfl | assumption)
    (hs : ∀ x, foldedSetIterable iter X.env x = pure x := by intro _; rfl) : PS X (.Assign [.Name x px] (.ListComp elt [⟨target, iter, ifs, 0⟩] scope pos) spos) (tAsg (tComp src wi g tc te) (gName i)) := by
  intro pins s σ H D I h
  rw [exec_Assign_Name_used _ _ _ _ hsw]
  refine wpAny_bind (wpAny_standAt (wpAny_bind ?_))
  have hcl := closure_eq (scope := scope) (env := X.env) fun y hy k => I.ok.has y.1 (.inl (S.free y hy k))
  show wpAny _ X.A (do let _ ← comprehension (.ListComp elt [⟨target, iter, ifs, 0⟩] scope pos) scope X.env _ (newList []) false (eval iter X.env) (some (assign (.Name x px) X.env))) _ _ s
  refine wpAny_bind (thn (wpAny_comprehension_free (use := some (assign (.Name x px) X.env)) (Q := fun _ s' => SP X pins D .next s') rfl hs hcl S.kind S.own (thn (hi pins s σ H _ I h) fun v s1 h1 => thn h1 fun itv s2 h2 => ?_)) fun _ s' q => wpAny_pure (wpAny_pure q))
  obtain ⟨it, fp, tn, J, H2, e, I2, T, st2, f2, hw⟩ := h2
  subst e
  refine comp_block hc S ow hg ht he I2 T st2 f2 hw fun Dd C s' H' I' fC hm q => ?_
  obtain ⟨m, hm⟩ := hm
  show wpAny _ X.A (assign (.Name x px) X.env (.ref Dd)) _ _ s'
  refine wpAny_assign_Name (store_ok2 I' hN hix hx (v := .ref Dd) rfl (fun s3 I3 ⟨a, sb, ha⟩ => ?_) hf)
  have hCa : C ≠ a := by
    rcases ha with z | z
    · rw [z]; exact fC.2.1
    · exact fun y => fC.2.2.2.2.1 x a z y.symm
  refine ⟨m, hm.sameBut sb hCa, fun h' hs' => ⟨_, H', I3.turned (it := C) (t' := s3.toks) (fun b o hb e => hs'.extBut b o hb e) fC.1 fC.2.1 fC.2.2.2.1 fC.2.2.2.2.1 fC.2.2.2.2.2, q⟩⟩
end
end L2

namespace L2
open PySem PySem.Spec PyProof.Rows

/-! ### zip(a, b) of two lists, walked into a pair of names -/
def Itz (K : PySem.W.Frag) (a b : Addr) : It :=
  ⟨fun i H => ∃ xs ys x y, SqL K H a xs ∧ SqL K H b ys ∧ xs[i]? = some x ∧ ys[i]? = some y,
   fun i H v H' => ∃ t x y, H t = none ∧ v = .ref t ∧ H' = upd H t (.tup [x, y]) ∧ ∀ xs ys, SqL K H a xs → SqL K H b ys → xs[i]? = some x ∧ ys[i]? = some y,
   fun i H => ∃ xs ys, SqL K H a xs ∧ SqL K H b ys ∧ (xs.length ≤ i ∨ ys.length ≤ i)⟩
theorem turn_zip {P : Program} {w : World} {K : PySem.W.Frag} {es : List Expr} {k : Nat} {tp : Pos} (a b z TI TO i1 i2 : Addr) (D : ZipApart z TI TO i1 i2 a b) :
    Turn P w K (.Tuple es k tp) (Itz K a b) [z, TI, TO, i1, i2] z (fun i h => IsZip h z TI TO .none ∧ IsPair h TI (.ref i1) (.ref i2) ∧ (∃ u v, IsPair h TO u v) ∧ h.IsListIter i1 a i ∧ h.IsListIter i2 b i) where
  mem := by simp
  obj := fun i h st c hc => by
    obtain ⟨hz, hTI, ⟨u, v, hTO⟩, ⟨o1, e1, _, d1⟩, ⟨o2, e2, _, d2⟩⟩ := st
    simp only [List.mem_cons, List.mem_nil_iff, or_false] at hc
    rcases hc with rfl | rfl | rfl | rfl | rfl
    · exact ⟨_, hz, fun v q => by have q' : Data.fields _ = Data.cell v := q; cases q'⟩
    · exact ⟨_, hTI, fun v q => by have q' : Data.seq _ _ = Data.cell v := q; cases q'⟩
    · exact ⟨_, hTO, fun v q => by have q' : Data.seq _ _ = Data.cell v := q; cases q'⟩
    · exact ⟨o1, e1, fun v q => by rw [d1] at q; cases q⟩
    · exact ⟨o2, e2, fun v q => by rw [d2] at q; cases q⟩
  keep := fun i h h' st kp => by
    obtain ⟨hz, hTI, ⟨u, v, hTO⟩, h1, h2⟩ := st
    exact ⟨kp z (by simp) _ hz, kp TI (by simp) _ hTI, ⟨u, v, kp TO (by simp) _ hTO⟩, h1.at fun o e => kp i1 (by simp) o e, h2.at fun o e => kp i2 (by simp) o e⟩
  item := by
    intro X hP hw hK hc i pins s σ H E I hf st hg
    subst hP hw hK
    obtain ⟨xs, ys, x, y, qa, qb, hx, hy⟩ := hg
    obtain ⟨its, rv, pl, hz1⟩ := I.list qa
    obtain ⟨its2, rv2, pl2, hz2⟩ := I.list qb
    obtain ⟨u, hu, ru⟩ := rv.get hx
    obtain ⟨u2, hu2, ru2⟩ := rv2.get hy
    obtain ⟨hz, hTI, ⟨v1, v2, hTO⟩, h1, h2⟩ := st
    refine wpAny_pyNext_zip_item D hz hTI hTO h1 h2 pl.isList pl2.isList (x := u) (y := u2) (by simpa using hu) (by simpa using hu2) fun h' a1 a2 a3 a4 a5 a6 a7 => ⟨_, rfl, ?_⟩
    refine wpAny_letOwnedTupleGo_zip a1 fun h2' b1 b2 => ?_
    have lt : ∀ {c : Addr} {o : Obj}, s.heap.get? c = some o → c ≠ s.heap.objs.size := fun e => Nat.ne_of_lt (Heap.lt_size e)
    have zT : s.heap.objs.size ≠ z := (lt hz).symm
    have hfresh : H s.heap.objs.size = none := I.hok.fresh (Nat.le_refl _)
    have kept : ∀ c o, c ∉ [z, TI, TO, i1, i2] → s.heap.get? c = some o → h2'.get? c = some o := fun c o hc e => by
      simp only [List.mem_cons, List.mem_nil_iff, or_false, not_or] at hc
      exact b2.extBut c o hc.1 (a7 c o hc.1 hc.2.2.1 hc.2.2.2.1 hc.2.2.2.2 e)
    have hno : ∀ c o, H c = some o → c ∉ [z, TI, TO, i1, i2] := fun c o e hm => by rw [(hf c hm).1] at e; cases e
    have hT : IsPair h2' s.heap.objs.size u u2 := b2.extBut _ _ zT a5
    have I1 : Inv X pins σ (upd H s.heap.objs.size (.tup [x, y])) { s with heap := h2' } := by
      refine I.step (g' := s.gens) (t' := s.toks) (d' := s.drawn) (ch := [z, TI, TO, i1, i2]) (fun c hm => ⟨(hf c hm).2.2.2.1, (hf c hm).2.1, (hf c hm).2.2.2.2.1, (hf c hm).2.2.2.2.2⟩)
        (fun c o _ _ hm e _ => kept c o hm e) (fun c o _ _ hm e _ => ⟨o.slots, kept c o hm e⟩) (fun c o _ e n => by rw [upd_ne (lt e)]; exact n) (fun c o hm e => ⟨o, kept c o hm e⟩)
        (fun c zs e => by rw [upd_ne (ne_of_none e hfresh)]; exact e) (fun c o q e => by rw [upd_ne (ne_of_none e hfresh)]; exact e) (fun c ps e => ⟨#[], by rw [upd_ne (ne_of_none e hfresh), e]; simp⟩)
        (fun m hm => hm.at' fun o e => kept _ o (fun hc' => (hf _ hc').2.1 rfl) e) (fun c o e => ?_) I.bare
      by_cases hc' : c = s.heap.objs.size
      · subst hc'
        rw [upd_same] at e
        cases e
        exact ⟨by simp only [List.length_cons, List.length_nil]; rw [sizeLine_eq]; decide, [u, u2], .cons ru (.cons ru2 .nil), ⟨_, hT, rfl, _, rfl⟩⟩
      · rw [upd_ne hc'] at e
        refine (I.hok c o e).stay (fun c2 v hc2 q => ?_) (fun c2 q => by rw [upd_ne (ne_of_none q hfresh)]; exact q) fun c2 zs q => by rw [upd_ne (ne_of_none q hfresh)]; exact q
        rcases hc2 with rfl | hc2
        · exact kept _ v (hno _ _ e) q
        · exact kept _ v (hno _ _ hc2) q
    refine ⟨.ref s.heap.objs.size, _, I1, rfl, ⟨_, x, y, hfresh, rfl, rfl, fun xs' ys' q1 q2 => ?_⟩, ⟨b1, ?_, ⟨u, u2, b2.extBut _ _ D.TOz a2⟩, a3.at fun o e => b2.extBut _ o D.i1z e, a4.at fun o e => b2.extBut _ o D.i2z e⟩, fun c hm => ?_⟩
    · rw [I.list_inj q1 qa, I.list_inj q2 qb]
      exact ⟨hx, hy⟩
    · exact b2.extBut _ _ D.TIz (a7 _ _ D.TIz D.TITO D.TIi1 D.TIi2 hTI)
    · rw [upd_ne]
      · exact (hf c hm).1
      · obtain ⟨h1o, h1e, _⟩ := id h1
        obtain ⟨h2o, h2e, _⟩ := id h2
        simp only [List.mem_cons, List.mem_nil_iff, or_false] at hm
        rcases hm with rfl | rfl | rfl | rfl | rfl
        · exact lt hz
        · exact lt hTI
        · exact lt hTO
        · exact lt h1e
        · exact lt h2e
  done := by
    intro X hP hw hK hc i pins s σ H E I hf st hg
    subst hP hw hK
    obtain ⟨xs, ys, qa, qb, hx⟩ := hg
    obtain ⟨its, rv, pl, hz1⟩ := I.list qa
    obtain ⟨its2, rv2, pl2, hz2⟩ := I.list qb
    obtain ⟨hz, hTI, ⟨v1, v2, hTO⟩, h1, h2⟩ := st
    have l1 := rv.length
    have l2 := rv2.length
    refine wpAny_pyNext_zip_end (I.ok.hd hc) D hz hTI hTO h1 h2 pl.isList pl2.isList (hx.elim (fun q => .inl (by simp; omega)) fun q => .inr (by simp; omega)) fun h' kp => ⟨rfl, ?_⟩
    have kept : ∀ c o, c ∉ [z, TI, TO, i1, i2] → s.heap.get? c = some o → h'.get? c = some o := fun c o hc e => by
      simp only [List.mem_cons, List.mem_nil_iff, or_false, not_or] at hc
      exact kp c o hc.1 hc.2.2.1 hc.2.2.2.1 hc.2.2.2.2 e
    have hno : ∀ c o, H c = some o → c ∉ [z, TI, TO, i1, i2] := fun c o e hm => by rw [(hf c hm).1] at e; cases e
    refine I.step (g' := s.gens) (t' := s.toks) (d' := s.drawn) (ch := [z, TI, TO, i1, i2]) (fun c hm => ⟨(hf c hm).2.2.2.1, (hf c hm).2.1, (hf c hm).2.2.2.2.1, (hf c hm).2.2.2.2.2⟩)
      (fun c o _ _ hm e _ => kept c o hm e) (fun c o _ _ hm e _ => ⟨o.slots, kept c o hm e⟩) (fun _ _ _ _ n => n) (fun c o hm e => ⟨o, kept c o hm e⟩)
      (fun _ _ e => e) (fun _ _ _ e => e) (fun c ps e => ⟨#[], by rw [e]; simp⟩)
      (fun m hm => hm.at' fun o e => kept _ o (fun hc' => (hf _ hc').2.1 rfl) e) (fun c o e => ?_) I.bare
    refine (I.hok c o e).stay (fun c2 v hc2 q => ?_) (fun _ q => q) fun _ _ q => q
    rcases hc2 with rfl | hc2
    · exact kept _ v (hno _ _ e) q
    · exact kept _ v (hno _ _ hc2) q
  self := fun _ _ _ _ _ st h => wpAny_pyIter_zip st.1 h

section
variable {X : Cx}
def iZip (K : PySem.W.Frag) (ta : TA) : TI := fun σ H R => ta σ H fun vs H1 => ∃ a b, vs = [.ref a, .ref b] ∧ (∃ xs, SqL K H1 a xs) ∧ (∃ ys, SqL K H1 b ys) ∧ R (Itz K a b) H1
theorem pi_zip {es : List Expr} {k : Nat} {tp : Pos} {a b : Expr} {ta : TA} {p pos : Pos} (hg : Gl X "zip") (hm : X.mg "zip" = none) (ha : PA X [a, b] ta) (hs : starEach [a, b] X.env = [(false, eval a X.env), (false, eval b X.env)] := by rfl) (hs2 : starEach [b] X.env = [(false, eval b X.env)] := by rfl) :
    PI X (.Tuple es k tp) (.Call (.Name "zip" p) [a, b] [] pos) (iZip X.K ta) := by
  intro pins s σ H R I h
  refine Call_ (ld_blt I hg hm boot_zip (PyProof.Rows.callWith_type1 (thn (ha pos pins s σ H _ I h) fun us s1 ⟨vs, H1, I1, r1, q1⟩ => ?_) (by rw [hs, hs2]) (by rw [hs2]; rfl)))
  obtain ⟨x, y, e, ⟨xs, qa⟩, ⟨ys, qb⟩, q⟩ := q1
  subst e
  cases r1 with
  | cons r rr =>
    cases rr with
    | cons r' rr =>
      cases rr
      cases (show _ = Value.ref x from r)
      cases (show _ = Value.ref y from r')
      obtain ⟨its, rv, pl, _⟩ := I1.list qa
      obtain ⟨its2, rv2, pl2, _⟩ := I1.list qb
      have lx : x < s1.heap.objs.size := let ⟨o, e, _⟩ := pl.isList; Heap.lt_size e
      have ly : y < s1.heap.objs.size := let ⟨o, e, _⟩ := pl2.isList; Heap.lt_size e
      refine call_zip_2 pl.isList pl2.isList fun h' hz hTI hTO hi1 hi2 hsz kp => wpAny_pyIter_zip hz ?_
      refine ⟨_, [s1.heap.objs.size + 4, s1.heap.objs.size + 2, s1.heap.objs.size + 3, s1.heap.objs.size, s1.heap.objs.size + 1], _, Itz X.K x y, H1, rfl, I1.kept (t' := s1.toks) kp, turn_zip x y _ _ _ _ _ (zipApart_new lx ly), ⟨hz, hTI, ⟨_, _, hTO⟩, hi1, hi2⟩, fun c hc => ?_, q⟩
      have hc' : s1.heap.objs.size ≤ c := by
        simp only [List.mem_cons, List.mem_nil_iff, or_false] at hc
        rcases hc with rfl | rfl | rfl | rfl | rfl
        · exact Nat.le_add_right _ _
        · exact Nat.le_add_right _ _
        · exact Nat.le_add_right _ _
        · exact Nat.le_refl _
        · exact Nat.le_add_right _ _
      exact I1.fpOk hc' (I1.hok.fresh hc')
end

/-! ### reversed(range(n)) -/
section
variable {prog : Program} {w : World} {A : Around} {E : Value → Shared → Prop} {s : Shared}
end
section
variable {X : Cx} {tg : Expr}
end
end L2

namespace L2
open PySem PySem.Spec PyProof.Rows
/-! ### comprehensions over range and zip, by what each turn tells -/
section
variable {K : PySem.W.Frag} {src : List (Option Nat)} {g : TG} {tc : TT} {te : TE} {D : Addr} {σ : St} {H1 : Hp} {Q : VK}
theorem comp_rngIf {lo : Int} {n : Nat} (p : Nat → Bool) (f : Nat → V) (hn : n ≤ 1000) (hD : H1 D = none)
    (step : ∀ (i : Nat) (H2 : Hp) (R : VK) (S : Hp → Prop), i < n → Same H1 H2 → H2 D = some (.lst (((List.range i).filter p).map f)) → (p i = true → ∀ H6, Same H2 H6 → R (f i) H6) → (p i = false → ∀ H6, Same H2 H6 → S H6) →
      g (.int (lo + i)) (capS src σ) H2 fun σ2 H4 => tc σ2 H4 fun b H5 => if b = true then te σ2 H5 R else S H5)
    (fin : ∀ H2, Same H1 H2 → H2 D = some (.lst (((List.range n).filter p).map f)) → Q (.ref D) H2) : tTurns src (Itr lo n) g tc te D σ (upd H1 D (.lst [])) Q := by
  refine ⟨fun i m H2 => m = n - i ∧ i ≤ n ∧ Same H1 H2 ∧ H2 D = some (.lst (((List.range i).filter p).map f)), ⟨n, by simp, Nat.zero_le _, Same.new hD, upd_same⟩, ?_⟩
  rintro i m H2 ⟨rfl, hi, hS, hd⟩
  by_cases hlt : i < n
  · refine .inr ⟨hlt, fun x H3 y => ?_⟩
    obtain ⟨e, y⟩ := y
    subst e y
    have len : (((List.range i).filter p).map f).length < sizeLine := by
      rw [List.length_map]
      refine Nat.lt_of_le_of_lt (List.length_filter_le _ _) ?_
      rw [List.length_range]
      exact Nat.lt_of_lt_of_le hlt (Nat.le_trans hn (by decide))
    refine step i H3 _ _ hlt hS hd (fun hp H6 h6 => ⟨_, h6 _ _ hd, len, n - (i + 1), by omega, rfl, hlt, (hS.trans h6).upd hD, ?_⟩) fun hp H6 h6 => ⟨n - (i + 1), by omega, rfl, hlt, hS.trans h6, ?_⟩
    · rw [upd_same, List.range_succ, List.filter_append, List.map_append]
      simp [hp]
    · rw [h6 _ _ hd, List.range_succ, List.filter_append, List.map_append]
      simp [hp]
  · have e : i = n := by omega
    subst e
    exact .inl ⟨Nat.le_refl _, fin H2 hS hd⟩
theorem comp_rng {lo : Int} {n : Nat} (f : Nat → V) (hn : n ≤ 1000) (hD : H1 D = none)
    (step : ∀ (i : Nat) (H2 : Hp) (R : VK), i < n → Same H1 H2 → H2 D = some (.lst ((List.range i).map f)) → (∀ H6, Same H2 H6 → R (f i) H6) → g (.int (lo + i)) (capS src σ) H2 fun σ2 H4 => te σ2 H4 R)
    (fin : ∀ H2, Same H1 H2 → H2 D = some (.lst ((List.range n).map f)) → Q (.ref D) H2) : tTurns src (Itr lo n) g tTrue te D σ (upd H1 D (.lst [])) Q := by
  have e : ∀ i : Nat, ((List.range i).filter fun _ => true) = List.range i := fun i => List.filter_eq_self.mpr fun _ _ => rfl
  refine comp_rngIf (fun _ => true) f hn hD (fun i H2 R S hi hS hd hy hno => ?_) fun H2 hS hd => fin H2 hS (by rw [e] at hd; exact hd)
  rw [e] at hd
  exact step i H2 R hi hS hd (hy rfl)
theorem comp_zip {a b : Addr} {xs ys : List V} (f : V → V → V) (hn : xs.length ≤ 1000) (hD : H1 D = none) (ha : SqL K H1 a xs) (hb : SqL K H1 b ys)
    (step : ∀ (i : Nat) (x y : V) (t : Addr) (H2 : Hp) (R : VK), xs[i]? = some x → ys[i]? = some y → Same H1 H2 → H2 t = none → (∀ H6, Same (upd H2 t (.tup [x, y])) H6 → R (f x y) H6) → g (.ref t) (capS src σ) (upd H2 t (.tup [x, y])) fun σ2 H4 => te σ2 H4 R)
    (fin : ∀ H2, Same H1 H2 → H2 D = some (.lst (List.zipWith f xs ys)) → Q (.ref D) H2) : tTurns src (Itz K a b) g tTrue te D σ (upd H1 D (.lst [])) Q := by
  have hl : (List.zipWith f xs ys).length ≤ xs.length := by rw [List.length_zipWith]; exact Nat.min_le_left _ _
  refine ⟨fun i m H2 => m = (List.zipWith f xs ys).length - i ∧ i ≤ (List.zipWith f xs ys).length ∧ Same H1 H2 ∧ H2 D = some (.lst ((List.zipWith f xs ys).take i)), ⟨(List.zipWith f xs ys).length, rfl, Nat.zero_le _, Same.new hD, by rw [upd_same]; simp⟩, ?_⟩
  rintro i m H2 ⟨rfl, hi, hS, hd⟩
  by_cases hlt : i < (List.zipWith f xs ys).length
  · have hl2 := hlt
    rw [List.length_zipWith] at hl2
    obtain ⟨x, hx⟩ : ∃ x, xs[i]? = some x := ⟨_, List.getElem?_eq_getElem (show i < xs.length by omega)⟩
    obtain ⟨y, hy⟩ : ∃ y, ys[i]? = some y := ⟨_, List.getElem?_eq_getElem (show i < ys.length by omega)⟩
    have hz : (List.zipWith f xs ys)[i]? = some (f x y) := by rw [List.getElem?_zipWith, hx, hy]
    refine .inr ⟨⟨xs, ys, x, y, hS.seq ha, hS.seq hb, hx, hy⟩, fun v H3 yd => ?_⟩
    obtain ⟨t, x', y', ht, rfl, rfl, hq⟩ := yd
    obtain ⟨q1, q2⟩ := hq xs ys (hS.seq ha) (hS.seq hb)
    rw [hx] at q1
    rw [hy] at q2
    cases q1
    cases q2
    have hDt : D ≠ t := ne_of_none hd ht
    refine step i x y t H2 _ hx hy hS ht fun H6 h6 => ⟨_, h6 D _ (by rw [upd_ne hDt]; exact hd), ?_, (List.zipWith f xs ys).length - (i + 1), by omega, rfl, hlt, ?_, ?_⟩
    · rw [List.length_take]
      exact Nat.lt_of_le_of_lt (Nat.min_le_left _ _) (Nat.lt_of_lt_of_le hlt (Nat.le_trans hl (Nat.le_trans hn (by decide))))
    · exact (Same.trans hS ((Same.new ht).trans h6)).upd hD
    · rw [upd_same, CB.take_snoc hz]
  · have e : i = (List.zipWith f xs ys).length := by omega
    subst e
    rw [List.take_length] at hd
    refine .inl ⟨⟨xs, ys, hS.seq ha, hS.seq hb, ?_⟩, fin H2 hS hd⟩
    rw [List.length_zipWith]
    omega
end
/-! ### for over zip -/
theorem for_zip {K : PySem.W.Frag} {a b : Addr} {xs ys : List V} {g : TG} {tb : TS} {D : Ends} {σ : St} {H : Hp} (Pv : Nat → St → Hp → Prop) (h0 : Pv 0 σ H) (hl : ∀ i σ H, Pv i σ H → SqL K H a xs ∧ SqL K H b ys)
    (hs : ∀ i x y t σ H, xs[i]? = some x → ys[i]? = some y → H t = none → Pv i σ H → g (.ref t) σ (upd H t (.tup [x, y])) fun σ2 H2 => tb { D with nx := Pv (i + 1), ct := Pv (i + 1), bk := D.nx } σ2 H2) (hd : ∀ σ H, Pv (min xs.length ys.length) σ H → D.nx σ H) :
    ∃ W : Nat → Nat → St → Hp → Prop, (∃ m, W 0 m σ H) ∧ ∀ i m σ H, W i m σ H →
      ((Itz K a b).stop i H ∧ D.nx σ H) ∨ ((Itz K a b).go i H ∧ ∃ N : St → Hp → Prop, (∀ σ' H', N σ' H' → ∃ m', m' < m ∧ W (i + 1) m' σ' H') ∧ ∀ x H', (Itz K a b).yld i H x H' → g x σ H' fun σ2 H2 => tb { D with nx := N, ct := N, bk := D.nx } σ2 H2) := by
  refine ⟨fun i m σ H => m = min xs.length ys.length - i ∧ i ≤ min xs.length ys.length ∧ Pv i σ H, ⟨min xs.length ys.length, by simp, Nat.zero_le _, h0⟩, ?_⟩
  rintro i m σ H ⟨rfl, hi, p⟩
  obtain ⟨qa, qb⟩ := hl i σ H p
  by_cases hlt : i < min xs.length ys.length
  · obtain ⟨x, hx⟩ : ∃ x, xs[i]? = some x := ⟨_, List.getElem?_eq_getElem (show i < xs.length by omega)⟩
    obtain ⟨y, hy⟩ : ∃ y, ys[i]? = some y := ⟨_, List.getElem?_eq_getElem (show i < ys.length by omega)⟩
    refine .inr ⟨⟨xs, ys, x, y, qa, qb, hx, hy⟩, Pv (i + 1), fun σ' H' p' => ⟨min xs.length ys.length - (i + 1), by omega, rfl, hlt, p'⟩, fun v H' yd => ?_⟩
    obtain ⟨t, x', y', ht, rfl, rfl, hq⟩ := yd
    obtain ⟨q1, q2⟩ := hq xs ys qa qb
    rw [hx] at q1
    rw [hy] at q2
    cases q1
    cases q2
    exact hs i x y t σ H hx hy ht p
  · have e : i = min xs.length ys.length := by omega
    subst e
    refine .inl ⟨⟨xs, ys, qa, qb, ?_⟩, hd σ H p⟩
    omega
end L2

namespace L2
open PySem PySem.Spec PyProof.Rows
/-! ### lists of steps: tuples of a line and a truth -/
def Tups (H : Hp) : List Addr → List (Nat × Bool) → Prop
  | [], [] => True
  | t :: ts, s :: ss => H t = some (.tup [.int (s.1 : Int), .bl s.2]) ∧ Tups H ts ss
  | _, _ => False
theorem Tups.same {H H' : Hp} (e : Same H H') : ∀ {ts : List Addr} {ss : List (Nat × Bool)}, Tups H ts ss → Tups H' ts ss
  | [], [], _ => trivial
  | _ :: _, _ :: _, h => ⟨e _ _ h.1, Tups.same e h.2⟩
  | [], _ :: _, h => h.elim
  | _ :: _, [], h => h.elim
theorem Tups.snoc {H : Hp} {t : Addr} {s : Nat × Bool} (ht : H t = some (.tup [.int (s.1 : Int), .bl s.2])) : ∀ {ts : List Addr} {ss : List (Nat × Bool)}, Tups H ts ss → Tups H (ts ++ [t]) (ss ++ [s])
  | [], [], _ => ⟨ht, trivial⟩
  | _ :: _, _ :: _, h => ⟨h.1, Tups.snoc ht h.2⟩
  | [], _ :: _, h => h.elim
  | _ :: _, [], h => h.elim
/-- a list is written: the tuples stay -/
theorem Tups.written {H : Hp} {l : Addr} {xs : List V} {o : HO} (hl : H l = some (.lst xs)) : ∀ {ts : List Addr} {ss : List (Nat × Bool)}, Tups H ts ss → Tups (upd H l o) ts ss
  | [], [], _ => trivial
  | _ :: _, _ :: _, h => ⟨by rw [upd_ne (ne_of h.1 hl (by intro z; cases z))]; exact h.1, Tups.written hl h.2⟩
  | [], _ :: _, h => h.elim
  | _ :: _, [], h => h.elim
theorem Tups.len {H : Hp} : ∀ {ts : List Addr} {ss : List (Nat × Bool)}, Tups H ts ss → ts.length = ss.length
  | [], [], _ => rfl
  | _ :: _, _ :: _, h => by simp [Tups.len h.2]
  | [], _ :: _, h => h.elim
  | _ :: _, [], h => h.elim
section
variable {K : PySem.W.Frag} {H : Hp}
end
end L2

/-! nets and ways -/
namespace CB
end CB

namespace L2
open PySem PySem.Spec PyProof.Rows
section
variable {X : Cx}
end
end L2

/-! exceptions of own classes: raised, passed on, caught by a name -/
namespace L2
open PySem PySem.Spec PyProof.Rows
theorem ObjOk.there {P : Program} {w : World} {H : Hp} {h : Heap} {a : Addr} {o : HO} (x : ObjOk P w H h a o) : ∃ ob, h.get? a = some ob := by
  cases o with
  | lst xs => obtain ⟨_, _, _, _, e⟩ := x; exact ⟨_, e⟩
  | tup xs => obtain ⟨_, _, _, o, e, _⟩ := x; exact ⟨_, e⟩
  | dK kvs => obtain ⟨_, _, _, _, o, _, _, e, _⟩ := x; exact ⟨_, e⟩
  | dT kvs => obtain ⟨_, _, _, _, o, _, _, e, _⟩ := x; exact ⟨_, e⟩
  | set S n => obtain ⟨o, _, _, _, e, _⟩ := x; exact ⟨_, e⟩
  | ins C dx fs => obtain ⟨_, _, _, e, _⟩ := x; exact ⟨_, e⟩
  | own y => obtain ⟨_, e⟩ := x; exact ⟨_, e⟩
  | xd fs => obtain ⟨_, ⟨_, _, _, e, _⟩, _⟩ := x; exact ⟨_, e⟩
  | rng lo hi => obtain ⟨_, _, _, e⟩ := x; exact ⟨_, e⟩
  | frz ob u => obtain ⟨e, _⟩ := x; exact ⟨_, e⟩
  | tbl ps => exact ⟨_, (show h.get? a = some _ from x)⟩
  | met f y => exact ⟨_, (show h.get? a = some _ from x)⟩
  | ext φ => obtain ⟨_, ⟨_, e⟩, _⟩ := x; exact ⟨_, e⟩

/-- how an exception lies behind a call: it flies over the heap B, in which all stands that is tracked or was there ahead of the call, the frames aside -/
def CXR (P : Program) (w : World) : CXT := fun outer H s E e s' => ∃ (ea : Addr) (cls a0 : Value) (H' : Hp) (B : Heap), e = .ref ea ∧ s'.os = s.os ∧ AllBare s'.gens ∧ Un (frs outer) [] H H' s.heap s'.heap ∧ HOk P w H' s'.heap ∧
  Heap.FlyingW B outer ea cls a0 s'.heap ∧ (∀ b o, H' b = some o → ∃ ob, B.get? b = some ob) ∧ (∀ b ob, s.heap.get? b = some ob → b ∉ frs outer → ∃ ob', B.get? b = some ob') ∧ E cls none H'

section
variable {X : Cx} {pins : List (Addr × Obj)} {σ : St} {H : Hp} {s : Shared} {B h' : Heap}
theorem stays_at {h : Heap} (hB : B.StaysIn h) (hB' : B.StaysIn h') {b : Addr} {ob : Obj} (z : ∃ o, B.get? b = some o) (e : h.get? b = some ob) : h'.get? b = some ob := by
  obtain ⟨o, q⟩ := z
  have := hB b o q
  rw [e] at this
  cases this
  exact hB' b _ q
theorem Inv.flown (I : Inv X pins σ H s) (hB : B.StaysIn s.heap) (hB' : B.StaysIn h') (up : s.heap.UpToSlots h') (k1 : ∀ b o, H b = some o → ∃ ob, B.get? b = some ob) (k2 : ∀ b ob, X.s₀.heap.get? b = some ob → b ∉ X.fs → ∃ ob', B.get? b = some ob') (hex : X.ex = []) :
    Un X.fs [] X.H₀ H X.s₀.heap h' ∧ HOk X.prog X.w H h' := by
  have nex : ∀ b : Addr, b ∉ X.ex := fun b z => by rw [hex] at z; cases z
  have slot : ∀ b o, X.s₀.heap.get? b = some o → X.H₀ b = none → b ∈ X.fs → ∃ sl, h'.get? b = some { o with slots := sl } := fun b o e n hb => by
    obtain ⟨sl, e1⟩ := I.base.slot b o e n hb (nex b)
    obtain ⟨_, o2, ho2, hd⟩ := I.ok.funs.mem hb
    rw [e] at ho2
    cases ho2
    exact up b { o with slots := sl } e1 hd
  refine ⟨⟨fun b o e n hb _ => stays_at hB hB' (k2 b o e hb) (I.base.keep b o e n hb (nex b)), fun b o e n hb _ => slot b o e n hb, fun b o e n _ => I.base.free b o e n (nex b), fun b o e _ => ?_, I.base.tups, I.base.frzs, I.base.tbls⟩, fun a o e => (I.hok a o e).stay (fun b u hb q => stays_at hB hB' ?_ q) (fun _ q => q) fun _ _ q => q⟩
  · by_cases hb : b ∈ X.fs
    · obtain ⟨sl, q⟩ := slot b o e (I.ok.frf b hb) hb
      exact ⟨_, q⟩
    · obtain ⟨z, hz⟩ := k2 b o e hb
      exact ⟨z, hB' b z hz⟩
  · rcases hb with rfl | hb
    · exact k1 _ _ e
    · exact k1 _ _ hb
/-- the frame behind such a step -/
theorem Inv.landed (I : Inv X pins σ H s) (hB : B.StaysIn s.heap) (hB' : B.StaysIn h') (up : s.heap.UpToSlots h') (k1 : ∀ b o, H b = some o → ∃ ob, B.get? b = some ob) (k2 : ∀ b ob, X.s₀.heap.get? b = some ob → b ∉ X.fs → ∃ ob', B.get? b = some ob') (hex : X.ex = [])
    (kp : ∀ p ∈ X.pn ++ pins, ∃ ob, B.get? p.1 = some ob) : Inv X pins σ H { s with heap := h' } := by
  obtain ⟨u, hk⟩ := I.flown hB hB' up k1 k2 hex
  have cell : ∀ c v, s.heap.IsCell c v → h'.IsCell c v := fun c v ⟨o, ho, hd⟩ => by
    obtain ⟨sl, q⟩ := up c o ho fun vs z => by rw [hd] at z; cases z
    exact ⟨_, q, hd⟩
  obtain ⟨m, hn, hl⟩ := I.loc
  refine ⟨I.ok, I.os, I.bare, by rw [hex]; exact u, ⟨m, up.ns hn, fun i x v e1 e2 e3 => ?_⟩, fun x c e => ?_, I.free, I.freeC, fun p hp => ?_, hk, I.len⟩
  · obtain ⟨z, r, l⟩ := hl i x v e1 e2 e3
    refine ⟨z, r, ?_⟩
    rcases l with l | ⟨k, c, e, q⟩
    · exact .inl l
    · exact .inr ⟨k, c, e, cell c _ q⟩
  · obtain ⟨v, q⟩ := I.cell x c e
    exact ⟨v, cell c v q⟩
  · obtain ⟨e, r⟩ := I.pin p hp
    exact ⟨stays_at hB hB' (kp p hp) e, r⟩
end

/-- an exception just made reaches what the body wants of exceptions -/
def RaisesTo (X : Cx) (E : XK) : Prop := ∀ (pins : List (Addr × Obj)) (σ : St) (H : Hp) (s : Shared) (h' : Heap) (e : Addr) (C : Value) (vs : List Value), Inv X pins σ H s → Heap.MadeExcOf s.heap h' e C vs → E C none H → X.xe (.ref e) { s with heap := h' }
section
variable {P : Program} {w : World} {K : PySem.W.Frag} {mg : Str → Option Value} {base : Heap} {N : List Str} {qual : Str} {scope : Scope} {f : Addr} {cdv : Value} {A : Around} {outer : List Env} {s₁ : Shared} {H₁ : Hp} {E : XK}
theorem raises_cx : RaisesTo (cxOf (CXR P w) P w K mg base N qual scope f cdv A outer s₁ H₁ E) E := by
  intro pins σ H s h' e C vs I hm hE
  have k1 : ∀ b o, H b = some o → ∃ ob, (PySem.W.hideAll s.heap (frs (cxOf (CXR P w) P w K mg base N qual scope f cdv A outer s₁ H₁ E).stack)).get? b = some ob := fun b o q => by
    obtain ⟨ob, z⟩ := (I.hok b o q).there
    exact ⟨ob, PySem.W.hideAll_get _ z fun hb => by rw [I.stkFree b hb] at q; cases q⟩
  have k2 : ∀ b ob, s₁.heap.get? b = some ob → b ∉ frs outer → ∃ ob', (PySem.W.hideAll s.heap (frs (cxOf (CXR P w) P w K mg base N qual scope f cdv A outer s₁ H₁ E).stack)).get? b = some ob' := fun b ob q hb => by
    obtain ⟨o', z⟩ := I.base.there b ob q (by intro y; cases y)
    refine ⟨o', PySem.W.hideAll_get _ z fun hs => ?_⟩
    rcases List.mem_cons.mp (I.stkSub b hs) with y | y
    · exact absurd y (Nat.ne_of_lt (Nat.lt_of_lt_of_le (Heap.lt_size q) I.ok.above))
    · exact hb y
  show wpAny _ _ (leaving (envOfC qual scope s₁.heap.objs.size f cdv) (.ref e)) _ _ _
  refine wpAny_leaves_madeW (base := PySem.W.hideAll s.heap (frs (cxOf (CXR P w) P w K mg base N qual scope f cdv A outer s₁ H₁ E).stack)) (h := s.heap) I.ok.frames rfl (fun b o q => PySem.W.of_hideAll _ q) (PySem.W.funFrames_hide I.stack fun env he b hb => List.mem_filterMap.mpr ⟨env, he, hb⟩) hm fun h'' t fl _ _ up => ?_
  obtain ⟨u, hk⟩ := I.flown (fun b o q => PySem.W.of_hideAll _ q) fl.1 ((Heap.UpToSlots.of_keeps hm.keeps).trans up) k1 k2 rfl
  exact ⟨e, C, .ref t, H, _, rfl, I.os, I.bare, u, hk, fl, k1, k2, hE⟩
theorem passR : Passes (CXR P w) (cxOf (CXR P w) P w K mg base N qual scope f cdv A outer s₁ H₁ E) E := by
  rintro pins σ H s e s' I ⟨ea, cls, a0, H', B, rfl, os, bare, un, hok, fl, k1, k2, hE⟩
  have I' := I.call' os un hok bare fun b z => absurd z (by simp)
  have k2' : ∀ b ob, s₁.heap.get? b = some ob → b ∉ frs outer → ∃ ob', B.get? b = some ob' := fun b ob q hb => by
    obtain ⟨o', z⟩ := I.base.there b ob q (by intro y; cases y)
    refine k2 b o' z fun hs => ?_
    rcases List.mem_cons.mp (I.stkSub b hs) with y | y
    · exact absurd y (Nat.ne_of_lt (Nat.lt_of_lt_of_le (Heap.lt_size q) I.ok.above))
    · exact hb y
  show wpAny _ _ (leaving (envOfC qual scope s₁.heap.objs.size f cdv) (.ref ea)) _ _ _
  refine wpAny_leaves_onW I.ok.frames rfl fl fun h' fl' up => ?_
  obtain ⟨u, hk⟩ := I'.flown fl.1 fl'.1 up k1 k2' rfl
  exact ⟨ea, cls, a0, H', B, rfl, I'.os, bare, u, hk, fl', k1, k2', hE⟩
theorem Fun.okR {x qual : Str} {st : Stmt} {f : Addr} {fd : FuncData} {N ps : List Str} {k : Nat} {sp : Sp} (F : Fun K x qual st f fd) (S : FnScope N ps (defScope st)) (len : ∀ vs H Q E, sp vs H Q E → vs.length = ps.length)
    (hbody : ∀ (cdv : Value) (A : Around) (outer : List Env) (s : Shared) (H : Hp) (vs : List V) (Q : VK) (E : XK), Room k (A.deeper (envOfC qual (defScope st) s.heap.objs.size f cdv)) → sp vs H Q E →
      ∃ t, PSs (cxOf (CXR P w) P w K mg base N qual (defScope st) f cdv A outer s H E) (defBody st) t ∧ t { nx := fun _ H' => Q .non H', rt := Q } (start N vs) H) : FnOk P w K mg base (CXR P w) (k + 1) f fd ps sp := by
  obtain ⟨oc, od, kV, doc, pm, an, cdv, ct, osl, rfl, lk, hcd⟩ := F.ex
  exact fn_of lk hcd S len fun A outer s H vs Q E hr hsp => hbody cdv A outer s H vs Q E hr hsp
end

/-! ### raise X(..) -/
def bmV : List Value := [.type "ValueError", .type "Exception", .type "BaseException", .type "object"]
theorem exc_obj {K : PySem.W.Frag} {h : Heap} {C : Addr} {bmB : List Value} {newId : String} (X : K.In h) (q : PySem.W.excIn K C bmB newId = true) :
    ∃ bm N nm qn bs hdct sn sub ab col dd k0 k1 k2 k3 k5 mN, h.get? C = some (excClassObj nm qn C N bs bm hdct sn sub ab col dd k0 k1 k2 k3 k5 newId) ∧ h.Ns N mN ∧ mN "__init__" = none ∧ OwnTail h bmB bm := by
  unfold PySem.W.excIn at q
  split at q
  · rename_i d1 c1 sl1 lk
    split at q
    · rename_i C2 b2 a0 a1 a2 a3 n2 a5 hm hs
      simp only [Bool.and_eq_true, beq_iff_eq, Bool.not_eq_true'] at q
      obtain ⟨⟨⟨⟨⟨rfl, rfl⟩, y1⟩, y2⟩, y3⟩, y4⟩ := q
      obtain ⟨f1, f2, f3, f4, f5, f6, f7, f8, f9, f10, f11⟩ := c1
      dsimp only at hm y1 y3 y4
      subst hm y1
      have e : sl1 = #[a0, a1, a2, a3, some (.builtin n2), a5] := by
        obtain ⟨l⟩ := sl1
        simp only at hs
        rw [hs]
      subst e
      exact ⟨b2, f4, f1, f5, f2, f6, f7, f8, f9, f10, d1, a0, a1, a2, a3, a5, _, X _ _ lk, .of_isNs (PySem.W.isNs_of_in X y3), PySem.W.nsMap_none_of_in X y3 y4, PySem.W.tail_of_in X y2⟩
    · cases q
  · cases q
section
variable {X : Cx}
def tRaise (C : Addr) (E : XK) (t : TA) : TS := fun _ σ H => t σ H fun vs H1 => vs.length ≤ sizeLine ∧ E (.ref C) none H1
theorem ps_raise {E : XK} {x : Str} {C : Addr} {e : Expr} {t : TA} {np cpos pos : Pos} (hx : RaisesTo X E) (hc : X.calm = true) (hg : Gl X x) (hm : X.mg x = some (.ref C)) (hC : PySem.W.excIn X.K C bmV "ValueError.__new__" = true) (ha : PA X [e] t)
    (hd : (x == ("__debug__" : Str)) = false := by decide) (hs : starEach [e] X.env = [(false, eval e X.env)] := by rfl) : PS X (.Raise (some (.Call (.Name x np) [e] [] cpos)) none pos) (tRaise C E t) := by
  intro pins s σ H D I h
  obtain ⟨bm, N, nm, qn, bs, hdct, sn, sub, ab, col, dd, k0, k1, k2, k3, k5, mN, o0, n0, hni, T0⟩ := exc_obj I.ok.mod.kin hC
  refine wpAny_Raise_call_subT (C := C) (nm := nm) (q := qn) (N := N) (bs := bs) (bm := bm) (hdct := hdct) (sn := sn) (sub := sub) (ab := ab) (col := col) (dd := dd) (k0 := k0) (k1 := k1) (k2 := k2) (k3 := k3) (k5 := k5) PySem.F.excBase_ValueError (mN := mN) (T0.hasType PySem.F.excBase_ValueError.hasBase) (I.ok.hd hc) (by rw [hs]; rfl) hni (ld_glob I hg hm ⟨rfl, ?_⟩ hd)
  have hp := ha cpos pins s σ H _ I h
  rw [hs] at hp ⊢
  refine Calls.evalArgs_plain (wpAny_mono hp (fun us s2 q => ?_) fun _ _ y => y)
  obtain ⟨vs, H2, I2, r, hl, hE⟩ := q
  exact ⟨rfl, by rw [← r.length]; exact hl, I2.bk _ _ o0, n0.keeps I2.bk, T0.keeps I2.bk, fun h' e hm' => hx pins σ H2 s2 h' e (.ref C) us I2 hm' hE⟩
end
/-- what is never reached -/
def tNo : TE := fun _ _ _ => False
theorem pe_no {X : Cx} {e : Expr} : PE X e tNo := fun _ _ _ _ _ _ h => h.elim
theorem fn_no {P : Program} {w : World} {K : PySem.W.Frag} {mg : Str → Option Value} {base : Heap} {CX : CXT} {k : Nat} {f : Addr} {fd : FuncData} {ps : List Str} : FnOk P w K mg base CX k f fd ps (fun _ _ _ _ => False) :=
  ⟨fun _ _ _ _ h => h.elim, fun _ _ _ _ _ _ _ _ _ _ _ _ _ h => h.elim⟩
end L2

/-! try .. except X as e: the suite, a call within it, isinstance of the exception -/
namespace L2
open PySem PySem.Spec PyProof.Rows
/-- an exception's object, of the class at C -/
def ExcAt (x C : Addr) (h : Heap) : Prop := ∃ o, h.get? x = some o ∧ o.cls = .ref C ∧ PySem.W.notCls o = true
def excO (x C : Addr) : HO := .ext (ExcAt x C)
theorem ExcAt.stays {x C : Addr} {h1 h2 : Heap} (e : ExcAt x C h1) (k : ∀ o, h1.get? x = some o → h2.get? x = some o) : ExcAt x C h2 := by
  obtain ⟨o, a, b, c⟩ := e
  exact ⟨o, k o a, b, c⟩
theorem Inv.exc {X : Cx} {pins : List (Addr × Obj)} {σ : St} {H : Hp} {s : Shared} {x C : Addr} (I : Inv X pins σ H s) (h : H x = some (excO x C)) : ExcAt x C s.heap := (I.hok x _ h).1

/-! ### room where an exception is handled -/
structure RoomH (k : Nat) (A : Around) : Prop where
  dp : A.depth + 3 * k + 5 < recursionLimit
  un : A.units + 16 * k + 200 < cLine
theorem Room.toH {k : Nat} {A : Around} (r : Room k A) (h : Option Value) : RoomH k (A.mark h) := ⟨r.dp, r.un⟩
structure FnOkH (P : Program) (w : World) (K : PySem.W.Frag) (mg : Str → Option Value) (base : Heap) (k : Nat) (f : Addr) (fd : FuncData) (ps : List Str) (sp : Sp) : Prop where
  len : ∀ vs H Q E, sp vs H Q E → vs.length = ps.length
  run : ∀ (A : Around) (outer : List Env) (s : Shared) (H : Hp) (args : Args) (us : List Value) (vs : List V) (Q : VK) (E : XK), RoomH k A → Env0 P w K mg base A outer s H → BindsTo s fd args (ps.zip us) → Vals vs us → sp vs H Q E →
    codeAny (model P w) A (.call (.ref f) args) (CR CX0 outer P w H s Q E) s
def cxH (P : Program) (w : World) (K : PySem.W.Frag) (mg : Str → Option Value) (base : Heap) (N : List Str) (qual : Str) (scope : Scope) (f : Addr) (cd : Value) (A : Around) (outer : List Env) (s : Shared) (H : Hp) : Cx where
  prog := P
  w := w
  K := K
  mg := mg
  base := base
  A := A.deeper (envOfC qual scope s.heap.objs.size f cd)
  N := N
  s₀ := s
  H₀ := H
  env := envOfC qual scope s.heap.objs.size f cd
  outer := outer
  stack := envOfC qual scope s.heap.objs.size f cd :: outer
  ex := []
  calm := false
  fn := fun _ => true
  pn := []
  xe := fun _ _ => False
section
variable {P : Program} {w : World} {K : PySem.W.Frag} {mg : Str → Option Value} {base : Heap}
theorem Fun.okH {x qual : Str} {st : Stmt} {f : Addr} {fd : FuncData} {N ps : List Str} {k : Nat} {sp : Sp} (F : Fun K x qual st f fd) (S : FnScope N ps (defScope st)) (len : ∀ vs H Q E, sp vs H Q E → vs.length = ps.length)
    (hbody : ∀ (cdv : Value) (A : Around) (outer : List Env) (s : Shared) (H : Hp) (vs : List V) (Q : VK) (E : XK), RoomH k (A.deeper (envOfC qual (defScope st) s.heap.objs.size f cdv)) → sp vs H Q E →
      ∃ t, PSs (cxH P w K mg base N qual (defScope st) f cdv A outer s H) (defBody st) t ∧ t { nx := fun _ H' => Q .non H', rt := Q } (start N vs) H) : FnOkH P w K mg base (k + 1) f fd ps sp := by
  obtain ⟨oc, od, kV, doc, pm, an, cdv, ct, osl, rfl, lk, hcd⟩ := F.ex
  refine ⟨len, fun A outer s H args us vs Q E hr e0 hb r hsp => ?_⟩
  have hl := len _ _ _ _ hsp
  have KX : K.In s.heap := e0.mod.kin.keeps fun b o e => (e0.bs b o e).1
  have lim : s.heap.NoLimit := e0.mod.nolimit.keeps fun b o e => (e0.bs b o e).1
  have hkind : ∀ y ∈ ps.zip us, (defScope st).names.lookup y.1 = some .local ∨ ((defScope st).names.lookup y.1 = some .cell ∧ ((cellsFrom (s.heap.objs.size + 1) (defScope st).names []).lookup y.1).isSome = true) := fun ⟨n, v⟩ hy => by
    rcases S.par n (List.of_mem_zip hy).1 with q | q
    · exact .inl q
    · exact .inr ⟨q, PySem.W.cellsFrom_some _ _ _ (.inl q)⟩
  refine codeAny_call_function (show A.depth < recursionLimit by have := hr.dp; omega) (KX _ _ lk) rfl S.co S.gen rfl (PySem.W.codeRec_of KX hcd) (hb _ _ _ _ ?_)
  refine wpAny_newFunctionEnv_cells S.kind hkind fun env he s1 x => ?_
  subst he
  refine ⟨lim.keeps x.toInCall.keep, codeAny_func ?_⟩
  have hr' : RoomH k (A.deeper (envOfC qual (defScope st) s.heap.objs.size f cdv)) := ⟨by have := hr.dp; show A.depth + 1 + 3 * k + 5 < _; omega, by have := hr.un; show A.units + 3 + 16 * k + 200 < _; omega⟩
  obtain ⟨t, ht, hq⟩ := hbody cdv A outer s H vs Q E hr' hsp
  have e1 : Env0 P w K mg base { A with handled := none } outer s H := ⟨e0.frames, e0.mod, e0.bs, e0.bsz, e0.funs, e0.frf, e0.hok, e0.bare⟩
  have I0 : Inv (cxOf CX0 P w K mg base N qual (defScope st) f cdv { A with handled := none } outer s H E) [] (start N vs) H s1 := inv_start S rfl e1 hl r x
  have I : Inv (cxH P w K mg base N qual (defScope st) f cdv A outer s H) [] (start N vs) H s1 :=
    ⟨⟨I0.ok.mod, I0.ok.kind, I0.ok.glob, I0.ok.blt, I0.ok.above, I0.ok.inj, I0.ok.has, I0.ok.cab, fun z => absurd z Bool.false_ne_true, Around.frames_deeper e0.frames, I0.ok.stk, I0.ok.exf, I0.ok.bs, I0.ok.bsz, I0.ok.noex, I0.ok.exfs, I0.ok.funs, I0.ok.frf⟩, I0.os, I0.bare, I0.base, I0.loc, I0.cell, I0.free, I0.freeC, I0.pin, I0.hok, I0.len⟩
  refine wpAny_mono (ht [] s1 (start N vs) H _ I hq) (fun fl s' hs => ?_) fun e s' hs => False.elim hs
  have fin : ∀ {σ' : St} {H' : Hp} {v : V} {u : Value}, Inv (cxH P w K mg base N qual (defScope st) f cdv A outer s H) [] σ' H' s' → RelV v u → Q v H' → CE outer P w H s Q u s' :=
    fun {σ' H' v u} J rv q => ⟨v, H', J.os, J.bare, J.base, J.hok, rv, q⟩
  cases fl with
  | ret u =>
    obtain ⟨v, σ', H', J, rv, q⟩ := hs
    exact fin J rv q
  | next =>
    obtain ⟨σ', H', J, q⟩ := hs
    exact fin (v := V.non) (u := Value.none) J rfl q
  | brk =>
    obtain ⟨_, _, _, q⟩ := hs
    exact False.elim q
  | cont =>
    obtain ⟨_, _, _, q⟩ := hs
    exact False.elim q
end
section
variable {X : Cx} {k : Nat} {f : Addr} {fd : FuncData} {ps : List Str} {sp : Sp} {x : Str} {p pos : Pos} {e : Expr} {es : List Expr} {t : TA}
/-- f(..) within an except suite -/
theorem pe_callH (F : FnOkH X.prog X.w X.K X.mg X.base k f fd ps sp) (hr : RoomH k X.A) (hg : Gl X x) (hm : X.mg x = some (.ref f)) (hk : PySem.W.keepIn X.K (.ref f) = true) (hb : Binds X.K fd ps [])
    (ha : PA X (e :: es) t) (hdb : (x == ("__debug__" : Str)) = false := by decide) (he : starEach (e :: es) X.env = (false, eval e X.env) :: starEach es X.env := by rfl) (hpl : (backTo pos (starEach es X.env)).any (·.1) = false := by rfl) :
    PE X (.Call (.Name x p) (e :: es) [] pos) (tCall sp [] E0 t) := by
  intro pins s σ H Q I h
  refine wpAny_Call_Name_kw (ld_glob I hg hm ?_ hdb)
  refine PySem.W.callWith_K (h₀ := X.base) I.ok.mod.kin hk (thn (ha pos pins s σ H _ I h) fun us s1 ⟨vs, H1, I1, r, q⟩ => ⟨I1.kIn, ?_⟩) he hpl
  have hl : us.length = ps.length := by
    have := F.len _ _ _ _ q
    rw [List.append_nil] at this
    rw [← r.length]
    exact this
  refine wpAny_call (codeAny_mono (F.run X.A X.stack s1 H1 ⟨us, []⟩ us vs Q E0 hr I1.env0 (by have := hb s1 us I1.kIn (by simpa using hl); simpa using this) r (by simpa using q)) fun r s' hq => ?_)
  cases r with
  | error e => exact False.elim hq
  | ok fl =>
    cases fl with
    | ret u => exact I1.after hq
    | next => exact False.elim hq
    | brk => exact False.elim hq
    | cont => exact False.elim hq
end

/-! ### isinstance(e, C) -/
section
variable {prog : Program} {w : World} {A : Around} {E : Value → Shared → Prop} {s : Shared} {K : PySem.W.Frag} {x C : Addr}
theorem ExcAt.type {M : Model} {h : Heap} (e : ExcAt x C h) : PySem.W.Looks M h (typeOf (.ref x)) (.ref C) := by
  obtain ⟨o, a, b, _⟩ := e
  exact b ▸ (PySem.W.Looks.ld a).andThen .now
/-- what of the text the class of an exception must have -/
structure ExcCls (K : PySem.W.Frag) (C : Addr) : Prop where
  cls : PySem.W.isClsIn K C = true
  ga : PySem.W.findIn K (.ref C) "__getattribute__" = some (some (.builtin "BaseException.__getattribute__"))
  gt : PySem.W.findIn K (.ref C) "__getattr__" = some none
  ca : PySem.W.findIn K (.ref C) "__class__" = some (some (.builtin "object.__class__"))
  get : PySem.W.specialIn K (.builtin "object.__class__") "__get__" = some (some (.builtin "getset_descriptor.__get__"))
  tk : PySem.W.takesIn K (.builtin "object.__class__") = some true
  obj : PySem.W.mroIn K C (.type "object") = some true
  base : PySem.W.mroIn K C (.type "BaseException") = some true
theorem isType_in {M : Model} {h : Heap} (X : K.In h) (c : PySem.W.isClsIn K C = true) : PySem.W.Looks M h (isType (.ref C)) true := by
  obtain ⟨cd, hc⟩ := Option.isSome_iff_exists.mp c
  unfold PySem.W.clsIn at hc
  split at hc
  · rename_i ho
    intro A' Q' E' s' k q
    unfold isType loadHead
    exact wpAny_bind (wpAny_loadPart (k _ _ (X _ _ ho)) (wpAny_pure q))
  · cases hc
theorem exc_classGet {tp : Value} {R : Result → Shared → Prop} (X : K.In s.heap) (e : ExcAt x C s.heap) (hm : PySem.W.mroIn K C (.type "object") = some true) (h : R (.ok (.ret (.ref C))) s) : codeAny (model prog w) A (.call (.builtin "getset_descriptor.__get__") ⟨[.builtin "object.__class__", .ref x, tp], []⟩) R s := by
  obtain ⟨hh, g, dr, t, os⟩ := s
  have T0 := e.type (M := model prog w)
  have T1 := PySem.W.looks_mroIn (M := model prog w) X hm
  refine codeAny_call_builtin PySem.W.KF.slot_gs.plain PySem.W.KF.entry_gs (PySem.W.KF.slot_gs.check _ _ _ _ _ _ _ _ PySem.W.KF.type_class (PySem.W.KF.args_gs _ _ _) ?_)
  unfold Builtin.«getset_descriptor.__get__» Builtin.Getset_descriptor.descrGet
  rw [PySem.W.dga_obj]
  refine wpAny_bind (wpAny_pure ?_)
  unfold Builtin.Getset_descriptor.descrGetter Builtin.Getset_descriptor.descrCheckInstance Builtin.Getset_descriptor.descrNameAndClass isInstance
  simp only [PySem.W.KF.owner_class]
  repeat lk
  refine ⟨Code.quiet_builtin _ (by decide +kernel), codeAny_builtin PySem.W.KF.entry_class ?_⟩
  unfold Builtin.«object.__class__» shownTypeOf
  repeat lk
  exact h
theorem exc_class {Q : Option Value → Shared → Prop} (X : K.In s.heap) (e : ExcAt x C s.heap) (c : ExcCls K C) (h : Q (some (.ref C)) { s with toks := s.toks + 1 }) : wpAny (model prog w) A (getAttr? (.ref x) "__class__") Q E s := by
  obtain ⟨hh, g, d, t, os⟩ := s
  have L0 := e.type (M := model prog w)
  have L1 := PySem.W.looks_findIn (M := model prog w) X c.ga
  have L2 := PySem.W.looks_findIn (M := model prog w) X c.gt
  unfold getAttr? getAttrBy? getAttrBy
  refine wpAny_bind (wpAny_mkText (wpAny_bind (wpAny_attempt (wpAny_holding (wpAny_bind (L0.at (wpAny_bind (L1.at ?_))))))))
  show wpAny _ _ (if (onTheHeap (Value.ref C) && Value.builtin "BaseException.__getattribute__" == Value.builtin "object.__getattribute__") = true then _ else _) _ _ _
  rw [show (onTheHeap (Value.ref C) && Value.builtin "BaseException.__getattribute__" == Value.builtin "object.__getattribute__") = false by rw [show (Value.builtin "BaseException.__getattribute__" == Value.builtin "object.__getattribute__") = false by decide +kernel, Bool.and_false], if_neg Bool.false_ne_true]
  unfold getAttrByItsOwn hookBefore
  rw [show onTheHeap (Value.ref C) = true from rfl, if_pos rfl]
  refine wpAny_bind (L2.at (wpAny_bind (wpAny_attempt (wpAny_holding ?_))))
  show wpAny _ _ (boundAndCalled (.builtin "BaseException.__getattribute__") (.ref x) _) _ _ _
  unfold boundAndCalled
  refine wpAny_bind (wpAny_of_eq (PySem.F.attr_ValueError.ga.bind (.ref x)) ?_)
  have LB : PySem.W.Looks (model prog w) hh (isInstance (.ref x) (.type "BaseException")) true := L0.andThen (PySem.W.looks_mroIn X c.base)
  have LF : PySem.W.Looks (model prog w) hh (Builtin.ObjectAttr.find (.ref x) (.ref C) "__class__") (.bind (.builtin "getset_descriptor.__get__") (.builtin "object.__class__")) := by
    refine (PySem.W.looks_findIn X c.ca).andThen ((PySem.W.looks_specialIn X c.get).andThen ?_)
    exact (show PySem.W.Looks (model prog w) hh (Builtin.ObjectAttr.dataDescriptor? (some (.builtin "object.__class__")) (some (.builtin "getset_descriptor.__get__"))) (some (.builtin "getset_descriptor.__get__", .builtin "object.__class__")) from (PySem.W.looks_takesIn X c.tk).andThen .now).andThen (PySem.W.Looks.tag .now)
  show wpAny _ _ (call (.builtin "BaseException.__getattribute__") [.ref x, .str "__class__" t]) _ _ _
  refine wpAny_call (codeAny_call_builtin PySem.F.attr_ValueError.ga.plain F.entry_bexc_ga ?_)
  have hk : builtinKind "BaseException.__getattribute__" = some .slot := by decide +kernel
  have hsplit : splitId "BaseException.__getattribute__" = some ("BaseException", "__getattribute__") := by decide +kernel
  have ha := F.args_bexc_ga (.ref x) (.str "__class__" t)
  simp only [checkBuiltinCall, hk, hsplit]
  refine wpAny_bind (LB.at ?_)
  rw [if_neg (show ¬ ((!true) = true) by decide)]
  refine wpAny_of_eq ha ?_
  unfold Builtin.«object.__getattribute__»
  refine wpAny_bind (wpAny_of_eq (a := (Value.ref x, [Value.str "__class__" t])) rfl ?_)
  refine wpAny_bind (wpAny_of_eq (a := ("__class__" : Str)) rfl ?_)
  refine wpAny_bind (L0.at (wpAny_bind (LF.at ?_)))
  show wpAny _ _ (holding [Value.builtin "object.__class__"] (call (.builtin "getset_descriptor.__get__") [.builtin "object.__class__", .ref x, .ref C]) >>= ret) _ _ _
  refine wpAny_bind (wpAny_holding (wpAny_call (exc_classGet (s := ⟨hh, g, d, t + 1, os⟩) X e c.obj ?_)))
  exact wpAny_pure (wpAny_pure (wpAny_pure h))
/-- isinstance(x, c) of an exception -/
theorem kitx_exc (c : ExcCls K C) : PySem.W.KitX K (.ref x) (.ref C) (ExcAt x C) where
  ty := fun _ _ _ e => e.type
  it := fun _ _ X _ => isType_in X c.cls
  ne := fun h tp dd its n sl X htp => by
    refine Bool.eq_false_iff.mpr fun q => ?_
    have e : C = tp := Value.ref.inj (beq_iff_eq.mp q)
    subst e
    obtain ⟨cd, hc⟩ := Option.isSome_iff_exists.mp c.cls
    unfold PySem.W.clsIn at hc
    split at hc
    · rename_i ho
      have := X _ _ ho
      rw [htp] at this
      cases this
    · cases hc
  ca := fun X e k => exc_class X e c k
end
theorem kit_self {K : PySem.W.Frag} {C : Addr} : PySem.W.kitOne K (.ref C) (.ref C) = some true := by
  unfold PySem.W.kitOne
  rw [if_pos (by simp)]
theorem kit_other {K : PySem.W.Frag} {C D : Addr} (h : PySem.W.subIn K (.ref C) (.ref D) = some false) (h' : PySem.W.subIn K (.ref C) (.ref C) = some true) (hc : PySem.W.isClsIn K D = true) (ht : PySem.W.typeIn K (.ref D) = some (.type "type")) : PySem.W.kitOne K (.ref C) (.ref D) = some false := by
  have ne : ¬ ((Value.ref C == Value.ref D) = true) := fun q => by
    have e : C = D := Value.ref.inj (beq_iff_eq.mp q)
    subst e
    rw [h] at h'
    cases h'
  unfold PySem.W.kitOne
  rw [if_neg ne]
  unfold PySem.W.kitCls
  have hc' : (PySem.W.clsIn K D).isSome = true := hc
  simp only [hc', ht, beq_self_eq_true, Bool.and_true, if_true]
  exact h
theorem kit_val {K : PySem.W.Frag} {C : Addr} (h : PySem.W.subIn K (.ref C) (.type "ValueError") = some true) : PySem.W.kitOne K (.ref C) (.type "ValueError") = some true := by
  unfold PySem.W.kitOne
  rw [if_neg (by intro q; cases beq_iff_eq.mp q)]
  show (if PySem.W.kitMeta "ValueError" = true then PySem.W.subIn K (.ref C) (.type "ValueError") else none) = some true
  rw [if_pos (by decide +kernel)]
  exact h
section
variable {X : Cx}
theorem call_isinstX : CallR X (.builtin "isinstance") (fun xs H Q => ∃ ea C D b, xs = [.ref ea, .ref D] ∧ H ea = some (excO ea C) ∧ ExcCls X.K C ∧ PySem.W.kitOne X.K (.ref C) (.ref D) = some b ∧ Q (.bl b) H) := by
  intro pins s σ H xs us Q I r h
  obtain ⟨ea, C, D, b, rfl, he, hc, hk, q⟩ := h
  obtain ⟨u, w', rfl, rx, ry⟩ := vals2 r
  cases (show u = Value.ref ea from rx)
  cases (show w' = Value.ref D from ry)
  exact PySem.W.kia_one (kitx_exc hc) I.kIn (I.exc he) hk (fun z => nomatch z) fun tk => ⟨.bl b, H, I.tok _, rfl, q⟩
theorem call_isinstV : CallR X (.builtin "isinstance") (fun xs H Q => ∃ ea C n b, xs = [.ref ea, .ty n] ∧ H ea = some (excO ea C) ∧ ExcCls X.K C ∧ PySem.W.kitOne X.K (.ref C) (.type n) = some b ∧ Q (.bl b) H) := by
  intro pins s σ H xs us Q I r h
  obtain ⟨ea, C, n, b, rfl, he, hc, hk, q⟩ := h
  obtain ⟨u, w', rfl, rx, ry⟩ := vals2 r
  cases (show u = Value.ref ea from rx)
  cases (show w' = Value.type n from ry)
  exact PySem.W.kia_one (kitx_exc hc) I.kIn (I.exc he) hk (fun z => nomatch z) fun tk => ⟨.bl b, H, I.tok _, rfl, q⟩
/-! ### xs.count(y), xs.index(y) of flat items -/
theorem count_eqU {y : V} : ∀ {xs : List V} {us : List Value}, Vals xs us → xs.all flatV = true → us.countP (eqU y) = xs.countP fun z => eqV z y
  | _, _, .nil, _ => rfl
  | z :: xs, u :: us, .cons r t, f => by
    rw [List.all_cons, Bool.and_eq_true] at f
    rw [List.countP_cons, List.countP_cons, eqU_of r f.1, count_eqU t f.2]
def rCount : V → List V → Hp → VK → Prop := fun x vs H Q => ∃ l xs y, x = .ref l ∧ vs = [y] ∧ H l = some (.lst xs) ∧ flatV y = true ∧ xs.all flatV = true ∧ Q (.int (xs.countP fun z => eqV z y : Nat)) H
theorem mt_count : MtM X "list.count" rCount := by
  intro pins s σ H x vs v us Q I rx rv h
  obtain ⟨l, xs, y, rfl, rfl, hH, fy, fx, q⟩ := h
  cases rx
  obtain ⟨u, rfl, ru⟩ := rv.one
  obtain ⟨z, its, n, r, hl, e⟩ := I.lstM hH
  refine call_meets F.slot_list_count ⟨_, e, rfl⟩ F.entry_list_count (F.args_list_count_2 _ _) (SeqAt.list_countAt l its.toArray n none #[] u (eqU y)) ⟨e, fun a ha => mem_eqAt ru fy r fx a (by simpa using ha), ?_⟩
  refine ⟨.int _, H, I.tok _, ⟨_, rfl⟩, ?_⟩
  have e2 := count_eqU (y := y) r fx
  simp only [List.toList_toArray]
  rw [e2]
  exact q
def rIndex : V → List V → Hp → VK → Prop := fun x vs H Q => ∃ l xs y j z, x = .ref l ∧ vs = [y] ∧ H l = some (.lst xs) ∧ flatV y = true ∧ xs.all flatV = true ∧ xs[j]? = some z ∧ eqV z y = true ∧ (∀ m z', m < j → xs[m]? = some z' → eqV z' y = false) ∧ j ≤ 1000 ∧ Q (.int (j : Nat)) H
theorem all_at : ∀ {xs : List V} {m : Nat} {z : V}, xs.all flatV = true → xs[m]? = some z → flatV z = true := fun {xs m z} f e => List.all_eq_true.mp f z (List.mem_of_getElem? e)
theorem mt_index : MtM X "list.index" rIndex := by
  intro pins s σ H x vs v us Q I rx rv h
  obtain ⟨l, xs, y, j, z, rfl, rfl, hH, fy, fx, hj, hz, hno, hs, q⟩ := h
  cases rx
  obtain ⟨u, rfl, ru⟩ := rv.one
  obtain ⟨_, its, n, r, hl, e⟩ := I.lstM hH
  obtain ⟨w, hw, rw'⟩ := r.get hj
  have jl : j < its.toArray.size := by
    have := (List.getElem?_eq_some_iff.mp hw).1
    simpa using this
  have ej : its.toArray[j] = w := by
    have := (List.getElem?_eq_some_iff.mp hw).2
    simpa using this
  refine call_meets F.slot_list_index ⟨_, e, rfl⟩ F.entry_list_index (F.args_list_index_2 _ _) (SeqAt.list_indexAt l its.toArray n none #[] u (eqU y) j jl (by omega) (by rw [ej, eqU_of rw' (all_at fx hj)]; exact hz) fun m hm hmj => ?_) ⟨e, fun a ha => mem_eqAt ru fy r fx a (by simpa using ha), ⟨.int _, H, I.tok _, ⟨_, rfl⟩, q⟩⟩
  have hm' : m < xs.length := by
    rw [r.length]
    simpa using hm
  obtain ⟨w2, hw2, r2⟩ := r.get (List.getElem?_eq_getElem hm')
  have em : its.toArray[m] = w2 := by
    have := (List.getElem?_eq_some_iff.mp hw2).2
    simpa using this
  rw [em, eqU_of r2 (all_at fx (List.getElem?_eq_getElem hm'))]
  exact hno m _ hmj (List.getElem?_eq_getElem hm')
end
end L2

/-! try .. except X as e -/
namespace L2
open PySem PySem.Spec PyProof.Rows
/-- a class that catches -/
structure ExcBase (K : PySem.W.Frag) (CB : Addr) : Prop where
  ty : PySem.W.typeIn K (.ref CB) = some (.type "type")
  cls : PySem.W.isClsIn K CB = true
  base : PySem.W.mroIn K CB (.type "BaseException") = some true
abbrev Cx.tryIn (X : Cx) (pn : List (Addr × Obj)) (E : Value → Shared → Prop) : Cx := { X with pn := pn, xe := E }
abbrev Cx.suite (X : Cx) (pn : List (Addr × Obj)) (e : Value) : Cx := { X with A := X.A.mark (some e), calm := false, pn := pn, xe := fun _ _ => False }
def EXZ (Z : Addr → Hp → Prop) : XK := fun cls _ H' => ∃ C, cls = .ref C ∧ Z C H'
section
variable {X : Cx} {pins : List (Addr × Obj)} {σ : St} {H : Hp} {s : Shared} {E : Value → Shared → Prop}
theorem Inv.tryIn (I : Inv X pins σ H s) (E : Value → Shared → Prop) : Inv (X.tryIn (X.pn ++ pins) E) [] σ H s :=
  ⟨⟨I.ok.mod, I.ok.kind, I.ok.glob, I.ok.blt, I.ok.above, I.ok.inj, I.ok.has, I.ok.cab, I.ok.hd, I.ok.frames, I.ok.stk, I.ok.exf, I.ok.bs, I.ok.bsz, I.ok.noex, I.ok.exfs, I.ok.funs, I.ok.frf⟩, I.os, I.bare, I.base, I.loc, I.cell, I.free, I.freeC, fun p hp => I.pin p (by simpa using hp), I.hok, I.len⟩
theorem Inv.untry {ps : List (Addr × Obj)} (I : Inv (X.tryIn (X.pn ++ pins) E) ps σ H s) : Inv X pins σ H s :=
  ⟨⟨I.ok.mod, I.ok.kind, I.ok.glob, I.ok.blt, I.ok.above, I.ok.inj, I.ok.has, I.ok.cab, I.ok.hd, I.ok.frames, I.ok.stk, I.ok.exf, I.ok.bs, I.ok.bsz, I.ok.noex, I.ok.exfs, I.ok.funs, I.ok.frf⟩, I.os, I.bare, I.base, I.loc, I.cell, I.free, I.freeC, fun p hp => I.pin p (List.mem_append_left _ hp), I.hok, I.len⟩
theorem Inv.suite (I : Inv X pins σ H s) (e : Value) : Inv (X.suite (X.pn ++ pins) e) [] σ H s :=
  ⟨⟨I.ok.mod, I.ok.kind, I.ok.glob, I.ok.blt, I.ok.above, I.ok.inj, I.ok.has, I.ok.cab, fun z => absurd z Bool.false_ne_true, I.ok.frames, I.ok.stk, I.ok.exf, I.ok.bs, I.ok.bsz, I.ok.noex, I.ok.exfs, I.ok.funs, I.ok.frf⟩, I.os, I.bare, I.base, I.loc, I.cell, I.free, I.freeC, fun p hp => I.pin p (by simpa using hp), I.hok, I.len⟩
/-- the exception's object is tracked -/
theorem Inv.track {ea C : Addr} (I : Inv X pins σ H s) (he : ExcAt ea C s.heap) (hn : H ea = none) (h0 : X.s₀.heap.get? ea = none) (hL : ea ≠ X.env.locals) (hc : ∀ x c, X.env.cells.lookup x = some c → c ≠ ea) (hp : ∀ p ∈ X.pn ++ pins, p.1 ≠ ea) :
    Inv X pins σ (upd H ea (excO ea C)) s := by
  have ne : ∀ {b : Addr} {o : HO}, H b = some o → b ≠ ea := fun e => ne_of_none e hn
  have ne0 : ∀ {b : Addr} {o : Obj}, X.s₀.heap.get? b = some o → b ≠ ea := fun e z => by rw [z, h0] at e; cases e
  refine ⟨I.ok, I.os, I.bare, ⟨I.base.keep, I.base.slot, fun b o e n hx => by rw [upd_ne (ne0 e)]; exact I.base.free b o e n hx, I.base.there, fun b xs e => ?_, fun b o u e => ?_, fun b ps e => ?_⟩, I.loc, I.cell, by rw [upd_ne (Ne.symm hL)]; exact I.free, fun x c e => by rw [upd_ne (hc x c e)]; exact I.freeC x c e, fun p q => ?_, fun b u e => ?_, I.len⟩
  · have z := I.base.tups b xs e
    rw [upd_ne (ne z)]
    exact z
  · have z := I.base.frzs b o u e
    rw [upd_ne (ne z)]
    exact z
  · obtain ⟨m, z⟩ := I.base.tbls b ps e
    exact ⟨m, by rw [upd_ne (ne z)]; exact z⟩
  · obtain ⟨e, n, r⟩ := I.pin p q
    exact ⟨e, by rw [upd_ne (hp p q)]; exact n, r⟩
  · by_cases hb : b = ea
    · subst hb
      rw [upd_same] at e
      cases e
      obtain ⟨o, y, _⟩ := id he
      exact ⟨he, ⟨o, y⟩, fun h1 h2 p k => p.stays k⟩
    · rw [upd_ne hb] at e
      exact (I.hok b u e).stay (fun _ _ _ q => q) (fun c q => by rw [upd_ne (ne q)]; exact q) fun c xs q => by rw [upd_ne (ne q)]; exact q
/-- a name is gone behind the suite: the frame's names are forgotten -/
theorem Inv.forget {h' : Heap} {tk : Nat} {m' : Str → Option Value} (I : Inv X pins σ H s) (hn : h'.Ns X.env.locals m') (sb : Heap.SameBut X.env.locals s.heap h') : Inv X pins (List.replicate X.N.length none) H { s with heap := h', toks := tk } := by
  have neL : ∀ {b : Addr} {o : Obj}, X.s₀.heap.get? b = some o → b ≠ X.env.locals := fun e => Nat.ne_of_lt (Nat.lt_of_lt_of_le (Heap.lt_size e) I.ok.above)
  have neH : ∀ {b : Addr} {o : HO}, H b = some o → b ≠ X.env.locals := fun e => ne_of_none e I.free
  refine ⟨I.ok, I.os, I.bare, ⟨fun b o e n hb hx => sb.extBut b o (neL e) (I.base.keep b o e n hb hx), fun b o e n hb hx => ?_, I.base.free, fun b o e hx => ?_, I.base.tups, I.base.frzs, I.base.tbls⟩, ⟨m', hn, fun i x v _ e2 _ => ?_⟩, fun x c e => ?_, I.free, I.freeC, fun p hp => ?_, fun b u e => ?_, List.length_replicate⟩
  · obtain ⟨sl, q⟩ := I.base.slot b o e n hb hx
    exact ⟨sl, sb.extBut b _ (neL e) q⟩
  · obtain ⟨o', q⟩ := I.base.there b o e hx
    exact ⟨o', sb.extBut b _ (neL e) q⟩
  · rw [List.getElem?_replicate] at e2
    split at e2 <;> cases e2
  · obtain ⟨v, o, ho, hd⟩ := I.cell x c e
    exact ⟨v, o, sb.extBut c o (I.cne x c e) ho, hd⟩
  · obtain ⟨e, n, ne, r⟩ := I.pin p hp
    exact ⟨sb.extBut _ _ ne e, n, ne, r⟩
  · refine (I.hok b u e).stay (fun c v hc q => sb.extBut c v ?_ q) (fun _ q => q) fun _ _ q => q
    rcases hc with rfl | hc
    · exact neH e
    · exact neH hc
end
theorem excMatches_in {M : Model} {A : Around} {E : Value → Shared → Prop} {s : Shared} {K : PySem.W.Frag} {ea C CB : Addr} {oe : Obj} {Q : Bool → Shared → Prop} (X : K.In s.heap) (he : s.heap.get? ea = some oe) (hc : oe.cls = .ref C) (cb : ExcBase K CB) (hm : PySem.W.mroIn K C (.ref CB) = some true) (h : Q true s) :
    wpAny M A (excMatches (.ref ea) (.ref CB)) Q E s := by
  have L1 := PySem.W.looks_typeIn (M := M) X cb.ty
  have L2 := PySem.W.looks_mroIn (M := M) X cb.base
  have L3 := PySem.W.looks_mroIn (M := M) X hm
  have L4 := isType_in (M := M) X cb.cls
  have L0 : PySem.W.Looks M s.heap (typeOf (.ref ea)) (.ref C) := hc ▸ (PySem.W.Looks.ld he).andThen .now
  have f := tc_notTuple
  obtain ⟨hh, g, d, t, os⟩ := s
  have LI : PySem.W.Looks M hh (isInstance (.ref CB) (.type "tuple")) false := L1.andThen (PySem.W.Looks.of_pure tc_notTuple)
  have LE : PySem.W.Looks M hh (isExcClass (.ref CB)) true := by
    unfold isExcClass
    exact L4.andThen L2
  unfold excMatches
  refine wpAny_bind (LI.at ?_)
  rw [if_neg Bool.false_ne_true]
  refine wpAny_bind (wpAny_pure ?_)
  simp only [List.forIn_cons, List.forIn_nil]
  refine wpAny_bind (wpAny_bind (wpAny_bind (LE.at ?_)))
  rw [if_neg (show ¬ ((!true) = true) by decide)]
  refine wpAny_pure (wpAny_pure (wpAny_bind (L0.at (wpAny_bind (wpAny_bind (wpAny_bind (L3.at ?_)))))))
  rw [if_pos rfl]
  exact wpAny_pure (wpAny_pure (wpAny_pure h))
def tTry (Z : Addr → Hp → Prop) (i n : Nat) (tb th : TS) : TS := fun D σ H => tb D σ H ∧ ∀ C H' ea, Z C H' → H' ea = none → th { nx := fun _ _ => False, rt := D.rt } ((List.replicate n none).set i (some (.ref ea))) (upd H' ea (excO ea C))
section
variable {X : Cx}
theorem ps_try {Z : Addr → Hp → Prop} {CB : Addr} {x n : Str} {i : Nat} {body : List Stmt} {b₀ : Stmt} {suite : List Stmt} {np hpos pos : Pos} {tb th : TS}
    (hst : X.stack = X.env :: X.outer) (hfr : X.env.frame = some X.env.locals) (hex : X.ex = []) (hg : Gl X x) (hm : X.mg x = some (.ref CB)) (cb : ExcBase X.K CB) (hZ : ∀ C H', Z C H' → PySem.W.mroIn X.K C (.ref CB) = some true)
    (hN : X.N.Nodup) (hi : X.N[i]? = some n) (hloc : X.env.scope.names.lookup n = some .local)
    (hb : ∀ pn E, Passes (CXR X.prog X.w) (X.tryIn pn E) (EXZ Z) → PSs (X.tryIn pn E) body tb) (hh : ∀ pn e, PSs (X.suite pn e) (b₀ :: suite) th) (hd : (x == ("__debug__" : Str)) = false := by decide) :
    PS X (.Try body [.ExceptHandler (some (.Name x np)) (some n) (b₀ :: suite) hpos] [] [] pos) (tTry Z i X.N.length tb th) := by
  intro pins s σ H D I h
  obtain ⟨h1, h2⟩ := h
  refine wpAny_Try_except ?_
  have hp : Passes (CXR X.prog X.w) (X.tryIn (X.pn ++ pins) (fun e s₁ => wpAny (model X.prog X.w) X.A (noteFrame e X.env) (fun _ s₂ => wpAny (model X.prog X.w) X.A (setFlight e none) (fun _ s₃ =>
      wpAny (model X.prog X.w) X.A (handleBy e X.env [.ExceptHandler (some (.Name x np)) (some n) (b₀ :: suite) hpos]) (SP X pins D) X.xe s₃) X.xe s₂) X.xe s₁)) (EXZ Z) := by
    rintro pins2 σ2 H2 s2 e s' I2 ⟨ea, cls, a0, H', B, rfl, os, bare, un, hok, fl, k1, k2, C, rfl, hz⟩
    have I4 : Inv X pins σ2 H' s' := (I2.call' os un hok bare fun b z => absurd z (by simp)).untry
    have k2' : ∀ b ob, X.s₀.heap.get? b = some ob → b ∉ X.fs → ∃ ob', B.get? b = some ob' := fun b ob q hb => by
      obtain ⟨o', z⟩ := I2.base.there b ob q (by rw [hex]; intro y; cases y)
      refine k2 b o' z fun hs => ?_
      rcases List.mem_cons.mp (I2.stkSub b hs) with y | y
      · exact absurd y (Nat.ne_of_lt (Nat.lt_of_lt_of_le (Heap.lt_size q) I2.ok.above))
      · exact hb y
    have kp : ∀ p ∈ X.pn ++ pins, ∃ ob, B.get? p.1 = some ob := fun p hp => by
      obtain ⟨e1, _, ne, nf, _⟩ := I2.pin p (List.mem_append_left _ hp)
      exact k2 p.1 p.2 e1 fun z => (List.mem_cons.mp (I2.stkSub _ z)).elim ne nf
    have fl : Heap.FlyingW B (X.env :: X.outer) ea (.ref C) a0 s'.heap := by rw [← hst]; exact fl
    refine wpAny_looks_onW (I.ok.frames.trans (congrArg some hst)) hfr fl fun h4 held4 up4 => ?_
    refine wpAny_landsW held4 fun h5 fl5 up5 => ?_
    have I5 : Inv X pins σ2 H' { s' with heap := h5 } := I4.landed fl.1 fl5.1 (up4.trans up5) k1 k2' hex kp
    refine wpAny_handleBy_cons (codeAny_handlers_test (ld_glob (I5.suite (.ref ea)) hg hm ?_ hd)) (by intro q; cases q)
    obtain ⟨oe, ho, hcl⟩ := fl5.there
    refine excMatches_in (s := { s' with heap := h5 }) I5.kIn ho hcl cb (hZ C H' hz) ?_
    refine codeAny_handlers_suite_as (lands_againW fl5 fun h6 fl6 up6 => ?_)
    have I6 : Inv X pins σ2 H' { s' with heap := h6 } := I4.landed fl.1 fl6.1 ((up4.trans up5).trans up6) k1 k2' hex kp
    obtain ⟨oe6, ws, ho6, hc6, hd6, _⟩ := fl6.first
    have nfr : ea ∉ frs (X.env :: X.outer) := fun z => by
      obtain ⟨_, o, q, nf⟩ := fl6.2.2.1.mem z
      rw [ho6] at q
      cases q
      exact nf ws hd6
    have nB : ∀ {o : Obj}, B.get? ea = some o → False := fun q => by rw [fl6.2.1] at q; cases q
    have fsub : ∀ b ∈ X.fs, b ∈ frs (X.env :: X.outer) := fun b hb => by
      unfold frs
      rw [List.filterMap_cons, hfr]
      exact List.mem_cons_of_mem _ hb
    have nea : H' ea = none := by
      cases q : H' ea with
      | none => rfl
      | some o => obtain ⟨z, hz'⟩ := k1 ea o q; exact (nB hz').elim
    have n0 : X.s₀.heap.get? ea = none := by
      cases q : X.s₀.heap.get? ea with
      | none => rfl
      | some o => obtain ⟨z, hz'⟩ := k2' ea o q fun y => nfr (fsub ea y); exact (nB hz').elim
    have nL : ea ≠ X.env.locals := fun z => nfr (by unfold frs; rw [List.filterMap_cons, hfr, z]; exact List.mem_cons_self)
    have ex6 : ExcAt ea C h6 := ⟨oe6, ho6, hc6, by unfold PySem.W.notCls; rw [hd6]⟩
    have I7 := (((I6.suite (.ref ea)).track (C := C) ex6 nea n0 nL (fun y c e z => by
      obtain ⟨v, o, q, dq⟩ := I6.cell y c e
      rw [z] at q
      have q' : h6.get? ea = some o := q
      rw [ho6] at q'
      cases q'
      rw [hd6] at dq
      cases dq) fun p hp z => by
      obtain ⟨o, q⟩ := kp p (by simpa using hp)
      rw [z] at q
      exact nB q).weak (σ' := List.replicate X.N.length none) (by rw [List.length_replicate]; exact I6.len.symm) fun j v e => by
        rw [List.getElem?_replicate] at e
        split at e <;> cases e)
    refine store_ok (X := X.suite (X.pn ++ pins) (.ref ea)) (v := .ref ea) I7 hN hi (.inl hloc) rfl (fun s8 I8 => ?_) (.inr hloc)
    refine wpAny_mono (hh _ _ [] s8 _ _ _ I8 (h2 C H' ea hz nea)) (fun f s9 q => ?_) fun _ _ z => False.elim z
    cases f with
    | ret u =>
      obtain ⟨v, σ9, H9, I9, r, q⟩ := q
      obtain ⟨m, hn9, _⟩ := I9.loc
      refine wpAny_nameGoes hloc hn9 (by rw [I.ok.kind]; rfl) fun h' m' hn' sb => ⟨v, List.replicate X.N.length none, H9, ?_, r, q⟩
      have J := I9.forget (tk := s9.toks + 1) hn' sb
      exact ⟨I.ok, J.os, J.bare, J.base, J.loc, J.cell, J.free, J.freeC, fun p hp => J.pin p (by simpa using hp), J.hok, J.len⟩
    | next => obtain ⟨_, _, _, q⟩ := q; exact False.elim q
    | brk => obtain ⟨_, _, _, q⟩ := q; exact False.elim q
    | cont => obtain ⟨_, _, _, q⟩ := q; exact False.elim q
  refine wpAny_mono (hb _ _ hp [] s σ H D (I.tryIn _) h1) (fun f s' q => ?_) fun _ _ z => z
  cases f with
  | next => obtain ⟨σ', H', I', q⟩ := q; exact wpAny_execs_nil ⟨σ', H', I'.untry, q⟩
  | brk => obtain ⟨σ', H', I', q⟩ := q; exact ⟨σ', H', I'.untry, q⟩
  | cont => obtain ⟨σ', H', I', q⟩ := q; exact ⟨σ', H', I'.untry, q⟩
  | ret u => obtain ⟨v, σ', H', I', r, q⟩ := q; exact ⟨v, σ', H', I'.untry, r, q⟩
end
end L2
namespace L2
def zNo : Addr → Hp → Prop := fun _ _ => False
def zOf (C : Addr) (H : Hp) : Addr → Hp → Prop := fun C' H' => C' = C ∧ Same H H'
theorem no_before {xs : List V} {y : V} {j : Nat} (h : ((xs.take j).all fun z => !eqV z y) = true) : ∀ m z', m < j → xs[m]? = some z' → eqV z' y = false := by
  intro m z hm e
  have := List.all_eq_true.mp h z (List.mem_of_getElem? (i := m) (by rw [List.getElem?_take_of_lt hm]; exact e))
  simpa using this
end L2
namespace L2
open PySem
end L2

/-! zip of three lists: its iterators at n, n + 1, n + 2, the tuple of them at n + 3, its own tuple at n + 4, itself at n + 5 -/
namespace L2
open PySem PySem.Spec PyProof.Rows
section
variable {prog : Program} {w : World} {A : Around} {E : Value → Shared → Prop} {s : Shared}
end
section
variable {X : Cx}
end
end L2
namespace L2
def f1 (g : Int → V) : V → V
  | .int i => g i
  | _ => .non
theorem map_f1 (g : Int → V) (xs : List Int) : (xs.map V.int).map (f1 g) = xs.map g := by rw [List.map_map]; rfl
end L2

/-! list(enumerate(l)) of a list l; reversed(l) -/
namespace L2
open PySem PySem.Spec PyProof.Rows
section
variable {M : Model} {prog : Program} {w : World} {A : Around} {E : Value → Shared → Prop} {s : Shared}
end
section
variable {X : Cx}
end
/-! ### reversed(l) -/
def Itrl (K : PySem.W.Frag) (a : Addr) (xs : List V) : It := ⟨fun i H => SqL K H a xs ∧ i < xs.length, fun i H x H' => H' = H ∧ xs.reverse[i]? = some x, fun i _ => xs.length ≤ i⟩
theorem turn_revl {P : Program} {w : World} {K : PySem.W.Frag} {tg : Expr} (a it : Addr) (xs : List V) : Turn P w K tg (Itrl K a xs) [it] it (fun i h => i ≤ xs.length ∧ h.IsRevIter it a ((xs.length : Int) - 1 - i)) where
  mem := by simp
  obj := fun i h st b hb => by
    have e : b = it := by simpa using hb
    subst e
    obtain ⟨_, o, e, c, d⟩ := st
    exact ⟨o, e, fun v z => by rw [d] at z; cases z⟩
  keep := fun i h h' st kp => ⟨st.1, st.2.at fun o e => kp it (by simp) o e⟩
  item := by
    intro X hP hw hK hcm i pins s σ H E I hf st hg
    subst hP hw hK
    obtain ⟨hq, hi⟩ := hg
    obtain ⟨its, rv, pl, _⟩ := I.list hq
    have hx : xs[xs.length - 1 - i]? = some (xs[xs.length - 1 - i]'(by omega)) := List.getElem?_eq_getElem _
    obtain ⟨u, hu, ru⟩ := rv.get hx
    obtain ⟨f0, f1, _, f3, f4, f5⟩ := hf it (by simp)
    have st' := st.2
    rw [show (xs.length : Int) - 1 - i = ((xs.length - 1 - i : Nat) : Int) by omega] at st'
    refine wpAny_pyNext_rev_item st' pl.isList (x := u) (by simpa using hu) fun h' st2 sb => ?_
    have I1 : Inv X pins σ H { s with heap := h' } := I.turned (t' := s.toks) (fun b o hb e => (sb.2 b hb).trans e) f0 f1 f3 f4 f5
    obtain ⟨o, e, c, d⟩ := id st2
    rw [show ((xs.length - 1 - i : Nat) : Int) - 1 = (xs.length : Int) - 1 - ((i + 1 : Nat) : Int) by omega] at st2
    exact ⟨u, rfl, go_of (s := { s with heap := h' }) e c d (by decide) ⟨_, H, I1, ru, ⟨rfl, by rw [List.getElem?_reverse hi]; exact hx⟩, ⟨hi, st2⟩, fun b hb => (hf b hb).1⟩⟩
  done := by
    intro X hP hw hK hcm i pins s σ H E I hf st hg
    subst hP hw hK
    obtain ⟨f0, f1, _, f3, f4, f5⟩ := hf it (by simp)
    have hg' : xs.length ≤ i := hg
    have st' := st.2
    rw [show (xs.length : Int) - 1 - i = -1 by have := st.1; omega] at st'
    exact wpAny_pyNext_rev_end (I.ok.hd hcm) st' fun h' eb => ⟨rfl, I.turned (t' := s.toks) (fun b o hb e => eb b o hb e) f0 f1 f3 f4 f5⟩
  self := fun _ _ _ _ _ st h => wpAny_pyIter_revIter st.2 h
section
variable {X : Cx} {tg : Expr}
def iRevl (K : PySem.W.Frag) (ta : TA) : TI := fun σ H R => ta σ H fun vs H1 => ∃ a xs, vs = [.ref a] ∧ SqL K H1 a xs ∧ R (Itrl K a xs) H1
theorem pi_revl {a : Expr} {ta : TA} {p pos : Pos} (hg : Gl X "reversed") (hm : X.mg "reversed" = none) (ha : PA X [a] ta) (hs : starEach [a] X.env = [(false, eval a X.env)] := by rfl) : PI X tg (.Call (.Name "reversed" p) [a] [] pos) (iRevl X.K ta) := by
  intro pins s σ H R I h
  refine Call_ (ld_blt I hg hm boot_reversed (PyProof.Rows.callWith_type1 (thn (ha pos pins s σ H _ I h) fun us s1 ⟨vs, H1, I1, r1, q1⟩ => ?_) hs rfl))
  obtain ⟨b, xs, e, hq, q⟩ := q1
  subst e
  obtain ⟨u, rfl, ru⟩ : ∃ u, us = [u] ∧ RelV (.ref b) u := by cases r1 with | cons r rr => cases rr; exact ⟨_, rfl, r⟩
  cases (show u = Value.ref b from ru)
  obtain ⟨its, rv, pl, _⟩ := I1.list hq
  have le := rv.length
  refine call_reversed_list pl.isList ?_
  have st : Heap.IsRevIter (s1.heap.push (revObj b ((its.toArray.size : Int) - 1))) s1.heap.objs.size b ((xs.length : Int) - 1 - ((0 : Nat) : Int)) := ⟨_, Heap.get?_push_size _ rfl, rfl, by rw [List.size_toArray, ← le]; simp [revObj]⟩
  refine wpAny_pyIter_revIter st ⟨s1.heap.objs.size, [s1.heap.objs.size], _, _, H1, rfl, I1.kept (t' := s1.toks) fun b o e => Heap.get?_push_of_some _ e, turn_revl b _ xs, ⟨Nat.zero_le _, st⟩, fun b hb => ?_, q⟩
  have e : b = s1.heap.objs.size := by simpa using hb
  subst e
  exact I1.fpOk (Nat.le_refl _) (I1.hok.fresh (Nat.le_refl _))
end
theorem comp_revl {K : PySem.W.Frag} {src : List (Option Nat)} {g : TG} {te : TE} {D : Addr} {σ : St} {H1 : Hp} {Q : VK} {a : Addr} {xs : List V} (f : V → V) (hn : xs.length ≤ 5000) (hD : H1 D = none) (ha : SqL K H1 a xs)
    (step : ∀ (i : Nat) (x : V) (H2 : Hp) (R : VK), xs.reverse[i]? = some x → Same H1 H2 → (∀ H6, Same H2 H6 → R (f x) H6) → g x (capS src σ) H2 fun σ2 H4 => te σ2 H4 R)
    (fin : ∀ H2, Same H1 H2 → H2 D = some (.lst (xs.reverse.map f)) → Q (.ref D) H2) : tTurns src (Itrl K a xs) g tTrue te D σ (upd H1 D (.lst [])) Q := by
  have lr : xs.reverse.length = xs.length := List.length_reverse
  refine ⟨fun i m H2 => m = xs.length - i ∧ i ≤ xs.length ∧ Same H1 H2 ∧ H2 D = some (.lst ((xs.reverse.take i).map f)), ⟨xs.length, rfl, Nat.zero_le _, Same.new hD, by rw [upd_same]; simp⟩, ?_⟩
  rintro i m H2 ⟨rfl, hi, hS, hd⟩
  by_cases hlt : i < xs.length
  · refine .inr ⟨⟨hS.seq ha, hlt⟩, fun v H3 yd => ?_⟩
    obtain ⟨rfl, hx⟩ := yd
    refine step i v H3 _ hx hS fun H6 h6 => ⟨_, h6 D _ hd, ?_, xs.length - (i + 1), by omega, rfl, hlt, (hS.trans h6).upd hD, ?_⟩
    · rw [List.length_map, List.length_take]
      exact Nat.lt_of_le_of_lt (Nat.min_le_left _ _) (Nat.lt_of_lt_of_le hlt (Nat.le_trans hn (by decide)))
    · rw [upd_same, CB.take_snoc hx, List.map_append]
      rfl
  · have e : i = xs.length := by omega
    subst e
    rw [← lr, List.take_length] at hd
    exact .inl ⟨Nat.le_refl _, fin H2 hS hd⟩
end L2
namespace CB
end CB
namespace L2
open PySem
end L2
namespace L2
theorem iteND {c A B : Prop} [Decidable c] (hc : ¬ c) (h : A) : if (!decide c) = true then A else B := by
  rw [decide_eq_false hc]
  exact h
end L2
namespace CB
end CB
namespace L2
end L2

/-! f-strings of texts and numbers that stand fast -/
namespace L2
open PySem PySem.Spec PyProof.Rows
section
variable {X : Cx}
def PJ (X : Cx) (acc : Str) (es : List Expr) (out : Str) : Prop := ∀ (pins : List (Addr × Obj)) (s : Shared) (σ : St) (H : Hp) (R : Str → Shared → Prop), Inv X pins σ H s → (∀ s1, Inv X pins σ H s1 → R out s1) → Joins (model X.prog X.w) X.A X.xe (evalEach es X.env) acc R s
theorem pj_nil {acc : Str} : PJ X acc [] acc := fun _ s _ _ _ I k => k s I
theorem pj_str {acc y out : Str} {e : Expr} {es : List Expr} (he : PE X e (tC (.str y))) (hz : (acc ++ y).length ≤ sizeLine) (hr : PJ X (acc ++ y) es out) : PJ X acc (e :: es) out := by
  intro pins s σ H R I k
  refine wpAny_mono (he pins s σ H (fun v H1 => v = .str y ∧ H1 = H) I ⟨rfl, rfl⟩) (fun u s1 q => ?_) fun _ _ z => z
  obtain ⟨v, H1, I1, r, rfl, rfl⟩ := q
  obtain ⟨t, rfl⟩ := (show ∃ t, u = Value.str y t from r)
  exact ⟨y, t, rfl, hz, hr pins s1 σ _ R I1 k⟩
theorem pj_int {acc out : Str} {i : Int} {e : Expr} {es : List Expr} {pos : Pos} (he : PE X e (tC (.int i))) (hd : i.natAbs.log2 < 1920) (hz : (acc ++ (toString i : Str)).length ≤ sizeLine) (hr : PJ X (acc ++ (toString i : Str)) es out) : PJ X acc (.FormattedValue e (-1) none pos :: es) out := by
  intro pins s σ H R I k
  refine PySem.wpAny_FormattedValue_plain (wpAny_mono (he pins s σ H (fun v H1 => v = .int i ∧ H1 = H) I ⟨rfl, rfl⟩) (fun u s1 q => ?_) fun _ _ z => z)
  obtain ⟨v, H1, I1, r, rfl, rfl⟩ := q
  obtain ⟨t, rfl⟩ := (show ∃ t, u = Value.int i t from r)
  exact wpAny_formatField_int hd ⟨_, _, rfl, hz, hr pins _ σ _ R (I1.tok _) k⟩
theorem pe_join {out : Str} {a b : Expr} {es : List Expr} {pos : Pos} (h : PJ X Str.empty (a :: b :: es) out) (hz : out.length ≤ sizeLine) : PE X (.JoinedStr (a :: b :: es) pos) (tC (.str out)) := by
  intro pins s σ H Q I q
  exact wpAny_JoinedStr (h pins s σ H _ I fun s1 I1 => ⟨hz, .str out, H, I1.tok _, ⟨_, rfl⟩, q⟩)
end
end L2
namespace L2
end L2

/-! texts: join, split, int, the signs of a text -/
namespace L2
open PySem PySem.Spec PyProof.Rows
theorem vals_str : ∀ {xs : List Str} {us : List Value}, Vals (xs.map V.str) us → ∃ l : List (Str × Tok), us = strValues l ∧ l.map (·.1) = xs
  | [], _, .nil => ⟨[], rfl, rfl⟩
  | x :: xs, _, .cons r t => by
    obtain ⟨l, e1, e2⟩ := vals_str t
    obtain ⟨k, rfl⟩ := (show ∃ k, _ = Value.str x k from r)
    exact ⟨(x, k) :: l, by rw [e1]; rfl, by rw [List.map_cons, e2]⟩
theorem str_vals : ∀ (l : List (Str × Tok)), Vals ((l.map (·.1)).map V.str) (strValues l)
  | [] => .nil
  | p :: l => .cons ⟨p.2, rfl⟩ (str_vals l)
section
variable {X : Cx}
/-- a module's text -/
theorem pe_globS {x y : Str} {pos : Pos} (hg : Gl X x) (hm : ∃ t, X.mg x = some (.str y t)) (hd : (x == ("__debug__" : Str)) = false := by decide) : PE X (.Name x pos) (tC (.str y)) := by
  obtain ⟨t, hm⟩ := hm
  exact pe_glob hg hm ⟨t, rfl⟩ hd
def rJoin (K : PySem.W.Frag) : V → List V → Hp → VK → Prop := fun x vs H Q => ∃ sep b ts, x = .str sep ∧ vs = [.ref b] ∧ SqL K H b (ts.map V.str) ∧ JoinOk sep ts = true ∧ Q (.str (Str.join sep ts)) H
theorem mt_join : MtM X "str.join" (rJoin X.K) := by
  intro pins s σ H x vs v us Q I rx rv h
  obtain ⟨sep, b, ts, rfl, rfl, hq, hok, q⟩ := h
  obtain ⟨t, rfl⟩ := (show ∃ t, v = Value.str sep t from rx)
  obtain ⟨u, rfl, ru⟩ := rv.one
  cases (show u = Value.ref b from ru)
  obtain ⟨its, r, pl, _⟩ := I.list hq
  obtain ⟨l, rfl, hl⟩ := vals_str r
  refine SC.join pl.isList hl hok fun t' k => ?_
  show EP X pins σ Q (.str (Builtin.Str.glued sep ts) t') _
  rw [StrLaws.glued_eq_join]
  exact ⟨.str _, H, I.tok _, ⟨_, rfl⟩, q⟩
def rSplit : V → List V → Hp → VK → Prop := fun x vs H Q => ∃ z c, x = .str z ∧ vs = [.str ⟨#[c]⟩] ∧ z.length ≤ 100000 ∧ ∀ p, H p = none → Q (.ref p) (upd H p (.lst ((Txt.split z ⟨#[c]⟩).map V.str)))
theorem mt_split : MtM X "str.split" rSplit := by
  intro pins s σ H x vs v us Q I rx rv h
  obtain ⟨z, c, rfl, rfl, hz, q⟩ := h
  obtain ⟨t, rfl⟩ := (show ∃ t, v = Value.str z t from rx)
  obtain ⟨u, rfl, ru⟩ := rv.one
  obtain ⟨t2, rfl⟩ := (show ∃ t2, u = Value.str ⟨#[c]⟩ t2 from ru)
  have hw := PyProof.Rows.split_weight z ⟨#[c]⟩ (Nat.le_refl 1)
  have hy : ((⟨#[c]⟩ : Str).length == 0) = false := rfl
  have hzs : z.length ≤ sizeLine := by rw [sizeLine_eq]; omega
  have hsp : (Txt.split z ⟨#[c]⟩).length ≤ 100001 := by omega
  have one : ∀ tk, Txt.split z ⟨#[c]⟩ = [z] → EP X pins σ Q (.ref s.heap.objs.size) { s with heap := s.heap.push { cls := .type "list", data := .seq [Value.str z t].toArray }, toks := tk } := fun tk e => by
    have q' := q _ I.fresh
    rw [e] at q'
    exact ⟨.ref _, _, I.lnew (t' := tk) (ys := [V.str z]) (.cons ⟨t, rfl⟩ .nil) (by show 1 ≤ sizeLine; decide), rfl, q'⟩
  cases h1 : (decide (z.length < (⟨#[c]⟩ : Str).length) || decide (Builtin.Str.strKind z < Builtin.Str.strKind ⟨#[c]⟩)) with
  | true =>
    refine call_meets F.slot_str_split (typeIs_str _ _ _) F.entry_str_split (F.args_str_split_2 _ _) (meets_str_split_cannot_occur z _ t t2 h1) ?_
    exact one s.toks (if_pos h1)
  | false =>
    cases hf : (Builtin.Str.occurrences z ⟨#[c]⟩ 0 z.length (z.length + 1)).isEmpty with
    | true =>
      refine call_meets F.slot_str_split (typeIs_str _ _ _) F.entry_str_split (F.args_str_split_2 _ _) (meets_str_split_not_found z _ t t2 h1 hy hf) ?_
      exact one s.toks ((if_neg (by rw [h1]; exact Bool.false_ne_true)).trans (if_pos hf))
    | false =>
      have es : Txt.split z ⟨#[c]⟩ = Builtin.Str.partsBetween z (Builtin.Str.occurrences z ⟨#[c]⟩ 0 z.length (z.length + 1)) (⟨#[c]⟩ : Str).length := (if_neg (by rw [h1]; exact Bool.false_ne_true)).trans (if_neg (by rw [hf]; exact Bool.false_ne_true))
      have hn : (Builtin.Str.partsBetween z (Builtin.Str.occurrences z ⟨#[c]⟩ 0 z.length (z.length + 1)) (⟨#[c]⟩ : Str).length).length ≤ sizeLine := by
        rw [← es, sizeLine_eq]
        omega
      refine call_meets F.slot_str_split (typeIs_str _ _ _) F.entry_str_split (F.args_str_split_2 _ _) (meets_str_split_sep z _ t t2 h1 hy hf hzs hn) ?_
      rw [es] at q
      rw [strsFrom_eq]
      refine ⟨.ref _, _, I.lnew ?_ ?_, rfl, q _ I.fresh⟩
      · have h2 := str_vals (numbered s.toks (Builtin.Str.partsBetween z (Builtin.Str.occurrences z ⟨#[c]⟩ 0 z.length (z.length + 1)) (⟨#[c]⟩ : Str).length))
        rw [numbered_texts] at h2
        exact h2
      · rw [List.length_map]
        exact hn
end
/-! ### the signs of a text, one behind the other -/
def Its (x : Str) : It := ⟨fun i _ => i < x.cps.size, fun i H v H' => H' = H ∧ ∃ c, x.cps[i]? = some c ∧ v = .str ⟨#[c]⟩, fun i _ => x.cps.size ≤ i⟩
theorem walk_str {P : Program} {w : World} {A : Around} (hh : A.handled = none) (I : Addr) (x : Str) (t : Tok) : Walks P w A I [I] [I] x.cps.size (SignAt x) (fun i h => h.IsStrIter I (strIterType x) x t i) := by
  unfold strIterType
  cases x.cps.all (· < 128) with
  | true => exact Walks.strAscii hh I x t
  | false => exact Walks.strWide hh I x t
theorem turn_str {P : Program} {w : World} {K : PySem.W.Frag} {tg : Expr} (x : Str) (t : Tok) (it : Addr) : Turn P w K tg (Its x) [it] it (fun i h => i ≤ x.cps.size ∧ h.IsStrIter it (strIterType x) x t i) where
  mem := by simp
  obj := fun i h st b hb => by
    have e : b = it := by simpa using hb
    subst e
    obtain ⟨_, o, e, c, d⟩ := st
    exact ⟨o, e, fun v z => by rw [d] at z; cases z⟩
  keep := fun i h h' st kp => ⟨st.1, let ⟨o, e, r⟩ := st.2; ⟨o, kp it (by simp) o e, r⟩⟩
  item := by
    intro X hP hw hK hcm i pins s σ H E I hf st hg
    subst hP hw hK
    obtain ⟨f0, f1, _, f3, f4, f5⟩ := hf it (by simp)
    have hi : i < x.cps.size := hg
    refine (walk_str (I.ok.hd hcm) it x t).item i s _ _ hi st.2 fun v h' tk hv st2 kk => ?_
    obtain ⟨c, u, hc, rfl⟩ := hv
    have I1 : Inv X pins σ H { s with heap := h', toks := tk } := I.turned (fun b o hb e => kk b o (by simpa using hb) e) f0 f1 f3 f4 f5
    obtain ⟨o, e, c1, d1⟩ := id st2
    refine ⟨_, rfl, go_of (s := { s with heap := h', toks := tk }) e c1 d1 ?_ ⟨.str ⟨#[c]⟩, H, I1, ⟨u, rfl⟩, ⟨rfl, c, hc, rfl⟩, ⟨hi, st2⟩, fun b hb => (hf b hb).1⟩⟩
    unfold strIterType
    cases x.cps.all (· < 128) <;> decide
  done := by
    intro X hP hw hK hcm i pins s σ H E I hf st hg
    subst hP hw hK
    obtain ⟨f0, f1, _, f3, f4, f5⟩ := hf it (by simp)
    have hg' : x.cps.size ≤ i := hg
    have e : i = x.cps.size := Nat.le_antisymm st.1 hg'
    subst e
    exact (walk_str (I.ok.hd hcm) it x t).done s _ _ st.2 fun h' tk kk => ⟨rfl, I.turned (fun b o hb e => kk b o (by simpa using hb) e) f0 f1 f3 f4 f5⟩
  self := fun A i s Q E st h => by
    have st2 := st.2
    unfold strIterType at st2
    cases hx : x.cps.all (· < 128) with
    | true =>
      rw [hx] at st2
      exact wpAny_pyIter_striter_ascii st2 h
    | false =>
      rw [hx] at st2
      exact wpAny_pyIter_striter_wide st2 h
section
variable {X : Cx} {tg : Expr}
def iStr (te : TE) : TI := fun σ H R => te σ H fun v H1 => ∃ x, v = .str x ∧ R (Its x) H1
theorem pi_str {e : Expr} {te : TE} (he : PE X e te) : PI X tg e (iStr te) := by
  intro pins s σ H R I h
  refine thn (he pins s σ H _ I h) fun u s1 ⟨v, H1, I1, r1, x, e, q⟩ => ?_
  subst e
  obtain ⟨t, rfl⟩ := (show ∃ t, u = Value.str x t from r1)
  refine wpAny_pyIter_strU ?_
  refine ⟨s1.heap.objs.size, [s1.heap.objs.size], _, _, H1, rfl, I1.kept (t' := s1.toks) fun b o e => Heap.get?_push_of_some _ e, turn_str x t _, ⟨Nat.zero_le _, _, Heap.get?_push_size _ rfl, rfl, rfl⟩, fun b hb => ?_, q⟩
  have e : b = s1.heap.objs.size := by simpa using hb
  subst e
  exact I1.fpOk (Nat.le_refl _) (I1.hok.fresh (Nat.le_refl _))
end
theorem comp_str {src : List (Option Nat)} {g : TG} {te : TE} {D : Addr} {σ : St} {H1 : Hp} {Q : VK} {x : Str} (f : Nat → V) (hn : x.cps.size ≤ 5000) (hD : H1 D = none)
    (step : ∀ (i c : Nat) (H2 : Hp) (R : VK), x.cps[i]? = some c → Same H1 H2 → (∀ H6, Same H2 H6 → R (f c) H6) → g (.str ⟨#[c]⟩) (capS src σ) H2 fun σ2 H4 => te σ2 H4 R)
    (fin : ∀ H2, Same H1 H2 → H2 D = some (.lst (x.cps.toList.map f)) → Q (.ref D) H2) : tTurns src (Its x) g tTrue te D σ (upd H1 D (.lst [])) Q := by
  have lx : x.cps.toList.length = x.cps.size := Array.length_toList
  refine ⟨fun i m H2 => m = x.cps.size - i ∧ i ≤ x.cps.size ∧ Same H1 H2 ∧ H2 D = some (.lst ((x.cps.toList.take i).map f)), ⟨x.cps.size, rfl, Nat.zero_le _, Same.new hD, by rw [upd_same]; simp⟩, ?_⟩
  rintro i m H2 ⟨rfl, hi, hS, hd⟩
  by_cases hlt : i < x.cps.size
  · refine .inr ⟨hlt, fun v H3 yd => ?_⟩
    obtain ⟨rfl, c, hc, rfl⟩ := yd
    have hc' : x.cps.toList[i]? = some c := by simpa using hc
    refine step i c H3 _ hc hS fun H6 h6 => ⟨_, h6 D _ hd, ?_, x.cps.size - (i + 1), by omega, rfl, hlt, (hS.trans h6).upd hD, ?_⟩
    · rw [List.length_map, List.length_take]
      exact Nat.lt_of_le_of_lt (Nat.min_le_left _ _) (Nat.lt_of_lt_of_le hlt (Nat.le_trans hn (by decide)))
    · rw [upd_same, CB.take_snoc hc', List.map_append]
      rfl
  · have e : i = x.cps.size := by omega
    subst e
    rw [← lx, List.take_length] at hd
    exact .inl ⟨Nat.le_refl _, fin H2 hS hd⟩
end L2

/-! texts of boards -/
namespace CB
open PySem PySem.NumText
def bar : Str := ⟨#[124]⟩
abbrev sn (x : Str) : List Nat := x.cps.toList
abbrev tx (n : Int) : Str := Str.ofString (toString n)
theorem sn_inj {x y : Str} (h : sn x = sn y) : x = y := Str.ext' (Array.toList_inj.mp h)
theorem sn_app (x y : Str) : sn (x ++ y) = sn x ++ sn y := by
  show (x ++ y).cps.toList = _
  rw [Str.cps_append, Array.toList_append]
theorem sn_len (x : Str) : (sn x).length = x.length := Array.length_toList
/-- joined by strokes -/
def jl : List (List Nat) → List Nat
  | [] => []
  | [x] => x
  | x :: y :: r => x ++ 124 :: jl (y :: r)
theorem sn_join : ∀ ts : List Str, sn (Str.join bar ts) = jl (ts.map sn)
  | [] => rfl
  | [x] => rfl
  | x :: y :: r => by
    have e : Str.join bar (x :: y :: r) = x ++ bar ++ Str.join bar (y :: r) := rfl
    rw [e, sn_app, sn_app, sn_join (y :: r)]
    show sn x ++ [124] ++ _ = _
    simp [jl]
theorem cut_eq {c : Nat} : ∀ {x y r q : List Nat}, c ∉ x → c ∉ y → (r = [] ∨ ∃ r', r = c :: r') → (q = [] ∨ ∃ q', q = c :: q') → x ++ r = y ++ q → x = y ∧ r = q
  | [], [], _, _, _, _, _, _, e => ⟨rfl, e⟩
  | [], b :: y, r, q, _, hy, hr, _, e => by
    rcases hr with rfl | ⟨r', rfl⟩
    · simp at e
    · simp only [List.nil_append, List.cons_append, List.cons.injEq] at e
      exact absurd (e.1 ▸ List.mem_cons_self) hy
  | a :: x, [], r, q, hx, _, _, hq, e => by
    rcases hq with rfl | ⟨q', rfl⟩
    · simp at e
    · simp only [List.nil_append, List.cons_append, List.cons.injEq] at e
      exact absurd (e.1 ▸ List.mem_cons_self) hx
  | a :: x, b :: y, r, q, hx, hy, hr, hq, e => by
    simp only [List.cons_append, List.cons.injEq] at e
    obtain ⟨h1, h2⟩ := cut_eq (fun h => hx (List.mem_cons_of_mem _ h)) (fun h => hy (List.mem_cons_of_mem _ h)) hr hq e.2
    exact ⟨by rw [e.1, h1], h2⟩
theorem jl_shape : ∀ (x : List Nat) (r : List (List Nat)), ∃ q, jl (x :: r) = x ++ q ∧ (q = [] ∨ ∃ q', q = 124 :: q') ∧ (q = [] ↔ r = []) ∧ ∀ y s, r = y :: s → q = 124 :: jl (y :: s)
  | x, [] => ⟨[], by simp [jl], .inl rfl, by simp, fun y s e => by cases e⟩
  | x, y :: s => ⟨124 :: jl (y :: s), rfl, .inr ⟨_, rfl⟩, by simp, fun y' s' e => by cases e; rfl⟩
theorem jl_inj : ∀ {as bs : List (List Nat)}, as ≠ [] → bs ≠ [] → (∀ a ∈ as, 124 ∉ a) → (∀ b ∈ bs, 124 ∉ b) → jl as = jl bs → as = bs
  | [], _, h, _, _, _, _ => absurd rfl h
  | _ :: _, [], _, h, _, _, _ => absurd rfl h
  | a :: as, b :: bs, _, _, ha, hb, e => by
    obtain ⟨q, e1, h1, h2, h3⟩ := jl_shape a as
    obtain ⟨r, e2, g1, g2, g3⟩ := jl_shape b bs
    rw [e1, e2] at e
    obtain ⟨rfl, rfl⟩ := cut_eq (ha a List.mem_cons_self) (hb b List.mem_cons_self) h1 g1 e
    match as, bs with
    | [], [] => rfl
    | [], c :: cs => exact absurd (g2.mp (h2.mpr rfl)) (by simp)
    | c :: cs, [] => exact absurd (h2.mp (g2.mpr rfl)) (by simp)
    | c :: cs, d :: ds =>
      have e3 := h3 c cs rfl
      have e4 := g3 d ds rfl
      rw [e3] at e4
      injection e4 with _ e5
      rw [jl_inj (by simp) (by simp) (fun x hx => ha x (List.mem_cons_of_mem _ hx)) (fun x hx => hb x (List.mem_cons_of_mem _ hx)) e5]
theorem split_join {ts : List Str} (h0 : ts ≠ []) (hf : ∀ t ∈ ts, 124 ∉ sn t) : Txt.split (Str.join bar ts) bar = ts := by
  have h1 : Str.join bar (Txt.split (Str.join bar ts) bar) = Str.join bar ts := StrLaws.join_split _ _
  have h2 : ∀ p ∈ Txt.split (Str.join bar ts) bar, 124 ∉ sn p := StrLaws.split_free _ 124
  have h3 : Txt.split (Str.join bar ts) bar ≠ [] := by
    unfold Txt.split
    split
    · simp
    · split
      · simp
      · rw [StrLaws.partsBetween_eq]
        obtain ⟨p, r, e⟩ := StrLaws.partsFrom_ne (Str.join bar ts) bar.length 0 (Builtin.Str.occurrences (Str.join bar ts) bar 0 (Str.join bar ts).length ((Str.join bar ts).length + 1))
        rw [e]
        simp
  generalize Txt.split (Str.join bar ts) bar = us at *
  have e := congrArg sn h1
  rw [sn_join, sn_join] at e
  have e2 := jl_inj (by simpa using h3) (by simpa using h0) (fun a ha => by obtain ⟨p, hp, rfl⟩ := List.mem_map.mp ha; exact h2 p hp) (fun a ha => by obtain ⟨p, hp, rfl⟩ := List.mem_map.mp ha; exact hf p hp) e
  exact List.map_inj_right (fun x y hxy => sn_inj hxy) |>.mp e2
/-! ### numbers by figures -/
def good (z : Str) : Prop := sn z ≠ [] ∧ z.length ≤ 30 ∧ AllDigits (sn z) ∧ ¬ (1 < z.length ∧ (sn z)[0]? = some 48)
theorem tx_len {n : Int} (h0 : 0 ≤ n) (h1 : n < 10 ^ 30) : (tx n).length ≤ 30 := PyProof.Rows.toString_length_le h0 (by decide) h1
theorem tx_log {n : Int} (h0 : 0 ≤ n) (h1 : n < 10 ^ 30) : n.natAbs.log2 < 1920 := by
  by_cases hn : n.natAbs = 0
  · rw [hn]
    decide
  · have h2 : n.natAbs < 2 ^ 100 := by
      have : (10 : Int) ^ 30 < 2 ^ 100 := by decide
      omega
    have := (Nat.log2_lt hn).mpr h2
    omega
end CB
namespace CB
open PySem PySem.NumText L2
theorem map_bl (p : Nat → Bool) (l : List Nat) : l.map (fun c => V.bl (p c)) = (l.map p).map V.bl := by rw [List.map_map]; rfl
theorem figs : sn "0123456789" = [48, 49, 50, 51, 52, 53, 54, 55, 56, 57] := by decide +kernel
theorem figs_iff (c : Nat) : c ∈ sn "0123456789" ↔ 48 ≤ c ∧ c ≤ 57 := by
  rw [figs]
  simp only [List.mem_cons, List.mem_nil_iff, or_false]
  omega
theorem figs_all {z : List Nat} (h : AllDigits z) : (z.map fun c => decide (c ∈ sn "0123456789")).all id = true := by
  rw [List.all_eq_true]
  intro b hb
  obtain ⟨c, hc, rfl⟩ := List.mem_map.mp hb
  exact decide_eq_true ((figs_iff c).mpr (h c hc))
theorem figs_not {z : List Nat} (h : ¬ AllDigits z) : (z.map fun c => decide (c ∈ sn "0123456789")).all id = false := by
  cases e : (z.map fun c => decide (c ∈ sn "0123456789")).all id with
  | false => rfl
  | true =>
    rw [List.all_eq_true] at e
    exact absurd (fun c hc => (figs_iff c).mp (of_decide_eq_true (e _ (List.mem_map.mpr ⟨c, hc, rfl⟩)))) h
theorem sign48 {c : Nat} (h : (⟨#[c]⟩ : Str) = Str.ofString "0") : some c = some 48 := by
  have e : (Str.ofString "0") = ⟨#[48]⟩ := by decide +kernel
  rw [e] at h
  injection h with h
  have := congrArg Array.toList h
  simpa using this
theorem sign48' : (⟨#[48]⟩ : Str) = Str.ofString "0" := by decide +kernel
theorem rev_tx (bs : List Int) : (bs.map V.int).reverse.map (f1 fun i => .str (tx i)) = (bs.reverse.map tx).map V.str := by
  rw [← List.map_reverse, map_f1, List.map_map]
  rfl
theorem joinOk {sep : Str} {ts : List Str} {B : Nat} (hB : ∀ y ∈ ts, y.length ≤ B) (h : ts.length * B + ts.length * sep.length ≤ 16777216) : JoinOk sep ts = true := by
  unfold JoinOk
  rw [StrLaws.joinFits hB h]
  rfl
end CB
namespace CB
open PySem PySem.NumText L2
theorem cut_to {α : List V} (j : Nat) : cutV α none (some (j : Int)) = α.take j := by
  unfold cutV
  rw [HT.sIx_none, HT.sIx_nat, List.drop_zero, Nat.sub_zero]
  by_cases h : j ≤ α.length
  · rw [Nat.min_eq_left h]
  · rw [Nat.min_eq_right (by omega), List.take_length, List.take_of_length_le (by omega)]
theorem cut_from {α : List V} (j : Nat) : cutV α (some (j : Int)) none = α.drop j := by
  unfold cutV
  rw [HT.sIx_none, HT.sIx_nat]
  by_cases h : j ≤ α.length
  · rw [Nat.min_eq_left h, List.take_of_length_le (by rw [List.length_drop]; exact Nat.le_refl _)]
  · rw [Nat.min_eq_right (by omega), List.drop_length, List.drop_of_length_le (by omega), List.take_nil]
theorem bad_of {z : Str} {c : Nat} (hc : c ∈ sn z) (h : ¬ (48 ≤ c ∧ c ≤ 57)) : ¬ good z := fun g => h (g.2.2.1 c hc)
theorem len_sn {z : Str} {l : List Nat} (h : sn z = l) : z.length = l.length := by rw [← sn_len, h]
/-- a part that is no number, with no stroke in it -/
def Bad1 (x : Str) : Prop := 124 ∉ sn x ∧ ¬ good x ∧ x.length ≤ 61
theorem bad_lit {u : Str} {cs : List Nat} (hu : sn u = cs) (c : Nat) (hc : c ∈ cs) (h : ¬ (48 ≤ c ∧ c ≤ 57)) (hb : 124 ∉ cs) (hl : cs.length ≤ 3) : Bad1 u := by
  have h1 := len_sn hu
  exact ⟨by rw [hu]; exact hb, bad_of (c := c) (by rw [hu]; exact hc) h, by omega⟩
end CB
namespace L2
open PySem
end L2
namespace CB
open PySem
end CB
namespace Toy
open PySem L2
set_option maxHeartbeats 4000000
def top (i : Nat) : Stmt := PySem.Challenge.pw_countboard_k14_refused_frames.main.body.getD i (.Pass ⟨0, 0, 0, 0⟩)
abbrev s_check_frame : Stmt := top 14
abbrev s_check_board : Stmt := top 15
abbrev s_worths : Stmt := top 16
abbrev s_worth : Stmt := top 17
abbrev s_is_plain : Stmt := top 18
abbrev s_board_of : Stmt := top 19
abbrev s_plain : Stmt := top 20
abbrev s_shown : Stmt := top 24
abbrev s_check_part : Stmt := top 25
abbrev s_read : Stmt := top 26
abbrev s_added : Stmt := top 28
abbrev s_less : Stmt := top 29
abbrev s_times : Stmt := top 30
abbrev s_parted : Stmt := top 31
abbrev s_can_raise : Stmt := top 33
abbrev s_can_lower : Stmt := top 34
abbrev s_can : Stmt := top 35
abbrev s_check_step : Stmt := top 36
abbrev s_stepped : Stmt := top 37
abbrev s_raisings : Stmt := top 38
abbrev s_net : Stmt := top 41
abbrev s_fewest : Stmt := top 42
abbrev s_way : Stmt := top 43
abbrev s__law_cell_at : Stmt := top 45
abbrev s__law_word_of : Stmt := top 46
abbrev s__law_first : Stmt := top 47
abbrev s__law_second : Stmt := top 48
abbrev s__law_tried : Stmt := top 49
abbrev s__law_bad_board : Stmt := top 50
abbrev s_law : Stmt := top 51
structure Adr where
  f_check_frame : Addr
  fd_check_frame : FuncData
  f_check_board : Addr
  fd_check_board : FuncData
  f_worths : Addr
  fd_worths : FuncData
  f_worth : Addr
  fd_worth : FuncData
  f_is_plain : Addr
  fd_is_plain : FuncData
  f_board_of : Addr
  fd_board_of : FuncData
  f_plain : Addr
  fd_plain : FuncData
  f_shown : Addr
  fd_shown : FuncData
  f_check_part : Addr
  fd_check_part : FuncData
  f_read : Addr
  fd_read : FuncData
  f_added : Addr
  fd_added : FuncData
  f_less : Addr
  fd_less : FuncData
  f_times : Addr
  fd_times : FuncData
  f_parted : Addr
  fd_parted : FuncData
  f_can_raise : Addr
  fd_can_raise : FuncData
  f_can_lower : Addr
  fd_can_lower : FuncData
  f_can : Addr
  fd_can : FuncData
  f_check_step : Addr
  fd_check_step : FuncData
  f_stepped : Addr
  fd_stepped : FuncData
  f_raisings : Addr
  fd_raisings : FuncData
  f_net : Addr
  fd_net : FuncData
  f_fewest : Addr
  fd_fewest : FuncData
  f_way : Addr
  fd_way : FuncData
  f__law_cell_at : Addr
  fd__law_cell_at : FuncData
  f__law_word_of : Addr
  fd__law_word_of : FuncData
  f__law_first : Addr
  fd__law_first : FuncData
  f__law_second : Addr
  fd__law_second : FuncData
  f__law_tried : Addr
  fd__law_tried : FuncData
  f__law_bad_board : Addr
  fd__law_bad_board : FuncData
  f_law : Addr
  fd_law : FuncData
  c_BoardError : Addr
  c_NoFrame : Addr
  c_NoBoard : Addr
  c_NoNumber : Addr
  c_NoStep : Addr
  c_NoWay : Addr
  c_TooLong : Addr
  c_NoLess : Addr
  c_NoNote : Addr
structure Txt (K : PySem.W.Frag) (mg : Str → Option Value) (A : Adr) : Prop where
  F_check_frame : Fun K "check_frame" "check_frame" s_check_frame A.f_check_frame A.fd_check_frame
  m_check_frame : mg "check_frame" = some (.ref A.f_check_frame)
  a_check_frame : Binds K A.fd_check_frame ["ratios"] []
  F_check_board : Fun K "check_board" "check_board" s_check_board A.f_check_board A.fd_check_board
  m_check_board : mg "check_board" = some (.ref A.f_check_board)
  a_check_board : Binds K A.fd_check_board ["ratios", "board"] []
  F_worths : Fun K "worths" "worths" s_worths A.f_worths A.fd_worths
  m_worths : mg "worths" = some (.ref A.f_worths)
  a_worths : Binds K A.fd_worths ["ratios"] []
  F_worth : Fun K "worth" "worth" s_worth A.f_worth A.fd_worth
  m_worth : mg "worth" = some (.ref A.f_worth)
  a_worth : Binds K A.fd_worth ["ratios", "board"] []
  F_is_plain : Fun K "is_plain" "is_plain" s_is_plain A.f_is_plain A.fd_is_plain
  m_is_plain : mg "is_plain" = some (.ref A.f_is_plain)
  a_is_plain : Binds K A.fd_is_plain ["ratios", "board"] []
  F_board_of : Fun K "board_of" "board_of" s_board_of A.f_board_of A.fd_board_of
  m_board_of : mg "board_of" = some (.ref A.f_board_of)
  a_board_of : Binds K A.fd_board_of ["ratios", "number"] []
  F_plain : Fun K "plain" "plain" s_plain A.f_plain A.fd_plain
  m_plain : mg "plain" = some (.ref A.f_plain)
  a_plain : Binds K A.fd_plain ["ratios", "board"] []
  F_shown : Fun K "shown" "shown" s_shown A.f_shown A.fd_shown
  m_shown : mg "shown" = some (.ref A.f_shown)
  a_shown : Binds K A.fd_shown ["ratios", "board"] []
  F_check_part : Fun K "check_part" "check_part" s_check_part A.f_check_part A.fd_check_part
  m_check_part : mg "check_part" = some (.ref A.f_check_part)
  a_check_part : Binds K A.fd_check_part ["part"] []
  F_read : Fun K "read" "read" s_read A.f_read A.fd_read
  m_read : mg "read" = some (.ref A.f_read)
  a_read : Binds K A.fd_read ["ratios", "text"] []
  F_added : Fun K "added" "added" s_added A.f_added A.fd_added
  m_added : mg "added" = some (.ref A.f_added)
  a_added : Binds K A.fd_added ["ratios", "one", "other"] []
  F_less : Fun K "less" "less" s_less A.f_less A.fd_less
  m_less : mg "less" = some (.ref A.f_less)
  a_less : Binds K A.fd_less ["ratios", "one", "other"] []
  F_times : Fun K "times" "times" s_times A.f_times A.fd_times
  m_times : mg "times" = some (.ref A.f_times)
  a_times : Binds K A.fd_times ["ratios", "board", "number"] []
  F_parted : Fun K "parted" "parted" s_parted A.f_parted A.fd_parted
  m_parted : mg "parted" = some (.ref A.f_parted)
  a_parted : Binds K A.fd_parted ["ratios", "board", "number"] []
  F_can_raise : Fun K "can_raise" "can_raise" s_can_raise A.f_can_raise A.fd_can_raise
  m_can_raise : mg "can_raise" = some (.ref A.f_can_raise)
  a_can_raise : Binds K A.fd_can_raise ["ratios", "board", "line"] []
  F_can_lower : Fun K "can_lower" "can_lower" s_can_lower A.f_can_lower A.fd_can_lower
  m_can_lower : mg "can_lower" = some (.ref A.f_can_lower)
  a_can_lower : Binds K A.fd_can_lower ["board", "line"] []
  F_can : Fun K "can" "can" s_can A.f_can A.fd_can
  m_can : mg "can" = some (.ref A.f_can)
  a_can : Binds K A.fd_can ["ratios", "board"] []
  F_check_step : Fun K "check_step" "check_step" s_check_step A.f_check_step A.fd_check_step
  m_check_step : mg "check_step" = some (.ref A.f_check_step)
  a_check_step : Binds K A.fd_check_step ["ratios", "board", "line", "up"] []
  F_stepped : Fun K "stepped" "stepped" s_stepped A.f_stepped A.fd_stepped
  m_stepped : mg "stepped" = some (.ref A.f_stepped)
  a_stepped : Binds K A.fd_stepped ["ratios", "board", "line", "up"] []
  F_raisings : Fun K "raisings" "raisings" s_raisings A.f_raisings A.fd_raisings
  m_raisings : mg "raisings" = some (.ref A.f_raisings)
  a_raisings : Binds K A.fd_raisings ["ratios", "board"] []
  F_net : Fun K "net" "net" s_net A.f_net A.fd_net
  m_net : mg "net" = some (.ref A.f_net)
  a_net : Binds K A.fd_net ["ratios", "one", "other"] []
  F_fewest : Fun K "fewest" "fewest" s_fewest A.f_fewest A.fd_fewest
  m_fewest : mg "fewest" = some (.ref A.f_fewest)
  a_fewest : Binds K A.fd_fewest ["ratios", "one", "other"] []
  F_way : Fun K "way" "way" s_way A.f_way A.fd_way
  m_way : mg "way" = some (.ref A.f_way)
  a_way : Binds K A.fd_way ["ratios", "one", "other"] []
  F__law_cell_at : Fun K "_law_cell_at" "_law_cell_at" s__law_cell_at A.f__law_cell_at A.fd__law_cell_at
  m__law_cell_at : mg "_law_cell_at" = some (.ref A.f__law_cell_at)
  a__law_cell_at : Binds K A.fd__law_cell_at ["script", "k"] []
  F__law_word_of : Fun K "_law_word_of" "_law_word_of" s__law_word_of A.f__law_word_of A.fd__law_word_of
  m__law_word_of : mg "_law_word_of" = some (.ref A.f__law_word_of)
  a__law_word_of : Binds K A.fd__law_word_of ["e"] []
  F__law_first : Fun K "_law_first" "_law_first" s__law_first A.f__law_first A.fd__law_first
  m__law_first : mg "_law_first" = some (.ref A.f__law_first)
  a__law_first : Binds K A.fd__law_first ["which", "ratios", "board"] []
  F__law_second : Fun K "_law_second" "_law_second" s__law_second A.f__law_second A.fd__law_second
  m__law_second : mg "_law_second" = some (.ref A.f__law_second)
  a__law_second : Binds K A.fd__law_second ["which", "ratios", "one", "other"] []
  F__law_tried : Fun K "_law_tried" "_law_tried" s__law_tried A.f__law_tried A.fd__law_tried
  m__law_tried : mg "_law_tried" = some (.ref A.f__law_tried)
  a__law_tried : Binds K A.fd__law_tried ["which", "ratios", "one", "other"] []
  F__law_bad_board : Fun K "_law_bad_board" "_law_bad_board" s__law_bad_board A.f__law_bad_board A.fd__law_bad_board
  m__law_bad_board : mg "_law_bad_board" = some (.ref A.f__law_bad_board)
  a__law_bad_board : Binds K A.fd__law_bad_board ["board", "kind", "at", "far"] []
  F_law : Fun K "law" "law" s_law A.f_law A.fd_law
  m_law : mg "law" = some (.ref A.f_law)
  a_law : Binds K A.fd_law ["script"] []
  xb : ExcBase K A.c_BoardError
  k_BoardError : mg "BoardError" = some (.ref A.c_BoardError)
  k_NoFrame : mg "NoFrame" = some (.ref A.c_NoFrame)
  t_NoFrame : PySem.W.typeIn K (.ref A.c_NoFrame) = some (.type "type")
  q_NoFrame : PySem.W.isClsIn K A.c_NoFrame = true
  k_NoBoard : mg "NoBoard" = some (.ref A.c_NoBoard)
  t_NoBoard : PySem.W.typeIn K (.ref A.c_NoBoard) = some (.type "type")
  q_NoBoard : PySem.W.isClsIn K A.c_NoBoard = true
  k_NoNumber : mg "NoNumber" = some (.ref A.c_NoNumber)
  t_NoNumber : PySem.W.typeIn K (.ref A.c_NoNumber) = some (.type "type")
  q_NoNumber : PySem.W.isClsIn K A.c_NoNumber = true
  k_NoStep : mg "NoStep" = some (.ref A.c_NoStep)
  t_NoStep : PySem.W.typeIn K (.ref A.c_NoStep) = some (.type "type")
  q_NoStep : PySem.W.isClsIn K A.c_NoStep = true
  k_NoWay : mg "NoWay" = some (.ref A.c_NoWay)
  t_NoWay : PySem.W.typeIn K (.ref A.c_NoWay) = some (.type "type")
  q_NoWay : PySem.W.isClsIn K A.c_NoWay = true
  k_TooLong : mg "TooLong" = some (.ref A.c_TooLong)
  t_TooLong : PySem.W.typeIn K (.ref A.c_TooLong) = some (.type "type")
  q_TooLong : PySem.W.isClsIn K A.c_TooLong = true
  k_NoLess : mg "NoLess" = some (.ref A.c_NoLess)
  t_NoLess : PySem.W.typeIn K (.ref A.c_NoLess) = some (.type "type")
  q_NoLess : PySem.W.isClsIn K A.c_NoLess = true
  k_NoNote : mg "NoNote" = some (.ref A.c_NoNote)
  t_NoNote : PySem.W.typeIn K (.ref A.c_NoNote) = some (.type "type")
  q_NoNote : PySem.W.isClsIn K A.c_NoNote = true
  e_NoFrame : PySem.W.excIn K A.c_NoFrame bmV "ValueError.__new__" = true
  x_NoFrame : ExcCls K A.c_NoFrame
  u_NoFrame : PySem.W.mroIn K A.c_NoFrame (.ref A.c_BoardError) = some true
  v_NoFrame : PySem.W.subIn K (.ref A.c_NoFrame) (.type "ValueError") = some true
  n_NoFrame_NoFrame : PySem.W.subIn K (.ref A.c_NoFrame) (.ref A.c_NoFrame) = some true
  n_NoFrame_NoBoard : PySem.W.subIn K (.ref A.c_NoFrame) (.ref A.c_NoBoard) = some false
  n_NoFrame_NoNumber : PySem.W.subIn K (.ref A.c_NoFrame) (.ref A.c_NoNumber) = some false
  n_NoFrame_NoStep : PySem.W.subIn K (.ref A.c_NoFrame) (.ref A.c_NoStep) = some false
  n_NoFrame_NoWay : PySem.W.subIn K (.ref A.c_NoFrame) (.ref A.c_NoWay) = some false
  n_NoFrame_TooLong : PySem.W.subIn K (.ref A.c_NoFrame) (.ref A.c_TooLong) = some false
  n_NoFrame_NoLess : PySem.W.subIn K (.ref A.c_NoFrame) (.ref A.c_NoLess) = some false
  n_NoFrame_NoNote : PySem.W.subIn K (.ref A.c_NoFrame) (.ref A.c_NoNote) = some false
  e_NoBoard : PySem.W.excIn K A.c_NoBoard bmV "ValueError.__new__" = true
  x_NoBoard : ExcCls K A.c_NoBoard
  u_NoBoard : PySem.W.mroIn K A.c_NoBoard (.ref A.c_BoardError) = some true
  v_NoBoard : PySem.W.subIn K (.ref A.c_NoBoard) (.type "ValueError") = some true
  n_NoBoard_NoFrame : PySem.W.subIn K (.ref A.c_NoBoard) (.ref A.c_NoFrame) = some false
  n_NoBoard_NoBoard : PySem.W.subIn K (.ref A.c_NoBoard) (.ref A.c_NoBoard) = some true
  n_NoBoard_NoNumber : PySem.W.subIn K (.ref A.c_NoBoard) (.ref A.c_NoNumber) = some false
  n_NoBoard_NoStep : PySem.W.subIn K (.ref A.c_NoBoard) (.ref A.c_NoStep) = some false
  n_NoBoard_NoWay : PySem.W.subIn K (.ref A.c_NoBoard) (.ref A.c_NoWay) = some false
  n_NoBoard_TooLong : PySem.W.subIn K (.ref A.c_NoBoard) (.ref A.c_TooLong) = some false
  n_NoBoard_NoLess : PySem.W.subIn K (.ref A.c_NoBoard) (.ref A.c_NoLess) = some false
  n_NoBoard_NoNote : PySem.W.subIn K (.ref A.c_NoBoard) (.ref A.c_NoNote) = some false
  e_NoNumber : PySem.W.excIn K A.c_NoNumber bmV "ValueError.__new__" = true
  x_NoNumber : ExcCls K A.c_NoNumber
  u_NoNumber : PySem.W.mroIn K A.c_NoNumber (.ref A.c_BoardError) = some true
  v_NoNumber : PySem.W.subIn K (.ref A.c_NoNumber) (.type "ValueError") = some true
  n_NoNumber_NoFrame : PySem.W.subIn K (.ref A.c_NoNumber) (.ref A.c_NoFrame) = some false
  n_NoNumber_NoBoard : PySem.W.subIn K (.ref A.c_NoNumber) (.ref A.c_NoBoard) = some false
  n_NoNumber_NoNumber : PySem.W.subIn K (.ref A.c_NoNumber) (.ref A.c_NoNumber) = some true
  n_NoNumber_NoStep : PySem.W.subIn K (.ref A.c_NoNumber) (.ref A.c_NoStep) = some false
  n_NoNumber_NoWay : PySem.W.subIn K (.ref A.c_NoNumber) (.ref A.c_NoWay) = some false
  n_NoNumber_TooLong : PySem.W.subIn K (.ref A.c_NoNumber) (.ref A.c_TooLong) = some false
  n_NoNumber_NoLess : PySem.W.subIn K (.ref A.c_NoNumber) (.ref A.c_NoLess) = some false
  n_NoNumber_NoNote : PySem.W.subIn K (.ref A.c_NoNumber) (.ref A.c_NoNote) = some false
  e_NoNote : PySem.W.excIn K A.c_NoNote bmV "ValueError.__new__" = true
  x_NoNote : ExcCls K A.c_NoNote
  u_NoNote : PySem.W.mroIn K A.c_NoNote (.ref A.c_BoardError) = some true
  v_NoNote : PySem.W.subIn K (.ref A.c_NoNote) (.type "ValueError") = some true
  n_NoNote_NoFrame : PySem.W.subIn K (.ref A.c_NoNote) (.ref A.c_NoFrame) = some false
  n_NoNote_NoBoard : PySem.W.subIn K (.ref A.c_NoNote) (.ref A.c_NoBoard) = some false
  n_NoNote_NoNumber : PySem.W.subIn K (.ref A.c_NoNote) (.ref A.c_NoNumber) = some false
  n_NoNote_NoStep : PySem.W.subIn K (.ref A.c_NoNote) (.ref A.c_NoStep) = some false
  n_NoNote_NoWay : PySem.W.subIn K (.ref A.c_NoNote) (.ref A.c_NoWay) = some false
  n_NoNote_TooLong : PySem.W.subIn K (.ref A.c_NoNote) (.ref A.c_TooLong) = some false
  n_NoNote_NoLess : PySem.W.subIn K (.ref A.c_NoNote) (.ref A.c_NoLess) = some false
  n_NoNote_NoNote : PySem.W.subIn K (.ref A.c_NoNote) (.ref A.c_NoNote) = some true
  g_MOST_RATIOS : ∃ t, mg "MOST_RATIOS" = some (.int 11 t)
  g_LEAST_RATIO : ∃ t, mg "LEAST_RATIO" = some (.int 2 t)
  g_GREATEST_RATIO : ∃ t, mg "GREATEST_RATIO" = some (.int 12 t)
  g_FIGURES : ∃ t, mg "FIGURES" = some (.str "0123456789" t)
  g_MOST_FIGURES : ∃ t, mg "MOST_FIGURES" = some (.int 30 t)
  g_MOST_STEPS : ∃ t, mg "MOST_STEPS" = some (.int 2000 t)
  b_len : mg "len" = none
  b_range : mg "range" = none
  b_zip : mg "zip" = none
  b_reversed : mg "reversed" = none
  b_list : mg "list" = none
  b_int : mg "int" = none
  b_str : mg "str" = none
  b_isinstance : mg "isinstance" = none
  b_sum : mg "sum" = none
  b_all : mg "all" = none
  b_abs : mg "abs" = none
  b_enumerate : mg "enumerate" = none
  b_ValueError : mg "ValueError" = none
theorem sc_check_frame : FnScope ["ratios", "ratio"] ["ratios"] (defScope s_check_frame) := ⟨rfl, rfl, rfl, by decide +kernel, rfl, by decide +kernel, by decide +kernel⟩
theorem sc_check_board : FnScope ["ratios", "board", "counters"] ["ratios", "board"] (defScope s_check_board) := ⟨rfl, rfl, rfl, by decide +kernel, rfl, by decide +kernel, by decide +kernel⟩
theorem sc_worths : FnScope ["ratios", "told", "ratio"] ["ratios"] (defScope s_worths) := ⟨rfl, rfl, rfl, by decide +kernel, rfl, by decide +kernel, by decide +kernel⟩
theorem sc_worth : FnScope ["ratios", "board"] ["ratios", "board"] (defScope s_worth) := ⟨rfl, rfl, rfl, by decide +kernel, rfl, by decide +kernel, by decide +kernel⟩
theorem sc_is_plain : FnScope ["ratios", "board"] ["ratios", "board"] (defScope s_is_plain) := ⟨rfl, rfl, rfl, by decide +kernel, rfl, by decide +kernel, by decide +kernel⟩
theorem sc_board_of : FnScope ["ratios", "number", "board", "left", "ratio"] ["ratios", "number"] (defScope s_board_of) := ⟨rfl, rfl, rfl, by decide +kernel, rfl, by decide +kernel, by decide +kernel⟩
theorem sc_plain : FnScope ["ratios", "board"] ["ratios", "board"] (defScope s_plain) := ⟨rfl, rfl, rfl, by decide +kernel, rfl, by decide +kernel, by decide +kernel⟩
theorem sc_shown : FnScope ["ratios", "board"] ["ratios", "board"] (defScope s_shown) := ⟨rfl, rfl, rfl, by decide +kernel, rfl, by decide +kernel, by decide +kernel⟩
theorem sc_check_part : FnScope ["part"] ["part"] (defScope s_check_part) := ⟨rfl, rfl, rfl, by decide +kernel, rfl, by decide +kernel, by decide +kernel⟩
theorem sc_read : FnScope ["ratios", "text", "parts", "part"] ["ratios", "text"] (defScope s_read) := ⟨rfl, rfl, rfl, by decide +kernel, rfl, by decide +kernel, by decide +kernel⟩
theorem sc_added : FnScope ["ratios", "one", "other"] ["ratios", "one", "other"] (defScope s_added) := ⟨rfl, rfl, rfl, by decide +kernel, rfl, by decide +kernel, by decide +kernel⟩
theorem sc_less : FnScope ["ratios", "one", "other", "left"] ["ratios", "one", "other"] (defScope s_less) := ⟨rfl, rfl, rfl, by decide +kernel, rfl, by decide +kernel, by decide +kernel⟩
theorem sc_times : FnScope ["ratios", "board", "number", "whole"] ["ratios", "board", "number"] (defScope s_times) := ⟨rfl, rfl, rfl, by decide +kernel, rfl, by decide +kernel, by decide +kernel⟩
theorem sc_parted : FnScope ["ratios", "board", "number", "whole"] ["ratios", "board", "number"] (defScope s_parted) := ⟨rfl, rfl, rfl, by decide +kernel, rfl, by decide +kernel, by decide +kernel⟩
theorem sc_can_raise : FnScope ["ratios", "board", "line"] ["ratios", "board", "line"] (defScope s_can_raise) := ⟨rfl, rfl, rfl, by decide +kernel, rfl, by decide +kernel, by decide +kernel⟩
theorem sc_can_lower : FnScope ["board", "line"] ["board", "line"] (defScope s_can_lower) := ⟨rfl, rfl, rfl, by decide +kernel, rfl, by decide +kernel, by decide +kernel⟩
theorem sc_can : FnScope ["ratios", "board", "steps", "line"] ["ratios", "board"] (defScope s_can) := ⟨rfl, rfl, rfl, by decide +kernel, rfl, by decide +kernel, by decide +kernel⟩
theorem sc_stepped : FnScope ["ratios", "board", "line", "up", "behind"] ["ratios", "board", "line", "up"] (defScope s_stepped) := ⟨rfl, rfl, rfl, by decide +kernel, rfl, by decide +kernel, by decide +kernel⟩
theorem sc_raisings : FnScope ["ratios", "board", "told", "raised", "ratio", "counters"] ["ratios", "board"] (defScope s_raisings) := ⟨rfl, rfl, rfl, by decide +kernel, rfl, by decide +kernel, by decide +kernel⟩
theorem sc_net : FnScope ["ratios", "one", "other", "nets", "often", "ratio", "here", "there"] ["ratios", "one", "other"] (defScope s_net) := ⟨rfl, rfl, rfl, by decide +kernel, rfl, by decide +kernel, by decide +kernel⟩
theorem sc_fewest : FnScope ["ratios", "one", "other"] ["ratios", "one", "other"] (defScope s_fewest) := ⟨rfl, rfl, rfl, by decide +kernel, rfl, by decide +kernel, by decide +kernel⟩
theorem sc_way : FnScope ["ratios", "one", "other", "nets", "row", "line", "often"] ["ratios", "one", "other"] (defScope s_way) := ⟨rfl, rfl, rfl, by decide +kernel, rfl, by decide +kernel, by decide +kernel⟩
theorem sc__law_cell_at : FnScope ["script", "k"] ["script", "k"] (defScope s__law_cell_at) := ⟨rfl, rfl, rfl, by decide +kernel, rfl, by decide +kernel, by decide +kernel⟩
theorem sc__law_word_of : FnScope ["e", "kinds"] ["e"] (defScope s__law_word_of) := ⟨rfl, rfl, rfl, by decide +kernel, rfl, by decide +kernel, by decide +kernel⟩
theorem sc__law_first : FnScope ["which", "ratios", "board"] ["which", "ratios", "board"] (defScope s__law_first) := ⟨rfl, rfl, rfl, by decide +kernel, rfl, by decide +kernel, by decide +kernel⟩
theorem sc__law_second : FnScope ["which", "ratios", "one", "other"] ["which", "ratios", "one", "other"] (defScope s__law_second) := ⟨rfl, rfl, rfl, by decide +kernel, rfl, by decide +kernel, by decide +kernel⟩
theorem sc__law_tried : FnScope ["which", "ratios", "one", "other", "e"] ["which", "ratios", "one", "other"] (defScope s__law_tried) := ⟨rfl, rfl, rfl, by decide +kernel, rfl, by decide +kernel, by decide +kernel⟩
theorem sc__law_bad_board : FnScope ["board", "kind", "at", "far"] ["board", "kind", "at", "far"] (defScope s__law_bad_board) := ⟨rfl, rfl, rfl, by decide +kernel, rfl, by decide +kernel, by decide +kernel⟩
theorem sc_law : FnScope ["script", "far", "ratios", "good", "kind", "frame", "told", "bad", "which", "one", "other", "due"] ["script"] (defScope s_law) := ⟨rfl, rfl, rfl, by decide +kernel, rfl, by decide +kernel, by decide +kernel⟩
section
variable {P : Program} {w : World} {K : PySem.W.Frag} {mg : Str → Option Value} {base : Heap} {A : Adr}
def sp_check_frame (K : PySem.W.Frag) : Sp := fun vs H Q _ => ∃ (a : Addr) (rs : List Int), vs = [.ref a] ∧ SqL K H a (rs.map V.int) ∧ CB.Fr rs ∧ Q .non H
theorem ok_check_frame (T : Txt K mg A) : FnOk P w K mg base CX0 1 A.f_check_frame A.fd_check_frame ["ratios"] (sp_check_frame K) := by
  refine T.F_check_frame.ok sc_check_frame (fun vs H Q E h => ?_) (fun cdv A' outer s H vs Q E hr h => ?_)
  · obtain ⟨a, rs, rfl, _⟩ := h
    rfl
  · obtain ⟨a, rs, rfl, hS, hF, q⟩ := h
    refine ⟨_, (pss_cons (ps_if (pt_cmpR op_gt (pe_callB call_len_seq rfl T.b_len PySem.boot_len (pa_cons (pv 0) pa_nil)) (pe_globI rfl T.g_MOST_RATIOS) (nomark _)) (pss_one ps_never) pss_nil)
      (pss_one (ps_for PassesOwn.never rfl (pi_list (pv 0)) (pg_name (i := 1) sc_check_frame.nd rfl (Or.inl rfl))
      (pss_one (ps_if (PW.pt (pw_or (pt_cmpR op_lt (pv 1) (pe_globI rfl T.g_LEAST_RATIO) (nomark _)) (pw_or1 (pt_cmpR op_gt (pv 1) (pe_globI rfl T.g_GREATEST_RATIO) (nomark _))))) (pss_one ps_never) pss_nil))))), ?_⟩
    have hl : (rs.map V.int).length = rs.length := List.length_map _
    have h1 := hF.1
    refine ⟨_, rfl, a, _, rfl, .inl hS, _, _, rfl, rfl, _, rfl, iteDF (by omega) ?_⟩
    refine ⟨_, rfl, a, rfl, ⟨_, hS⟩, for_list (K := K) (a := a) (xs := rs.map V.int) (fun _ σ H2 => ∃ v, σ = [some (.ref a), v] ∧ H2 = H) ⟨none, rfl, rfl⟩ (fun i σ H2 _ ⟨_, _, e⟩ => by rw [e]; exact hS) ?_ ?_⟩
    · rintro i y σ H2 hi ⟨v, rfl, rfl⟩
      obtain ⟨z, hz, rfl⟩ := int_at hi
      obtain ⟨z1, z2⟩ := hF.2 z (List.mem_of_getElem? hz)
      refine ⟨_, rfl, _, _, rfl, rfl, _, rfl, iteDF (by omega) ?_⟩
      exact ⟨_, rfl, _, _, rfl, rfl, _, rfl, iteDF (by omega) ⟨_, rfl, rfl⟩⟩
    · rintro σ H2 ⟨v, rfl, rfl⟩
      exact q

/-- what is raised of a frame and a board -/
def bFB (A : Adr) (rs bs : List Int) (C : Addr) : Prop := (¬ CB.Fr rs ∧ C = A.c_NoFrame) ∨ (CB.Fr rs ∧ ¬ CB.Bd rs bs ∧ C = A.c_NoBoard)
def bFBB (A : Adr) (rs bs cs : List Int) (C : Addr) : Prop := bFB A rs bs C ∨ (CB.Fr rs ∧ CB.Bd rs bs ∧ bFB A rs cs C)
def bp_check_frame (K : PySem.W.Frag) (A : Adr) : Sp := fun vs H _ E => ∃ (a : Addr) (rs : List Int), vs = [.ref a] ∧ SqL K H a (rs.map V.int) ∧ ¬ CB.Fr rs ∧ ∀ H', Same H H' → E (.ref A.c_NoFrame) none H'
theorem bad_check_frame (T : Txt K mg A) : FnOk P w K mg base (CXR P w) 1 A.f_check_frame A.fd_check_frame ["ratios"] (bp_check_frame K A) := by
  refine T.F_check_frame.okR sc_check_frame (fun vs H Q E h => ?_) (fun cdv A' outer s H vs Q E hr h => ?_)
  · obtain ⟨a, rs, rfl, _⟩ := h
    rfl
  · obtain ⟨a, rs, rfl, hS, hF, q⟩ := h
    refine ⟨_, (pss_cons (ps_if (pt_cmpR op_gt (pe_callB call_len_seq rfl T.b_len PySem.boot_len (pa_cons (pv 0) pa_nil)) (pe_globI rfl T.g_MOST_RATIOS) (nomark _)) (pss_one (ps_raise raises_cx rfl rfl T.k_NoFrame T.e_NoFrame (pa_cons (pe_join (pj_str pe_str (by decide +kernel) (pj_int (pe_globI rfl T.g_MOST_RATIOS) (by decide +kernel) (by decide +kernel) (pj_str pe_str (by decide +kernel) pj_nil))) (by decide +kernel)) pa_nil))) pss_nil)
      (pss_one (ps_for PassesOwn.leaving rfl (pi_list (pv 0)) (pg_name (i := 1) sc_check_frame.nd rfl (Or.inl rfl))
      (pss_one (ps_if (PW.pt (pw_or (pt_cmpR op_lt (pv 1) (pe_globI rfl T.g_LEAST_RATIO) (nomark _)) (pw_or1 (pt_cmpR op_gt (pv 1) (pe_globI rfl T.g_GREATEST_RATIO) (nomark _))))) (pss_one (ps_raise raises_cx rfl rfl T.k_NoFrame T.e_NoFrame (pa_cons (pe_join (pj_str pe_str (by decide +kernel) (pj_int (pe_globI rfl T.g_LEAST_RATIO) (by decide +kernel) (by decide +kernel) (pj_str pe_str (by decide +kernel) (pj_int (pe_globI rfl T.g_GREATEST_RATIO) (by decide +kernel) (by decide +kernel) pj_nil)))) (by decide +kernel)) pa_nil))) pss_nil))))), ?_⟩
    have hl : (rs.map V.int).length = rs.length := List.length_map _
    by_cases h1 : 11 < rs.length
    · exact ⟨_, rfl, a, _, rfl, .inl hS, _, _, rfl, rfl, _, rfl, iteDT (by omega) ⟨by show 1 ≤ sizeLine; decide, q H (Same.refl _)⟩⟩
    refine ⟨_, rfl, a, _, rfl, .inl hS, _, _, rfl, rfl, _, rfl, iteDF (by omega) ?_⟩
    refine ⟨_, rfl, a, rfl, ⟨_, hS⟩, for_list (K := K) (a := a) (xs := rs.map V.int) (fun i σ H2 => ∃ v, σ = [some (.ref a), v] ∧ H2 = H ∧ ∀ r ∈ rs.take i, 2 ≤ r ∧ r ≤ 12) ⟨none, rfl, rfl, by simp⟩ (fun i σ H2 _ ⟨_, _, e, _⟩ => by rw [e]; exact hS) ?_ ?_⟩
    · rintro i y σ H2 hi ⟨v, rfl, rfl, hg⟩
      obtain ⟨z, hz, rfl⟩ := int_at hi
      by_cases z1 : z < 2
      · exact ⟨_, rfl, _, _, rfl, rfl, _, rfl, iteDT (by omega) (iteT ⟨by show 1 ≤ sizeLine; decide, q _ (Same.refl _)⟩)⟩
      refine ⟨_, rfl, _, _, rfl, rfl, _, rfl, iteDF (by omega) ?_⟩
      by_cases z2 : 12 < z
      · exact ⟨_, rfl, _, _, rfl, rfl, _, rfl, iteDT (by omega) ⟨by show 1 ≤ sizeLine; decide, q _ (Same.refl _)⟩⟩
      refine ⟨_, rfl, _, _, rfl, rfl, _, rfl, iteDF (by omega) ⟨_, rfl, rfl, fun r hr' => ?_⟩⟩
      rw [CB.take_snoc hz] at hr'
      rcases List.mem_append.mp hr' with h | h
      · exact hg r h
      · have := List.mem_singleton.mp h
        omega
    · rintro σ H2 ⟨v, rfl, rfl, hg⟩
      rw [hl, List.take_length] at hg
      exact absurd ⟨by omega, hg⟩ hF
def sp_check_board (K : PySem.W.Frag) : Sp := fun vs H Q _ => ∃ (a b : Addr) (rs bs : List Int), vs = [.ref a, .ref b] ∧ SqL K H a (rs.map V.int) ∧ SqL K H b (bs.map V.int) ∧ CB.Fr rs ∧ CB.Bd rs bs ∧ Q .non H
theorem ok_check_board (T : Txt K mg A) : FnOk P w K mg base CX0 2 A.f_check_board A.fd_check_board ["ratios", "board"] (sp_check_board K) := by
  refine T.F_check_board.ok sc_check_board (fun vs H Q E h => ?_) (fun cdv A' outer s H vs Q E hr h => ?_)
  · obtain ⟨a, b, rs, bs, rfl, _⟩ := h
    rfl
  · obtain ⟨a, b, rs, bs, rfl, hS, hB, hF, hb, q⟩ := h
    refine ⟨_, (pss_cons (ps_expr (pe_call (ok_check_frame T) (hr.mono (by decide)) rfl T.m_check_frame T.F_check_frame.kp T.a_check_frame .nil pass0 (pa_cons (pv 0) pa_nil)))
      (pss_cons (ps_if (pt_cmpR op_ne (pe_callB call_len_seq rfl T.b_len PySem.boot_len (pa_cons (pv 1) pa_nil)) (pe_op op_add (pe_callB call_len_seq rfl T.b_len PySem.boot_len (pa_cons (pv 0) pa_nil)) pe_int) (nomark _)) (pss_one ps_never) pss_nil)
      (pss_one (ps_for PassesOwn.never rfl (pi_list (pv 1)) (pg_name (i := 2) sc_check_board.nd rfl (Or.inl rfl))
      (pss_one (ps_if (pt_cmpR op_lt (pv 2) pe_int (nomark _)) (pss_one ps_never) pss_nil)))))), ?_⟩
    have l1 : (rs.map V.int).length = rs.length := List.length_map _
    have l2 : (bs.map V.int).length = bs.length := List.length_map _
    have l3 := hb.1
    refine ⟨_, rfl, a, rs, rfl, hS, hF, ?_⟩
    refine ⟨_, rfl, b, _, rfl, .inl hB, _, rfl, a, _, rfl, .inl hS, _, _, rfl, rfl, rfl, _, rfl, iteNS (congrArg V.int (by omega)) ?_⟩
    refine ⟨_, rfl, b, rfl, ⟨_, hB⟩, for_list (K := K) (a := b) (xs := bs.map V.int) (fun _ σ H2 => ∃ v, σ = [some (.ref a), some (.ref b), v] ∧ H2 = H) ⟨none, rfl, rfl⟩ (fun i σ H2 _ ⟨_, _, e⟩ => by rw [e]; exact hB) ?_ ?_⟩
    · rintro i y σ H2 hi ⟨v, rfl, rfl⟩
      obtain ⟨z, hz, rfl⟩ := int_at hi
      have z1 := hb.2 z (List.mem_of_getElem? hz)
      exact ⟨_, rfl, _, _, rfl, rfl, _, rfl, iteDF (by omega) ⟨_, rfl, rfl⟩⟩
    · rintro σ H2 ⟨v, rfl, rfl⟩
      exact q

def bp_check_board (K : PySem.W.Frag) (A : Adr) : Sp := fun vs H _ E => ∃ (a b : Addr) (rs bs : List Int) (C : Addr), vs = [.ref a, .ref b] ∧ SqL K H a (rs.map V.int) ∧ SqL K H b (bs.map V.int) ∧ bFB A rs bs C ∧ ∀ H', Same H H' → E (.ref C) none H'
theorem bad_check_board (T : Txt K mg A) : FnOk P w K mg base (CXR P w) 2 A.f_check_board A.fd_check_board ["ratios", "board"] (bp_check_board K A) := by
  refine T.F_check_board.okR sc_check_board (fun vs H Q E h => ?_) (fun cdv A' outer s H vs Q E hr h => ?_)
  · obtain ⟨a, b, rs, bs, C, rfl, _⟩ := h
    rfl
  · obtain ⟨a, b, rs, bs, C, rfl, hS, hB, hx, q⟩ := h
    rcases hx with ⟨hF, rfl⟩ | ⟨hF, hb, rfl⟩
    · refine ⟨_, (pss_cons (ps_expr (pe_call (bad_check_frame T) (hr.mono (by decide)) rfl T.m_check_frame T.F_check_frame.kp T.a_check_frame .nil passR (pa_cons (pv 0) pa_nil)))
      pss_never), ?_⟩
      exact ⟨_, rfl, a, rs, rfl, hS, hF, q⟩
    · refine ⟨_, (pss_cons (ps_expr (pe_call (ok_check_frame T) (hr.mono (by decide)) rfl T.m_check_frame T.F_check_frame.kp T.a_check_frame .nil pass0 (pa_cons (pv 0) pa_nil)))
      (pss_cons (ps_if (pt_cmpR op_ne (pe_callB call_len_seq rfl T.b_len PySem.boot_len (pa_cons (pv 1) pa_nil)) (pe_op op_add (pe_callB call_len_seq rfl T.b_len PySem.boot_len (pa_cons (pv 0) pa_nil)) pe_int) (nomark _)) (pss_one (ps_raise raises_cx rfl rfl T.k_NoBoard T.e_NoBoard (pa_cons pe_str pa_nil))) pss_nil)
      (pss_one (ps_for PassesOwn.leaving rfl (pi_list (pv 1)) (pg_name (i := 2) sc_check_board.nd rfl (Or.inl rfl))
      (pss_one (ps_if (pt_cmpR op_lt (pv 2) pe_int (nomark _)) (pss_one (ps_raise raises_cx rfl rfl T.k_NoBoard T.e_NoBoard (pa_cons pe_str pa_nil))) pss_nil)))))), ?_⟩
      have l1 : (rs.map V.int).length = rs.length := List.length_map _
      have l2 : (bs.map V.int).length = bs.length := List.length_map _
      refine ⟨_, rfl, a, rs, rfl, hS, hF, ?_⟩
      by_cases hn : bs.length = rs.length + 1
      · refine ⟨_, rfl, b, _, rfl, .inl hB, _, rfl, a, _, rfl, .inl hS, _, _, rfl, rfl, rfl, _, rfl, iteNS (congrArg V.int (by omega)) ?_⟩
        refine ⟨_, rfl, b, rfl, ⟨_, hB⟩, for_list (K := K) (a := b) (xs := bs.map V.int) (fun i σ H2 => ∃ v, σ = [some (.ref a), some (.ref b), v] ∧ H2 = H ∧ ∀ x ∈ bs.take i, 0 ≤ x) ⟨none, rfl, rfl, by simp⟩ (fun i σ H2 _ ⟨_, _, e, _⟩ => by rw [e]; exact hB) ?_ ?_⟩
        · rintro i y σ H2 hi ⟨v, rfl, rfl, hg⟩
          obtain ⟨z, hz, rfl⟩ := int_at hi
          by_cases z1 : z < 0
          · exact ⟨_, rfl, _, _, rfl, rfl, _, rfl, iteDT (by omega) ⟨by show 1 ≤ sizeLine; decide, q _ (Same.refl _)⟩⟩
          refine ⟨_, rfl, _, _, rfl, rfl, _, rfl, iteDF (by omega) ⟨_, rfl, rfl, fun r hr' => ?_⟩⟩
          rw [CB.take_snoc hz] at hr'
          rcases List.mem_append.mp hr' with h | h
          · exact hg r h
          · have := List.mem_singleton.mp h
            omega
        · rintro σ H2 ⟨v, rfl, rfl, hg⟩
          rw [l2, List.take_length] at hg
          exact absurd ⟨hn, hg⟩ hb
      · refine ⟨_, rfl, b, _, rfl, .inl hB, _, rfl, a, _, rfl, .inl hS, _, _, rfl, rfl, rfl, _, rfl, iteND (fun e => hn ?_) ⟨by show 1 ≤ sizeLine; decide, q H (Same.refl _)⟩⟩
        have e' : (((bs.map V.int).length : Nat) : Int) = (((rs.map V.int).length : Nat) : Int) + 1 := V.int.inj e
        omega
def sp_worths (K : PySem.W.Frag) : Sp := fun vs H Q _ => ∃ (a : Addr) (rs : List Int), vs = [.ref a] ∧ SqL K H a (rs.map V.int) ∧ CB.Fr rs ∧ ∀ l H', H l = none → Same H H' → H' l = some (.lst ((CB.ws 1 rs).map V.int)) → Q (.ref l) H'
theorem ok_worths (T : Txt K mg A) : FnOk P w K mg base CX0 2 A.f_worths A.fd_worths ["ratios"] (sp_worths K) := by
  refine T.F_worths.ok sc_worths (fun vs H Q E h => ?_) (fun cdv A' outer s H vs Q E hr h => ?_)
  · obtain ⟨a, rs, rfl, _⟩ := h
    rfl
  · obtain ⟨a, rs, rfl, hS, hF, q⟩ := h
    refine ⟨_, (pss_cons (ps_expr (pe_call (ok_check_frame T) (hr.mono (by decide)) rfl T.m_check_frame T.F_check_frame.kp T.a_check_frame .nil pass0 (pa_cons (pv 0) pa_nil)))
      (pss_cons (ps_set (i := 1) sc_worths.nd rfl (Or.inl rfl) (pe_lst (pa_cons pe_int pa_nil)))
      (pss_cons (ps_for PassesOwn.never rfl (pi_list (pv 0)) (pg_name (i := 2) sc_worths.nd rfl (Or.inl rfl))
      (pss_one (ps_expr (pe_bm PySem.F.plainAttrs_list PySem.F.slot_list_append PySem.F.type_list_append mt_append (pv 1) (pa_cons (pe_op op_mul (pe_ix ix_list (pv 1) (pe_un un_neg pe_int) (fun _ _ => rfl)) (pv 2)) pa_nil)))))
      (pss_one (ps_ret (pv 1)))))), ?_⟩
    have h1 := hF.1
    refine ⟨_, rfl, a, rs, rfl, hS, hF, ?_⟩
    refine ⟨(by show 1 ≤ sizeLine; decide), fun l hl => ?_⟩
    refine ⟨_, rfl, a, rfl, ⟨_, (Same.new hl).seq hS⟩, for_list (K := K) (a := a) (xs := rs.map V.int) (fun i σ H2 => ∃ v, σ = [some (.ref a), some (.ref l), v] ∧ Same H H2 ∧ H2 l = some (.lst ((CB.ws 1 (rs.take i)).map V.int)))
      ⟨none, rfl, Same.new hl, upd_same⟩ (fun i σ H2 _ ⟨_, _, e, _⟩ => e.seq hS) ?_ ?_⟩
    · rintro i y σ H2 hi ⟨v, rfl, sm, hd⟩
      obtain ⟨z, hz, rfl⟩ := int_at hi
      obtain ⟨z1, z2⟩ := hF.2 z (List.mem_of_getElem? hz)
      have hlt := lt_len hz
      have e1 : (CB.ws 1 (rs.take i)).map V.int = (CB.wsI 1 (rs.take i)).map V.int ++ [V.int (1 * CB.pr (rs.take i))] := by
        rw [CB.ws_split, List.map_append]; rfl
      refine ⟨_, rfl, .inl ⟨rfl, _, SqL.of hd⟩, _, rfl, _, rfl, l, _, _, _, rfl, rfl, SqL.of hd, (by rw [e1]; exact atI_last _ _), _, rfl, _, _, rfl, rfl, .inr ⟨by omega, by omega⟩, l, _, _, rfl, rfl, hd, ?_, ?_⟩
      · rw [List.length_map, CB.ws_length, List.length_take]
        exact small1000 (by omega)
      · refine ⟨_, rfl, sm.upd hl, ?_⟩
        rw [upd_same, CB.take_snoc hz, CB.ws_snoc, List.map_append]
        rfl
    · rintro σ H2 ⟨v, rfl, sm, hd⟩
      rw [List.length_map, List.take_length] at hd
      exact ⟨_, rfl, q l H2 hl sm hd⟩

def bp_worths (K : PySem.W.Frag) (A : Adr) : Sp := fun vs H _ E => ∃ (a : Addr) (rs : List Int), vs = [.ref a] ∧ SqL K H a (rs.map V.int) ∧ ¬ CB.Fr rs ∧ ∀ H', Same H H' → E (.ref A.c_NoFrame) none H'
theorem bad_worths (T : Txt K mg A) : FnOk P w K mg base (CXR P w) 2 A.f_worths A.fd_worths ["ratios"] (bp_worths K A) := by
  refine T.F_worths.okR sc_worths (fun vs H Q E h => ?_) (fun cdv A' outer s H vs Q E hr h => ?_)
  · obtain ⟨a, rs, rfl, _⟩ := h
    rfl
  · obtain ⟨a, rs, rfl, hS, hF, q⟩ := h
    refine ⟨_, (pss_cons (ps_expr (pe_call (bad_check_frame T) (hr.mono (by decide)) rfl T.m_check_frame T.F_check_frame.kp T.a_check_frame .nil passR (pa_cons (pv 0) pa_nil)))
      pss_never), ?_⟩
    exact ⟨_, rfl, a, rs, rfl, hS, hF, q⟩
def sp_worth (K : PySem.W.Frag) : Sp := fun vs H Q _ => ∃ (a b : Addr) (rs bs : List Int), vs = [.ref a, .ref b] ∧ SqL K H a (rs.map V.int) ∧ SqL K H b (bs.map V.int) ∧ CB.Fr rs ∧ CB.Bd rs bs ∧ ∀ H', Same H H' → Q (.int (CB.wv rs bs)) H'
theorem ok_worth (T : Txt K mg A) : FnOk P w K mg base CX0 3 A.f_worth A.fd_worth ["ratios", "board"] (sp_worth K) := by
  refine T.F_worth.ok sc_worth (fun vs H Q E h => ?_) (fun cdv A' outer s H vs Q E hr h => ?_)
  · obtain ⟨a, b, rs, bs, rfl, _⟩ := h
    rfl
  · obtain ⟨a, b, rs, bs, rfl, hS, hB, hF, hb, q⟩ := h
    refine ⟨_, (pss_cons (ps_expr (pe_call (ok_check_board T) (hr.mono (by decide)) rfl T.m_check_board T.F_check_board.kp T.a_check_board .nil pass0 (pa_cons (pv 0) (pa_cons (pv 1) pa_nil))))
      (pss_one (ps_ret (pe_callB (call_sum_ints rfl) rfl T.b_sum PyProof.Rows.boot_sum (pa_cons (pe_comp (N := ["each", "counters"]) (src := [none, none]) rfl (comp_sc (N0 := ["ratios", "board"]) (esc := defScope s_worth) (by decide +kernel)) own_two (pi_zip rfl T.b_zip (pa_cons (pe_call (ok_worths T) (hr.mono (by decide)) rfl T.m_worths T.F_worths.kp T.a_worths .nil pass0 (pa_cons (pv 0) pa_nil)) (pa_cons (pv 1) pa_nil))) (fun _ _ _ => (pg_tup (n := 2) rfl (pgs_cons (pg_name (i := 0) (show (["each", "counters"] : List Str).Nodup by decide +kernel) rfl (Or.inl rfl)) (pgs_cons (pg_name (i := 1) (show (["each", "counters"] : List Str).Nodup by decide +kernel) rfl (Or.inl rfl)) pgs_nil)))) (fun _ _ _ => pts_nil) (fun _ _ _ => (pe_op op_mul (pv 0) (pv 1)))) pa_nil))))), ?_⟩
    have h11 := hF.1
    refine ⟨_, rfl, _, rfl, a, b, rs, bs, rfl, hS, hB, hF, hb, ?_⟩
    refine ⟨_, rfl, a, rs, rfl, hS, hF, fun l H1 nl s1 el => ?_⟩
    refine ⟨_, rfl, l, b, rfl, ⟨_, SqL.of el⟩, ⟨_, s1.seq hB⟩, fun D nD => ?_⟩
    refine comp_zip (K := K) (f2 fun i j => .int (i * j)) (by rw [List.length_map, CB.ws_length]; omega) nD (SqL.of el) (s1.seq hB) (fun i x y t H2 R hx hy sm nt hR => ?_) fun H2 sm hd => ?_
    · obtain ⟨w, hw, rfl⟩ := int_at hx
      obtain ⟨c, hc, rfl⟩ := int_at hy
      obtain ⟨w1, w2⟩ := CB.ws_small hF w (List.mem_of_getElem? hw)
      refine ⟨t, _, rfl, SqT.of upd_same, rfl, _, _, rfl, _, _, rfl, rfl, ?_⟩
      exact ⟨_, rfl, _, rfl, _, _, rfl, rfl, .inl ⟨by omega, by omega⟩, hR _ (Same.refl _)⟩
    · have e : List.zipWith (fun i j => V.int (i * j)) (CB.ws 1 rs) bs = (List.zipWith (· * ·) (CB.ws 1 rs) bs).map V.int := by rw [List.map_zipWith]
      rw [zipWith_f2, e] at hd
      refine ⟨D, _, rfl, SqL.of hd, ?_⟩
      have e2 : (List.zipWith (· * ·) (CB.ws 1 rs) bs).sum = CB.wv rs bs := by
        rw [← Int.one_mul (CB.wv rs bs), ← CB.dot_ws 1 rs bs hb.1, CB.dot_eq_sum]
        rw [List.map_zip_eq_zipWith]
        rfl
      rw [e2]
      exact q H2 (s1.trans sm)

def bp_worth (K : PySem.W.Frag) (A : Adr) : Sp := fun vs H _ E => ∃ (a b : Addr) (rs bs : List Int) (C : Addr), vs = [.ref a, .ref b] ∧ SqL K H a (rs.map V.int) ∧ SqL K H b (bs.map V.int) ∧ bFB A rs bs C ∧ ∀ H', Same H H' → E (.ref C) none H'
theorem bad_worth (T : Txt K mg A) : FnOk P w K mg base (CXR P w) 3 A.f_worth A.fd_worth ["ratios", "board"] (bp_worth K A) := by
  refine T.F_worth.okR sc_worth (fun vs H Q E h => ?_) (fun cdv A' outer s H vs Q E hr h => ?_)
  · obtain ⟨a, b, rs, bs, C, rfl, _⟩ := h
    rfl
  · obtain ⟨a, b, rs, bs, C, rfl, hS, hB, hx, q⟩ := h
    refine ⟨_, (pss_cons (ps_expr (pe_call (bad_check_board T) (hr.mono (by decide)) rfl T.m_check_board T.F_check_board.kp T.a_check_board .nil passR (pa_cons (pv 0) (pa_cons (pv 1) pa_nil))))
      pss_never), ?_⟩
    exact ⟨_, rfl, _, rfl, a, b, rs, bs, C, rfl, hS, hB, hx, q⟩
def sp_is_plain (K : PySem.W.Frag) : Sp := fun vs H Q _ => ∃ (a b : Addr) (rs bs : List Int), vs = [.ref a, .ref b] ∧ SqL K H a (rs.map V.int) ∧ SqL K H b (bs.map V.int) ∧ CB.Fr rs ∧ CB.Bd rs bs ∧ ∀ H', Same H H' → Q (.bl (CB.plainB rs bs)) H'
theorem ok_is_plain (T : Txt K mg A) : FnOk P w K mg base CX0 3 A.f_is_plain A.fd_is_plain ["ratios", "board"] (sp_is_plain K) := by
  refine T.F_is_plain.ok sc_is_plain (fun vs H Q E h => ?_) (fun cdv A' outer s H vs Q E hr h => ?_)
  · obtain ⟨a, b, rs, bs, rfl, _⟩ := h
    rfl
  · obtain ⟨a, b, rs, bs, rfl, hS, hB, hF, hb, q⟩ := h
    refine ⟨_, (pss_cons (ps_expr (pe_call (ok_check_board T) (hr.mono (by decide)) rfl T.m_check_board T.F_check_board.kp T.a_check_board .nil pass0 (pa_cons (pv 0) (pa_cons (pv 1) pa_nil))))
      (pss_one (ps_ret (pe_callB (call_all_bools rfl) rfl T.b_all PyProof.Rows.boot_all (pa_cons (pe_comp (N := ["counters", "ratio"]) (src := [none, none]) rfl (comp_sc (N0 := ["ratios", "board"]) (esc := defScope s_is_plain) (by decide +kernel)) own_two (pi_zip rfl T.b_zip (pa_cons (pv 1) (pa_cons (pv 0) pa_nil))) (fun _ _ _ => (pg_tup (n := 2) rfl (pgs_cons (pg_name (i := 0) (show (["counters", "ratio"] : List Str).Nodup by decide +kernel) rfl (Or.inl rfl)) (pgs_cons (pg_name (i := 1) (show (["counters", "ratio"] : List Str).Nodup by decide +kernel) rfl (Or.inl rfl)) pgs_nil)))) (fun _ _ _ => pts_nil) (fun _ _ _ => (pe_cmpR op_lt (pv 0) (pv 1) (nomark _)))) pa_nil))))), ?_⟩
    have h11 := hF.1
    have hl := hb.1
    refine ⟨_, rfl, _, rfl, a, b, rs, bs, rfl, hS, hB, hF, hb, ?_⟩
    refine ⟨_, rfl, _, rfl, b, a, rfl, ⟨_, hB⟩, ⟨_, hS⟩, fun D nD => ?_⟩
    refine comp_zip (K := K) (f2 fun i j => .bl (decide (i < j))) (by rw [List.length_map]; omega) nD hB hS (fun i x y t H2 R hx hy sm nt hR => ?_) fun H2 sm hd => ?_
    · obtain ⟨w, hw, rfl⟩ := int_at hx
      obtain ⟨c, hc, rfl⟩ := int_at hy
      refine ⟨t, _, rfl, SqT.of upd_same, rfl, _, _, rfl, _, _, rfl, rfl, ?_⟩
      exact ⟨_, rfl, _, rfl, _, _, rfl, rfl, hR _ (Same.refl _)⟩
    · have e : List.zipWith (fun i j => V.bl (decide (i < j))) bs rs = (List.zipWith (fun c r => decide (c < r)) bs rs).map V.bl := by rw [List.map_zipWith]
      rw [zipWith_f2, e] at hd
      exact ⟨D, _, rfl, SqL.of hd, q H2 sm⟩

def bp_is_plain (K : PySem.W.Frag) (A : Adr) : Sp := fun vs H _ E => ∃ (a b : Addr) (rs bs : List Int) (C : Addr), vs = [.ref a, .ref b] ∧ SqL K H a (rs.map V.int) ∧ SqL K H b (bs.map V.int) ∧ bFB A rs bs C ∧ ∀ H', Same H H' → E (.ref C) none H'
theorem bad_is_plain (T : Txt K mg A) : FnOk P w K mg base (CXR P w) 3 A.f_is_plain A.fd_is_plain ["ratios", "board"] (bp_is_plain K A) := by
  refine T.F_is_plain.okR sc_is_plain (fun vs H Q E h => ?_) (fun cdv A' outer s H vs Q E hr h => ?_)
  · obtain ⟨a, b, rs, bs, C, rfl, _⟩ := h
    rfl
  · obtain ⟨a, b, rs, bs, C, rfl, hS, hB, hx, q⟩ := h
    refine ⟨_, (pss_cons (ps_expr (pe_call (bad_check_board T) (hr.mono (by decide)) rfl T.m_check_board T.F_check_board.kp T.a_check_board .nil passR (pa_cons (pv 0) (pa_cons (pv 1) pa_nil))))
      pss_never), ?_⟩
    exact ⟨_, rfl, _, rfl, a, b, rs, bs, C, rfl, hS, hB, hx, q⟩
def sp_board_of (K : PySem.W.Frag) : Sp := fun vs H Q _ => ∃ (a : Addr) (rs : List Int) (n : Int), vs = [.ref a, .int n] ∧ SqL K H a (rs.map V.int) ∧ CB.Fr rs ∧ 0 ≤ n ∧ ∀ l H', H l = none → Same H H' → H' l = some (.lst ((CB.dg rs n).map V.int)) → Q (.ref l) H'
theorem ok_board_of (T : Txt K mg A) : FnOk P w K mg base CX0 2 A.f_board_of A.fd_board_of ["ratios", "number"] (sp_board_of K) := by
  refine T.F_board_of.ok sc_board_of (fun vs H Q E h => ?_) (fun cdv A' outer s H vs Q E hr h => ?_)
  · obtain ⟨a, rs, n, rfl, _⟩ := h
    rfl
  · obtain ⟨a, rs, n, rfl, hS, hF, h0, q⟩ := h
    refine ⟨_, (pss_cons (ps_expr (pe_call (ok_check_frame T) (hr.mono (by decide)) rfl T.m_check_frame T.F_check_frame.kp T.a_check_frame .nil pass0 (pa_cons (pv 0) pa_nil)))
      (pss_cons (ps_if (pt_cmpR op_lt (pv 1) pe_int (nomark _)) (pss_one ps_never) pss_nil)
      (pss_cons (ps_set (i := 2) sc_board_of.nd rfl (Or.inl rfl) (pe_lst pa_nil))
      (pss_cons (ps_set (i := 3) sc_board_of.nd rfl (Or.inl rfl) (pv 1))
      (pss_cons (ps_for PassesOwn.never rfl (pi_list (pv 0)) (pg_name (i := 4) sc_board_of.nd rfl (Or.inl rfl))
      (pss_cons (ps_expr (pe_bm PySem.F.plainAttrs_list PySem.F.slot_list_append PySem.F.type_list_append mt_append (pv 2) (pa_cons (pe_op op_mod (pv 3) (pv 4)) pa_nil)))
      (pss_one (ps_set (i := 3) sc_board_of.nd rfl (Or.inl rfl) (pe_op op_fdiv (pv 3) (pv 4))))))
      (pss_cons (ps_expr (pe_bm PySem.F.plainAttrs_list PySem.F.slot_list_append PySem.F.type_list_append mt_append (pv 2) (pa_cons (pv 3) pa_nil)))
      (pss_one (ps_ret (pv 2))))))))), ?_⟩
    have h11 := hF.1
    refine ⟨_, rfl, a, rs, rfl, hS, hF, ?_⟩
    refine ⟨_, rfl, _, _, rfl, rfl, _, rfl, iteDF (by omega) ?_⟩
    refine ⟨Nat.zero_le _, fun l nl => ?_⟩
    refine ⟨_, rfl, ?_⟩
    refine ⟨_, rfl, a, rfl, ⟨_, (Same.new nl).seq hS⟩, for_list (K := K) (a := a) (xs := rs.map V.int) (fun i σ H2 => ∃ v, ∃ (m : Int) (pre : List Int), σ = [some (.ref a), some (.int n), some (.ref l), some (.int m), v] ∧ Same H H2 ∧ H2 l = some (.lst (pre.map V.int)) ∧ pre.length = i ∧ pre ++ CB.dg (rs.drop i) m = CB.dg rs n)
      ⟨none, n, [], rfl, Same.new nl, upd_same, rfl, rfl⟩ (fun i σ H2 _ ⟨_, _, _, _, e, _⟩ => e.seq hS) ?_ ?_⟩
    · rintro i y σ H2 hi ⟨v, m, pre, rfl, sm, hd, hp, he⟩
      obtain ⟨z, hz, rfl⟩ := int_at hi
      obtain ⟨z1, z2⟩ := hF.2 z (List.mem_of_getElem? hz)
      have hlt := lt_len hz
      refine ⟨_, rfl, .inl ⟨rfl, _, SqL.of hd⟩, _, rfl, _, rfl, _, _, rfl, rfl, (by show (0 : Int) < z; omega), l, _, _, rfl, rfl, hd, ?_, ?_⟩
      · rw [List.length_map]
        exact small1000 (by omega)
      · refine ⟨_, rfl, _, rfl, _, _, rfl, rfl, ⟨by omega, by omega⟩, _, _, pre ++ [m % z], rfl, sm.upd nl, ?_, ?_, ?_⟩
        · rw [upd_same, List.map_append]
          rfl
        · rw [List.length_append, hp]
          rfl
        · rw [← he, List.append_assoc]
          congr 1
          have e : rs.drop i = z :: rs.drop (i + 1) := by
            rw [List.drop_eq_getElem_cons hlt]
            congr 1
            exact (List.getElem?_eq_some_iff.mp hz).2
          rw [e]
          rfl
    · rintro σ H2 ⟨v, m, pre, rfl, sm, hd, hp, he⟩
      rw [List.length_map] at hp he
      rw [List.drop_length] at he
      refine ⟨_, rfl, .inl ⟨rfl, _, SqL.of hd⟩, _, rfl, l, _, _, rfl, rfl, hd, ?_, ?_⟩
      · rw [List.length_map]
        exact small1000 (by omega)
      · refine ⟨_, rfl, q l _ nl (sm.upd nl) ?_⟩
        rw [upd_same, ← he, List.map_append]
        rfl

def bp_board_of (K : PySem.W.Frag) (A : Adr) : Sp := fun vs H _ E => ∃ (a : Addr) (rs : List Int) (n : Int), vs = [.ref a, .int n] ∧ SqL K H a (rs.map V.int) ∧ ¬ CB.Fr rs ∧ ∀ H', Same H H' → E (.ref A.c_NoFrame) none H'
theorem bad_board_of (T : Txt K mg A) : FnOk P w K mg base (CXR P w) 2 A.f_board_of A.fd_board_of ["ratios", "number"] (bp_board_of K A) := by
  refine T.F_board_of.okR sc_board_of (fun vs H Q E h => ?_) (fun cdv A' outer s H vs Q E hr h => ?_)
  · obtain ⟨a, rs, n, rfl, _⟩ := h
    rfl
  · obtain ⟨a, rs, n, rfl, hS, hF, q⟩ := h
    refine ⟨_, (pss_cons (ps_expr (pe_call (bad_check_frame T) (hr.mono (by decide)) rfl T.m_check_frame T.F_check_frame.kp T.a_check_frame .nil passR (pa_cons (pv 0) pa_nil)))
      pss_never), ?_⟩
    exact ⟨_, rfl, a, rs, rfl, hS, hF, q⟩
def lp_board_of (K : PySem.W.Frag) (A : Adr) : Sp := fun vs H _ E => ∃ (a : Addr) (rs : List Int) (n : Int), vs = [.ref a, .int n] ∧ SqL K H a (rs.map V.int) ∧ CB.Fr rs ∧ n < 0 ∧ ∀ H', Same H H' → E (.ref A.c_NoNumber) none H'
theorem low_board_of (T : Txt K mg A) : FnOk P w K mg base (CXR P w) 2 A.f_board_of A.fd_board_of ["ratios", "number"] (lp_board_of K A) := by
  refine T.F_board_of.okR sc_board_of (fun vs H Q E h => ?_) (fun cdv A' outer s H vs Q E hr h => ?_)
  · obtain ⟨a, rs, n, rfl, _⟩ := h
    rfl
  · obtain ⟨a, rs, n, rfl, hS, hF, h0, q⟩ := h
    refine ⟨_, (pss_cons (ps_expr (pe_call (ok_check_frame T) (hr.mono (by decide)) rfl T.m_check_frame T.F_check_frame.kp T.a_check_frame .nil pass0 (pa_cons (pv 0) pa_nil)))
      (pss_cons (ps_if (pt_cmpR op_lt (pv 1) pe_int (nomark _)) (pss_one (ps_raise raises_cx rfl rfl T.k_NoNumber T.e_NoNumber (pa_cons pe_str pa_nil))) pss_nil)
      (pss_cons ps_never
      (pss_cons ps_never
      (pss_cons ps_never
      (pss_cons ps_never
      (pss_one ps_never))))))), ?_⟩
    refine ⟨_, rfl, a, rs, rfl, hS, hF, ?_⟩
    exact ⟨_, rfl, _, _, rfl, rfl, _, rfl, iteDT h0 ⟨by show 1 ≤ sizeLine; decide, q H (Same.refl _)⟩⟩
def sp_plain (K : PySem.W.Frag) : Sp := fun vs H Q _ => ∃ (a b : Addr) (rs bs : List Int), vs = [.ref a, .ref b] ∧ SqL K H a (rs.map V.int) ∧ SqL K H b (bs.map V.int) ∧ CB.Fr rs ∧ CB.Bd rs bs ∧ ∀ l H', H l = none → Same H H' → H' l = some (.lst ((CB.dg rs (CB.wv rs bs)).map V.int)) → Q (.ref l) H'
theorem ok_plain (T : Txt K mg A) : FnOk P w K mg base CX0 4 A.f_plain A.fd_plain ["ratios", "board"] (sp_plain K) := by
  refine T.F_plain.ok sc_plain (fun vs H Q E h => ?_) (fun cdv A' outer s H vs Q E hr h => ?_)
  · obtain ⟨a, b, rs, bs, rfl, _⟩ := h
    rfl
  · obtain ⟨a, b, rs, bs, rfl, hS, hB, hF, hb, q⟩ := h
    refine ⟨_, (pss_one (ps_ret (pe_call (ok_board_of T) (hr.mono (by decide)) rfl T.m_board_of T.F_board_of.kp T.a_board_of .nil pass0 (pa_cons (pv 0) (pa_cons (pe_call (ok_worth T) (hr.mono (by decide)) rfl T.m_worth T.F_worth.kp T.a_worth .nil pass0 (pa_cons (pv 0) (pa_cons (pv 1) pa_nil))) pa_nil))))), ?_⟩
    refine ⟨_, rfl, _, rfl, _, rfl, a, b, rs, bs, rfl, hS, hB, hF, hb, fun H1 s1 => ?_⟩
    exact ⟨a, rs, _, rfl, s1.seq hS, hF, CB.wv_nonneg (fun r hr' => by have := hF.2 r hr'; omega) hb.2, fun l H2 nl s2 el => q l H2 (s1.free nl) (s1.trans s2) el⟩

def bp_plain (K : PySem.W.Frag) (A : Adr) : Sp := fun vs H _ E => ∃ (a b : Addr) (rs bs : List Int) (C : Addr), vs = [.ref a, .ref b] ∧ SqL K H a (rs.map V.int) ∧ SqL K H b (bs.map V.int) ∧ bFB A rs bs C ∧ ∀ H', Same H H' → E (.ref C) none H'
theorem bad_plain (T : Txt K mg A) : FnOk P w K mg base (CXR P w) 4 A.f_plain A.fd_plain ["ratios", "board"] (bp_plain K A) := by
  refine T.F_plain.okR sc_plain (fun vs H Q E h => ?_) (fun cdv A' outer s H vs Q E hr h => ?_)
  · obtain ⟨a, b, rs, bs, C, rfl, _⟩ := h
    rfl
  · obtain ⟨a, b, rs, bs, C, rfl, hS, hB, hx, q⟩ := h
    refine ⟨_, (pss_one (ps_ret (pe_call (fn_no (CX := CX0) (k := 0)) (hr.mono (by decide)) rfl T.m_board_of T.F_board_of.kp T.a_board_of .nil pass0 (pa_cons (pv 0) (pa_cons (pe_call (bad_worth T) (hr.mono (by decide)) rfl T.m_worth T.F_worth.kp T.a_worth .nil passR (pa_cons (pv 0) (pa_cons (pv 1) pa_nil))) pa_nil))))), ?_⟩
    exact ⟨_, rfl, _, rfl, _, rfl, a, b, rs, bs, C, rfl, hS, hB, hx, q⟩
def sp_shown (K : PySem.W.Frag) : Sp := fun vs H Q _ => ∃ (a b : Addr) (rs bs : List Int), vs = [.ref a, .ref b] ∧ SqL K H a (rs.map V.int) ∧ SqL K H b (bs.map V.int) ∧ CB.Fr rs ∧ CB.Bd rs bs ∧ (∀ x ∈ bs, x < 10 ^ 30) ∧ ∀ H', Same H H' → Q (.str (Str.join CB.bar (bs.reverse.map CB.tx))) H'
theorem ok_shown (T : Txt K mg A) : FnOk P w K mg base CX0 3 A.f_shown A.fd_shown ["ratios", "board"] (sp_shown K) := by
  refine T.F_shown.ok sc_shown (fun vs H Q E h => ?_) (fun cdv A' outer s H vs Q E hr h => ?_)
  · obtain ⟨a, b, rs, bs, rfl, _⟩ := h
    rfl
  · obtain ⟨a, b, rs, bs, rfl, hS, hB, hF, hb, hm, q⟩ := h
    refine ⟨_, (pss_cons (ps_expr (pe_call (ok_check_board T) (hr.mono (by decide)) rfl T.m_check_board T.F_check_board.kp T.a_check_board .nil pass0 (pa_cons (pv 0) (pa_cons (pv 1) pa_nil))))
      (pss_one (ps_ret (pe_bm PySem.F.plainAttrs_str PySem.F.slot_str_join PySem.F.type_str_join mt_join pe_str (pa_cons (pe_comp (N := ["counters"]) (src := [none]) rfl (comp_sc (N0 := ["ratios", "board"]) (esc := defScope s_shown) (by decide +kernel)) own_name (pi_revl rfl T.b_reversed (pa_cons (pv 1) pa_nil)) (fun _ _ _ => (pg_name (i := 0) (show (["counters"] : List Str).Nodup by decide +kernel) rfl (Or.inl rfl))) (fun _ _ _ => pts_nil) (fun _ _ _ => (pe_callTy call_str_int rfl T.b_str PyProof.Rows.boot_str (pa_cons (pv 0) pa_nil)))) pa_nil))))), ?_⟩
    have h11 := hF.1
    have hl := hb.1
    refine ⟨_, rfl, _, rfl, a, b, rs, bs, rfl, hS, hB, hF, hb, ?_⟩
    refine ⟨rfl, _, rfl, b, _, rfl, hB, fun D nD => ?_⟩
    refine comp_revl (K := K) (f1 fun i => .str (CB.tx i)) (by rw [List.length_map]; omega) nD hB (fun i x H2 R hx sm hR => ?_) fun H2 s2 hd => ?_
    · obtain ⟨z, hz, rfl⟩ := List.mem_map.mp (List.mem_reverse.mp (List.mem_of_getElem? hx))
      exact ⟨_, rfl, z, rfl, CB.tx_log (hb.2 z hz) (hm z hz), hR _ (Same.refl _)⟩
    rw [CB.rev_tx] at hd
    refine ⟨_, D, _, rfl, rfl, SqL.of hd, ?_, ?_⟩
    · refine CB.joinOk (B := 30) (fun y hy => ?_) (by rw [List.length_map, List.length_reverse, show (Str.ofString "|").length = 1 from rfl]; omega)
      obtain ⟨z, hz, rfl⟩ := List.mem_map.mp hy
      have hz' := List.mem_reverse.mp hz
      exact CB.tx_len (hb.2 z hz') (hm z hz')
    · exact q H2 s2

def bp_shown (K : PySem.W.Frag) (A : Adr) : Sp := fun vs H _ E => ∃ (a b : Addr) (rs bs : List Int) (C : Addr), vs = [.ref a, .ref b] ∧ SqL K H a (rs.map V.int) ∧ SqL K H b (bs.map V.int) ∧ bFB A rs bs C ∧ ∀ H', Same H H' → E (.ref C) none H'
theorem bad_shown (T : Txt K mg A) : FnOk P w K mg base (CXR P w) 3 A.f_shown A.fd_shown ["ratios", "board"] (bp_shown K A) := by
  refine T.F_shown.okR sc_shown (fun vs H Q E h => ?_) (fun cdv A' outer s H vs Q E hr h => ?_)
  · obtain ⟨a, b, rs, bs, C, rfl, _⟩ := h
    rfl
  · obtain ⟨a, b, rs, bs, C, rfl, hS, hB, hx, q⟩ := h
    refine ⟨_, (pss_cons (ps_expr (pe_call (bad_check_board T) (hr.mono (by decide)) rfl T.m_check_board T.F_check_board.kp T.a_check_board .nil passR (pa_cons (pv 0) (pa_cons (pv 1) pa_nil))))
      pss_never), ?_⟩
    exact ⟨_, rfl, _, rfl, a, b, rs, bs, C, rfl, hS, hB, hx, q⟩

-- raises NoNote
def bp_check_part (K : PySem.W.Frag) (C : Addr) : Sp := fun vs H Q E => ∃ z : Str, vs = [.str z] ∧ z.length ≤ 1000 ∧ (CB.good z → ∀ H', Same H H' → Q .non H') ∧ (¬ CB.good z → ∀ H', Same H H' → E (.ref C) none H')
theorem bad_check_part (T : Txt K mg A) : FnOk P w K mg base (CXR P w) 1 A.f_check_part A.fd_check_part ["part"] (bp_check_part K A.c_NoNote) := by
  refine T.F_check_part.okR sc_check_part (fun vs H Q E h => ?_) (fun cdv A' outer s H vs Q E hr h => ?_)
  · obtain ⟨z, rfl, _⟩ := h
    rfl
  · obtain ⟨z, rfl, h1000, q, qb⟩ := h
    refine ⟨_, (pss_cons (ps_if (PW.pt (pw_or (pt_cmpR op_eq (pv 0) pe_str (nomark _)) (pw_or1 (pt_cmpR op_gt (pe_callB call_len_str rfl T.b_len PySem.boot_len (pa_cons (pv 0) pa_nil)) (pe_globI rfl T.g_MOST_FIGURES) (nomark _))))) (pss_one (ps_raise raises_cx rfl rfl T.k_NoNote T.e_NoNote (pa_cons (pe_join (pj_str pe_str (by decide +kernel) (pj_int (pe_globI rfl T.g_MOST_FIGURES) (by decide +kernel) (by decide +kernel) pj_nil)) (by decide +kernel)) pa_nil))) pss_nil)
      (pss_cons (ps_if (pt_not (pt_val (pe_callB (call_all_bools rfl) rfl T.b_all PyProof.Rows.boot_all (pa_cons (pe_comp (N := ["sign"]) (src := [none]) rfl (comp_sc (N0 := ["part"]) (esc := defScope s_check_part) (by decide +kernel)) own_name (pi_str (pv 0)) (fun _ _ _ => (pg_name (i := 0) (show (["sign"] : List Str).Nodup by decide +kernel) rfl (Or.inl rfl))) (fun _ _ _ => pts_nil) (fun _ _ _ => (pe_cmpR op_in_str (pv 0) (pe_globS rfl T.g_FIGURES) (by with_unfolding_all rfl)))) pa_nil)))) (pss_one (ps_raise raises_cx rfl rfl T.k_NoNote T.e_NoNote (pa_cons pe_str pa_nil))) pss_nil)
      (pss_one (ps_if (PW.pt (pw_and (pt_cmpR op_gt (pe_callB call_len_str rfl T.b_len PySem.boot_len (pa_cons (pv 0) pa_nil)) pe_int (nomark _)) (pw_and1 (pt_cmpR op_eq (pe_ix ix_str (pv 0) pe_int (fun _ _ => rfl)) pe_str (nomark _))))) (pss_one (ps_raise raises_cx rfl rfl T.k_NoNote T.e_NoNote (pa_cons pe_str pa_nil))) pss_nil)))), ?_⟩
    have hz : z.length ≤ sizeLine := by rw [sizeLine_eq]; omega
    have hzl := CB.sn_len z
    have one : ([V.str "x"] : List V).length ≤ sizeLine := by show 1 ≤ sizeLine; decide
    by_cases h0 : z = Str.ofString ""
    · refine ⟨_, rfl, rfl, _, rfl, iteDT (congrArg V.str h0) (iteT ⟨one, qb (fun g => g.1 ?_) _ (Same.refl _)⟩)⟩
      rw [h0]
      rfl
    refine ⟨_, rfl, rfl, _, rfl, iteDF (fun e => h0 (V.str.inj e)) ?_⟩
    by_cases h30 : 30 < z.length
    · exact ⟨_, rfl, z, rfl, hz, _, _, rfl, rfl, _, rfl, iteDT (by omega) ⟨one, qb (fun g => by have := g.2.1; omega) _ (Same.refl _)⟩⟩
    refine ⟨_, rfl, z, rfl, hz, _, _, rfl, rfl, _, rfl, iteDF (by omega) ?_⟩
    refine ⟨_, rfl, z, rfl, fun D nD => ?_⟩
    refine comp_str (fun c => .bl (decide (c ∈ CB.sn "0123456789"))) (by show z.length ≤ 5000; omega) nD (fun i c H2 R hc sm hR => ?_) fun H2 s2 hd => ?_
    · refine ⟨_, rfl, _, _, rfl, rfl, ?_⟩
      rw [StrLaws.found_one]
      exact hR _ (Same.refl _)
    rw [CB.map_bl] at hd
    by_cases hdg : NumText.AllDigits (CB.sn z)
    · refine ⟨D, _, rfl, SqL.of hd, _, rfl, iteBF (by rw [CB.figs_all hdg]; rfl) ?_⟩
      have l0 : 0 < z.length := by
        rw [← hzl]
        refine List.length_pos_iff.mpr fun e => h0 (CB.sn_inj ?_)
        rw [e]
        rfl
      by_cases h1 : 1 < z.length
      · refine ⟨_, rfl, z, rfl, hz, _, _, rfl, rfl, _, rfl, iteDT (by omega) ?_⟩
        have hc : (CB.sn z)[0]? = some ((CB.sn z)[0]'(by omega)) := List.getElem?_eq_getElem _
        by_cases h48 : (CB.sn z)[0]'(by omega) = 48
        · refine ⟨_, rfl, z, _, _, rfl, rfl, hz, (atI_nat (j := 0) hc), rfl, _, rfl, iteDT ?_ ⟨one, qb (fun g => g.2.2.2 ⟨h1, by rw [hc, h48]⟩) _ s2⟩⟩
          rw [h48]
          exact congrArg V.str CB.sign48'
        · exact ⟨_, rfl, z, _, _, rfl, rfl, hz, (atI_nat (j := 0) hc), rfl, _, rfl, iteDF (fun e => h48 (Option.some.inj (CB.sign48 (V.str.inj e)))) (q ⟨List.length_pos_iff.mp (by omega), by omega, hdg, fun g => h48 (by rw [hc] at g; exact Option.some.inj g.2)⟩ _ s2)⟩
      · exact ⟨_, rfl, z, rfl, hz, _, _, rfl, rfl, _, rfl, iteDF (by omega) (iteF (q ⟨List.length_pos_iff.mp (by omega), by omega, hdg, fun g => h1 g.1⟩ _ s2))⟩
    · exact ⟨D, _, rfl, SqL.of hd, _, rfl, iteBT (by rw [CB.figs_not hdg]; rfl) ⟨one, qb (fun g => hdg g.2.2.1) _ s2⟩⟩

def bp_read (K : PySem.W.Frag) (A : Adr) : Sp := fun vs H _ E => ∃ (a : Addr) (rs : List Int) (x : Str), vs = [.ref a, .str x] ∧ SqL K H a (rs.map V.int) ∧ ¬ CB.Fr rs ∧ ∀ H', Same H H' → E (.ref A.c_NoFrame) none H'
theorem bad_read (T : Txt K mg A) : FnOk P w K mg base (CXR P w) 2 A.f_read A.fd_read ["ratios", "text"] (bp_read K A) := by
  refine T.F_read.okR sc_read (fun vs H Q E h => ?_) (fun cdv A' outer s H vs Q E hr h => ?_)
  · obtain ⟨a, rs, x, rfl, _⟩ := h
    rfl
  · obtain ⟨a, rs, x, rfl, hS, hF, q⟩ := h
    refine ⟨_, (pss_cons (ps_expr (pe_call (bad_check_frame T) (hr.mono (by decide)) rfl T.m_check_frame T.F_check_frame.kp T.a_check_frame .nil passR (pa_cons (pv 0) pa_nil)))
      pss_never), ?_⟩
    exact ⟨_, rfl, a, rs, rfl, hS, hF, q⟩
def np_read (K : PySem.W.Frag) (C : Addr) : Sp := fun vs H _ E => ∃ (a : Addr) (rs : List Int) (us : List Str), vs = [.ref a, .str (Str.join CB.bar us)] ∧ SqL K H a (rs.map V.int) ∧ CB.Fr rs ∧ us ≠ [] ∧ (∀ u ∈ us, 124 ∉ CB.sn u ∧ u.length ≤ 61) ∧ us.length ≤ 14 ∧ (us.length ≠ rs.length + 1 ∨ ∃ z ∈ us, ¬ CB.good z) ∧
  ∀ H', Same H H' → E (.ref C) none H'
theorem note_read (T : Txt K mg A) : FnOk P w K mg base (CXR P w) 2 A.f_read A.fd_read ["ratios", "text"] (np_read K A.c_NoNote) := by
  refine T.F_read.okR sc_read (fun vs H Q E h => ?_) (fun cdv A' outer s H vs Q E hr h => ?_)
  · obtain ⟨a, rs, us, rfl, _⟩ := h
    rfl
  · obtain ⟨a, rs, us, rfl, hS, hF, ne, hu, h14, hbad, q⟩ := h
    refine ⟨_, (pss_cons (ps_expr (pe_call (ok_check_frame T) (hr.mono (by decide)) rfl T.m_check_frame T.F_check_frame.kp T.a_check_frame .nil pass0 (pa_cons (pv 0) pa_nil)))
      (pss_cons (ps_set (i := 2) sc_read.nd rfl (Or.inl rfl) (pe_bm PySem.F.plainAttrs_str PySem.F.slot_str_split PySem.F.type_str_split mt_split (pv 1) (pa_cons pe_str pa_nil)))
      (pss_cons (ps_if (pt_cmpR op_ne (pe_callB call_len_seq rfl T.b_len PySem.boot_len (pa_cons (pv 2) pa_nil)) (pe_op op_add (pe_callB call_len_seq rfl T.b_len PySem.boot_len (pa_cons (pv 0) pa_nil)) pe_int) (nomark _)) (pss_one (ps_raise raises_cx rfl rfl T.k_NoNote T.e_NoNote (pa_cons pe_str pa_nil))) pss_nil)
      (pss_cons (ps_for PassesOwn.leaving rfl (pi_list (pv 2)) (pg_name (i := 3) sc_read.nd rfl (Or.inl rfl))
      (pss_one (ps_expr (pe_call (bad_check_part T) (hr.mono (by decide)) rfl T.m_check_part T.F_check_part.kp T.a_check_part .nil passR (pa_cons (pv 3) pa_nil)))))
      (pss_one ps_never))))), ?_⟩
    have l1 : (rs.map V.int).length = rs.length := List.length_map _
    have hsp := CB.split_join ne fun t ht => (hu t ht).1
    have hjl : (Str.join CB.bar us).length ≤ 100000 := by
      have h1 := StrLaws.join_length_le CB.bar us
      have h2 := StrLaws.sumLen_le (B := 61) us fun t ht => (hu t ht).2
      have h4 : CB.bar.length = 1 := rfl
      rw [h4] at h1
      omega
    refine ⟨_, rfl, a, rs, rfl, hS, hF, ?_⟩
    refine ⟨_, rfl, rfl, _, 124, rfl, rfl, hjl, fun p np => ?_⟩
    have ep : (upd H p (.lst ((Txt.split (Str.join CB.bar us) CB.bar).map V.str))) p = some (.lst (us.map V.str)) := by rw [upd_same, hsp]
    have sp := Same.new (o := .lst ((Txt.split (Str.join CB.bar us) CB.bar).map V.str)) np
    change tSeq _ _ _ _ (upd H p (.lst ((Txt.split (Str.join CB.bar us) CB.bar).map V.str)))
    generalize upd H p (.lst ((Txt.split (Str.join CB.bar us) CB.bar).map V.str)) = H1 at *
    have l2 : (us.map V.str).length = us.length := List.length_map _
    by_cases hn : us.length = rs.length + 1
    · refine ⟨_, rfl, p, _, rfl, .inl (SqL.of ep), _, rfl, a, _, rfl, .inl (sp.seq hS), _, _, rfl, rfl, rfl, _, rfl, iteNS (congrArg V.int ?_) ?_⟩
      · show (((us.map V.str).length : Nat) : Int) = (((rs.map V.int).length : Nat) : Int) + 1
        rw [l1, l2]
        omega
      refine ⟨_, rfl, p, rfl, ⟨_, SqL.of ep⟩, for_list (K := K) (xs := us.map V.str) (fun i σ H2 => ∃ v, σ = [some (.ref a), some (.str (Str.join CB.bar us)), some (.ref p), v] ∧ Same H1 H2 ∧ ∀ z ∈ us.take i, CB.good z) ⟨none, rfl, Same.refl _, by simp⟩ (fun i σ H2 _ ⟨_, _, e, _⟩ => SqL.of (e _ _ ep)) ?_ ?_⟩
      · rintro i x σ H2 hx ⟨v, rfl, sm, hgd⟩
        obtain ⟨t, ht, rfl⟩ : ∃ t, us[i]? = some t ∧ x = .str t := by
          rw [List.getElem?_map] at hx
          cases ht : us[i]? with
          | none => rw [ht] at hx; cases hx
          | some t => rw [ht] at hx; cases hx; exact ⟨t, rfl, rfl⟩
        have ht' := List.mem_of_getElem? ht
        refine ⟨_, rfl, t, rfl, by have := (hu t ht').2; omega, fun g H3 s3 => ⟨_, rfl, sm.trans s3, fun z hz => ?_⟩, fun _ H3 s3 => q H3 ((sp.trans sm).trans s3)⟩
        rw [CB.take_snoc ht] at hz
        rcases List.mem_append.mp hz with h | h
        · exact hgd z h
        · rw [List.mem_singleton.mp h]
          exact g
      · rintro σ H2 ⟨v, rfl, sm, hgd⟩
        rw [l2, List.take_length] at hgd
        rcases hbad with h | ⟨z, hz, h⟩
        · exact absurd hn h
        · exact absurd (hgd z hz) h
    · refine ⟨_, rfl, p, _, rfl, .inl (SqL.of ep), _, rfl, a, _, rfl, .inl (sp.seq hS), _, _, rfl, rfl, rfl, _, rfl, iteND (fun e => hn ?_) ⟨by show 1 ≤ sizeLine; decide, q H1 sp⟩⟩
      have e' : (((us.map V.str).length : Nat) : Int) = (((rs.map V.int).length : Nat) : Int) + 1 := V.int.inj e
      rw [l1, l2] at e'
      omega

def bp_added (K : PySem.W.Frag) (A : Adr) : Sp := fun vs H _ E => ∃ (a b c : Addr) (rs bs cs : List Int) (C : Addr), vs = [.ref a, .ref b, .ref c] ∧ SqL K H a (rs.map V.int) ∧ SqL K H b (bs.map V.int) ∧ SqL K H c (cs.map V.int) ∧ bFBB A rs bs cs C ∧ ∀ H', Same H H' → E (.ref C) none H'
theorem bad_added (T : Txt K mg A) : FnOk P w K mg base (CXR P w) 4 A.f_added A.fd_added ["ratios", "one", "other"] (bp_added K A) := by
  refine T.F_added.okR sc_added (fun vs H Q E h => ?_) (fun cdv A' outer s H vs Q E hr h => ?_)
  · obtain ⟨a, b, c, rs, bs, cs, C, rfl, _⟩ := h
    rfl
  · obtain ⟨a, b, c, rs, bs, cs, C, rfl, hS, hB, hC, hx, q⟩ := h
    rcases hx with hx | ⟨hF, hb, hx⟩
    · refine ⟨_, (pss_one (ps_ret (pe_call (fn_no (CX := CX0) (k := 0)) (hr.mono (by decide)) rfl T.m_board_of T.F_board_of.kp T.a_board_of .nil pass0 (pa_cons (pv 0) (pa_cons (pe_op op_add (pe_call (bad_worth T) (hr.mono (by decide)) rfl T.m_worth T.F_worth.kp T.a_worth .nil passR (pa_cons (pv 0) (pa_cons (pv 1) pa_nil))) pe_no) pa_nil))))), ?_⟩
      exact ⟨_, rfl, _, rfl, _, rfl, a, b, rs, bs, C, rfl, hS, hB, hx, q⟩
    · refine ⟨_, (pss_one (ps_ret (pe_call (fn_no (CX := CX0) (k := 0)) (hr.mono (by decide)) rfl T.m_board_of T.F_board_of.kp T.a_board_of .nil pass0 (pa_cons (pv 0) (pa_cons (pe_op op_add (pe_call (ok_worth T) (hr.mono (by decide)) rfl T.m_worth T.F_worth.kp T.a_worth .nil pass0 (pa_cons (pv 0) (pa_cons (pv 1) pa_nil))) (pe_call (bad_worth T) (hr.mono (by decide)) rfl T.m_worth T.F_worth.kp T.a_worth .nil passR (pa_cons (pv 0) (pa_cons (pv 2) pa_nil)))) pa_nil))))), ?_⟩
      exact ⟨_, rfl, _, rfl, _, rfl, a, b, rs, bs, rfl, hS, hB, hF, hb, fun H1 s1 => ⟨_, rfl, _, rfl, a, c, rs, cs, C, rfl, s1.seq hS, s1.seq hC, hx, fun H' sm => q H' (s1.trans sm)⟩⟩

def bp_less (K : PySem.W.Frag) (A : Adr) : Sp := fun vs H _ E => ∃ (a b c : Addr) (rs bs cs : List Int) (C : Addr), vs = [.ref a, .ref b, .ref c] ∧ SqL K H a (rs.map V.int) ∧ SqL K H b (bs.map V.int) ∧ SqL K H c (cs.map V.int) ∧ bFBB A rs bs cs C ∧ ∀ H', Same H H' → E (.ref C) none H'
theorem bad_less (T : Txt K mg A) : FnOk P w K mg base (CXR P w) 4 A.f_less A.fd_less ["ratios", "one", "other"] (bp_less K A) := by
  refine T.F_less.okR sc_less (fun vs H Q E h => ?_) (fun cdv A' outer s H vs Q E hr h => ?_)
  · obtain ⟨a, b, c, rs, bs, cs, C, rfl, _⟩ := h
    rfl
  · obtain ⟨a, b, c, rs, bs, cs, C, rfl, hS, hB, hC, hx, q⟩ := h
    rcases hx with hx | ⟨hF, hb, hx⟩
    · refine ⟨_, (pss_cons (ps_set (i := 3) sc_less.nd rfl (Or.inl rfl) (pe_op op_sub (pe_call (bad_worth T) (hr.mono (by decide)) rfl T.m_worth T.F_worth.kp T.a_worth .nil passR (pa_cons (pv 0) (pa_cons (pv 1) pa_nil))) pe_no))
      pss_never), ?_⟩
      exact ⟨_, rfl, _, rfl, a, b, rs, bs, C, rfl, hS, hB, hx, q⟩
    · refine ⟨_, (pss_cons (ps_set (i := 3) sc_less.nd rfl (Or.inl rfl) (pe_op op_sub (pe_call (ok_worth T) (hr.mono (by decide)) rfl T.m_worth T.F_worth.kp T.a_worth .nil pass0 (pa_cons (pv 0) (pa_cons (pv 1) pa_nil))) (pe_call (bad_worth T) (hr.mono (by decide)) rfl T.m_worth T.F_worth.kp T.a_worth .nil passR (pa_cons (pv 0) (pa_cons (pv 2) pa_nil)))))
      pss_never), ?_⟩
      exact ⟨_, rfl, _, rfl, a, b, rs, bs, rfl, hS, hB, hF, hb, fun H1 s1 => ⟨_, rfl, _, rfl, a, c, rs, cs, C, rfl, s1.seq hS, s1.seq hC, hx, fun H' sm => q H' (s1.trans sm)⟩⟩

def bp_times (K : PySem.W.Frag) (A : Adr) : Sp := fun vs H _ E => ∃ (a b : Addr) (rs bs : List Int) (n : Int) (C : Addr), vs = [.ref a, .ref b, .int n] ∧ SqL K H a (rs.map V.int) ∧ SqL K H b (bs.map V.int) ∧ bFB A rs bs C ∧ ∀ H', Same H H' → E (.ref C) none H'
theorem bad_times (T : Txt K mg A) : FnOk P w K mg base (CXR P w) 4 A.f_times A.fd_times ["ratios", "board", "number"] (bp_times K A) := by
  refine T.F_times.okR sc_times (fun vs H Q E h => ?_) (fun cdv A' outer s H vs Q E hr h => ?_)
  · obtain ⟨a, b, rs, bs, n, C, rfl, _⟩ := h
    rfl
  · obtain ⟨a, b, rs, bs, n, C, rfl, hS, hB, hx, q⟩ := h
    refine ⟨_, (pss_cons (ps_set (i := 3) sc_times.nd rfl (Or.inl rfl) (pe_call (bad_worth T) (hr.mono (by decide)) rfl T.m_worth T.F_worth.kp T.a_worth .nil passR (pa_cons (pv 0) (pa_cons (pv 1) pa_nil))))
      pss_never), ?_⟩
    exact ⟨_, rfl, _, rfl, a, b, rs, bs, C, rfl, hS, hB, hx, q⟩

def bp_parted (K : PySem.W.Frag) (A : Adr) : Sp := fun vs H _ E => ∃ (a b : Addr) (rs bs : List Int) (n : Int) (C : Addr), vs = [.ref a, .ref b, .int n] ∧ SqL K H a (rs.map V.int) ∧ SqL K H b (bs.map V.int) ∧ bFB A rs bs C ∧ ∀ H', Same H H' → E (.ref C) none H'
theorem bad_parted (T : Txt K mg A) : FnOk P w K mg base (CXR P w) 4 A.f_parted A.fd_parted ["ratios", "board", "number"] (bp_parted K A) := by
  refine T.F_parted.okR sc_parted (fun vs H Q E h => ?_) (fun cdv A' outer s H vs Q E hr h => ?_)
  · obtain ⟨a, b, rs, bs, n, C, rfl, _⟩ := h
    rfl
  · obtain ⟨a, b, rs, bs, n, C, rfl, hS, hB, hx, q⟩ := h
    refine ⟨_, (pss_cons (ps_set (i := 3) sc_parted.nd rfl (Or.inl rfl) (pe_call (bad_worth T) (hr.mono (by decide)) rfl T.m_worth T.F_worth.kp T.a_worth .nil passR (pa_cons (pv 0) (pa_cons (pv 1) pa_nil))))
      pss_never), ?_⟩
    exact ⟨_, rfl, _, rfl, a, b, rs, bs, C, rfl, hS, hB, hx, q⟩
def sp_can_raise (K : PySem.W.Frag) : Sp := fun vs H Q _ => ∃ (a b : Addr) (rs bs : List Int) (k : Nat), vs = [.ref a, .ref b, .int k] ∧ SqL K H a (rs.map V.int) ∧ SqL K H b (bs.map V.int) ∧ k < rs.length ∧ k < bs.length ∧ Q (.bl (CB.tall rs bs k)) H
theorem ok_can_raise (T : Txt K mg A) : FnOk P w K mg base CX0 1 A.f_can_raise A.fd_can_raise ["ratios", "board", "line"] (sp_can_raise K) := by
  refine T.F_can_raise.ok sc_can_raise (fun vs H Q E h => ?_) (fun cdv A' outer s H vs Q E hr h => ?_)
  · obtain ⟨a, b, rs, bs, k, rfl, _⟩ := h
    rfl
  · obtain ⟨a, b, rs, bs, k, rfl, hS, hB, h1, h2, q⟩ := h
    refine ⟨_, (pss_one (ps_ret (pe_cmpR op_ge (pe_ix ix_list (pv 1) (pv 2) (fun _ _ => rfl)) (pe_ix ix_list (pv 0) (pv 2) (fun _ _ => rfl)) (nomark _)))), ?_⟩
    have e1 : rs[k]? = some rs[k] := List.getElem?_eq_getElem h1
    have e2 : bs[k]? = some bs[k] := List.getElem?_eq_getElem h2
    have e : CB.tall rs bs k = decide (rs[k] ≤ bs[k]) := by simp [CB.tall, List.getD, e1, e2]
    rw [e] at q
    exact ⟨_, rfl, _, rfl, b, _, _, _, rfl, rfl, hB, atIn e2, _, rfl, _, rfl, a, _, _, _, rfl, rfl, hS, atIn e1, _, _, rfl, rfl, q⟩
def sp_can_lower (K : PySem.W.Frag) : Sp := fun vs H Q _ => ∃ (b : Addr) (bs : List Int) (k : Nat), vs = [.ref b, .int k] ∧ SqL K H b (bs.map V.int) ∧ k + 1 < bs.length ∧ Q (.bl (CB.low bs k)) H
theorem ok_can_lower (T : Txt K mg A) : FnOk P w K mg base CX0 1 A.f_can_lower A.fd_can_lower ["board", "line"] (sp_can_lower K) := by
  refine T.F_can_lower.ok sc_can_lower (fun vs H Q E h => ?_) (fun cdv A' outer s H vs Q E hr h => ?_)
  · obtain ⟨b, bs, k, rfl, _⟩ := h
    rfl
  · obtain ⟨b, bs, k, rfl, hB, h2, q⟩ := h
    refine ⟨_, (pss_one (ps_ret (pe_cmpR op_ge (pe_ix ix_list (pv 0) (pe_op op_add (pv 1) pe_int) (fun _ _ => rfl)) pe_int (nomark _)))), ?_⟩
    have e2 : bs[k + 1]? = some bs[k + 1] := List.getElem?_eq_getElem h2
    have e : CB.low bs k = decide (1 ≤ bs[k + 1]) := by simp [CB.low, List.getD, e2]
    rw [e] at q
    have ei : ((k : Int) + 1) = ((k + 1 : Nat) : Int) := by omega
    exact ⟨_, rfl, _, rfl, _, _, rfl, rfl, b, _, _, _, rfl, rfl, hB, (by rw [ei]; exact atIn e2), _, _, rfl, rfl, q⟩
def sp_can (K : PySem.W.Frag) : Sp := fun vs H Q _ => ∃ (a b : Addr) (rs bs : List Int), vs = [.ref a, .ref b] ∧ SqL K H a (rs.map V.int) ∧ SqL K H b (bs.map V.int) ∧ CB.Fr rs ∧ CB.Bd rs bs ∧
  ∀ l H' ts, H l = none → Same H H' → H' l = some (.lst (ts.map V.ref)) → Tups H' ts (CB.canL rs bs) → Q (.ref l) H'
theorem ok_can (T : Txt K mg A) : FnOk P w K mg base CX0 3 A.f_can A.fd_can ["ratios", "board"] (sp_can K) := by
  refine T.F_can.ok sc_can (fun vs H Q E h => ?_) (fun cdv A' outer s H vs Q E hr h => ?_)
  · obtain ⟨a, b, rs, bs, rfl, _⟩ := h
    rfl
  · obtain ⟨a, b, rs, bs, rfl, hS, hB, hF, hb, q⟩ := h
    refine ⟨_, (pss_cons (ps_expr (pe_call (ok_check_board T) (hr.mono (by decide)) rfl T.m_check_board T.F_check_board.kp T.a_check_board .nil pass0 (pa_cons (pv 0) (pa_cons (pv 1) pa_nil))))
      (pss_cons (ps_set (i := 2) sc_can.nd rfl (Or.inl rfl) (pe_lst pa_nil))
      (pss_cons (ps_for PassesOwn.never rfl (pi_range1 rfl T.b_range (pa_cons (pe_callB call_len_seq rfl T.b_len PySem.boot_len (pa_cons (pv 0) pa_nil)) pa_nil)) (pg_name (i := 3) sc_can.nd rfl (Or.inl rfl))
      (pss_cons (ps_if (pt_val (pe_call (ok_can_raise T) (hr.mono (by decide)) rfl T.m_can_raise T.F_can_raise.kp T.a_can_raise .nil pass0 (pa_cons (pv 0) (pa_cons (pv 1) (pa_cons (pv 3) pa_nil))))) (pss_one (ps_expr (pe_bm PySem.F.plainAttrs_list PySem.F.slot_list_append PySem.F.type_list_append mt_append (pv 2) (pa_cons (pe_tup (pa_cons (pv 3) (pa_cons pe_bl pa_nil))) pa_nil)))) pss_nil)
      (pss_one (ps_if (pt_val (pe_call (ok_can_lower T) (hr.mono (by decide)) rfl T.m_can_lower T.F_can_lower.kp T.a_can_lower .nil pass0 (pa_cons (pv 1) (pa_cons (pv 3) pa_nil)))) (pss_one (ps_expr (pe_bm PySem.F.plainAttrs_list PySem.F.slot_list_append PySem.F.type_list_append mt_append (pv 2) (pa_cons (pe_tup (pa_cons (pv 3) (pa_cons pe_bl pa_nil))) pa_nil)))) pss_nil))))
      (pss_one (ps_ret (pv 2)))))), ?_⟩
    have h11 := hF.1
    have hl := hb.1
    have l1 : (rs.map V.int).length = rs.length := List.length_map _
    refine ⟨_, rfl, _, rfl, a, b, rs, bs, rfl, hS, hB, hF, hb, ?_⟩
    refine ⟨Nat.zero_le _, fun l nl => ?_⟩
    refine ⟨_, rfl, a, _, rfl, .inl ((Same.new nl).seq hS), _, rfl, by omega, by omega, for_range (fun i σ H2 => ∃ v ts, σ = [some (.ref a), some (.ref b), some (.ref l), v] ∧ Same H H2 ∧ H2 l = some (.lst (ts.map V.ref)) ∧ Tups H2 ts (CB.canN rs bs i))
      ⟨none, [], rfl, Same.new nl, upd_same, trivial⟩ ?_ ?_⟩
    · rintro i σ H2 hi ⟨v, ts, rfl, sm, hd, ht⟩
      have i1 : i < rs.length := by omega
      have hlen := ht.len
      have hcl := CB.canN_length rs bs i
      have hz : (ts.map V.ref).length < sizeLine := by
        rw [List.length_map]
        exact small1000 (by omega)
      -- one more step at the list's end
      have app : ∀ {H3 : Hp} {us : List Addr} {ss : List (Nat × Bool)} (u : Bool), Same H H3 → H3 l = some (.lst (us.map V.ref)) → Tups H3 us ss → ∀ t, H3 t = none →
          Same H (upd (upd H3 t (.tup [.int (0 + (i : Int)), .bl u])) l (.lst (us.map V.ref ++ [.ref t]))) ∧
          (upd (upd H3 t (.tup [.int (0 + (i : Int)), .bl u])) l (.lst (us.map V.ref ++ [.ref t]))) l = some (.lst ((us ++ [t]).map V.ref)) ∧
          Tups (upd (upd H3 t (.tup [.int (0 + (i : Int)), .bl u])) l (.lst (us.map V.ref ++ [.ref t]))) (us ++ [t]) (ss ++ [(i, u)]) := by
        intro H3 us ss u s3 h3 t3 t nt
        have nlt : l ≠ t := ne_of_none h3 nt
        have h3' : (upd H3 t (.tup [.int (0 + (i : Int)), .bl u])) l = some (.lst (us.map V.ref)) := by rw [upd_ne nlt]; exact h3
        refine ⟨(s3.upd (s3.free nt)).upd nl, by rw [upd_same, List.map_append]; rfl, ?_⟩
        refine Tups.written h3' (Tups.snoc ?_ (t3.same (Same.new nt)))
        rw [upd_same, Int.zero_add]
      have second : ∀ {H3 : Hp} {us : List Addr} {ss : List (Nat × Bool)}, Same H H3 → H3 l = some (.lst (us.map V.ref)) → Tups H3 us ss → us.length ≤ 30 → ss = CB.canN rs bs i ++ (if CB.tall rs bs i = true then [(i, true)] else []) →
          ∀ {w : Option V} {P' : St → Hp → Prop}, (∀ σ' H', (∃ v ts, σ' = [some (V.ref a), some (V.ref b), some (V.ref l), v] ∧ Same H H' ∧ H' l = some (.lst (ts.map V.ref)) ∧ Tups H' ts (CB.canN rs bs (i + 1))) → P' σ' H') →
          (CB.low bs i = true → ∀ t, H3 t = none → P' [some (V.ref a), some (V.ref b), some (V.ref l), some (V.int (0 + (i : Int)))] (upd (upd H3 t (.tup [.int (0 + (i : Int)), .bl false])) l (.lst (us.map V.ref ++ [.ref t])))) ∧ (CB.low bs i = false → P' [some (V.ref a), some (V.ref b), some (V.ref l), some (V.int (0 + (i : Int)))] H3) := by
        intro H3 us ss s3 h3 t3 hus hss w P' hP
        refine ⟨fun hlow t nt => ?_, fun hlow => ?_⟩
        · obtain ⟨p1, p2, p3⟩ := app false s3 h3 t3 t nt
          refine hP _ _ ⟨_, _, rfl, p1, p2, ?_⟩
          have e : ss ++ [(i, false)] = CB.canN rs bs (i + 1) := by
            rw [CB.canN_succ, hss]
            unfold CB.canAt
            rw [if_pos hlow, List.append_assoc]
          rw [← e]
          exact p3
        · refine hP _ _ ⟨_, _, rfl, s3, h3, ?_⟩
          have e : ss = CB.canN rs bs (i + 1) := by
            rw [CB.canN_succ, hss]
            unfold CB.canAt
            rw [if_neg (show ¬ CB.low bs i = true by rw [hlow]; exact Bool.false_ne_true), List.append_nil]
          rw [← e]
          exact t3
      refine ⟨_, rfl, _, rfl, _, rfl, a, b, rs, bs, i, (by rw [Int.zero_add]; rfl), sm.seq hS, sm.seq hB, i1, by omega, _, rfl, ?_⟩
      cases ht1 : CB.tall rs bs i with
      | true =>
        refine iteT ?_
        refine ⟨_, rfl, .inl ⟨rfl, _, SqL.of hd⟩, _, rfl, (by show 2 ≤ sizeLine; decide), fun t nt => ?_⟩
        have nlt : l ≠ t := ne_of_none hd nt
        refine ⟨l, _, _, rfl, rfl, (by rw [upd_ne nlt]; exact hd), hz, ?_⟩
        obtain ⟨p1, p2, p3⟩ := app true sm hd ht t nt
        obtain ⟨q1, q2⟩ := second p1 p2 p3 (by rw [List.length_append]; simp; omega) (by rw [if_pos ht1]) (w := v) (fun σ' H' z => z)
        refine ⟨_, rfl, _, rfl, b, bs, i, (by rw [Int.zero_add]; rfl), p1.seq hB, by omega, _, rfl, ?_⟩
        cases ht2 : CB.low bs i with
        | true =>
          refine iteT ?_
          refine ⟨_, rfl, .inl ⟨rfl, _, SqL.of p2⟩, _, rfl, (by show 2 ≤ sizeLine; decide), fun t2 nt2 => ?_⟩
          have nlt2 : l ≠ t2 := ne_of_none p2 nt2
          exact ⟨l, _, _, rfl, rfl, (by rw [upd_ne nlt2]; exact p2), (by rw [List.length_map, List.length_append]; exact small1000 (by simp; omega)), q1 ht2 t2 nt2⟩
        | false => exact iteF (q2 ht2)
      | false =>
        refine iteF ?_
        obtain ⟨q1, q2⟩ := second sm hd ht (by omega) (by rw [if_neg (show ¬ CB.tall rs bs i = true by rw [ht1]; exact Bool.false_ne_true), List.append_nil]) (w := v) (fun σ' H' z => z)
        refine ⟨_, rfl, _, rfl, b, bs, i, (by rw [Int.zero_add]; rfl), sm.seq hB, by omega, _, rfl, ?_⟩
        cases ht2 : CB.low bs i with
        | true =>
          refine iteT ?_
          refine ⟨_, rfl, .inl ⟨rfl, _, SqL.of hd⟩, _, rfl, (by show 2 ≤ sizeLine; decide), fun t2 nt2 => ?_⟩
          have nlt2 : l ≠ t2 := ne_of_none hd nt2
          exact ⟨l, _, _, rfl, rfl, (by rw [upd_ne nlt2]; exact hd), hz, q1 ht2 t2 nt2⟩
        | false => exact iteF (q2 ht2)
    · rintro σ H2 ⟨v, ts, rfl, sm, hd, ht⟩
      have e0 : (((rs.map V.int).length : Nat) : Int).toNat = rs.length := by omega
      rw [e0] at ht
      exact ⟨_, rfl, q l H2 ts nl sm hd ht⟩

def bp_can (K : PySem.W.Frag) (A : Adr) : Sp := fun vs H _ E => ∃ (a b : Addr) (rs bs : List Int) (C : Addr), vs = [.ref a, .ref b] ∧ SqL K H a (rs.map V.int) ∧ SqL K H b (bs.map V.int) ∧ bFB A rs bs C ∧ ∀ H', Same H H' → E (.ref C) none H'
theorem bad_can (T : Txt K mg A) : FnOk P w K mg base (CXR P w) 3 A.f_can A.fd_can ["ratios", "board"] (bp_can K A) := by
  refine T.F_can.okR sc_can (fun vs H Q E h => ?_) (fun cdv A' outer s H vs Q E hr h => ?_)
  · obtain ⟨a, b, rs, bs, C, rfl, _⟩ := h
    rfl
  · obtain ⟨a, b, rs, bs, C, rfl, hS, hB, hx, q⟩ := h
    refine ⟨_, (pss_cons (ps_expr (pe_call (bad_check_board T) (hr.mono (by decide)) rfl T.m_check_board T.F_check_board.kp T.a_check_board .nil passR (pa_cons (pv 0) (pa_cons (pv 1) pa_nil))))
      pss_never), ?_⟩
    exact ⟨_, rfl, _, rfl, a, b, rs, bs, C, rfl, hS, hB, hx, q⟩


def bp_stepped (K : PySem.W.Frag) (A : Adr) : Sp := fun vs H _ E => ∃ (a b : Addr) (rs bs : List Int) (n : Int) (u : Bool) (C : Addr), vs = [.ref a, .ref b, .int n, .bl u] ∧ SqL K H a (rs.map V.int) ∧ SqL K H b (bs.map V.int) ∧ bFB A rs bs C ∧ ∀ H', Same H H' → E (.ref C) none H'
theorem bad_stepped (T : Txt K mg A) : FnOk P w K mg base (CXR P w) 3 A.f_stepped A.fd_stepped ["ratios", "board", "line", "up"] (bp_stepped K A) := by
  refine T.F_stepped.okR sc_stepped (fun vs H Q E h => ?_) (fun cdv A' outer s H vs Q E hr h => ?_)
  · obtain ⟨a, b, rs, bs, n, u, C, rfl, _⟩ := h
    rfl
  · obtain ⟨a, b, rs, bs, n, u, C, rfl, hS, hB, hx, q⟩ := h
    refine ⟨_, (pss_cons (ps_expr (pe_call (bad_check_board T) (hr.mono (by decide)) rfl T.m_check_board T.F_check_board.kp T.a_check_board .nil passR (pa_cons (pv 0) (pa_cons (pv 1) pa_nil))))
      pss_never), ?_⟩
    exact ⟨_, rfl, _, rfl, a, b, rs, bs, C, rfl, hS, hB, hx, q⟩
def sp_raisings (K : PySem.W.Frag) : Sp := fun vs H Q _ => ∃ (a b : Addr) (rs bs : List Int), vs = [.ref a, .ref b] ∧ SqL K H a (rs.map V.int) ∧ SqL K H b (bs.map V.int) ∧ CB.Fr rs ∧ CB.Bd rs bs ∧ ∀ l H', H l = none → Same H H' → H' l = some (.lst ((CB.rz 0 rs bs).map V.int)) → Q (.ref l) H'
theorem ok_raisings (T : Txt K mg A) : FnOk P w K mg base CX0 3 A.f_raisings A.fd_raisings ["ratios", "board"] (sp_raisings K) := by
  refine T.F_raisings.ok sc_raisings (fun vs H Q E h => ?_) (fun cdv A' outer s H vs Q E hr h => ?_)
  · obtain ⟨a, b, rs, bs, rfl, _⟩ := h
    rfl
  · obtain ⟨a, b, rs, bs, rfl, hS, hB, hF, hb, q⟩ := h
    refine ⟨_, (pss_cons (ps_expr (pe_call (ok_check_board T) (hr.mono (by decide)) rfl T.m_check_board T.F_check_board.kp T.a_check_board .nil pass0 (pa_cons (pv 0) (pa_cons (pv 1) pa_nil))))
      (pss_cons (ps_set (i := 2) sc_raisings.nd rfl (Or.inl rfl) (pe_lst pa_nil))
      (pss_cons (ps_set (i := 3) sc_raisings.nd rfl (Or.inl rfl) pe_int)
      (pss_cons (ps_for PassesOwn.never rfl (pi_zip rfl T.b_zip (pa_cons (pv 0) (pa_cons (pv 1) pa_nil))) (pg_tup (n := 2) rfl (pgs_cons (pg_name (i := 4) sc_raisings.nd rfl (Or.inl rfl)) (pgs_cons (pg_name (i := 5) sc_raisings.nd rfl (Or.inl rfl)) pgs_nil)))
      (pss_cons (ps_set (i := 3) sc_raisings.nd rfl (Or.inl rfl) (pe_op op_fdiv (pe_op op_add (pv 5) (pv 3)) (pv 4)))
      (pss_one (ps_expr (pe_bm PySem.F.plainAttrs_list PySem.F.slot_list_append PySem.F.type_list_append mt_append (pv 2) (pa_cons (pv 3) pa_nil))))))
      (pss_one (ps_ret (pv 2))))))), ?_⟩
    have h11 := hF.1
    have hl := hb.1
    refine ⟨_, rfl, _, rfl, a, b, rs, bs, rfl, hS, hB, hF, hb, ?_⟩
    refine ⟨Nat.zero_le _, fun l nl => ?_⟩
    refine ⟨_, rfl, _, rfl, a, b, rfl, ⟨_, (Same.new nl).seq hS⟩, ⟨_, (Same.new nl).seq hB⟩, for_zip (K := K) (xs := rs.map V.int) (ys := bs.map V.int) (fun i σ H2 => ∃ v w, σ = [some (.ref a), some (.ref b), some (.ref l), some (.int (CB.cr 0 (rs.take i) (bs.take i))), v, w] ∧ Same H H2 ∧ H2 l = some (.lst ((CB.rz 0 (rs.take i) (bs.take i)).map V.int)))
      ⟨none, none, rfl, Same.new nl, upd_same⟩ (fun i σ H2 ⟨_, _, _, e, _⟩ => ⟨e.seq hS, e.seq hB⟩) ?_ ?_⟩
    · rintro i x y t σ H2 hx hy nt ⟨v, w, rfl, sm, hd⟩
      obtain ⟨r, hr', rfl⟩ := int_at hx
      obtain ⟨c, hc', rfl⟩ := int_at hy
      obtain ⟨z1, z2⟩ := hF.2 r (List.mem_of_getElem? hr')
      have i1 := lt_len hr'
      have i2 := lt_len hc'
      have lt : (rs.take i).length = (bs.take i).length := by rw [List.length_take, List.length_take]; omega
      have nlt : l ≠ t := ne_of_none hd nt
      refine ⟨t, _, rfl, SqT.of upd_same, rfl, _, _, rfl, _, _, rfl, rfl, ?_⟩
      refine ⟨_, rfl, _, rfl, _, _, rfl, rfl, _, rfl, _, _, rfl, rfl, ⟨by omega, by omega⟩, ?_⟩
      refine ⟨_, rfl, .inl ⟨rfl, _, SqL.of (by rw [upd_ne nlt]; exact hd)⟩, _, rfl, l, _, _, rfl, rfl, (by rw [upd_ne nlt]; exact hd), ?_, some (.int r), some (.int c), ?_, ?_, ?_⟩
      · rw [List.length_map, CB.rz_length _ _ _ (by omega), List.length_take]
        exact small1000 (by omega)
      · rw [CB.take_snoc hr', CB.take_snoc hc', CB.cr_snoc _ _ _ _ _ lt]
        rfl
      · exact ((sm.trans (Same.new nt)).upd nl)
      · rw [upd_same, CB.take_snoc hr', CB.take_snoc hc', CB.rz_snoc _ _ _ _ _ lt, List.map_append]
        rfl
    · rintro σ H2 ⟨v, w, rfl, sm, hd⟩
      have e : min (rs.map V.int).length (bs.map V.int).length = rs.length := by rw [List.length_map, List.length_map]; omega
      rw [e, List.take_length, CB.rz_take 0 rs bs (by omega)] at hd
      exact ⟨_, rfl, q l H2 nl sm hd⟩

def bp_raisings (K : PySem.W.Frag) (A : Adr) : Sp := fun vs H _ E => ∃ (a b : Addr) (rs bs : List Int) (C : Addr), vs = [.ref a, .ref b] ∧ SqL K H a (rs.map V.int) ∧ SqL K H b (bs.map V.int) ∧ bFB A rs bs C ∧ ∀ H', Same H H' → E (.ref C) none H'
theorem bad_raisings (T : Txt K mg A) : FnOk P w K mg base (CXR P w) 3 A.f_raisings A.fd_raisings ["ratios", "board"] (bp_raisings K A) := by
  refine T.F_raisings.okR sc_raisings (fun vs H Q E h => ?_) (fun cdv A' outer s H vs Q E hr h => ?_)
  · obtain ⟨a, b, rs, bs, C, rfl, _⟩ := h
    rfl
  · obtain ⟨a, b, rs, bs, C, rfl, hS, hB, hx, q⟩ := h
    refine ⟨_, (pss_cons (ps_expr (pe_call (bad_check_board T) (hr.mono (by decide)) rfl T.m_check_board T.F_check_board.kp T.a_check_board .nil passR (pa_cons (pv 0) (pa_cons (pv 1) pa_nil))))
      pss_never), ?_⟩
    exact ⟨_, rfl, _, rfl, a, b, rs, bs, C, rfl, hS, hB, hx, q⟩

def bp_net (K : PySem.W.Frag) (A : Adr) : Sp := fun vs H _ E => ∃ (a b c : Addr) (rs bs cs : List Int) (C : Addr), vs = [.ref a, .ref b, .ref c] ∧ SqL K H a (rs.map V.int) ∧ SqL K H b (bs.map V.int) ∧ SqL K H c (cs.map V.int) ∧ bFBB A rs bs cs C ∧ ∀ H', Same H H' → E (.ref C) none H'
theorem bad_net (T : Txt K mg A) : FnOk P w K mg base (CXR P w) 4 A.f_net A.fd_net ["ratios", "one", "other"] (bp_net K A) := by
  refine T.F_net.okR sc_net (fun vs H Q E h => ?_) (fun cdv A' outer s H vs Q E hr h => ?_)
  · obtain ⟨a, b, c, rs, bs, cs, C, rfl, _⟩ := h
    rfl
  · obtain ⟨a, b, c, rs, bs, cs, C, rfl, hS, hB, hC, hx, q⟩ := h
    rcases hx with hx | ⟨hF, hb, hx⟩
    · refine ⟨_, (pss_cons (ps_if (pt_cmpR op_ne (pe_call (bad_worth T) (hr.mono (by decide)) rfl T.m_worth T.F_worth.kp T.a_worth .nil passR (pa_cons (pv 0) (pa_cons (pv 1) pa_nil))) pe_no (nomark _)) pss_never pss_never)
      pss_never), ?_⟩
      exact ⟨_, rfl, _, rfl, a, b, rs, bs, C, rfl, hS, hB, hx, q⟩
    · refine ⟨_, (pss_cons (ps_if (pt_cmpR op_ne (pe_call (ok_worth T) (hr.mono (by decide)) rfl T.m_worth T.F_worth.kp T.a_worth .nil pass0 (pa_cons (pv 0) (pa_cons (pv 1) pa_nil))) (pe_call (bad_worth T) (hr.mono (by decide)) rfl T.m_worth T.F_worth.kp T.a_worth .nil passR (pa_cons (pv 0) (pa_cons (pv 2) pa_nil))) (nomark _)) pss_never pss_never)
      pss_never), ?_⟩
      exact ⟨_, rfl, _, rfl, a, b, rs, bs, rfl, hS, hB, hF, hb, fun H1 s1 => ⟨_, rfl, _, rfl, a, c, rs, cs, C, rfl, s1.seq hS, s1.seq hC, hx, fun H' sm => q H' (s1.trans sm)⟩⟩

def bp_fewest (K : PySem.W.Frag) (A : Adr) : Sp := fun vs H _ E => ∃ (a b c : Addr) (rs bs cs : List Int) (C : Addr), vs = [.ref a, .ref b, .ref c] ∧ SqL K H a (rs.map V.int) ∧ SqL K H b (bs.map V.int) ∧ SqL K H c (cs.map V.int) ∧ bFBB A rs bs cs C ∧ ∀ H', Same H H' → E (.ref C) none H'
theorem bad_fewest (T : Txt K mg A) : FnOk P w K mg base (CXR P w) 5 A.f_fewest A.fd_fewest ["ratios", "one", "other"] (bp_fewest K A) := by
  refine T.F_fewest.okR sc_fewest (fun vs H Q E h => ?_) (fun cdv A' outer s H vs Q E hr h => ?_)
  · obtain ⟨a, b, c, rs, bs, cs, C, rfl, _⟩ := h
    rfl
  · obtain ⟨a, b, c, rs, bs, cs, C, rfl, hS, hB, hC, hx, q⟩ := h
    refine ⟨_, (pss_one (ps_ret (pe_callB (call_sum_ints rfl) rfl T.b_sum PyProof.Rows.boot_sum (pa_cons (pe_comp (N := ["often"]) (src := [none]) rfl (comp_sc (N0 := ["ratios", "one", "other"]) (esc := defScope s_fewest) (by decide +kernel)) own_name (pi_list (pe_call (bad_net T) (hr.mono (by decide)) rfl T.m_net T.F_net.kp T.a_net .nil passR (pa_cons (pv 0) (pa_cons (pv 1) (pa_cons (pv 2) pa_nil))))) (fun _ _ _ => (pg_name (i := 0) (show (["often"] : List Str).Nodup by decide +kernel) rfl (Or.inl rfl))) (fun _ _ _ => pts_nil) (fun _ _ _ => pe_no)) pa_nil)))), ?_⟩
    exact ⟨_, rfl, _, rfl, _, rfl, a, b, c, rs, bs, cs, C, rfl, hS, hB, hC, hx, q⟩

def bp_way (K : PySem.W.Frag) (A : Adr) : Sp := fun vs H _ E => ∃ (a b c : Addr) (rs bs cs : List Int) (C : Addr), vs = [.ref a, .ref b, .ref c] ∧ SqL K H a (rs.map V.int) ∧ SqL K H b (bs.map V.int) ∧ SqL K H c (cs.map V.int) ∧ bFBB A rs bs cs C ∧ ∀ H', Same H H' → E (.ref C) none H'
theorem bad_way (T : Txt K mg A) : FnOk P w K mg base (CXR P w) 6 A.f_way A.fd_way ["ratios", "one", "other"] (bp_way K A) := by
  refine T.F_way.okR sc_way (fun vs H Q E h => ?_) (fun cdv A' outer s H vs Q E hr h => ?_)
  · obtain ⟨a, b, c, rs, bs, cs, C, rfl, _⟩ := h
    rfl
  · obtain ⟨a, b, c, rs, bs, cs, C, rfl, hS, hB, hC, hx, q⟩ := h
    refine ⟨_, (pss_cons (ps_if (pt_cmpR op_gt (pe_call (bad_fewest T) (hr.mono (by decide)) rfl T.m_fewest T.F_fewest.kp T.a_fewest .nil passR (pa_cons (pv 0) (pa_cons (pv 1) (pa_cons (pv 2) pa_nil)))) pe_no (nomark _)) pss_never pss_never)
      pss_never), ?_⟩
    exact ⟨_, rfl, _, rfl, _, rfl, a, b, c, rs, bs, cs, C, rfl, hS, hB, hC, hx, q⟩
def sp__law_cell_at (K : PySem.W.Frag) : Sp := fun vs H Q _ => ∃ (a : Addr) (ns : List Int) (k : Nat), vs = [.ref a, .int k] ∧ SqL K H a (ns.map V.int) ∧ Q (.int (CB.cell ns k)) H
theorem ok__law_cell_at (T : Txt K mg A) : FnOk P w K mg base CX0 1 A.f__law_cell_at A.fd__law_cell_at ["script", "k"] (sp__law_cell_at K) := by
  refine T.F__law_cell_at.ok sc__law_cell_at (fun vs H Q E h => ?_) (fun cdv A' outer s H vs Q E hr h => ?_)
  · obtain ⟨a, ns, k, rfl, _⟩ := h
    rfl
  · obtain ⟨a, ns, k, rfl, hS, q⟩ := h
    refine ⟨_, (pss_cons (ps_if (pt_cmpR op_lt (pv 1) (pe_callB call_len_seq rfl T.b_len PySem.boot_len (pa_cons (pv 0) pa_nil)) (nomark _)) (pss_one (ps_ret (pe_ix ix_list (pv 0) (pv 1) (fun _ _ => rfl)))) pss_nil)
      (pss_one (ps_ret pe_int))), ?_⟩
    refine ⟨_, rfl, _, rfl, a, _, rfl, .inl hS, _, _, rfl, rfl, _, rfl, ?_⟩
    refine ite2 (fun hk => ?_) (fun hk => ?_)
    · have hk' : k < ns.length := by simpa using hk
      refine ⟨_, rfl, _, rfl, a, _, _, V.int (CB.cell ns k), rfl, rfl, hS, atI_nat ?_, q⟩
      simp [CB.cell, hk']
    · have hk' : ¬ k < ns.length := by simpa using hk
      have e : CB.cell ns k = 0 := by
        unfold CB.cell
        simp [List.getD, Nat.not_lt.mp hk']
      rw [e] at q
      exact q
/-- the word that is told of a class -/
def wordOf (A : Adr) (C : Addr) (wd : Str) : Prop := (C = A.c_NoFrame ∧ wd = "frame") ∨ (C = A.c_NoBoard ∧ wd = "board") ∨ (C = A.c_NoNumber ∧ wd = "number") ∨ (C = A.c_NoNote ∧ wd = "note")
def sp__law_word_of (A : Adr) : Sp := fun vs H Q _ => ∃ (ea C : Addr) (wd : Str), vs = [.ref ea] ∧ H ea = some (excO ea C) ∧ wordOf A C wd ∧ ∀ H', Same H H' → Q (.str wd) H'
theorem okH__law_word_of (T : Txt K mg A) : FnOkH P w K mg base 1 A.f__law_word_of A.fd__law_word_of ["e"] (sp__law_word_of A) := by
  refine T.F__law_word_of.okH sc__law_word_of (fun vs H Q E h => ?_) (fun cdv A' outer s H vs Q E hr h => ?_)
  · obtain ⟨ea, C, wd, rfl, _⟩ := h
    rfl
  · obtain ⟨ea, C, wd, rfl, he, hw, q⟩ := h
    refine ⟨_, (pss_cons (ps_set (i := 1) sc__law_word_of.nd rfl (Or.inl rfl) (pe_lst (pa_cons (pe_callB call_isinstX rfl T.b_isinstance PyProof.Rows.boot_isinstance (pa_cons (pv 0) (pa_cons (pe_glob (v := .ref A.c_NoFrame) rfl T.k_NoFrame rfl) pa_nil))) (pa_cons (pe_callB call_isinstX rfl T.b_isinstance PyProof.Rows.boot_isinstance (pa_cons (pv 0) (pa_cons (pe_glob (v := .ref A.c_NoBoard) rfl T.k_NoBoard rfl) pa_nil))) (pa_cons (pe_callB call_isinstX rfl T.b_isinstance PyProof.Rows.boot_isinstance (pa_cons (pv 0) (pa_cons (pe_glob (v := .ref A.c_NoNumber) rfl T.k_NoNumber rfl) pa_nil))) (pa_cons (pe_callB call_isinstX rfl T.b_isinstance PyProof.Rows.boot_isinstance (pa_cons (pv 0) (pa_cons (pe_glob (v := .ref A.c_NoStep) rfl T.k_NoStep rfl) pa_nil))) pa_nil))))))
      (pss_cons (ps_set (i := 1) sc__law_word_of.nd rfl (Or.inl rfl) (pe_op op_cat (pv 1) (pe_lst (pa_cons (pe_callB call_isinstX rfl T.b_isinstance PyProof.Rows.boot_isinstance (pa_cons (pv 0) (pa_cons (pe_glob (v := .ref A.c_NoWay) rfl T.k_NoWay rfl) pa_nil))) (pa_cons (pe_callB call_isinstX rfl T.b_isinstance PyProof.Rows.boot_isinstance (pa_cons (pv 0) (pa_cons (pe_glob (v := .ref A.c_TooLong) rfl T.k_TooLong rfl) pa_nil))) (pa_cons (pe_callB call_isinstX rfl T.b_isinstance PyProof.Rows.boot_isinstance (pa_cons (pv 0) (pa_cons (pe_glob (v := .ref A.c_NoLess) rfl T.k_NoLess rfl) pa_nil))) (pa_cons (pe_callB call_isinstX rfl T.b_isinstance PyProof.Rows.boot_isinstance (pa_cons (pv 0) (pa_cons (pe_glob (v := .ref A.c_NoNote) rfl T.k_NoNote rfl) pa_nil))) pa_nil)))))))
      (pss_cons (ps_if (PW.pt (pw_or (pt_cmpR op_ne (pe_bm PySem.F.plainAttrs_list PySem.F.slot_list_count PySem.F.type_list_count mt_count (pv 1) (pa_cons pe_bl pa_nil)) pe_int (nomark _)) (pw_or1 (pt_not (pt_val (pe_callB call_isinstV rfl T.b_isinstance PyProof.Rows.boot_isinstance (pa_cons (pv 0) (pa_cons (pe_ty rfl T.b_ValueError PyProof.Rows.Boot.«ValueError») pa_nil)))))))) (pss_one (ps_ret pe_str)) pss_nil)
      (pss_one (ps_ret (pe_ix ix_list (pe_lst (pa_cons pe_str (pa_cons pe_str (pa_cons pe_str (pa_cons pe_str (pa_cons pe_str (pa_cons pe_str (pa_cons pe_str (pa_cons pe_str pa_nil))))))))) (pe_bm PySem.F.plainAttrs_list PySem.F.slot_list_index PySem.F.type_list_index mt_index (pv 1) (pa_cons pe_bl pa_nil)) (fun _ _ => rfl))))))), ?_⟩
    rcases hw with ⟨rfl, rfl⟩ | ⟨rfl, rfl⟩ | ⟨rfl, rfl⟩ | ⟨rfl, rfl⟩
    · refine ⟨_, rfl, ea, _, _, true, rfl, he, T.x_NoFrame, kit_self, _, rfl, ea, _, _, false, rfl, he, T.x_NoFrame, kit_other T.n_NoFrame_NoBoard T.n_NoFrame_NoFrame T.q_NoBoard T.t_NoBoard, _, rfl, ea, _, _, false, rfl, he, T.x_NoFrame, kit_other T.n_NoFrame_NoNumber T.n_NoFrame_NoFrame T.q_NoNumber T.t_NoNumber, _, rfl, ea, _, _, false, rfl, he, T.x_NoFrame, kit_other T.n_NoFrame_NoStep T.n_NoFrame_NoFrame T.q_NoStep T.t_NoStep, (by show 4 ≤ sizeLine; decide), fun l nl => ?_⟩
      have sl := Same.new (o := .lst [V.bl true, V.bl false, V.bl false, V.bl false]) nl
      have he1 := sl _ _ he
      have el : (upd H l (.lst [V.bl true, V.bl false, V.bl false, V.bl false])) l = _ := upd_same
      generalize upd H l (.lst [V.bl true, V.bl false, V.bl false, V.bl false]) = H1 at *
      refine ⟨_, rfl, _, rfl, ea, _, _, false, rfl, he1, T.x_NoFrame, kit_other T.n_NoFrame_NoWay T.n_NoFrame_NoFrame T.q_NoWay T.t_NoWay, _, rfl, ea, _, _, false, rfl, he1, T.x_NoFrame, kit_other T.n_NoFrame_TooLong T.n_NoFrame_NoFrame T.q_TooLong T.t_TooLong, _, rfl, ea, _, _, false, rfl, he1, T.x_NoFrame, kit_other T.n_NoFrame_NoLess T.n_NoFrame_NoFrame T.q_NoLess T.t_NoLess, _, rfl, ea, _, _, false, rfl, he1, T.x_NoFrame, kit_other T.n_NoFrame_NoNote T.n_NoFrame_NoFrame T.q_NoNote T.t_NoNote, (by show 4 ≤ sizeLine; decide), fun m nm => ?_⟩
      have sm := Same.new (o := .lst [V.bl false, V.bl false, V.bl false, V.bl false]) nm
      refine ⟨l, m, _, _, rfl, rfl, sm _ _ el, upd_same, (by show 8 ≤ sizeLine; decide), fun o no => ?_⟩
      have so := Same.new (o := .lst ([V.bl true, V.bl false, V.bl false, V.bl false] ++ [V.bl false, V.bl false, V.bl false, V.bl false])) no
      have he2 := so _ _ (sm _ _ he1)
      have s3 := (sl.trans sm).trans so
      have eo : (upd (upd H1 m (.lst [V.bl false, V.bl false, V.bl false, V.bl false])) o (.lst ([V.bl true, V.bl false, V.bl false, V.bl false] ++ [V.bl false, V.bl false, V.bl false, V.bl false]))) o = some (.lst [V.bl true, V.bl false, V.bl false, V.bl false, V.bl false, V.bl false, V.bl false, V.bl false]) := upd_same
      generalize upd (upd H1 m (.lst [V.bl false, V.bl false, V.bl false, V.bl false])) o (.lst ([V.bl true, V.bl false, V.bl false, V.bl false] ++ [V.bl false, V.bl false, V.bl false, V.bl false])) = H3 at *
      refine ⟨_, rfl, .inl ⟨rfl, _, SqL.of eo⟩, o, _, _, rfl, rfl, eo, rfl, rfl, rfl, _, rfl, iteNS rfl ?_⟩
      refine ⟨_, rfl, ea, _, _, true, rfl, he2, T.x_NoFrame, kit_val T.v_NoFrame, true, rfl, iteF ?_⟩
      refine ⟨(by show 8 ≤ sizeLine; decide), fun p np => ?_⟩
      have sp := Same.new (o := .lst [V.str "frame", V.str "board", V.str "number", V.str "step", V.str "way", V.str "long", V.str "less", V.str "note"]) np
      exact ⟨_, rfl, .inl ⟨rfl, _, SqL.of (sp _ _ eo)⟩, o, _, _, 0, _, rfl, rfl, sp _ _ eo, rfl, rfl, rfl, rfl, no_before rfl, by decide, p, _, _, _, rfl, rfl, SqL.of upd_same, (atI_nat (j := 0) rfl), q _ (s3.trans sp)⟩
    · refine ⟨_, rfl, ea, _, _, false, rfl, he, T.x_NoBoard, kit_other T.n_NoBoard_NoFrame T.n_NoBoard_NoBoard T.q_NoFrame T.t_NoFrame, _, rfl, ea, _, _, true, rfl, he, T.x_NoBoard, kit_self, _, rfl, ea, _, _, false, rfl, he, T.x_NoBoard, kit_other T.n_NoBoard_NoNumber T.n_NoBoard_NoBoard T.q_NoNumber T.t_NoNumber, _, rfl, ea, _, _, false, rfl, he, T.x_NoBoard, kit_other T.n_NoBoard_NoStep T.n_NoBoard_NoBoard T.q_NoStep T.t_NoStep, (by show 4 ≤ sizeLine; decide), fun l nl => ?_⟩
      have sl := Same.new (o := .lst [V.bl false, V.bl true, V.bl false, V.bl false]) nl
      have he1 := sl _ _ he
      have el : (upd H l (.lst [V.bl false, V.bl true, V.bl false, V.bl false])) l = _ := upd_same
      generalize upd H l (.lst [V.bl false, V.bl true, V.bl false, V.bl false]) = H1 at *
      refine ⟨_, rfl, _, rfl, ea, _, _, false, rfl, he1, T.x_NoBoard, kit_other T.n_NoBoard_NoWay T.n_NoBoard_NoBoard T.q_NoWay T.t_NoWay, _, rfl, ea, _, _, false, rfl, he1, T.x_NoBoard, kit_other T.n_NoBoard_TooLong T.n_NoBoard_NoBoard T.q_TooLong T.t_TooLong, _, rfl, ea, _, _, false, rfl, he1, T.x_NoBoard, kit_other T.n_NoBoard_NoLess T.n_NoBoard_NoBoard T.q_NoLess T.t_NoLess, _, rfl, ea, _, _, false, rfl, he1, T.x_NoBoard, kit_other T.n_NoBoard_NoNote T.n_NoBoard_NoBoard T.q_NoNote T.t_NoNote, (by show 4 ≤ sizeLine; decide), fun m nm => ?_⟩
      have sm := Same.new (o := .lst [V.bl false, V.bl false, V.bl false, V.bl false]) nm
      refine ⟨l, m, _, _, rfl, rfl, sm _ _ el, upd_same, (by show 8 ≤ sizeLine; decide), fun o no => ?_⟩
      have so := Same.new (o := .lst ([V.bl false, V.bl true, V.bl false, V.bl false] ++ [V.bl false, V.bl false, V.bl false, V.bl false])) no
      have he2 := so _ _ (sm _ _ he1)
      have s3 := (sl.trans sm).trans so
      have eo : (upd (upd H1 m (.lst [V.bl false, V.bl false, V.bl false, V.bl false])) o (.lst ([V.bl false, V.bl true, V.bl false, V.bl false] ++ [V.bl false, V.bl false, V.bl false, V.bl false]))) o = some (.lst [V.bl false, V.bl true, V.bl false, V.bl false, V.bl false, V.bl false, V.bl false, V.bl false]) := upd_same
      generalize upd (upd H1 m (.lst [V.bl false, V.bl false, V.bl false, V.bl false])) o (.lst ([V.bl false, V.bl true, V.bl false, V.bl false] ++ [V.bl false, V.bl false, V.bl false, V.bl false])) = H3 at *
      refine ⟨_, rfl, .inl ⟨rfl, _, SqL.of eo⟩, o, _, _, rfl, rfl, eo, rfl, rfl, rfl, _, rfl, iteNS rfl ?_⟩
      refine ⟨_, rfl, ea, _, _, true, rfl, he2, T.x_NoBoard, kit_val T.v_NoBoard, true, rfl, iteF ?_⟩
      refine ⟨(by show 8 ≤ sizeLine; decide), fun p np => ?_⟩
      have sp := Same.new (o := .lst [V.str "frame", V.str "board", V.str "number", V.str "step", V.str "way", V.str "long", V.str "less", V.str "note"]) np
      exact ⟨_, rfl, .inl ⟨rfl, _, SqL.of (sp _ _ eo)⟩, o, _, _, 1, _, rfl, rfl, sp _ _ eo, rfl, rfl, rfl, rfl, no_before rfl, by decide, p, _, _, _, rfl, rfl, SqL.of upd_same, (atI_nat (j := 1) rfl), q _ (s3.trans sp)⟩
    · refine ⟨_, rfl, ea, _, _, false, rfl, he, T.x_NoNumber, kit_other T.n_NoNumber_NoFrame T.n_NoNumber_NoNumber T.q_NoFrame T.t_NoFrame, _, rfl, ea, _, _, false, rfl, he, T.x_NoNumber, kit_other T.n_NoNumber_NoBoard T.n_NoNumber_NoNumber T.q_NoBoard T.t_NoBoard, _, rfl, ea, _, _, true, rfl, he, T.x_NoNumber, kit_self, _, rfl, ea, _, _, false, rfl, he, T.x_NoNumber, kit_other T.n_NoNumber_NoStep T.n_NoNumber_NoNumber T.q_NoStep T.t_NoStep, (by show 4 ≤ sizeLine; decide), fun l nl => ?_⟩
      have sl := Same.new (o := .lst [V.bl false, V.bl false, V.bl true, V.bl false]) nl
      have he1 := sl _ _ he
      have el : (upd H l (.lst [V.bl false, V.bl false, V.bl true, V.bl false])) l = _ := upd_same
      generalize upd H l (.lst [V.bl false, V.bl false, V.bl true, V.bl false]) = H1 at *
      refine ⟨_, rfl, _, rfl, ea, _, _, false, rfl, he1, T.x_NoNumber, kit_other T.n_NoNumber_NoWay T.n_NoNumber_NoNumber T.q_NoWay T.t_NoWay, _, rfl, ea, _, _, false, rfl, he1, T.x_NoNumber, kit_other T.n_NoNumber_TooLong T.n_NoNumber_NoNumber T.q_TooLong T.t_TooLong, _, rfl, ea, _, _, false, rfl, he1, T.x_NoNumber, kit_other T.n_NoNumber_NoLess T.n_NoNumber_NoNumber T.q_NoLess T.t_NoLess, _, rfl, ea, _, _, false, rfl, he1, T.x_NoNumber, kit_other T.n_NoNumber_NoNote T.n_NoNumber_NoNumber T.q_NoNote T.t_NoNote, (by show 4 ≤ sizeLine; decide), fun m nm => ?_⟩
      have sm := Same.new (o := .lst [V.bl false, V.bl false, V.bl false, V.bl false]) nm
      refine ⟨l, m, _, _, rfl, rfl, sm _ _ el, upd_same, (by show 8 ≤ sizeLine; decide), fun o no => ?_⟩
      have so := Same.new (o := .lst ([V.bl false, V.bl false, V.bl true, V.bl false] ++ [V.bl false, V.bl false, V.bl false, V.bl false])) no
      have he2 := so _ _ (sm _ _ he1)
      have s3 := (sl.trans sm).trans so
      have eo : (upd (upd H1 m (.lst [V.bl false, V.bl false, V.bl false, V.bl false])) o (.lst ([V.bl false, V.bl false, V.bl true, V.bl false] ++ [V.bl false, V.bl false, V.bl false, V.bl false]))) o = some (.lst [V.bl false, V.bl false, V.bl true, V.bl false, V.bl false, V.bl false, V.bl false, V.bl false]) := upd_same
      generalize upd (upd H1 m (.lst [V.bl false, V.bl false, V.bl false, V.bl false])) o (.lst ([V.bl false, V.bl false, V.bl true, V.bl false] ++ [V.bl false, V.bl false, V.bl false, V.bl false])) = H3 at *
      refine ⟨_, rfl, .inl ⟨rfl, _, SqL.of eo⟩, o, _, _, rfl, rfl, eo, rfl, rfl, rfl, _, rfl, iteNS rfl ?_⟩
      refine ⟨_, rfl, ea, _, _, true, rfl, he2, T.x_NoNumber, kit_val T.v_NoNumber, true, rfl, iteF ?_⟩
      refine ⟨(by show 8 ≤ sizeLine; decide), fun p np => ?_⟩
      have sp := Same.new (o := .lst [V.str "frame", V.str "board", V.str "number", V.str "step", V.str "way", V.str "long", V.str "less", V.str "note"]) np
      exact ⟨_, rfl, .inl ⟨rfl, _, SqL.of (sp _ _ eo)⟩, o, _, _, 2, _, rfl, rfl, sp _ _ eo, rfl, rfl, rfl, rfl, no_before rfl, by decide, p, _, _, _, rfl, rfl, SqL.of upd_same, (atI_nat (j := 2) rfl), q _ (s3.trans sp)⟩
    · refine ⟨_, rfl, ea, _, _, false, rfl, he, T.x_NoNote, kit_other T.n_NoNote_NoFrame T.n_NoNote_NoNote T.q_NoFrame T.t_NoFrame, _, rfl, ea, _, _, false, rfl, he, T.x_NoNote, kit_other T.n_NoNote_NoBoard T.n_NoNote_NoNote T.q_NoBoard T.t_NoBoard, _, rfl, ea, _, _, false, rfl, he, T.x_NoNote, kit_other T.n_NoNote_NoNumber T.n_NoNote_NoNote T.q_NoNumber T.t_NoNumber, _, rfl, ea, _, _, false, rfl, he, T.x_NoNote, kit_other T.n_NoNote_NoStep T.n_NoNote_NoNote T.q_NoStep T.t_NoStep, (by show 4 ≤ sizeLine; decide), fun l nl => ?_⟩
      have sl := Same.new (o := .lst [V.bl false, V.bl false, V.bl false, V.bl false]) nl
      have he1 := sl _ _ he
      have el : (upd H l (.lst [V.bl false, V.bl false, V.bl false, V.bl false])) l = _ := upd_same
      generalize upd H l (.lst [V.bl false, V.bl false, V.bl false, V.bl false]) = H1 at *
      refine ⟨_, rfl, _, rfl, ea, _, _, false, rfl, he1, T.x_NoNote, kit_other T.n_NoNote_NoWay T.n_NoNote_NoNote T.q_NoWay T.t_NoWay, _, rfl, ea, _, _, false, rfl, he1, T.x_NoNote, kit_other T.n_NoNote_TooLong T.n_NoNote_NoNote T.q_TooLong T.t_TooLong, _, rfl, ea, _, _, false, rfl, he1, T.x_NoNote, kit_other T.n_NoNote_NoLess T.n_NoNote_NoNote T.q_NoLess T.t_NoLess, _, rfl, ea, _, _, true, rfl, he1, T.x_NoNote, kit_self, (by show 4 ≤ sizeLine; decide), fun m nm => ?_⟩
      have sm := Same.new (o := .lst [V.bl false, V.bl false, V.bl false, V.bl true]) nm
      refine ⟨l, m, _, _, rfl, rfl, sm _ _ el, upd_same, (by show 8 ≤ sizeLine; decide), fun o no => ?_⟩
      have so := Same.new (o := .lst ([V.bl false, V.bl false, V.bl false, V.bl false] ++ [V.bl false, V.bl false, V.bl false, V.bl true])) no
      have he2 := so _ _ (sm _ _ he1)
      have s3 := (sl.trans sm).trans so
      have eo : (upd (upd H1 m (.lst [V.bl false, V.bl false, V.bl false, V.bl true])) o (.lst ([V.bl false, V.bl false, V.bl false, V.bl false] ++ [V.bl false, V.bl false, V.bl false, V.bl true]))) o = some (.lst [V.bl false, V.bl false, V.bl false, V.bl false, V.bl false, V.bl false, V.bl false, V.bl true]) := upd_same
      generalize upd (upd H1 m (.lst [V.bl false, V.bl false, V.bl false, V.bl true])) o (.lst ([V.bl false, V.bl false, V.bl false, V.bl false] ++ [V.bl false, V.bl false, V.bl false, V.bl true])) = H3 at *
      refine ⟨_, rfl, .inl ⟨rfl, _, SqL.of eo⟩, o, _, _, rfl, rfl, eo, rfl, rfl, rfl, _, rfl, iteNS rfl ?_⟩
      refine ⟨_, rfl, ea, _, _, true, rfl, he2, T.x_NoNote, kit_val T.v_NoNote, true, rfl, iteF ?_⟩
      refine ⟨(by show 8 ≤ sizeLine; decide), fun p np => ?_⟩
      have sp := Same.new (o := .lst [V.str "frame", V.str "board", V.str "number", V.str "step", V.str "way", V.str "long", V.str "less", V.str "note"]) np
      exact ⟨_, rfl, .inl ⟨rfl, _, SqL.of (sp _ _ eo)⟩, o, _, _, 7, _, rfl, rfl, sp _ _ eo, rfl, rfl, rfl, rfl, no_before rfl, by decide, p, _, _, _, rfl, rfl, SqL.of upd_same, (atI_nat (j := 7) rfl), q _ (s3.trans sp)⟩
def sp__law_first (K : PySem.W.Frag) : Sp := fun vs H Q _ => ∃ (w : Int) (a b : Addr) (rs bs : List Int), vs = [.int w, .ref a, .ref b] ∧ SqL K H a (rs.map V.int) ∧ SqL K H b (bs.map V.int) ∧
  (12 ≤ w ∨ (CB.Fr rs ∧ (w = 0 ∨ (w = 1 ∧ bs ≠ []) ∨ ((w = 3 ∨ w = 4 ∨ w = 5 ∨ w = 6 ∨ w = 7 ∨ w = 8) ∧ CB.Bd rs bs ∧ ∀ x ∈ bs, x < 10 ^ 30)))) ∧ ∀ H', Same H H' → Q .non H'
theorem ok__law_first (T : Txt K mg A) : FnOk P w K mg base CX0 5 A.f__law_first A.fd__law_first ["which", "ratios", "board"] (sp__law_first K) := by
  refine T.F__law_first.ok sc__law_first (fun vs H Q E h => ?_) (fun cdv A' outer s H vs Q E hr h => ?_)
  · obtain ⟨w, a, b, rs, bs, rfl, _⟩ := h
    rfl
  · obtain ⟨w, a, b, rs, bs, rfl, hS, hB, hw, q⟩ := h
    refine ⟨_, (pss_cons (ps_if (pt_cmpR op_eq (pv 0) pe_int (nomark _)) (pss_one (ps_expr (pe_call (ok_worths T) (hr.mono (by decide)) rfl T.m_worths T.F_worths.kp T.a_worths .nil pass0 (pa_cons (pv 1) pa_nil)))) pss_nil)
      (pss_cons (ps_if (pt_cmpR op_eq (pv 0) pe_int (nomark _)) (pss_one (ps_expr (pe_call (ok_board_of T) (hr.mono (by decide)) rfl T.m_board_of T.F_board_of.kp T.a_board_of .nil pass0 (pa_cons (pv 1) (pa_cons (pe_op op_sub (pe_callB call_len_seq rfl T.b_len PySem.boot_len (pa_cons (pv 2) pa_nil)) pe_int) pa_nil))))) pss_nil)
      (pss_cons (ps_if (pt_cmpR op_eq (pv 0) pe_int (nomark _)) (pss_one ps_never) pss_nil)
      (pss_cons (ps_if (pt_cmpR op_eq (pv 0) pe_int (nomark _)) (pss_one (ps_expr (pe_call (ok_worth T) (hr.mono (by decide)) rfl T.m_worth T.F_worth.kp T.a_worth .nil pass0 (pa_cons (pv 1) (pa_cons (pv 2) pa_nil))))) pss_nil)
      (pss_cons (ps_if (pt_cmpR op_eq (pv 0) pe_int (nomark _)) (pss_one (ps_expr (pe_call (ok_is_plain T) (hr.mono (by decide)) rfl T.m_is_plain T.F_is_plain.kp T.a_is_plain .nil pass0 (pa_cons (pv 1) (pa_cons (pv 2) pa_nil))))) pss_nil)
      (pss_cons (ps_if (pt_cmpR op_eq (pv 0) pe_int (nomark _)) (pss_one (ps_expr (pe_call (ok_plain T) (hr.mono (by decide)) rfl T.m_plain T.F_plain.kp T.a_plain .nil pass0 (pa_cons (pv 1) (pa_cons (pv 2) pa_nil))))) pss_nil)
      (pss_cons (ps_if (pt_cmpR op_eq (pv 0) pe_int (nomark _)) (pss_one (ps_expr (pe_call (ok_can T) (hr.mono (by decide)) rfl T.m_can T.F_can.kp T.a_can .nil pass0 (pa_cons (pv 1) (pa_cons (pv 2) pa_nil))))) pss_nil)
      (pss_cons (ps_if (pt_cmpR op_eq (pv 0) pe_int (nomark _)) (pss_one (ps_expr (pe_call (ok_raisings T) (hr.mono (by decide)) rfl T.m_raisings T.F_raisings.kp T.a_raisings .nil pass0 (pa_cons (pv 1) (pa_cons (pv 2) pa_nil))))) pss_nil)
      (pss_cons (ps_if (pt_cmpR op_eq (pv 0) pe_int (nomark _)) (pss_one (ps_expr (pe_call (ok_shown T) (hr.mono (by decide)) rfl T.m_shown T.F_shown.kp T.a_shown .nil pass0 (pa_cons (pv 1) (pa_cons (pv 2) pa_nil))))) pss_nil)
      (pss_cons (ps_if (pt_cmpR op_eq (pv 0) pe_int (nomark _)) (pss_one ps_never) pss_nil)
      (pss_cons (ps_if (pt_cmpR op_eq (pv 0) pe_int (nomark _)) (pss_one ps_never) pss_nil)
      (pss_one (ps_if (pt_cmpR op_eq (pv 0) pe_int (nomark _)) (pss_one ps_never) pss_nil))))))))))))), ?_⟩
    rcases hw with hw | ⟨hF, rfl | ⟨rfl, hne⟩ | ⟨hw, hb, hm⟩⟩
    · have no : ∀ k : Int, k < 12 → ¬ V.int w = V.int k := fun k hk e => by have := V.int.inj e; omega
      exact ⟨_, rfl, rfl, _, rfl, iteDF (no _ (by decide)) ⟨_, rfl, rfl, _, rfl, iteDF (no _ (by decide)) ⟨_, rfl, rfl, _, rfl, iteDF (no _ (by decide)) ⟨_, rfl, rfl, _, rfl, iteDF (no _ (by decide)) ⟨_, rfl, rfl, _, rfl, iteDF (no _ (by decide)) ⟨_, rfl, rfl, _, rfl, iteDF (no _ (by decide)) ⟨_, rfl, rfl, _, rfl, iteDF (no _ (by decide)) ⟨_, rfl, rfl, _, rfl, iteDF (no _ (by decide)) ⟨_, rfl, rfl, _, rfl, iteDF (no _ (by decide)) ⟨_, rfl, rfl, _, rfl, iteDF (no _ (by decide)) ⟨_, rfl, rfl, _, rfl, iteDF (no _ (by decide)) ⟨_, rfl, rfl, _, rfl, iteDF (no _ (by decide)) (q H (Same.refl _))⟩⟩⟩⟩⟩⟩⟩⟩⟩⟩⟩⟩
    · exact ⟨_, rfl, rfl, _, rfl, iteDT rfl ⟨_, rfl, a, rs, rfl, hS, hF, fun l H' nl sm el => ⟨_, rfl, rfl, _, rfl, iteDF (by decide) ⟨_, rfl, rfl, _, rfl, iteDF (by decide) ⟨_, rfl, rfl, _, rfl, iteDF (by decide) ⟨_, rfl, rfl, _, rfl, iteDF (by decide) ⟨_, rfl, rfl, _, rfl, iteDF (by decide) ⟨_, rfl, rfl, _, rfl, iteDF (by decide) ⟨_, rfl, rfl, _, rfl, iteDF (by decide) ⟨_, rfl, rfl, _, rfl, iteDF (by decide) ⟨_, rfl, rfl, _, rfl, iteDF (by decide) ⟨_, rfl, rfl, _, rfl, iteDF (by decide) ⟨_, rfl, rfl, _, rfl, iteDF (by decide) (q H' sm)⟩⟩⟩⟩⟩⟩⟩⟩⟩⟩⟩⟩⟩
    · have hl : 0 < bs.length := List.length_pos_iff.mpr hne
      exact ⟨_, rfl, rfl, _, rfl, iteDF (by decide) ⟨_, rfl, rfl, _, rfl, iteDT rfl ⟨_, rfl, _, rfl, b, _, rfl, .inl hB, _, _, rfl, rfl, a, rs, _, rfl, hS, hF, (by rw [List.length_map]; omega), fun l H' nl sm el => ⟨_, rfl, rfl, _, rfl, iteDF (by decide) ⟨_, rfl, rfl, _, rfl, iteDF (by decide) ⟨_, rfl, rfl, _, rfl, iteDF (by decide) ⟨_, rfl, rfl, _, rfl, iteDF (by decide) ⟨_, rfl, rfl, _, rfl, iteDF (by decide) ⟨_, rfl, rfl, _, rfl, iteDF (by decide) ⟨_, rfl, rfl, _, rfl, iteDF (by decide) ⟨_, rfl, rfl, _, rfl, iteDF (by decide) ⟨_, rfl, rfl, _, rfl, iteDF (by decide) ⟨_, rfl, rfl, _, rfl, iteDF (by decide) (q H' sm)⟩⟩⟩⟩⟩⟩⟩⟩⟩⟩⟩⟩⟩
    · rcases hw with rfl | rfl | rfl | rfl | rfl | rfl
      · exact ⟨_, rfl, rfl, _, rfl, iteDF (by decide) ⟨_, rfl, rfl, _, rfl, iteDF (by decide) ⟨_, rfl, rfl, _, rfl, iteDF (by decide) ⟨_, rfl, rfl, _, rfl, iteDT rfl ⟨_, rfl, _, rfl, a, b, rs, bs, rfl, hS, hB, hF, hb, fun H' sm => ⟨_, rfl, rfl, _, rfl, iteDF (by decide) ⟨_, rfl, rfl, _, rfl, iteDF (by decide) ⟨_, rfl, rfl, _, rfl, iteDF (by decide) ⟨_, rfl, rfl, _, rfl, iteDF (by decide) ⟨_, rfl, rfl, _, rfl, iteDF (by decide) ⟨_, rfl, rfl, _, rfl, iteDF (by decide) ⟨_, rfl, rfl, _, rfl, iteDF (by decide) ⟨_, rfl, rfl, _, rfl, iteDF (by decide) (q H' sm)⟩⟩⟩⟩⟩⟩⟩⟩⟩⟩⟩⟩⟩
      · exact ⟨_, rfl, rfl, _, rfl, iteDF (by decide) ⟨_, rfl, rfl, _, rfl, iteDF (by decide) ⟨_, rfl, rfl, _, rfl, iteDF (by decide) ⟨_, rfl, rfl, _, rfl, iteDF (by decide) ⟨_, rfl, rfl, _, rfl, iteDT rfl ⟨_, rfl, _, rfl, a, b, rs, bs, rfl, hS, hB, hF, hb, fun H' sm => ⟨_, rfl, rfl, _, rfl, iteDF (by decide) ⟨_, rfl, rfl, _, rfl, iteDF (by decide) ⟨_, rfl, rfl, _, rfl, iteDF (by decide) ⟨_, rfl, rfl, _, rfl, iteDF (by decide) ⟨_, rfl, rfl, _, rfl, iteDF (by decide) ⟨_, rfl, rfl, _, rfl, iteDF (by decide) ⟨_, rfl, rfl, _, rfl, iteDF (by decide) (q H' sm)⟩⟩⟩⟩⟩⟩⟩⟩⟩⟩⟩⟩⟩
      · exact ⟨_, rfl, rfl, _, rfl, iteDF (by decide) ⟨_, rfl, rfl, _, rfl, iteDF (by decide) ⟨_, rfl, rfl, _, rfl, iteDF (by decide) ⟨_, rfl, rfl, _, rfl, iteDF (by decide) ⟨_, rfl, rfl, _, rfl, iteDF (by decide) ⟨_, rfl, rfl, _, rfl, iteDT rfl ⟨_, rfl, _, rfl, a, b, rs, bs, rfl, hS, hB, hF, hb, fun l H' nl sm el => ⟨_, rfl, rfl, _, rfl, iteDF (by decide) ⟨_, rfl, rfl, _, rfl, iteDF (by decide) ⟨_, rfl, rfl, _, rfl, iteDF (by decide) ⟨_, rfl, rfl, _, rfl, iteDF (by decide) ⟨_, rfl, rfl, _, rfl, iteDF (by decide) ⟨_, rfl, rfl, _, rfl, iteDF (by decide) (q H' sm)⟩⟩⟩⟩⟩⟩⟩⟩⟩⟩⟩⟩⟩
      · exact ⟨_, rfl, rfl, _, rfl, iteDF (by decide) ⟨_, rfl, rfl, _, rfl, iteDF (by decide) ⟨_, rfl, rfl, _, rfl, iteDF (by decide) ⟨_, rfl, rfl, _, rfl, iteDF (by decide) ⟨_, rfl, rfl, _, rfl, iteDF (by decide) ⟨_, rfl, rfl, _, rfl, iteDF (by decide) ⟨_, rfl, rfl, _, rfl, iteDT rfl ⟨_, rfl, _, rfl, a, b, rs, bs, rfl, hS, hB, hF, hb, fun l H' ts nl sm el ht => ⟨_, rfl, rfl, _, rfl, iteDF (by decide) ⟨_, rfl, rfl, _, rfl, iteDF (by decide) ⟨_, rfl, rfl, _, rfl, iteDF (by decide) ⟨_, rfl, rfl, _, rfl, iteDF (by decide) ⟨_, rfl, rfl, _, rfl, iteDF (by decide) (q H' sm)⟩⟩⟩⟩⟩⟩⟩⟩⟩⟩⟩⟩⟩
      · exact ⟨_, rfl, rfl, _, rfl, iteDF (by decide) ⟨_, rfl, rfl, _, rfl, iteDF (by decide) ⟨_, rfl, rfl, _, rfl, iteDF (by decide) ⟨_, rfl, rfl, _, rfl, iteDF (by decide) ⟨_, rfl, rfl, _, rfl, iteDF (by decide) ⟨_, rfl, rfl, _, rfl, iteDF (by decide) ⟨_, rfl, rfl, _, rfl, iteDF (by decide) ⟨_, rfl, rfl, _, rfl, iteDT rfl ⟨_, rfl, _, rfl, a, b, rs, bs, rfl, hS, hB, hF, hb, fun l H' nl sm el => ⟨_, rfl, rfl, _, rfl, iteDF (by decide) ⟨_, rfl, rfl, _, rfl, iteDF (by decide) ⟨_, rfl, rfl, _, rfl, iteDF (by decide) ⟨_, rfl, rfl, _, rfl, iteDF (by decide) (q H' sm)⟩⟩⟩⟩⟩⟩⟩⟩⟩⟩⟩⟩⟩
      · exact ⟨_, rfl, rfl, _, rfl, iteDF (by decide) ⟨_, rfl, rfl, _, rfl, iteDF (by decide) ⟨_, rfl, rfl, _, rfl, iteDF (by decide) ⟨_, rfl, rfl, _, rfl, iteDF (by decide) ⟨_, rfl, rfl, _, rfl, iteDF (by decide) ⟨_, rfl, rfl, _, rfl, iteDF (by decide) ⟨_, rfl, rfl, _, rfl, iteDF (by decide) ⟨_, rfl, rfl, _, rfl, iteDF (by decide) ⟨_, rfl, rfl, _, rfl, iteDT rfl ⟨_, rfl, _, rfl, a, b, rs, bs, rfl, hS, hB, hF, hb, hm, fun H' sm => ⟨_, rfl, rfl, _, rfl, iteDF (by decide) ⟨_, rfl, rfl, _, rfl, iteDF (by decide) ⟨_, rfl, rfl, _, rfl, iteDF (by decide) (q H' sm)⟩⟩⟩⟩⟩⟩⟩⟩⟩⟩⟩⟩⟩

def bp__law_first (K : PySem.W.Frag) (A : Adr) : Sp := fun vs H _ E => ∃ (w : Int) (a b : Addr) (rs bs : List Int) (C : Addr), vs = [.int w, .ref a, .ref b] ∧ SqL K H a (rs.map V.int) ∧ SqL K H b (bs.map V.int) ∧
  ((w = 0 ∧ ¬ CB.Fr rs ∧ C = A.c_NoFrame) ∨ (w = 1 ∧ ¬ CB.Fr rs ∧ C = A.c_NoFrame) ∨ (w = 1 ∧ CB.Fr rs ∧ bs = [] ∧ C = A.c_NoNumber) ∨ (w = 2 ∧ ¬ CB.Fr rs ∧ C = A.c_NoFrame) ∨ (w = 2 ∧ CB.Fr rs ∧ C = A.c_NoNote) ∨
    ((w = 3 ∨ w = 4 ∨ w = 5 ∨ w = 6 ∨ w = 7 ∨ w = 8 ∨ w = 9 ∨ w = 10 ∨ w = 11) ∧ bFB A rs bs C)) ∧ ∀ H', Same H H' → E (.ref C) none H'
theorem bad__law_first (T : Txt K mg A) : FnOk P w K mg base (CXR P w) 5 A.f__law_first A.fd__law_first ["which", "ratios", "board"] (bp__law_first K A) := by
  refine T.F__law_first.okR sc__law_first (fun vs H Q E h => ?_) (fun cdv A' outer s H vs Q E hr h => ?_)
  · obtain ⟨w, a, b, rs, bs, C, rfl, _⟩ := h
    rfl
  · obtain ⟨w, a, b, rs, bs, C, rfl, hS, hB, hw, q⟩ := h
    by_cases h1 : (w = 1 ∨ w = 2) ∧ CB.Fr rs
    · refine ⟨_, (pss_cons (ps_if (pt_cmpR op_eq (pv 0) pe_int (nomark _)) (pss_one ps_never) pss_nil)
      (pss_cons (ps_if (pt_cmpR op_eq (pv 0) pe_int (nomark _)) (pss_one (ps_expr (pe_call (low_board_of T) (hr.mono (by decide)) rfl T.m_board_of T.F_board_of.kp T.a_board_of .nil passR (pa_cons (pv 1) (pa_cons (pe_op op_sub (pe_callB call_len_seq rfl T.b_len PySem.boot_len (pa_cons (pv 2) pa_nil)) pe_int) pa_nil))))) pss_nil)
      (pss_cons (ps_if (pt_cmpR op_eq (pv 0) pe_int (nomark _)) (pss_one (ps_expr (pe_call (note_read T) (hr.mono (by decide)) rfl T.m_read T.F_read.kp T.a_read .nil passR (pa_cons (pv 1) (pa_cons pe_str pa_nil))))) pss_nil)
      (pss_cons (ps_if (pt_cmpR op_eq (pv 0) pe_int (nomark _)) (pss_one ps_never) pss_nil)
      (pss_cons (ps_if (pt_cmpR op_eq (pv 0) pe_int (nomark _)) (pss_one ps_never) pss_nil)
      (pss_cons (ps_if (pt_cmpR op_eq (pv 0) pe_int (nomark _)) (pss_one ps_never) pss_nil)
      (pss_cons (ps_if (pt_cmpR op_eq (pv 0) pe_int (nomark _)) (pss_one ps_never) pss_nil)
      (pss_cons (ps_if (pt_cmpR op_eq (pv 0) pe_int (nomark _)) (pss_one ps_never) pss_nil)
      (pss_cons (ps_if (pt_cmpR op_eq (pv 0) pe_int (nomark _)) (pss_one ps_never) pss_nil)
      (pss_cons (ps_if (pt_cmpR op_eq (pv 0) pe_int (nomark _)) (pss_one ps_never) pss_nil)
      (pss_cons (ps_if (pt_cmpR op_eq (pv 0) pe_int (nomark _)) (pss_one ps_never) pss_nil)
      (pss_one (ps_if (pt_cmpR op_eq (pv 0) pe_int (nomark _)) (pss_one ps_never) pss_nil))))))))))))), ?_⟩
      rcases hw with ⟨rfl, hF, rfl⟩ | ⟨rfl, hF, rfl⟩ | ⟨rfl, hF, rfl, rfl⟩ | ⟨rfl, hF, rfl⟩ | ⟨rfl, hF, rfl⟩ | ⟨hw, hx⟩
      · exact absurd h1.2 hF
      · exact absurd h1.2 hF
      · exact ⟨_, rfl, rfl, _, rfl, iteDF (by decide) ⟨_, rfl, rfl, _, rfl, iteDT rfl ⟨_, rfl, _, rfl, b, _, rfl, .inl hB, _, _, rfl, rfl, a, rs, _, rfl, hS, hF, (by decide), q⟩⟩⟩
      · exact absurd h1.2 hF
      · have hu : CB.sn "x" = [120] := by decide +kernel
        have hb1 := CB.bad_lit (u := "x") hu 120 (by decide) (by decide) (by decide) (by decide)
        exact ⟨_, rfl, rfl, _, rfl, iteDF (by decide) ⟨_, rfl, rfl, _, rfl, iteDF (by decide) ⟨_, rfl, rfl, _, rfl, iteDT rfl ⟨_, rfl, a, rs, [Str.ofString "x"], rfl, hS, hF, (by simp), (fun u hu' => by rw [List.mem_singleton.mp hu']; exact ⟨hb1.1, hb1.2.2⟩), (by decide), .inr ⟨_, List.mem_singleton.mpr rfl, hb1.2.1⟩, q⟩⟩⟩⟩
      · omega
    · refine ⟨_, (pss_cons (ps_if (pt_cmpR op_eq (pv 0) pe_int (nomark _)) (pss_one (ps_expr (pe_call (bad_worths T) (hr.mono (by decide)) rfl T.m_worths T.F_worths.kp T.a_worths .nil passR (pa_cons (pv 1) pa_nil)))) pss_nil)
      (pss_cons (ps_if (pt_cmpR op_eq (pv 0) pe_int (nomark _)) (pss_one (ps_expr (pe_call (bad_board_of T) (hr.mono (by decide)) rfl T.m_board_of T.F_board_of.kp T.a_board_of .nil passR (pa_cons (pv 1) (pa_cons (pe_op op_sub (pe_callB call_len_seq rfl T.b_len PySem.boot_len (pa_cons (pv 2) pa_nil)) pe_int) pa_nil))))) pss_nil)
      (pss_cons (ps_if (pt_cmpR op_eq (pv 0) pe_int (nomark _)) (pss_one (ps_expr (pe_call (bad_read T) (hr.mono (by decide)) rfl T.m_read T.F_read.kp T.a_read .nil passR (pa_cons (pv 1) (pa_cons pe_str pa_nil))))) pss_nil)
      (pss_cons (ps_if (pt_cmpR op_eq (pv 0) pe_int (nomark _)) (pss_one (ps_expr (pe_call (bad_worth T) (hr.mono (by decide)) rfl T.m_worth T.F_worth.kp T.a_worth .nil passR (pa_cons (pv 1) (pa_cons (pv 2) pa_nil))))) pss_nil)
      (pss_cons (ps_if (pt_cmpR op_eq (pv 0) pe_int (nomark _)) (pss_one (ps_expr (pe_call (bad_is_plain T) (hr.mono (by decide)) rfl T.m_is_plain T.F_is_plain.kp T.a_is_plain .nil passR (pa_cons (pv 1) (pa_cons (pv 2) pa_nil))))) pss_nil)
      (pss_cons (ps_if (pt_cmpR op_eq (pv 0) pe_int (nomark _)) (pss_one (ps_expr (pe_call (bad_plain T) (hr.mono (by decide)) rfl T.m_plain T.F_plain.kp T.a_plain .nil passR (pa_cons (pv 1) (pa_cons (pv 2) pa_nil))))) pss_nil)
      (pss_cons (ps_if (pt_cmpR op_eq (pv 0) pe_int (nomark _)) (pss_one (ps_expr (pe_call (bad_can T) (hr.mono (by decide)) rfl T.m_can T.F_can.kp T.a_can .nil passR (pa_cons (pv 1) (pa_cons (pv 2) pa_nil))))) pss_nil)
      (pss_cons (ps_if (pt_cmpR op_eq (pv 0) pe_int (nomark _)) (pss_one (ps_expr (pe_call (bad_raisings T) (hr.mono (by decide)) rfl T.m_raisings T.F_raisings.kp T.a_raisings .nil passR (pa_cons (pv 1) (pa_cons (pv 2) pa_nil))))) pss_nil)
      (pss_cons (ps_if (pt_cmpR op_eq (pv 0) pe_int (nomark _)) (pss_one (ps_expr (pe_call (bad_shown T) (hr.mono (by decide)) rfl T.m_shown T.F_shown.kp T.a_shown .nil passR (pa_cons (pv 1) (pa_cons (pv 2) pa_nil))))) pss_nil)
      (pss_cons (ps_if (pt_cmpR op_eq (pv 0) pe_int (nomark _)) (pss_one (ps_expr (pe_call (bad_times T) (hr.mono (by decide)) rfl T.m_times T.F_times.kp T.a_times .nil passR (pa_cons (pv 1) (pa_cons (pv 2) (pa_cons (pe_un un_neg pe_int) pa_nil)))))) pss_nil)
      (pss_cons (ps_if (pt_cmpR op_eq (pv 0) pe_int (nomark _)) (pss_one (ps_expr (pe_call (bad_parted T) (hr.mono (by decide)) rfl T.m_parted T.F_parted.kp T.a_parted .nil passR (pa_cons (pv 1) (pa_cons (pv 2) (pa_cons pe_int pa_nil)))))) pss_nil)
      (pss_one (ps_if (pt_cmpR op_eq (pv 0) pe_int (nomark _)) (pss_one (ps_expr (pe_call (bad_stepped T) (hr.mono (by decide)) rfl T.m_stepped T.F_stepped.kp T.a_stepped .nil passR (pa_cons (pv 1) (pa_cons (pv 2) (pa_cons (pe_un un_neg pe_int) (pa_cons pe_bl pa_nil))))))) pss_nil))))))))))))), ?_⟩
      rcases hw with ⟨rfl, hF, rfl⟩ | ⟨rfl, hF, rfl⟩ | ⟨rfl, hF, rfl, rfl⟩ | ⟨rfl, hF, rfl⟩ | ⟨rfl, hF, rfl⟩ | ⟨hw, hx⟩
      · exact ⟨_, rfl, rfl, _, rfl, iteDT rfl ⟨_, rfl, a, rs, rfl, hS, hF, q⟩⟩
      · exact ⟨_, rfl, rfl, _, rfl, iteDF (by decide) ⟨_, rfl, rfl, _, rfl, iteDT rfl ⟨_, rfl, _, rfl, b, _, rfl, .inl hB, _, _, rfl, rfl, a, rs, _, rfl, hS, hF, q⟩⟩⟩
      · exact absurd ⟨.inl rfl, hF⟩ h1
      · exact ⟨_, rfl, rfl, _, rfl, iteDF (by decide) ⟨_, rfl, rfl, _, rfl, iteDF (by decide) ⟨_, rfl, rfl, _, rfl, iteDT rfl ⟨_, rfl, a, rs, _, rfl, hS, hF, q⟩⟩⟩⟩
      · exact absurd ⟨.inr rfl, hF⟩ h1
      · rcases hw with rfl | rfl | rfl | rfl | rfl | rfl | rfl | rfl | rfl
        · exact ⟨_, rfl, rfl, _, rfl, iteDF (by decide) ⟨_, rfl, rfl, _, rfl, iteDF (by decide) ⟨_, rfl, rfl, _, rfl, iteDF (by decide) ⟨_, rfl, rfl, _, rfl, iteDT rfl ⟨_, rfl, _, rfl, a, b, rs, bs, C, rfl, hS, hB, hx, q⟩⟩⟩⟩⟩
        · exact ⟨_, rfl, rfl, _, rfl, iteDF (by decide) ⟨_, rfl, rfl, _, rfl, iteDF (by decide) ⟨_, rfl, rfl, _, rfl, iteDF (by decide) ⟨_, rfl, rfl, _, rfl, iteDF (by decide) ⟨_, rfl, rfl, _, rfl, iteDT rfl ⟨_, rfl, _, rfl, a, b, rs, bs, C, rfl, hS, hB, hx, q⟩⟩⟩⟩⟩⟩
        · exact ⟨_, rfl, rfl, _, rfl, iteDF (by decide) ⟨_, rfl, rfl, _, rfl, iteDF (by decide) ⟨_, rfl, rfl, _, rfl, iteDF (by decide) ⟨_, rfl, rfl, _, rfl, iteDF (by decide) ⟨_, rfl, rfl, _, rfl, iteDF (by decide) ⟨_, rfl, rfl, _, rfl, iteDT rfl ⟨_, rfl, _, rfl, a, b, rs, bs, C, rfl, hS, hB, hx, q⟩⟩⟩⟩⟩⟩⟩
        · exact ⟨_, rfl, rfl, _, rfl, iteDF (by decide) ⟨_, rfl, rfl, _, rfl, iteDF (by decide) ⟨_, rfl, rfl, _, rfl, iteDF (by decide) ⟨_, rfl, rfl, _, rfl, iteDF (by decide) ⟨_, rfl, rfl, _, rfl, iteDF (by decide) ⟨_, rfl, rfl, _, rfl, iteDF (by decide) ⟨_, rfl, rfl, _, rfl, iteDT rfl ⟨_, rfl, _, rfl, a, b, rs, bs, C, rfl, hS, hB, hx, q⟩⟩⟩⟩⟩⟩⟩⟩
        · exact ⟨_, rfl, rfl, _, rfl, iteDF (by decide) ⟨_, rfl, rfl, _, rfl, iteDF (by decide) ⟨_, rfl, rfl, _, rfl, iteDF (by decide) ⟨_, rfl, rfl, _, rfl, iteDF (by decide) ⟨_, rfl, rfl, _, rfl, iteDF (by decide) ⟨_, rfl, rfl, _, rfl, iteDF (by decide) ⟨_, rfl, rfl, _, rfl, iteDF (by decide) ⟨_, rfl, rfl, _, rfl, iteDT rfl ⟨_, rfl, _, rfl, a, b, rs, bs, C, rfl, hS, hB, hx, q⟩⟩⟩⟩⟩⟩⟩⟩⟩
        · exact ⟨_, rfl, rfl, _, rfl, iteDF (by decide) ⟨_, rfl, rfl, _, rfl, iteDF (by decide) ⟨_, rfl, rfl, _, rfl, iteDF (by decide) ⟨_, rfl, rfl, _, rfl, iteDF (by decide) ⟨_, rfl, rfl, _, rfl, iteDF (by decide) ⟨_, rfl, rfl, _, rfl, iteDF (by decide) ⟨_, rfl, rfl, _, rfl, iteDF (by decide) ⟨_, rfl, rfl, _, rfl, iteDF (by decide) ⟨_, rfl, rfl, _, rfl, iteDT rfl ⟨_, rfl, _, rfl, a, b, rs, bs, C, rfl, hS, hB, hx, q⟩⟩⟩⟩⟩⟩⟩⟩⟩⟩
        · exact ⟨_, rfl, rfl, _, rfl, iteDF (by decide) ⟨_, rfl, rfl, _, rfl, iteDF (by decide) ⟨_, rfl, rfl, _, rfl, iteDF (by decide) ⟨_, rfl, rfl, _, rfl, iteDF (by decide) ⟨_, rfl, rfl, _, rfl, iteDF (by decide) ⟨_, rfl, rfl, _, rfl, iteDF (by decide) ⟨_, rfl, rfl, _, rfl, iteDF (by decide) ⟨_, rfl, rfl, _, rfl, iteDF (by decide) ⟨_, rfl, rfl, _, rfl, iteDF (by decide) ⟨_, rfl, rfl, _, rfl, iteDT rfl ⟨_, rfl, _, rfl, _, rfl, a, b, rs, bs, _, C, rfl, hS, hB, hx, q⟩⟩⟩⟩⟩⟩⟩⟩⟩⟩⟩
        · exact ⟨_, rfl, rfl, _, rfl, iteDF (by decide) ⟨_, rfl, rfl, _, rfl, iteDF (by decide) ⟨_, rfl, rfl, _, rfl, iteDF (by decide) ⟨_, rfl, rfl, _, rfl, iteDF (by decide) ⟨_, rfl, rfl, _, rfl, iteDF (by decide) ⟨_, rfl, rfl, _, rfl, iteDF (by decide) ⟨_, rfl, rfl, _, rfl, iteDF (by decide) ⟨_, rfl, rfl, _, rfl, iteDF (by decide) ⟨_, rfl, rfl, _, rfl, iteDF (by decide) ⟨_, rfl, rfl, _, rfl, iteDF (by decide) ⟨_, rfl, rfl, _, rfl, iteDT rfl ⟨_, rfl, _, rfl, a, b, rs, bs, _, C, rfl, hS, hB, hx, q⟩⟩⟩⟩⟩⟩⟩⟩⟩⟩⟩⟩
        · exact ⟨_, rfl, rfl, _, rfl, iteDF (by decide) ⟨_, rfl, rfl, _, rfl, iteDF (by decide) ⟨_, rfl, rfl, _, rfl, iteDF (by decide) ⟨_, rfl, rfl, _, rfl, iteDF (by decide) ⟨_, rfl, rfl, _, rfl, iteDF (by decide) ⟨_, rfl, rfl, _, rfl, iteDF (by decide) ⟨_, rfl, rfl, _, rfl, iteDF (by decide) ⟨_, rfl, rfl, _, rfl, iteDF (by decide) ⟨_, rfl, rfl, _, rfl, iteDF (by decide) ⟨_, rfl, rfl, _, rfl, iteDF (by decide) ⟨_, rfl, rfl, _, rfl, iteDF (by decide) ⟨_, rfl, rfl, _, rfl, iteDT rfl ⟨_, rfl, _, rfl, _, rfl, a, b, rs, bs, _, _, C, rfl, hS, hB, hx, q⟩⟩⟩⟩⟩⟩⟩⟩⟩⟩⟩⟩⟩
def sp__law_second (K : PySem.W.Frag) : Sp := fun vs H Q _ => ∃ (w : Int) (a b c : Addr), vs = [.int w, .ref a, .ref b, .ref c] ∧ w < 12 ∧ ∀ H', Same H H' → Q .non H'
theorem ok__law_second (T : Txt K mg A) : FnOk P w K mg base CX0 7 A.f__law_second A.fd__law_second ["which", "ratios", "one", "other"] (sp__law_second K) := by
  refine T.F__law_second.ok sc__law_second (fun vs H Q E h => ?_) (fun cdv A' outer s H vs Q E hr h => ?_)
  · obtain ⟨w, a, b, c, rfl, _⟩ := h
    rfl
  · obtain ⟨w, a, b, c, rfl, hw, q⟩ := h
    refine ⟨_, (pss_cons (ps_if (pt_cmpR op_eq (pv 0) pe_int (nomark _)) (pss_one ps_never) pss_nil)
      (pss_cons (ps_if (pt_cmpR op_eq (pv 0) pe_int (nomark _)) (pss_one ps_never) pss_nil)
      (pss_cons (ps_if (pt_cmpR op_eq (pv 0) pe_int (nomark _)) (pss_one ps_never) pss_nil)
      (pss_cons (ps_if (pt_cmpR op_eq (pv 0) pe_int (nomark _)) (pss_one ps_never) pss_nil)
      (pss_one (ps_if (pt_cmpR op_eq (pv 0) pe_int (nomark _)) (pss_one ps_never) pss_nil)))))), ?_⟩
    have no : ∀ k : Int, 12 ≤ k → ¬ V.int w = V.int k := fun k hk e => by have := V.int.inj e; omega
    exact ⟨_, rfl, rfl, _, rfl, iteDF (no _ (by decide)) ⟨_, rfl, rfl, _, rfl, iteDF (no _ (by decide)) ⟨_, rfl, rfl, _, rfl, iteDF (no _ (by decide)) ⟨_, rfl, rfl, _, rfl, iteDF (no _ (by decide)) ⟨_, rfl, rfl, _, rfl, iteDF (no _ (by decide)) (q H (Same.refl _))⟩⟩⟩⟩⟩

def bp__law_second (K : PySem.W.Frag) (A : Adr) : Sp := fun vs H _ E => ∃ (w : Int) (a b c : Addr) (rs bs cs : List Int) (C : Addr), vs = [.int w, .ref a, .ref b, .ref c] ∧ SqL K H a (rs.map V.int) ∧ SqL K H b (bs.map V.int) ∧ SqL K H c (cs.map V.int) ∧
  (w = 12 ∨ w = 13 ∨ w = 14 ∨ w = 15 ∨ w = 16) ∧ bFBB A rs bs cs C ∧ ∀ H', Same H H' → E (.ref C) none H'
theorem bad__law_second (T : Txt K mg A) : FnOk P w K mg base (CXR P w) 7 A.f__law_second A.fd__law_second ["which", "ratios", "one", "other"] (bp__law_second K A) := by
  refine T.F__law_second.okR sc__law_second (fun vs H Q E h => ?_) (fun cdv A' outer s H vs Q E hr h => ?_)
  · obtain ⟨w, a, b, c, rs, bs, cs, C, rfl, _⟩ := h
    rfl
  · obtain ⟨w, a, b, c, rs, bs, cs, C, rfl, hS, hB, hC, hw, hx, q⟩ := h
    refine ⟨_, (pss_cons (ps_if (pt_cmpR op_eq (pv 0) pe_int (nomark _)) (pss_one (ps_expr (pe_call (bad_added T) (hr.mono (by decide)) rfl T.m_added T.F_added.kp T.a_added .nil passR (pa_cons (pv 1) (pa_cons (pv 2) (pa_cons (pv 3) pa_nil)))))) pss_nil)
      (pss_cons (ps_if (pt_cmpR op_eq (pv 0) pe_int (nomark _)) (pss_one (ps_expr (pe_call (bad_less T) (hr.mono (by decide)) rfl T.m_less T.F_less.kp T.a_less .nil passR (pa_cons (pv 1) (pa_cons (pv 2) (pa_cons (pv 3) pa_nil)))))) pss_nil)
      (pss_cons (ps_if (pt_cmpR op_eq (pv 0) pe_int (nomark _)) (pss_one (ps_expr (pe_call (bad_net T) (hr.mono (by decide)) rfl T.m_net T.F_net.kp T.a_net .nil passR (pa_cons (pv 1) (pa_cons (pv 2) (pa_cons (pv 3) pa_nil)))))) pss_nil)
      (pss_cons (ps_if (pt_cmpR op_eq (pv 0) pe_int (nomark _)) (pss_one (ps_expr (pe_call (bad_fewest T) (hr.mono (by decide)) rfl T.m_fewest T.F_fewest.kp T.a_fewest .nil passR (pa_cons (pv 1) (pa_cons (pv 2) (pa_cons (pv 3) pa_nil)))))) pss_nil)
      (pss_one (ps_if (pt_cmpR op_eq (pv 0) pe_int (nomark _)) (pss_one (ps_expr (pe_call (bad_way T) (hr.mono (by decide)) rfl T.m_way T.F_way.kp T.a_way .nil passR (pa_cons (pv 1) (pa_cons (pv 2) (pa_cons (pv 3) pa_nil)))))) pss_nil)))))), ?_⟩
    rcases hw with rfl | rfl | rfl | rfl | rfl
    · exact ⟨_, rfl, rfl, _, rfl, iteDT rfl ⟨_, rfl, _, rfl, _, rfl, a, b, c, rs, bs, cs, C, rfl, hS, hB, hC, hx, q⟩⟩
    · exact ⟨_, rfl, rfl, _, rfl, iteDF (by decide) ⟨_, rfl, rfl, _, rfl, iteDT rfl ⟨_, rfl, _, rfl, _, rfl, a, b, c, rs, bs, cs, C, rfl, hS, hB, hC, hx, q⟩⟩⟩
    · exact ⟨_, rfl, rfl, _, rfl, iteDF (by decide) ⟨_, rfl, rfl, _, rfl, iteDF (by decide) ⟨_, rfl, rfl, _, rfl, iteDT rfl ⟨_, rfl, _, rfl, _, rfl, a, b, c, rs, bs, cs, C, rfl, hS, hB, hC, hx, q⟩⟩⟩⟩
    · exact ⟨_, rfl, rfl, _, rfl, iteDF (by decide) ⟨_, rfl, rfl, _, rfl, iteDF (by decide) ⟨_, rfl, rfl, _, rfl, iteDF (by decide) ⟨_, rfl, rfl, _, rfl, iteDT rfl ⟨_, rfl, _, rfl, _, rfl, a, b, c, rs, bs, cs, C, rfl, hS, hB, hC, hx, q⟩⟩⟩⟩⟩
    · exact ⟨_, rfl, rfl, _, rfl, iteDF (by decide) ⟨_, rfl, rfl, _, rfl, iteDF (by decide) ⟨_, rfl, rfl, _, rfl, iteDF (by decide) ⟨_, rfl, rfl, _, rfl, iteDF (by decide) ⟨_, rfl, rfl, _, rfl, iteDT rfl ⟨_, rfl, _, rfl, _, rfl, a, b, c, rs, bs, cs, C, rfl, hS, hB, hC, hx, q⟩⟩⟩⟩⟩⟩
/-- what is told of each function -/
def T14 (w : Int) (rs bs cs : List Int) (res : Str) : Prop := (¬ CB.Fr rs ∧ res = "frame") ∨ (CB.Fr rs ∧ ((w = 0 ∧ res = "done") ∨ (w = 1 ∧ bs ≠ [] ∧ res = "done") ∨ (w = 1 ∧ bs = [] ∧ res = "number") ∨ (w = 2 ∧ res = "note") ∨
  (3 ≤ w ∧ w ≤ 11 ∧ ¬ CB.Bd rs bs ∧ res = "board") ∨ (3 ≤ w ∧ w ≤ 8 ∧ CB.Bd rs bs ∧ (∀ x ∈ bs, x < 10 ^ 30) ∧ res = "done") ∨ (12 ≤ w ∧ (¬ CB.Bd rs bs ∨ (CB.Bd rs bs ∧ ¬ CB.Bd rs cs)) ∧ res = "board")))
def sp__law_tried (K : PySem.W.Frag) : Sp := fun vs H Q _ => ∃ (w : Int) (a b c : Addr) (rs bs cs : List Int) (res : Str), vs = [.int w, .ref a, .ref b, .ref c] ∧ SqL K H a (rs.map V.int) ∧ SqL K H b (bs.map V.int) ∧ SqL K H c (cs.map V.int) ∧ 0 ≤ w ∧ w ≤ 16 ∧ T14 w rs bs cs res ∧ ∀ H', Same H H' → Q (.str res) H'
theorem ok__law_tried (T : Txt K mg A) : FnOk P w K mg base CX0 8 A.f__law_tried A.fd__law_tried ["which", "ratios", "one", "other"] (sp__law_tried K) := by
  refine T.F__law_tried.ok sc__law_tried (fun vs H Q E h => ?_) (fun cdv A' outer s H vs Q E hr h => ?_)
  · obtain ⟨w, a, b, c, rs, bs, cs, res, rfl, _⟩ := h
    rfl
  · obtain ⟨w, a, b, c, rs, bs, cs, res, rfl, hS, hB, hC, w0, w16, ht, q⟩ := h
    -- the first refuses, the second does, or none
    have cases3 : (∃ C : Addr, wordOf A C res ∧ PySem.W.mroIn K C (.ref A.c_BoardError) = some true ∧ ((w = 0 ∧ ¬ CB.Fr rs ∧ C = A.c_NoFrame) ∨ (w = 1 ∧ ¬ CB.Fr rs ∧ C = A.c_NoFrame) ∨ (w = 1 ∧ CB.Fr rs ∧ bs = [] ∧ C = A.c_NoNumber) ∨ (w = 2 ∧ ¬ CB.Fr rs ∧ C = A.c_NoFrame) ∨ (w = 2 ∧ CB.Fr rs ∧ C = A.c_NoNote) ∨
          ((w = 3 ∨ w = 4 ∨ w = 5 ∨ w = 6 ∨ w = 7 ∨ w = 8 ∨ w = 9 ∨ w = 10 ∨ w = 11) ∧ bFB A rs bs C))) ∨
        (∃ C : Addr, wordOf A C res ∧ PySem.W.mroIn K C (.ref A.c_BoardError) = some true ∧ 12 ≤ w ∧ (w = 12 ∨ w = 13 ∨ w = 14 ∨ w = 15 ∨ w = 16) ∧ bFBB A rs bs cs C) ∨
        (res = "done" ∧ w < 12 ∧ CB.Fr rs ∧ (w = 0 ∨ (w = 1 ∧ bs ≠ []) ∨ ((w = 3 ∨ w = 4 ∨ w = 5 ∨ w = 6 ∨ w = 7 ∨ w = 8) ∧ CB.Bd rs bs ∧ ∀ x ∈ bs, x < 10 ^ 30))) := by
      rcases ht with ⟨hF, rfl⟩ | ⟨hF, ⟨h, rfl⟩ | ⟨h, hn, rfl⟩ | ⟨h, hn, rfl⟩ | ⟨h, rfl⟩ | ⟨h1, h2, hb, rfl⟩ | ⟨h1, h2, hb, hm, rfl⟩ | ⟨h1, hb, rfl⟩⟩
      · by_cases h12 : 12 ≤ w
        · exact .inr (.inl ⟨A.c_NoFrame, .inl ⟨rfl, rfl⟩, T.u_NoFrame, h12, by omega, .inl (.inl ⟨hF, rfl⟩)⟩)
        · refine .inl ⟨A.c_NoFrame, .inl ⟨rfl, rfl⟩, T.u_NoFrame, ?_⟩
          by_cases e0 : w = 0
          · exact .inl ⟨e0, hF, rfl⟩
          by_cases e1 : w = 1
          · exact .inr (.inl ⟨e1, hF, rfl⟩)
          by_cases e2 : w = 2
          · exact .inr (.inr (.inr (.inl ⟨e2, hF, rfl⟩)))
          exact .inr (.inr (.inr (.inr (.inr ⟨by omega, .inl ⟨hF, rfl⟩⟩))))
      · exact .inr (.inr ⟨rfl, by omega, hF, .inl h⟩)
      · exact .inr (.inr ⟨rfl, by omega, hF, .inr (.inl ⟨h, hn⟩)⟩)
      · exact .inl ⟨A.c_NoNumber, .inr (.inr (.inl ⟨rfl, rfl⟩)), T.u_NoNumber, .inr (.inr (.inl ⟨h, hF, hn, rfl⟩))⟩
      · exact .inl ⟨A.c_NoNote, .inr (.inr (.inr ⟨rfl, rfl⟩)), T.u_NoNote, .inr (.inr (.inr (.inr (.inl ⟨h, hF, rfl⟩))))⟩
      · exact .inl ⟨A.c_NoBoard, .inr (.inl ⟨rfl, rfl⟩), T.u_NoBoard, .inr (.inr (.inr (.inr (.inr ⟨by omega, .inr ⟨hF, hb, rfl⟩⟩))))⟩
      · exact .inr (.inr ⟨rfl, by omega, hF, .inr (.inr ⟨by omega, hb, hm⟩)⟩)
      · refine .inr (.inl ⟨A.c_NoBoard, .inr (.inl ⟨rfl, rfl⟩), T.u_NoBoard, h1, by omega, ?_⟩)
        rcases hb with hb | ⟨hb, hc⟩
        · exact .inl (.inr ⟨hF, hb, rfl⟩)
        · exact .inr ⟨hF, hb, .inr ⟨hF, hc, rfl⟩⟩
    rcases cases3 with ⟨C, hwd, hu, hx⟩ | ⟨C, hwd, hu, h12, hw, hx⟩ | ⟨rfl, h12, hF, hx⟩
    · refine ⟨_, (pss_cons (ps_try (Z := (zOf C H)) (i := 4) rfl rfl rfl rfl T.k_BoardError T.xb (fun _ _ z => z.1.symm ▸ hu) sc__law_tried.nd rfl rfl (fun pn E hx => (pss_cons (ps_expr (pe_call (bad__law_first T) (hr.mono (by decide)) rfl T.m__law_first T.F__law_first.kp T.a__law_first .nil hx (pa_cons (pv 0) (pa_cons (pv 1) (pa_cons (pv 2) pa_nil)))))
      pss_never))
      (fun pn e => (pss_one (ps_ret (pe_callH (okH__law_word_of T) ((hr.mono (by decide)).toH _) rfl T.m__law_word_of T.F__law_word_of.kp T.a__law_word_of (pa_cons (pv 4) pa_nil))))))
      (pss_one (ps_ret pe_str))), ?_⟩
      refine ⟨⟨_, rfl, _, rfl, _, rfl, w, a, b, rs, bs, C, rfl, hS, hB, hx, fun H' sm => ⟨_, rfl, rfl, sm⟩⟩, ?_⟩
      rintro C' H' ea ⟨rfl, sm⟩ nea
      exact ⟨_, rfl, ea, _, res, rfl, upd_same, hwd, fun H'' s'' => q H'' ((sm.trans (Same.new nea)).trans s'')⟩
    · refine ⟨_, (pss_cons (ps_try (Z := (zOf C H)) (i := 4) rfl rfl rfl rfl T.k_BoardError T.xb (fun _ _ z => z.1.symm ▸ hu) sc__law_tried.nd rfl rfl (fun pn E hx => (pss_cons (ps_expr (pe_call (ok__law_first T) (hr.mono (by decide)) rfl T.m__law_first T.F__law_first.kp T.a__law_first .nil pass0 (pa_cons (pv 0) (pa_cons (pv 1) (pa_cons (pv 2) pa_nil)))))
      (pss_one (ps_expr (pe_call (bad__law_second T) (hr.mono (by decide)) rfl T.m__law_second T.F__law_second.kp T.a__law_second .nil hx (pa_cons (pv 0) (pa_cons (pv 1) (pa_cons (pv 2) (pa_cons (pv 3) pa_nil)))))))))
      (fun pn e => (pss_one (ps_ret (pe_callH (okH__law_word_of T) ((hr.mono (by decide)).toH _) rfl T.m__law_word_of T.F__law_word_of.kp T.a__law_word_of (pa_cons (pv 4) pa_nil))))))
      (pss_one (ps_ret pe_str))), ?_⟩
      refine ⟨⟨_, rfl, _, rfl, _, rfl, w, a, b, rs, bs, rfl, hS, hB, .inl h12, fun H1 s1 => ⟨_, rfl, _, rfl, _, rfl, _, rfl, w, a, b, c, rs, bs, cs, C, rfl, s1.seq hS, s1.seq hB, s1.seq hC, hw, hx, fun H' sm => ⟨_, rfl, rfl, s1.trans sm⟩⟩⟩, ?_⟩
      rintro C' H' ea ⟨rfl, sm⟩ nea
      exact ⟨_, rfl, ea, _, res, rfl, upd_same, hwd, fun H'' s'' => q H'' ((sm.trans (Same.new nea)).trans s'')⟩
    · refine ⟨_, (pss_cons (ps_try (Z := zNo) (i := 4) rfl rfl rfl rfl T.k_BoardError T.xb (fun _ _ z => z.elim) sc__law_tried.nd rfl rfl (fun pn E hx => (pss_cons (ps_expr (pe_call (ok__law_first T) (hr.mono (by decide)) rfl T.m__law_first T.F__law_first.kp T.a__law_first .nil pass0 (pa_cons (pv 0) (pa_cons (pv 1) (pa_cons (pv 2) pa_nil)))))
      (pss_one (ps_expr (pe_call (ok__law_second T) (hr.mono (by decide)) rfl T.m__law_second T.F__law_second.kp T.a__law_second .nil pass0 (pa_cons (pv 0) (pa_cons (pv 1) (pa_cons (pv 2) (pa_cons (pv 3) pa_nil)))))))))
      (fun pn e => (pss_one (ps_ret (pe_callH (okH__law_word_of T) ((hr.mono (by decide)).toH _) rfl T.m__law_word_of T.F__law_word_of.kp T.a__law_word_of (pa_cons (pv 4) pa_nil))))))
      (pss_one (ps_ret pe_str))), ?_⟩
      exact ⟨⟨_, rfl, _, rfl, _, rfl, w, a, b, rs, bs, rfl, hS, hB, .inr ⟨hF, hx⟩, fun H1 s1 => ⟨_, rfl, _, rfl, _, rfl, _, rfl, w, a, b, c, rfl, h12, fun H2 s2 => q H2 (s1.trans s2)⟩⟩, fun C H' ea hz _ => hz.elim⟩
def sp__law_bad_board (K : PySem.W.Frag) : Sp := fun vs H Q _ => ∃ (g : Addr) (rs gs : List Int) (k j : Nat) (far : Int), vs = [.ref g, .int k, .int j, .int far] ∧ H g = some (.lst (gs.map V.int)) ∧ k < 3 ∧ j < gs.length ∧ 0 ≤ far ∧ rs.length ≤ 11 ∧ CB.Bd rs gs ∧
  ∀ l H' bd, Same H H' → H' l = some (.lst (bd.map V.int)) → ¬ CB.Bd rs bd → Q (.ref l) H'
theorem ok__law_bad_board (T : Txt K mg A) : FnOk P w K mg base CX0 1 A.f__law_bad_board A.fd__law_bad_board ["board", "kind", "at", "far"] (sp__law_bad_board K) := by
  refine T.F__law_bad_board.ok sc__law_bad_board (fun vs H Q E h => ?_) (fun cdv A' outer s H vs Q E hr h => ?_)
  · obtain ⟨g, rs, gs, k, j, far, rfl, _⟩ := h
    rfl
  · obtain ⟨g, rs, gs, k, j, far, rfl, hg, hk, hj, hfar, h11, hG, q⟩ := h
    refine ⟨_, (pss_cons (ps_if (pt_cmpR op_eq (pv 1) pe_int (nomark _)) (pss_one (ps_ret (pe_op op_cat (pe_slice sl_list (pv 0) po_none (po_some (pv 2))) (pe_slice sl_list (pv 0) (po_some (pe_op op_add (pv 2) pe_int)) po_none)))) pss_nil)
      (pss_cons (ps_if (pt_cmpR op_eq (pv 1) pe_int (nomark _)) (pss_one (ps_ret (pe_op op_cat (pe_op op_cat (pe_slice sl_list (pv 0) po_none (po_some (pv 2))) (pe_lst (pa_cons pe_int pa_nil))) (pe_slice sl_list (pv 0) (po_some (pv 2)) po_none)))) pss_nil)
      (pss_one (ps_ret (pe_op op_cat (pe_op op_cat (pe_slice sl_list (pv 0) po_none (po_some (pv 2))) (pe_lst (pa_cons (pe_op op_sub (pe_un un_neg pe_int) (pv 3)) pa_nil))) (pe_slice sl_list (pv 0) (po_some (pe_op op_add (pv 2) pe_int)) po_none)))))), ?_⟩
    have lg := hG.1
    have ej : ((j : Int) + 1) = ((j + 1 : Nat) : Int) := by omega
    have c1 := CB.cut_to (α := gs.map V.int) j
    have c2 := CB.cut_from (α := gs.map V.int) (j + 1)
    have c3 := CB.cut_from (α := gs.map V.int) j
    rw [← ej] at c2
    have lm : (gs.map V.int).length = gs.length := List.length_map _
    have z12 : ∀ xs ys : List V, xs.length ≤ 20 → ys.length ≤ 20 → xs.length + ys.length ≤ sizeLine := fun xs ys h1 h2 => by rw [sizeLine_eq]; omega
    have lt : ((gs.map V.int).take j).length ≤ 12 := by rw [List.length_take]; omega
    have ld : ∀ n, ((gs.map V.int).drop n).length ≤ 12 := fun n => by rw [List.length_drop]; omega
    refine ⟨_, rfl, rfl, _, rfl, ite2D (fun hk0 => ?_) (fun hk0 => ?_)⟩
    · refine ⟨_, rfl, _, rfl, _, rfl, g, _, rfl, SqL.of hg, fun l1 n1 => ?_⟩
      have sl1 := Same.new (o := .lst (cutV (gs.map V.int) none (some (j : Int)))) n1
      have el1 : (upd H l1 (.lst (cutV (gs.map V.int) none (some (j : Int))))) l1 = some (.lst ((gs.map V.int).take j)) := by rw [upd_same, c1]
      have hg1 := sl1 _ _ hg
      generalize upd H l1 (.lst (cutV (gs.map V.int) none (some (j : Int)))) = H1 at *
      refine ⟨_, rfl, _, rfl, _, _, rfl, rfl, _, rfl, g, _, rfl, SqL.of hg1, fun l2 n2 => ?_⟩
      have sl2 := Same.new (o := .lst (cutV (gs.map V.int) (some ((j : Int) + 1)) none)) n2
      have el2 : (upd H1 l2 (.lst (cutV (gs.map V.int) (some ((j : Int) + 1)) none))) l2 = some (.lst ((gs.map V.int).drop (j + 1))) := by rw [upd_same, c2]
      refine ⟨l1, l2, _, _, rfl, rfl, sl2 _ _ el1, el2, z12 _ _ (by omega) (by have := ld (j + 1); omega), fun l3 n3 => ?_⟩
      refine q l3 _ (gs.take j ++ gs.drop (j + 1)) ((sl1.trans sl2).trans (Same.new n3)) (by rw [upd_same, List.map_append, List.map_take, List.map_drop]) fun hb => ?_
      have := hb.1
      rw [List.length_append, List.length_take, List.length_drop] at this
      omega
    · refine ⟨_, rfl, rfl, _, rfl, ite2D (fun hk1 => ?_) (fun hk1 => ?_)⟩
      · refine ⟨_, rfl, _, rfl, _, rfl, g, _, rfl, SqL.of hg, fun l1 n1 => ?_⟩
        have sl1 := Same.new (o := .lst (cutV (gs.map V.int) none (some (j : Int)))) n1
        have el1 : (upd H l1 (.lst (cutV (gs.map V.int) none (some (j : Int))))) l1 = some (.lst ((gs.map V.int).take j)) := by rw [upd_same, c1]
        have hg1 := sl1 _ _ hg
        generalize upd H l1 (.lst (cutV (gs.map V.int) none (some (j : Int)))) = H1 at *
        refine ⟨(by show 1 ≤ sizeLine; decide), fun m nm => ?_⟩
        have sm := Same.new (o := .lst [V.int 0]) nm
        refine ⟨l1, m, _, _, rfl, rfl, sm _ _ el1, upd_same, z12 _ _ (by omega) (by show 1 ≤ 20; decide), fun l2 n2 => ?_⟩
        have sl2 := Same.new (o := .lst ((gs.map V.int).take j ++ [V.int 0])) n2
        have el2 : (upd (upd H1 m (.lst [V.int 0])) l2 (.lst ((gs.map V.int).take j ++ [V.int 0]))) l2 = _ := upd_same
        have hg2 := sl2 _ _ (sm _ _ hg1)
        have s02 := (sl1.trans sm).trans sl2
        generalize upd (upd H1 m (.lst [V.int 0])) l2 (.lst ((gs.map V.int).take j ++ [V.int 0])) = H2 at *
        refine ⟨_, rfl, _, rfl, _, rfl, g, _, rfl, SqL.of hg2, fun l3 n3 => ?_⟩
        have sl3 := Same.new (o := .lst (cutV (gs.map V.int) (some (j : Int)) none)) n3
        have el3 : (upd H2 l3 (.lst (cutV (gs.map V.int) (some (j : Int)) none))) l3 = some (.lst ((gs.map V.int).drop j)) := by rw [upd_same, c3]
        refine ⟨l2, l3, _, _, rfl, rfl, sl3 _ _ el2, el3, z12 _ _ (by rw [List.length_append]; simp only [List.length_cons, List.length_nil]; omega) (by have := ld j; omega), fun l4 n4 => ?_⟩
        refine q l4 _ (gs.take j ++ [0] ++ gs.drop j) ((s02.trans sl3).trans (Same.new n4)) (by rw [upd_same, List.map_append, List.map_append, List.map_take, List.map_drop]; rfl) fun hb => ?_
        have := hb.1
        simp only [List.length_append, List.length_take, List.length_drop, List.length_cons, List.length_nil] at this
        omega
      · refine ⟨_, rfl, _, rfl, _, rfl, g, _, rfl, SqL.of hg, fun l1 n1 => ?_⟩
        have sl1 := Same.new (o := .lst (cutV (gs.map V.int) none (some (j : Int)))) n1
        have el1 : (upd H l1 (.lst (cutV (gs.map V.int) none (some (j : Int))))) l1 = some (.lst ((gs.map V.int).take j)) := by rw [upd_same, c1]
        have hg1 := sl1 _ _ hg
        generalize upd H l1 (.lst (cutV (gs.map V.int) none (some (j : Int)))) = H1 at *
        refine ⟨_, rfl, _, rfl, _, _, rfl, rfl, (by show 1 ≤ sizeLine; decide), fun m nm => ?_⟩
        have sm := Same.new (o := .lst [V.int (-1 - far)]) nm
        refine ⟨l1, m, _, _, rfl, rfl, sm _ _ el1, upd_same, z12 _ _ (by omega) (by show 1 ≤ 20; decide), fun l2 n2 => ?_⟩
        have sl2 := Same.new (o := .lst ((gs.map V.int).take j ++ [V.int (-1 - far)])) n2
        have el2 : (upd (upd H1 m (.lst [V.int (-1 - far)])) l2 (.lst ((gs.map V.int).take j ++ [V.int (-1 - far)]))) l2 = _ := upd_same
        have hg2 := sl2 _ _ (sm _ _ hg1)
        have s02 := (sl1.trans sm).trans sl2
        generalize upd (upd H1 m (.lst [V.int (-1 - far)])) l2 (.lst ((gs.map V.int).take j ++ [V.int (-1 - far)])) = H2 at *
        refine ⟨_, rfl, _, rfl, _, _, rfl, rfl, _, rfl, g, _, rfl, SqL.of hg2, fun l3 n3 => ?_⟩
        have sl3 := Same.new (o := .lst (cutV (gs.map V.int) (some ((j : Int) + 1)) none)) n3
        have el3 : (upd H2 l3 (.lst (cutV (gs.map V.int) (some ((j : Int) + 1)) none))) l3 = some (.lst ((gs.map V.int).drop (j + 1))) := by rw [upd_same, c2]
        refine ⟨l2, l3, _, _, rfl, rfl, sl3 _ _ el2, el3, z12 _ _ (by rw [List.length_append]; simp only [List.length_cons, List.length_nil]; omega) (by have := ld (j + 1); omega), fun l4 n4 => ?_⟩
        refine q l4 _ (gs.take j ++ [-1 - far] ++ gs.drop (j + 1)) ((s02.trans sl3).trans (Same.new n4)) (by rw [upd_same, List.map_append, List.map_append, List.map_take, List.map_drop]; rfl) fun hb => ?_
        have := hb.2 (-1 - far) (by simp)
        omega
/-- what stands between two pieces of a body: proved once, used by every way through the first -/
theorem seq_mid2 {t1 t2 u : TS} {D : Ends} {σ : St} {H : Hp} (M : St → Hp → Prop) (h1 : ∀ N : St → Hp → Prop, (∀ σ H, M σ H → N σ H) → tSeq t1 t2 { D with nx := N } σ H) (h2 : ∀ σ H, M σ H → u D σ H) : tSeq t1 (tSeq t2 u) D σ H := h1 (u D) h2
theorem seq_mid3 {t1 t2 t3 u : TS} {D : Ends} {σ : St} {H : Hp} (M : St → Hp → Prop) (h1 : ∀ N : St → Hp → Prop, (∀ σ H, M σ H → N σ H) → tSeq t1 (tSeq t2 t3) { D with nx := N } σ H) (h2 : ∀ σ H, M σ H → u D σ H) : tSeq t1 (tSeq t2 (tSeq t3 u)) D σ H := h1 (u D) h2
theorem seq_mid4 {t1 t2 t3 t4 u : TS} {D : Ends} {σ : St} {H : Hp} (M : St → Hp → Prop) (h1 : ∀ N : St → Hp → Prop, (∀ σ H, M σ H → N σ H) → tSeq t1 (tSeq t2 (tSeq t3 t4)) { D with nx := N } σ H) (h2 : ∀ σ H, M σ H → u D σ H) : tSeq t1 (tSeq t2 (tSeq t3 (tSeq t4 u))) D σ H := h1 (u D) h2
theorem frame_ne : ¬ V.str "frame" = V.str "done" := fun e => absurd (V.str.inj e) (by decide +kernel)
def sp_law (K : PySem.W.Frag) : Sp := fun vs H Q _ => ∃ (a : Addr) (ns : List Int), vs = [.ref a] ∧ SqL K H a (ns.map V.int) ∧ ns.length ≤ 63 ∧ ∀ H', Q (.bl true) H'
theorem ok_law (T : Txt K mg A) : FnOk P w K mg base CX0 9 A.f_law A.fd_law ["script"] (sp_law K) := by
  refine T.F_law.ok sc_law (fun vs H Q E h => ?_) (fun cdv A' outer s H vs Q E hr h => ?_)
  · obtain ⟨a, ns, rfl, _⟩ := h
    rfl
  · obtain ⟨a, ns, rfl, hS, hlen, k⟩ := h
    refine ⟨_, (pss_cons (ps_set (i := 1) sc_law.nd rfl (Or.inl rfl) (pe_op op_mod (pe_call (ok__law_cell_at T) (hr.mono (by decide)) rfl T.m__law_cell_at T.F__law_cell_at.kp T.a__law_cell_at .nil pass0 (pa_cons (pv 0) (pa_cons pe_int pa_nil))) (pe_op op_pow pe_int pe_int)))
      (pss_cons (ps_comp (i := 2) (N := ["k", "script"]) (src := [none, some 0]) rfl (comp_sc (N0 := ["script", "far", "ratios", "good", "kind", "frame", "told", "bad", "which", "one", "other", "due"]) (esc := defScope s_law) (by decide +kernel)) own_name sc_law.nd rfl (Or.inl rfl) (pi_range1 rfl T.b_range (pa_cons (pe_op op_mod (pe_call (ok__law_cell_at T) (hr.mono (by decide)) rfl T.m__law_cell_at T.F__law_cell_at.kp T.a__law_cell_at .nil pass0 (pa_cons (pv 0) (pa_cons pe_int pa_nil))) pe_int) pa_nil)) (fun _ _ _ => (pg_name (i := 0) (show (["k", "script"] : List Str).Nodup by decide +kernel) rfl (Or.inl rfl))) (fun _ _ _ => pts_nil) (fun _ _ _ => (pe_op op_add pe_int (pe_op op_mod (pe_call (ok__law_cell_at T) (hr.mono (by decide)) rfl T.m__law_cell_at T.F__law_cell_at.kp T.a__law_cell_at .nil pass0 (pa_cons (pv 1) (pa_cons (pe_op op_add pe_int (pv 0)) pa_nil))) pe_int))))
      (pss_cons (ps_comp (i := 3) (N := ["k", "script"]) (src := [none, some 0]) rfl (comp_sc (N0 := ["script", "far", "ratios", "good", "kind", "frame", "told", "bad", "which", "one", "other", "due"]) (esc := defScope s_law) (by decide +kernel)) own_name sc_law.nd rfl (Or.inl rfl) (pi_range1 rfl T.b_range (pa_cons (pe_op op_add (pe_callB call_len_seq rfl T.b_len PySem.boot_len (pa_cons (pv 2) pa_nil)) pe_int) pa_nil)) (fun _ _ _ => (pg_name (i := 0) (show (["k", "script"] : List Str).Nodup by decide +kernel) rfl (Or.inl rfl))) (fun _ _ _ => pts_nil) (fun _ _ _ => (pe_op op_mod (pe_call (ok__law_cell_at T) (hr.mono (by decide)) rfl T.m__law_cell_at T.F__law_cell_at.kp T.a__law_cell_at .nil pass0 (pa_cons (pv 1) (pa_cons (pe_op op_add pe_int (pv 0)) pa_nil))) pe_int)))
      (pss_cons (ps_set (i := 4) sc_law.nd rfl (Or.inl rfl) (pe_op op_mod (pe_call (ok__law_cell_at T) (hr.mono (by decide)) rfl T.m__law_cell_at T.F__law_cell_at.kp T.a__law_cell_at .nil pass0 (pa_cons (pv 0) (pa_cons pe_int pa_nil))) pe_int))
      (pss_cons (ps_set (i := 5) sc_law.nd rfl (Or.inl rfl) pe_str)
      (pss_cons (ps_set (i := 6) sc_law.nd rfl (Or.inl rfl) (pe_callTy call_list_of rfl T.b_list PyProof.Rows.boot_list (pa_cons (pv 2) pa_nil)))
      (pss_cons (ps_if (PW.pt (pw_and (pt_cmpR op_lt (pv 4) pe_int (nomark _)) (pw_and1 (pt_cmpR (op_neD hr.units) (pv 6) (pe_lst pa_nil) (nomark _))))) (pss_cons (ps_asg (pe_ix ix_list (pe_lst (pa_cons pe_int (pa_cons (pe_op op_sub pe_int (pv 1)) (pa_cons pe_int (pa_cons (pe_op op_add pe_int (pv 1)) pa_nil))))) (pv 4) (fun _ _ => rfl)) (pg_sub (pv 6) (pe_op op_mod (pe_call (ok__law_cell_at T) (hr.mono (by decide)) rfl T.m__law_cell_at T.F__law_cell_at.kp T.a__law_cell_at .nil pass0 (pa_cons (pv 0) (pa_cons pe_int pa_nil))) (pe_callB call_len_seq rfl T.b_len PySem.boot_len (pa_cons (pv 6) pa_nil))) set_list))
      (pss_one (ps_set (i := 5) sc_law.nd rfl (Or.inl rfl) pe_str))) pss_nil)
      (pss_cons (ps_if (pt_cmpR op_eq (pv 4) pe_int (nomark _)) (pss_cons (ps_comp (i := 6) (N := ["k"]) (src := [none]) rfl (comp_sc (N0 := ["script", "far", "ratios", "good", "kind", "frame", "told", "bad", "which", "one", "other", "due"]) (esc := defScope s_law) (by decide +kernel)) own_name sc_law.nd rfl (Or.inl rfl) (pi_range1 rfl T.b_range (pa_cons (pe_op op_add pe_int (pe_op op_mod (pe_call (ok__law_cell_at T) (hr.mono (by decide)) rfl T.m__law_cell_at T.F__law_cell_at.kp T.a__law_cell_at .nil pass0 (pa_cons (pv 0) (pa_cons pe_int pa_nil))) pe_int)) pa_nil)) (fun _ _ _ => (pg_name (i := 0) (show (["k"] : List Str).Nodup by decide +kernel) rfl (Or.inl rfl))) (fun _ _ _ => pts_nil) (fun _ _ _ => pe_int))
      (pss_one (ps_set (i := 5) sc_law.nd rfl (Or.inl rfl) pe_str))) pss_nil)
      (pss_cons (ps_set (i := 7) sc_law.nd rfl (Or.inl rfl) (pe_call (ok__law_bad_board T) (hr.mono (by decide)) rfl T.m__law_bad_board T.F__law_bad_board.kp T.a__law_bad_board .nil pass0 (pa_cons (pv 3) (pa_cons (pe_op op_mod (pe_call (ok__law_cell_at T) (hr.mono (by decide)) rfl T.m__law_cell_at T.F__law_cell_at.kp T.a__law_cell_at .nil pass0 (pa_cons (pv 0) (pa_cons pe_int pa_nil))) pe_int) (pa_cons (pe_op op_mod (pe_call (ok__law_cell_at T) (hr.mono (by decide)) rfl T.m__law_cell_at T.F__law_cell_at.kp T.a__law_cell_at .nil pass0 (pa_cons (pv 0) (pa_cons pe_int pa_nil))) (pe_callB call_len_seq rfl T.b_len PySem.boot_len (pa_cons (pv 3) pa_nil))) (pa_cons (pv 1) pa_nil))))))
      (pss_cons (ps_for PassesOwn.never rfl (pi_range1 rfl T.b_range (pa_cons pe_int pa_nil)) (pg_name (i := 8) sc_law.nd rfl (Or.inl rfl))
      (pss_cons (ps_par (i := 9) (j := 10) rfl sc_law.nd rfl rfl (by decide) rfl rfl (pa_cons (pv 7) (pa_cons (pv 3) pa_nil)) rfl)
      (pss_cons (ps_if (PW.pt (pw_and (pt_cmpR op_gt (pv 8) pe_int (nomark _)) (pw_and1 (pt_cmpR op_eq (pe_op op_mod (pe_call (ok__law_cell_at T) (hr.mono (by decide)) rfl T.m__law_cell_at T.F__law_cell_at.kp T.a__law_cell_at .nil pass0 (pa_cons (pv 0) (pa_cons pe_int pa_nil))) pe_int) pe_int (nomark _))))) (pss_one (ps_par (i := 9) (j := 10) rfl sc_law.nd rfl rfl (by decide) rfl rfl (pa_cons (pv 3) (pa_cons (pv 7) pa_nil)) rfl)) pss_nil)
      (pss_cons (ps_set (i := 11) sc_law.nd rfl (Or.inl rfl) (pv 5))
      (pss_cons (ps_if (PW.pt (pw_and (pt_cmpR op_eq (pv 5) pe_str (nomark _)) (pw_and1 (pt_cmpR op_gt (pv 8) pe_int (nomark _))))) (pss_one (ps_set (i := 11) sc_law.nd rfl (Or.inl rfl) pe_str)) pss_nil)
      (pss_cons (ps_if (PW.pt (pw_and (pt_cmpR op_eq (pv 5) pe_str (nomark _)) (pw_and1 (pt_cmpR op_eq (pv 8) pe_int (nomark _))))) (pss_one (ps_set (i := 11) sc_law.nd rfl (Or.inl rfl) pe_str)) pss_nil)
      (pss_cons (ps_if (PW.pt (pw_and (pt_cmpR op_eq (pv 5) pe_str (nomark _)) (pw_and (pt_cmpR op_eq (pv 8) pe_int (nomark _)) (pw_and1 (pt_cmpR op_eq (pe_callB call_len_seq rfl T.b_len PySem.boot_len (pa_cons (pv 7) pa_nil)) pe_int (nomark _)))))) (pss_one (ps_set (i := 11) sc_law.nd rfl (Or.inl rfl) pe_str)) pss_nil)
      (pss_one (ps_if (pt_cmpR op_ne (pe_call (ok__law_tried T) (hr.mono (by decide)) rfl T.m__law_tried T.F__law_tried.kp T.a__law_tried .nil pass0 (pa_cons (pv 8) (pa_cons (pe_callTy call_list_of rfl T.b_list PyProof.Rows.boot_list (pa_cons (pv 6) pa_nil)) (pa_cons (pe_callTy call_list_of rfl T.b_list PyProof.Rows.boot_list (pa_cons (pv 9) pa_nil)) (pa_cons (pe_callTy call_list_of rfl T.b_list PyProof.Rows.boot_list (pa_cons (pv 10) pa_nil)) pa_nil))))) (pv 11) (nomark _)) (pss_one (ps_ret pe_bl)) pss_nil)))))))))
      (pss_cons (ps_for PassesOwn.never rfl (pi_range2 rfl T.b_range (pa_cons pe_int (pa_cons pe_int pa_nil))) (pg_name (i := 8) sc_law.nd rfl (Or.inl rfl))
      (pss_one (ps_if (PW.pt (pw_and (pt_cmpR op_eq (pv 5) pe_str (nomark _)) (pw_and1 (pt_cmpR op_ne (pe_call (ok__law_tried T) (hr.mono (by decide)) rfl T.m__law_tried T.F__law_tried.kp T.a__law_tried .nil pass0 (pa_cons (pv 8) (pa_cons (pe_callTy call_list_of rfl T.b_list PyProof.Rows.boot_list (pa_cons (pv 6) pa_nil)) (pa_cons (pe_callTy call_list_of rfl T.b_list PyProof.Rows.boot_list (pa_cons (pv 3) pa_nil)) (pa_cons (pe_callTy call_list_of rfl T.b_list PyProof.Rows.boot_list (pa_cons (pv 3) pa_nil)) pa_nil))))) pe_str (nomark _))))) (pss_one (ps_ret pe_bl)) pss_nil)))
      (pss_one (ps_ret pe_bl))))))))))))), ?_⟩
    -- far
    refine ⟨_, rfl, a, ns, 0, rfl, hS, _, _, rfl, rfl, ⟨by decide, by decide, by decide⟩, _, _, rfl, rfl, (by show (0 : Int) < 10 ^ 20; decide), ?_⟩
    obtain ⟨far, hfar, far0⟩ : ∃ far : Int, CB.cell ns 0 % 10 ^ (20 : Int).toNat = far ∧ 0 ≤ far := ⟨_, rfl, Int.emod_nonneg _ (by decide)⟩
    show tSeq _ _ _ [some (V.ref a), some (V.int (CB.cell ns 0 % 10 ^ (20 : Int).toNat)), none, none, none, none, none, none, none, none, none, none] H
    rw [hfar]
    -- ratios
    obtain ⟨n, hn, hn11⟩ : ∃ n : Nat, CB.cell ns 1 % 12 = (n : Int) ∧ n ≤ 11 := ⟨(CB.cell ns 1 % 12).toNat, by omega, by omega⟩
    refine ⟨_, rfl, a, ns, 1, rfl, hS, _, _, rfl, rfl, (by show (0 : Int) < 12; decide), _, rfl, by omega, by omega, fun r nr => ?_⟩
    refine comp_rng (fun k => V.int (2 + CB.cell ns (3 + k) % 11)) (by omega) nr (fun i H2 R hi sm hd hR => ?_) fun H1 s1 er => ?_
    · exact ⟨_, rfl, _, rfl, _, _, rfl, rfl, a, ns, 3 + i, by simp, sm.seq hS, _, _, rfl, rfl, (by show (0 : Int) < 11; decide), _, _, rfl, rfl, hR H2 (Same.refl H2)⟩
    obtain ⟨rs, er1, hF, hrl⟩ : ∃ rs : List Int, H1 r = some (.lst (rs.map V.int)) ∧ CB.Fr rs ∧ rs.length = n := by
      have e0 : (CB.cell ns 1 % 12).toNat = n := by omega
      refine ⟨(List.range n).map fun k => 2 + CB.cell ns (3 + k) % 11, ?_, ⟨by simp; omega, fun x hx => ?_⟩, by simp⟩
      · rw [er, e0, List.map_map]
        rfl
      · obtain ⟨i, _, rfl⟩ := List.mem_map.mp hx
        omega
    clear er
    have l1 : (rs.map V.int).length = rs.length := List.length_map _
    -- good
    refine ⟨_, rfl, r, _, rfl, .inl (SqL.of er1), _, _, rfl, rfl, _, rfl, by omega, by omega, fun g ng => ?_⟩
    refine comp_rng (fun k => V.int (CB.cell ns (20 + k) % 9)) (by omega) ng (fun i H2 R hi sm hd hR => ?_) fun H2 s2 eg => ?_
    · exact ⟨_, rfl, _, rfl, _, _, rfl, rfl, a, ns, 20 + i, by simp, (s1.trans sm).seq hS, _, _, rfl, rfl, (by show (0 : Int) < 9; decide), hR H2 (Same.refl H2)⟩
    have eg2 : H2 g = some (.lst ((CB.boardN ns 20 n 9).map V.int)) := by
      have e0 : ((((rs.map V.int).length : Nat) : Int) + 1).toNat = n + 1 := by omega
      rw [eg, e0]
      simp [CB.boardN]
    clear eg
    have hG := CB.boardN_ok ns 20 (rs := rs) (n := n) (m := 9) hrl (by decide)
    have hGl := CB.boardN_le ns 20 n (m := 9) (by decide)
    generalize CB.boardN ns 20 n 9 = gs at *
    have lg := hG.1
    have s12 := s1.trans s2
    have er2 := s2 _ _ er1
    have hS2 := s12.seq hS
    -- kind, frame, told
    refine ⟨_, rfl, a, ns, 2, rfl, hS2, _, _, rfl, rfl, (by show (0 : Int) < 8; decide), ?_⟩
    obtain ⟨kd, hkd, kd8⟩ : ∃ kd : Nat, CB.cell ns 2 % 8 = (kd : Int) ∧ kd < 8 := ⟨(CB.cell ns 2 % 8).toNat, by omega, by omega⟩
    show tSeq _ _ _ [some (V.ref a), some (V.int far), some (V.ref r), some (V.ref g), some (V.int (CB.cell ns 2 % 8)), none, none, none, none, none, none, none] H2
    rw [hkd]
    refine ⟨_, rfl, r, _, rfl, .inl (SqL.of er2), fun t0 nt0 => ?_⟩
    have st0 := Same.new (o := .lst (rs.map V.int)) nt0
    have et0 : (upd H2 t0 (.lst (rs.map V.int))) t0 = some (.lst (rs.map V.int)) := upd_same
    change tSeq Ends.nx _ _ _ (upd H2 t0 (.lst (rs.map V.int)))
    have hS3 := st0.seq hS2
    generalize hH3 : upd H2 t0 (.lst (rs.map V.int)) = H3 at *
    -- if kind < 4 and told != [] .. if kind == 4
    refine seq_mid3 (fun σ H4 => ∃ (fr : Str) (t : Addr) (tl : List Int), σ = [some (V.ref a), some (V.int far), some (V.ref r), some (V.ref g), some (V.int kd), some (V.str fr), some (V.ref t), none, none, none, none, none] ∧ Same H2 H4 ∧ H4 t = some (.lst (tl.map V.int)) ∧ ((fr = "frame" ∧ ¬ CB.Fr tl) ∨ (fr = "done" ∧ tl = rs))) (fun N hN => ?_) ?_
    · rcases Nat.lt_or_ge kd 4 with hk4 | hk4
      · refine ⟨_, rfl, _, _, rfl, rfl, _, rfl, iteDT (by omega) ?_⟩
        refine ⟨_, rfl, Nat.zero_le _, fun e ne => ?_⟩
        have se := Same.new (o := .lst []) ne
        refine ⟨_, _, datV_ints (SqL.of (se _ _ et0)), datV_ints (ns := []) (SqL.of upd_same), shaped_intsL _, shaped_intsL _, _, rfl, ?_⟩
        rw [eqv_ints]
        have et1 := se _ _ et0
        have s3 : Same H2 (upd H3 e (.lst [])) := st0.trans se
        have hS4 := se.seq hS3
        generalize upd H3 e (.lst []) = H4 at *
        by_cases hne : rs = []
        · refine iteBF (by rw [decide_eq_true hne]; rfl) ?_
          exact ⟨_, rfl, rfl, _, rfl, iteDF (fun z => by have := V.int.inj z; omega) (hN _ _ ⟨"done", t0, rs, rfl, s3, et1, .inr ⟨rfl, rfl⟩⟩)⟩
        refine iteBT (by rw [decide_eq_false hne]; rfl) ?_
        have hln : 0 < ((rs.map V.int).length : Int) := by
          have := List.length_pos_iff.mpr hne
          omega
        obtain ⟨j, hj, j1⟩ : ∃ j : Nat, CB.cell ns 33 % ((rs.map V.int).length : Int) = j ∧ j < rs.length := by
          have b0 := Int.emod_nonneg (CB.cell ns 33) (Int.ne_of_gt hln)
          have b1 := Int.emod_lt_of_pos (CB.cell ns 33) hln
          obtain ⟨j, hj⟩ := Int.eq_ofNat_of_zero_le b0
          rw [hj, l1] at b1
          exact ⟨j, hj, by omega⟩
        obtain ⟨x, hx, hat⟩ : ∃ x : Int, ¬ (2 ≤ x ∧ x ≤ 12) ∧ atI [V.int 1, V.int (0 - far), V.int 13, V.int (13 + far)] (kd : Int) = some (V.int x) := by
          obtain rfl | rfl | rfl | rfl : kd = 0 ∨ kd = 1 ∨ kd = 2 ∨ kd = 3 := by omega
          · exact ⟨1, by omega, atI_nat (j := 0) rfl⟩
          · exact ⟨0 - far, by omega, atI_nat (j := 1) rfl⟩
          · exact ⟨13, by omega, atI_nat (j := 2) rfl⟩
          · exact ⟨13 + far, by omega, atI_nat (j := 3) rfl⟩
        refine ⟨_, rfl, _, _, rfl, rfl, _, rfl, _, _, rfl, rfl, (by show 4 ≤ sizeLine; decide), fun w nw => ?_⟩
        have sw := Same.new (o := .lst [V.int 1, V.int (0 - far), V.int 13, V.int (13 + far)]) nw
        refine ⟨_, rfl, w, _, _, _, rfl, rfl, SqL.of upd_same, hat, ?_⟩
        have et2 := sw _ _ et1
        have s4 : Same H2 (upd H4 w (.lst [V.int 1, V.int (0 - far), V.int 13, V.int (13 + far)])) := s3.trans sw
        have hS5 := sw.seq hS4
        generalize upd H4 w (.lst [V.int 1, V.int (0 - far), V.int 13, V.int (13 + far)]) = H5 at *
        refine ⟨_, rfl, _, rfl, a, ns, 33, rfl, hS5, _, rfl, t0, _, rfl, .inl (SqL.of et2), _, _, rfl, rfl, hln, t0, _, _, j, rfl, rfl, et2, (by rw [hj]; exact ixN_nat (by omega)), ?_⟩
        refine ⟨_, rfl, rfl, _, rfl, iteDF (fun z => by have := V.int.inj z; omega) (hN _ _ ⟨"frame", t0, rs.set j x, rfl, s4.upd nt0, by rw [upd_same, set_int], .inl ⟨rfl, fun hF2 => hx ?_⟩⟩)⟩
        exact hF2.2 x (List.mem_of_getElem? (show (rs.set j x)[j]? = some x by rw [List.getElem?_set_self j1]))
      · refine ⟨_, rfl, _, _, rfl, rfl, _, rfl, iteDF (by omega) (iteF ?_)⟩
        by_cases hk5 : kd = 4
        · refine ⟨_, rfl, rfl, _, rfl, iteDT (congrArg V.int (by omega)) ?_⟩
          refine ⟨_, rfl, a, ns, 33, rfl, hS3, _, _, rfl, rfl, (by show (0 : Int) < 3; decide), _, _, rfl, rfl, _, rfl, by omega, by omega, fun t nt => ?_⟩
          refine comp_rng (fun _ => V.int 2) (by omega) nt (fun i H2 R hi sm hd hR => hR H2 (Same.refl H2)) fun H4 s4 et' => ?_
          refine hN _ _ ⟨"frame", t, List.replicate (12 + CB.cell ns 33 % 3).toNat 2, rfl, st0.trans s4, ?_, .inl ⟨rfl, fun hF2 => ?_⟩⟩
          · rw [et', List.map_const', List.length_range, List.map_replicate]
          · have := hF2.1
            rw [List.length_replicate] at this
            omega
        · exact ⟨_, rfl, rfl, _, rfl, iteDF (fun z => by have := V.int.inj z; omega) (hN _ _ ⟨"done", t0, rs, rfl, st0, et0, .inr ⟨rfl, rfl⟩⟩)⟩
    rintro σ H4 ⟨fr, t, tl, rfl, s3, et, hfr⟩
    have hS4 := s3.seq hS2
    have eg4 := s3 _ _ eg2
    -- bad = _law_bad_board(good, .., .., far)
    have hlg : 0 < ((gs.map V.int).length : Int) := by rw [List.length_map]; omega
    obtain ⟨j2, hj2, j21⟩ : ∃ j : Nat, CB.cell ns 35 % ((gs.map V.int).length : Int) = j ∧ j < gs.length := by
      have b0 := Int.emod_nonneg (CB.cell ns 35) (Int.ne_of_gt hlg)
      have b1 := Int.emod_lt_of_pos (CB.cell ns 35) hlg
      obtain ⟨j, hj⟩ := Int.eq_ofNat_of_zero_le b0
      rw [hj, List.length_map] at b1
      exact ⟨j, hj, by omega⟩
    obtain ⟨kb, hkb, kb3⟩ : ∃ kb : Nat, CB.cell ns 34 % 3 = (kb : Int) ∧ kb < 3 := ⟨(CB.cell ns 34 % 3).toNat, by omega, by omega⟩
    refine ⟨_, rfl, _, rfl, a, ns, 34, rfl, hS4, _, _, rfl, rfl, (by show (0 : Int) < 3; decide), _, rfl, a, ns, 35, rfl, hS4, _, rfl, g, _, rfl, .inl (SqL.of eg4), _, _, rfl, rfl, hlg, _, rfl, g, rs, gs, kb, j2, far, ?_, eg4, kb3, j21, far0, hF.1, hG, fun d H5 bd s5 ed hbd => ?_⟩
    · rw [← hkb, ← hj2]
      rfl
    have et5 := s5 _ _ et
    have eg5 := s5 _ _ eg4
    have hS5 := s5.seq hS4
    have hM : ∀ x ∈ gs, x < 10 ^ 30 := fun x hx => by have := hGl x hx; omega
    -- for which in range(17)
    refine ⟨_, rfl, by omega, by omega, for_range (fun i σ H9 => ∃ v1 v2 v3 v4, σ = [some (V.ref a), some (V.int far), some (V.ref r), some (V.ref g), some (V.int kd), some (.str fr), some (.ref t), some (.ref d), v1, v2, v3, v4] ∧ Same H5 H9) ⟨none, none, none, none, rfl, Same.refl _⟩ ?_ ?_⟩
    · rintro i σ H9 hi ⟨v1, v2, v3, v4, rfl, s9⟩
      have et9 := s9 _ _ et5
      have eg9 := s9 _ _ eg5
      have ed9 := s9 _ _ ed
      have hS9 := s9.seq hS5
      have hi17 : i < 17 := by omega
      -- one, other = bad, good .. if which > 11 and ..
      refine ⟨_, rfl, _, rfl, _, _, rfl, ?_⟩
      change tSeq Ends.nx _ _ _ _
      refine seq_mid2 (fun σ H' => H' = H9 ∧ ∃ (o1 o2 : Addr) (us ws : List Int), σ = [some (V.ref a), some (V.int far), some (V.ref r), some (V.ref g), some (V.int kd), some (.str fr), some (.ref t), some (.ref d), some (.int (0 + (i : Int))), some (.ref o1), some (.ref o2), v4] ∧ H9 o1 = some (.lst (us.map V.int)) ∧ H9 o2 = some (.lst (ws.map V.int)) ∧ (i < 3 → us = bd) ∧ (3 ≤ i → tl = rs → T14 (0 + (i : Int)) tl us ws "board")) (fun N hN => ?_) ?_
      · by_cases h11 : 11 < i
        · refine ⟨_, rfl, _, _, rfl, rfl, _, rfl, iteDT (by omega) ⟨_, rfl, a, ns, 36, rfl, hS9, _, _, rfl, rfl, (by show (0 : Int) < 2; decide), rfl, _, rfl, ite2D (fun hsw => ?_) (fun hsw => ?_)⟩⟩
          · refine ⟨_, rfl, _, rfl, _, _, rfl, hN _ _ ⟨rfl, g, d, gs, bd, rfl, eg9, ed9, fun z => by omega, fun _ e => ?_⟩⟩
            subst e
            exact .inr ⟨hF, .inr (.inr (.inr (.inr (.inr (.inr ⟨by omega, .inr ⟨hG, hbd⟩, rfl⟩)))))⟩
          · refine hN _ _ ⟨rfl, d, g, bd, gs, rfl, ed9, eg9, fun z => by omega, fun _ e => ?_⟩
            subst e
            exact .inr ⟨hF, .inr (.inr (.inr (.inr (.inr (.inr ⟨by omega, .inl hbd, rfl⟩)))))⟩
        · refine ⟨_, rfl, _, _, rfl, rfl, _, rfl, iteDF (by omega) (iteF (hN _ _ ⟨rfl, d, g, bd, gs, rfl, ed9, eg9, fun _ => rfl, fun z e => ?_⟩))⟩
          subst e
          exact .inr ⟨hF, .inr (.inr (.inr (.inr (.inl ⟨by omega, by omega, hbd, rfl⟩))))⟩
      rintro σ H' ⟨eH, o1, o2, us, ws, rfl, eo1, eo2, hub, h3⟩
      subst eH
      -- due = frame .. if frame == 'done' and ..
      refine ⟨_, rfl, ?_⟩
      change tSeq Ends.nx _ _ _ _
      refine seq_mid4 (fun σ H'' => H'' = H' ∧ ∃ du : Str, σ = [some (V.ref a), some (V.int far), some (V.ref r), some (V.ref g), some (V.int kd), some (.str fr), some (.ref t), some (.ref d), some (.int (0 + (i : Int))), some (.ref o1), some (.ref o2), some (.str du)] ∧ T14 (0 + (i : Int)) tl us ws du) (fun N hN => ?_) ?_
      · rcases hfr with ⟨rfl, hnF⟩ | ⟨rfl, rfl⟩
        · exact ⟨_, rfl, rfl, _, rfl, iteDF frame_ne (iteF ⟨_, rfl, rfl, _, rfl, iteDF frame_ne (iteF ⟨_, rfl, rfl, _, rfl, iteDF frame_ne (iteF (hN _ _ ⟨rfl, "frame", rfl, .inl ⟨hnF, rfl⟩⟩))⟩)⟩)⟩
        · by_cases i3 : 3 ≤ i
          · refine ⟨_, rfl, rfl, _, rfl, iteDT rfl ⟨_, rfl, _, _, rfl, rfl, _, rfl, iteDT (by omega) ?_⟩⟩
            refine ⟨_, rfl, rfl, _, rfl, iteDT rfl ⟨_, rfl, rfl, _, rfl, iteDF (fun z => by have := V.int.inj z; omega) ?_⟩⟩
            exact ⟨_, rfl, rfl, _, rfl, iteDT rfl ⟨_, rfl, rfl, _, rfl, iteDF (fun z => by have := V.int.inj z; omega) (iteF (hN _ _ ⟨rfl, "board", rfl, h3 i3 rfl⟩))⟩⟩
          · have hus := hub (by omega)
            subst hus
            refine ⟨_, rfl, rfl, _, rfl, iteDT rfl ⟨_, rfl, _, _, rfl, rfl, _, rfl, iteDF (by omega) ?_⟩⟩
            by_cases i2 : i = 2
            · refine ⟨_, rfl, rfl, _, rfl, iteDT rfl ⟨_, rfl, rfl, _, rfl, iteDT (congrArg V.int (by omega)) ?_⟩⟩
              exact ⟨_, rfl, rfl, _, rfl, iteDT rfl ⟨_, rfl, rfl, _, rfl, iteDF (fun z => by have := V.int.inj z; omega) (iteF (hN _ _ ⟨rfl, "note", rfl, .inr ⟨hF, .inr (.inr (.inr (.inl ⟨by omega, rfl⟩)))⟩⟩))⟩⟩
            · refine ⟨_, rfl, rfl, _, rfl, iteDT rfl ⟨_, rfl, rfl, _, rfl, iteDF (fun z => by have := V.int.inj z; omega) ?_⟩⟩
              by_cases i1 : i = 1
              · have l5 : (us.map V.int).length = us.length := List.length_map _
                by_cases hnil : us = []
                · exact ⟨_, rfl, rfl, _, rfl, iteDT rfl ⟨_, rfl, rfl, _, rfl, iteDT (congrArg V.int (by omega)) ⟨_, rfl, d, _, rfl, .inl (SqL.of ed9), rfl, _, rfl, iteDT (congrArg V.int (by rw [hnil]; rfl)) (hN _ _ ⟨rfl, "number", rfl, .inr ⟨hF, .inr (.inr (.inl ⟨by omega, hnil, rfl⟩))⟩⟩)⟩⟩⟩
                · exact ⟨_, rfl, rfl, _, rfl, iteDT rfl ⟨_, rfl, rfl, _, rfl, iteDT (congrArg V.int (by omega)) ⟨_, rfl, d, _, rfl, .inl (SqL.of ed9), rfl, _, rfl, iteDF (fun z => by have := V.int.inj z; have := List.length_pos_iff.mpr hnil; omega) (hN _ _ ⟨rfl, "done", rfl, .inr ⟨hF, .inr (.inl ⟨by omega, hnil, rfl⟩)⟩⟩)⟩⟩⟩
              · exact ⟨_, rfl, rfl, _, rfl, iteDT rfl ⟨_, rfl, rfl, _, rfl, iteDF (fun z => by have := V.int.inj z; omega) (iteF (hN _ _ ⟨rfl, "done", rfl, .inr ⟨hF, .inl ⟨by omega, rfl⟩⟩⟩))⟩⟩
      rintro σ H'' ⟨eH, du, rfl, h14⟩
      subst eH
      refine ⟨_, rfl, _, rfl, t, _, rfl, .inl (SqL.of et9), fun p np => ?_⟩
      refine ⟨_, rfl, o1, _, rfl, .inl (SqL.of ((Same.new np) _ _ eo1)), fun q nq => ?_⟩
      refine ⟨_, rfl, o2, _, rfl, .inl (SqL.of ((Same.new nq) _ _ ((Same.new np) _ _ eo2))), fun g2 ng => ?_⟩
      have sq := Same.new (o := .lst (us.map V.int)) nq
      have sg := Same.new (o := .lst (ws.map V.int)) ng
      refine ⟨_, p, q, g2, tl, us, ws, du, rfl, SqL.of (sg _ _ (sq _ _ upd_same)), SqL.of (sg _ _ upd_same), SqL.of upd_same, by omega, by omega, h14, fun H10 s10 => ?_⟩
      exact ⟨_, rfl, rfl, _, rfl, iteNS rfl ⟨_, _, _, _, rfl, (((s9.trans (Same.new np)).trans sq).trans sg).trans s10⟩⟩
    · rintro σ H9 ⟨v1, v2, v3, v4, rfl, s9⟩
      -- for which in range(3, 9)
      refine ⟨_, _, rfl, ⟨by decide, by decide, by decide, by decide⟩, for_range (fun i σ H9 => ∃ v1 v2 v3 v4, σ = [some (.ref a), some (.int far), some (.ref r), some (.ref g), some (.int kd), some (.str fr), some (.ref t), some (.ref d), v1, v2, v3, v4] ∧ Same H5 H9) ⟨_, _, _, _, rfl, s9⟩ ?_ ?_⟩
      · rintro i σ H10' hi ⟨v1, v2, v3, v4, rfl, s9⟩
        have et9 := s9 _ _ et5
        have eg9 := s9 _ _ eg5
        have hi6 : i < 6 := by omega
        rcases hfr with ⟨rfl, hnF⟩ | ⟨rfl, rfl⟩
        · exact ⟨_, rfl, rfl, _, rfl, iteDF frame_ne (iteF ⟨_, _, _, _, rfl, s9⟩)⟩
        · refine ⟨_, rfl, rfl, _, rfl, iteDT rfl ?_⟩
          refine ⟨_, rfl, _, rfl, t, _, rfl, .inl (SqL.of et9), fun p np => ?_⟩
          refine ⟨_, rfl, g, _, rfl, .inl (SqL.of ((Same.new np) _ _ eg9)), fun q nq => ?_⟩
          refine ⟨_, rfl, g, _, rfl, .inl (SqL.of ((Same.new nq) _ _ ((Same.new np) _ _ eg9))), fun g2 ng => ?_⟩
          have sq := Same.new (o := .lst (gs.map V.int)) nq
          have sg := Same.new (o := .lst (gs.map V.int)) ng
          refine ⟨_, p, q, g2, tl, gs, gs, "done", rfl, SqL.of (sg _ _ (sq _ _ upd_same)), SqL.of (sg _ _ upd_same), SqL.of upd_same, by omega, by omega, .inr ⟨hF, .inr (.inr (.inr (.inr (.inr (.inl ⟨by omega, by omega, hG, hM, rfl⟩)))))⟩, fun H10 s10 => ?_⟩
          exact ⟨rfl, _, rfl, iteNS rfl ⟨_, _, _, _, rfl, (((s9.trans (Same.new np)).trans sq).trans sg).trans s10⟩⟩
      · rintro σ H10' ⟨v1, v2, v3, v4, rfl, s9⟩
        exact k _
end
theorem all_mk {l : PySem.W.OpenLaw} {w : World} {K : PySem.W.Frag} {h : Heap} {mg : Str → Option Value} {fa : Addr} (X : K.In h) (G : h.Ns mainGlobals mg) (hfa : mg "law" = some (.ref fa))
    {f0 : Addr} {od0 an0 : Option Addr} {sl0 : Array (Option Value)} {oc0 kV0 dc0 pm0 cd0 ct0 : Value}
    {f1 : Addr} {od1 an1 : Option Addr} {sl1 : Array (Option Value)} {oc1 kV1 dc1 pm1 cd1 ct1 : Value}
    {f2 : Addr} {od2 an2 : Option Addr} {sl2 : Array (Option Value)} {oc2 kV2 dc2 pm2 cd2 ct2 : Value}
    {f3 : Addr} {od3 an3 : Option Addr} {sl3 : Array (Option Value)} {oc3 kV3 dc3 pm3 cd3 ct3 : Value}
    {f4 : Addr} {od4 an4 : Option Addr} {sl4 : Array (Option Value)} {oc4 kV4 dc4 pm4 cd4 ct4 : Value}
    {f5 : Addr} {od5 an5 : Option Addr} {sl5 : Array (Option Value)} {oc5 kV5 dc5 pm5 cd5 ct5 : Value}
    {f6 : Addr} {od6 an6 : Option Addr} {sl6 : Array (Option Value)} {oc6 kV6 dc6 pm6 cd6 ct6 : Value}
    {f7 : Addr} {od7 an7 : Option Addr} {sl7 : Array (Option Value)} {oc7 kV7 dc7 pm7 cd7 ct7 : Value}
    {f8 : Addr} {od8 an8 : Option Addr} {sl8 : Array (Option Value)} {oc8 kV8 dc8 pm8 cd8 ct8 : Value}
    {f9 : Addr} {od9 an9 : Option Addr} {sl9 : Array (Option Value)} {oc9 kV9 dc9 pm9 cd9 ct9 : Value}
    {f10 : Addr} {od10 an10 : Option Addr} {sl10 : Array (Option Value)} {oc10 kV10 dc10 pm10 cd10 ct10 : Value}
    {f11 : Addr} {od11 an11 : Option Addr} {sl11 : Array (Option Value)} {oc11 kV11 dc11 pm11 cd11 ct11 : Value}
    {f12 : Addr} {od12 an12 : Option Addr} {sl12 : Array (Option Value)} {oc12 kV12 dc12 pm12 cd12 ct12 : Value}
    {f13 : Addr} {od13 an13 : Option Addr} {sl13 : Array (Option Value)} {oc13 kV13 dc13 pm13 cd13 ct13 : Value}
    {f14 : Addr} {od14 an14 : Option Addr} {sl14 : Array (Option Value)} {oc14 kV14 dc14 pm14 cd14 ct14 : Value}
    {f15 : Addr} {od15 an15 : Option Addr} {sl15 : Array (Option Value)} {oc15 kV15 dc15 pm15 cd15 ct15 : Value}
    {f16 : Addr} {od16 an16 : Option Addr} {sl16 : Array (Option Value)} {oc16 kV16 dc16 pm16 cd16 ct16 : Value}
    {f17 : Addr} {od17 an17 : Option Addr} {sl17 : Array (Option Value)} {oc17 kV17 dc17 pm17 cd17 ct17 : Value}
    {f18 : Addr} {od18 an18 : Option Addr} {sl18 : Array (Option Value)} {oc18 kV18 dc18 pm18 cd18 ct18 : Value}
    {f19 : Addr} {od19 an19 : Option Addr} {sl19 : Array (Option Value)} {oc19 kV19 dc19 pm19 cd19 ct19 : Value}
    {f20 : Addr} {od20 an20 : Option Addr} {sl20 : Array (Option Value)} {oc20 kV20 dc20 pm20 cd20 ct20 : Value}
    {f21 : Addr} {od21 an21 : Option Addr} {sl21 : Array (Option Value)} {oc21 kV21 dc21 pm21 cd21 ct21 : Value}
    {f22 : Addr} {od22 an22 : Option Addr} {sl22 : Array (Option Value)} {oc22 kV22 dc22 pm22 cd22 ct22 : Value}
    {f23 : Addr} {od23 an23 : Option Addr} {sl23 : Array (Option Value)} {oc23 kV23 dc23 pm23 cd23 ct23 : Value}
    {f24 : Addr} {od24 an24 : Option Addr} {sl24 : Array (Option Value)} {oc24 kV24 dc24 pm24 cd24 ct24 : Value}
    {f25 : Addr} {od25 an25 : Option Addr} {sl25 : Array (Option Value)} {oc25 kV25 dc25 pm25 cd25 ct25 : Value}
    {f26 : Addr} {od26 an26 : Option Addr} {sl26 : Array (Option Value)} {oc26 kV26 dc26 pm26 cd26 ct26 : Value}
    {f27 : Addr} {od27 an27 : Option Addr} {sl27 : Array (Option Value)} {oc27 kV27 dc27 pm27 cd27 ct27 : Value}
    {f28 : Addr} {od28 an28 : Option Addr} {sl28 : Array (Option Value)} {oc28 kV28 dc28 pm28 cd28 ct28 : Value}
    {f29 : Addr} {od29 an29 : Option Addr} {sl29 : Array (Option Value)} {oc29 kV29 dc29 pm29 cd29 ct29 : Value}
    (a0 : PySem.W.nsIn K mainGlobals "check_frame" = some (some (.ref f0))) (l0 : K.lookup f0 = some ⟨oc0, od0, .func (PySem.W.fnOf "check_frame" "check_frame" (defArgs s_check_frame) (defBody s_check_frame) (defScope s_check_frame) .none kV0 dc0 pm0 an0 cd0 ct0), sl0⟩) (c0 : PySem.W.codeIn K cd0 "check_frame" = true) (k0 : PySem.W.keepIn K (.ref f0) = true)
    (a1 : PySem.W.nsIn K mainGlobals "check_board" = some (some (.ref f1))) (l1 : K.lookup f1 = some ⟨oc1, od1, .func (PySem.W.fnOf "check_board" "check_board" (defArgs s_check_board) (defBody s_check_board) (defScope s_check_board) .none kV1 dc1 pm1 an1 cd1 ct1), sl1⟩) (c1 : PySem.W.codeIn K cd1 "check_board" = true) (k1 : PySem.W.keepIn K (.ref f1) = true)
    (a2 : PySem.W.nsIn K mainGlobals "worths" = some (some (.ref f2))) (l2 : K.lookup f2 = some ⟨oc2, od2, .func (PySem.W.fnOf "worths" "worths" (defArgs s_worths) (defBody s_worths) (defScope s_worths) .none kV2 dc2 pm2 an2 cd2 ct2), sl2⟩) (c2 : PySem.W.codeIn K cd2 "worths" = true) (k2 : PySem.W.keepIn K (.ref f2) = true)
    (a3 : PySem.W.nsIn K mainGlobals "worth" = some (some (.ref f3))) (l3 : K.lookup f3 = some ⟨oc3, od3, .func (PySem.W.fnOf "worth" "worth" (defArgs s_worth) (defBody s_worth) (defScope s_worth) .none kV3 dc3 pm3 an3 cd3 ct3), sl3⟩) (c3 : PySem.W.codeIn K cd3 "worth" = true) (k3 : PySem.W.keepIn K (.ref f3) = true)
    (a4 : PySem.W.nsIn K mainGlobals "is_plain" = some (some (.ref f4))) (l4 : K.lookup f4 = some ⟨oc4, od4, .func (PySem.W.fnOf "is_plain" "is_plain" (defArgs s_is_plain) (defBody s_is_plain) (defScope s_is_plain) .none kV4 dc4 pm4 an4 cd4 ct4), sl4⟩) (c4 : PySem.W.codeIn K cd4 "is_plain" = true) (k4 : PySem.W.keepIn K (.ref f4) = true)
    (a5 : PySem.W.nsIn K mainGlobals "board_of" = some (some (.ref f5))) (l5 : K.lookup f5 = some ⟨oc5, od5, .func (PySem.W.fnOf "board_of" "board_of" (defArgs s_board_of) (defBody s_board_of) (defScope s_board_of) .none kV5 dc5 pm5 an5 cd5 ct5), sl5⟩) (c5 : PySem.W.codeIn K cd5 "board_of" = true) (k5 : PySem.W.keepIn K (.ref f5) = true)
    (a6 : PySem.W.nsIn K mainGlobals "plain" = some (some (.ref f6))) (l6 : K.lookup f6 = some ⟨oc6, od6, .func (PySem.W.fnOf "plain" "plain" (defArgs s_plain) (defBody s_plain) (defScope s_plain) .none kV6 dc6 pm6 an6 cd6 ct6), sl6⟩) (c6 : PySem.W.codeIn K cd6 "plain" = true) (k6 : PySem.W.keepIn K (.ref f6) = true)
    (a7 : PySem.W.nsIn K mainGlobals "shown" = some (some (.ref f7))) (l7 : K.lookup f7 = some ⟨oc7, od7, .func (PySem.W.fnOf "shown" "shown" (defArgs s_shown) (defBody s_shown) (defScope s_shown) .none kV7 dc7 pm7 an7 cd7 ct7), sl7⟩) (c7 : PySem.W.codeIn K cd7 "shown" = true) (k7 : PySem.W.keepIn K (.ref f7) = true)
    (a8 : PySem.W.nsIn K mainGlobals "check_part" = some (some (.ref f8))) (l8 : K.lookup f8 = some ⟨oc8, od8, .func (PySem.W.fnOf "check_part" "check_part" (defArgs s_check_part) (defBody s_check_part) (defScope s_check_part) .none kV8 dc8 pm8 an8 cd8 ct8), sl8⟩) (c8 : PySem.W.codeIn K cd8 "check_part" = true) (k8 : PySem.W.keepIn K (.ref f8) = true)
    (a9 : PySem.W.nsIn K mainGlobals "read" = some (some (.ref f9))) (l9 : K.lookup f9 = some ⟨oc9, od9, .func (PySem.W.fnOf "read" "read" (defArgs s_read) (defBody s_read) (defScope s_read) .none kV9 dc9 pm9 an9 cd9 ct9), sl9⟩) (c9 : PySem.W.codeIn K cd9 "read" = true) (k9 : PySem.W.keepIn K (.ref f9) = true)
    (a10 : PySem.W.nsIn K mainGlobals "added" = some (some (.ref f10))) (l10 : K.lookup f10 = some ⟨oc10, od10, .func (PySem.W.fnOf "added" "added" (defArgs s_added) (defBody s_added) (defScope s_added) .none kV10 dc10 pm10 an10 cd10 ct10), sl10⟩) (c10 : PySem.W.codeIn K cd10 "added" = true) (k10 : PySem.W.keepIn K (.ref f10) = true)
    (a11 : PySem.W.nsIn K mainGlobals "less" = some (some (.ref f11))) (l11 : K.lookup f11 = some ⟨oc11, od11, .func (PySem.W.fnOf "less" "less" (defArgs s_less) (defBody s_less) (defScope s_less) .none kV11 dc11 pm11 an11 cd11 ct11), sl11⟩) (c11 : PySem.W.codeIn K cd11 "less" = true) (k11 : PySem.W.keepIn K (.ref f11) = true)
    (a12 : PySem.W.nsIn K mainGlobals "times" = some (some (.ref f12))) (l12 : K.lookup f12 = some ⟨oc12, od12, .func (PySem.W.fnOf "times" "times" (defArgs s_times) (defBody s_times) (defScope s_times) .none kV12 dc12 pm12 an12 cd12 ct12), sl12⟩) (c12 : PySem.W.codeIn K cd12 "times" = true) (k12 : PySem.W.keepIn K (.ref f12) = true)
    (a13 : PySem.W.nsIn K mainGlobals "parted" = some (some (.ref f13))) (l13 : K.lookup f13 = some ⟨oc13, od13, .func (PySem.W.fnOf "parted" "parted" (defArgs s_parted) (defBody s_parted) (defScope s_parted) .none kV13 dc13 pm13 an13 cd13 ct13), sl13⟩) (c13 : PySem.W.codeIn K cd13 "parted" = true) (k13 : PySem.W.keepIn K (.ref f13) = true)
    (a14 : PySem.W.nsIn K mainGlobals "can_raise" = some (some (.ref f14))) (l14 : K.lookup f14 = some ⟨oc14, od14, .func (PySem.W.fnOf "can_raise" "can_raise" (defArgs s_can_raise) (defBody s_can_raise) (defScope s_can_raise) .none kV14 dc14 pm14 an14 cd14 ct14), sl14⟩) (c14 : PySem.W.codeIn K cd14 "can_raise" = true) (k14 : PySem.W.keepIn K (.ref f14) = true)
    (a15 : PySem.W.nsIn K mainGlobals "can_lower" = some (some (.ref f15))) (l15 : K.lookup f15 = some ⟨oc15, od15, .func (PySem.W.fnOf "can_lower" "can_lower" (defArgs s_can_lower) (defBody s_can_lower) (defScope s_can_lower) .none kV15 dc15 pm15 an15 cd15 ct15), sl15⟩) (c15 : PySem.W.codeIn K cd15 "can_lower" = true) (k15 : PySem.W.keepIn K (.ref f15) = true)
    (a16 : PySem.W.nsIn K mainGlobals "can" = some (some (.ref f16))) (l16 : K.lookup f16 = some ⟨oc16, od16, .func (PySem.W.fnOf "can" "can" (defArgs s_can) (defBody s_can) (defScope s_can) .none kV16 dc16 pm16 an16 cd16 ct16), sl16⟩) (c16 : PySem.W.codeIn K cd16 "can" = true) (k16 : PySem.W.keepIn K (.ref f16) = true)
    (a17 : PySem.W.nsIn K mainGlobals "check_step" = some (some (.ref f17))) (l17 : K.lookup f17 = some ⟨oc17, od17, .func (PySem.W.fnOf "check_step" "check_step" (defArgs s_check_step) (defBody s_check_step) (defScope s_check_step) .none kV17 dc17 pm17 an17 cd17 ct17), sl17⟩) (c17 : PySem.W.codeIn K cd17 "check_step" = true) (k17 : PySem.W.keepIn K (.ref f17) = true)
    (a18 : PySem.W.nsIn K mainGlobals "stepped" = some (some (.ref f18))) (l18 : K.lookup f18 = some ⟨oc18, od18, .func (PySem.W.fnOf "stepped" "stepped" (defArgs s_stepped) (defBody s_stepped) (defScope s_stepped) .none kV18 dc18 pm18 an18 cd18 ct18), sl18⟩) (c18 : PySem.W.codeIn K cd18 "stepped" = true) (k18 : PySem.W.keepIn K (.ref f18) = true)
    (a19 : PySem.W.nsIn K mainGlobals "raisings" = some (some (.ref f19))) (l19 : K.lookup f19 = some ⟨oc19, od19, .func (PySem.W.fnOf "raisings" "raisings" (defArgs s_raisings) (defBody s_raisings) (defScope s_raisings) .none kV19 dc19 pm19 an19 cd19 ct19), sl19⟩) (c19 : PySem.W.codeIn K cd19 "raisings" = true) (k19 : PySem.W.keepIn K (.ref f19) = true)
    (a20 : PySem.W.nsIn K mainGlobals "net" = some (some (.ref f20))) (l20 : K.lookup f20 = some ⟨oc20, od20, .func (PySem.W.fnOf "net" "net" (defArgs s_net) (defBody s_net) (defScope s_net) .none kV20 dc20 pm20 an20 cd20 ct20), sl20⟩) (c20 : PySem.W.codeIn K cd20 "net" = true) (k20 : PySem.W.keepIn K (.ref f20) = true)
    (a21 : PySem.W.nsIn K mainGlobals "fewest" = some (some (.ref f21))) (l21 : K.lookup f21 = some ⟨oc21, od21, .func (PySem.W.fnOf "fewest" "fewest" (defArgs s_fewest) (defBody s_fewest) (defScope s_fewest) .none kV21 dc21 pm21 an21 cd21 ct21), sl21⟩) (c21 : PySem.W.codeIn K cd21 "fewest" = true) (k21 : PySem.W.keepIn K (.ref f21) = true)
    (a22 : PySem.W.nsIn K mainGlobals "way" = some (some (.ref f22))) (l22 : K.lookup f22 = some ⟨oc22, od22, .func (PySem.W.fnOf "way" "way" (defArgs s_way) (defBody s_way) (defScope s_way) .none kV22 dc22 pm22 an22 cd22 ct22), sl22⟩) (c22 : PySem.W.codeIn K cd22 "way" = true) (k22 : PySem.W.keepIn K (.ref f22) = true)
    (a23 : PySem.W.nsIn K mainGlobals "_law_cell_at" = some (some (.ref f23))) (l23 : K.lookup f23 = some ⟨oc23, od23, .func (PySem.W.fnOf "_law_cell_at" "_law_cell_at" (defArgs s__law_cell_at) (defBody s__law_cell_at) (defScope s__law_cell_at) .none kV23 dc23 pm23 an23 cd23 ct23), sl23⟩) (c23 : PySem.W.codeIn K cd23 "_law_cell_at" = true) (k23 : PySem.W.keepIn K (.ref f23) = true)
    (a24 : PySem.W.nsIn K mainGlobals "_law_word_of" = some (some (.ref f24))) (l24 : K.lookup f24 = some ⟨oc24, od24, .func (PySem.W.fnOf "_law_word_of" "_law_word_of" (defArgs s__law_word_of) (defBody s__law_word_of) (defScope s__law_word_of) .none kV24 dc24 pm24 an24 cd24 ct24), sl24⟩) (c24 : PySem.W.codeIn K cd24 "_law_word_of" = true) (k24 : PySem.W.keepIn K (.ref f24) = true)
    (a25 : PySem.W.nsIn K mainGlobals "_law_first" = some (some (.ref f25))) (l25 : K.lookup f25 = some ⟨oc25, od25, .func (PySem.W.fnOf "_law_first" "_law_first" (defArgs s__law_first) (defBody s__law_first) (defScope s__law_first) .none kV25 dc25 pm25 an25 cd25 ct25), sl25⟩) (c25 : PySem.W.codeIn K cd25 "_law_first" = true) (k25 : PySem.W.keepIn K (.ref f25) = true)
    (a26 : PySem.W.nsIn K mainGlobals "_law_second" = some (some (.ref f26))) (l26 : K.lookup f26 = some ⟨oc26, od26, .func (PySem.W.fnOf "_law_second" "_law_second" (defArgs s__law_second) (defBody s__law_second) (defScope s__law_second) .none kV26 dc26 pm26 an26 cd26 ct26), sl26⟩) (c26 : PySem.W.codeIn K cd26 "_law_second" = true) (k26 : PySem.W.keepIn K (.ref f26) = true)
    (a27 : PySem.W.nsIn K mainGlobals "_law_tried" = some (some (.ref f27))) (l27 : K.lookup f27 = some ⟨oc27, od27, .func (PySem.W.fnOf "_law_tried" "_law_tried" (defArgs s__law_tried) (defBody s__law_tried) (defScope s__law_tried) .none kV27 dc27 pm27 an27 cd27 ct27), sl27⟩) (c27 : PySem.W.codeIn K cd27 "_law_tried" = true) (k27 : PySem.W.keepIn K (.ref f27) = true)
    (a28 : PySem.W.nsIn K mainGlobals "_law_bad_board" = some (some (.ref f28))) (l28 : K.lookup f28 = some ⟨oc28, od28, .func (PySem.W.fnOf "_law_bad_board" "_law_bad_board" (defArgs s__law_bad_board) (defBody s__law_bad_board) (defScope s__law_bad_board) .none kV28 dc28 pm28 an28 cd28 ct28), sl28⟩) (c28 : PySem.W.codeIn K cd28 "_law_bad_board" = true) (k28 : PySem.W.keepIn K (.ref f28) = true)
    (a29 : PySem.W.nsIn K mainGlobals "law" = some (some (.ref f29))) (l29 : K.lookup f29 = some ⟨oc29, od29, .func (PySem.W.fnOf "law" "law" (defArgs s_law) (defBody s_law) (defScope s_law) .none kV29 dc29 pm29 an29 cd29 ct29), sl29⟩) (c29 : PySem.W.codeIn K cd29 "law" = true) (k29 : PySem.W.keepIn K (.ref f29) = true)
    {c_BoardError : Addr} (k_BoardError : PySem.W.nsIn K mainGlobals "BoardError" = some (some (.ref c_BoardError)))
    {c_NoFrame : Addr} (k_NoFrame : PySem.W.nsIn K mainGlobals "NoFrame" = some (some (.ref c_NoFrame)))
    {c_NoBoard : Addr} (k_NoBoard : PySem.W.nsIn K mainGlobals "NoBoard" = some (some (.ref c_NoBoard)))
    {c_NoNumber : Addr} (k_NoNumber : PySem.W.nsIn K mainGlobals "NoNumber" = some (some (.ref c_NoNumber)))
    {c_NoStep : Addr} (k_NoStep : PySem.W.nsIn K mainGlobals "NoStep" = some (some (.ref c_NoStep)))
    {c_NoWay : Addr} (k_NoWay : PySem.W.nsIn K mainGlobals "NoWay" = some (some (.ref c_NoWay)))
    {c_TooLong : Addr} (k_TooLong : PySem.W.nsIn K mainGlobals "TooLong" = some (some (.ref c_TooLong)))
    {c_NoLess : Addr} (k_NoLess : PySem.W.nsIn K mainGlobals "NoLess" = some (some (.ref c_NoLess)))
    {c_NoNote : Addr} (k_NoNote : PySem.W.nsIn K mainGlobals "NoNote" = some (some (.ref c_NoNote)))
    (xb_ty : PySem.W.typeIn K (.ref c_BoardError) = some (.type "type")) (xb_cls : PySem.W.isClsIn K c_BoardError = true) (xb_base : PySem.W.mroIn K c_BoardError (.type "BaseException") = some true)
    (t_NoFrame : PySem.W.typeIn K (.ref c_NoFrame) = some (.type "type")) (q_NoFrame : PySem.W.isClsIn K c_NoFrame = true)
    (t_NoBoard : PySem.W.typeIn K (.ref c_NoBoard) = some (.type "type")) (q_NoBoard : PySem.W.isClsIn K c_NoBoard = true)
    (t_NoNumber : PySem.W.typeIn K (.ref c_NoNumber) = some (.type "type")) (q_NoNumber : PySem.W.isClsIn K c_NoNumber = true)
    (t_NoStep : PySem.W.typeIn K (.ref c_NoStep) = some (.type "type")) (q_NoStep : PySem.W.isClsIn K c_NoStep = true)
    (t_NoWay : PySem.W.typeIn K (.ref c_NoWay) = some (.type "type")) (q_NoWay : PySem.W.isClsIn K c_NoWay = true)
    (t_TooLong : PySem.W.typeIn K (.ref c_TooLong) = some (.type "type")) (q_TooLong : PySem.W.isClsIn K c_TooLong = true)
    (t_NoLess : PySem.W.typeIn K (.ref c_NoLess) = some (.type "type")) (q_NoLess : PySem.W.isClsIn K c_NoLess = true)
    (t_NoNote : PySem.W.typeIn K (.ref c_NoNote) = some (.type "type")) (q_NoNote : PySem.W.isClsIn K c_NoNote = true)
    (e_NoFrame : PySem.W.excIn K c_NoFrame bmV "ValueError.__new__" = true)
    (x_NoFrame_cls : PySem.W.isClsIn K c_NoFrame = true)
    (x_NoFrame_ga : PySem.W.findIn K (.ref c_NoFrame) "__getattribute__" = some (some (.builtin "BaseException.__getattribute__")))
    (x_NoFrame_gt : PySem.W.findIn K (.ref c_NoFrame) "__getattr__" = some none)
    (x_NoFrame_ca : PySem.W.findIn K (.ref c_NoFrame) "__class__" = some (some (.builtin "object.__class__")))
    (x_NoFrame_get : PySem.W.specialIn K (.builtin "object.__class__") "__get__" = some (some (.builtin "getset_descriptor.__get__")))
    (x_NoFrame_tk : PySem.W.takesIn K (.builtin "object.__class__") = some true)
    (x_NoFrame_obj : PySem.W.mroIn K c_NoFrame (.type "object") = some true)
    (x_NoFrame_base : PySem.W.mroIn K c_NoFrame (.type "BaseException") = some true)
    (u_NoFrame : PySem.W.mroIn K c_NoFrame (.ref c_BoardError) = some true) (v_NoFrame : PySem.W.subIn K (.ref c_NoFrame) (.type "ValueError") = some true)
    (n_NoFrame_NoFrame : PySem.W.subIn K (.ref c_NoFrame) (.ref c_NoFrame) = some true)
    (n_NoFrame_NoBoard : PySem.W.subIn K (.ref c_NoFrame) (.ref c_NoBoard) = some false)
    (n_NoFrame_NoNumber : PySem.W.subIn K (.ref c_NoFrame) (.ref c_NoNumber) = some false)
    (n_NoFrame_NoStep : PySem.W.subIn K (.ref c_NoFrame) (.ref c_NoStep) = some false)
    (n_NoFrame_NoWay : PySem.W.subIn K (.ref c_NoFrame) (.ref c_NoWay) = some false)
    (n_NoFrame_TooLong : PySem.W.subIn K (.ref c_NoFrame) (.ref c_TooLong) = some false)
    (n_NoFrame_NoLess : PySem.W.subIn K (.ref c_NoFrame) (.ref c_NoLess) = some false)
    (n_NoFrame_NoNote : PySem.W.subIn K (.ref c_NoFrame) (.ref c_NoNote) = some false)
    (e_NoBoard : PySem.W.excIn K c_NoBoard bmV "ValueError.__new__" = true)
    (x_NoBoard_cls : PySem.W.isClsIn K c_NoBoard = true)
    (x_NoBoard_ga : PySem.W.findIn K (.ref c_NoBoard) "__getattribute__" = some (some (.builtin "BaseException.__getattribute__")))
    (x_NoBoard_gt : PySem.W.findIn K (.ref c_NoBoard) "__getattr__" = some none)
    (x_NoBoard_ca : PySem.W.findIn K (.ref c_NoBoard) "__class__" = some (some (.builtin "object.__class__")))
    (x_NoBoard_get : PySem.W.specialIn K (.builtin "object.__class__") "__get__" = some (some (.builtin "getset_descriptor.__get__")))
    (x_NoBoard_tk : PySem.W.takesIn K (.builtin "object.__class__") = some true)
    (x_NoBoard_obj : PySem.W.mroIn K c_NoBoard (.type "object") = some true)
    (x_NoBoard_base : PySem.W.mroIn K c_NoBoard (.type "BaseException") = some true)
    (u_NoBoard : PySem.W.mroIn K c_NoBoard (.ref c_BoardError) = some true) (v_NoBoard : PySem.W.subIn K (.ref c_NoBoard) (.type "ValueError") = some true)
    (n_NoBoard_NoFrame : PySem.W.subIn K (.ref c_NoBoard) (.ref c_NoFrame) = some false)
    (n_NoBoard_NoBoard : PySem.W.subIn K (.ref c_NoBoard) (.ref c_NoBoard) = some true)
    (n_NoBoard_NoNumber : PySem.W.subIn K (.ref c_NoBoard) (.ref c_NoNumber) = some false)
    (n_NoBoard_NoStep : PySem.W.subIn K (.ref c_NoBoard) (.ref c_NoStep) = some false)
    (n_NoBoard_NoWay : PySem.W.subIn K (.ref c_NoBoard) (.ref c_NoWay) = some false)
    (n_NoBoard_TooLong : PySem.W.subIn K (.ref c_NoBoard) (.ref c_TooLong) = some false)
    (n_NoBoard_NoLess : PySem.W.subIn K (.ref c_NoBoard) (.ref c_NoLess) = some false)
    (n_NoBoard_NoNote : PySem.W.subIn K (.ref c_NoBoard) (.ref c_NoNote) = some false)
    (e_NoNumber : PySem.W.excIn K c_NoNumber bmV "ValueError.__new__" = true)
    (x_NoNumber_cls : PySem.W.isClsIn K c_NoNumber = true)
    (x_NoNumber_ga : PySem.W.findIn K (.ref c_NoNumber) "__getattribute__" = some (some (.builtin "BaseException.__getattribute__")))
    (x_NoNumber_gt : PySem.W.findIn K (.ref c_NoNumber) "__getattr__" = some none)
    (x_NoNumber_ca : PySem.W.findIn K (.ref c_NoNumber) "__class__" = some (some (.builtin "object.__class__")))
    (x_NoNumber_get : PySem.W.specialIn K (.builtin "object.__class__") "__get__" = some (some (.builtin "getset_descriptor.__get__")))
    (x_NoNumber_tk : PySem.W.takesIn K (.builtin "object.__class__") = some true)
    (x_NoNumber_obj : PySem.W.mroIn K c_NoNumber (.type "object") = some true)
    (x_NoNumber_base : PySem.W.mroIn K c_NoNumber (.type "BaseException") = some true)
    (u_NoNumber : PySem.W.mroIn K c_NoNumber (.ref c_BoardError) = some true) (v_NoNumber : PySem.W.subIn K (.ref c_NoNumber) (.type "ValueError") = some true)
    (n_NoNumber_NoFrame : PySem.W.subIn K (.ref c_NoNumber) (.ref c_NoFrame) = some false)
    (n_NoNumber_NoBoard : PySem.W.subIn K (.ref c_NoNumber) (.ref c_NoBoard) = some false)
    (n_NoNumber_NoNumber : PySem.W.subIn K (.ref c_NoNumber) (.ref c_NoNumber) = some true)
    (n_NoNumber_NoStep : PySem.W.subIn K (.ref c_NoNumber) (.ref c_NoStep) = some false)
    (n_NoNumber_NoWay : PySem.W.subIn K (.ref c_NoNumber) (.ref c_NoWay) = some false)
    (n_NoNumber_TooLong : PySem.W.subIn K (.ref c_NoNumber) (.ref c_TooLong) = some false)
    (n_NoNumber_NoLess : PySem.W.subIn K (.ref c_NoNumber) (.ref c_NoLess) = some false)
    (n_NoNumber_NoNote : PySem.W.subIn K (.ref c_NoNumber) (.ref c_NoNote) = some false)
    (e_NoNote : PySem.W.excIn K c_NoNote bmV "ValueError.__new__" = true)
    (x_NoNote_cls : PySem.W.isClsIn K c_NoNote = true)
    (x_NoNote_ga : PySem.W.findIn K (.ref c_NoNote) "__getattribute__" = some (some (.builtin "BaseException.__getattribute__")))
    (x_NoNote_gt : PySem.W.findIn K (.ref c_NoNote) "__getattr__" = some none)
    (x_NoNote_ca : PySem.W.findIn K (.ref c_NoNote) "__class__" = some (some (.builtin "object.__class__")))
    (x_NoNote_get : PySem.W.specialIn K (.builtin "object.__class__") "__get__" = some (some (.builtin "getset_descriptor.__get__")))
    (x_NoNote_tk : PySem.W.takesIn K (.builtin "object.__class__") = some true)
    (x_NoNote_obj : PySem.W.mroIn K c_NoNote (.type "object") = some true)
    (x_NoNote_base : PySem.W.mroIn K c_NoNote (.type "BaseException") = some true)
    (u_NoNote : PySem.W.mroIn K c_NoNote (.ref c_BoardError) = some true) (v_NoNote : PySem.W.subIn K (.ref c_NoNote) (.type "ValueError") = some true)
    (n_NoNote_NoFrame : PySem.W.subIn K (.ref c_NoNote) (.ref c_NoFrame) = some false)
    (n_NoNote_NoBoard : PySem.W.subIn K (.ref c_NoNote) (.ref c_NoBoard) = some false)
    (n_NoNote_NoNumber : PySem.W.subIn K (.ref c_NoNote) (.ref c_NoNumber) = some false)
    (n_NoNote_NoStep : PySem.W.subIn K (.ref c_NoNote) (.ref c_NoStep) = some false)
    (n_NoNote_NoWay : PySem.W.subIn K (.ref c_NoNote) (.ref c_NoWay) = some false)
    (n_NoNote_TooLong : PySem.W.subIn K (.ref c_NoNote) (.ref c_TooLong) = some false)
    (n_NoNote_NoLess : PySem.W.subIn K (.ref c_NoNote) (.ref c_NoLess) = some false)
    (n_NoNote_NoNote : PySem.W.subIn K (.ref c_NoNote) (.ref c_NoNote) = some true)
    {t_MOST_RATIOS : Tok} (g_MOST_RATIOS : PySem.W.nsIn K mainGlobals "MOST_RATIOS" = some (some (.int 11 t_MOST_RATIOS)))
    {t_LEAST_RATIO : Tok} (g_LEAST_RATIO : PySem.W.nsIn K mainGlobals "LEAST_RATIO" = some (some (.int 2 t_LEAST_RATIO)))
    {t_GREATEST_RATIO : Tok} (g_GREATEST_RATIO : PySem.W.nsIn K mainGlobals "GREATEST_RATIO" = some (some (.int 12 t_GREATEST_RATIO)))
    {t_FIGURES : Tok} (g_FIGURES : PySem.W.nsIn K mainGlobals "FIGURES" = some (some (.str "0123456789" t_FIGURES)))
    {t_MOST_FIGURES : Tok} (g_MOST_FIGURES : PySem.W.nsIn K mainGlobals "MOST_FIGURES" = some (some (.int 30 t_MOST_FIGURES)))
    {t_MOST_STEPS : Tok} (g_MOST_STEPS : PySem.W.nsIn K mainGlobals "MOST_STEPS" = some (some (.int 2000 t_MOST_STEPS)))
    (b_len : PySem.W.nsIn K mainGlobals "len" = some none)
    (b_range : PySem.W.nsIn K mainGlobals "range" = some none)
    (b_zip : PySem.W.nsIn K mainGlobals "zip" = some none)
    (b_reversed : PySem.W.nsIn K mainGlobals "reversed" = some none)
    (b_list : PySem.W.nsIn K mainGlobals "list" = some none)
    (b_int : PySem.W.nsIn K mainGlobals "int" = some none)
    (b_str : PySem.W.nsIn K mainGlobals "str" = some none)
    (b_isinstance : PySem.W.nsIn K mainGlobals "isinstance" = some none)
    (b_sum : PySem.W.nsIn K mainGlobals "sum" = some none)
    (b_all : PySem.W.nsIn K mainGlobals "all" = some none)
    (b_abs : PySem.W.nsIn K mainGlobals "abs" = some none)
    (b_enumerate : PySem.W.nsIn K mainGlobals "enumerate" = some none)
    (b_ValueError : PySem.W.nsIn K mainGlobals "ValueError" = some none) :
    ∃ fd : FuncData, (∀ (s : Shared) (v : Value), BindsTo s fd ⟨[v], []⟩ [("script", v)]) ∧ ∀ base : Heap, K.In base → base.Ns mainGlobals mg → FnOk l.prog w K mg base CX0 9 fa fd ["script"] (sp_law K) := by
  have e := hfa.symm.trans (PySem.W.mg_of X G a29)
  cases e
  have T : Txt K mg ⟨f0, PySem.W.fnOf "check_frame" "check_frame" (defArgs s_check_frame) (defBody s_check_frame) (defScope s_check_frame) .none kV0 dc0 pm0 an0 cd0 ct0, f1, PySem.W.fnOf "check_board" "check_board" (defArgs s_check_board) (defBody s_check_board) (defScope s_check_board) .none kV1 dc1 pm1 an1 cd1 ct1, f2, PySem.W.fnOf "worths" "worths" (defArgs s_worths) (defBody s_worths) (defScope s_worths) .none kV2 dc2 pm2 an2 cd2 ct2, f3, PySem.W.fnOf "worth" "worth" (defArgs s_worth) (defBody s_worth) (defScope s_worth) .none kV3 dc3 pm3 an3 cd3 ct3, f4, PySem.W.fnOf "is_plain" "is_plain" (defArgs s_is_plain) (defBody s_is_plain) (defScope s_is_plain) .none kV4 dc4 pm4 an4 cd4 ct4, f5, PySem.W.fnOf "board_of" "board_of" (defArgs s_board_of) (defBody s_board_of) (defScope s_board_of) .none kV5 dc5 pm5 an5 cd5 ct5, f6, PySem.W.fnOf "plain" "plain" (defArgs s_plain) (defBody s_plain) (defScope s_plain) .none kV6 dc6 pm6 an6 cd6 ct6, f7, PySem.W.fnOf "shown" "shown" (defArgs s_shown) (defBody s_shown) (defScope s_shown) .none kV7 dc7 pm7 an7 cd7 ct7, f8, PySem.W.fnOf "check_part" "check_part" (defArgs s_check_part) (defBody s_check_part) (defScope s_check_part) .none kV8 dc8 pm8 an8 cd8 ct8, f9, PySem.W.fnOf "read" "read" (defArgs s_read) (defBody s_read) (defScope s_read) .none kV9 dc9 pm9 an9 cd9 ct9, f10, PySem.W.fnOf "added" "added" (defArgs s_added) (defBody s_added) (defScope s_added) .none kV10 dc10 pm10 an10 cd10 ct10, f11, PySem.W.fnOf "less" "less" (defArgs s_less) (defBody s_less) (defScope s_less) .none kV11 dc11 pm11 an11 cd11 ct11, f12, PySem.W.fnOf "times" "times" (defArgs s_times) (defBody s_times) (defScope s_times) .none kV12 dc12 pm12 an12 cd12 ct12, f13, PySem.W.fnOf "parted" "parted" (defArgs s_parted) (defBody s_parted) (defScope s_parted) .none kV13 dc13 pm13 an13 cd13 ct13, f14, PySem.W.fnOf "can_raise" "can_raise" (defArgs s_can_raise) (defBody s_can_raise) (defScope s_can_raise) .none kV14 dc14 pm14 an14 cd14 ct14, f15, PySem.W.fnOf "can_lower" "can_lower" (defArgs s_can_lower) (defBody s_can_lower) (defScope s_can_lower) .none kV15 dc15 pm15 an15 cd15 ct15, f16, PySem.W.fnOf "can" "can" (defArgs s_can) (defBody s_can) (defScope s_can) .none kV16 dc16 pm16 an16 cd16 ct16, f17, PySem.W.fnOf "check_step" "check_step" (defArgs s_check_step) (defBody s_check_step) (defScope s_check_step) .none kV17 dc17 pm17 an17 cd17 ct17, f18, PySem.W.fnOf "stepped" "stepped" (defArgs s_stepped) (defBody s_stepped) (defScope s_stepped) .none kV18 dc18 pm18 an18 cd18 ct18, f19, PySem.W.fnOf "raisings" "raisings" (defArgs s_raisings) (defBody s_raisings) (defScope s_raisings) .none kV19 dc19 pm19 an19 cd19 ct19, f20, PySem.W.fnOf "net" "net" (defArgs s_net) (defBody s_net) (defScope s_net) .none kV20 dc20 pm20 an20 cd20 ct20, f21, PySem.W.fnOf "fewest" "fewest" (defArgs s_fewest) (defBody s_fewest) (defScope s_fewest) .none kV21 dc21 pm21 an21 cd21 ct21, f22, PySem.W.fnOf "way" "way" (defArgs s_way) (defBody s_way) (defScope s_way) .none kV22 dc22 pm22 an22 cd22 ct22, f23, PySem.W.fnOf "_law_cell_at" "_law_cell_at" (defArgs s__law_cell_at) (defBody s__law_cell_at) (defScope s__law_cell_at) .none kV23 dc23 pm23 an23 cd23 ct23, f24, PySem.W.fnOf "_law_word_of" "_law_word_of" (defArgs s__law_word_of) (defBody s__law_word_of) (defScope s__law_word_of) .none kV24 dc24 pm24 an24 cd24 ct24, f25, PySem.W.fnOf "_law_first" "_law_first" (defArgs s__law_first) (defBody s__law_first) (defScope s__law_first) .none kV25 dc25 pm25 an25 cd25 ct25, f26, PySem.W.fnOf "_law_second" "_law_second" (defArgs s__law_second) (defBody s__law_second) (defScope s__law_second) .none kV26 dc26 pm26 an26 cd26 ct26, f27, PySem.W.fnOf "_law_tried" "_law_tried" (defArgs s__law_tried) (defBody s__law_tried) (defScope s__law_tried) .none kV27 dc27 pm27 an27 cd27 ct27, f28, PySem.W.fnOf "_law_bad_board" "_law_bad_board" (defArgs s__law_bad_board) (defBody s__law_bad_board) (defScope s__law_bad_board) .none kV28 dc28 pm28 an28 cd28 ct28, fa, PySem.W.fnOf "law" "law" (defArgs s_law) (defBody s_law) (defScope s_law) .none kV29 dc29 pm29 an29 cd29 ct29, c_BoardError, c_NoFrame, c_NoBoard, c_NoNumber, c_NoStep, c_NoWay, c_TooLong, c_NoLess, c_NoNote⟩ := ⟨(fun_mk (st := s_check_frame) l0 c0 k0),
    (PySem.W.mg_of X G a0),
    ((fun_mk (st := s_check_frame) l0 c0 k0).binds (ps := ["ratios"]) fun _ _ _ _ _ _ us hl => match us, hl with | [_], _ => rfl),
    (fun_mk (st := s_check_board) l1 c1 k1),
    (PySem.W.mg_of X G a1),
    ((fun_mk (st := s_check_board) l1 c1 k1).binds (ps := ["ratios", "board"]) fun _ _ _ _ _ _ us hl => match us, hl with | [_, _], _ => rfl),
    (fun_mk (st := s_worths) l2 c2 k2),
    (PySem.W.mg_of X G a2),
    ((fun_mk (st := s_worths) l2 c2 k2).binds (ps := ["ratios"]) fun _ _ _ _ _ _ us hl => match us, hl with | [_], _ => rfl),
    (fun_mk (st := s_worth) l3 c3 k3),
    (PySem.W.mg_of X G a3),
    ((fun_mk (st := s_worth) l3 c3 k3).binds (ps := ["ratios", "board"]) fun _ _ _ _ _ _ us hl => match us, hl with | [_, _], _ => rfl),
    (fun_mk (st := s_is_plain) l4 c4 k4),
    (PySem.W.mg_of X G a4),
    ((fun_mk (st := s_is_plain) l4 c4 k4).binds (ps := ["ratios", "board"]) fun _ _ _ _ _ _ us hl => match us, hl with | [_, _], _ => rfl),
    (fun_mk (st := s_board_of) l5 c5 k5),
    (PySem.W.mg_of X G a5),
    ((fun_mk (st := s_board_of) l5 c5 k5).binds (ps := ["ratios", "number"]) fun _ _ _ _ _ _ us hl => match us, hl with | [_, _], _ => rfl),
    (fun_mk (st := s_plain) l6 c6 k6),
    (PySem.W.mg_of X G a6),
    ((fun_mk (st := s_plain) l6 c6 k6).binds (ps := ["ratios", "board"]) fun _ _ _ _ _ _ us hl => match us, hl with | [_, _], _ => rfl),
    (fun_mk (st := s_shown) l7 c7 k7),
    (PySem.W.mg_of X G a7),
    ((fun_mk (st := s_shown) l7 c7 k7).binds (ps := ["ratios", "board"]) fun _ _ _ _ _ _ us hl => match us, hl with | [_, _], _ => rfl),
    (fun_mk (st := s_check_part) l8 c8 k8),
    (PySem.W.mg_of X G a8),
    ((fun_mk (st := s_check_part) l8 c8 k8).binds (ps := ["part"]) fun _ _ _ _ _ _ us hl => match us, hl with | [_], _ => rfl),
    (fun_mk (st := s_read) l9 c9 k9),
    (PySem.W.mg_of X G a9),
    ((fun_mk (st := s_read) l9 c9 k9).binds (ps := ["ratios", "text"]) fun _ _ _ _ _ _ us hl => match us, hl with | [_, _], _ => rfl),
    (fun_mk (st := s_added) l10 c10 k10),
    (PySem.W.mg_of X G a10),
    ((fun_mk (st := s_added) l10 c10 k10).binds (ps := ["ratios", "one", "other"]) fun _ _ _ _ _ _ us hl => match us, hl with | [_, _, _], _ => rfl),
    (fun_mk (st := s_less) l11 c11 k11),
    (PySem.W.mg_of X G a11),
    ((fun_mk (st := s_less) l11 c11 k11).binds (ps := ["ratios", "one", "other"]) fun _ _ _ _ _ _ us hl => match us, hl with | [_, _, _], _ => rfl),
    (fun_mk (st := s_times) l12 c12 k12),
    (PySem.W.mg_of X G a12),
    ((fun_mk (st := s_times) l12 c12 k12).binds (ps := ["ratios", "board", "number"]) fun _ _ _ _ _ _ us hl => match us, hl with | [_, _, _], _ => rfl),
    (fun_mk (st := s_parted) l13 c13 k13),
    (PySem.W.mg_of X G a13),
    ((fun_mk (st := s_parted) l13 c13 k13).binds (ps := ["ratios", "board", "number"]) fun _ _ _ _ _ _ us hl => match us, hl with | [_, _, _], _ => rfl),
    (fun_mk (st := s_can_raise) l14 c14 k14),
    (PySem.W.mg_of X G a14),
    ((fun_mk (st := s_can_raise) l14 c14 k14).binds (ps := ["ratios", "board", "line"]) fun _ _ _ _ _ _ us hl => match us, hl with | [_, _, _], _ => rfl),
    (fun_mk (st := s_can_lower) l15 c15 k15),
    (PySem.W.mg_of X G a15),
    ((fun_mk (st := s_can_lower) l15 c15 k15).binds (ps := ["board", "line"]) fun _ _ _ _ _ _ us hl => match us, hl with | [_, _], _ => rfl),
    (fun_mk (st := s_can) l16 c16 k16),
    (PySem.W.mg_of X G a16),
    ((fun_mk (st := s_can) l16 c16 k16).binds (ps := ["ratios", "board"]) fun _ _ _ _ _ _ us hl => match us, hl with | [_, _], _ => rfl),
    (fun_mk (st := s_check_step) l17 c17 k17),
    (PySem.W.mg_of X G a17),
    ((fun_mk (st := s_check_step) l17 c17 k17).binds (ps := ["ratios", "board", "line", "up"]) fun _ _ _ _ _ _ us hl => match us, hl with | [_, _, _, _], _ => rfl),
    (fun_mk (st := s_stepped) l18 c18 k18),
    (PySem.W.mg_of X G a18),
    ((fun_mk (st := s_stepped) l18 c18 k18).binds (ps := ["ratios", "board", "line", "up"]) fun _ _ _ _ _ _ us hl => match us, hl with | [_, _, _, _], _ => rfl),
    (fun_mk (st := s_raisings) l19 c19 k19),
    (PySem.W.mg_of X G a19),
    ((fun_mk (st := s_raisings) l19 c19 k19).binds (ps := ["ratios", "board"]) fun _ _ _ _ _ _ us hl => match us, hl with | [_, _], _ => rfl),
    (fun_mk (st := s_net) l20 c20 k20),
    (PySem.W.mg_of X G a20),
    ((fun_mk (st := s_net) l20 c20 k20).binds (ps := ["ratios", "one", "other"]) fun _ _ _ _ _ _ us hl => match us, hl with | [_, _, _], _ => rfl),
    (fun_mk (st := s_fewest) l21 c21 k21),
    (PySem.W.mg_of X G a21),
    ((fun_mk (st := s_fewest) l21 c21 k21).binds (ps := ["ratios", "one", "other"]) fun _ _ _ _ _ _ us hl => match us, hl with | [_, _, _], _ => rfl),
    (fun_mk (st := s_way) l22 c22 k22),
    (PySem.W.mg_of X G a22),
    ((fun_mk (st := s_way) l22 c22 k22).binds (ps := ["ratios", "one", "other"]) fun _ _ _ _ _ _ us hl => match us, hl with | [_, _, _], _ => rfl),
    (fun_mk (st := s__law_cell_at) l23 c23 k23),
    (PySem.W.mg_of X G a23),
    ((fun_mk (st := s__law_cell_at) l23 c23 k23).binds (ps := ["script", "k"]) fun _ _ _ _ _ _ us hl => match us, hl with | [_, _], _ => rfl),
    (fun_mk (st := s__law_word_of) l24 c24 k24),
    (PySem.W.mg_of X G a24),
    ((fun_mk (st := s__law_word_of) l24 c24 k24).binds (ps := ["e"]) fun _ _ _ _ _ _ us hl => match us, hl with | [_], _ => rfl),
    (fun_mk (st := s__law_first) l25 c25 k25),
    (PySem.W.mg_of X G a25),
    ((fun_mk (st := s__law_first) l25 c25 k25).binds (ps := ["which", "ratios", "board"]) fun _ _ _ _ _ _ us hl => match us, hl with | [_, _, _], _ => rfl),
    (fun_mk (st := s__law_second) l26 c26 k26),
    (PySem.W.mg_of X G a26),
    ((fun_mk (st := s__law_second) l26 c26 k26).binds (ps := ["which", "ratios", "one", "other"]) fun _ _ _ _ _ _ us hl => match us, hl with | [_, _, _, _], _ => rfl),
    (fun_mk (st := s__law_tried) l27 c27 k27),
    (PySem.W.mg_of X G a27),
    ((fun_mk (st := s__law_tried) l27 c27 k27).binds (ps := ["which", "ratios", "one", "other"]) fun _ _ _ _ _ _ us hl => match us, hl with | [_, _, _, _], _ => rfl),
    (fun_mk (st := s__law_bad_board) l28 c28 k28),
    (PySem.W.mg_of X G a28),
    ((fun_mk (st := s__law_bad_board) l28 c28 k28).binds (ps := ["board", "kind", "at", "far"]) fun _ _ _ _ _ _ us hl => match us, hl with | [_, _, _, _], _ => rfl),
    (fun_mk (st := s_law) l29 c29 k29),
    (PySem.W.mg_of X G a29),
    ((fun_mk (st := s_law) l29 c29 k29).binds (ps := ["script"]) fun _ _ _ _ _ _ us hl => match us, hl with | [_], _ => rfl),
    ⟨xb_ty, xb_cls, xb_base⟩,
    (PySem.W.mg_of X G k_BoardError),
    (PySem.W.mg_of X G k_NoFrame),
    t_NoFrame,
    q_NoFrame,
    (PySem.W.mg_of X G k_NoBoard),
    t_NoBoard,
    q_NoBoard,
    (PySem.W.mg_of X G k_NoNumber),
    t_NoNumber,
    q_NoNumber,
    (PySem.W.mg_of X G k_NoStep),
    t_NoStep,
    q_NoStep,
    (PySem.W.mg_of X G k_NoWay),
    t_NoWay,
    q_NoWay,
    (PySem.W.mg_of X G k_TooLong),
    t_TooLong,
    q_TooLong,
    (PySem.W.mg_of X G k_NoLess),
    t_NoLess,
    q_NoLess,
    (PySem.W.mg_of X G k_NoNote),
    t_NoNote,
    q_NoNote,
    e_NoFrame,
    ⟨x_NoFrame_cls, x_NoFrame_ga, x_NoFrame_gt, x_NoFrame_ca, x_NoFrame_get, x_NoFrame_tk, x_NoFrame_obj, x_NoFrame_base⟩,
    u_NoFrame,
    v_NoFrame,
    n_NoFrame_NoFrame,
    n_NoFrame_NoBoard,
    n_NoFrame_NoNumber,
    n_NoFrame_NoStep,
    n_NoFrame_NoWay,
    n_NoFrame_TooLong,
    n_NoFrame_NoLess,
    n_NoFrame_NoNote,
    e_NoBoard,
    ⟨x_NoBoard_cls, x_NoBoard_ga, x_NoBoard_gt, x_NoBoard_ca, x_NoBoard_get, x_NoBoard_tk, x_NoBoard_obj, x_NoBoard_base⟩,
    u_NoBoard,
    v_NoBoard,
    n_NoBoard_NoFrame,
    n_NoBoard_NoBoard,
    n_NoBoard_NoNumber,
    n_NoBoard_NoStep,
    n_NoBoard_NoWay,
    n_NoBoard_TooLong,
    n_NoBoard_NoLess,
    n_NoBoard_NoNote,
    e_NoNumber,
    ⟨x_NoNumber_cls, x_NoNumber_ga, x_NoNumber_gt, x_NoNumber_ca, x_NoNumber_get, x_NoNumber_tk, x_NoNumber_obj, x_NoNumber_base⟩,
    u_NoNumber,
    v_NoNumber,
    n_NoNumber_NoFrame,
    n_NoNumber_NoBoard,
    n_NoNumber_NoNumber,
    n_NoNumber_NoStep,
    n_NoNumber_NoWay,
    n_NoNumber_TooLong,
    n_NoNumber_NoLess,
    n_NoNumber_NoNote,
    e_NoNote,
    ⟨x_NoNote_cls, x_NoNote_ga, x_NoNote_gt, x_NoNote_ca, x_NoNote_get, x_NoNote_tk, x_NoNote_obj, x_NoNote_base⟩,
    u_NoNote,
    v_NoNote,
    n_NoNote_NoFrame,
    n_NoNote_NoBoard,
    n_NoNote_NoNumber,
    n_NoNote_NoStep,
    n_NoNote_NoWay,
    n_NoNote_TooLong,
    n_NoNote_NoLess,
    n_NoNote_NoNote,
    ⟨_, PySem.W.mg_of X G g_MOST_RATIOS⟩,
    ⟨_, PySem.W.mg_of X G g_LEAST_RATIO⟩,
    ⟨_, PySem.W.mg_of X G g_GREATEST_RATIO⟩,
    ⟨_, PySem.W.mg_of X G g_FIGURES⟩,
    ⟨_, PySem.W.mg_of X G g_MOST_FIGURES⟩,
    ⟨_, PySem.W.mg_of X G g_MOST_STEPS⟩,
    (PySem.W.mg_none_of X G b_len),
    (PySem.W.mg_none_of X G b_range),
    (PySem.W.mg_none_of X G b_zip),
    (PySem.W.mg_none_of X G b_reversed),
    (PySem.W.mg_none_of X G b_list),
    (PySem.W.mg_none_of X G b_int),
    (PySem.W.mg_none_of X G b_str),
    (PySem.W.mg_none_of X G b_isinstance),
    (PySem.W.mg_none_of X G b_sum),
    (PySem.W.mg_none_of X G b_all),
    (PySem.W.mg_none_of X G b_abs),
    (PySem.W.mg_none_of X G b_enumerate),
    (PySem.W.mg_none_of X G b_ValueError)⟩
  exact ⟨_, fun s v => .of_eq rfl, fun base _ _ => ok_law T⟩
theorem walk {l : PySem.W.OpenLaw} {q : Program} {loose : List Str} {XP : (Str → Option Value) → Heap → Prop} {YP : World → Heap → Prop} {d : DefRec} {K : Params → PySem.W.Frag} (hn : l.most = some 63) (hdf : d.params.defaults = [])
    (hY : ∀ (w : World) (h : Heap), YP w h → (K w.params).In h)
    (F : ∀ (w : World) (mg : Str → Option Value) (fa : Addr) (h : Heap), (K w.params).In h → h.Ns mainGlobals mg → mg d.name = some (.ref fa) →
      ∃ fd : FuncData, (∀ (s : Shared) (u : Value), BindsTo s fd ⟨[u], []⟩ [("script", u)]) ∧ ∀ base : Heap, (K w.params).In base → base.Ns mainGlobals mg → FnOk l.prog w (K w.params) mg base CX0 9 fa fd ["script"] (sp_law (K w.params))) :
    PySem.W.WalkO q loose XP YP l.row.toRowW d [] (fun f vs => PySem.call f vs) :=
  L2.walk_of (n := 63) (k := 9) (x := "script") (CX := fun _ => CX0) (sp := fun w => sp_law (K w.params)) hn (by decide) hdf ⟨rfl, by decide, by decide⟩ hY F (fun _ _ a ns hl _ hS => ⟨a, ns, rfl, hS, hl, fun _ => rfl⟩) fun _ _ _ _ _ z => z
end Toy
open PySem PySem.W PyProof.Rows
set_option maxRecDepth 100000 in
set_option maxHeartbeats 0 in
theorem PySem.Challenge.cw_countboard_k14_refused_frames_holds : PySem.Challenge.rw_countboard_k14_refused_frames.Holds := by
  w_on; o_law; k_head; (case hw => w_witness2)
  k_fill
  refine Toy.walk (l := PySem.Challenge.rw_countboard_k14_refused_frames) rfl rfl (fun w h Y => PySem.W.kIn_of Y) ?F
  case F =>
    intro w mg fa h KX G hmg
    refine' Toy.all_mk KX G hmg ?a0 ?l0 ?c0 ?k0 ?a1 ?l1 ?c1 ?k1 ?a2 ?l2 ?c2 ?k2 ?a3 ?l3 ?c3 ?k3 ?a4 ?l4 ?c4 ?k4 ?a5 ?l5 ?c5 ?k5 ?a6 ?l6 ?c6 ?k6 ?a7 ?l7 ?c7 ?k7 ?a8 ?l8 ?c8 ?k8 ?a9 ?l9 ?c9 ?k9 ?a10 ?l10 ?c10 ?k10 ?a11 ?l11 ?c11 ?k11 ?a12 ?l12 ?c12 ?k12 ?a13 ?l13 ?c13 ?k13 ?a14 ?l14 ?c14 ?k14 ?a15 ?l15 ?c15 ?k15 ?a16 ?l16 ?c16 ?k16 ?a17 ?l17 ?c17 ?k17 ?a18 ?l18 ?c18 ?k18 ?a19 ?l19 ?c19 ?k19 ?a20 ?l20 ?c20 ?k20 ?a21 ?l21 ?c21 ?k21 ?a22 ?l22 ?c22 ?k22 ?a23 ?l23 ?c23 ?k23 ?a24 ?l24 ?c24 ?k24 ?a25 ?l25 ?c25 ?k25 ?a26 ?l26 ?c26 ?k26 ?a27 ?l27 ?c27 ?k27 ?a28 ?l28 ?c28 ?k28 ?a29 ?l29 ?c29 ?k29 ?k_BoardError ?k_NoFrame ?k_NoBoard ?k_NoNumber ?k_NoStep ?k_NoWay ?k_TooLong ?k_NoLess ?k_NoNote ?xb_ty ?xb_cls ?xb_base ?t_NoFrame ?q_NoFrame ?t_NoBoard ?q_NoBoard ?t_NoNumber ?q_NoNumber ?t_NoStep ?q_NoStep ?t_NoWay ?q_NoWay ?t_TooLong ?q_TooLong ?t_NoLess ?q_NoLess ?t_NoNote ?q_NoNote ?e_NoFrame ?x_NoFrame_cls ?x_NoFrame_ga ?x_NoFrame_gt ?x_NoFrame_ca ?x_NoFrame_get ?x_NoFrame_tk ?x_NoFrame_obj ?x_NoFrame_base ?u_NoFrame ?v_NoFrame ?n_NoFrame_NoFrame ?n_NoFrame_NoBoard ?n_NoFrame_NoNumber ?n_NoFrame_NoStep ?n_NoFrame_NoWay ?n_NoFrame_TooLong ?n_NoFrame_NoLess ?n_NoFrame_NoNote ?e_NoBoard ?x_NoBoard_cls ?x_NoBoard_ga ?x_NoBoard_gt ?x_NoBoard_ca ?x_NoBoard_get ?x_NoBoard_tk ?x_NoBoard_obj ?x_NoBoard_base ?u_NoBoard ?v_NoBoard ?n_NoBoard_NoFrame ?n_NoBoard_NoBoard ?n_NoBoard_NoNumber ?n_NoBoard_NoStep ?n_NoBoard_NoWay ?n_NoBoard_TooLong ?n_NoBoard_NoLess ?n_NoBoard_NoNote ?e_NoNumber ?x_NoNumber_cls ?x_NoNumber_ga ?x_NoNumber_gt ?x_NoNumber_ca ?x_NoNumber_get ?x_NoNumber_tk ?x_NoNumber_obj ?x_NoNumber_base ?u_NoNumber ?v_NoNumber ?n_NoNumber_NoFrame ?n_NoNumber_NoBoard ?n_NoNumber_NoNumber ?n_NoNumber_NoStep ?n_NoNumber_NoWay ?n_NoNumber_TooLong ?n_NoNumber_NoLess ?n_NoNumber_NoNote ?e_NoNote ?x_NoNote_cls ?x_NoNote_ga ?x_NoNote_gt ?x_NoNote_ca ?x_NoNote_get ?x_NoNote_tk ?x_NoNote_obj ?x_NoNote_base ?u_NoNote ?v_NoNote ?n_NoNote_NoFrame ?n_NoNote_NoBoard ?n_NoNote_NoNumber ?n_NoNote_NoStep ?n_NoNote_NoWay ?n_NoNote_TooLong ?n_NoNote_NoLess ?n_NoNote_NoNote ?g_MOST_RATIOS ?g_LEAST_RATIO ?g_GREATEST_RATIO ?g_FIGURES ?g_MOST_FIGURES ?g_MOST_STEPS ?b_len ?b_range ?b_zip ?b_reversed ?b_list ?b_int ?b_str ?b_isinstance ?b_sum ?b_all ?b_abs ?b_enumerate ?b_ValueError
    (case a0 => k_is)
    (case l0 => k_is)
    (case c0 => k_is)
    (case k0 => k_is)
    (case a1 => k_is)
    (case l1 => k_is)
    (case c1 => k_is)
    (case k1 => k_is)
    (case a2 => k_is)
    (case l2 => k_is)
    (case c2 => k_is)
    (case k2 => k_is)
    (case a3 => k_is)
    (case l3 => k_is)
    (case c3 => k_is)
    (case k3 => k_is)
    (case a4 => k_is)
    (case l4 => k_is)
    (case c4 => k_is)
    (case k4 => k_is)
    (case a5 => k_is)
    (case l5 => k_is)
    (case c5 => k_is)
    (case k5 => k_is)
    (case a6 => k_is)
    (case l6 => k_is)
    (case c6 => k_is)
    (case k6 => k_is)
    (case a7 => k_is)
    (case l7 => k_is)
    (case c7 => k_is)
    (case k7 => k_is)
    (case a8 => k_is)
    (case l8 => k_is)
    (case c8 => k_is)
    (case k8 => k_is)
    (case a9 => k_is)
    (case l9 => k_is)
    (case c9 => k_is)
    (case k9 => k_is)
    (case a10 => k_is)
    (case l10 => k_is)
    (case c10 => k_is)
    (case k10 => k_is)
    (case a11 => k_is)
    (case l11 => k_is)
    (case c11 => k_is)
    (case k11 => k_is)
    (case a12 => k_is)
    (case l12 => k_is)
    (case c12 => k_is)
    (case k12 => k_is)
    (case a13 => k_is)
    (case l13 => k_is)
    (case c13 => k_is)
    (case k13 => k_is)
    (case a14 => k_is)
    (case l14 => k_is)
    (case c14 => k_is)
    (case k14 => k_is)
    (case a15 => k_is)
    (case l15 => k_is)
    (case c15 => k_is)
    (case k15 => k_is)
    (case a16 => k_is)
    (case l16 => k_is)
    (case c16 => k_is)
    (case k16 => k_is)
    (case a17 => k_is)
    (case l17 => k_is)
    (case c17 => k_is)
    (case k17 => k_is)
    (case a18 => k_is)
    (case l18 => k_is)
    (case c18 => k_is)
    (case k18 => k_is)
    (case a19 => k_is)
    (case l19 => k_is)
    (case c19 => k_is)
    (case k19 => k_is)
    (case a20 => k_is)
    (case l20 => k_is)
    (case c20 => k_is)
    (case k20 => k_is)
    (case a21 => k_is)
    (case l21 => k_is)
    (case c21 => k_is)
    (case k21 => k_is)
    (case a22 => k_is)
    (case l22 => k_is)
    (case c22 => k_is)
    (case k22 => k_is)
    (case a23 => k_is)
    (case l23 => k_is)
    (case c23 => k_is)
    (case k23 => k_is)
    (case a24 => k_is)
    (case l24 => k_is)
    (case c24 => k_is)
    (case k24 => k_is)
    (case a25 => k_is)
    (case l25 => k_is)
    (case c25 => k_is)
    (case k25 => k_is)
    (case a26 => k_is)
    (case l26 => k_is)
    (case c26 => k_is)
    (case k26 => k_is)
    (case a27 => k_is)
    (case l27 => k_is)
    (case c27 => k_is)
    (case k27 => k_is)
    (case a28 => k_is)
    (case l28 => k_is)
    (case c28 => k_is)
    (case k28 => k_is)
    (case a29 => k_is)
    (case l29 => k_is)
    (case c29 => k_is)
    (case k29 => k_is)
    (case k_BoardError => k_is)
    (case k_NoFrame => k_is)
    (case k_NoBoard => k_is)
    (case k_NoNumber => k_is)
    (case k_NoStep => k_is)
    (case k_NoWay => k_is)
    (case k_TooLong => k_is)
    (case k_NoLess => k_is)
    (case k_NoNote => k_is)
    (case xb_ty => k_is)
    (case xb_cls => k_is)
    (case xb_base => k_is)
    (case t_NoFrame => k_is)
    (case q_NoFrame => k_is)
    (case t_NoBoard => k_is)
    (case q_NoBoard => k_is)
    (case t_NoNumber => k_is)
    (case q_NoNumber => k_is)
    (case t_NoStep => k_is)
    (case q_NoStep => k_is)
    (case t_NoWay => k_is)
    (case q_NoWay => k_is)
    (case t_TooLong => k_is)
    (case q_TooLong => k_is)
    (case t_NoLess => k_is)
    (case q_NoLess => k_is)
    (case t_NoNote => k_is)
    (case q_NoNote => k_is)
    (case e_NoFrame => k_exc)
    (case x_NoFrame_cls => k_is)
    (case x_NoFrame_ga => k_is)
    (case x_NoFrame_gt => k_is)
    (case x_NoFrame_ca => k_is)
    (case x_NoFrame_get => k_is)
    (case x_NoFrame_tk => k_is)
    (case x_NoFrame_obj => k_is)
    (case x_NoFrame_base => k_is)
    (case u_NoFrame => k_is)
    (case v_NoFrame => k_is)
    (case n_NoFrame_NoFrame => k_is)
    (case n_NoFrame_NoBoard => k_is)
    (case n_NoFrame_NoNumber => k_is)
    (case n_NoFrame_NoStep => k_is)
    (case n_NoFrame_NoWay => k_is)
    (case n_NoFrame_TooLong => k_is)
    (case n_NoFrame_NoLess => k_is)
    (case n_NoFrame_NoNote => k_is)
    (case e_NoBoard => k_exc)
    (case x_NoBoard_cls => k_is)
    (case x_NoBoard_ga => k_is)
    (case x_NoBoard_gt => k_is)
    (case x_NoBoard_ca => k_is)
    (case x_NoBoard_get => k_is)
    (case x_NoBoard_tk => k_is)
    (case x_NoBoard_obj => k_is)
    (case x_NoBoard_base => k_is)
    (case u_NoBoard => k_is)
    (case v_NoBoard => k_is)
    (case n_NoBoard_NoFrame => k_is)
    (case n_NoBoard_NoBoard => k_is)
    (case n_NoBoard_NoNumber => k_is)
    (case n_NoBoard_NoStep => k_is)
    (case n_NoBoard_NoWay => k_is)
    (case n_NoBoard_TooLong => k_is)
    (case n_NoBoard_NoLess => k_is)
    (case n_NoBoard_NoNote => k_is)
    (case e_NoNumber => k_exc)
    (case x_NoNumber_cls => k_is)
    (case x_NoNumber_ga => k_is)
    (case x_NoNumber_gt => k_is)
    (case x_NoNumber_ca => k_is)
    (case x_NoNumber_get => k_is)
    (case x_NoNumber_tk => k_is)
    (case x_NoNumber_obj => k_is)
    (case x_NoNumber_base => k_is)
    (case u_NoNumber => k_is)
    (case v_NoNumber => k_is)
    (case n_NoNumber_NoFrame => k_is)
    (case n_NoNumber_NoBoard => k_is)
    (case n_NoNumber_NoNumber => k_is)
    (case n_NoNumber_NoStep => k_is)
    (case n_NoNumber_NoWay => k_is)
    (case n_NoNumber_TooLong => k_is)
    (case n_NoNumber_NoLess => k_is)
    (case n_NoNumber_NoNote => k_is)
    (case e_NoNote => k_exc)
    (case x_NoNote_cls => k_is)
    (case x_NoNote_ga => k_is)
    (case x_NoNote_gt => k_is)
    (case x_NoNote_ca => k_is)
    (case x_NoNote_get => k_is)
    (case x_NoNote_tk => k_is)
    (case x_NoNote_obj => k_is)
    (case x_NoNote_base => k_is)
    (case u_NoNote => k_is)
    (case v_NoNote => k_is)
    (case n_NoNote_NoFrame => k_is)
    (case n_NoNote_NoBoard => k_is)
    (case n_NoNote_NoNumber => k_is)
    (case n_NoNote_NoStep => k_is)
    (case n_NoNote_NoWay => k_is)
    (case n_NoNote_TooLong => k_is)
    (case n_NoNote_NoLess => k_is)
    (case n_NoNote_NoNote => k_is)
    (case g_MOST_RATIOS => k_is)
    (case g_LEAST_RATIO => k_is)
    (case g_GREATEST_RATIO => k_is)
    (case g_FIGURES => k_is)
    (case g_MOST_FIGURES => k_is)
    (case g_MOST_STEPS => k_is)
    (case b_len => k_is)
    (case b_range => k_is)
    (case b_zip => k_is)
    (case b_reversed => k_is)
    (case b_list => k_is)
    (case b_int => k_is)
    (case b_str => k_is)
    (case b_isinstance => k_is)
    (case b_sum => k_is)
    (case b_all => k_is)
    (case b_abs => k_is)
    (case b_enumerate => k_is)
    (case b_ValueError => k_is)
