import PyProof.Rows.All
import Wide.All
import OpenK.AllK
import Wide.FinOn
import PyProof.NeKinds
import PyProof.EqAt
import PyProof.EqKinds
import PyProof.TupleCall
import PySem.Challenge.RW_springways_k14_nets_read_or_refused
-- CHANGE: your row's module here, as the last of these rows
set_option Elab.async false
set_option linter.all false
set_option maxRecDepth 100000
/-! THE HAND LAYER, for ints, bools, texts, own classes, LISTS and tuples (index, slices, in, append, pop ..), calls, loops. Paste it whole ahead of your own text; what your proof does not reach may be deleted. -/
namespace L2
open PySem PySem.Spec PyProof.Rows

/-- a key: an int or a str -/
abbrev Key := Sum Int Str
def keyIs : Key → Value → Bool
  | .inl k, v => Value.isInt k v
  | .inr x, v => Value.isStrOf x v
def keyH (w : World) : Key → Int
  | .inl k => hashInt k
  | .inr x => hashStr w x
theorem keyIs_shape : ∀ {k : Key} {v : Value}, keyIs k v = true → (∃ i t, k = Sum.inl i ∧ v = Value.int i t) ∨ (∃ x t, k = Sum.inr x ∧ v = Value.str x t)
  | .inl i, v, h => by
    obtain ⟨t, e⟩ := Value.isInt_shape (k := i) (v := v) h
    exact .inl ⟨i, t, rfl, e⟩
  | .inr x, v, h => by
    obtain ⟨t, e⟩ := Value.isStrOf_shape (x := x) (v := v) h
    exact .inr ⟨x, t, rfl, e⟩
theorem key_ll (a b : Int) : decide ((Sum.inl a : Key) = Sum.inl b) = (a == b) := by
  by_cases e : a = b
  · subst e; simp
  · have h : ¬ (Sum.inl a : Key) = Sum.inl b := fun q => e (Sum.inl.inj q)
    rw [decide_eq_false h]
    exact (beq_eq_false_iff_ne.mpr e).symm
theorem key_rr (a b : Str) : decide ((Sum.inr a : Key) = Sum.inr b) = decide (a = b) := by
  by_cases e : a = b
  · subst e; simp
  · have h : ¬ (Sum.inr a : Key) = Sum.inr b := fun q => e (Sum.inr.inj q)
    rw [decide_eq_false h, decide_eq_false e]
theorem key_lr (a : Int) (b : Str) : decide ((Sum.inl a : Key) = Sum.inr b) = false := decide_eq_false (fun q => nomatch q)
theorem key_rl (a : Str) (b : Int) : decide ((Sum.inr a : Key) = Sum.inl b) = false := decide_eq_false (fun q => nomatch q)

def mixKind (prog : Program) (w : World) : PySem.KeyKind prog w Key where
  is := keyIs
  hash := keyH w
  inj := fun v a b ha hb => by
    rcases keyIs_shape ha with ⟨i, t, rfl, rfl⟩ | ⟨x, t, rfl, rfl⟩
    · rcases keyIs_shape hb with ⟨j, u, rfl, e⟩ | ⟨y, u, rfl, e⟩
      · injection e with e1 _; rw [e1]
      · exact nomatch e
    · rcases keyIs_shape hb with ⟨j, u, rfl, e⟩ | ⟨y, u, rfl, e⟩
      · exact nomatch e
      · injection e with e1 _; rw [e1]
  byValue := fun k v h => by
    rcases keyIs_shape h with ⟨i, t, rfl, rfl⟩ | ⟨x, t, rfl, rfl⟩ <;> rfl
  pyHash := fun hv h => by
    rcases keyIs_shape hv with ⟨i, t, rfl, rfl⟩ | ⟨x, t, rfl, rfl⟩
    · exact wpAny_pyHash_int h
    · exact wpAny_pyHash_str h
  eqBool := fun hu hv h => by
    rcases keyIs_shape hu with ⟨i, t, rfl, rfl⟩ | ⟨x, t, rfl, rfl⟩
    · rcases keyIs_shape hv with ⟨j, u, rfl, rfl⟩ | ⟨y, u, rfl, rfl⟩
      · rw [key_ll] at h; exact wpAny_eqBool_int h
      · rw [key_lr] at h; exact SeqAt.EqAt.int_str i t y u _ _ _ _ h
    · rcases keyIs_shape hv with ⟨j, u, rfl, rfl⟩ | ⟨y, u, rfl, rfl⟩
      · rw [key_rl] at h; exact SeqAt.EqAt.str_int x t j u _ _ _ _ h
      · rw [key_rr] at h; exact wpAny_eqBool_str h
  «strs» := fun k x t v h => by
    rcases keyIs_shape h with ⟨i, u, rfl, e⟩ | ⟨y, u, rfl, e⟩
    · exact nomatch e
    · injection e with e1 _
      subst e1
      cases v <;> rfl

end L2

namespace L2
open PySem PySem.Spec PyProof.Rows

/-- a value, without the heap -/
inductive V where
  | non | bl (b : Bool) | int (i : Int) | str (x : Str) | byt (b : Array UInt8) | flt (b : UInt64) | ref (a : Addr) | ty (n : String)
  deriving DecidableEq

def RelV : V → Value → Prop
  | .non, u => u = Value.none
  | .bl b, u => u = Value.bool b
  | .int i, u => ∃ t, u = Value.int i t
  | .str x, u => ∃ t, u = Value.str x t
  | .byt b, u => ∃ t, u = Value.bytes b t
  | .flt b, u => ∃ t, u = Value.float b t
  | .ref a, u => u = Value.ref a
  | .ty n, u => u = Value.type n

abbrev Vals : List V → List Value → Prop := Paired RelV
theorem Vals.length {xs : List V} {us : List Value} (r : Vals xs us) : xs.length = us.length := Paired.length r
theorem Vals.get : ∀ {xs : List V} {us : List Value} {i : Nat} {x : V}, Vals xs us → xs[i]? = some x → ∃ u, us[i]? = some u ∧ RelV x u
  | _, _, _, _, .nil, e => by simp at e
  | _, _, 0, _, .cons r _, e => by simp at e; subst e; exact ⟨_, rfl, r⟩
  | _, _, i + 1, x, .cons _ t, e => by
    obtain ⟨u, h1, h2⟩ := Vals.get (i := i) (x := x) t (by simpa using e)
    exact ⟨u, by simpa using h1, h2⟩
theorem Vals.set {x : V} {u : Value} (r : RelV x u) : ∀ {xs : List V} {us : List Value} (i : Nat), Vals xs us → Vals (xs.set i x) (us.set i u)
  | _, _, _, .nil => .nil
  | _, _, 0, .cons _ t => .cons r t
  | _, _, i + 1, .cons q t => .cons q (Vals.set r i t)
theorem Vals.append : ∀ {xs ys : List V} {us ws : List Value}, Vals xs us → Vals ys ws → Vals (xs ++ ys) (us ++ ws)
  | _, _, _, _, .nil, s => s
  | _, _, _, _, .cons r t, s => .cons r (Vals.append t s)
theorem Vals.take : ∀ {xs : List V} {us : List Value} (n : Nat), Vals xs us → Vals (xs.take n) (us.take n)
  | _, _, 0, _ => .nil
  | _, _, _ + 1, .nil => .nil
  | _, _, n + 1, .cons r t => .cons r (Vals.take n t)
theorem Vals.drop : ∀ {xs : List V} {us : List Value} (n : Nat), Vals xs us → Vals (xs.drop n) (us.drop n)
  | _, _, 0, r => r
  | _, _, _ + 1, .nil => .nil
  | _, _, n + 1, .cons _ t => Vals.drop n t
def RelO : Option V → Option Value → Prop
  | some v, some u => RelV v u
  | none, none => True
  | _, _ => False
def KV {κ : Type} : List (κ × V) → List (κ × Value) → Prop := Paired fun (p : κ × V) (q : κ × Value) => p.1 = q.1 ∧ RelV p.2 q.2

/-- a key of a dict (00_mix): an int or a text -/
def kV : Key → V
  | .inl i => .int i
  | .inr x => .str x

/-- what stands at a tracked address -/
inductive HO where
  /-- a list -/
  | lst (xs : List V)
  /-- a tuple (never changes) -/
  | tup (xs : List V)
  /-- a dict whose keys are ints and texts; one whose keys are tuples of ints and texts (the empty one is both) -/
  | dK (kvs : List (Key × V)) | dT (kvs : List (List Key × V))
  /-- a set of ints: its members, its size -/
  | set (S : Int → Bool) (n : Nat)
  /-- an instance of the class at C, its dict at dx, its attributes -/
  | ins (C dx : Addr) (fs : List (Str × V))
  /-- the dict of the instance at x -/
  | own (x : Addr)
  /-- the dict of an exception -/
  | xd (fs : List (Str × V))
  /-- a bound method, f of x -/
  | met (f x : Addr)
  /-- a range object lo, lo + 1, .. below hi -/
  | rng (lo hi : Int)
  /-- a thing that is known to the object (the script; a dict while a loop walks it): read, never written while it is so -/
  | frz (o : Obj) (u : HO)
  /-- a code object's table -/
  | tbl (ps : Array Value)
  /-- any other thing, by what is true of its one object (a def of one's own: SetO a S n := HO.ext fun h => ..) -/
  | ext (φ : Heap → Prop)

abbrev Hp := Addr → Option HO
def upd (H : Hp) (a : Addr) (o : HO) : Hp := fun b => if b = a then some o else H b
theorem upd_same {H : Hp} {a : Addr} {o : HO} : upd H a o a = some o := by unfold upd; rw [if_pos rfl]
theorem upd_ne {H : Hp} {a b : Addr} {o : HO} (h : b ≠ a) : upd H a o b = H b := by unfold upd; rw [if_neg h]
/-- two objects of different content stand apart -/
theorem ne_of {H : Hp} {a b : Addr} {o u : HO} (h : H a = some o) (h' : H b = some u) (d : o ≠ u) : a ≠ b := by
  intro e; subst e; rw [h] at h'; exact d (Option.some.inj h')
theorem ne_of_none {H : Hp} {a b : Addr} {o : HO} (h : H a = some o) (h' : H b = none) : a ≠ b := by
  intro e; subst e; rw [h] at h'; cases h'

section
variable (P : Program) (w : World)
def ObjOk (H : Hp) (h : Heap) (a : Addr) : HO → Prop
  | .lst xs => xs.length ≤ sizeLine ∧ ∃ (its : List Value) (n : Nat), Vals xs its ∧ h.get? a = some { cls := .type "list", data := .seq its.toArray n }
  | .tup xs => xs.length ≤ sizeLine ∧ ∃ its : List Value, Vals xs its ∧ IsTup h a its.toArray
  | .dK kvs => kvs.length ≤ sizeLine ∧ (a == sysModules) = false ∧ ∃ vs, KV kvs vs ∧ h.DictOf (mixKind P w) a vs
  | .dT kvs => kvs.length ≤ sizeLine ∧ (a == sysModules) = false ∧ ∃ xs : List (List Key × Addr × Value),
      Paired (fun (p : List Key × V) (q : List Key × Addr × Value) => p.1 = q.1 ∧ H q.2.1 = some (.tup (p.1.map kV)) ∧ RelV p.2 q.2.2) kvs xs ∧
      ∃ o es ep, h.get? a = some o ∧ o.ExactDict ∧ o.data = .dict es ep ∧ es.toList = xs.map (entryOfKey (tupleKind (mixKind P w))) ∧ (xs.map (·.1)).Nodup
  | .set S n => h.SetOf (intKind P w) a S n
  | .ins C dx fs => H dx = some (.own a) ∧ fs.length ≤ 1000 ∧ dx ≠ a ∧ h.get? a = some (PySem.W.instObj C dx) ∧
      ∃ mA, h.Ns1 dx mA ∧ (∀ f, RelO (fs.lookup f) (mA f)) ∧ PySem.Within mA (fs.map (·.1))
  | .own _ => ∃ o, h.get? a = some o
  | .xd fs => ∃ mA, h.Ns1 a mA ∧ ∀ f, RelO (fs.lookup f) (mA f)
  | .rng lo hi => ∃ t u v, h.get? a = some { cls := .type "range", data := .fields #[.int lo t, .int hi u, .int 1 v] }
  | .frz o u => h.get? a = some o ∧ ObjOk H h a u
  | .tbl ps => h.get? a = some { cls := .none, data := .fields ps }
  | .met f x => h.get? a = some (PySem.W.methodObj (.ref f) (.ref x))
  | .ext φ => φ h ∧ (∃ o, h.get? a = some o) ∧ ∀ h1 h2 : Heap, φ h1 → (∀ o, h1.get? a = some o → h2.get? a = some o) → φ h2
/-- the abstract heap is held -/
def HOk (H : Hp) (h : Heap) : Prop := ∀ a o, H a = some o → ObjOk P w H h a o
end

section
variable {P : Program} {w : World} {H H' : Hp} {h h' : Heap} {a : Addr} {o : HO}
theorem ObjOk.lt (x : ObjOk P w H h a o) : a < h.objs.size := by
  cases o with
  | lst xs => obtain ⟨_, _, _, _, e⟩ := x; exact Heap.lt_size e
  | tup xs => obtain ⟨_, _, _, p⟩ := x; exact p.lt
  | dK kvs => obtain ⟨_, _, _, _, o, _, _, e, _⟩ := x; exact Heap.lt_size e
  | dT kvs => obtain ⟨_, _, _, _, o, _, _, e, _⟩ := x; exact Heap.lt_size e
  | set S n => obtain ⟨o, _, _, _, e, _⟩ := x; exact Heap.lt_size e
  | ins C dx fs => obtain ⟨_, _, _, e, _⟩ := x; exact Heap.lt_size e
  | own y => obtain ⟨_, e⟩ := x; exact Heap.lt_size e
  | xd fs => obtain ⟨_, ⟨_, _, _, e, _⟩, _⟩ := x; exact Heap.lt_size e
  | rng lo hi => obtain ⟨_, _, _, e⟩ := x; exact Heap.lt_size e
  | frz ob u => obtain ⟨e, _⟩ := x; exact Heap.lt_size e
  | tbl ps => exact Heap.lt_size (show h.get? a = some _ from x)
  | met f y => exact Heap.lt_size (show h.get? a = some _ from x)
  | ext φ => obtain ⟨_, ⟨_, e⟩, _⟩ := x; exact Heap.lt_size e
theorem Paired.mapP {α β : Type} {F G : α → β → Prop} : ∀ {l₁ : List α} {l₂ : List β}, Paired F l₁ l₂ → (∀ a b, F a b → G a b) → Paired G l₁ l₂
  | _, _, .nil, _ => .nil
  | _, _, .cons r t, f => .cons (f _ _ r) (Paired.mapP t f)
/-- what an object's description leans on: its own object, its own dict, the tuples -/
theorem ObjOk.stay (x : ObjOk P w H h a o) (k : ∀ b u, (b = a ∨ H b = some (.own a)) → h.get? b = some u → h'.get? b = some u)
    (ho : ∀ b, H b = some (.own a) → H' b = some (.own a)) (ht : ∀ b xs, H b = some (.tup xs) → H' b = some (.tup xs)) : ObjOk P w H' h' a o := by
  induction o with
  | lst xs => obtain ⟨z, its, n, r, e⟩ := x; exact ⟨z, its, n, r, k _ _ (.inl rfl) e⟩
  | tup xs => obtain ⟨z, its, r, ob, e, c⟩ := x; exact ⟨z, its, r, ob, k _ _ (.inl rfl) e, c⟩
  | dK kvs => obtain ⟨z, y, vs, r, ob, es, ep, e, c⟩ := x; exact ⟨z, y, vs, r, ob, es, ep, k _ _ (.inl rfl) e, c⟩
  | dT kvs =>
    obtain ⟨z, y, xs, r, ob, es, ep, e, c⟩ := x
    exact ⟨z, y, xs, Paired.mapP r fun p q z => ⟨z.1, ht _ _ z.2.1, z.2.2⟩, ob, es, ep, k _ _ (.inl rfl) e, c⟩
  | set S n => obtain ⟨ob, es, ep, t, e, c⟩ := x; exact ⟨ob, es, ep, t, k _ _ (.inl rfl) e, c⟩
  | ins C dx fs =>
    obtain ⟨d, z, ne, e, mA, ⟨od, es, ep, e2, c⟩, r⟩ := x
    exact ⟨ho _ d, z, ne, k _ _ (.inl rfl) e, mA, ⟨od, es, ep, k _ _ (.inr d) e2, c⟩, r⟩
  | own y => obtain ⟨ob, e⟩ := x; exact ⟨ob, k _ _ (.inl rfl) e⟩
  | xd fs => obtain ⟨mA, ⟨od, es, ep, e, c⟩, r⟩ := x; exact ⟨mA, ⟨od, es, ep, k _ _ (.inl rfl) e, c⟩, r⟩
  | rng lo hi => obtain ⟨t, u, v, e⟩ := x; exact ⟨t, u, v, k _ _ (.inl rfl) e⟩
  | frz ob u ih => obtain ⟨e, q⟩ := x; exact ⟨k _ _ (.inl rfl) e, ih q⟩
  | tbl ps =>
    have e : h.get? a = some { cls := .none, data := .fields ps } := x
    show h'.get? a = some { cls := .none, data := .fields ps }
    exact k a _ (.inl rfl) e
  | met f y =>
    have e : h.get? a = some (PySem.W.methodObj (.ref f) (.ref y)) := x
    show h'.get? a = some (PySem.W.methodObj (.ref f) (.ref y))
    exact k a _ (.inl rfl) e
  | ext φ => obtain ⟨p, ⟨o, e⟩, st⟩ := x; exact ⟨st _ _ p fun o q => k _ _ (.inl rfl) q, ⟨o, k _ _ (.inl rfl) e⟩, st⟩
theorem HOk.lt (x : HOk P w H h) (e : H a = some o) : a < h.objs.size := (x a o e).lt
theorem HOk.fresh (x : HOk P w H h) (e : h.objs.size ≤ a) : H a = none := by
  cases q : H a with
  | none => rfl
  | some u => exact absurd (Nat.lt_of_lt_of_le (x.lt q) e) (Nat.lt_irrefl _)
/-- every object of the heap is kept -/
theorem HOk.kept (x : HOk P w H h) (k : ∀ b u, h.get? b = some u → h'.get? b = some u) : HOk P w H h' := fun a o e =>
  (x a o e).stay (fun b u _ q => k b u q) (fun _ q => q) fun _ _ q => q
/-- a new object is laid and tracked -/
theorem HOk.laid (x : HOk P w H h) (k : ∀ b u, h.get? b = some u → h'.get? b = some u) (hp : h.objs.size ≤ a) (new : ObjOk P w (upd H a o) h' a o) : HOk P w (upd H a o) h' := fun b u e => by
  have hn := x.fresh hp
  by_cases hb : b = a
  · subst hb; rw [upd_same] at e; cases e; exact new
  · rw [upd_ne hb] at e
    exact (x b u e).stay (fun c v _ q => k c v q) (fun c q => by rw [upd_ne (ne_of_none q hn)]; exact q) fun c xs q => by rw [upd_ne (ne_of_none q hn)]; exact q
end

/-- what may be read as u: it is u, or a known u -/
def Rd (H : Hp) (a : Addr) (u : HO) : Prop := H a = some u ∨ ∃ o, H a = some (.frz o u)
theorem Rd.ok {P : Program} {w : World} {H : Hp} {h : Heap} {a : Addr} {u : HO} (r : Rd H a u) (x : HOk P w H h) : ObjOk P w H h a u := by
  rcases r with r | ⟨o, r⟩
  · exact x a u r
  · obtain ⟨_, q⟩ := x a _ r
    exact q
/-- what may be written -/
def Mut : Option HO → Prop
  | some (.lst _) => True
  | some (.dK _) => True
  | some (.dT _) => True
  | some (.set _ _) => True
  | some (.ins _ _ _) => True
  | some (.ext _) => True
  | _ => False
section
variable {P : Program} {w : World} {H : Hp} {h h' : Heap} {x e : Addr} {o' : HO}
/-- the object at e is changed: x itself, or the dict of the instance x -/
theorem HOk.write (ok : HOk P w H h) (mu : Mut (H x)) (he : e = x ∨ H e = some (.own x)) (k : ∀ b u, b ≠ e → h.get? b = some u → h'.get? b = some u) (heo : ∃ u, h'.get? e = some u)
    (new : ObjOk P w (upd H x o') h' x o') : HOk P w (upd H x o') h' := fun b u q => by
  have nown : ∀ c y, H c = some (.own y) → c ≠ x := fun c y r z => by subst z; rw [r] at mu; exact mu
  have ntup : ∀ c xs, H c = some (.tup xs) → c ≠ x := fun c xs r z => by subst z; rw [r] at mu; exact mu
  by_cases hb : b = x
  · subst hb; rw [upd_same] at q; cases q; exact new
  · rw [upd_ne hb] at q
    by_cases hbe : b = e
    · have q' : H b = some (.own x) := by
        rcases he with z | z
        · exact absurd (hbe.trans z) hb
        · rw [hbe]; exact z
      rw [q] at q'; cases q'
      obtain ⟨v, hv⟩ := heo
      exact ⟨v, by rw [hbe]; exact hv⟩
    · refine (ok b u q).stay (fun c v hc r => k c v ?_ r) (fun c r => by rw [upd_ne (nown c b r)]; exact r) fun c xs r => by rw [upd_ne (ntup c xs r)]; exact r
      rcases hc with rfl | hc
      · exact hbe
      · rintro rfl
        rcases he with z | z
        · exact nown c b hc z
        · rw [hc] at z; cases z; exact hb rfl
end

/-! ### kept unless tracked; of the frames at fs (the callers') the slots may change (an exception that passes writes there); of the records at ex (iterators) nothing is said -/
structure Un (fs ex : List Addr) (H H' : Hp) (h h' : Heap) : Prop where
  keep : ∀ b o, h.get? b = some o → H b = none → b ∉ fs → b ∉ ex → h'.get? b = some o
  slot : ∀ b o, h.get? b = some o → H b = none → b ∈ fs → b ∉ ex → ∃ sl, h'.get? b = some { o with slots := sl }
  free : ∀ b o, h.get? b = some o → H b = none → b ∉ ex → H' b = none
  there : ∀ b o, h.get? b = some o → b ∉ ex → ∃ o', h'.get? b = some o'
  tups : ∀ b xs, H b = some (.tup xs) → H' b = some (.tup xs)
  frzs : ∀ b o u, H b = some (.frz o u) → H' b = some (.frz o u)
  tbls : ∀ b ps, H b = some (.tbl ps) → ∃ more, H' b = some (.tbl (ps ++ more))
section
variable {fs fs' ex ex' : List Addr} {H H1 H2 : Hp} {h h1 h2 h' : Heap} {a x e : Addr} {o : HO}
theorem Un.any (u : Un fs ex H H1 h h1) {b : Addr} {ob : Obj} (q : h.get? b = some ob) (n : H b = none) (hx : b ∉ ex) : ∃ sl, h1.get? b = some { ob with slots := sl } := by
  by_cases hb : b ∈ fs
  · exact u.slot b ob q n hb hx
  · exact ⟨ob.slots, u.keep b ob q n hb hx⟩
theorem Un.kept (k : ∀ b u, h.get? b = some u → h'.get? b = some u) : Un fs ex H H h h' :=
  ⟨fun b ob q _ _ _ => k b ob q, fun b ob q _ _ _ => ⟨ob.slots, k b ob q⟩, fun _ _ _ n _ => n, fun b ob q _ => ⟨ob, k b ob q⟩, fun _ _ q => q, fun _ _ _ q => q, fun _ ps q => ⟨#[], by rw [q]; simp⟩⟩
theorem Un.refl : Un fs ex H H h h := Un.kept fun _ _ q => q
theorem Un.laid (k : ∀ b u, h.get? b = some u → h'.get? b = some u) (hp : h.objs.size ≤ a) (hn : H a = none) : Un fs ex H (upd H a o) h h' where
  keep := fun b u q _ _ _ => k b u q
  slot := fun b u q _ _ _ => ⟨u.slots, k b u q⟩
  free := fun b u q n _ => by rw [upd_ne (Nat.ne_of_lt (Nat.lt_of_lt_of_le (Heap.lt_size q) hp))]; exact n
  there := fun b u q _ => ⟨u, k b u q⟩
  tups := fun b xs q => by rw [upd_ne (ne_of_none q hn)]; exact q
  frzs := fun b u xs q => by rw [upd_ne (ne_of_none q hn)]; exact q
  tbls := fun b ps q => ⟨#[], by rw [upd_ne (ne_of_none q hn), q]; simp⟩
theorem Un.write (mu : Mut (H x)) (he : e = x ∨ H e = some (.own x)) (k : ∀ b u, b ≠ e → h.get? b = some u → h'.get? b = some u) (heo : ∃ u, h'.get? e = some u) : Un fs ex H (upd H x o) h h' := by
  have hx : ∀ b, H b = none → b ≠ x := fun b n z => by subst z; rw [n] at mu; exact mu
  have hb : ∀ b, H b = none → b ≠ e := fun b n z => by
    subst z
    rcases he with r | r
    · exact hx b n r
    · rw [n] at r; cases r
  have hm : ∀ b u, H b = some u → ¬ Mut (some u) → b ≠ x := fun b u q nm z => by subst z; rw [q] at mu; exact nm mu
  refine ⟨fun b u q n _ _ => k b u (hb b n) q, fun b u q n _ _ => ⟨u.slots, k b u (hb b n) q⟩, fun b u q n _ => by rw [upd_ne (hx b n)]; exact n, fun b u q _ => ?_,
    fun b xs q => by rw [upd_ne (hm b _ q fun z => z)]; exact q, fun b u xs q => by rw [upd_ne (hm b _ q fun z => z)]; exact q, fun b ps q => ⟨#[], by rw [upd_ne (hm b _ q fun z => z), q]; simp⟩⟩
  by_cases hbe : b = e
  · subst hbe; exact heo
  · exact ⟨u, k b u hbe q⟩
end

/-! ### the heap without what is tracked -/
def trk (h : Heap) (H : Hp) : List Addr := (List.range h.objs.size).filter fun a => (H a).isSome
def hidT (h : Heap) (H : Hp) : Heap := PySem.W.hideAll h (trk h H)
theorem hidT_size (h : Heap) (H : Hp) : (hidT h H).objs.size = h.objs.size := PySem.W.hideAll_size _ _
theorem hidT_get {h : Heap} {H : Hp} {b : Addr} {o : Obj} (e : h.get? b = some o) (n : H b = none) : (hidT h H).get? b = some o :=
  PySem.W.hideAll_get _ e fun hm => by
    have q : (H b).isSome = true := (List.mem_filter.mp hm).2
    rw [n] at q; simp at q
theorem of_hidT {h : Heap} {H : Hp} {b : Addr} {o : Obj} (e : (hidT h H).get? b = some o) : h.get? b = some o ∧ H b = none := by
  have e' : h.get? b = some o := PySem.W.of_hideAll (trk h H) e
  refine ⟨e', ?_⟩
  cases q : H b with
  | none => rfl
  | some x =>
    have hm : b ∈ trk h H := List.mem_filter.mpr ⟨List.mem_range.mpr (Heap.lt_size e'), by simp [q]⟩
    have z : (hidT h H).get? b = none := PySem.W.hideAll_none (trk h H) hm
    rw [z] at e; cases e

/-! ### OpenK's ledger, filled with every new object but one -/
end L2

namespace L2
open PySem PySem.Spec PyProof.Rows

/-- the module's facts, over the base: the heap at the law's entry without what is tracked there -/
structure Mod (K : PySem.W.Frag) (mg : Str → Option Value) (base : Heap) : Prop where
  kin : K.In base
  glob : base.Ns mainGlobals mg
  blt : ∃ mb, base.Ns builtinsNs mb ∧ ∀ x : Str, x ≠ "__name__" → mb x = bootBuiltins x
  nolimit : base.NoLimit

/-- the context: a def's body (or a comprehension's block) running. base: fixed through the whole law; s₀, H₀: the entry; outer: the frames whose slots others may change (a def's callers); stack: all frames that run;
   ex: iterators that were made ahead of the entry and are walked here (a comprehension's); fn: the names whose cells were made at the entry (a def: all; a comprehension's block: its own); calm: not within an except suite; pn: pins that every state bears; xe: what is wanted of an exception that leaves the code -/
structure Cx where
  prog : Program
  w : World
  K : PySem.W.Frag
  mg : Str → Option Value
  base : Heap
  A : Around
  N : List Str
  s₀ : Shared
  H₀ : Hp
  env : Env
  outer : List Env
  stack : List Env
  ex : List Addr
  fn : Str → Bool
  calm : Bool
  pn : List (Addr × Obj)
  xe : Value → Shared → Prop
/-- the callers' frames -/
def frs (l : List Env) : List Addr := l.filterMap (·.frame)
abbrev Cx.fs (X : Cx) : List Addr := frs X.outer

def Vis (sc : Scope) (x : Str) : Prop := sc.names.lookup x = some .local ∨ sc.names.lookup x = some .cell ∨ sc.names.lookup x = some .free
def Loc (sc : Scope) (x : Str) : Prop := sc.names.lookup x = some .local ∨ sc.names.lookup x = some .cell
def Look (env : Env) (h : Heap) (m : Str → Option Value) (x : Str) (u : Value) : Prop :=
  (env.kindOf x = some .local ∧ m x = some u) ∨ ((env.kindOf x = some .cell ∨ env.kindOf x = some .free) ∧ ∃ c, env.cells.lookup x = some c ∧ h.IsCell c (some u))

structure Cx.Ok (X : Cx) : Prop where
  mod : Mod X.K X.mg X.base
  kind : X.env.scope.kind = .function
  glob : X.env.globals = mainGlobals
  blt : X.env.builtins = builtinsNs
  above : X.s₀.heap.objs.size ≤ X.env.locals
  inj : ∀ x y c, X.env.cells.lookup x = some c → X.env.cells.lookup y = some c → x = y
  has : ∀ x, (X.env.kindOf x = some .cell ∨ X.env.kindOf x = some .free) → ∃ c, X.env.cells.lookup x = some c
  cab : ∀ x c, X.fn x = true → X.env.cells.lookup x = some c → X.s₀.heap.objs.size ≤ c
  hd : X.calm = true → X.A.handled = none
  frames : X.A.frames = some X.stack
  stk : X.stack = X.outer ∨ (X.stack = X.env :: X.outer ∧ X.env.frame = some X.env.locals)
  exf : ∀ b ∈ X.ex, b ≠ X.env.locals ∧ ∀ x c, X.env.cells.lookup x = some c → c ≠ b
  bs : ∀ b o, X.base.get? b = some o → X.s₀.heap.get? b = some o ∧ X.H₀ b = none
  bsz : X.base.objs.size ≤ X.s₀.heap.objs.size
  noex : ∀ b o, X.base.get? b = some o → b ∉ X.ex
  exfs : ∀ b ∈ X.ex, b ∉ X.fs
  funs : X.s₀.heap.FunFrames X.base X.outer
  frf : ∀ b ∈ X.fs, X.H₀ b = none

structure Inv (X : Cx) (pins : List (Addr × Obj)) (σ : List (Option V)) (H : Hp) (s : Shared) : Prop where
  ok : X.Ok
  os : s.os = X.s₀.os
  bare : AllBare s.gens
  base : Un X.fs X.ex X.H₀ H X.s₀.heap s.heap
  loc : ∃ m, s.heap.Ns X.env.locals m ∧ ∀ (i : Nat) (x : Str) (v : V), X.N[i]? = some x → σ[i]? = some (some v) → Vis X.env.scope x → ∃ u, RelV v u ∧ Look X.env s.heap m x u
  cell : ∀ x c, X.env.cells.lookup x = some c → ∃ v, s.heap.IsCell c v
  free : H X.env.locals = none
  freeC : ∀ x c, X.env.cells.lookup x = some c → H c = none
  pin : ∀ p ∈ X.pn ++ pins, s.heap.get? p.1 = some p.2 ∧ H p.1 = none ∧ p.1 ≠ X.env.locals ∧ p.1 ∉ X.fs ∧ ∀ v, p.2.data ≠ .cell v
  hok : HOk X.prog X.w H s.heap
  len : σ.length = X.N.length

section
variable {X : Cx} {pins : List (Addr × Obj)} {σ : List (Option V)} {H H' : Hp} {s : Shared} {h' : Heap}

theorem Cx.Ok.nofr (ok : X.Ok) {b : Addr} {o : Obj} (e : X.base.get? b = some o) : b ∉ X.fs := fun hb => by
  have := (ok.funs.mem hb).1
  rw [e] at this; cases this
theorem Inv.bs (I : Inv X pins σ H s) : ∀ b o, X.base.get? b = some o → s.heap.get? b = some o ∧ H b = none := fun b o e =>
  ⟨I.base.keep b o (I.ok.bs b o e).1 (I.ok.bs b o e).2 (I.ok.nofr e) (I.ok.noex b o e), I.base.free b o (I.ok.bs b o e).1 (I.ok.bs b o e).2 (I.ok.noex b o e)⟩
theorem Inv.bk (I : Inv X pins σ H s) : ∀ b o, X.base.get? b = some o → s.heap.get? b = some o := fun b o e => (I.bs b o e).1
theorem Inv.mod (I : Inv X pins σ H s) : Mod X.K X.mg X.base := I.ok.mod
theorem Inv.kIn (I : Inv X pins σ H s) : X.K.In s.heap := I.ok.mod.kin.keeps I.bk
theorem Inv.lt (I : Inv X pins σ H s) : X.env.locals < s.heap.objs.size := let ⟨_, hn, _⟩ := I.loc; hn.lt
theorem Inv.sz (I : Inv X pins σ H s) : X.s₀.heap.objs.size ≤ s.heap.objs.size := Nat.le_trans I.ok.above (Nat.le_of_lt I.lt)
theorem Inv.nofs (I : Inv X pins σ H s) {a : Addr} (h : s.heap.objs.size ≤ a) : a ∉ X.fs := fun hb => by
  obtain ⟨_, o, ho, _⟩ := I.ok.funs.mem hb
  exact absurd (Nat.lt_of_lt_of_le (Heap.lt_size ho) (Nat.le_trans I.sz h)) (Nat.lt_irrefl _)
theorem Inv.cne (I : Inv X pins σ H s) : ∀ x c, X.env.cells.lookup x = some c → c ≠ X.env.locals := fun x c e z => by
  obtain ⟨v, o, ho, hd⟩ := I.cell x c e
  obtain ⟨m, ⟨o', es, ep, ho', hd', _⟩, _⟩ := I.loc
  rw [z, ho'] at ho; cases ho; rw [hd'] at hd; cases hd
theorem Inv.funs (I : Inv X pins σ H s) : s.heap.FunFrames X.base X.outer := by
  have all : ∀ (l : List Env), (∀ b ∈ frs l, b ∈ X.fs) → X.s₀.heap.FunFrames X.base l → s.heap.FunFrames X.base l := by
    intro l
    induction l with
    | nil => intro _ _; trivial
    | cons env r ih =>
      intro hs hl
      obtain ⟨hk, ⟨L, o, hf, hn, ho, hd⟩, hr⟩ := hl
      have hL : L ∈ X.fs := hs L (by unfold frs; rw [List.filterMap_cons, hf]; exact List.mem_cons_self)
      obtain ⟨sl, e⟩ := I.base.slot L o ho (I.ok.frf L hL) hL fun z => I.ok.exfs L z hL
      exact ⟨hk, ⟨L, _, hf, hn, e, hd⟩, ih (fun b hb => hs b (by unfold frs; rw [List.filterMap_cons, hf]; exact List.mem_cons_of_mem _ hb)) hr⟩
  exact all X.outer (fun _ hb => hb) I.ok.funs

/-- the frames that run, for a call -/
theorem Inv.stack (I : Inv X pins σ H s) : s.heap.FunFrames X.base X.stack := by
  rcases I.ok.stk with e | ⟨e, hf⟩
  · rw [e]; exact I.funs
  · rw [e]
    obtain ⟨m, hn, _⟩ := I.loc
    refine .cons (by rw [I.ok.kind]; decide) hf hn ?_ I.funs
    exact Heap.get?_none_of_le (Nat.le_trans I.ok.bsz I.ok.above)
theorem Inv.stkSub (I : Inv X pins σ H s) : ∀ b ∈ frs X.stack, b ∈ X.env.locals :: X.fs := fun b hb => by
  rcases I.ok.stk with e | ⟨e, hf⟩
  · rw [e] at hb; exact List.mem_cons_of_mem _ hb
  · rw [e] at hb
    unfold frs at hb
    rw [List.filterMap_cons, hf] at hb
    exact hb
theorem Inv.stkFree (I : Inv X pins σ H s) : ∀ b ∈ frs X.stack, H b = none := fun b hb => by
  rcases List.mem_cons.mp (I.stkSub b hb) with e | hb
  · rw [e]; exact I.free
  · obtain ⟨_, o, ho, _⟩ := I.ok.funs.mem hb
    exact I.base.free b o ho (I.ok.frf b hb) fun z => I.ok.exfs b z hb

/-- THE STEP: the untracked objects but the frame and the records at ch are kept (the callers' frames up to slots), the frame's map is kept, the new abstract heap is held -/
theorem Inv.step {g' : Array GenState} {t' : Nat} {d' : Drawn} {ch : List Addr} (I : Inv X pins σ H s)
    (hch : ∀ b ∈ ch, (b ∈ X.ex ∨ X.s₀.heap.objs.size ≤ b) ∧ b ≠ X.env.locals ∧ (∀ x c, X.env.cells.lookup x = some c → c ≠ b) ∧ ∀ p ∈ X.pn ++ pins, p.1 ≠ b)
    (keep : ∀ b o, b ≠ X.env.locals → b ∉ X.fs → b ∉ ch → s.heap.get? b = some o → H b = none → h'.get? b = some o)
    (slot : ∀ b o, b ≠ X.env.locals → b ∈ X.fs → b ∉ ch → s.heap.get? b = some o → H b = none → ∃ sl, h'.get? b = some { o with slots := sl }) (free : ∀ b o, b ∉ ch → s.heap.get? b = some o → H b = none → H' b = none)
    (there : ∀ b o, b ∉ ch → s.heap.get? b = some o → ∃ o', h'.get? b = some o')
    (tups : ∀ b xs, H b = some (.tup xs) → H' b = some (.tup xs)) (frzs : ∀ b o u, H b = some (.frz o u) → H' b = some (.frz o u)) (tbls : ∀ b ps, H b = some (.tbl ps) → ∃ more, H' b = some (.tbl (ps ++ more)))
    (ns : ∀ m, s.heap.Ns X.env.locals m → h'.Ns X.env.locals m) (hok : HOk X.prog X.w H' h') (hg : AllBare g') :
    Inv X pins σ H' { s with heap := h', gens := g', drawn := d', toks := t' } := by
  have neL : ∀ b o, X.s₀.heap.get? b = some o → b ≠ X.env.locals := fun b o e => Nat.ne_of_lt (Nat.lt_of_lt_of_le (Heap.lt_size e) I.ok.above)
  have neC : ∀ b o, X.s₀.heap.get? b = some o → b ∉ X.ex → b ∉ ch := fun b o e hx hb => by
    rcases (hch b hb).1 with z | z
    · exact hx z
    · exact absurd (Nat.lt_of_lt_of_le (Heap.lt_size e) z) (Nat.lt_irrefl _)
  have cellK : ∀ x c, X.env.cells.lookup x = some c → ∀ v, s.heap.IsCell c v → h'.IsCell c v := fun x c e v ⟨o, ho, hd⟩ => by
    have nch : c ∉ ch := fun z => (hch c z).2.2.1 x c e rfl
    by_cases hc : c ∈ X.fs
    · obtain ⟨sl, q⟩ := slot c o (I.cne x c e) hc nch ho (I.freeC x c e)
      exact ⟨_, q, hd⟩
    · exact ⟨o, keep c o (I.cne x c e) hc nch ho (I.freeC x c e), hd⟩
  refine ⟨I.ok, I.os, hg, ⟨fun b o e n hb hx => ?_, fun b o e n hb hx => ?_, fun b o e n hx => ?_, fun b o e hx => ?_, fun b xs e => tups b xs (I.base.tups b xs e), fun b o xs e => frzs b o xs (I.base.frzs b o xs e), fun b ps e => ?_⟩, ?_, fun x c e => ?_, ?_, fun x c e => ?_, fun p hp => ?_, hok, I.len⟩
  · exact keep b o (neL b o e) hb (neC b o e hx) (I.base.keep b o e n hb hx) (I.base.free b o e n hx)
  · obtain ⟨sl, e1⟩ := I.base.slot b o e n hb hx
    obtain ⟨sl', e2⟩ := slot b _ (neL b o e) hb (neC b o e hx) e1 (I.base.free b o e n hx)
    exact ⟨sl', e2⟩
  · obtain ⟨o', e1⟩ := I.base.there b o e hx
    exact free b o' (neC b o e hx) e1 (I.base.free b o e n hx)
  · obtain ⟨o', e1⟩ := I.base.there b o e hx
    exact there b o' (neC b o e hx) e1
  · obtain ⟨m1, e1⟩ := I.base.tbls b ps e
    obtain ⟨m2, e2⟩ := tbls b _ e1
    exact ⟨m1 ++ m2, by rw [e2, Array.append_assoc]⟩
  · obtain ⟨m, hn, hl⟩ := I.loc
    refine ⟨m, ns m hn, fun i x v e1 e2 e3 => ?_⟩
    obtain ⟨u, r, l⟩ := hl i x v e1 e2 e3
    refine ⟨u, r, ?_⟩
    rcases l with l | ⟨k, c, e, z⟩
    · exact .inl l
    · exact .inr ⟨k, c, e, cellK x c e _ z⟩
  · obtain ⟨v, z⟩ := I.cell x c e
    exact ⟨v, cellK x c e v z⟩
  · obtain ⟨m, ⟨o, _, _, ho, _⟩, _⟩ := I.loc
    exact free _ o (fun z => (hch _ z).2.1 rfl) ho I.free
  · obtain ⟨v, o, ho, hd⟩ := I.cell x c e
    exact free c o (fun z => (hch c z).2.2.1 x c e rfl) ho (I.freeC x c e)
  · obtain ⟨e, n, ne, nf, d⟩ := I.pin p hp
    have nch : p.1 ∉ ch := fun z => (hch p.1 z).2.2.2 p hp rfl
    exact ⟨keep p.1 p.2 ne nf nch e n, free p.1 p.2 nch e n, ne, nf, d⟩
/-- .. where the frame's own object is kept too -/
theorem Inv.un {t' : Nat} (I : Inv X pins σ H s) (u : Un X.fs [] H H' s.heap h') (hok : HOk X.prog X.w H' h') : Inv X pins σ H' { s with heap := h', toks := t' } := by
  obtain ⟨m, ⟨o, es, ep, ho, r⟩, _⟩ := id I.loc
  obtain ⟨sl, hL⟩ := u.any ho I.free (by simp)
  exact I.step (g' := s.gens) (d' := s.drawn) (ch := []) (fun _ z => nomatch z) (fun b o _ hb _ e n => u.keep b o e n hb (by simp)) (fun b o _ hb _ e n => u.slot b o e n hb (by simp)) (fun b o _ e n => u.free b o e n (by simp)) (fun b o _ e => u.there b o e (by simp)) u.tups u.frzs u.tbls (fun m' hm => by
    obtain ⟨o', es', ep', ho', r'⟩ := hm
    rw [ho] at ho'; cases ho'
    exact ⟨_, es', ep', hL, r'⟩) hok I.bare
/-- behind a call (or a comprehension's block): the slots of this frame may have changed too, the records at ch may have turned -/
theorem Inv.call {g' : Array GenState} {t' : Nat} {d' : Drawn} {ch : List Addr} (I : Inv X pins σ H s) (u : Un (frs X.stack) ch H H' s.heap h') (hok : HOk X.prog X.w H' h') (hg : AllBare g')
    (hch : ∀ b ∈ ch, (b ∈ X.ex ∨ X.s₀.heap.objs.size ≤ b) ∧ b ≠ X.env.locals ∧ (∀ x c, X.env.cells.lookup x = some c → c ≠ b) ∧ ∀ p ∈ X.pn ++ pins, p.1 ≠ b) :
    Inv X pins σ H' { s with heap := h', gens := g', drawn := d', toks := t' } := by
  obtain ⟨m, ⟨o, es, ep, ho, r⟩, _⟩ := id I.loc
  obtain ⟨sl, hL⟩ := u.any ho I.free fun z => (hch _ z).2.1 rfl
  exact I.step (ch := ch) hch (fun b o hL hb hc e n => u.keep b o e n (fun z => (List.mem_cons.mp (I.stkSub b z)).elim hL hb) hc) (fun b o _ _ hc e n => u.any e n hc) (fun b o hc e n => u.free b o e n hc) (fun b o hc e => u.there b o e hc) u.tups u.frzs u.tbls (fun m' hm => by
    obtain ⟨o', es', ep', ho', r'⟩ := hm
    rw [ho] at ho'; cases ho'
    exact ⟨_, es', ep', hL, r'⟩) hok hg
/-- an untracked record of ours (an iterator) has turned -/
theorem Inv.turned {t' : Nat} {it : Addr} (I : Inv X pins σ H s) (k : ∀ b o, b ≠ it → s.heap.get? b = some o → h'.get? b = some o) (hn : H it = none) (hL : it ≠ X.env.locals)
    (h1 : it ∈ X.ex ∨ X.s₀.heap.objs.size ≤ it) (h2 : ∀ x c, X.env.cells.lookup x = some c → c ≠ it) (h3 : ∀ p ∈ X.pn ++ pins, p.1 ≠ it) : Inv X pins σ H { s with heap := h', toks := t' } := by
  have nit : ∀ b u, H b = some u → b ≠ it := fun b u e z => by rw [z, hn] at e; cases e
  refine I.step (g' := s.gens) (d' := s.drawn) (ch := [it]) (fun b hb => ?_) (fun b o _ _ hc e _ => k b o (fun z => hc (by simp [z])) e) (fun b o _ _ hc e _ => ⟨o.slots, k b o (fun z => hc (by simp [z])) e⟩) (fun _ _ _ _ n => n)
    (fun b o hc e => ⟨o, k b o (fun z => hc (by simp [z])) e⟩) (fun _ _ e => e) (fun _ _ _ e => e) (fun b ps e => ⟨#[], by rw [e]; simp⟩) (fun m hm => ?_) (fun b u e => ?_) I.bare
  · have e : b = it := by simpa using hb
    subst e
    exact ⟨h1, hL, h2, h3⟩
  · obtain ⟨o, es, ep, ho, r⟩ := hm
    exact ⟨o, es, ep, k _ o (Ne.symm hL) ho, r⟩
  · refine (I.hok b u e).stay (fun c v hc q => k c v ?_ q) (fun _ q => q) fun _ _ q => q
    rcases hc with z | z
    · rw [z]; exact nit b u e
    · exact nit c _ z
theorem Inv.tok (I : Inv X pins σ H s) (t : Nat) : Inv X pins σ H { s with toks := t } := I.un (h' := s.heap) (t' := t) Un.refl I.hok
/-- all objects kept -/
theorem Inv.kept {t' : Nat} (I : Inv X pins σ H s) (k : ∀ b u, s.heap.get? b = some u → h'.get? b = some u) : Inv X pins σ H { s with heap := h', toks := t' } := I.un (Un.kept k) (I.hok.kept k)
/-- a new object laid and tracked -/
theorem Inv.laid {a : Addr} {o : HO} {t' : Nat} (I : Inv X pins σ H s) (k : ∀ b u, s.heap.get? b = some u → h'.get? b = some u) (hp : s.heap.objs.size ≤ a) (new : ObjOk X.prog X.w (upd H a o) h' a o) :
    Inv X pins σ (upd H a o) { s with heap := h', toks := t' } := I.un (Un.laid k hp (I.hok.fresh hp)) (I.hok.laid k hp new)
/-- an object written -/
theorem Inv.write {x e : Addr} {o : HO} {t' : Nat} (I : Inv X pins σ H s) (mu : Mut (H x)) (he : e = x ∨ H e = some (.own x)) (k : ∀ b u, b ≠ e → s.heap.get? b = some u → h'.get? b = some u) (heo : ∃ u, h'.get? e = some u)
    (new : ObjOk X.prog X.w (upd H x o) h' x o) : Inv X pins σ (upd H x o) { s with heap := h', toks := t' } := I.un (Un.write mu he k heo) (I.hok.write mu he k heo new)
theorem Inv.pins_of {pins' : List (Addr × Obj)} (I : Inv X pins σ H s) (h : ∀ p ∈ pins', s.heap.get? p.1 = some p.2 ∧ H p.1 = none ∧ p.1 ≠ X.env.locals ∧ p.1 ∉ X.fs ∧ ∀ v, p.2.data ≠ .cell v) : Inv X pins' σ H s :=
  ⟨I.ok, I.os, I.bare, I.base, I.loc, I.cell, I.free, I.freeC, fun p hp => (List.mem_append.mp hp).elim (fun z => I.pin p (List.mem_append_left _ z)) (h p), I.hok, I.len⟩

theorem nodup_ix {N : List Str} (hN : N.Nodup) {i j : Nat} {x : Str} (a : N[i]? = some x) (b : N[j]? = some x) : i = j := by
  obtain ⟨h1, e1⟩ := List.getElem?_eq_some_iff.mp a
  obtain ⟨h2, e2⟩ := List.getElem?_eq_some_iff.mp b
  exact (List.getElem_inj hN).mp (e1.trans e2.symm)

/-- a name is stored; what changed -/
theorem store_ok2 {M : Model} {A : Around} {E : Value → Shared → Prop} {i : Nat} {x : Str} {v : V} {u : Value} {Q : Unit → Shared → Prop} (I : Inv X pins σ H s) (hN : X.N.Nodup) (hi : X.N[i]? = some x) (hx : Loc X.env.scope x) (r : RelV v u)
    (h : ∀ s', Inv X pins (σ.set i (some v)) H s' → (∃ a, Heap.SameBut a s.heap s'.heap ∧ (a = X.env.locals ∨ X.env.cells.lookup x = some a)) → Q () s') (hf : X.fn x = true ∨ X.env.scope.names.lookup x = some .local := by first | exact .inl rfl | exact .inr rfl | assumption) : wpAny M A (storeName X.env x u) Q E s := by
  obtain ⟨m, hn, hl⟩ := id I.loc
  have hcls : (X.env.scope.kind == .class || (X.env.scope.kind == .module && X.env.locals != X.env.globals)) = false := by rw [I.ok.kind]; rfl
  have hiσ : i < σ.length := by rw [I.len]; exact (List.getElem?_eq_some_iff.mp hi).1
  have cne := I.cne
  have tracked : ∀ {a : Addr} {h' : Heap}, (∃ o, s.heap.get? a = some o ∧ H a = none) → Heap.SameBut a s.heap h' → HOk X.prog X.w H h' := fun {a h'} ha hs b ob e => by
    obtain ⟨_, _, hfree⟩ := ha
    refine (I.hok b ob e).stay (fun c w' hc q => (hs.2 c ?_).trans q) (fun _ q => q) fun _ _ q => q
    rintro rfl
    rcases hc with rfl | hc
    · rw [hfree] at e; cases e
    · rw [hfree] at hc; cases hc
  rcases hx with hk | hk
  · refine wpAny_storeName_local hk hn (fun h' hn' hs => ?_) hcls
    obtain ⟨oL, _, _, hoL, _⟩ := id hn
    refine h _ ⟨I.ok, I.os, I.bare, ⟨fun b o e n hb hx => ?_, fun b o e n hb hx => ?_, I.base.free, fun b o e hx => ?_, I.base.tups, I.base.frzs, I.base.tbls⟩, ⟨_, hn', fun j y v' e1 e2 e3 => ?_⟩, fun y c e => ?_, I.free, I.freeC, fun p hp => ?_, tracked ⟨oL, hoL, I.free⟩ hs, by simpa using I.len⟩ ⟨_, hs, .inl rfl⟩
    · exact (hs.2 b (Nat.ne_of_lt (Nat.lt_of_lt_of_le (Heap.lt_size e) I.ok.above))).trans (I.base.keep b o e n hb hx)
    · obtain ⟨sl, e1⟩ := I.base.slot b o e n hb hx
      exact ⟨sl, (hs.2 b (Nat.ne_of_lt (Nat.lt_of_lt_of_le (Heap.lt_size e) I.ok.above))).trans e1⟩
    · obtain ⟨o', e1⟩ := I.base.there b o e hx
      exact ⟨o', (hs.2 b (Nat.ne_of_lt (Nat.lt_of_lt_of_le (Heap.lt_size e) I.ok.above))).trans e1⟩
    · by_cases hj : j = i
      · subst hj
        rw [hi] at e1; cases e1
        rw [List.getElem?_set_self hiσ] at e2
        cases e2
        exact ⟨u, r, .inl ⟨hk, by simp⟩⟩
      · rw [List.getElem?_set_ne (Ne.symm hj)] at e2
        obtain ⟨u', r', q⟩ := hl j y v' e1 e2 e3
        refine ⟨u', r', ?_⟩
        rcases q with ⟨k, e⟩ | ⟨k, c, e, z⟩
        · refine .inl ⟨k, ?_⟩
          have : y ≠ x := fun e => hj (nodup_ix hN e1 (e ▸ hi))
          simp [this, e]
        · exact .inr ⟨k, c, e, z.sameBut hs (cne y c e)⟩
    · obtain ⟨w', z⟩ := I.cell y c e
      exact ⟨w', z.sameBut hs (cne y c e)⟩
    · obtain ⟨e, n, ne, nf, d⟩ := I.pin p hp
      exact ⟨(hs.2 p.1 ne).trans e, n, ne, nf, d⟩
  · have hfn : X.fn x = true := by
      rcases hf with z | z
      · exact z
      · rw [z] at hk; cases hk
    obtain ⟨c, hc⟩ := I.ok.has x (.inl hk)
    obtain ⟨w', z⟩ := I.cell x c hc
    refine wpAny_storeName_cell I.ok.kind hk hc z (fun h' hc' hs => ?_)
    obtain ⟨oc, hoc, hocd⟩ := id z
    refine h { s with heap := h' } ⟨I.ok, I.os, I.bare, ⟨fun b o e n hb hx => ?_, fun b o e n hb hx => ?_, I.base.free, fun b o e hx => ?_, I.base.tups, I.base.frzs, I.base.tbls⟩, ⟨m, hn.sameBut hs (Ne.symm (cne x c hc)), fun j y v' e1 e2 e3 => ?_⟩, fun y c' e => ?_, I.free, I.freeC, fun p hp => ?_, tracked ⟨oc, hoc, I.freeC x c hc⟩ hs, by simpa using I.len⟩ ⟨c, hs, .inr hc⟩
    · exact (hs.2 b (Nat.ne_of_lt (Nat.lt_of_lt_of_le (Heap.lt_size e) (I.ok.cab x c hfn hc)))).trans (I.base.keep b o e n hb hx)
    · obtain ⟨sl, e1⟩ := I.base.slot b o e n hb hx
      exact ⟨sl, (hs.2 b (Nat.ne_of_lt (Nat.lt_of_lt_of_le (Heap.lt_size e) (I.ok.cab x c hfn hc)))).trans e1⟩
    · obtain ⟨o', e1⟩ := I.base.there b o e hx
      exact ⟨o', (hs.2 b (Nat.ne_of_lt (Nat.lt_of_lt_of_le (Heap.lt_size e) (I.ok.cab x c hfn hc)))).trans e1⟩
    · by_cases hj : j = i
      · subst hj
        rw [hi] at e1; cases e1
        rw [List.getElem?_set_self hiσ] at e2
        cases e2
        exact ⟨u, r, .inr ⟨.inl hk, c, hc, hc'⟩⟩
      · rw [List.getElem?_set_ne (Ne.symm hj)] at e2
        obtain ⟨u', r', q⟩ := hl j y v' e1 e2 e3
        refine ⟨u', r', ?_⟩
        rcases q with q | ⟨k, c', e, z'⟩
        · exact .inl q
        · refine .inr ⟨k, c', e, z'.sameBut hs ?_⟩
          rintro rfl
          exact hj (nodup_ix hN e1 (I.ok.inj _ _ _ e hc ▸ hi))
    · by_cases hcc : c' = c
      · subst hcc; exact ⟨_, hc'⟩
      · obtain ⟨w2, z2⟩ := I.cell y c' e
        exact ⟨w2, z2.sameBut hs hcc⟩
    · obtain ⟨e, n, ne, nf, d⟩ := I.pin p hp
      refine ⟨(hs.2 p.1 ?_).trans e, n, ne, nf, d⟩
      intro q
      rw [q, hoc] at e
      have q' : oc = p.2 := Option.some.inj e
      exact d w' (by rw [← q']; exact hocd)
theorem store_ok {M : Model} {A : Around} {E : Value → Shared → Prop} {i : Nat} {x : Str} {v : V} {u : Value} {Q : Unit → Shared → Prop} (I : Inv X pins σ H s) (hN : X.N.Nodup) (hi : X.N[i]? = some x) (hx : Loc X.env.scope x) (r : RelV v u)
    (h : ∀ s', Inv X pins (σ.set i (some v)) H s' → Q () s') (hf : X.fn x = true ∨ X.env.scope.names.lookup x = some .local := by first | exact .inl rfl | exact .inr rfl | assumption) : wpAny M A (storeName X.env x u) Q E s :=
  store_ok2 I hN hi hx r (fun s' I' _ => h s' I') hf
/-- behind a call or a block, the state as it is -/
theorem Inv.call' {s' : Shared} {ch : List Addr} (I : Inv X pins σ H s) (ho : s'.os = s.os) (u : Un (frs X.stack) ch H H' s.heap s'.heap) (hok : HOk X.prog X.w H' s'.heap) (hg : AllBare s'.gens)
    (hch : ∀ b ∈ ch, (b ∈ X.ex ∨ X.s₀.heap.objs.size ≤ b) ∧ b ≠ X.env.locals ∧ (∀ x c, X.env.cells.lookup x = some c → c ≠ b) ∧ ∀ p ∈ X.pn ++ pins, p.1 ≠ b) : Inv X pins σ H' s' := by
  obtain ⟨h', g', d', t', o'⟩ := s'
  have e : o' = s.os := ho
  subst e
  exact I.call (g' := g') (t' := t') (d' := d') u hok hg hch
end

/-! ### the judgements -/
/-- an exception: its class, its own dict's address (where it has one), the abstract heap behind it -/
abbrev XK := Value → Option Addr → Hp → Prop
abbrev St := List (Option V)
abbrev VK := V → Hp → Prop
/-- an expression's reading; a test's; an argument list's -/
abbrev TE := St → Hp → VK → Prop
abbrev TT := St → Hp → (Bool → Hp → Prop) → Prop
abbrev TA := St → Hp → (List V → Hp → Prop) → Prop
/-- what is wanted behind a statement -/
structure Ends where
  nx : St → Hp → Prop
  rt : VK
  bk : St → Hp → Prop := fun _ _ => False
  ct : St → Hp → Prop := fun _ _ => False
abbrev TS := Ends → St → Hp → Prop

def EP (X : Cx) (pins : List (Addr × Obj)) (σ : St) (Q : VK) (u : Value) (s' : Shared) : Prop := ∃ v H', Inv X pins σ H' s' ∧ RelV v u ∧ Q v H'
def TP (X : Cx) (pins : List (Addr × Obj)) (σ : St) (Q : Bool → Hp → Prop) (b : Bool) (s' : Shared) : Prop := ∃ H', Inv X pins σ H' s' ∧ Q b H'
def AP (X : Cx) (pins : List (Addr × Obj)) (σ : St) (Q : List V → Hp → Prop) (us : List Value) (s' : Shared) : Prop := ∃ vs H', Inv X pins σ H' s' ∧ Vals vs us ∧ Q vs H'
def SP (X : Cx) (pins : List (Addr × Obj)) (D : Ends) (f : Flow) (s' : Shared) : Prop :=
  match f with
  | .next => ∃ σ' H', Inv X pins σ' H' s' ∧ D.nx σ' H'
  | .brk => ∃ σ' H', Inv X pins σ' H' s' ∧ D.bk σ' H'
  | .cont => ∃ σ' H', Inv X pins σ' H' s' ∧ D.ct σ' H'
  | .ret u => ∃ v σ' H', Inv X pins σ' H' s' ∧ RelV v u ∧ D.rt v H'

def PE (X : Cx) (e : Expr) (t : TE) : Prop :=
  ∀ (pins : List (Addr × Obj)) (s : Shared) (σ : St) (H : Hp) (Q : VK), Inv X pins σ H s → t σ H Q → wpAny (model X.prog X.w) X.A (eval e X.env) (EP X pins σ Q) X.xe s
def PT (X : Cx) (e : Expr) (t : TT) : Prop :=
  ∀ (pins : List (Addr × Obj)) (s : Shared) (σ : St) (H : Hp) (Q : Bool → Hp → Prop), Inv X pins σ H s → t σ H Q → wpAny (model X.prog X.w) X.A (isTrue e X.env (eval e X.env)) (TP X pins σ Q) X.xe s
/-- a test whatever its 'whole' is (and, or) -/
def PW (X : Cx) (e : Expr) (t : TT) : Prop :=
  ∀ (whole : Sem Value) (pins : List (Addr × Obj)) (s : Shared) (σ : St) (H : Hp) (Q : Bool → Hp → Prop), Inv X pins σ H s → t σ H Q → wpAny (model X.prog X.w) X.A (isTrue e X.env whole) (TP X pins σ Q) X.xe s
theorem PW.pt {X : Cx} {e : Expr} {t : TT} (h : PW X e t) : PT X e t := h _
/-- an argument list (no star), from the left -/
def PA (X : Cx) (es : List Expr) (t : TA) : Prop :=
  ∀ (pos : Pos) (pins : List (Addr × Obj)) (s : Shared) (σ : St) (H : Hp) (Q : List V → Hp → Prop), Inv X pins σ H s → t σ H Q → wpAny (model X.prog X.w) X.A (spliced (backTo pos (starEach es X.env))) (AP X pins σ Q) X.xe s
def PS (X : Cx) (st : Stmt) (t : TS) : Prop :=
  ∀ (pins : List (Addr × Obj)) (s : Shared) (σ : St) (H : Hp) (D : Ends), Inv X pins σ H s → t D σ H → wpAny (model X.prog X.w) X.A (exec st X.env) (SP X pins D) X.xe s
def PSs (X : Cx) (st : List Stmt) (t : TS) : Prop :=
  ∀ (pins : List (Addr × Obj)) (s : Shared) (σ : St) (H : Hp) (D : Ends), Inv X pins σ H s → t D σ H → wpAny (model X.prog X.w) X.A (execs st X.env) (SP X pins D) X.xe s
/-- weaken the end -/
theorem thn {α : Type} {t : Sem α} {Q Q' : α → Shared → Prop} {M : Model} {A : Around} {E : Value → Shared → Prop} {s : Shared} (h : wpAny M A t Q E s) (hQ : ∀ a s, Q a s → Q' a s) : wpAny M A t Q' E s := wpAny_mono h hQ fun _ _ x => x
end L2

namespace L2
open PySem PySem.Spec PyProof.Rows
section
variable {X : Cx}

/-- two expressions in a row -/
theorem bin {a b : Expr} {ta tb : TE} (ha : PE X a ta) (hb : PE X b tb) {pins : List (Addr × Obj)} {s : Shared} {σ : St} {H : Hp} {R : V → V → Hp → Prop} (I : Inv X pins σ H s) (h : ta σ H fun x H1 => tb σ H1 fun y H2 => R x y H2)
    {α : Type} {Q : α → Shared → Prop} {f : Value → Value → Sem α}
    (hf : ∀ v u s2 x y H2, Inv X pins σ H2 s2 → RelV x v → RelV y u → R x y H2 → wpAny (model X.prog X.w) X.A (f v u) Q X.xe s2) :
    wpAny (model X.prog X.w) X.A (eval a X.env) (fun v s₁ => wpAny (model X.prog X.w) X.A (eval b X.env) (fun u s₂ => wpAny (model X.prog X.w) X.A (f v u) Q X.xe s₂) X.xe s₁) X.xe s := by
  refine thn (ha pins s σ H _ I h) fun v s1 ⟨x, H1, I1, r1, q1⟩ => ?_
  refine thn (hb pins s1 σ H1 _ I1 q1) fun u s2 ⟨y, H2, I2, r2, q2⟩ => ?_
  exact hf v u s2 x y H2 I2 r1 r2 q2

/-! ### names and constants -/
def tVar (i : Nat) : TE := fun σ H Q => ∃ v, σ[i]? = some (some v) ∧ Q v H
def tC (v : V) : TE := fun _ H Q => Q v H
theorem pe_var {i : Nat} {x : Str} {pos : Pos} (hN : X.N[i]? = some x) (hv : Vis X.env.scope x) (hd : (x == ("__debug__" : Str)) = false := by decide) (hcd : (x == ("__classdict__" : Str)) = false := by decide) : PE X (.Name x pos) (tVar i) := by
  intro pins s σ H Q I h
  obtain ⟨v, e, h⟩ := h
  obtain ⟨m, hn, hl⟩ := I.loc
  obtain ⟨u, r, l⟩ := hl i x v hN e hv
  have fin : EP X pins σ Q u s := ⟨v, H, I, r, h⟩
  rcases l with ⟨hk, hm⟩ | ⟨hk, c, hc, hcell⟩
  · exact wpAny_Name (wpAny_loadName_local I.ok.kind hk hn hm fin) hd
  · rcases hk with hk | hk
    · exact wpAny_Name (wpAny_loadName_cell I.ok.kind hk hc hcell fin) hd
    · exact wpAny_Name (wpAny_loadName_free I.ok.kind hk hc hcell fin hcd) hd
theorem pe_int {i j pos} : PE X (.Constant (.int i) j pos) (tC (.int i)) := fun _ _ _ H _ I h => wpAny_Constant_int ⟨.int i, H, I.tok _, ⟨_, rfl⟩, h⟩
theorem pe_bl {b j pos} : PE X (.Constant (.bool b) j pos) (tC (.bl b)) := fun _ _ _ H _ I h => Constant_bool ⟨.bl b, H, I, rfl, h⟩
theorem pe_non {j pos} : PE X (.Constant .none j pos) (tC .non) := fun _ _ _ H _ I h => Constant_none ⟨.non, H, I, rfl, h⟩
theorem pe_str {x j pos} : PE X (.Constant (.str x) j pos) (tC (.str x)) := fun _ _ _ H _ I h => Calls.Constant_str ⟨.str x, H, I.tok _, ⟨_, rfl⟩, h⟩

/-- a global name of the def -/
def Gl (X : Cx) (x : Str) : Prop := X.env.kindOf x = some .globalImplicit
theorem ld_glob {E : Value → Shared → Prop} {pins : List (Addr × Obj)} {s : Shared} {σ : St} {H : Hp} {x : Str} {u : Value} {pos : Pos} {Q : Value → Shared → Prop} (I : Inv X pins σ H s) (hg : Gl X x) (hm : X.mg x = some u) (h : Q u s)
    (hd : (x == ("__debug__" : Str)) = false := by decide) : wpAny (model X.prog X.w) X.A (eval (.Name x pos) X.env) Q E s :=
  Calls.Name_function_global I.ok.kind hg (Calls.loadGlobal_global (by rw [I.ok.glob]; exact I.mod.glob.keeps I.bk) hm h) hd
theorem ld_blt {E : Value → Shared → Prop} {pins : List (Addr × Obj)} {s : Shared} {σ : St} {H : Hp} {x : Str} {u : Value} {pos : Pos} {Q : Value → Shared → Prop} (I : Inv X pins σ H s) (hg : Gl X x) (hm : X.mg x = none) (hv : bootBuiltins x = some u) (h : Q u s)
    (hn : x ≠ "__name__" := by decide) (hd : (x == ("__debug__" : Str)) = false := by decide) : wpAny (model X.prog X.w) X.A (eval (.Name x pos) X.env) Q E s := by
  obtain ⟨mb, h1, h2⟩ := I.mod.blt
  exact Calls.Name_function_global I.ok.kind hg (Calls.loadGlobal_builtin (by rw [I.ok.glob]; exact I.mod.glob.keeps I.bk) hm (by rw [I.ok.blt]; exact h1.keeps I.bk) ((h2 x hn).trans hv) h) hd
/-- a module's constant, a class, a function, as a value -/
theorem pe_glob {x : Str} {v : V} {u : Value} {pos : Pos} (hg : Gl X x) (hm : X.mg x = some u) (r : RelV v u) (hd : (x == ("__debug__" : Str)) = false := by decide) : PE X (.Name x pos) (tC v) :=
  fun _ _ _ H _ I h => ld_glob I hg hm ⟨v, H, I, r, h⟩ hd
theorem pe_bltn {x : Str} {v : V} {u : Value} {pos : Pos} (hg : Gl X x) (hm : X.mg x = none) (hv : bootBuiltins x = some u) (r : RelV v u) (hn : x ≠ "__name__" := by decide) (hd : (x == ("__debug__" : Str)) = false := by decide) : PE X (.Name x pos) (tC v) :=
  fun _ _ _ H _ I h => ld_blt I hg hm hv ⟨v, H, I, r, h⟩ hn hd

/-! ### arithmetic -/
/-- two ints -/
def t2I (ta tb : TE) (k : Int → Int → Hp → Prop) : St → Hp → Prop := fun σ H => ta σ H fun x H1 => tb σ H1 fun y H2 => ∃ i j, x = .int i ∧ y = .int j ∧ k i j H2
def tSub (ta tb : TE) : TE := fun σ H Q => t2I ta tb (fun i j H2 => Q (.int (i - j)) H2) σ H
variable {a b : Expr} {ta tb : TE} {pos : Pos}
theorem pe_sub (ha : PE X a ta) (hb : PE X b tb) : PE X (.BinOp a .Sub b pos) (tSub ta tb) := by
  intro pins s σ H Q I h
  refine wpAny_BinOp (bin ha hb I h fun v u s2 x y H2 I2 rx ry q => ?_)
  obtain ⟨i, j, rfl, rfl, q⟩ := q
  obtain ⟨t, rfl⟩ := rx
  obtain ⟨t', rfl⟩ := ry
  exact sub_int ⟨.int _, H2, I2.tok _, ⟨_, rfl⟩, q⟩
/-! ### comparisons -/
def PC (X : Cx) (op : CmpOp) (a b : Expr) (t : TE) : Prop :=
  ∀ (pins : List (Addr × Obj)) (s : Shared) (σ : St) (H : Hp) (Q : VK), Inv X pins σ H s → t σ H Q →
    wpAny (model X.prog X.w) X.A (eval a X.env) (fun v s₁ => wpAny (model X.prog X.w) X.A (eval b X.env) (fun u s₂ => wpAny (model X.prog X.w) X.A (compareOp op v u) (EP X pins σ Q) X.xe s₂) X.xe s₁) X.xe s
theorem nobehind (b : Expr) {op : CmpOp} (h : op ≠ .In) (h2 : op ≠ .NotIn) : behindInMarks op b = false := by
  have e1 : (op == CmpOp.In) = false := by cases op <;> first | rfl | exact absurd rfl h
  have e2 : (op == CmpOp.NotIn) = false := by cases op <;> first | rfl | exact absurd rfl h2
  cases b <;> simp [behindInMarks, e1, e2]
def tCmp (p : Int → Int → Bool) (ta tb : TE) : TE := fun σ H Q => t2I ta tb (fun i j H2 => Q (.bl (p i j)) H2) σ H
abbrev tLt : TE → TE → TE := tCmp fun i j => decide (i < j)
abbrev tGt : TE → TE → TE := tCmp fun i j => decide (j < i)
abbrev tGe : TE → TE → TE := tCmp fun i j => decide (j ≤ i)
abbrev tEqI : TE → TE → TE := tCmp fun i j => decide (i = j)
abbrev tNeI : TE → TE → TE := tCmp fun i j => !decide (i = j)
/-- a comparison of two ints, by its rule -/
theorem pc_int {op : CmpOp} {p : Int → Int → Bool} (ha : PE X a ta) (hb : PE X b tb)
    (rule : ∀ (i j : Int) (t u : Tok) (Q : Value → Shared → Prop) (s : Shared), Q (.bool (p i j)) s → wpAny (model X.prog X.w) X.A (compareOp op (.int i t) (.int j u)) Q X.xe s) : PC X op a b (tCmp p ta tb) := by
  intro pins s σ H Q I h
  refine bin ha hb I h fun v u s2 x y H2 I2 rx ry q => ?_
  obtain ⟨i, j, rfl, rfl, q⟩ := q
  obtain ⟨t, rfl⟩ := rx
  obtain ⟨t', rfl⟩ := ry
  exact rule i j t t' _ s2 ⟨.bl _, H2, I2, rfl, q⟩
theorem pc_lt (ha : PE X a ta) (hb : PE X b tb) : PC X .Lt a b (tLt ta tb) := pc_int ha hb fun _ _ _ _ _ _ h => lt_int h
theorem pc_gt (ha : PE X a ta) (hb : PE X b tb) : PC X .Gt a b (tGt ta tb) := pc_int ha hb fun _ _ _ _ _ _ h => gt_int h
theorem pc_ge (ha : PE X a ta) (hb : PE X b tb) : PC X .GtE a b (tGe ta tb) := pc_int ha hb fun _ _ _ _ _ _ h => ge_int h
theorem pc_eqI (ha : PE X a ta) (hb : PE X b tb) : PC X .Eq a b (tEqI ta tb) := pc_int ha hb fun _ _ _ _ _ _ h => eq_int (by rw [Bool.beq_eq_decide_eq]; exact h)
theorem pc_neI (ha : PE X a ta) (hb : PE X b tb) : PC X .NotEq a b (tNeI ta tb) := pc_int ha hb fun _ _ _ _ _ _ h => ne_int (by rw [bne, Bool.beq_eq_decide_eq]; exact h)
/-- is None -/
def tIsN (ta : TE) : TE := fun σ H Q => ta σ H fun x H1 => Q (.bl (decide (x = .non))) H1
theorem RelV.none_iff {x : V} {v : Value} (r : RelV x v) : (v == Value.none) = decide (x = .non) := by
  cases x with
  | non => cases r; rfl
  | bl _ => cases r; rfl
  | int _ => obtain ⟨t, rfl⟩ := r; rfl
  | str _ => obtain ⟨t, rfl⟩ := r; rfl
  | byt _ => obtain ⟨t, rfl⟩ := r; rfl
  | flt _ => obtain ⟨t, rfl⟩ := r; rfl
  | ref _ => cases r; rfl
  | ty _ => cases r; rfl
theorem pc_isN {j pos'} (ha : PE X a ta) : PC X .Is a (.Constant .none j pos') (tIsN ta) := by
  intro pins s σ H Q I h
  refine thn (ha pins s σ H _ I h) fun v s1 ⟨x, H1, I1, r1, q1⟩ => ?_
  exact Constant_none (is_none_gen ⟨.bl _, H1, I1, by rw [r1.none_iff]; rfl, q1⟩)
/-- a comparison as a value, as a test -/
def tB (t : TE) : TT := fun σ H Q => t σ H fun x H1 => ∃ c, x = .bl c ∧ Q c H1
theorem pe_cmp {op : CmpOp} {t : TE} (h : PC X op a b t) (h1 : behindInMarks op b = false := by first | exact nobehind _ (by decide) (by decide) | rfl) : PE X (.Compare a [op] [b] pos) t := fun pins s σ H Q I hw => wpAny_Compare1 (h pins s σ H Q I hw) h1
theorem pt_cmp {op : CmpOp} {t : TE} (h : PC X op a b t) (h1 : behindInMarks op b = false := by first | exact nobehind _ (by decide) (by decide) | rfl) : PT X (.Compare a [op] [b] pos) (tB t) := by
  intro pins s σ H Q I hw
  refine wpAny_isTrue_Compare1 (thn (h pins s σ H _ I hw) fun v s1 h1 => thn h1 fun u s2 h2 => thn h2 fun c s3 ⟨x, H1, I1, r1, q1⟩ => ?_) h1
  obtain ⟨d, rfl, q⟩ := q1
  cases r1
  exact wpAny_truthy_bool ⟨H1, I1, q⟩
/-- an expression whose value is a bool, as a test -/
theorem pt_val {e : Expr} {t : TE} (h : PE X e t) (he : ∀ whole, isTrue e X.env whole = (do let v ← whole; standAt e.pos; holding [v] (truthy v)) := by intro _; rfl) : PT X e (tB t) := by
  intro pins s σ H Q I hw
  refine isTrue_plain (thn (h pins s σ H _ I hw) fun v s1 ⟨x, H1, I1, r1, q1⟩ => ?_) (he _)
  obtain ⟨d, rfl, q⟩ := q1
  cases r1
  exact wpAny_truthy_bool ⟨H1, I1, q⟩

/-! ### and, or, not -/
variable {tA tB' : TT} {rest : List Expr}
def tAnd (t u : TT) : TT := fun σ H Q => t σ H fun c H1 => if c = true then u σ H1 Q else Q false H1
def tOr (t u : TT) : TT := fun σ H Q => t σ H fun c H1 => if c = true then Q true H1 else u σ H1 Q
def tNot (t : TT) : TT := fun σ H Q => t σ H fun c H1 => Q (!c) H1
theorem pw_and1 (ha : PT X a tA) : PW X (.BoolOp .And [a] pos) tA := by
  intro wh pins s σ H Q I h
  refine isTrue_and (thn (ha pins s σ H Q I h) fun c s1 e => ?_)
  cases c with
  | true => exact isTrue_and_nil e
  | false => exact e
theorem pw_or1 (ha : PT X a tA) : PW X (.BoolOp .Or [a] pos) tA := by
  intro wh pins s σ H Q I h
  refine isTrue_or (thn (ha pins s σ H Q I h) fun c s1 e => ?_)
  cases c with
  | false => exact isTrue_or_nil e
  | true => exact e
theorem pw_and (ha : PT X a tA) (hb : PW X (.BoolOp .And (b :: rest) pos) tB') : PW X (.BoolOp .And (a :: b :: rest) pos) (tAnd tA tB') := by
  intro wh pins s σ H Q I h
  refine isTrue_and (thn (ha pins s σ H _ I h) fun c s1 ⟨H1, I1, q1⟩ => ?_)
  cases c with
  | true => exact hb wh pins s1 σ H1 Q I1 q1
  | false => exact ⟨H1, I1, q1⟩
theorem pw_or (ha : PT X a tA) (hb : PW X (.BoolOp .Or (b :: rest) pos) tB') : PW X (.BoolOp .Or (a :: b :: rest) pos) (tOr tA tB') := by
  intro wh pins s σ H Q I h
  refine isTrue_or (thn (ha pins s σ H _ I h) fun c s1 ⟨H1, I1, q1⟩ => ?_)
  cases c with
  | true => exact ⟨H1, I1, q1⟩
  | false => exact hb wh pins s1 σ H1 Q I1 q1
theorem pt_not (ha : PT X a tA) : PT X (.UnaryOp .Not a pos) (tNot tA) := by
  intro pins s σ H Q I h
  exact isTrue_not (ha pins s σ H (fun c H1 => Q (!c) H1) I h)
/-- .. as values (bools) -/
def tAndV (ta tb : TE) : TE := fun σ H Q => ta σ H fun x H1 => ∃ c, x = .bl c ∧ if c = true then tb σ H1 Q else Q (.bl false) H1
def tNotV (ta : TE) : TE := fun σ H Q => ta σ H fun x H1 => ∃ c, x = .bl c ∧ Q (.bl (!c)) H1
theorem pe_one {op} {t : TE} (h : PE X a t) : PE X (.BoolOp op [a] pos) t := fun pins s σ H Q I hw => BoolOp_one (h pins s σ H Q I hw)
theorem pe_and (ha : PE X a ta) (hb : PE X (.BoolOp .And (b :: rest) pos) tb) : PE X (.BoolOp .And (a :: b :: rest) pos) (tAndV ta tb) := by
  intro pins s σ H Q I h
  refine BoolOp_and (thn (ha pins s σ H _ I h) fun v s1 ⟨x, H1, I1, r1, q1⟩ => ?_)
  obtain ⟨c, rfl, q1⟩ := q1
  cases r1
  refine wpAny_truthy_bool ?_
  cases c with
  | true => exact hb pins s1 σ H1 Q I1 q1
  | false => exact ⟨.bl false, H1, I1, rfl, q1⟩
theorem pe_not (ha : PE X a ta) : PE X (.UnaryOp .Not a pos) (tNotV ta) := by
  intro pins s σ H Q I h
  refine UnaryOp_ (thn (ha pins s σ H _ I h) fun v s1 ⟨x, H1, I1, r1, q1⟩ => ?_)
  obtain ⟨c, rfl, q1⟩ := q1
  cases r1
  exact not_of (wpAny_truthy_bool ⟨.bl (!c), H1, I1, rfl, q1⟩)
end
end L2

namespace L2
open PySem PySem.Spec PyProof.Rows

/-! ### a list, a tuple that is read: tracked, frozen, or an object of the module -/
def SqL (K : PySem.W.Frag) (H : Hp) (a : Addr) (xs : List V) : Prop :=
  Rd H a (.lst xs) ∨
    ∃ (o : Obj) (its : Array Value) (n : Nat), K.lookup a = some o ∧ o.cls = .type "list" ∧ o.dict = none ∧ o.data = .seq its n ∧ its.size ≤ sizeLine ∧ Vals xs its.toList
def SqT (K : PySem.W.Frag) (H : Hp) (a : Addr) (xs : List V) : Prop :=
  Rd H a (.tup xs) ∨
    ∃ (o : Obj) (its : Array Value) (n : Nat), K.lookup a = some o ∧ o.cls = .type "tuple" ∧ o.data = .seq its n ∧ its.size ≤ sizeLine ∧ Vals xs its.toList
def absV : Value → Option V
  | .none => some .non
  | .bool b => some (.bl b)
  | .int i _ => some (.int i)
  | .str x _ => some (.str x)
  | .bytes b _ => some (.byt b)
  | .float b _ => some (.flt b)
  | .ref a => some (.ref a)
  | .type n => some (.ty n)
  | _ => none
theorem RelV.abs {x : V} {u : Value} (r : RelV x u) : absV u = some x := by
  cases x with
  | non => cases r; rfl
  | bl _ => cases r; rfl
  | int _ => obtain ⟨t, rfl⟩ := r; rfl
  | str _ => obtain ⟨t, rfl⟩ := r; rfl
  | byt _ => obtain ⟨t, rfl⟩ := r; rfl
  | flt _ => obtain ⟨t, rfl⟩ := r; rfl
  | ref _ => cases r; rfl
  | ty _ => cases r; rfl
theorem RelV.inj {x y : V} {u : Value} (r : RelV x u) (q : RelV y u) : x = y := Option.some.inj (r.abs.symm.trans q.abs)
theorem Vals.inj : ∀ {xs ys : List V} {us : List Value}, Vals xs us → Vals ys us → xs = ys
  | _, _, _, .nil, .nil => rfl
  | _, _, _, .cons r t, .cons r' t' => by rw [r.inj r', Vals.inj t t']
section
variable {X : Cx} {pins : List (Addr × Obj)} {σ : St} {H : Hp} {s : Shared} {a : Addr} {xs ys : List V}
theorem SqL.of {K : PySem.W.Frag} (h : H a = some (.lst xs)) : SqL K H a xs := .inl (.inl h)
theorem SqT.of {K : PySem.W.Frag} (h : H a = some (.tup xs)) : SqT K H a xs := .inl (.inl h)
theorem Inv.list (I : Inv X pins σ H s) (h : SqL X.K H a xs) : ∃ its : List Value, Vals xs its ∧ PlainL s.heap a its.toArray ∧ xs.length ≤ sizeLine := by
  rcases h with h | ⟨o, its, n, hk, hc, hd, hs, hz, r⟩
  · obtain ⟨z, its, n, r, e⟩ := h.ok I.hok
    exact ⟨its, r, ⟨_, n, e, rfl, rfl, rfl⟩, z⟩
  · refine ⟨its.toList, r, ⟨o, n, I.kIn a o hk, hc, hd, by simpa using hs⟩, ?_⟩
    have e := r.length
    simp only [Array.length_toList] at e
    omega
theorem Inv.tuple (I : Inv X pins σ H s) (h : SqT X.K H a xs) : ∃ its : List Value, Vals xs its ∧ IsTup s.heap a its.toArray ∧ xs.length ≤ sizeLine := by
  rcases h with h | ⟨o, its, n, hk, hc, hs, hz, r⟩
  · obtain ⟨z, its, r, p⟩ := h.ok I.hok
    exact ⟨its, r, p, z⟩
  · refine ⟨its.toList, r, ⟨o, I.kIn a o hk, hc, n, by simpa using hs⟩, ?_⟩
    have e := r.length
    simp only [Array.length_toList] at e
    omega
theorem Inv.list_inj (I : Inv X pins σ H s) (h : SqL X.K H a xs) (h' : SqL X.K H a ys) : xs = ys := by
  obtain ⟨its, r, ⟨o, n, e, _, _, d⟩, _⟩ := I.list h
  obtain ⟨its', r', ⟨o', n', e', _, _, d'⟩, _⟩ := I.list h'
  rw [e] at e'; cases e'
  rw [d] at d'
  injection d' with d1 _
  have : its = its' := by simpa using congrArg Array.toList d1
  subst this
  exact r.inj r'
end

/-! ### another wish about exceptions -/
abbrev Cx.wish (X : Cx) (E : Value → Shared → Prop) : Cx := { X with xe := E }
/-- no exception leaves -/
abbrev Cx.nox (X : Cx) : Cx := X.wish fun _ _ => False
theorem Cx.Ok.wish {X : Cx} (ok : X.Ok) (E : Value → Shared → Prop) : (X.wish E).Ok :=
  ⟨ok.mod, ok.kind, ok.glob, ok.blt, ok.above, ok.inj, ok.has, ok.cab, ok.hd, ok.frames, ok.stk, ok.exf, ok.bs, ok.bsz, ok.noex, ok.exfs, ok.funs, ok.frf⟩
theorem Cx.Ok.unwish {X : Cx} {E : Value → Shared → Prop} (ok : (X.wish E).Ok) : X.Ok :=
  ⟨ok.mod, ok.kind, ok.glob, ok.blt, ok.above, ok.inj, ok.has, ok.cab, ok.hd, ok.frames, ok.stk, ok.exf, ok.bs, ok.bsz, ok.noex, ok.exfs, ok.funs, ok.frf⟩
section
variable {X : Cx} {pins : List (Addr × Obj)} {σ : St} {H : Hp} {s : Shared} {E : Value → Shared → Prop}
theorem Inv.wish (I : Inv X pins σ H s) (E : Value → Shared → Prop) : Inv (X.wish E) pins σ H s := ⟨I.ok.wish E, I.os, I.bare, I.base, I.loc, I.cell, I.free, I.freeC, I.pin, I.hok, I.len⟩
theorem Inv.unwish (I : Inv (X.wish E) pins σ H s) : Inv X pins σ H s := ⟨I.ok.unwish, I.os, I.bare, I.base, I.loc, I.cell, I.free, I.freeC, I.pin, I.hok, I.len⟩
theorem SP.unwish {D : Ends} {f : Flow} {s' : Shared} (h : SP (X.wish E) pins D f s') : SP X pins D f s' := by
  cases f with
  | next => obtain ⟨σ', H', I, q⟩ := h; exact ⟨σ', H', I.unwish, q⟩
  | brk => obtain ⟨σ', H', I, q⟩ := h; exact ⟨σ', H', I.unwish, q⟩
  | cont => obtain ⟨σ', H', I, q⟩ := h; exact ⟨σ', H', I.unwish, q⟩
  | ret u => obtain ⟨v, σ', H', I, r, q⟩ := h; exact ⟨v, σ', H', I.unwish, r, q⟩
theorem PSs.nox {st : List Stmt} {t : TS} (h : PSs X.nox st t) : PSs X st t := fun pins s σ H D I hw =>
  wpAny_mono (h pins s σ H D (I.wish _) hw) (fun _ _ q => q.unwish) fun _ _ z => False.elim z
end

/-! ### blocks and small statements -/
section
variable {X : Cx} {st : Stmt} {rest : List Stmt} {t u : TS} {e : Expr} {te : TE} {pos : Pos}
def tNext : TS := fun D σ H => D.nx σ H
def tSeq (t u : TS) : TS := fun D σ H => t { D with nx := u D } σ H
theorem pss_nil : PSs X [] tNext := fun _ _ σ H _ I h => wpAny_execs_nil ⟨σ, H, I, h⟩
theorem pss_cons (h1 : PS X st t) (h2 : PSs X rest u) : PSs X (st :: rest) (tSeq t u) := by
  intro pins s σ H D I h
  refine wpAny_execs_cons (thn (h1 pins s σ H { D with nx := u D } I h) fun f s1 q => ?_)
  cases f with
  | next =>
    obtain ⟨σ', H', I', q⟩ := q
    exact h2 pins s1 σ' H' D I' q
  | ret v => exact q
  | brk => exact q
  | cont => exact q
theorem pss_one (h1 : PS X st t) : PSs X [st] t := by
  intro pins s σ H D I h
  refine wpAny_execs_cons (thn (h1 pins s σ H D I h) fun f s1 q => ?_)
  cases f with
  | next => exact wpAny_execs_nil q
  | ret v => exact q
  | brk => exact q
  | cont => exact q
/-- in a def's body nothing is shown -/
theorem Inv.quiet {pins : List (Addr × Obj)} {σ : St} {H : Hp} {s : Shared} (I : Inv X pins σ H s) : interactive X.env = false := by simp [interactive, I.ok.kind]
/-- an expression whose value is dropped -/
def tDrop (te : TE) : TS := fun D σ H => te σ H fun _ H1 => D.nx σ H1
theorem ps_expr (he : PE X e te) (hs : swapsWith e none pos.line X.env = pure false := by rfl) : PS X (.Expr e pos) (tDrop te) := by
  intro pins s σ H D I h
  exact wpAny_Expr_any (thn (he pins s σ H _ I h) fun v s1 ⟨x, H1, I1, r1, q1⟩ => ⟨σ, H1, I1, q1⟩) I.quiet hs
def tRet (te : TE) : TS := fun D σ H => te σ H D.rt
theorem ps_ret (he : PE X e te) : PS X (.Return (some e) pos) (tRet te) := by
  intro pins s σ H D I h
  exact wpAny_Return_some (thn (he pins s σ H _ I h) fun v s1 ⟨x, H1, I1, r1, q1⟩ => ⟨x, σ, H1, I1, r1, q1⟩)
def tIfS (c : TT) (t u : TS) : TS := fun D σ H => c σ H fun b H1 => if b = true then t D σ H1 else u D σ H1
theorem ps_if {c : Expr} {a b : List Stmt} {tc : TT} (hc : PT X c tc) (ha : PSs X a t) (hb : PSs X b u) : PS X (.If c a b pos) (tIfS tc t u) := by
  intro pins s σ H D I h
  refine wpAny_If (thn (hc pins s σ H _ I h) fun d s1 ⟨H1, I1, q1⟩ => ?_)
  cases d with
  | true => exact ha pins s1 σ H1 D I1 q1
  | false => exact hb pins s1 σ H1 D I1 q1
end

/-! ### targets -/
abbrev TG := V → St → Hp → (St → Hp → Prop) → Prop
def PG (X : Cx) (target : Expr) (t : TG) : Prop :=
  ∀ (pins : List (Addr × Obj)) (s : Shared) (σ : St) (H : Hp) (v : V) (u : Value) (Q : St → Hp → Prop), Inv X pins σ H s → RelV v u → t v σ H Q →
    wpAny (model X.prog X.w) X.A (assign target X.env u) (fun _ s' => ∃ σ' H', Inv X pins σ' H' s' ∧ Q σ' H') X.xe s
/-- o[i] = v, by values -/
abbrev TSet := V → V → V → Hp → (Hp → Prop) → Prop
def PSet (X : Cx) (t : TSet) : Prop :=
  ∀ (pins : List (Addr × Obj)) (s : Shared) (σ : St) (H : Hp) (o i v : V) (ov iv u : Value) (Q : Hp → Prop), Inv X pins σ H s → RelV o ov → RelV i iv → RelV v u → t o i v H Q →
    wpAny (model X.prog X.w) X.A (setItem ov iv u) (fun _ s' => ∃ H', Inv X pins σ H' s' ∧ Q H') X.xe s
section
variable {X : Cx} {pos : Pos}
def gName (i : Nat) : TG := fun v σ H Q => Q (σ.set i (some v)) H
theorem pg_name {i : Nat} {x : Str} (hN : X.N.Nodup) (hi : X.N[i]? = some x) (hx : Loc X.env.scope x) (hf : X.fn x = true ∨ X.env.scope.names.lookup x = some .local := by first | exact .inl rfl | exact .inr rfl | assumption) : PG X (.Name x pos) (gName i) := by
  intro pins s σ H v u Q I r h
  exact wpAny_assign_Name (store_ok I hN hi hx r (fun s' I' => ⟨_, H, I', h⟩) hf)
/-- o[i] = .. -/
def gSub (to ti : TE) (t : TSet) : TG := fun v σ H Q => to σ H fun o H1 => ti σ H1 fun i H2 => t o i v H2 fun H3 => Q σ H3
theorem pg_sub {o i : Expr} {to ti : TE} {t : TSet} (ho : PE X o to) (hi : PE X i ti) (hs : PSet X t)
    (ha : ∀ v, assign (.Subscript o i pos) X.env v = (do
      let ov ← holding [v] (eval o X.env)
      let iv ← holding [v, ov] (eval i X.env)
      standAt pos
      holding [v, ov, iv] (setItem ov iv v)
      release [v, ov, iv] []) := by intro _; rfl) : PG X (.Subscript o i pos) (gSub to ti t) := by
  intro pins s σ H v u Q I r h
  rw [ha]
  refine wpAny_bind (wpAny_holding (thn (ho pins s σ H _ I h) fun ov s1 ⟨x, H1, I1, r1, q1⟩ => ?_))
  refine wpAny_bind (wpAny_holding (thn (hi pins s1 σ H1 _ I1 q1) fun iv s2 ⟨y, H2, I2, r2, q2⟩ => ?_))
  refine wpAny_bind (wpAny_standAt (wpAny_bind (wpAny_holding (thn (hs pins s2 σ H2 x y v ov iv u _ I2 r1 r2 r q2) fun _ s3 ⟨H3, I3, q3⟩ => ?_))))
  exact wpAny_release ⟨σ, H3, I3, q3⟩
/-- target = value -/
def tAsg (te : TE) (g : TG) : TS := fun D σ H => te σ H fun x H1 => g x σ H1 D.nx
theorem ps_asg {tg e : Expr} {te : TE} {g : TG} (he : PE X e te) (hg : PG X tg g) (hs : swapsWithSole [tg] e pos.line X.env = pure false := by rfl) (hw : swappedStores [tg] e X.env = pure none := by rfl)
    (h1 : (assignEach [tg] X.env).map (·.2) = [assign tg X.env] := by rfl) : PS X (.Assign [tg] e pos) (tAsg te g) := by
  intro pins s σ H D I h
  refine wpAny_Assign_stores (thn (he pins s σ H _ I h) fun v s1 ⟨x, H1, I1, r1, q1⟩ => ?_) hs hw
  rw [h1]
  exact thn (hg pins s1 σ H1 x v _ I1 r1 q1) fun _ s2 q => q
/-- name = value -/
theorem ps_set {i : Nat} {x : Str} {e : Expr} {te : TE} {pos' : Pos} (hN : X.N.Nodup) (hi : X.N[i]? = some x) (hx : Loc X.env.scope x) (he : PE X e te) (hs : swapsWith e (some (.Name x pos')) pos.line X.env = pure false := by rfl) (hf : X.fn x = true ∨ X.env.scope.names.lookup x = some .local := by first | exact .inl rfl | exact .inr rfl | assumption) :
    PS X (.Assign [.Name x pos'] e pos) (tAsg te (gName i)) := by
  intro pins s σ H D I h
  refine wpAny_Assign_Name (thn (he pins s σ H _ I h) fun v s1 ⟨y, H1, I1, r1, q1⟩ => ?_) hs
  exact store_ok I1 hN hi hx r1 (fun s2 I2 => ⟨_, H1, I2, q1⟩) hf
end

/-! ### while -/
section
variable {X : Cx} {pos : Pos}
end

/-! ### what a loop or a comprehension walks -/
/-- at turn i: it yields x (the heap may grow), or it stops -/
structure It where
  go : Nat → Hp → Prop
  yld : Nat → Hp → V → Hp → Prop
  stop : Nat → Hp → Prop
/-- the iterator's own objects may turn: they are not the frame's, not pinned, younger than the entry (or a comprehension's own) -/
def FpOk (X : Cx) (pins : List (Addr × Obj)) (H : Hp) (b : Addr) : Prop :=
  H b = none ∧ b ≠ X.env.locals ∧ b ∉ X.fs ∧ (b ∈ X.ex ∨ X.s₀.heap.objs.size ≤ b) ∧ (∀ x c, X.env.cells.lookup x = some c → c ≠ b) ∧ ∀ p ∈ X.pn ++ pins, p.1 ≠ b
theorem Inv.fpOk {X : Cx} {pins : List (Addr × Obj)} {σ : St} {H H' : Hp} {s : Shared} {b : Addr} (I : Inv X pins σ H s) (hb : s.heap.objs.size ≤ b) (hn : H' b = none) : FpOk X pins H' b := by
  refine ⟨hn, Nat.ne_of_gt (Nat.lt_of_lt_of_le I.lt hb), I.nofs hb, .inr (Nat.le_trans I.sz hb), fun x c e z => ?_, fun p hp z => ?_⟩
  · obtain ⟨v, q⟩ := I.cell x c e
    exact absurd (Nat.lt_of_lt_of_le q.lt (by rw [z]; exact hb)) (Nat.lt_irrefl _)
  · exact absurd (Nat.lt_of_lt_of_le (Heap.lt_size (I.pin p hp).1) (by rw [z]; exact hb)) (Nat.lt_irrefl _)
structure Turn (P : Program) (w : World) (K : PySem.W.Frag) (tg : Expr) (J : It) (fp : List Addr) (it : Addr) (tn : Nat → Heap → Prop) : Prop where
  mem : it ∈ fp
  obj : ∀ i h, tn i h → ∀ b ∈ fp, ∃ o, h.get? b = some o ∧ ∀ v, o.data ≠ .cell v
  keep : ∀ i h h', tn i h → (∀ b ∈ fp, ∀ o, h.get? b = some o → h'.get? b = some o) → tn i h'
  item : ∀ (X : Cx), X.prog = P → X.w = w → X.K = K → X.calm = true → ∀ (i : Nat) (pins : List (Addr × Obj)) (s : Shared) (σ : St) (H : Hp) (E : Value → Shared → Prop), Inv X pins σ H s → (∀ b ∈ fp, FpOk X pins H b) → tn i s.heap → J.go i H →
    wpAny (model P w) X.A (pyNext (.ref it)) (fun r s1 => ∃ u, r = some u ∧
      wpAny (model P w) X.A (letOwnedTupleGo tg (.ref it) u) (fun _ s2 => ∃ x H', Inv X pins σ H' s2 ∧ RelV x u ∧ J.yld i H x H' ∧ tn (i + 1) s2.heap ∧ ∀ b ∈ fp, H' b = none) E s1) E s
  done : ∀ (X : Cx), X.prog = P → X.w = w → X.K = K → X.calm = true → ∀ (i : Nat) (pins : List (Addr × Obj)) (s : Shared) (σ : St) (H : Hp) (E : Value → Shared → Prop), Inv X pins σ H s → (∀ b ∈ fp, FpOk X pins H b) → tn i s.heap → J.stop i H →
    wpAny (model P w) X.A (pyNext (.ref it)) (fun r s1 => r = none ∧ Inv X pins σ H s1) E s
  self : ∀ (A : Around) (i : Nat) (s : Shared) (Q : Value → Shared → Prop) (E : Value → Shared → Prop), tn i s.heap → Q (.ref it) s → wpAny (model P w) A (pyIter (.ref it)) Q E s
abbrev TI := St → Hp → (It → Hp → Prop) → Prop
/-- an iterator has come -/
def PIE (X : Cx) (pins : List (Addr × Obj)) (σ : St) (tg : Expr) (R : It → Hp → Prop) (itv : Value) (s2 : Shared) : Prop :=
  ∃ (it : Addr) (fp : List Addr) (tn : Nat → Heap → Prop) (J : It) (H' : Hp), itv = .ref it ∧ Inv X pins σ H' s2 ∧ Turn X.prog X.w X.K tg J fp it tn ∧ tn 0 s2.heap ∧ (∀ b ∈ fp, FpOk X pins H' b) ∧ R J H'
def PI (X : Cx) (tg iter : Expr) (wi : TI) : Prop :=
  ∀ (pins : List (Addr × Obj)) (s : Shared) (σ : St) (H : Hp) (R : It → Hp → Prop), Inv X pins σ H s → wi σ H R →
    wpAny (model X.prog X.w) X.A (eval iter X.env) (fun v s1 => wpAny (model X.prog X.w) X.A (pyIter v) (PIE X pins σ tg R) X.xe s1) X.xe s

/-- the step ahead of the store is nothing for an iterator that keeps no tuple -/
theorem go_of {M : Model} {A : Around} {E : Value → Shared → Prop} {s : Shared} {tg : Expr} {it : Addr} {u : Value} {o : Obj} {n : String} {vs : Array Value} {Q : Unit → Shared → Prop} (ho : s.heap.get? it = some o) (hc : o.cls = .type n) (hd : o.data = .fields vs)
    (hn : ["enumerate", "zip", "dict_itemiterator", "dict_reverseitemiterator", "odict_iterator", "itertools.zip_longest", "itertools.pairwise"].contains n = false) (hQ : Q () s) : wpAny M A (letOwnedTupleGo tg (.ref it) u) Q E s := by
  unfold letOwnedTupleGo
  cases tg <;> first
    | exact wpAny_pure hQ
    | (cases u <;> first
        | exact wpAny_pure hQ
        | (refine wpAny_bind (wpAny_load ho ?_)
           rw [hc, hd]
           show wpAny M A (if (["enumerate", "zip", "dict_itemiterator", "dict_reverseitemiterator", "odict_iterator", "itertools.zip_longest", "itertools.pairwise"].contains n && vs[0]? == some (rawInt _)) = true then _ else _) Q E s
           rw [if_neg (by intro h; rw [hn, Bool.false_and] at h; cases h)]
           exact wpAny_pure hQ))

/-- the list at a, as it stands at each turn (a loop may append to it) -/
def Itl (K : PySem.W.Frag) (a : Addr) : It :=
  ⟨fun i H => ∃ xs x, SqL K H a xs ∧ xs[i]? = some x, fun i H x H' => H' = H ∧ ∀ xs, SqL K H a xs → xs[i]? = some x, fun i H => ∃ xs, SqL K H a xs ∧ xs.length ≤ i⟩
/-- lo, lo + 1, .. (n of them) -/
def Itr (lo : Int) (n : Nat) : It := ⟨fun i _ => i < n, fun i H x H' => H' = H ∧ x = .int (lo + i), fun i _ => n ≤ i⟩
theorem turn_list {P : Program} {w : World} {K : PySem.W.Frag} {tg : Expr} (a it : Addr) : Turn P w K tg (Itl K a) [it] it (fun i h => h.IsListIter it a i) where
  mem := by simp
  obj := fun i h st b hb => by
    have e : b = it := by simpa using hb
    subst e
    obtain ⟨o, e, c, d⟩ := st
    exact ⟨o, e, fun v z => by rw [d] at z; cases z⟩
  keep := fun i h h' st k => st.at fun o e => k it (by simp) o e
  item := by
    intro X hP hw hK hc i pins s σ H E I hf st hg
    subst hP hw hK
    obtain ⟨xs, x, hq, hx⟩ := hg
    obtain ⟨its, rv, p, hz⟩ := I.list hq
    obtain ⟨u, hu, ru⟩ := rv.get hx
    obtain ⟨f0, f1, f2, f3, f4, f5⟩ := hf it (by simp)
    refine wpAny_pyNext_list_item st p.isList (x := u) (by simpa using hu) fun h' st' sb => ?_
    have I1 : Inv X pins σ H { s with heap := h' } := I.turned (t' := s.toks) (fun b o hb e => (sb.2 b hb).trans e) f0 f1 f3 f4 f5
    obtain ⟨o, e, c, d⟩ := id st'
    exact ⟨u, rfl, go_of (s := { s with heap := h' }) e c d (by decide) ⟨x, H, I1, ru, ⟨rfl, fun ys hy => by rw [I.list_inj hy hq]; exact hx⟩, st', fun b hb => (hf b hb).1⟩⟩
  done := by
    intro X hP hw hK hc i pins s σ H E I hf st hg
    subst hP hw hK
    obtain ⟨xs, hq, hx⟩ := hg
    obtain ⟨its, rv, p, hz⟩ := I.list hq
    obtain ⟨f0, f1, f2, f3, f4, f5⟩ := hf it (by simp)
    have hl := rv.length
    exact wpAny_pyNext_list_end (I.ok.hd hc) st p.isList (by simp; omega) fun h' eb => ⟨rfl, I.turned (t' := s.toks) (fun b o hb e => eb b o hb e) f0 f1 f3 f4 f5⟩
  self := fun _ _ _ _ _ st h => wpAny_pyIter_listiter st h
theorem turn_range {P : Program} {w : World} {K : PySem.W.Frag} {tg : Expr} (it : Addr) (lo : Int) (n : Nat) : Turn P w K tg (Itr lo n) [it] it (fun i h => IsRangeIter h it (lo + (i : Nat) * 1) ((n : Int) - (i : Nat)) 1) where
  mem := by simp
  obj := fun i h st b hb => by
    have e : b = it := by simpa using hb
    subst e
    exact ⟨_, st, fun v z => by
      have z' : Data.fields _ = Data.cell v := z
      cases z'⟩
  keep := fun i h h' st k => k it (by simp) _ st
  item := by
    intro X hP hw hK hc i pins s σ H E I hf st hg
    subst hP hw hK
    obtain ⟨f0, f1, f2, f3, f4, f5⟩ := hf it (by simp)
    have W := Walks.range (prog := X.prog) (w := X.w) (I.ok.hd hc) it lo 1 n
    refine W.item i s _ _ hg st fun v h' tk hv st' kk => ?_
    obtain ⟨t, rfl⟩ := hv
    have I1 : Inv X pins σ H { s with heap := h', toks := tk } := I.turned (fun b o hb e => kk b o (by simpa using hb) e) f0 f1 f3 f4 f5
    refine ⟨_, rfl, go_of (s := { s with heap := h', toks := tk }) (n := "range_iterator") st' rfl rfl (by decide) ⟨.int (lo + i), H, I1, ⟨t, ?_⟩, ⟨rfl, rfl⟩, st', fun b hb => (hf b hb).1⟩⟩
    rw [Int.mul_one]
  done := by
    intro X hP hw hK hc i pins s σ H E I hf st hg
    subst hP hw hK
    obtain ⟨f0, f1, f2, f3, f4, f5⟩ := hf it (by simp)
    exact wpAny_pyNext_range_end (I.ok.hd hc) st (by have : n ≤ i := hg; omega) fun h' eb => ⟨rfl, I.turned (t' := s.toks) (fun b o hb e => eb b o hb e) f0 f1 f3 f4 f5⟩
  self := fun _ _ _ _ _ st h => wpAny_pyIter_rangeiter st h
end L2

namespace L2
open PySem PySem.Spec PyProof.Rows
section
variable {X : Cx} {tg : Expr}
def iList (K : PySem.W.Frag) (tl : TE) : TI := fun σ H R => tl σ H fun x H1 => ∃ a, x = .ref a ∧ (∃ xs, SqL K H1 a xs) ∧ R (Itl K a) H1
theorem pi_list {l : Expr} {tl : TE} (hl : PE X l tl) : PI X tg l (iList X.K tl) := by
  intro pins s σ H R I h
  refine thn (hl pins s σ H _ I h) fun v s1 ⟨x, H1, I1, r1, q1⟩ => ?_
  obtain ⟨a, e, ⟨xs, hq⟩, q⟩ := q1
  subst e
  cases r1
  obtain ⟨its, rv, p, hz⟩ := I1.list hq
  refine wpAny_pyIter_list p.isList ?_
  refine ⟨s1.heap.objs.size, [s1.heap.objs.size], _, _, H1, rfl, I1.kept (t' := s1.toks) fun b o e => Heap.get?_push_of_some _ e, turn_list a _, ⟨_, Heap.get?_push_size _ rfl, rfl, rfl⟩, fun b hb => ?_, q⟩
  have e : b = s1.heap.objs.size := by simpa using hb
  subst e
  exact I1.fpOk (Nat.le_refl _) (I1.hok.fresh (Nat.le_refl _))
/-- a range object just made, walked -/
theorem range_it {pins : List (Addr × Obj)} {σ : St} {H : Hp} {s : Shared} {R : It → Hp → Prop} {E : Value → Shared → Prop} {lo hi : Int} {t u v : Tok} {tk : Nat} (I : Inv X pins σ H s) (h1 : -(2 ^ 62) ≤ lo) (h2 : lo < 2 ^ 62) (h3 : -(2 ^ 62) ≤ hi) (h4 : hi < 2 ^ 62)
    (q : R (Itr lo (hi - lo).toNat) H) : wpAny (model X.prog X.w) X.A (pyIter (.ref s.heap.objs.size)) (PIE X pins σ tg R) E { s with heap := s.heap.push { cls := .type "range", data := .fields #[.int lo t, .int hi u, .int 1 v] }, toks := tk } := by
  refine wpAny_pyIter_range (IsRange.new ..) (small_one h1 h2 h3 h4) ?_
  have I1 : Inv X pins σ H { s with heap := s.heap.push { cls := .type "range", data := .fields #[.int lo t, .int hi u, .int 1 v] }, toks := tk } := I.kept fun b o e => Heap.get?_push_of_some _ e
  refine ⟨(s.heap.push { cls := .type "range", data := .fields #[.int lo t, .int hi u, .int 1 v] }).objs.size, [(s.heap.push { cls := .type "range", data := .fields #[.int lo t, .int hi u, .int 1 v] }).objs.size], _, _, H, rfl,
    I1.kept (t' := tk) fun b o e => Heap.get?_push_of_some _ e, turn_range _ lo (hi - lo).toNat, ?_, fun b hb => ?_, q⟩
  · have e1 : lo + ((0 : Nat) : Int) * 1 = lo := by simp
    have e2 : (((hi - lo).toNat : Nat) : Int) - ((0 : Nat) : Int) = Builtin.Range.rangeSize lo hi 1 := by rw [rangeSize_one]; split <;> omega
    show IsRangeIter _ _ (lo + ((0 : Nat) : Int) * 1) ((((hi - lo).toNat : Nat) : Int) - ((0 : Nat) : Int)) 1
    rw [e1, e2]
    exact Heap.get?_push_size _ rfl
  · have e : b = (s.heap.push { cls := .type "range", data := .fields #[.int lo t, .int hi u, .int 1 v] }).objs.size := by simpa using hb
    subst e
    exact I1.fpOk (Nat.le_refl _) (I1.hok.fresh (Nat.le_refl _))
def iRng1 (ta : TA) : TI := fun σ H R => ta σ H fun vs H1 => ∃ j : Int, vs = [.int j] ∧ -(2 ^ 62) ≤ j ∧ j < 2 ^ 62 ∧ R (Itr 0 j.toNat) H1
theorem pi_range1 {a : Expr} {ta : TA} {p pos : Pos} (hg : Gl X "range") (hm : X.mg "range" = none) (ha : PA X [a] ta) (hs : starEach [a] X.env = [(false, eval a X.env)] := by rfl) : PI X tg (.Call (.Name "range" p) [a] [] pos) (iRng1 ta) := by
  intro pins s σ H R I h
  refine Call_ (ld_blt I hg hm boot_range (PyProof.Rows.callWith_type1 (thn (ha pos pins s σ H _ I h) fun us s1 ⟨vs, H1, I1, r1, q1⟩ => ?_) hs rfl))
  obtain ⟨j, e, q1, q2, q⟩ := q1
  subst e
  cases r1 with
  | cons r rr =>
    cases rr
    obtain ⟨t, rfl⟩ := r
    exact call_range_1 (range_it I1 (by omega) (by omega) q1 q2 (by simpa using q))
/-! ### for -/
/-- W: the invariant by the turn and a measure; N: what the body is to reach -/
def tFor (wi : TI) (g : TG) (tb : TS) : TS := fun D σ H => wi σ H fun J H1 => ∃ W : Nat → Nat → St → Hp → Prop, (∃ m, W 0 m σ H1) ∧ ∀ i m σ H, W i m σ H →
  (J.stop i H ∧ D.nx σ H) ∨ (J.go i H ∧ ∃ N : St → Hp → Prop, (∀ σ' H', N σ' H' → ∃ m', m' < m ∧ W (i + 1) m' σ' H') ∧ ∀ x H', J.yld i H x H' → g x σ H' fun σ2 H2 => tb { D with nx := N, ct := N, bk := D.nx } σ2 H2)
/-- the records at fp as they stand -/
def pinsAt (fp : List Addr) (h : Heap) : List (Addr × Obj) := fp.filterMap fun b => (h.get? b).map fun o => (b, o)
theorem mem_pinsAt {fp : List Addr} {h : Heap} {b : Addr} {o : Obj} (hb : b ∈ fp) (e : h.get? b = some o) : (b, o) ∈ pinsAt fp h := List.mem_filterMap.mpr ⟨b, hb, by rw [e]; rfl⟩
theorem of_pinsAt {fp : List Addr} {h : Heap} {p : Addr × Obj} (hp : p ∈ pinsAt fp h) : p.1 ∈ fp ∧ h.get? p.1 = some p.2 := by
  obtain ⟨b, hb, e⟩ := List.mem_filterMap.mp hp
  cases q : h.get? b with
  | none => rw [q] at e; cases e
  | some o =>
    rw [q] at e
    have e' : (b, o) = p := Option.some.inj e
    subst e'
    exact ⟨hb, q⟩
theorem Inv.pinned {pins : List (Addr × Obj)} {σ : St} {H : Hp} {s : Shared} {fp : List Addr} (I : Inv X pins σ H s) (hf : ∀ b ∈ fp, FpOk X pins H b) (ho : ∀ b ∈ fp, ∃ o, s.heap.get? b = some o ∧ ∀ v, o.data ≠ .cell v) : Inv X (pins ++ pinsAt fp s.heap) σ H s :=
  I.pins_of fun p hp => (List.mem_append.mp hp).elim (fun z => I.pin p (List.mem_append_right _ z)) fun z => by
    obtain ⟨hb, e⟩ := of_pinsAt z
    obtain ⟨f0, f1, f2, _⟩ := hf p.1 hb
    obtain ⟨o, e', d⟩ := ho p.1 hb
    rw [e] at e'; cases e'
    exact ⟨e, f0, f1, f2, d⟩
theorem Inv.unpinned {pins pl : List (Addr × Obj)} {σ : St} {H : Hp} {s : Shared} (I : Inv X (pins ++ pl) σ H s) : Inv X pins σ H s := I.pins_of fun p hp => I.pin p (List.mem_append_right _ (List.mem_append_left _ hp))
theorem ps_for {iter : Expr} {body : List Stmt} {wi : TI} {g : TG} {tb : TS} {pos : Pos} (hp : PassesOwn (model X.prog X.w) X.A X.env X.xe) (hc : X.calm = true) (hi : PI X tg iter wi) (hg : PG X tg g) (hb : PSs X body tb)
    (hs : ∀ x, foldedSetIterable iter X.env x = pure x := by intro _; rfl) : PS X (.For tg iter body [] pos) (tFor wi g tb) := by
  intro pins s σ H D I h
  refine wpAny_For (thn (hi pins s σ H _ I h) fun v s1 h1 => thn h1 fun itv s2 h2 => ?_) hs
  obtain ⟨it, fp, tn, J, H2, e, I2, T, st2, f2, W, ⟨m0, w0⟩, turn⟩ := h2
  subst e
  -- what stays true of the iterator's objects through the loop
  have stat : ∀ {H' : Hp}, (∀ b ∈ fp, H' b = none) → ∀ b ∈ fp, FpOk X pins H' b := fun hn b hb => ⟨hn b hb, (f2 b hb).2⟩
  refine codeAny_forLoop_any (fun n s' => ∃ i σ' H', Inv X pins σ' H' s' ∧ tn i s'.heap ∧ (∀ b ∈ fp, H' b = none) ∧ W i n σ' H') ?_ m0 ⟨0, σ, H2, I2, st2, fun b hb => (f2 b hb).1, w0⟩
  rintro n s3 ⟨i, σ3, H3, I3, st3, fr3, w3⟩
  rcases turn i n σ3 H3 w3 with ⟨stop, qn⟩ | ⟨go, N, hN, step⟩
  · refine wpAny_passesOwn hp (thn (T.done X rfl rfl rfl hc i pins s3 σ3 H3 X.xe I3 (stat fr3) st3 stop) fun r s4 ⟨hr, I4⟩ => ?_)
    subst hr
    exact wpAny_execs_nil ⟨σ3, H3, I4, qn⟩
  · refine wpAny_passesOwn hp (thn (T.item X rfl rfl rfl hc i pins s3 σ3 H3 X.xe I3 (stat fr3) st3 go) fun r s4 ⟨u, hr, h4⟩ => ?_)
    subst hr
    refine wpAny_passesOwn hp (thn h4 fun _ s5 ⟨x, H5, I5, r5, y5, st5, fr5⟩ => ?_)
    have I5' := I5.pinned (stat fr5) (T.obj _ _ st5)
    refine wpAny_passesOwn hp (thn (hg _ s5 σ3 H5 x u _ I5' r5 (step x H5 y5)) fun _ s6 ⟨σ6, H6, I6, q6⟩ => ?_)
    refine wpAny_passesOwn hp (thn (hb _ s6 σ6 H6 _ I6 q6) fun f s7 q7 => ?_)
    have again : ∀ {σ7 : St} {H7 : Hp}, Inv X (pins ++ pinsAt fp s5.heap) σ7 H7 s7 → N σ7 H7 → ∃ m, m < n ∧ ∃ i σ' H', Inv X pins σ' H' s7 ∧ tn i s7.heap ∧ (∀ b ∈ fp, H' b = none) ∧ W i m σ' H' := fun {σ7 H7} I7 n7 => by
      obtain ⟨m', hm, w7⟩ := hN σ7 H7 n7
      refine ⟨m', hm, i + 1, σ7, H7, I7.unpinned, T.keep _ _ _ st5 fun b hb o e => (I7.pin (b, o) (List.mem_append_right _ (List.mem_append_right _ (mem_pinsAt hb e)))).1, fun b hb => ?_, w7⟩
      obtain ⟨o, e, d⟩ := T.obj _ _ st5 b hb
      exact (I7.pin (b, o) (List.mem_append_right _ (List.mem_append_right _ (mem_pinsAt hb e)))).2.1
    cases f with
    | next => obtain ⟨σ7, H7, I7, n7⟩ := q7; exact again I7 n7
    | cont => obtain ⟨σ7, H7, I7, n7⟩ := q7; exact again I7 n7
    | brk => obtain ⟨σ7, H7, I7, q7⟩ := q7; exact ⟨σ7, H7, I7.unpinned, q7⟩
    | ret v => obtain ⟨x7, σ7, H7, I7, r7, q7⟩ := q7; exact ⟨x7, σ7, H7, I7.unpinned, r7, q7⟩
end

/-! ### the forms one uses -/
/-- over a list that the body leaves as it is -/
theorem for_list {K : PySem.W.Frag} {a : Addr} {xs : List V} {g : TG} {tb : TS} {D : Ends} {σ : St} {H : Hp} (Pv : Nat → St → Hp → Prop) (h0 : Pv 0 σ H) (hl : ∀ i σ H, i ≤ xs.length → Pv i σ H → SqL K H a xs)
    (hs : ∀ i x σ H, xs[i]? = some x → Pv i σ H → g x σ H fun σ2 H2 => tb { D with nx := Pv (i + 1), ct := Pv (i + 1), bk := D.nx } σ2 H2) (hd : ∀ σ H, Pv xs.length σ H → D.nx σ H) :
    ∃ W : Nat → Nat → St → Hp → Prop, (∃ m, W 0 m σ H) ∧ ∀ i m σ H, W i m σ H →
      ((Itl K a).stop i H ∧ D.nx σ H) ∨ ((Itl K a).go i H ∧ ∃ N : St → Hp → Prop, (∀ σ' H', N σ' H' → ∃ m', m' < m ∧ W (i + 1) m' σ' H') ∧ ∀ x H', (Itl K a).yld i H x H' → g x σ H' fun σ2 H2 => tb { D with nx := N, ct := N, bk := D.nx } σ2 H2) := by
  refine ⟨fun i m σ H => m = xs.length - i ∧ i ≤ xs.length ∧ Pv i σ H, ⟨xs.length, by simp, Nat.zero_le _, h0⟩, ?_⟩
  rintro i m σ H ⟨rfl, hi, p⟩
  have q := hl i σ H hi p
  by_cases hlt : i < xs.length
  · refine .inr ⟨⟨xs, xs[i], q, by simp [hlt]⟩, Pv (i + 1), fun σ' H' p' => ⟨xs.length - (i + 1), by omega, rfl, hlt, p'⟩, fun x H' y => ?_⟩
    obtain ⟨e, y⟩ := y
    subst e
    exact hs i x σ _ (y xs q) p
  · have e : i = xs.length := by omega
    subst e
    exact .inl ⟨⟨xs, q, Nat.le_refl _⟩, hd σ H p⟩
theorem for_range {lo : Int} {n : Nat} {g : TG} {tb : TS} {D : Ends} {σ : St} {H : Hp} (Pv : Nat → St → Hp → Prop) (h0 : Pv 0 σ H)
    (hs : ∀ i σ H, i < n → Pv i σ H → g (.int (lo + i)) σ H fun σ2 H2 => tb { D with nx := Pv (i + 1), ct := Pv (i + 1), bk := D.nx } σ2 H2) (hd : ∀ σ H, Pv n σ H → D.nx σ H) :
    ∃ W : Nat → Nat → St → Hp → Prop, (∃ m, W 0 m σ H) ∧ ∀ i m σ H, W i m σ H →
      ((Itr lo n).stop i H ∧ D.nx σ H) ∨ ((Itr lo n).go i H ∧ ∃ N : St → Hp → Prop, (∀ σ' H', N σ' H' → ∃ m', m' < m ∧ W (i + 1) m' σ' H') ∧ ∀ x H', (Itr lo n).yld i H x H' → g x σ H' fun σ2 H2 => tb { D with nx := N, ct := N, bk := D.nx } σ2 H2) := by
  refine ⟨fun i m σ H => m = n - i ∧ i ≤ n ∧ Pv i σ H, ⟨n, by simp, Nat.zero_le _, h0⟩, ?_⟩
  rintro i m σ H ⟨rfl, hi, p⟩
  by_cases hlt : i < n
  · refine .inr ⟨hlt, Pv (i + 1), fun σ' H' p' => ⟨n - (i + 1), by omega, rfl, hlt, p'⟩, fun x H' y => ?_⟩
    obtain ⟨e, y⟩ := y
    subst e y
    exact hs i σ _ hlt p
  · have e : i = n := by omega
    subst e
    exact .inl ⟨Nat.le_refl _, hd σ H p⟩
end L2

namespace L2
open PySem PySem.Spec PyProof.Rows

abbrev R2 := V → V → Hp → VK → Prop
/-- a two-place operation on values: f is binaryOp op, inplaceOp op or compareOp op -/
def OpR (X : Cx) (f : Value → Value → Sem Value) (r : R2) : Prop :=
  ∀ (pins : List (Addr × Obj)) (s : Shared) (σ : St) (H : Hp) (x y : V) (v u : Value) (Q : VK), Inv X pins σ H s → RelV x v → RelV y u → r x y H Q →
    wpAny (model X.prog X.w) X.A (f v u) (EP X pins σ Q) X.xe s
/-- a one-place operation -/
def UnR (X : Cx) (f : Value → Sem Value) (r : V → Hp → VK → Prop) : Prop :=
  ∀ (pins : List (Addr × Obj)) (s : Shared) (σ : St) (H : Hp) (x : V) (v : Value) (Q : VK), Inv X pins σ H s → RelV x v → r x H Q →
    wpAny (model X.prog X.w) X.A (f v) (EP X pins σ Q) X.xe s
/-- a call of a value that is known (a builtin, a type) with values -/
def CallR (X : Cx) (f : Value) (r : List V → Hp → VK → Prop) : Prop :=
  ∀ (pins : List (Addr × Obj)) (s : Shared) (σ : St) (H : Hp) (xs : List V) (us : List Value) (Q : VK), Inv X pins σ H s → Vals xs us → r xs H Q →
    wpAny (model X.prog X.w) X.A (call f us) (EP X pins σ Q) X.xe s
def tOp (r : R2) (ta tb : TE) : TE := fun σ H Q => ta σ H fun x H1 => tb σ H1 fun y H2 => r x y H2 Q
def tUn (r : V → Hp → VK → Prop) (ta : TE) : TE := fun σ H Q => ta σ H fun x H1 => r x H1 Q
/-- ints in, under C, and a value out -/
def rI (C : Int → Int → Prop) (g : Int → Int → V) : R2 := fun x y H Q => ∃ i j, x = .int i ∧ y = .int j ∧ C i j ∧ Q (g i j) H
def rI0 (g : Int → Int → V) : R2 := fun x y H Q => ∃ i j, x = .int i ∧ y = .int j ∧ Q (g i j) H
def rU (g : Int → V) : V → Hp → VK → Prop := fun x H Q => ∃ i, x = .int i ∧ Q (g i) H

section
variable {X : Cx} {a b c : Expr} {ta tb tc : TE} {pos : Pos}

theorem binT (ha : PE X a ta) (hb : PE X b tb) {pins : List (Addr × Obj)} {s : Shared} {σ : St} {H : Hp} {R : V → V → Hp → Prop} (I : Inv X pins σ H s)
    (h : ta σ H fun x H1 => tb σ H1 fun y H2 => R x y H2) {Q : Value → Shared → Prop} {f : Value → Value → Sem Value}
    (hf : ∀ v u s2 x y H2, Inv X pins σ H2 s2 → RelV x v → RelV y u → R x y H2 → wpAny (model X.prog X.w) X.A (f v u) Q X.xe s2) :
    wpAny (model X.prog X.w) X.A (eval a X.env) (fun v s₁ => wpAny (model X.prog X.w) X.A (eval b X.env) (fun u s₂ => wpAny (model X.prog X.w) X.A (f v u) Q X.xe s₂) X.xe s₁) X.xe s := by
  refine thn (ha pins s σ H _ I h) fun v s1 ⟨x, H1, I1, r1, q1⟩ => ?_
  refine thn (hb pins s1 σ H1 _ I1 q1) fun u s2 ⟨y, H2, I2, r2, q2⟩ => ?_
  exact hf v u s2 x y H2 I2 r1 r2 q2

theorem pe_op {op : Operator} {r : R2} (ho : OpR X (binaryOp op) r) (ha : PE X a ta) (hb : PE X b tb) : PE X (.BinOp a op b pos) (tOp r ta tb) := by
  intro pins s σ H Q I h
  exact wpAny_BinOp (binT ha hb I h fun v u s2 x y H2 I2 rx ry q => ho pins s2 σ H2 x y v u Q I2 rx ry q)
theorem pe_un {op : UnaryOp} {r : V → Hp → VK → Prop} (ho : UnR X (unaryOp op) r) (ha : PE X a ta) : PE X (.UnaryOp op a pos) (tUn r ta) := by
  intro pins s σ H Q I h
  exact UnaryOp_ (thn (ha pins s σ H _ I h) fun v s1 ⟨x, H1, I1, r1, q1⟩ => ho pins s1 σ H1 x v Q I1 r1 q1)
/-! ### ints -/
theorem opI {f : Value → Value → Sem Value} {C : Int → Int → Prop} {g : Int → Int → Int}
    (rule : ∀ (i j : Int) (t u : Tok) (s : Shared) (Q : Value → Shared → Prop) (E : Value → Shared → Prop), C i j → Q (.int (g i j) s.toks) { s with toks := s.toks + 1 } → wpAny (model X.prog X.w) X.A (f (.int i t) (.int j u)) Q E s) :
    OpR X f (rI C fun i j => .int (g i j)) := by
  intro pins s σ H x y v u Q I rx ry h
  obtain ⟨i, j, rfl, rfl, hc, q⟩ := h
  obtain ⟨t, rfl⟩ := rx
  obtain ⟨t', rfl⟩ := ry
  exact rule i j t t' s _ _ hc ⟨.int (g i j), H, I.tok _, ⟨_, rfl⟩, q⟩
theorem opI0 {f : Value → Value → Sem Value} {g : Int → Int → Int}
    (rule : ∀ (i j : Int) (t u : Tok) (s : Shared) (Q : Value → Shared → Prop) (E : Value → Shared → Prop), Q (.int (g i j) s.toks) { s with toks := s.toks + 1 } → wpAny (model X.prog X.w) X.A (f (.int i t) (.int j u)) Q E s) :
    OpR X f (rI0 fun i j => .int (g i j)) := by
  intro pins s σ H x y v u Q I rx ry h
  obtain ⟨i, j, rfl, rfl, q⟩ := h
  obtain ⟨t, rfl⟩ := rx
  obtain ⟨t', rfl⟩ := ry
  exact rule i j t t' s _ _ ⟨.int (g i j), H, I.tok _, ⟨_, rfl⟩, q⟩
theorem opB0 {f : Value → Value → Sem Value} {g : Int → Int → Bool}
    (rule : ∀ (i j : Int) (t u : Tok) (s : Shared) (Q : Value → Shared → Prop) (E : Value → Shared → Prop), Q (.bool (g i j)) s → wpAny (model X.prog X.w) X.A (f (.int i t) (.int j u)) Q E s) :
    OpR X f (rI0 fun i j => .bl (g i j)) := by
  intro pins s σ H x y v u Q I rx ry h
  obtain ⟨i, j, rfl, rfl, q⟩ := h
  obtain ⟨t, rfl⟩ := rx
  obtain ⟨t', rfl⟩ := ry
  exact rule i j t t' s _ _ ⟨.bl (g i j), H, I, rfl, q⟩

def CDiv (i j : Int) : Prop := 0 < j ∧ j < 1073741824
def CPow (i j : Int) : Prop := 0 ≤ j ∧ j ≤ 1000000 ∧ i.natAbs < 2 ^ 64
theorem op_add : OpR X (binaryOp .Add) (rI0 fun i j => .int (i + j)) := opI0 fun _ _ _ _ _ _ _ q => add_int q
theorem op_sub : OpR X (binaryOp .Sub) (rI0 fun i j => .int (i - j)) := opI0 fun _ _ _ _ _ _ _ q => sub_int q
/-- // by a positive divisor -/
theorem op_fdiv : OpR X (binaryOp .FloorDiv) (rI CDiv fun i j => .int (i / j)) := opI fun i j _ _ _ _ _ hc q => by
  have h1 : (0 : Int) < j := hc.1
  have h2 : j < 1073741824 := hc.2
  exact floordiv_int (by omega) (by rw [Int.fdiv_eq_ediv_of_nonneg i (by omega)]; exact q) (.inl (PyProof.noPylong_small (by omega)))
/-- % by a positive divisor of any size -/
theorem op_mod : OpR X (binaryOp .Mod) (rI (fun _ j => 0 < j) fun i j => .int (i % j)) := opI fun i j _ _ _ _ _ hc q => by
  have h1 : (0 : Int) < j := hc
  exact mod_int' (by omega) (by rw [Int.fmod_eq_emod_of_nonneg i (by omega)]; exact q)
theorem op_pow : OpR X (binaryOp .Pow) (rI CPow fun i j => .int (i ^ j.toNat)) := opI fun _ _ _ _ _ _ _ hc q => pow_int_small hc.1 hc.2.1 hc.2.2 q
theorem unI {f : Value → Sem Value} {g : Int → Int}
    (rule : ∀ (i : Int) (t : Tok) (s : Shared) (Q : Value → Shared → Prop) (E : Value → Shared → Prop), Q (.int (g i) s.toks) { s with toks := s.toks + 1 } → wpAny (model X.prog X.w) X.A (f (.int i t)) Q E s) :
    UnR X f (rU fun i => .int (g i)) := by
  intro pins s σ H x v Q I rx h
  obtain ⟨i, rfl, q⟩ := h
  obtain ⟨t, rfl⟩ := rx
  exact rule i t s _ _ ⟨.int (g i), H, I.tok _, ⟨_, rfl⟩, q⟩
theorem un_neg : UnR X (unaryOp .USub) (rU fun i => .int (-i)) := unI fun _ _ _ _ _ q => neg_int q
/-! ### bools among ints: n += (a < b) -/
end

/-! ### comparisons -/
/-- the scalars that == tells apart as data does -/
def scal : V → V → Bool
  | .non, .non => true | .non, .int _ => true | .int _, .non => true | .non, .bl _ => true | .bl _, .non => true | .non, .str _ => true | .str _, .non => true
  | .int _, .int _ => true | .bl _, .bl _ => true | .str _, .str _ => true | .byt _, .byt _ => true
  | .int _, .str _ => true | .str _, .int _ => true | .bl _, .str _ => true | .str _, .bl _ => true
  | _, _ => false
def rEq : R2 := fun x y H Q => scal x y = true ∧ Q (.bl (decide (x = y))) H
def rNe : R2 := fun x y H Q => scal x y = true ∧ Q (.bl (!decide (x = y))) H

theorem dec_int {i j : Int} : decide (V.int i = V.int j) = (i == j) := by
  rw [Bool.eq_iff_iff]
  simp
theorem dec_bl {i j : Bool} : decide (V.bl i = V.bl j) = (i == j) := by
  rw [Bool.eq_iff_iff]
  simp
theorem dec_str {i j : Str} : decide (V.str i = V.str j) = (i == j) := by
  rw [Bool.eq_iff_iff]
  simp
theorem dec_byt {i j : Array UInt8} : decide (V.byt i = V.byt j) = (i.toList == j.toList) := by
  rw [Bool.eq_iff_iff]
  cases i
  cases j
  simp

section
variable {X : Cx} {a b c : Expr} {ta tb tc : TE} {pos : Pos}
theorem fin_bl {pins : List (Addr × Obj)} {σ : St} {H : Hp} {s : Shared} {Q : VK} {k k' : Bool} (I : Inv X pins σ H s) (q : Q (.bl k) H) (e : k = k') : EP X pins σ Q (.bool k') s := by
  subst e
  exact ⟨.bl k, H, I, rfl, q⟩
theorem op_eq : OpR X (compareOp .Eq) rEq := by
  intro pins s σ H x y v u Q I rx ry h
  obtain ⟨hs, q⟩ := h
  cases x with
  | non =>
    cases rx
    cases y with
    | non => cases ry; exact PySem.EqNone.eq_none_none (fin_bl I q (by simp))
    | bl j => cases ry; exact PySem.EqNone.eq_none_bool (fin_bl I q (by simp))
    | int j => obtain ⟨t', rfl⟩ := ry; exact PySem.EqNone.eq_none_int (fin_bl I q (by simp))
    | str j => obtain ⟨t', rfl⟩ := ry; exact PySem.EqNone.eq_none_str (fin_bl I q (by simp))
    | _ => exact absurd (show false = true from hs) Bool.false_ne_true
  | bl i =>
    cases rx
    cases y with
    | non => cases ry; exact PySem.EqNone.eq_bool_none (fin_bl I q (by simp))
    | bl j => cases ry; exact eq_bool (fin_bl I q dec_bl)
    | str j => obtain ⟨t', rfl⟩ := ry; exact PySem.EqMixed.eq_bool_str (fin_bl I q (by simp))
    | _ => exact absurd (show false = true from hs) Bool.false_ne_true
  | int i =>
    obtain ⟨t, rfl⟩ := rx
    cases y with
    | non => cases ry; exact PySem.EqNone.eq_int_none (fin_bl I q (by simp))
    | int j => obtain ⟨t', rfl⟩ := ry; exact eq_int (fin_bl I q dec_int)
    | str j => obtain ⟨t', rfl⟩ := ry; exact PySem.EqMixed.eq_int_str (fin_bl I q (by simp))
    | _ => exact absurd (show false = true from hs) Bool.false_ne_true
  | str i =>
    obtain ⟨t, rfl⟩ := rx
    cases y with
    | non => cases ry; exact PySem.EqNone.eq_str_none (fin_bl I q (by simp))
    | bl j => cases ry; exact PySem.EqMixed.eq_str_bool (fin_bl I q (by simp))
    | int j => obtain ⟨t', rfl⟩ := ry; exact PySem.EqMixed.eq_str_int (fin_bl I q (by simp))
    | str j => obtain ⟨t', rfl⟩ := ry; exact eq_str (fin_bl I q dec_str)
    | _ => exact absurd (show false = true from hs) Bool.false_ne_true
  | byt i =>
    obtain ⟨t, rfl⟩ := rx
    cases y with
    | byt j => obtain ⟨t', rfl⟩ := ry; exact PySem.W.eq_bytes (fin_bl I q dec_byt)
    | _ => exact absurd (show false = true from hs) Bool.false_ne_true
  | _ => cases y <;> exact absurd (show false = true from hs) Bool.false_ne_true
theorem op_ne : OpR X (compareOp .NotEq) rNe := by
  intro pins s σ H x y v u Q I rx ry h
  obtain ⟨hs, q⟩ := h
  cases x with
  | non =>
    cases rx
    cases y with
    | non => cases ry; exact PySem.EqNone.ne_none_none (fin_bl I q (by simp))
    | bl j => cases ry; exact PySem.EqNone.ne_none_bool (fin_bl I q (by simp))
    | int j => obtain ⟨t', rfl⟩ := ry; exact PySem.EqNone.ne_none_int (fin_bl I q (by simp))
    | str j => obtain ⟨t', rfl⟩ := ry; exact PySem.EqNone.ne_none_str (fin_bl I q (by simp))
    | _ => exact absurd (show false = true from hs) Bool.false_ne_true
  | bl i =>
    cases rx
    cases y with
    | non => cases ry; exact PySem.EqNone.ne_bool_none (fin_bl I q (by simp))
    | bl j => cases ry; exact ne_bool (fin_bl I q (congrArg not dec_bl))
    | str j => obtain ⟨t', rfl⟩ := ry; exact PySem.EqMixed.ne_bool_str (fin_bl I q (by simp))
    | _ => exact absurd (show false = true from hs) Bool.false_ne_true
  | int i =>
    obtain ⟨t, rfl⟩ := rx
    cases y with
    | non => cases ry; exact PySem.EqNone.ne_int_none (fin_bl I q (by simp))
    | int j => obtain ⟨t', rfl⟩ := ry; exact ne_int (fin_bl I q (congrArg not dec_int))
    | str j => obtain ⟨t', rfl⟩ := ry; exact PySem.EqMixed.ne_int_str (fin_bl I q (by simp))
    | _ => exact absurd (show false = true from hs) Bool.false_ne_true
  | str i =>
    obtain ⟨t, rfl⟩ := rx
    cases y with
    | non => cases ry; exact PySem.EqNone.ne_str_none (fin_bl I q (by simp))
    | bl j => cases ry; exact PySem.EqMixed.ne_str_bool (fin_bl I q (by simp))
    | int j => obtain ⟨t', rfl⟩ := ry; exact PySem.EqMixed.ne_str_int (fin_bl I q (by simp))
    | str j => obtain ⟨t', rfl⟩ := ry; exact ne_str (fin_bl I q (congrArg not dec_str))
    | _ => exact absurd (show false = true from hs) Bool.false_ne_true
  | byt i =>
    obtain ⟨t, rfl⟩ := rx
    cases y with
    | byt j => obtain ⟨t', rfl⟩ := ry; exact PySem.W.ne_bytes (fin_bl I q (congrArg not dec_byt))
    | _ => exact absurd (show false = true from hs) Bool.false_ne_true
  | _ => cases y <;> exact absurd (show false = true from hs) Bool.false_ne_true

theorem op_le : OpR X (compareOp .LtE) (rI0 fun i j => .bl (decide (i ≤ j))) := opB0 fun _ _ _ _ _ _ _ q => le_int q
theorem op_notin_str : OpR X (compareOp .NotIn) (fun x y H Q => ∃ i j, x = .str i ∧ y = .str j ∧ Q (.bl (!(!(Builtin.Str.occurrences j i 0 j.length 1).isEmpty))) H) := by
  intro pins s σ H x y v u Q I rx ry h
  obtain ⟨i, j, rfl, rfl, q⟩ := h
  obtain ⟨t, rfl⟩ := rx
  obtain ⟨t', rfl⟩ := ry
  exact notIn_str (fin_bl I q rfl)
theorem nomark (b : Expr) {op : CmpOp} (h : op ≠ .In := by decide) (h2 : op ≠ .NotIn := by decide) : behindInMarks op b = false := by
  have e1 : (op == CmpOp.In) = false := by cases op <;> first | rfl | exact absurd rfl h
  have e2 : (op == CmpOp.NotIn) = false := by cases op <;> first | rfl | exact absurd rfl h2
  cases b <;> simp [behindInMarks, e1, e2]
/-- a comparison as a value; hm: nomark b, or (for in, not in) by with_unfolding_all rfl -/
theorem pe_cmpR {op : CmpOp} {r : R2} (ho : OpR X (compareOp op) r) (ha : PE X a ta) (hb : PE X b tb) (hm : behindInMarks op b = false) : PE X (.Compare a [op] [b] pos) (tOp r ta tb) := by
  intro pins s σ H Q I h
  exact wpAny_Compare1 (binT ha hb I h fun v u s2 x y H2 I2 rx ry q => ho pins s2 σ H2 x y v u Q I2 rx ry q) hm
/-- a reading of a value as a test -/
def tTest (t : TE) : TT := fun σ H Q => t σ H fun x H' => ∃ k, x = .bl k ∧ Q k H'
theorem pt_cmpR {op : CmpOp} {r : R2} (ho : OpR X (compareOp op) r) (ha : PE X a ta) (hb : PE X b tb) (hm : behindInMarks op b = false) : PT X (.Compare a [op] [b] pos) (tTest (tOp r ta tb)) := by
  intro pins s σ H Q I h
  refine wpAny_isTrue_Compare1 (thn (ha pins s σ H _ I h) fun v s1 ⟨x, H1, I1, r1, q1⟩ => thn (hb pins s1 σ H1 _ I1 q1) fun u s2 ⟨y, H2, I2, r2, q2⟩ =>
    thn (ho pins s2 σ H2 x y v u _ I2 r1 r2 q2) fun c s3 ⟨z, H3, I3, r3, k, e, q3⟩ => ?_) hm
  subst e
  cases r3
  exact wpAny_truthy_bool ⟨H3, I3, q3⟩
/-- a op1 b op2 c -/
def tChain (r r' : R2) (ta tb tc : TE) : TE := fun σ H Q => ta σ H fun x H1 => tb σ H1 fun y H2 => r x y H2 fun z H3 => ∃ k, z = .bl k ∧
  (if k = true then tc σ H3 fun w' H4 => r' y w' H4 Q else Q (.bl false) H3)
theorem pt_chain {op op' : CmpOp} {r r' : R2} (ho : OpR X (compareOp op) r) (ho' : OpR X (compareOp op') r') (ha : PE X a ta) (hb : PE X b tb) (hc : PE X c tc)
    (hm : lastMarks [op, op'] [b, c] = false := by with_unfolding_all rfl) : PT X (.Compare a [op, op'] [b, c] pos) (tTest (tChain r r' ta tb tc)) := by
  intro pins s σ H Q I h
  refine isTrue_chain (thn (ha pins s σ H _ I h) fun v s1 ⟨x, H1, I1, r1, q1⟩ => test_link (thn (hb pins s1 σ H1 _ I1 q1) fun u s2 ⟨y, H2, I2, r2, q2⟩ =>
    thn (ho pins s2 σ H2 x y v u _ I2 r1 r2 q2) fun d s3 ⟨z, H3, I3, r3, k, e, q3⟩ => ?_)) hm
  subst e
  cases r3
  refine wpAny_truthy_bool ?_
  cases k with
  | false =>
    obtain ⟨k', e', q'⟩ := q3
    cases e'
    exact ite_ff ⟨H3, I3, q'⟩
  | true =>
    refine ite_tt (test_last (thn (hc pins s3 σ H3 _ I3 q3) fun w' s4 ⟨z', H4, I4, r4, q4⟩ => thn (ho' pins s4 σ H4 y z' u w' _ I4 r2 r4 q4) fun d' s5 ⟨z2, H5, I5, r5, k2, e2, q5⟩ => ?_))
    subst e2
    cases r5
    exact wpAny_truthy_bool ⟨H5, I5, q5⟩

/-! ### truth -/
theorem line63 : (sizeLine : Nat) < 2 ^ 63 := by rw [sizeLine_eq]; decide
/-! ### strs and bytes -/
theorem op_add_str : OpR X (binaryOp .Add) (fun x y H Q => ∃ i j, x = .str i ∧ y = .str j ∧ i.length + j.length ≤ sizeLine ∧ Q (.str (i ++ j)) H) := by
  intro pins s σ H x y v u Q I rx ry h
  obtain ⟨i, j, rfl, rfl, hz, q⟩ := h
  obtain ⟨t, rfl⟩ := rx
  obtain ⟨t', rfl⟩ := ry
  exact add_str (fun t' tk => ⟨.str (i ++ j), H, I.tok _, ⟨_, rfl⟩, q⟩) hz
/-! ### scalar builtins, by CallR -/
theorem vals1 {x : V} {us : List Value} (r : Vals [x] us) : ∃ u, us = [u] ∧ RelV x u := by
  cases r with
  | cons r1 r2 => cases r2; exact ⟨_, rfl, r1⟩
theorem vals2 {x y : V} {us : List Value} (r : Vals [x, y] us) : ∃ u w', us = [u, w'] ∧ RelV x u ∧ RelV y w' := by
  cases r with
  | cons r1 r2 =>
    cases r2 with
    | cons r3 r4 => cases r4; exact ⟨_, _, rfl, r1, r3⟩
theorem call_max2 (hc : X.calm = true) : CallR X (.builtin "max") (fun xs H Q => ∃ i j, xs = [.int i, .int j] ∧ Q (.int (if j > i then j else i)) H) := by
  intro pins s σ H xs us Q I r h
  obtain ⟨i, j, rfl, q⟩ := h
  obtain ⟨u, w', rfl, ⟨t, rfl⟩, ⟨t', rfl⟩⟩ := vals2 r
  refine max_two_ints (I.ok.hd hc) fun h' tk k => ⟨_, H, I.kept k, ?_, q⟩
  by_cases hj : j > i
  · rw [if_pos hj, if_pos hj]; exact ⟨_, rfl⟩
  · rw [if_neg hj, if_neg hj]; exact ⟨_, rfl⟩
theorem call_min2 (hc : X.calm = true) : CallR X (.builtin "min") (fun xs H Q => ∃ i j, xs = [.int i, .int j] ∧ Q (.int (if j < i then j else i)) H) := by
  intro pins s σ H xs us Q I r h
  obtain ⟨i, j, rfl, q⟩ := h
  obtain ⟨u, w', rfl, ⟨t, rfl⟩, ⟨t', rfl⟩⟩ := vals2 r
  refine min_two_ints (I.ok.hd hc) fun h' tk k => ⟨_, H, I.kept k, ?_, q⟩
  by_cases hj : j < i
  · rw [if_pos hj, if_pos hj]; exact ⟨_, rfl⟩
  · rw [if_neg hj, if_neg hj]; exact ⟨_, rfl⟩
theorem call_int1 : CallR X (.type "int") (fun xs H Q => (∃ i, xs = [.int i] ∧ Q (.int i) H) ∨ ∃ k, xs = [.bl k] ∧ Q (.int (if k then 1 else 0)) H) := by
  intro pins s σ H xs us Q I r h
  rcases h with ⟨i, rfl, q⟩ | ⟨k, rfl, q⟩
  · obtain ⟨u, rfl, t, rfl⟩ := vals1 r
    exact call_int_int ⟨.int i, H, I, ⟨_, rfl⟩, q⟩
  · obtain ⟨u, rfl, r1⟩ := vals1 r
    cases r1
    exact call_int_bool ⟨.int (if k then 1 else 0), H, I.tok _, ⟨_, rfl⟩, q⟩
theorem call_str_int : CallR X (.type "str") (fun xs H Q => ∃ i, xs = [.int i] ∧ i.natAbs.log2 < 1920 ∧ Q (.str (toString i)) H) := by
  intro pins s σ H xs us Q I r h
  obtain ⟨i, rfl, hz, q⟩ := h
  obtain ⟨u, rfl, t, rfl⟩ := vals1 r
  exact PySem.P.str_of_int hz ⟨.str _, H, I.tok _, ⟨_, rfl⟩, q⟩
end
end L2

namespace L2
open PySem PySem.Spec PyProof.Rows

/-! ### an instance, its attributes a map -/
structure ObjM (h : Heap) (x dx C : Addr) (mA : Str → Option Value) : Prop where
  obj : h.get? x = some (PySem.W.instObj C dx)
  ns : h.Ns1 dx mA
  ne : dx ≠ x

theorem lookIn_ns {h : Heap} {dx : Addr} {mA : Str → Option Value} (n : h.Ns1 dx mA) : ∃ od, h.get? dx = some od ∧ ∀ name, PySem.W.lookIn name od = some (mA name) := by
  obtain ⟨o, es, ep, ho, hd, hk, _, hm⟩ := n
  refine ⟨o, ho, fun name => ?_⟩
  have e := hm name
  unfold nsFind findBy at e
  rw [← Array.find?_toList] at e
  unfold PySem.W.lookIn
  rw [hd]
  dsimp only
  split
  · rename_i y q
    rw [q] at e
    exact congrArg some e
  · rename_i q
    rw [q] at e
    have a : es.toList.any (·.refKey) = false := by
      rw [List.any_eq_false]
      intro y hy
      obtain ⟨z, t, hkey⟩ := hk y (Array.mem_toList_iff.mp hy)
      simp [DictEntry.refKey, hkey]
    have a' : ¬ es.toList.any (·.refKey) = true := by rw [a]; exact Bool.false_ne_true
    rw [if_neg a']
    exact congrArg some e

theorem ObjM.look {h : Heap} {x dx C : Addr} {mA : Str → Option Value} (I : ObjM h x dx C mA) : ∃ od, PySem.W.InstAt h x (PySem.W.instObj C dx) C (some od) ∧ ∀ name, PySem.W.lookIn name od = some (mA name) :=
  let ⟨od, ho, hl⟩ := lookIn_ns I.ns
  ⟨od, ⟨I.obj, rfl, rfl, ho⟩, hl⟩

section
variable {prog : Program} {w : World} {A : Around} {E : Value → Shared → Prop} {s : Shared} {K : PySem.W.Frag} {x dx C f : Addr} {mA : Str → Option Value} {name : Str} {v : Value}

theorem get_map {expr : Bool} {Q : Value → Shared → Prop} (X : K.In s.heap) (I : ObjM s.heap x dx C mA) (hg : PySem.W.plainGet K C name = true) (hh : PySem.W.hasDictIn K C = true)
    (ha : PySem.W.findIn K (.ref C) name = some none) (hv : mA name = some v) (hv' : PySem.W.handedIn v = true) (h : Q v { s with toks := s.toks + 1 }) :
    wpAny (model prog w) A (getAttr (.ref x) name expr) Q E s := by
  obtain ⟨od, J, hl⟩ := I.look
  exact PySem.W.get_value X J (PySem.W.plainGet_of hg).1 (PySem.W.findObj_own hh ha rfl (by rw [hl, hv])) hv' h

theorem get_meth {pl : Sem Bool} {Q : Value × List Value → Shared → Prop} (X : K.In s.heap) (I : ObjM s.heap x dx C mA) (hg : PySem.W.plainGet K C name = true)
    (hf : PySem.W.findIn K (.ref C) name = some (some (.ref f))) (ht : PySem.W.isFn K (.ref f) = true) (hv : mA name = none) (h : Q (.ref f, [.ref x]) s) :
    wpAny (model prog w) A (getMethod (.ref x) name pl) Q E s := by
  obtain ⟨od, J, hl⟩ := I.look
  exact PySem.W.method_fn X J (PySem.W.plainGet_of hg).1 (PySem.W.plainGet_of hg).2 hf (beq_iff_eq.mp ht) (by show (PySem.W.lookIn name od).map (·.isSome) = some false; rw [hl, hv]; rfl) h

theorem set_map {ns : List Str} {Q : Unit → Shared → Prop} (X : K.In s.heap) (I : ObjM s.heap x dx C mA)
    (hs : PySem.W.findIn K (.ref C) "__setattr__" = some (some (.builtin "object.__setattr__"))) (hp : PySem.W.plainOver K C = true) (ht : PySem.W.takerIn K C name = some none) (hh : PySem.W.hasDictIn K C = true)
    (hw : PySem.Within mA ns) (hsz : ns.length ≤ sizeLine)
    (h : ∀ h', ObjM h' x dx C (fun y => if y = name then some v else mA y) → Heap.SameBut dx s.heap h' → Q () { s with heap := h', toks := s.toks + 2 }) :
    wpAny (model prog w) A (setAttr (.ref x) name v) Q E s := by
  obtain ⟨od, J, hl⟩ := I.look
  refine PySem.W.set_plain X J hs (PySem.W.osa_open (s := { s with toks := s.toks + 1 }) (r := none) X J hp ht fun b => ?_)
  obtain ⟨cd, hc, hd'⟩ := PySem.W.any_some hh
  have hx : s.heap.get? x = some ⟨.ref C, some dx, .plain, #[]⟩ := I.obj
  refine wpAny_bind (wpAny_pure (wpAny_bind (wpAny_bind (wpAny_loadPart hx (wpAny_bind (PySem.W.Looks.here (s := { s with toks := s.toks + 1 }) (PySem.W.looks_clsIn X hc) ?_))))))
  rw [hd']
  refine wpAny_pure (a := some dx) (wpAny_bind (wpAny_pure (wpAny_bind ?_)))
  refine wpAny_nsSet1 (s := { s with toks := s.toks + 1 }) I.ns fun h' hn2 hs2 => ?_
  obtain ⟨oD, esD, epD, hoD, hdD, hcD⟩ := hn2.count (PySem.Within.cons name v hw)
  refine wpAny_bind (wpAny_lookBehind hoD (by rw [hdD]; exact pastItsLine_dict (Nat.le_trans hcD (by rw [List.length_cons]; omega))) ?_)
  exact wpAny_pure (h _ ⟨(hs2.2 _ (Ne.symm I.ne)).trans I.obj, hn2, I.ne⟩ hs2)

/-- C(..): the dict at the heap's end, the instance behind it; then its __init__ -/
theorem make_map {R : Result → Shared → Prop} {vs : List Value} {kw : List (Str × Value)} (X : K.In s.heap) (hm : PySem.W.makesIn K C = true)
    (hi : PySem.W.findIn K (.ref C) "__init__" = some (some (.ref f))) (hf : PySem.W.typeIn K (.ref f) = some (.type "function"))
    (h : codeAny (model prog w) (A.under (.builtin "type.__call__" ⟨.ref C :: vs, kw⟩)) (.call (.ref f) ⟨.ref (s.heap.objs.size + 1) :: vs, kw⟩) (PySem.W.InitBack (s.heap.objs.size + 1) R)
      { s with heap := (s.heap.push PySem.W.emptyDict).push (PySem.W.instObj C s.heap.objs.size) }) :
    codeAny (model prog w) A (.call (.ref C) ⟨vs, kw⟩) R s := by
  obtain ⟨hh, g, d, t, os⟩ := s
  exact PySem.W.make_core (PySem.W.makes_of X hm) (PySem.W.looks_findIn X hi) (fun self => PySem.W.bind_fn X self hf) (.inl rfl) h
end

/-! ### the attributes as a list of pairs -/
def putF (f : Str) (v : V) : List (Str × V) → List (Str × V)
  | [] => [(f, v)]
  | (g, x) :: r => if g = f then (g, v) :: r else (g, x) :: putF f v r
theorem lookup_putF (f g : Str) (v : V) : ∀ fs : List (Str × V), (putF f v fs).lookup g = if g = f then some v else fs.lookup g
  | [] => by
    show List.lookup g [(f, v)] = _
    by_cases h : g = f
    · have hb : (g == f) = true := beq_iff_eq.mpr h
      simp only [List.lookup, hb, if_pos h]
    · have hb : (g == f) = false := beq_eq_false_iff_ne.mpr h
      simp only [List.lookup, hb, if_neg h]
  | (k, x) :: r => by
    have ih := lookup_putF f g v r
    rw [show putF f v ((k, x) :: r) = (if k = f then (k, v) :: r else (k, x) :: putF f v r) from rfl]
    by_cases hk : k = f
    · rw [if_pos hk]
      by_cases h : g = k
      · have hb : (g == k) = true := beq_iff_eq.mpr h
        simp only [List.lookup, hb, if_pos (h.trans hk)]
      · have hb : (g == k) = false := beq_eq_false_iff_ne.mpr h
        simp only [List.lookup, hb, if_neg (fun e : g = f => h (e.trans hk.symm))]
    · rw [if_neg hk]
      by_cases h : g = k
      · have hb : (g == k) = true := beq_iff_eq.mpr h
        simp only [List.lookup, hb, if_neg (fun e : g = f => hk (h.symm.trans e))]
      · have hb : (g == k) = false := beq_eq_false_iff_ne.mpr h
        simp only [List.lookup, hb]
        exact ih
theorem keys_putF (f : Str) (v : V) : ∀ fs : List (Str × V), f ∈ (putF f v fs).map (·.1) ∧ ∀ g, g ∈ fs.map (·.1) → g ∈ (putF f v fs).map (·.1)
  | [] => ⟨by simp [putF], fun g h => by simp at h⟩
  | (k, x) :: r => by
    obtain ⟨i1, i2⟩ := keys_putF f v r
    rw [show putF f v ((k, x) :: r) = (if k = f then (k, v) :: r else (k, x) :: putF f v r) from rfl]
    by_cases hk : k = f
    · rw [if_pos hk]
      subst hk
      exact ⟨by simp, fun g h => by simpa using h⟩
    · rw [if_neg hk]
      refine ⟨?_, fun g h => ?_⟩
      · rw [List.map_cons]
        exact List.mem_cons_of_mem _ i1
      · rw [List.map_cons] at h ⊢
        rcases List.mem_cons.mp h with e | e
        · exact List.mem_cons.mpr (.inl e)
        · exact List.mem_cons_of_mem _ (i2 g e)
theorem length_putF (f : Str) (v : V) : ∀ fs : List (Str × V), (putF f v fs).length ≤ fs.length + 1
  | [] => by simp [putF]
  | (k, x) :: r => by
    have ih := length_putF f v r
    rw [show putF f v ((k, x) :: r) = (if k = f then (k, v) :: r else (k, x) :: putF f v r) from rfl]
    by_cases hk : k = f
    · rw [if_pos hk, List.length_cons, List.length_cons]; omega
    · rw [if_neg hk, List.length_cons, List.length_cons]; omega

theorem RelO.some_of {v : V} {o : Option Value} (r : RelO (some v) o) : ∃ u, o = some u ∧ RelV v u := by
  cases o with
  | none => exact (show False from r).elim
  | some u => exact ⟨u, rfl, r⟩
theorem RelO.none_of {o : Option Value} (r : RelO none o) : o = none := by
  cases o with
  | none => rfl
  | some u => exact (show False from r).elim
theorem handed_of {v : V} {u : Value} (r : RelV v u) : PySem.W.handedIn u = true := by
  cases v with
  | non => cases (show u = Value.none from r); rfl
  | bl b => cases (show u = Value.bool b from r); rfl
  | int i => obtain ⟨t, e⟩ := (show ∃ t, u = Value.int i t from r); cases e; rfl
  | str x => obtain ⟨t, e⟩ := (show ∃ t, u = Value.str x t from r); cases e; rfl
  | byt b => obtain ⟨t, e⟩ := (show ∃ t, u = Value.bytes b t from r); cases e; rfl
  | flt b => obtain ⟨t, e⟩ := (show ∃ t, u = Value.float b t from r); cases e; rfl
  | ref a => cases (show u = Value.ref a from r); rfl
  | ty n => cases (show u = Value.type n from r); rfl

section
variable {P : Program} {w : World} {H H' : Hp} {h h' : Heap} {a C dx : Addr} {fs fs' : List (Str × V)}
theorem ins_get (hok : HOk P w H h) (e : H a = some (.ins C dx fs)) : ∃ mA, ObjM h a dx C mA ∧ (∀ f, RelO (fs.lookup f) (mA f)) ∧ PySem.Within mA (fs.map (·.1)) ∧ fs.length ≤ 1000 ∧ H dx = some (.own a) := by
  obtain ⟨d, z, ne, ob, mA, n, r, q⟩ := (show ObjOk P w H h a (.ins C dx fs) from hok a _ e)
  exact ⟨mA, ⟨ob, n, ne⟩, r, q, z, d⟩
end

/-! ### what of the text a class must have -/
structure Cls (K : PySem.W.Frag) (C : Addr) : Prop where
  pg : PySem.W.plainGet K C Str.empty = true
  hd : PySem.W.hasDictIn K C = true
  po : PySem.W.plainOver K C = true
  sa : PySem.W.findIn K (.ref C) "__setattr__" = some (some (.builtin "object.__setattr__"))
theorem Cls.get {K : PySem.W.Frag} {C : Addr} (c : Cls K C) (f : Str) : PySem.W.plainGet K C f = true := c.pg
/-- no class of it has the name -/
def NoAttr (K : PySem.W.Frag) (C : Addr) (f : Str) : Prop := PySem.W.findIn K (.ref C) f = some none
theorem NoAttr.taker {K : PySem.W.Frag} {C : Addr} {f : Str} (n : NoAttr K C f) : PySem.W.takerIn K C f = some none := by
  unfold PySem.W.takerIn
  rw [show PySem.W.findIn K (.ref C) f = some none from n]
  rfl
/-- a method: a plain def of the class or of one above it -/
structure Meth (K : PySem.W.Frag) (C : Addr) (m : Str) (f : Addr) : Prop where
  at_ : PySem.W.findIn K (.ref C) m = some (some (.ref f))
  fn : PySem.W.isFn K (.ref f) = true
  kp : PySem.W.keepIn K (.ref f) = true

section
variable {X : Cx} {pins : List (Addr × Obj)} {σ : St} {H : Hp} {s : Shared} {a C dx : Addr} {fs : List (Str × V)} {f : Str} {v : V} {A : Around} {E : Value → Shared → Prop}

theorem getattr_ok {b : Bool} {Q : Value → Shared → Prop} (I : Inv X pins σ H s) (e : H a = some (.ins C dx fs)) (c : Cls X.K C) (n : NoAttr X.K C f) (l : fs.lookup f = some v)
    (h : ∀ u s', Inv X pins σ H s' → RelV v u → Q u s') : wpAny (model X.prog X.w) A (getAttr (.ref a) f b) Q E s := by
  obtain ⟨mA, O, r, _, _, _⟩ := ins_get I.hok e
  obtain ⟨u, hu, ru⟩ := RelO.some_of (v := v) (o := mA f) (by rw [← l]; exact r f)
  exact get_map I.kIn O (c.get f) c.hd n hu (handed_of ru) (h u _ (I.tok _) ru)

theorem getmeth_ok {m : Str} {g : Addr} {pl : Sem Bool} {Q : Value × List Value → Shared → Prop} (I : Inv X pins σ H s) (e : H a = some (.ins C dx fs)) (c : Cls X.K C) (k : Meth X.K C m g) (l : fs.lookup m = none)
    (h : Q (.ref g, [.ref a]) s) : wpAny (model X.prog X.w) A (getMethod (.ref a) m pl) Q E s := by
  obtain ⟨mA, O, r, _, _, _⟩ := ins_get I.hok e
  have hn : mA m = none := RelO.none_of (by rw [← l]; exact r m)
  exact get_meth I.kIn O (c.get m) k.at_ k.fn hn h

theorem setattr_ok {y : V} {u : Value} {Q : Unit → Shared → Prop} (I : Inv X pins σ H s) (e : H a = some (.ins C dx fs)) (c : Cls X.K C) (n : NoAttr X.K C f) (hl : fs.length < 1000) (ry : RelV y u)
    (h : ∀ s', Inv X pins σ (upd H a (.ins C dx (putF f y fs))) s' → Q () s') : wpAny (model X.prog X.w) A (setAttr (.ref a) f u) Q E s := by
  obtain ⟨mA, O, r, wi, _, ho⟩ := ins_get I.hok e
  have hz : (fs.map (·.1)).length ≤ sizeLine := by rw [List.length_map, sizeLine_eq]; omega
  refine set_map I.kIn O c.sa c.po n.taker c.hd wi hz fun h' O' sb => h _ ?_
  have hd : ∃ o, h'.get? dx = some o := let ⟨o, _, _, e', _⟩ := O'.ns; ⟨o, e'⟩
  refine I.write (x := a) (e := dx) (by rw [e]; exact True.intro) (.inr ho) (fun b q hb z => (sb.2 b hb).trans z) hd ?_
  refine ⟨by rw [upd_ne O.ne]; exact ho, ?_, O.ne, O'.obj, _, O'.ns, fun g => ?_, fun g hg => ?_⟩
  · have := length_putF f y fs; omega
  · show RelO ((putF f y fs).lookup g) (if g = f then some u else mA g)
    rw [lookup_putF]
    by_cases q : g = f
    · rw [if_pos q, if_pos q]; exact ry
    · rw [if_neg q, if_neg q]; exact r g
  · by_cases q : g = f
    · rw [q]; exact (keys_putF f y fs).1
    · refine (keys_putF f y fs).2 g (wi g fun z => hg ?_)
      show (if g = f then some u else mA g) = none
      rw [if_neg q]; exact z

/-- a new instance, tracked, without attributes -/
theorem Inv.made (I : Inv X pins σ H s) : Inv X pins σ (upd (upd H s.heap.objs.size (.own (s.heap.objs.size + 1))) (s.heap.objs.size + 1) (.ins C s.heap.objs.size []))
    { s with heap := (s.heap.push PySem.W.emptyDict).push (PySem.W.instObj C s.heap.objs.size) } := by
  have e1 : (s.heap.push PySem.W.emptyDict).get? s.heap.objs.size = some PySem.W.emptyDict := Heap.get?_push_size s.heap rfl
  have e2 : ((s.heap.push PySem.W.emptyDict).push (PySem.W.instObj C s.heap.objs.size)).get? (s.heap.objs.size + 1) = some (PySem.W.instObj C s.heap.objs.size) := by
    have := Heap.get?_push_size (s.heap.push PySem.W.emptyDict) (o := PySem.W.instObj C s.heap.objs.size) rfl
    rwa [Heap.size_push] at this
  have e3 : (s.heap.push PySem.W.emptyDict).Ns s.heap.objs.size (fun _ => none) := ⟨PySem.W.emptyDict, #[], _, e1, rfl, (fun e he => absurd he (by simp)), fun _ => rfl⟩
  have I1 := I.laid (a := s.heap.objs.size) (o := .own (s.heap.objs.size + 1)) (h' := s.heap.push PySem.W.emptyDict) (t' := s.toks) (fun b u q => Heap.get?_push_of_some _ q) (Nat.le_refl _) ⟨_, e1⟩
  refine I1.laid (a := s.heap.objs.size + 1) (o := .ins C s.heap.objs.size []) (t' := s.toks) (fun b u q => Heap.get?_push_of_some _ q) (Nat.le_of_eq (Heap.size_push _ _)) ?_
  have ne : s.heap.objs.size ≠ s.heap.objs.size + 1 := Nat.ne_of_lt (Nat.lt_succ_self _)
  refine ⟨by rw [upd_ne ne, upd_same], Nat.zero_le _, ne, e2, fun _ => none, (Heap.Ns1.of_empty e3).at fun o q => Heap.get?_push_of_some _ q, fun _ => True.intro, fun y hy => absurd rfl hy⟩

/-- e.f where nothing but the object is asked: through attributeBase (super) and the last hold -/
theorem attr_of {prog : Program} {w : World} {env : Env} {e : Expr} {f : Str} {pos : Pos} {s : Shared} {Q : Value → Shared → Prop} (hb : attributeBase e f env (eval e env) = eval e env)
    (h : wpAny (model prog w) A (eval e env) (fun o s₁ => wpAny (model prog w) A (getAttr o f true) Q E s₁) E s) : wpAny (model prog w) A (eval (.Attribute e f pos) env) Q E s :=
  Attribute_any_ h (by rw [arm_eval_Attribute, hb])
end

/-! ### readings and rules -/
/-- e.f, an attribute of the instance -/
def tFld (K : PySem.W.Frag) (ta : TE) (f : Str) : TE := fun σ H Q => ta σ H fun x H1 => ∃ a C dx fs v, x = .ref a ∧ H1 a = some (.ins C dx fs) ∧ Cls K C ∧ NoAttr K C f ∧ fs.lookup f = some v ∧ Q v H1
/-- e.f = value -/
def sFld (K : PySem.W.Frag) (ta tv : TE) (f : Str) : TS := fun D σ H => tv σ H fun y H1 => ta σ H1 fun x H2 => ∃ a C dx fs, x = .ref a ∧ H2 a = some (.ins C dx fs) ∧ Cls K C ∧ NoAttr K C f ∧ fs.length < 1000 ∧
  D.nx σ (upd H2 a (.ins C dx (putF f y fs)))
section
variable {X : Cx} {o e value : Expr} {f : Str} {pos pos' tpos : Pos} {ta tv : TE}
theorem pe_fld (he : PE X e ta) (hb : attributeBase e f X.env (eval e X.env) = eval e X.env) : PE X (.Attribute e f pos) (tFld X.K ta f) := by
  intro pins s σ H Q I h
  refine attr_of hb (thn (he pins s σ H _ I h) fun u s1 ⟨x, H1, I1, rx, a, C, dx, fs, v, ex, ea, c, n, l, q⟩ => ?_)
  subst ex
  obtain rfl : u = Value.ref a := rx
  exact getattr_ok I1 ea c n l fun u' s2 I2 ru => ⟨v, H1, I2, ru, q⟩
theorem ps_fld (ha : PE X o ta) (hv : PE X value tv) (hs : swapsWith value (some (.Attribute o f pos')) pos.line X.env = pure false) : PS X (.Assign [.Attribute o f pos'] value pos) (sFld X.K ta tv f) := by
  intro pins s σ H D I h
  refine plainObj_wpAny_Assign_Attribute (thn (hv pins s σ H _ I h) fun u s1 ⟨y, H1, I1, ry, q⟩ => thn (ha pins s1 σ H1 _ I1 q) fun ov s2 ⟨x, H2, I2, rx, a, C, dx, fs, ex, ea, c, n, l, q2⟩ => ?_) hs
  subst ex
  obtain rfl : ov = Value.ref a := rx
  exact setattr_ok I2 ea c n l ry fun s3 I3 => ⟨σ, _, I3, q2⟩
end

/-! ### isinstance -/
section
variable {X : Cx} {pins : List (Addr × Obj)} {σ : St} {H : Hp} {s : Shared} {A : Around} {E : Value → Shared → Prop} {Q : Value → Shared → Prop} {c : Value} {b : Bool}
/-- the type of a value, as the fragment's deciders take it; for an instance its class -/
inductive TyOf (K : PySem.W.Frag) (H : Hp) : V → Value → Prop where
  | non : TyOf K H .non (.type "NoneType")
  | bl (x : Bool) : TyOf K H (.bl x) (.type "bool")
  | int (i : Int) : TyOf K H (.int i) (.type "int")
  | str (x : Str) : TyOf K H (.str x) (.type "str")
  | flt (x : UInt64) : TyOf K H (.flt x) (.type "float")
  | lst {a : Addr} {xs : List V} (e : H a = some (.lst xs)) : TyOf K H (.ref a) (.type "list")
  | frz {a : Addr} {o : Obj} {xs : List V} (e : H a = some (.frz o (.lst xs))) : TyOf K H (.ref a) (.type "list")
  | tup {a : Addr} {xs : List V} (e : H a = some (.tup xs)) : TyOf K H (.ref a) (.type "tuple")
  | dK {a : Addr} {kvs : List (Key × V)} (e : H a = some (.dK kvs)) : TyOf K H (.ref a) (.type "dict")
  | dT {a : Addr} {kvs : List (List Key × V)} (e : H a = some (.dT kvs)) : TyOf K H (.ref a) (.type "dict")
  | ins {a C dx : Addr} {fs : List (Str × V)} (e : H a = some (.ins C dx fs)) (cl : Cls K C) (ha : PySem.W.findIn K (.ref C) "__class__" = some (some (.builtin "object.__class__")))
      (hn : PySem.W.specialIn K (.builtin "object.__class__") "__get__" = some (some (.builtin "getset_descriptor.__get__"))) (htk : PySem.W.takesIn K (.builtin "object.__class__") = some true)
      (hm : PySem.W.mroIn K C (.type "object") = some true) : TyOf K H (.ref a) (.ref C)
/-- isinstance(x, c) for one class c, a built-in or an own one: kitOne's answer -/
theorem isinst_ok {x : V} {u t : Value} (I : Inv X pins σ H s) (rx : RelV x u) (ty : TyOf X.K H x t) (e : PySem.W.kitOne X.K t c = some b) (h : ∀ tk, Q (.bool b) { s with toks := tk }) :
    wpAny (model X.prog X.w) A (call (.builtin "isinstance") [u, c]) Q E s := by
  cases ty with
  | non => cases (show u = Value.none from rx); exact PySem.W.kia_one PySem.W.kitx_none I.kIn True.intro e (fun z => nomatch z) h
  | bl y => cases (show u = Value.bool y from rx); exact PySem.W.kia_one PySem.W.kitx_bool I.kIn True.intro e (fun z => nomatch z) h
  | int i => obtain ⟨t, q⟩ := (show ∃ t, u = Value.int i t from rx); cases q; exact PySem.W.kia_one PySem.W.kitx_int I.kIn True.intro e (fun z => nomatch z) h
  | str y => obtain ⟨t, q⟩ := (show ∃ t, u = Value.str y t from rx); cases q; exact PySem.W.kia_one PySem.W.kitx_str I.kIn True.intro e (fun z => nomatch z) h
  | flt y => obtain ⟨t, q⟩ := (show ∃ t, u = Value.float y t from rx); cases q; exact PySem.W.kia_one PySem.W.kitx_float I.kIn True.intro e (fun z => nomatch z) h
  | @lst a xs ea =>
    cases (show u = Value.ref a from rx)
    obtain ⟨_, _, n, _, h1⟩ := (show ObjOk X.prog X.w H s.heap a (.lst xs) from I.hok a _ ea)
    exact PySem.W.kia_one PySem.W.kitx_list I.kIn ⟨_, h1, rfl⟩ e (fun z => nomatch z) h
  | @frz a ob xs ea =>
    cases (show u = Value.ref a from rx)
    obtain ⟨_, _, _, n, _, h1⟩ := (show ObjOk X.prog X.w H s.heap a (.frz ob (.lst xs)) from I.hok a _ ea)
    exact PySem.W.kia_one PySem.W.kitx_list I.kIn ⟨_, h1, rfl⟩ e (fun z => nomatch z) h
  | @tup a xs ea =>
    cases (show u = Value.ref a from rx)
    obtain ⟨_, _, _, p⟩ := (show ObjOk X.prog X.w H s.heap a (.tup xs) from I.hok a _ ea)
    obtain ⟨o, h1, h2, _⟩ := p
    exact PySem.W.kia_one PySem.W.kitx_tuple I.kIn ⟨o, h1, h2⟩ e (fun z => nomatch z) h
  | @dK a kvs ea =>
    cases (show u = Value.ref a from rx)
    obtain ⟨_, _, vs, _, p⟩ := (show ObjOk X.prog X.w H s.heap a (.dK kvs) from I.hok a _ ea)
    obtain ⟨o, es, ep, h1, h2, _⟩ := p
    exact PySem.W.kia_one PySem.W.kitx_dict I.kIn ⟨o, h1, h2.1⟩ e (fun z => nomatch z) h
  | @dT a kvs ea =>
    cases (show u = Value.ref a from rx)
    obtain ⟨_, _, xs, _, o, es, ep, h1, h2, _⟩ := (show ObjOk X.prog X.w H s.heap a (.dT kvs) from I.hok a _ ea)
    exact PySem.W.kia_one PySem.W.kitx_dict I.kIn ⟨o, h1, h2.1⟩ e (fun z => nomatch z) h
  | @ins a C dx fs ea cl ha hn htk hm =>
    cases (show u = Value.ref a from rx)
    obtain ⟨mA, O, _⟩ := ins_get I.hok ea
    obtain ⟨od, J, _⟩ := O.look
    exact PySem.W.kia_one (PySem.W.kitx_own (cl.get _) cl.hd ha hn htk hm) I.kIn J e (fun z => nomatch z) h
end
end L2

namespace L2
open PySem PySem.Spec PyProof.Rows

/-! ### room -/
structure Room (k : Nat) (A : Around) : Prop where
  hd : A.handled = none
  dp : A.depth + 3 * k + 5 < recursionLimit
  un : A.units + 16 * k + 200 < cLine
theorem Room.mono {j k : Nat} {A : Around} (r : Room k A) (h : j ≤ k) : Room j A := ⟨r.hd, by have := r.dp; omega, by have := r.un; omega⟩
theorem Room.deeper {k : Nat} {A : Around} (r : Room (k + 1) A) (env : Env) : Room k (A.deeper env) :=
  ⟨r.hd, by have := r.dp; show A.depth + 1 + 3 * k + 5 < _; omega, by have := r.un; show A.units + 3 + 16 * k + 200 < _; omega⟩
theorem make_depth {A : Around} {C : Addr} {us : List Value} {kw : List (Str × Value)} : (A.under (.builtin "type.__call__" ⟨.ref C :: us, kw⟩)).depth = A.depth + 1 := by
  first | rfl | simp [Around.under, Code.weight, Code.isCreation, Code.isGuard, Code.isCaller, Code.frames, Code.isFrame, guardIds]
theorem make_units {A : Around} {C : Addr} {us : List Value} {kw : List (Str × Value)} : (A.under (.builtin "type.__call__" ⟨.ref C :: us, kw⟩)).units = A.units + 1 := by
  first | rfl | simp [Around.under, Code.cUnits, Code.frames, Code.isFrame]
theorem Room.make {k : Nat} {A : Around} (r : Room (k + 1) A) (C : Addr) (us : List Value) (kw : List (Str × Value)) : Room k (A.under (.builtin "type.__call__" ⟨.ref C :: us, kw⟩)) :=
  ⟨r.hd, by have := r.dp; rw [make_depth]; omega, by have := r.un; rw [make_units]; omega⟩
theorem Room.depth {k : Nat} {A : Around} (r : Room k A) : A.depth < recursionLimit := by have := r.dp; omega
theorem Room.units {k : Nat} {A : Around} (r : Room k A) : A.units + 64 < cLine := by have := r.un; omega
theorem Room.units0 {k : Nat} {A : Around} (r : Room k A) : A.units < cLine := by have := r.un; omega

/-! ### argument lists and displays -/
def tNil : TA := fun _ H Q => Q [] H
def tCons (ta : TE) (tr : TA) : TA := fun σ H Q => ta σ H fun x H1 => tr σ H1 fun xs H2 => Q (x :: xs) H2
section
variable {X : Cx} {e : Expr} {es : List Expr} {te : TE} {t : TA} {pos : Pos}
theorem pa_nil : PA X [] tNil := fun _ _ _ _ H Q I h => Calls.spliced_nil ⟨[], H, I, .nil, h⟩
theorem pa_cons (ha : PE X e te) (hr : PA X es t) (hs : starEach (e :: es) X.env = (false, eval e X.env) :: starEach es X.env := by rfl) : PA X (e :: es) (tCons te t) := by
  intro pos pins s σ H Q I h
  rw [hs]
  show wpAny _ _ (spliced ((false, eval e X.env) :: backTo pos (starEach es X.env))) _ _ s
  refine Calls.spliced_cons (thn (ha pins s σ H _ I h) fun u s1 ⟨x, H1, I1, r1, q1⟩ => ?_)
  exact thn (hr pos pins s1 σ H1 _ I1 q1) fun us s2 ⟨xs, H2, I2, r2, q2⟩ => ⟨x :: xs, H2, I2, .cons r1 r2, q2⟩

/-- a tuple, a list of written items -/
def tTup (t : TA) : TE := fun σ H Q => t σ H fun xs H1 => xs.length ≤ sizeLine ∧ ∀ p, H1 p = none → Q (.ref p) (upd H1 p (.tup xs))
def tLst (t : TA) : TE := fun σ H Q => t σ H fun xs H1 => xs.length ≤ sizeLine ∧ ∀ p, H1 p = none → Q (.ref p) (upd H1 p (.lst xs))
theorem pe_tup {x1} (h : PA X es t) : PE X (.Tuple es x1 pos) (tTup t) := by
  intro pins s σ H Q I hq
  refine wpAny_Tuple_spliced (thn (h pos pins s σ H _ I hq) fun us s1 ⟨xs, H1, I1, r, z, q⟩ => ⟨by rw [← r.length]; exact z, ?_⟩)
  have hf : H1 s1.heap.objs.size = none := I1.hok.fresh (Nat.le_refl _)
  refine ⟨.ref s1.heap.objs.size, upd H1 s1.heap.objs.size (.tup xs), I1.laid (t' := s1.toks) (fun b u e => Heap.get?_push_of_some _ e) (Nat.le_refl _) ?_, rfl, q _ hf⟩
  exact ⟨z, us, r, ⟨_, Heap.get?_push_size _ rfl, rfl, _, rfl⟩⟩
theorem pe_lst (h : PA X es t) : PE X (.List es pos) (tLst t) := by
  intro pins s σ H Q I hq
  refine wpAny_List_spliced (thn (h pos pins s σ H _ I hq) fun us s1 ⟨xs, H1, I1, r, z, q⟩ => ⟨by rw [← r.length]; exact z, ?_⟩)
  have hf : H1 s1.heap.objs.size = none := I1.hok.fresh (Nat.le_refl _)
  refine ⟨.ref s1.heap.objs.size, upd H1 s1.heap.objs.size (.lst xs), I1.laid (t' := s1.toks) (fun b u e => Heap.get?_push_of_some _ e) (Nat.le_refl _) ?_, rfl, q _ hf⟩
  exact ⟨z, us, 0, r, Heap.get?_push_size _ rfl⟩
end

/-! ### what a def promises -/
/-- a def's promise: the bound arguments in the parameters' order, the heap, the wanted end, the wanted exception -/
abbrev Sp := List V → Hp → VK → XK → Prop
/-- how an exception lies behind a call (file 08 gives it): the callers' frames, abstract heap and state ahead of the call, the wish, the exception, the state -/
abbrev CXT := List Env → Hp → Shared → XK → Value → Shared → Prop

/-- the state at a call -/
structure Env0 (P : Program) (w : World) (K : PySem.W.Frag) (mg : Str → Option Value) (base : Heap) (A : Around) (outer : List Env) (s : Shared) (H : Hp) : Prop where
  frames : A.frames = some outer
  mod : Mod K mg base
  bs : ∀ b o, base.get? b = some o → s.heap.get? b = some o ∧ H b = none
  bsz : base.objs.size ≤ s.heap.objs.size
  funs : s.heap.FunFrames base outer
  frf : ∀ b ∈ frs outer, H b = none
  hok : HOk P w H s.heap
  bare : AllBare s.gens
/-- a call's end -/
def CE (outer : List Env) (P : Program) (w : World) (H : Hp) (s : Shared) (Q : VK) (u : Value) (s' : Shared) : Prop :=
  ∃ v H', s'.os = s.os ∧ AllBare s'.gens ∧ Un (frs outer) [] H H' s.heap s'.heap ∧ HOk P w H' s'.heap ∧ RelV v u ∧ Q v H'
def CR (CX : CXT) (outer : List Env) (P : Program) (w : World) (H : Hp) (s : Shared) (Q : VK) (E : XK) (r : Result) (s' : Shared) : Prop :=
  match r with
  | .ok (.ret u) => CE outer P w H s Q u s'
  | .ok _ => False
  | .error e => CX outer H s E e s'
structure FnOk (P : Program) (w : World) (K : PySem.W.Frag) (mg : Str → Option Value) (base : Heap) (CX : CXT) (k : Nat) (f : Addr) (fd : FuncData) (ps : List Str) (sp : Sp) : Prop where
  len : ∀ vs H Q E, sp vs H Q E → vs.length = ps.length
  run : ∀ (A : Around) (outer : List Env) (s : Shared) (H : Hp) (args : Args) (us : List Value) (vs : List V) (Q : VK) (E : XK), Room k A → Env0 P w K mg base A outer s H → BindsTo s fd args (ps.zip us) → Vals vs us → sp vs H Q E →
    codeAny (model P w) A (.call (.ref f) args) (CR CX outer P w H s Q E) s
theorem Env0.make {P : Program} {w : World} {K : PySem.W.Frag} {mg : Str → Option Value} {base : Heap} {A : Around} {outer : List Env} {s : Shared} {H : Hp} (e : Env0 P w K mg base A outer s H) (C : Addr) (us : List Value) (kw : List (Str × Value)) :
    Env0 P w K mg base (A.under (.builtin "type.__call__" ⟨.ref C :: us, kw⟩)) outer s H := ⟨by first | exact e.frames | (simpa [Around.under, Code.envs, Code.isFrame, pushEnvs] using e.frames), e.mod, e.bs, e.bsz, e.funs, e.frf, e.hok, e.bare⟩
section
variable {X : Cx} {pins : List (Addr × Obj)} {σ : St} {H : Hp} {s s' : Shared}
/-- from a body: what a callee wants -/
theorem Inv.env0 (I : Inv X pins σ H s) : Env0 X.prog X.w X.K X.mg X.base X.A X.stack s H :=
  ⟨I.ok.frames, I.ok.mod, I.bs, Nat.le_trans I.ok.bsz I.sz, I.stack, I.stkFree, I.hok, I.bare⟩
/-- behind a call -/
theorem Inv.after {Q : VK} {u : Value} (I : Inv X pins σ H s) (h : CE X.stack X.prog X.w H s Q u s') : EP X pins σ Q u s' := by
  obtain ⟨v, H', os, bare, un, hok, r, q⟩ := h
  obtain ⟨hh, g, d, t, os'⟩ := s'
  obtain rfl : os' = s.os := os
  exact ⟨v, H', I.call (h' := hh) (g' := g) (d' := d) (t' := t) (ch := []) un hok bare (fun b z => absurd z (by simp)), r, q⟩
end

/-! ### calls -/
/-- f(..): the written arguments, then the defaults dvs; E: what is wanted of an exception -/
def tCall (sp : Sp) (dvs : List V) (E : XK) (t : TA) : TE := fun σ H Q => t σ H fun vs H1 => sp (vs ++ dvs) H1 Q E
/-- o.m(..) of an instance of the class at C -/
def tMeth (C : Addr) (m : Str) (sp : Sp) (dvs : List V) (E : XK) (ta : TE) (t : TA) : TE := fun σ H Q => ta σ H fun x H1 => ∃ a dx fs, x = .ref a ∧ H1 a = some (.ins C dx fs) ∧ fs.lookup m = none ∧
  t σ H1 fun vs H2 => sp (x :: (vs ++ dvs)) H2 Q E
/-- C(..): a new instance and its dict, then __init__ -/
def tMake (C : Addr) (sp : Sp) (dvs : List V) (E : XK) (t : TA) : TE := fun σ H Q => t σ H fun vs H1 => ∀ x dx, H1 x = none → H1 dx = none → dx ≠ x →
  sp (.ref x :: (vs ++ dvs)) (upd (upd H1 dx (.own x)) x (.ins C dx [])) (fun v H2 => v = .non ∧ Q (.ref x) H2) E

/-- how the parameters are bound: us the positional arguments, kw the keywords' values by name, ds the defaults that fill up -/
def Binds (K : PySem.W.Frag) (fd : FuncData) (ps : List Str) (ds : List Value) : Prop :=
  ∀ (s : Shared) (us : List Value), K.In s.heap → (us ++ ds).length = ps.length → BindsTo s fd ⟨us, []⟩ (ps.zip (us ++ ds))
/-- every parameter is given -/
theorem Binds.all {K : PySem.W.Frag} {fd : FuncData} {ps : List Str} (h : ∀ us : List Value, us.length = ps.length → bindArgs fd ⟨us, []⟩ = pure (ps.zip us)) : Binds K fd ps [] := fun s us _ hl => by
  rw [List.append_nil] at hl ⊢
  exact .of_eq (h us hl)

/-- an exception of a callee reaches what this body wants of exceptions -/
def Passes (CX : CXT) (X : Cx) (E : XK) : Prop := ∀ (pins : List (Addr × Obj)) (σ : St) (H : Hp) (s : Shared) (e : Value) (s' : Shared), Inv X pins σ H s → CX X.stack H s E e s' → X.xe e s'

section
variable {X : Cx} {CX : CXT} {k : Nat} {f C : Addr} {fd : FuncData} {ps : List Str} {sp : Sp} {dvs : List V} {ds : List Value} {E : XK} {x m : Str} {p pos apos : Pos} {e o : Expr} {es : List Expr} {ta : TE} {t : TA}

/-- the callee runs -/
theorem run_fn {pins : List (Addr × Obj)} {σ : St} {H : Hp} {s : Shared} {Q : VK} {us : List Value} {vs : List V} (F : FnOk X.prog X.w X.K X.mg X.base CX k f fd ps sp) (hr : Room k X.A) (hb : Binds X.K fd ps ds) (hd : Vals dvs ds) (hx : Passes CX X E)
    (I : Inv X pins σ H s) (r : Vals vs us) (h : sp (vs ++ dvs) H Q E) : wpAny (model X.prog X.w) X.A (call (.ref f) us) (EP X pins σ Q) X.xe s := by
  have r2 : Vals (vs ++ dvs) (us ++ ds) := r.append hd
  have hl : (us ++ ds).length = ps.length := by rw [← r2.length]; exact F.len _ _ _ _ h
  refine wpAny_call (codeAny_mono (F.run X.A X.stack s H ⟨us, []⟩ (us ++ ds) (vs ++ dvs) Q E hr I.env0 (hb s us I.kIn hl) r2 h) fun r s' hq => ?_)
  cases r with
  | error e => exact hx pins σ H s e s' I hq
  | ok fl =>
    cases fl with
    | ret u => exact I.after hq
    | next => exact False.elim hq
    | brk => exact False.elim hq
    | cont => exact False.elim hq

theorem pe_call (F : FnOk X.prog X.w X.K X.mg X.base CX k f fd ps sp) (hr : Room k X.A) (hg : Gl X x) (hm : X.mg x = some (.ref f)) (hk : PySem.W.keepIn X.K (.ref f) = true) (hb : Binds X.K fd ps ds) (hd : Vals dvs ds) (hx : Passes CX X E)
    (ha : PA X (e :: es) t) (hdb : (x == ("__debug__" : Str)) = false := by decide) (he : starEach (e :: es) X.env = (false, eval e X.env) :: starEach es X.env := by rfl) (hpl : (backTo pos (starEach es X.env)).any (·.1) = false := by rfl) :
    PE X (.Call (.Name x p) (e :: es) [] pos) (tCall sp dvs E t) := by
  intro pins s σ H Q I h
  refine wpAny_Call_Name_kw (ld_glob I hg hm ?_ hdb)
  refine PySem.W.callWith_K (h₀ := X.base) I.ok.mod.kin hk (thn (ha pos pins s σ H _ I h) fun us s1 ⟨vs, H1, I1, r, q⟩ => ⟨I1.kIn, ?_⟩) he hpl
  exact run_fn F hr hb hd hx I1 r q
/-- o.m(e, ..) -/
theorem pe_meth {pl : Sem Bool} (he : PE X o ta) (c : Cls X.K C) (hm : Meth X.K C m f) (F : FnOk X.prog X.w X.K X.mg X.base CX k f fd ps sp) (hr : Room k X.A) (hb : Binds X.K fd ps ds) (hd : Vals dvs ds) (hx : Passes CX X E) (ha : PA X (e :: es) t)
    (hst : starEach (e :: es) X.env = (false, eval e X.env) :: starEach es X.env := by rfl) (hpl : (backTo pos (starEach es X.env)).any (·.1) = false := by rfl)
    (ht : eval (.Call (.Attribute o m apos) (e :: es) [] pos) X.env = (do
      let ov ← eval o X.env
      standAt apos.atName
      let (f, first) ← holding [ov] (getMethod ov m pl)
      callWith pos f first (backTo pos (starEach (e :: es) X.env)) (backToKw pos (keywordEach [] X.env))) := by rfl) :
    PE X (.Call (.Attribute o m apos) (e :: es) [] pos) (tMeth C m sp dvs E ta t) := by
  intro pins s σ H Q I h
  refine PySem.W.methodCall_KW (pl := pl) (thn (he pins s σ H _ I h) fun u s1 ⟨x, H1, I1, rx, a, dx, fs, ex, ea, l, q⟩ => ?_) ht
  subst ex
  obtain rfl : u = Value.ref a := rx
  refine getmeth_ok I1 ea c hm l ?_
  refine PySem.W.callWith_K (first := [.ref a]) (h₀ := X.base) I.ok.mod.kin hm.kp (thn (ha pos pins s1 σ H1 _ I1 q) fun us s2 ⟨vs, H2, I2, r, q2⟩ => ⟨I2.kIn, ?_⟩) hst hpl
  exact run_fn (us := .ref a :: us) (vs := .ref a :: vs) F hr hb hd hx I2 (.cons rfl r) q2
/-- o.m() -/
theorem pe_meth0 {pl : Sem Bool} (he : PE X o ta) (c : Cls X.K C) (hm : Meth X.K C m f) (F : FnOk X.prog X.w X.K X.mg X.base CX k f fd ps sp) (hr : Room k X.A) (hb : Binds X.K fd ps ds) (hd : Vals dvs ds) (hx : Passes CX X E)
    (ht : eval (.Call (.Attribute o m apos) [] [] pos) X.env = (do
      let ov ← eval o X.env
      standAt apos.atName
      let (f, first) ← holding [ov] (getMethod ov m pl)
      callWith pos f first (backTo pos (starEach [] X.env)) (backToKw pos (keywordEach [] X.env))) := by rfl) :
    PE X (.Call (.Attribute o m apos) [] [] pos) (tMeth C m sp dvs E ta tNil) := by
  intro pins s σ H Q I h
  refine PySem.W.methodCall_KW (pl := pl) (thn (he pins s σ H _ I h) fun u s1 ⟨x, H1, I1, rx, a, dx, fs, ex, ea, l, q⟩ => ?_) ht
  subst ex
  obtain rfl : u = Value.ref a := rx
  refine getmeth_ok I1 ea c hm l ?_
  exact PySem.W.callWith_K0 (first := [.ref a]) I1.kIn hm.kp (run_fn (us := [.ref a]) (vs := [.ref a]) F hr hb hd hx I1 (.cons rfl .nil) q)

/-- what a class must have to be made -/
structure Mk (K : PySem.W.Frag) (C f : Addr) : Prop where
  makes : PySem.W.makesIn K C = true
  init : PySem.W.findIn K (.ref C) "__init__" = some (some (.ref f))
  fn : PySem.W.isFn K (.ref f) = true
  kp : PySem.W.keepIn K (.ref C) = true

theorem run_make {pins : List (Addr × Obj)} {σ : St} {H : Hp} {s : Shared} {Q : VK} {us : List Value} {vs : List V} (M : Mk X.K C f) (F : FnOk X.prog X.w X.K X.mg X.base CX k f fd ps sp) (hr : Room (k + 1) X.A) (hb : Binds X.K fd ps ds) (hd : Vals dvs ds)
    (hx : Passes CX X E) (I : Inv X pins σ H s) (r : Vals vs us)
    (h : ∀ x dx, H x = none → H dx = none → dx ≠ x → sp (.ref x :: (vs ++ dvs)) (upd (upd H dx (.own x)) x (.ins C dx [])) (fun v H2 => v = .non ∧ Q (.ref x) H2) E) :
    wpAny (model X.prog X.w) X.A (call (.ref C) us) (EP X pins σ Q) X.xe s := by
  have hq := h (s.heap.objs.size + 1) s.heap.objs.size (I.hok.fresh (Nat.le_succ _)) (I.hok.fresh (Nat.le_refl _)) (Nat.ne_of_lt (Nat.lt_succ_self _))
  have I2 := Inv.made (C := C) I
  have r2 : Vals (V.ref (s.heap.objs.size + 1) :: (vs ++ dvs)) (Value.ref (s.heap.objs.size + 1) :: (us ++ ds)) := .cons rfl (r.append hd)
  have hl : (Value.ref (s.heap.objs.size + 1) :: us ++ ds).length = ps.length := by
    have e := r2.length
    rw [F.len _ _ _ _ hq] at e
    exact e.symm
  refine wpAny_call (make_map (f := f) I.kIn M.makes M.init (beq_iff_eq.mp M.fn) (codeAny_mono (F.run _ X.stack _ _ ⟨Value.ref (s.heap.objs.size + 1) :: us, []⟩ (Value.ref (s.heap.objs.size + 1) :: (us ++ ds)) _ _ E (hr.make C us [])
    (I2.env0.make C us []) (hb _ (Value.ref (s.heap.objs.size + 1) :: us) I2.kIn hl) r2 hq) fun r s' hq' => ?_))
  cases r with
  | error e => exact hx pins σ _ _ e s' I2 hq'
  | ok fl =>
    cases fl with
    | ret u =>
      obtain ⟨v, H', I3, rv, ev, q3⟩ := I2.after hq'
      subst ev
      exact ⟨rv, ⟨V.ref (s.heap.objs.size + 1), H', I3, rfl, q3⟩⟩
    | next => exact False.elim hq'
    | brk => exact False.elim hq'
    | cont => exact False.elim hq'
theorem pe_make (M : Mk X.K C f) (F : FnOk X.prog X.w X.K X.mg X.base CX k f fd ps sp) (hr : Room (k + 1) X.A) (hg : Gl X x) (hm : X.mg x = some (.ref C)) (hb : Binds X.K fd ps ds) (hd : Vals dvs ds) (hx : Passes CX X E)
    (ha : PA X (e :: es) t) (hdb : (x == ("__debug__" : Str)) = false := by decide) (he : starEach (e :: es) X.env = (false, eval e X.env) :: starEach es X.env := by rfl) (hpl : (backTo pos (starEach es X.env)).any (·.1) = false := by rfl) :
    PE X (.Call (.Name x p) (e :: es) [] pos) (tMake C sp dvs E t) := by
  intro pins s σ H Q I h
  refine wpAny_Call_Name_kw (ld_glob I hg hm ?_ hdb)
  refine PySem.W.callWith_K (h₀ := X.base) I.ok.mod.kin M.kp (thn (ha pos pins s σ H _ I h) fun us s1 ⟨vs, H1, I1, r, q⟩ => ⟨I1.kIn, ?_⟩) he hpl
  exact run_make M F hr hb hd hx I1 r q
end

/-! ### keywords -/
section
variable {X : Cx} {CX : CXT} {k : Nat} {f C : Addr} {fd : FuncData} {ps ks : List Str} {sp : Sp} {E : XK} {x m : Str} {p pos apos kpos : Pos} {e o : Expr} {es : List Expr} {kws : List Keyword} {te ta : TE} {t tk : TA} {nm : Option Str}
variable {g : List Value → List Value → List Value} {gV : List V → List V → List V}
end

/-! ### a def's body keeps its promise -/
/-- names: the parameters first -/
structure FnScope (N P : List Str) (sc : Scope) : Prop where
  kind : sc.kind = .function
  co : sc.isCoroutine = false
  gen : sc.isGenerator = false
  nd : N.Nodup
  pre : N.take P.length = P
  par : ∀ x ∈ P, sc.names.lookup x = some .local ∨ sc.names.lookup x = some .cell
  nofree : ∀ y ∈ sc.names, y.2 ≠ .free

theorem bindL_out {kindOf : Str → Option NameKind} {x : Str} : ∀ {binds : List (Str × Value)} {m : Str → Option Value}, (∀ v, (x, v) ∉ binds) → bindL kindOf binds m x = m x
  | [], _, _ => rfl
  | (n, v) :: r, m, h => by
    unfold bindL
    rw [bindL_out fun w hw => h w (List.mem_cons_of_mem _ hw)]
    split
    · have : x ≠ n := by rintro rfl; exact h v List.mem_cons_self
      simp [this]
    · rfl
theorem bindC_out {kindOf : Str → Option NameKind} {x : Str} : ∀ {binds : List (Str × Value)} {m : Str → Option Value}, (∀ v, (x, v) ∉ binds) → bindC kindOf binds m x = m x
  | [], _, _ => rfl
  | (n, v) :: r, m, h => by
    unfold bindC
    rw [bindC_out fun w hw => h w (List.mem_cons_of_mem _ hw)]
    split
    · rfl
    · have : x ≠ n := by rintro rfl; exact h v List.mem_cons_self
      simp [this]
theorem bindL_get {kindOf : Str → Option NameKind} {x : Str} {v : Value} : ∀ {P : List Str} {vs : List Value} {i : Nat} {m : Str → Option Value}, P.Nodup → P[i]? = some x → vs[i]? = some v → kindOf x = some .local →
    bindL kindOf (P.zip vs) m x = some v
  | [], _, _, _, _, h, _, _ => by simp at h
  | _ :: _, [], _, _, _, _, h, _ => by simp at h
  | p :: P, w :: vs, 0, m, nd, h1, h2, hk => by
    simp at h1 h2; subst h1; subst h2
    show bindL kindOf ((p, w) :: P.zip vs) m p = _
    unfold bindL
    rw [bindL_out fun v hv => (List.nodup_cons.mp nd).1 (List.of_mem_zip hv).1, if_pos hk]
    simp
  | p :: P, w :: vs, i + 1, m, nd, h1, h2, hk => by
    show bindL kindOf ((p, w) :: P.zip vs) m x = _
    unfold bindL
    exact bindL_get (i := i) (List.nodup_cons.mp nd).2 (by simpa using h1) (by simpa using h2) hk
theorem bindC_get {kindOf : Str → Option NameKind} {x : Str} {v : Value} : ∀ {P : List Str} {vs : List Value} {i : Nat} {m : Str → Option Value}, P.Nodup → P[i]? = some x → vs[i]? = some v → kindOf x ≠ some .local →
    bindC kindOf (P.zip vs) m x = some v
  | [], _, _, _, _, h, _, _ => by simp at h
  | _ :: _, [], _, _, _, _, h, _ => by simp at h
  | p :: P, w :: vs, 0, m, nd, h1, h2, hk => by
    simp at h1 h2; subst h1; subst h2
    show bindC kindOf ((p, w) :: P.zip vs) m p = _
    unfold bindC
    rw [bindC_out fun v hv => (List.nodup_cons.mp nd).1 (List.of_mem_zip hv).1, if_neg hk]
    simp
  | p :: P, w :: vs, i + 1, m, nd, h1, h2, hk => by
    show bindC kindOf ((p, w) :: P.zip vs) m x = _
    unfold bindC
    exact bindC_get (i := i) (List.nodup_cons.mp nd).2 (by simpa using h1) (by simpa using h2) hk

/-- the names' values at the entry -/
def start (N : List Str) (vs : List V) : St := vs.map some ++ List.replicate (N.length - vs.length) none

/-- the context of a def's body, at its entry; an exception leaves the frame, then lies as CX says -/
def cxOf (CX : CXT) (P : Program) (w : World) (K : PySem.W.Frag) (mg : Str → Option Value) (base : Heap) (N : List Str) (qual : Str) (scope : Scope) (f : Addr) (cd : Value) (A : Around) (outer : List Env) (s : Shared) (H : Hp) (E : XK) : Cx where
  prog := P
  w := w
  K := K
  mg := mg
  base := base
  A := A.deeper (envOfC qual scope s.heap.objs.size f cd)
  N := N
  s₀ := s
  H₀ := H
  env := envOfC qual scope s.heap.objs.size f cd
  outer := outer
  stack := envOfC qual scope s.heap.objs.size f cd :: outer
  ex := []
  calm := true
  fn := fun _ => true
  pn := []
  xe := fun e s' => wpAny (model P w) (A.deeper (envOfC qual scope s.heap.objs.size f cd)) (leaving (envOfC qual scope s.heap.objs.size f cd) e) (fun _ s'' => CX outer H s E e s'') (fun e' s'' => CX outer H s E e' s'') s'

theorem cell_has {sc : Scope} {n : Nat} {x : Str} (h : sc.names.lookup x = some .cell) : ∃ c, (cellsFrom n sc.names []).lookup x = some c := by
  have q := PySem.W.cellsFrom_some sc.names n [] (.inl h)
  exact Option.isSome_iff_exists.mp q

theorem inv_start {CX : CXT} {P : Program} {w : World} {K : PySem.W.Frag} {mg : Str → Option Value} {base : Heap} {N ps : List Str} {qual : Str} {scope : Scope} {f : Addr} {cd : Value} {A : Around} {outer : List Env} {s s1 : Shared} {H : Hp} {E : XK} {us : List Value} {vs : List V}
    (S : FnScope N ps scope) (hd : A.handled = none) (e0 : Env0 P w K mg base A outer s H) (hl : vs.length = ps.length) (r : Vals vs us)
    (x : InCallC s s.heap.objs.size (bindL (envOfC qual scope s.heap.objs.size f cd).kindOf (ps.zip us) fun _ => none) (cellsFrom (s.heap.objs.size + 1) scope.names []) (bindC (envOfC qual scope s.heap.objs.size f cd).kindOf (ps.zip us) fun _ => none) s1) :
    Inv (cxOf CX P w K mg base N qual scope f cd A outer s H E) [] (start N vs) H s1 := by
  have hpl : ps.length ≤ N.length := by have := congrArg List.length S.pre; rw [List.length_take] at this; omega
  obtain ⟨h1, tk, rfl, hk⟩ := x.done
  have noA : ∀ b : Addr, b ∉ (cxOf CX P w K mg base N qual scope f cd A outer s H E).ex := fun b z => absurd (show b ∈ ([] : List Addr) from z) (by simp)
  refine ⟨⟨e0.mod, S.kind, rfl, rfl, Nat.le_refl _, fun y z c h1 h2 => ?_, fun y hy => ?_, fun y c _ h => ?_, fun _ => hd, Around.frames_deeper e0.frames, .inr ⟨rfl, rfl⟩, fun b z => absurd z (noA b), e0.bs, e0.bsz, fun b _ _ => noA b, fun b z => absurd z (noA b), e0.funs, e0.frf⟩,
    rfl, e0.bare, Un.kept hk, ⟨_, x.toInCall.ns, fun i y v h1 h2 h3 => ?_⟩, fun y c h => ⟨_, x.cell y c h⟩, e0.hok.fresh (Nat.le_refl _), fun y c h => ?_, fun p hp => absurd (show p ∈ ([] : List (Addr × Obj)) from hp) (by simp), e0.hok.kept hk, ?_⟩
  · exact name_of_addr x.apart (PySem.mem_of_lookup h1) (PySem.mem_of_lookup h2)
  · have hy : scope.names.lookup y = some .cell ∨ scope.names.lookup y = some .free := hy
    rcases hy with hy | hy
    · exact cell_has hy
    · exact absurd rfl (S.nofree _ (PySem.mem_of_lookup hy))
  · exact Nat.le_of_lt (x.above y c (PySem.mem_of_lookup h))
  · have hi : i < vs.length := by
      unfold start at h2
      by_cases hi : i < vs.length
      · exact hi
      · rw [List.getElem?_append_right (by simpa using hi)] at h2
        rw [List.getElem?_replicate] at h2
        split at h2 <;> cases h2
    have ha : vs[i]? = some v := by
      unfold start at h2
      rw [List.getElem?_append_left (by simpa using hi), List.getElem?_map] at h2
      cases e : vs[i]? with
      | none => rw [e] at h2; cases h2
      | some a => rw [e] at h2; cases h2; rfl
    obtain ⟨u, hu, rv⟩ := r.get ha
    have hp : ps[i]? = some y := by
      rw [← S.pre, List.getElem?_take_of_lt (by omega)]; exact h1
    have ndP : ps.Nodup := by rw [← S.pre]; exact S.nd.sublist (List.take_sublist _ _)
    refine ⟨u, rv, ?_⟩
    rcases S.par y (List.mem_of_getElem? hp) with k | k
    · exact .inl ⟨k, bindL_get ndP hp hu k⟩
    · obtain ⟨c, e⟩ := cell_has (n := s.heap.objs.size + 1) k
      refine .inr ⟨.inl k, c, e, ?_⟩
      have q := x.cell y c e
      rw [bindC_get ndP hp hu (by show scope.names.lookup y ≠ _; rw [k]; decide)] at q
      exact q
  · exact e0.hok.fresh (Nat.le_of_lt (x.above y c (PySem.mem_of_lookup h)))
  · unfold start
    show _ = N.length
    rw [List.length_append, List.length_map, List.length_replicate]
    omega

/-- THE RULE: a def (or a method) of the text, by its body. The body's reading t is chosen for each entry; it is run at the parameters' values -/
theorem fn_of {CX : CXT} {P : Program} {w : World} {K : PySem.W.Frag} {mg : Str → Option Value} {base : Heap} {k : Nat} {f : Addr} {name qual : Str} {params : Arguments} {body : List Stmt} {scope : Scope} {dV kV doc pm cdv ct oc : Value} {an od : Option Addr}
    {osl : Array (Option Value)} {N ps : List Str} {sp : Sp} (lk : K.lookup f = some ⟨oc, od, .func (PySem.W.fnOf name qual params body scope dV kV doc pm an cdv ct), osl⟩) (hcd : PySem.W.codeIn K cdv qual = true) (S : FnScope N ps scope)
    (len : ∀ vs H Q E, sp vs H Q E → vs.length = ps.length)
    (hbody : ∀ (A : Around) (outer : List Env) (s : Shared) (H : Hp) (vs : List V) (Q : VK) (E : XK), Room k (A.deeper (envOfC qual scope s.heap.objs.size f cdv)) → sp vs H Q E →
      ∃ t, PSs (cxOf CX P w K mg base N qual scope f cdv A outer s H E) body t ∧ t { nx := fun _ H' => Q .non H', rt := Q } (start N vs) H) :
    FnOk P w K mg base CX (k + 1) f (PySem.W.fnOf name qual params body scope dV kV doc pm an cdv ct) ps sp := by
  refine ⟨len, fun A outer s H args us vs Q E hr e0 hb r hsp => ?_⟩
  have hl := len _ _ _ _ hsp
  have KX : K.In s.heap := e0.mod.kin.keeps fun b o e => (e0.bs b o e).1
  have lim : s.heap.NoLimit := e0.mod.nolimit.keeps fun b o e => (e0.bs b o e).1
  have hkind : ∀ y ∈ ps.zip us, scope.names.lookup y.1 = some .local ∨ (scope.names.lookup y.1 = some .cell ∧ ((cellsFrom (s.heap.objs.size + 1) scope.names []).lookup y.1).isSome = true) := fun ⟨n, v⟩ hy => by
    rcases S.par n (List.of_mem_zip hy).1 with q | q
    · exact .inl q
    · exact .inr ⟨q, PySem.W.cellsFrom_some _ _ _ (.inl q)⟩
  refine codeAny_call_function hr.depth (KX _ _ lk) rfl S.co S.gen rfl (PySem.W.codeRec_of KX hcd) (hb _ _ _ _ ?_)
  refine wpAny_newFunctionEnv_cells S.kind hkind fun env he s1 x => ?_
  subst he
  refine ⟨lim.keeps x.toInCall.keep, codeAny_func ?_⟩
  obtain ⟨t, ht, hq⟩ := hbody A outer s H vs Q E (hr.deeper _) hsp
  have I : Inv (cxOf CX P w K mg base N qual scope f cdv A outer s H E) [] (start N vs) H s1 := inv_start S hr.hd e0 hl r x
  refine wpAny_mono (ht [] s1 (start N vs) H _ I hq) (fun fl s' hs => ?_) fun e s' hs => hs
  have fin : ∀ {σ' : St} {H' : Hp} {v : V} {u : Value}, Inv (cxOf CX P w K mg base N qual scope f cdv A outer s H E) [] σ' H' s' → RelV v u → Q v H' → CE outer P w H s Q u s' :=
    fun {σ' H' v u} J rv q => ⟨v, H', J.os, J.bare, J.base, J.hok, rv, q⟩
  cases fl with
  | ret u =>
    obtain ⟨v, σ', H', J, rv, q⟩ := hs
    exact fin J rv q
  | next =>
    obtain ⟨σ', H', J, q⟩ := hs
    exact fin (v := V.non) (u := Value.none) J rfl q
  | brk =>
    obtain ⟨_, _, _, q⟩ := hs
    exact False.elim q
  | cont =>
    obtain ⟨_, _, _, q⟩ := hs
    exact False.elim q
end L2

namespace L2
open PySem PySem.Spec PyProof.Rows
section
variable {X : Cx} {x : Str} {p pos : Pos} {e : Expr} {es : List Expr} {t : TA} {id T : String} {r : List V → Hp → VK → Prop}

def tCB (r : List V → Hp → VK → Prop) (t : TA) : TE := fun σ H Q => t σ H fun vs H1 => r vs H1 Q
/-- f(e, ..), f a built-in function -/
theorem pe_callB (hc : CallR X (.builtin id) r) (hg : Gl X x) (hm : X.mg x = none) (hv : bootBuiltins x = some (.builtin id)) (ha : PA X (e :: es) t) (hn : x ≠ "__name__" := by decide) (hdb : (x == ("__debug__" : Str)) = false := by decide)
    (he : starEach (e :: es) X.env = (false, eval e X.env) :: starEach es X.env := by rfl) (hpl : (backTo pos (starEach es X.env)).any (·.1) = false := by rfl) : PE X (.Call (.Name x p) (e :: es) [] pos) (tCB r t) := by
  intro pins s σ H Q I h
  refine wpAny_Call_Name_kw (ld_blt I hg hm hv ?_ hn hdb)
  exact PyProof.Rows.callWith_builtin1 (thn (ha pos pins s σ H _ I h) fun us s1 ⟨vs, H1, I1, r1, q1⟩ => hc pins s1 σ H1 vs us Q I1 r1 q1) he hpl
/-- T(e, ..), T a built-in type -/
theorem pe_callTy (hc : CallR X (.type T) r) (hg : Gl X x) (hm : X.mg x = none) (hv : bootBuiltins x = some (.type T)) (ha : PA X (e :: es) t) (hn : x ≠ "__name__" := by decide) (hdb : (x == ("__debug__" : Str)) = false := by decide)
    (he : starEach (e :: es) X.env = (false, eval e X.env) :: starEach es X.env := by rfl) (hpl : (backTo pos (starEach es X.env)).any (·.1) = false := by rfl) : PE X (.Call (.Name x p) (e :: es) [] pos) (tCB r t) := by
  intro pins s σ H Q I h
  refine wpAny_Call_Name_kw (ld_blt I hg hm hv ?_ hn hdb)
  exact PyProof.Rows.callWith_type1 (thn (ha pos pins s σ H _ I h) fun us s1 ⟨vs, H1, I1, r1, q1⟩ => hc pins s1 σ H1 vs us Q I1 r1 q1) he hpl
end
end L2

namespace HT
open PySem PyProof.Rows

section
open PySem.SeqAt
open PySem.AutoSeq1 (wpAny_loadPart')
open PySem.MeetsSeq PySem.MeetsSeq2 PySem.MeetsSeq3

end

section
variable {prog : Program} {w : World} {A : Around} {E : Value → Shared → Prop} {s : Shared}

/-! ### t[a:b], not the whole -/
/-- a slice's bound as a place among n (d where it is left out) -/
def sIx (n d : Nat) : Option Int → Nat
  | none => d
  | some v => if v < 0 then (v + (n : Int)).toNat else min v.toNat n
theorem sIx_none (n d : Nat) : sIx n d none = d := rfl
theorem sIx_nat (n d k : Nat) : sIx n d (some (k : Int)) = min k n := by
  show (if (k : Int) < 0 then ((k : Int) + (n : Int)).toNat else min (k : Int).toNat n) = min k n
  rw [if_neg (by omega), Int.toNat_natCast]
end
end HT

namespace L2
open PySem PySem.Spec PyProof.Rows

/-! ### the parts of a slice -/
abbrev TO := St → Hp → (Option Int → Hp → Prop) → Prop
/-- a slice's part (left out, or an int) -/
def PO (X : Cx) (e : Option Expr) (t : TO) : Prop :=
  ∀ (pins : List (Addr × Obj)) (s : Shared) (σ : St) (H : Hp) (Q : Option Int → Hp → Prop), Inv X pins σ H s → t σ H Q →
    wpAny (model X.prog X.w) X.A (evalPart e X.env) (fun u s' => ∃ o H', Inv X pins σ H' s' ∧ IsPart u o ∧ Q o H') X.xe s
def tNoPart : TO := fun _ H Q => Q none H
def tPart (t : TE) : TO := fun σ H Q => t σ H fun x H1 => ∃ i, x = .int i ∧ Q (some i) H1

section
variable {X : Cx} {e : Expr} {te : TE} {lo hi : Option Expr} {tl th : TO} {pos p2 : Pos}

theorem po_none : PO X none tNoPart := by
  intro pins s σ H Q I h
  rw [evalPart_none]
  exact wpAny_pure ⟨none, H, I, .none, h⟩
theorem po_some (h : PE X e te) : PO X (some e) (tPart te) := by
  intro pins s σ H Q I hw
  rw [evalPart_some]
  refine thn (h pins s σ H _ I hw) fun u s1 ⟨x, H1, I1, r1, q1⟩ => ?_
  obtain ⟨i, rfl, q⟩ := q1
  obtain ⟨t, rfl⟩ := r1
  exact ⟨some i, H1, I1, .int i t, q⟩

/-- what a slice of a value is, by values: the slice object stands at sl -/
def SlR (X : Cx) (r : V → Option Int → Option Int → Hp → VK → Prop) : Prop :=
  ∀ (pins : List (Addr × Obj)) (s : Shared) (σ : St) (H : Hp) (x : V) (v vl vu : Value) (lo hi : Option Int) (sl : Addr) (Q : VK), Inv X pins σ H s → RelV x v → s.heap.IsSliceOf sl vl vu .none → IsPart vl lo → IsPart vu hi → r x lo hi H Q →
    ∃ T id, typeLookup (.type T) "__getitem__" = pure (some (.builtin id)) ∧ s.TypeIs v T ∧ wpAny (model X.prog X.w) X.A (getItem v (.ref sl)) (EP X pins σ Q) X.xe s
def tSl (r : V → Option Int → Option Int → Hp → VK → Prop) (te : TE) (tl th : TO) : TE := fun σ H Q => te σ H fun x H1 => tl σ H1 fun l H2 => th σ H2 fun u H3 => r x l u H3 Q
/-- a[lo:hi], any a -/
theorem pe_slice {r : V → Option Int → Option Int → Hp → VK → Prop} (hr : SlR X r) (he : PE X e te) (hl : PO X lo tl) (hu : PO X hi th) : PE X (.Subscript e (.Slice lo hi none p2) pos) (tSl r te tl th) := by
  intro pins s σ H Q I h
  refine Subscript_ (thn (he pins s σ H _ I h) fun v s1 ⟨x, H1, I1, r1, q1⟩ => ?_)
  refine wpAny_Slice (thn (hl pins s1 σ H1 _ I1 q1) fun vl s2 ⟨l, H2, I2, pl, q2⟩ => thn (hu pins s2 σ H2 _ I2 q2) fun vu s3 ⟨u, H3, I3, pu, q3⟩ => ?_)
  rw [evalPart_none]
  refine wpAny_pure ?_
  have I4 : Inv X pins σ H3 { s3 with heap := s3.heap.push { cls := .type "slice", data := .fields #[vl, vu, .none] } } := I3.kept (t' := s3.toks) fun b ob q => Heap.get?_push_of_some _ q
  obtain ⟨T, id, hT, ht, hg⟩ := hr pins { s3 with heap := s3.heap.push { cls := .type "slice", data := .fields #[vl, vu, .none] } } σ H3 x v vl vu l u s3.heap.objs.size Q I4 r1 (Heap.IsSliceOf.new ..) pl pu q3
  show wpAny (model X.prog X.w) X.A (subscriptTail e (.Slice lo hi none p2) v (.ref s3.heap.objs.size)) (EP X pins σ Q) X.xe { s3 with heap := s3.heap.push { cls := .type "slice", data := .fields #[vl, vu, .none] } }
  exact tail_any (ops := [.ref s3.heap.objs.size, v]) ht hT hg (by with_unfolding_all rfl)

/-- the items of xs[lo:hi] -/
def cutV (xs : List V) (lo hi : Option Int) : List V := (xs.drop (HT.sIx xs.length 0 lo)).take (HT.sIx xs.length xs.length hi - HT.sIx xs.length 0 lo)
theorem cutV_length (xs : List V) (lo hi : Option Int) : (cutV xs lo hi).length ≤ xs.length := by
  unfold cutV
  rw [List.length_take, List.length_drop]
  omega
/-! ### t < u, t + u -/
end
end L2

namespace L2
open PySem PySem.Spec PyProof.Rows

/-! ### places -/
/-- the place that an index of any sign means -/
def ixN (n : Nat) (i : Int) : Option Nat := if 0 ≤ i then (if i < n then some i.toNat else none) else if -(n : Int) ≤ i then some (i + n).toNat else none
def atI {α : Type} (xs : List α) (i : Int) : Option α := (ixN xs.length i).bind fun j => xs[j]?
theorem ixN_seq {n : Nat} {i : Int} {j : Nat} (h : ixN n i = some j) : seqIndex? i n = some j ∧ j < n ∧ -(n : Int) ≤ i ∧ i < n := by
  unfold ixN at h
  by_cases h0 : 0 ≤ i
  · rw [if_pos h0] at h
    by_cases h1 : i < n
    · rw [if_pos h1] at h
      have e : i.toNat = j := Option.some.inj h
      exact ⟨by rw [seqIndex_of h0 h1, e], by omega, by omega, h1⟩
    · rw [if_neg h1] at h; cases h
  · rw [if_neg h0] at h
    by_cases h1 : -(n : Int) ≤ i
    · rw [if_pos h1] at h
      have e : (i + n).toNat = j := Option.some.inj h
      exact ⟨by rw [seqIndex_neg (by omega) h1, e], by omega, h1, by omega⟩
    · rw [if_neg h1] at h; cases h
theorem atI_get {α : Type} {xs : List α} {i : Int} {v : α} (h : atI xs i = some v) : ∃ j, seqIndex? i xs.length = some j ∧ xs[j]? = some v ∧ j < xs.length ∧ -(xs.length : Int) ≤ i ∧ i < xs.length := by
  unfold atI at h
  cases e : ixN xs.length i with
  | none => rw [e] at h; cases h
  | some j =>
    rw [e] at h
    obtain ⟨h1, h2, h3, h4⟩ := ixN_seq e
    exact ⟨j, h1, h, h2, h3, h4⟩
theorem atI_nat {α : Type} {xs : List α} {j : Nat} {v : α} (h : xs[j]? = some v) : atI xs (j : Int) = some v := by
  have hj : j < xs.length := (List.getElem?_eq_some_iff.mp h).1
  have e : ixN xs.length (j : Int) = some j := by
    unfold ixN
    rw [if_pos (by omega), if_pos (by omega)]; simp
  unfold atI; rw [e]; exact h
/-! ### what may be subscripted -/
/-- what stands as an index of a plain subscript -/
def PlainIx (b : Expr) : Prop := ∀ o i, subscripted b false o i = operate [o, i] (getItem o i)
/-- a subscript by values -/
def IxR (X : Cx) (r : R2) : Prop :=
  ∀ (value slice : Expr) (pins : List (Addr × Obj)) (s : Shared) (σ : St) (H : Hp) (x y : V) (v u : Value) (Q : VK), Inv X pins σ H s → RelV x v → RelV y u → r x y H Q →
    subscripted slice false v u = operate [v, u] (getItem v u) → wpAny (model X.prog X.w) X.A (subscriptTail value slice v u) (EP X pins σ Q) X.xe s
/-- a call of a builtin's method by values: the receiver, the arguments -/
def MtR (X : Cx) (id : String) (r : V → List V → Hp → VK → Prop) : Prop :=
  ∀ (pins : List (Addr × Obj)) (s : Shared) (σ : St) (H : Hp) (x : V) (xs : List V) (v : Value) (us : List Value) (Q : VK), Inv X pins σ H s → RelV x v → Vals xs us → r x xs H Q →
    wpAny (model X.prog X.w) X.A (call (.builtin id) (v :: us)) (EP X pins σ Q) X.xe s
section
variable {X : Cx} {a b : Expr} {ta tb : TE} {pos : Pos}
/-- a[b] -/
theorem pe_ix {r : R2} (hr : IxR X r) (ha : PE X a ta) (hb : PE X b tb) (hs : PlainIx b) : PE X (.Subscript a b pos) (tOp r ta tb) := by
  intro pins s σ H Q I h
  exact Subscript_ (binT ha hb I h fun v u s2 x y H2 I2 rx ry q => hr a b pins s2 σ H2 x y v u Q I2 rx ry q (hs _ _))

def rIxL (K : PySem.W.Frag) : R2 := fun x y H Q => ∃ p xs i v, x = .ref p ∧ y = .int i ∧ SqL K H p xs ∧ atI xs i = some v ∧ Q v H
def rIxT (K : PySem.W.Frag) : R2 := fun x y H Q => ∃ p xs i v, x = .ref p ∧ y = .int i ∧ SqT K H p xs ∧ atI xs i = some v ∧ Q v H
def rIxS : R2 := fun x y H Q => ∃ z i c, x = .str z ∧ y = .int i ∧ z.length ≤ sizeLine ∧ atI z.cps.toList i = some c ∧ Q (.str ⟨#[c]⟩) H
theorem ix_list : IxR X (rIxL X.K) := by
  intro value slice pins s σ H x y v u Q I rx ry h hs
  obtain ⟨p, xs, i, z, rfl, rfl, hq, he, q⟩ := h
  cases rx
  obtain ⟨t, rfl⟩ := ry
  obtain ⟨its, r, pl, hz⟩ := I.list hq
  obtain ⟨j, h1, h2, h3, h4, h5⟩ := atI_get he
  obtain ⟨w, ew, rw'⟩ := r.get h2
  have hl := r.length
  have hn := line63
  have fin : EP X pins σ Q w s := ⟨z, H, I, rw', q⟩
  by_cases h0 : 0 ≤ i
  · have hj : i.toNat = j := by
      rw [seqIndex_of h0 h5] at h1
      exact Option.some.inj h1
    exact item_listR pl.isList h0 (by omega) (by rw [hj]; simpa using ew) fin hs
  · have hj : (i + (its.toArray.size : Int)).toNat = j := by
      rw [seqIndex_neg (by omega) h4] at h1
      rw [List.size_toArray, ← hl]
      exact Option.some.inj h1
    exact subscriptTail_builtinR (x := w) pl.isList.typeIs slot_list_getitem.lookup
      (wpAny_getItem_list_neg (Q := fun r s' => r = w ∧ EP X pins σ Q r s') pl.isList (by omega) (by rw [List.size_toArray] <;> omega) (by omega) (by rw [hj]; simpa using ew) ⟨rfl, fin⟩) hs
theorem ix_tup : IxR X (rIxT X.K) := by
  intro value slice pins s σ H x y v u Q I rx ry h hs
  obtain ⟨p, xs, i, z, rfl, rfl, hq, he, q⟩ := h
  cases rx
  obtain ⟨t, rfl⟩ := ry
  obtain ⟨its, r, pl, hz⟩ := I.tuple hq
  obtain ⟨j, h1, h2, h3, h4, h5⟩ := atI_get he
  obtain ⟨w, ew, rw'⟩ := r.get h2
  have hl := r.length
  have hn := line63
  have fin : EP X pins σ Q w s := ⟨z, H, I, rw', q⟩
  exact subscriptTail_builtinR (x := w) pl.typeIs slot_tuple_getitem.lookup
    (getItem_tuple (j := j) (Q := fun r s' => r = w ∧ EP X pins σ Q r s') pl (by omega) (by omega) (by rw [List.size_toArray, ← hl]; exact h1) (by simpa using ew) ⟨rfl, fin⟩) hs
theorem ix_str : IxR X rIxS := by
  intro value slice pins s σ H x y v u Q I rx ry h hs
  obtain ⟨z, i, c, rfl, rfl, hz, he, q⟩ := h
  obtain ⟨t, rfl⟩ := rx
  obtain ⟨t', rfl⟩ := ry
  obtain ⟨j, h1, h2, h3, h4, h5⟩ := atI_get he
  have hl : z.cps.toList.length = z.length := by simp [Str.length]
  rw [hl] at h1 h4 h5
  have hn := line63
  exact tail_any (typeIs_str s z t) slot_str_getitem.lookup (getItem_str (c := c) (by
    have e1 : decide (i < -(2 ^ 63 : Int)) = false := decide_eq_false (by omega)
    have e2 : decide (i ≥ 2 ^ 63) = false := decide_eq_false (by omega)
    rw [e1, e2, Bool.or_false]) (by rw [h1]; simpa using h2) ⟨.str ⟨#[c]⟩, H, I.tok _, ⟨_, rfl⟩, q⟩) hs
/-! ### xs[i] = v, any sign -/
/-- the list's object behind a store -/
theorem mapSeq_set (its : List Value) (n j : Nat) (u : Value) : Obj.mapSeq (·.setIfInBounds j u) { cls := .type "list", data := .seq its.toArray n } = { cls := .type "list", data := .seq (its.set j u).toArray n } := by
  simp [Obj.mapSeq]
theorem Inv.lst {pins : List (Addr × Obj)} {σ : St} {H : Hp} {s : Shared} {p : Addr} {xs : List V} (I : Inv X pins σ H s) (h : H p = some (.lst xs)) :
    ∃ (its : List Value) (n : Nat), Vals xs its ∧ s.heap.get? p = some { cls := .type "list", data := .seq its.toArray n } ∧ xs.length ≤ sizeLine := by
  obtain ⟨z, its, n, r, e⟩ := I.hok p _ h
  exact ⟨its, n, r, e, z⟩
/-- the list at p is written by an update of its object -/
theorem Inv.lstUpd {pins : List (Addr × Obj)} {σ : St} {H : Hp} {s : Shared} {p : Addr} {xs ys : List V} {its its' : List Value} {n n' : Nat} {f : Obj → Obj} (I : Inv X pins σ H s) (h : H p = some (.lst xs))
    (ho : s.heap.get? p = some { cls := .type "list", data := .seq its.toArray n }) (hf : f { cls := .type "list", data := .seq its.toArray n } = { cls := .type "list", data := .seq its'.toArray n' }) (r : Vals ys its') (hz : ys.length ≤ sizeLine) (t : Nat) :
    Inv X pins σ (upd H p (.lst ys)) { s with heap := s.heap.update p f, toks := t } := by
  have e : (s.heap.update p f).get? p = some { cls := .type "list", data := .seq its'.toArray n' } := by
    rw [Heap.get?_update_self f ho (by rw [hf] <;> rfl), hf]
  refine I.write (x := p) (e := p) (by rw [h]; trivial) (.inl rfl) (fun b u hb q => (Heap.get?_update_other _ _ (Ne.symm hb)).trans q) ⟨_, e⟩ ?_
  exact ⟨hz, its', n', r, e⟩
def rSetL : V → V → V → Hp → (Hp → Prop) → Prop := fun o i v H Q => ∃ p xs k j, o = .ref p ∧ i = .int k ∧ H p = some (.lst xs) ∧ ixN xs.length k = some j ∧ Q (upd H p (.lst (xs.set j v)))
theorem set_list : PSet X rSetL := by
  intro pins s σ H o i v ov iv u Q I ro ri rv h
  obtain ⟨p, xs, k, j, rfl, rfl, hp, hj, q⟩ := h
  cases ro
  obtain ⟨t, rfl⟩ := ri
  obtain ⟨its, n, r, ho, hz⟩ := I.lst hp
  obtain ⟨h1, h2, h3, h4⟩ := ixN_seq hj
  have hl := r.length
  have hn := line63
  have I' : Inv X pins σ (upd H p (.lst (xs.set j v))) { s with heap := s.heap.update p (Obj.mapSeq (·.setIfInBounds j u)) } :=
    I.lstUpd hp ho (mapSeq_set its n j u) (r.set rv j) (by rw [List.length_set]; exact hz) s.toks
  by_cases h0 : 0 ≤ k
  · have hk : k.toNat = j := by
      rw [seqIndex_of h0 h4] at h1
      exact Option.some.inj h1
    exact PySem.W.ki_setAt ho h0 (by omega) (by rw [List.size_toArray, ← hl]; exact h4) (by rw [hk]; exact ⟨_, I', q⟩)
  · have hk : (k + (its.toArray.size : Int)).toNat = j := by
      rw [seqIndex_neg (by omega) h3] at h1
      rw [List.size_toArray, ← hl]
      exact Option.some.inj h1
    exact PySem.W.ki_setBack ho (by omega) (by rw [List.size_toArray, ← hl]; exact h3) (by omega) (by rw [hk]; exact ⟨_, I', q⟩)

/-! ### slices -/
theorem slice_bounds (lo hi : Option Int) (n : Nat) : (sliceBounds lo hi none n).1 = ((HT.sIx n 0 lo : Nat) : Int) ∧ (sliceBounds lo hi none n).2.1 = ((HT.sIx n n hi : Nat) : Int) ∧ (sliceBounds lo hi none n).2.2 = 1 := by
  refine ⟨?_, ?_, rfl⟩
  · cases lo with
    | none => simp [sliceBounds, HT.sIx]
    | some i =>
      simp only [sliceBounds, HT.sIx, Option.getD_none, show (1 : Int) > 0 by decide, if_true]
      by_cases h : i < 0
      · simp only [h, if_true] <;> omega
      · simp only [h, if_false] <;> omega
  · cases hi with
    | none => simp [sliceBounds, HT.sIx]
    | some i =>
      simp only [sliceBounds, HT.sIx, Option.getD_none, show (1 : Int) > 0 by decide, if_true]
      by_cases h : i < 0
      · simp only [h, if_true] <;> omega
      · simp only [h, if_false] <;> omega
theorem slicePick_cut (its : List Value) (lo hi : Option Int) : slicePick its.toArray lo hi none = ((its.drop (HT.sIx its.length 0 lo)).take (HT.sIx its.length its.length hi - HT.sIx its.length 0 lo)).toArray := by
  obtain ⟨h1, h2, h3⟩ := slice_bounds lo hi its.toArray.size
  unfold slicePick
  rw [h1, h2, h3]
  simp only [sliceRange_one, pick_run, List.size_toArray] <;> rfl
/-- xs[lo:hi] of a list: a new list -/
def rSlL (K : PySem.W.Frag) : V → Option Int → Option Int → Hp → VK → Prop := fun x lo hi H Q => ∃ a xs, x = .ref a ∧ SqL K H a xs ∧ ∀ p, H p = none → Q (.ref p) (upd H p (.lst (cutV xs lo hi)))
theorem sl_list : SlR X (rSlL X.K) := by
  intro pins s σ H x v vl vu lo hi sl Q I rx hs pl pu h
  obtain ⟨a, xs, rfl, hx, q⟩ := h
  cases rx
  obtain ⟨its, r, ht, hz⟩ := I.list hx
  have hlen := r.length
  refine ⟨"list", _, slot_list_getitem.lookup, ht.isList.typeIs, ?_⟩
  refine wpAny_getItem_list_slice ht.isList hs pl pu .none (by simp) ?_ (by rw [List.size_toArray] <;> omega)
  rw [slicePick_cut, ← hlen]
  refine ⟨.ref s.heap.objs.size, _, I.laid (t' := s.toks) (o := .lst (cutV xs lo hi)) (fun b ob q => Heap.get?_push_of_some _ q) (Nat.le_refl _) ?_, rfl, q _ (I.hok.fresh (Nat.le_refl _))⟩
  exact ⟨Nat.le_trans (cutV_length xs lo hi) hz, _, 0, (r.drop (HT.sIx xs.length 0 lo)).take (HT.sIx xs.length xs.length hi - HT.sIx xs.length 0 lo), Heap.get?_push_size _ rfl⟩

/-! ### in, not in: flat items -/
def flatV : V → Bool
  | .non => true
  | .bl _ => true
  | .int _ => true
  | .str _ => true
  | _ => false
/-- == of flat values -/
def eqV : V → V → Bool
  | .non, .non => true
  | .bl a, .bl b => a == b
  | .bl a, .int b => (if a then 1 else 0) == b
  | .int a, .bl b => a == (if b then 1 else 0)
  | .int a, .int b => a == b
  | .str a, .str b => a == b
  | _, _ => false
theorem eqAt_V {A : Around} {s : Shared} {y x : V} {u v : Value} (ry : RelV y u) (rx : RelV x v) (fy : flatV y = true) (fx : flatV x = true) : SeqAt.EqAt A s u v (eqV y x) := by
  cases y with
  | non =>
    cases ry
    cases x with
    | non => cases rx; exact SeqAt.EqAt.same _
    | bl b => cases rx; exact SeqAt.EqAt.none_bool b
    | int b => obtain ⟨t, rfl⟩ := rx; exact SeqAt.EqAt.none_int b t
    | str b => obtain ⟨t, rfl⟩ := rx; exact SeqAt.EqAt.none_str b t
    | _ => exact absurd (show false = true from fx) Bool.false_ne_true
  | bl a =>
    cases ry
    cases x with
    | non => cases rx; exact SeqAt.EqAt.bool_none a
    | bl b => cases rx; exact SeqAt.EqAt.bool_bool a b
    | int b => obtain ⟨t, rfl⟩ := rx; exact SeqAt.EqAt.bool_int a b t
    | str b => obtain ⟨t, rfl⟩ := rx; exact SeqAt.EqAt.bool_str a b t
    | _ => exact absurd (show false = true from fx) Bool.false_ne_true
  | int a =>
    obtain ⟨t', rfl⟩ := ry
    cases x with
    | non => cases rx; exact SeqAt.EqAt.int_none a t'
    | bl b => cases rx; exact SeqAt.EqAt.int_bool a t' b
    | int b => obtain ⟨t, rfl⟩ := rx; exact SeqAt.EqAt.int_int a t' b t
    | str b => obtain ⟨t, rfl⟩ := rx; exact SeqAt.EqAt.int_str a t' b t
    | _ => exact absurd (show false = true from fx) Bool.false_ne_true
  | str a =>
    obtain ⟨t', rfl⟩ := ry
    cases x with
    | non => cases rx; exact SeqAt.EqAt.str_none a t'
    | bl b => cases rx; exact SeqAt.EqAt.str_bool a t' b
    | int b => obtain ⟨t, rfl⟩ := rx; exact SeqAt.EqAt.str_int a t' b t
    | str b => obtain ⟨t, rfl⟩ := rx; exact SeqAt.EqAt.str_str a t' b t
    | _ => exact absurd (show false = true from fx) Bool.false_ne_true
  | _ => exact absurd (show false = true from fy) Bool.false_ne_true
/-- the items' answers, read off the values (a value's own answer does not lean on its token) -/
def eqU (x : V) (u : Value) : Bool := match u with
  | .none => eqV .non x
  | .bool b => eqV (.bl b) x
  | .int i _ => eqV (.int i) x
  | .str z _ => eqV (.str z) x
  | _ => false
theorem eqU_of {x y : V} {u : Value} (r : RelV y u) (f : flatV y = true) : eqU x u = eqV y x := by
  cases y with
  | non => cases r; rfl
  | bl b => cases r; rfl
  | int i => obtain ⟨t, rfl⟩ := r; rfl
  | str z => obtain ⟨t, rfl⟩ := r; rfl
  | _ => exact absurd (show false = true from f) Bool.false_ne_true
theorem any_eqU {x : V} : ∀ {xs : List V} {us : List Value}, Vals xs us → xs.all flatV = true → us.any (eqU x) = xs.any fun y => eqV y x
  | _, _, .nil, _ => rfl
  | y :: xs, u :: us, .cons r t, f => by
    rw [List.all_cons, Bool.and_eq_true] at f
    rw [List.any_cons, List.any_cons, eqU_of r f.1, any_eqU t f.2]
theorem mem_eqAt {A : Around} {s : Shared} {x : V} {v : Value} (rx : RelV x v) (fx : flatV x = true) : ∀ {xs : List V} {us : List Value}, Vals xs us → xs.all flatV = true → ∀ u ∈ us, SeqAt.EqAt A s u v (eqU x u)
  | _, _, .nil, _ => fun u hu => by cases hu
  | y :: xs, u :: us, .cons r t, f => fun u' hu => by
    rw [List.all_cons, Bool.and_eq_true] at f
    rcases List.mem_cons.mp hu with rfl | hu
    · rw [eqU_of r f.1]; exact eqAt_V r rx f.1 fx
    · exact mem_eqAt rx fx t f.2 u' hu
def inV (x : V) (xs : List V) : Bool := xs.any fun y => eqV y x
/-- x in a list or tuple of flat items -/
def rIn (K : PySem.W.Frag) (neg : Bool) : R2 := fun x y H Q => ∃ p xs, y = .ref p ∧ (SqL K H p xs ∨ SqT K H p xs) ∧ flatV x = true ∧ xs.all flatV = true ∧ Q (.bl (if neg then !inV x xs else inV x xs)) H
theorem op_notIn_seq : OpR X (compareOp .NotIn) (rIn X.K true) := by
  intro pins s σ H x y v u Q I rx ry h
  obtain ⟨p, xs, rfl, hq, fx, fs, q⟩ := h
  cases ry
  rcases hq with hq | hq
  · obtain ⟨its, r, pl, hz⟩ := I.list hq
    refine SeqAt.notIn_listAt (eqU x) pl.isList (fun w hw => mem_eqAt rx fx r fs w (by simpa using hw)) ⟨.bl _, H, I, rfl, ?_⟩
    rw [show its.toArray.any (eqU x) = its.any (eqU x) by simp, any_eqU r fs]
    exact q
  · obtain ⟨its, r, pl, hz⟩ := I.tuple hq
    refine SeqAt.notIn_tupleAt (eqU x) pl (fun w hw => mem_eqAt rx fx r fs w (by simpa using hw)) ⟨.bl _, H, I, rfl, ?_⟩
    rw [show its.toArray.any (eqU x) = its.any (eqU x) by simp, any_eqU r fs]
    exact q
/-! ### len, list(x), tuple(x) of any list or tuple that is read -/
theorem call_len_seq : CallR X (.builtin "len") (fun xs H Q => ∃ p ys, xs = [.ref p] ∧ (SqL X.K H p ys ∨ SqT X.K H p ys) ∧ Q (.int ys.length) H) := by
  intro pins s σ H xs us Q I r h
  obtain ⟨p, ys, rfl, hq, q⟩ := h
  obtain ⟨u, rfl, rx⟩ := vals1 r
  cases rx
  have hn := line63
  rcases hq with hq | hq
  · obtain ⟨its, r', pl, hz⟩ := I.list hq
    have hlen := r'.length
    exact Calls.call_len_list pl.isList (by simp only [List.size_toArray] <;> omega) ⟨.int ys.length, H, I.tok _, ⟨s.toks + 1, by rw [List.size_toArray, hlen]⟩, q⟩
  · obtain ⟨its, r', pl, hz⟩ := I.tuple hq
    have hlen := r'.length
    exact len_tuple pl (by simp only [List.size_toArray] <;> omega) ⟨.int ys.length, H, I.tok _, ⟨s.toks + 1, by rw [List.size_toArray, hlen]⟩, q⟩
theorem call_len_str : CallR X (.builtin "len") (fun xs H Q => ∃ z, xs = [.str z] ∧ z.length ≤ sizeLine ∧ Q (.int z.length) H) := by
  intro pins s σ H xs us Q I r h
  obtain ⟨z, rfl, hz, q⟩ := h
  obtain ⟨u, rfl, t, rfl⟩ := vals1 r
  have hn := line63
  exact len_str (by omega) ⟨.int z.length, H, I.tok _, ⟨_, rfl⟩, q⟩
theorem call_list_of : CallR X (.type "list") (fun xs H Q => ∃ p ys, xs = [.ref p] ∧ (SqL X.K H p ys ∨ SqT X.K H p ys) ∧ ∀ l, H l = none → Q (.ref l) (upd H l (.lst ys))) := by
  intro pins s σ H xs us Q I r h
  obtain ⟨p, ys, rfl, hq, q⟩ := h
  obtain ⟨u, rfl, rx⟩ := vals1 r
  cases rx
  have fin : ∀ (its : List Value), Vals ys its → ys.length ≤ sizeLine → ∀ (h' : Heap) (c' : Nat), (∀ b o', s.heap.get? b = some o' → h'.get? b = some o') →
      h'.get? s.heap.objs.size = some { cls := .type "list", dict := none, data := .seq its.toArray c', slots := #[] } → EP X pins σ Q (.ref s.heap.objs.size) { s with heap := h' } := fun its r' hz h' c' kp e =>
    ⟨.ref s.heap.objs.size, _, I.laid (t' := s.toks) kp (Nat.le_refl _) (show ObjOk X.prog X.w _ h' _ (.lst ys) from ⟨hz, its, c', r', e⟩), rfl, q _ (I.hok.fresh (Nat.le_refl _))⟩
  rcases hq with hq | hq
  · obtain ⟨its, r', pl, hz⟩ := I.list hq
    have hlen := r'.length
    obtain ⟨o, ho, hc, n, hd⟩ := pl.isList
    exact call_list_seq p (.inl rfl) ho hc hd (fun h' c' kp e => fin its r' hz h' c' kp e) (by simp only [List.size_toArray] <;> omega)
  · obtain ⟨its, r', pl, hz⟩ := I.tuple hq
    have hlen := r'.length
    obtain ⟨o, ho, hc, n, hd⟩ := pl
    exact call_list_seq p (.inr rfl) ho hc hd (fun h' c' kp e => fin its r' hz h' c' kp e) (by simp only [List.size_toArray] <;> omega)
/-! ### the call of a builtin's method: o.m(..) -/
/-- the value is of that builtin type -/
def tyV (K : PySem.W.Frag) (T : String) (x : V) (H : Hp) : Prop := match x with
  | .str _ => T = "str"
  | .int _ => T = "int"
  | .ref p => (T = "list" ∧ ∃ xs, SqL K H p xs) ∨ (T = "tuple" ∧ ∃ o, K.lookup p = some o ∧ o.cls = .type "tuple" ∧ o.dict = none) ∨
      (T = "dict" ∧ ((∃ kvs, H p = some (.dK kvs)) ∨ ∃ kvs, H p = some (.dT kvs))) ∨ (T = "set" ∧ ∃ S n, H p = some (.set S n))
  | _ => False
theorem tyV_is {pins : List (Addr × Obj)} {σ : St} {H : Hp} {s : Shared} {T : String} {x : V} {v : Value} (I : Inv X pins σ H s) (r : RelV x v) (ty : tyV X.K T x H) :
    s.TypeIs v T ∧ ∀ a, v = .ref a → ∃ ob, s.heap.get? a = some ob ∧ ob.dict = none := by
  cases x with
  | str z =>
    obtain ⟨t, rfl⟩ := r
    cases (show T = "str" from ty)
    exact ⟨typeIs_str s z t, fun _ e => nomatch e⟩
  | int i =>
    obtain ⟨t, rfl⟩ := r
    cases (show T = "int" from ty)
    exact ⟨typeIs_int s i t, fun _ e => nomatch e⟩
  | ref p =>
    cases r
    rcases ty with ⟨rfl, xs, hq⟩ | ⟨rfl, o, hk, hc, hd⟩ | ⟨rfl, hk⟩ | ⟨rfl, S, n, hk⟩
    · obtain ⟨its, _, pl, _⟩ := I.list hq
      refine ⟨pl.isList.typeIs, fun a e => ?_⟩
      cases e
      obtain ⟨o, n, e, c, hd, _⟩ := pl
      exact ⟨o, e, hd⟩
    · refine ⟨⟨o, I.kIn p o hk, hc⟩, fun a e => ?_⟩
      cases e
      exact ⟨o, I.kIn _ o hk, hd⟩
    · have z : ∃ o, s.heap.get? p = some o ∧ o.ExactDict := by
        rcases hk with ⟨kvs, hk⟩ | ⟨kvs, hk⟩
        · obtain ⟨_, _, _, _, o, _, _, e, ex, _⟩ := I.hok p _ hk
          exact ⟨o, e, ex⟩
        · obtain ⟨_, _, _, _, o, _, _, e, ex, _⟩ := I.hok p _ hk
          exact ⟨o, e, ex⟩
      obtain ⟨o, e, ex⟩ := z
      refine ⟨⟨o, e, ex.1⟩, fun a e2 => ?_⟩
      cases e2
      exact ⟨o, e, ex.2.1⟩
    · obtain ⟨o, _, _, _, e, ex, _⟩ := I.hok p _ hk
      refine ⟨⟨o, e, ex.1⟩, fun a e2 => ?_⟩
      cases e2
      exact ⟨o, e, ex.2.1⟩
  | _ => exact False.elim ty
def tBM (K : PySem.W.Frag) (T : String) (r : V → List V → Hp → VK → Prop) (to : TE) (t : TA) : TE := fun σ H Q => to σ H fun x H1 => tyV K T x H1 ∧ t σ H1 fun xs H2 => r x xs H2 Q
variable {o e : Expr} {es : List Expr} {to : TE} {t : TA} {name : Str} {apos cpos : Pos} {T id : String} {r : V → List V → Hp → VK → Prop}
theorem pe_bm (pa : PlainAttrs T) (slot : Slot T name id) (hty : typeOf (.builtin id) = pure (.type "method_descriptor")) (hm : MtR X id r) (ho : PE X o to) (ha : PA X (e :: es) t)
    (hbase : attributeBase o name X.env (eval o X.env) = eval o X.env := by rfl)
    (hfew : ((backTo cpos (starEach (e :: es) X.env)).all (fun x => !x.1) && (backToKw cpos (keywordEach [] X.env)).all (fun x => x.1.isSome)
      && decide ((e :: es).length + ([] : List Keyword).length + (if ([] : List Keyword).isEmpty then 0 else 1) < 30)) = true := by rfl)
    (hline : (apos.endLine == cpos.line) = true := by rfl) (hs : starEach (e :: es) X.env = (false, eval e X.env) :: starEach es X.env := by rfl) (hplain : (backTo cpos (starEach es X.env)).any (·.1) = false := by rfl) :
    PE X (.Call (.Attribute o name apos) (e :: es) [] cpos) (tBM X.K T r to t) := by
  intro pins s σ H Q I h
  refine wpAny_Call_method_late hbase hfew hline rfl (thn (ho pins s σ H _ I h) fun v s1 ⟨x, H1, I1, r1, ty, q1⟩ => ?_)
  obtain ⟨h1, h2⟩ := tyV_is I1 r1 ty
  refine ⟨T, id, pa, slot, hty, h1, h2, ?_⟩
  have hA := ha cpos pins s1 σ H1 _ I1 q1
  rw [hs] at hA ⊢
  refine Calls.callWith_builtin (by show (false || (backTo cpos (starEach es X.env)).any (·.1)) = false; rw [hplain] <;> rfl) (Calls.evalArgs_plain ?_)
  exact thn hA fun us s2 ⟨vs, H2, I2, r2, q2⟩ => hm pins s2 σ H2 x vs v us Q I2 r1 r2 q2
/- xs.append(e), list.index on a module's tuple .. are MtR facts of 06m -/
end
end L2

namespace L2
open PySem PySem.Spec PyProof.Rows

def MtM (X : Cx) (id : String) (r : V → List V → Hp → VK → Prop) : Prop :=
  ∀ (pins : List (Addr × Obj)) (s : Shared) (σ : St) (H : Hp) (x : V) (xs : List V) (v : Value) (us : List Value) (Q : VK), Inv X pins σ H s → RelV x v → Vals xs us → r x xs H Q →
    wpAny (model X.prog X.w) X.A (call (.builtin id) (v :: us)) (EP X pins σ Q) X.xe s

/-! ### lists of values -/
theorem Vals.one : ∀ {x : V} {us : List Value}, Vals [x] us → ∃ u, us = [u] ∧ RelV x u
  | _, _, .cons r .nil => ⟨_, rfl, r⟩
section
variable {X : Cx} {pins : List (Addr × Obj)} {σ : St} {H : Hp} {s : Shared} {l b : Addr} {xs ys zs : List V}

/-! ### the two steps: a tracked list is rewritten, a new list is laid -/
theorem Inv.lset {its its' : List Value} {n : Nat} {f : Array Value → Array Value} {t' : Nat} (I : Inv X pins σ H s) (hH : H l = some (.lst xs))
    (e : s.heap.get? l = some { cls := .type "list", data := .seq its.toArray n }) (hf : f its.toArray = its'.toArray) (hv : Vals ys its') (hz : ys.length ≤ sizeLine) :
    Inv X pins σ (upd H l (.lst ys)) { s with heap := s.heap.update l (Obj.mapSeq f), toks := t' } := by
  have q := PySem.IsL.update e f
  rw [hf] at q
  refine I.write (x := l) (e := l) (by rw [hH]; exact trivial) (.inl rfl) (fun b' u hb hu => (Heap.get?_update_other s.heap (Obj.mapSeq f) (Ne.symm hb)).trans hu) ⟨_, q⟩ ?_
  exact ⟨hz, its', _, hv, q⟩
theorem Inv.lnew {its : List Value} {t' : Nat} (I : Inv X pins σ H s) (hv : Vals ys its) (hz : ys.length ≤ sizeLine) :
    Inv X pins σ (upd H s.heap.objs.size (.lst ys)) { s with heap := s.heap.push { cls := .type "list", data := .seq its.toArray }, toks := t' } :=
  I.laid (fun _ _ q => Heap.get?_push_of_some _ q) (Nat.le_refl _) ⟨hz, its, 0, hv, Heap.get?_push_size _ rfl⟩
theorem Inv.fresh (I : Inv X pins σ H s) : H s.heap.objs.size = none := I.hok.fresh (Nat.le_refl _)
theorem Inv.lstM (I : Inv X pins σ H s) (hH : H l = some (.lst xs)) : xs.length ≤ sizeLine ∧ ∃ (its : List Value) (n : Nat), Vals xs its ∧ xs.length = its.length ∧ s.heap.get? l = some { cls := .type "list", data := .seq its.toArray n } := by
  obtain ⟨z, its, n, r, e⟩ := I.hok l _ hH
  exact ⟨z, its, n, r, r.length, e⟩

end

section
variable {X : Cx}

/-! ### methods -/
def rAppend : V → List V → Hp → VK → Prop := fun x vs H Q => ∃ l xs y, x = .ref l ∧ vs = [y] ∧ H l = some (.lst xs) ∧ xs.length < sizeLine ∧ Q .non (upd H l (.lst (xs ++ [y])))
theorem mt_append : MtM X "list.append" rAppend := by
  intro pins s σ H x vs v us Q I rx rv h
  obtain ⟨l, xs, y, rfl, rfl, hH, hz, q⟩ := h
  cases rx
  obtain ⟨u, rfl, ru⟩ := rv.one
  obtain ⟨z, its, n, r, hl, e⟩ := I.lstM hH
  refine call_meets F.slot_list_append ⟨_, e, rfl⟩ F.entry_list_append (F.args_list_append_2 _ _) (PySem.list_append l its.toArray n u (by rw [List.size_toArray]; omega)) ⟨e, ?_⟩
  refine ⟨.non, _, I.lset (its' := its ++ [u]) hH e (by simp) (r.append (.cons ru .nil)) ?_, rfl, q⟩
  rw [List.length_append, List.length_singleton]
  omega

/-! ### list + list, list += list, list * int -/
def rCat : R2 := fun x y H Q => ∃ l b xs zs, x = .ref l ∧ y = .ref b ∧ H l = some (.lst xs) ∧ H b = some (.lst zs) ∧ xs.length + zs.length ≤ sizeLine ∧ ∀ p, H p = none → Q (.ref p) (upd H p (.lst (xs ++ zs)))
theorem op_cat : OpR X (binaryOp .Add) rCat := by
  intro pins s σ H x y v u Q I rx ry h
  obtain ⟨l, b, xs, zs, rfl, rfl, hH, hB, hz, q⟩ := h
  cases rx
  cases ry
  obtain ⟨z, its, n, r, hl, e⟩ := I.lstM hH
  obtain ⟨z2, its2, n2, r2, hl2, e2⟩ := I.lstM hB
  refine PySem.P.add_list e e2 ?_ (by rw [List.size_toArray, List.size_toArray]; omega)
  have ea : its.toArray ++ its2.toArray = (its ++ its2).toArray := by simp
  rw [ea]
  exact ⟨.ref _, _, I.lnew (t' := s.toks) (r.append r2) (by rw [List.length_append]; omega), rfl, q _ I.fresh⟩
/-! ### del xs[i] -/
end

/-! ### xs[a:b] = ys -/
section
variable {prog : Program} {w : World} {A : Around} {E : Value → Shared → Prop} {s : Shared}
end

section
variable {X : Cx}
end
end L2

namespace L2
open PySem PySem.Spec PyProof.Rows

/-! ### lists of pairs as tables -/
section
variable {κ : Type} [DecidableEq κ]
end


/-! ### a tracked dict, its keys ints and texts or tuples of these -/
section
variable {P : Program} {w : World} {H : Hp} {h : Heap} {a : Addr}
end

section
variable {X : Cx} {pins : List (Addr × Obj)} {σ : St} {H : Hp} {s : Shared} {a : Addr} {y v : V} {u r : Value} {o : Option V} {A : Around} {E : Value → Shared → Prop}

end

section
variable {X : Cx} {pins : List (Addr × Obj)} {σ : St} {H : Hp} {s : Shared} {a : Addr} {kvs : List (Key × V)} {k : Key} {u : Value} {A : Around} {E : Value → Shared → Prop}
end


/-! ### readings and rules -/
section
variable {X : Cx} {o i e value : Expr} {pos pos' tpos : Pos} {td ty tv : TE}
end


/-! ### displays -/
section
variable {X : Cx} {pos : Pos}
end

/-! ### methods -/
section
variable {X : Cx} {pins : List (Addr × Obj)} {σ : St} {H : Hp} {s : Shared} {a : Addr} {y d : V} {u r : Value} {o : Option V} {A : Around} {E : Value → Shared → Prop}
end

section
variable {X : Cx} {o e f : Expr} {apos cpos : Pos} {td ty tx : TE}
end

/-! ### dict(d): a copy -/
section
variable {X : Cx} {pins : List (Addr × Obj)} {σ : St} {H : Hp} {s : Shared} {a : Addr} {kvs : List (Key × V)} {A : Around} {E : Value → Shared → Prop}
end


section
variable {X : Cx} {pins : List (Addr × Obj)} {σ : St} {H : Hp} {s : Shared} {a : Addr} {y : V} {u : Value} {A : Around} {E : Value → Shared → Prop}
end
end L2

namespace Att
open PySem PySem.W PySem.Calls PyProof.Rows

/-! ### the script -/
theorem ints_of_wellAll {P : Params} {h : Heap} : ∀ (ns : List Int) (vs : List Value), WellAll P h vs (ns.map WData.int) → IntsAre vs ns := by
  intro ns
  induction ns with
  | nil =>
    intro vs w
    rw [List.map_nil] at w
    cases w
    exact .nil
  | cons n ns ih =>
    intro vs w
    rw [List.map_cons] at w
    cases w with
    | cons a b =>
      cases a
      exact .cons _ _ (ih _ b)

theorem script_of {l : OpenLaw} {n : Nat} (hn : l.most = some n) {P : Params} {h : Heap} {args : List WData} {vals : List Value}
    (hpre : l.row.toRowW.claim.pre args = true) (hwl : WellAll P h vals args) :
    ∃ a vs ns, vals = [Value.ref a] ∧ args = [WData.list (ns.map WData.int)] ∧ h.get? a = some { cls := .type "list", data := .seq vs.toArray } ∧ IntsAre vs ns ∧ ns.length ≤ n := by
  have hsh : WShape.hasAll [] args [.list .int] = true := (pre_splitW hpre).1
  have hc : l.pre.holds [] { args := args } = true := (pre_splitW hpre).2
  obtain ⟨d, r, rfl, h1, h2⟩ := hasAllW_cons hsh
  obtain rfl := hasAllW_nil h2
  obtain ⟨xs, rfl, h3⟩ := hasW_list h1
  obtain ⟨ns, rfl⟩ := items_int h3
  have hlen : ns.length ≤ n := by
    unfold OpenLaw.pre at hc
    have h4 : (WTm.not (.lt (.lit (.int (n : Int))) (.len (.arg 0)))).holds [] { args := [.list (ns.map .int)] } = true := by
      have h4 := (holds_andW hc).1
      rw [hn] at h4
      exact h4
    have h5 := condW_of h4 (w_not (w_lt w_lit (w_len_list (w_arg rfl))))
    rw [List.length_map] at h5
    refine Nat.le_of_not_lt fun q => ?_
    have q' : (n : Int) < ((ns.length : Nat) : Int) := by omega
    first
      | (rw [decide_eq_true q'] at h5; exact absurd h5 (by decide))
      | (simp at h5; omega)
  cases hwl with
  | cons w1 w2 =>
    cases w2
    cases w1 with
    | list ho hall => exact ⟨_, _, ns, rfl, rfl, ho, ints_of_wellAll ns _ hall, hlen⟩

theorem post_true (l : OpenLaw) (args : List WData) : l.row.toRowW.claim.post args (.bool true) args = true :=
  postW_of (r := l.row.toRowW) (X := (true == true))
    (show WShape.has [] (.bool true) .bool = true by first | rfl | decide | simp [WShape.has, WShape.arms, WShape.armsAll])
    (show (WTm.eq .res (.lit (.bool true))).value [] { args := args, res := some (.bool true), after := args } = some (.bool (true == true)) from w_eq_bool (w_res rfl) w_lit) rfl

/-! ### the attachment: holds_open's last premise (the goal 'hc' behind k_head) from a wpAny of the law's body -/
/-- the same from a codeAny of the CALL (for a layer whose function contracts speak of calls) -/
theorem attach_call {l : OpenLaw} {n : Nat} {q : Program} {loose : List Str} {XP : (Str → Option Value) → Heap → Prop} {YP : World → Heap → Prop} {d : DefRec}
    (hn : l.most = some n) (hdf : d.params.defaults = [])
    (call : ∀ (w : World) (s₀ s₁ : Shared) (mg mb : Str → Option Value) (fa : Addr) (o : Obj) (pm cd doc : Value) (a : Addr) (vs : List Value) (ns : List Int),
      Ground q loose [] XP w s₀ mg mb s₁.heap → YP w s₁.heap →
      s₁.heap.get? fa = some o → o.data = .func (docDef d.name d.params d.body d.scope pm cd doc) → s₁.heap.CodeRec cd d.name → mg d.name = some (.ref fa) →
      s₁.heap.get? a = some { cls := .type "list", data := .seq vs.toArray } → IntsAre vs ns → ns.length ≤ n → s₁.gens = #[] →
      codeAny (model l.prog w) callerA (.call (.ref fa) ⟨[.ref a], []⟩) (fun r s' => r = .ok (.ret (.bool true)) ∧ OldK s₁.heap s'.heap ∧ s'.os = s₁.os ∧ AllBare s'.gens) s₁) :
    WalkO q loose XP YP l.row.toRowW d [] (fun f vs => PySem.call f vs) := by
  intro w s₀ s₁ mg mb G Y fa o pm cd doc dV kV ho hd hcd hD hmg hg args vals as hpre hlay hrd hwl hlo
  obtain rfl : dV = .none := Dflts.none hD hdf
  obtain rfl : kV = .none := Dflts.noKw hD
  obtain ⟨a, vs, ns, rfl, rfl, hobj, hints, hlen⟩ := script_of hn hpre hwl
  refine enter_call (codeAny_mono (call w s₀ s₁ mg mb fa o pm cd doc a vs ns G Y ho (fd_plain hd) hcd hmg hobj hints hlen hg) fun r s' hq => ?_)
  obtain ⟨rfl, h2, h3, h4⟩ := hq
  exact ⟨.inl ⟨.bool true, .bool true, [], rfl, fun _ => rfl, .bool true, post_true l _, fun _ => ⟨List.Pairwise.nil, fun _ hm => (nomatch hm)⟩⟩, h2, h3, h4⟩

/-! ### rules over ANY heap (no ledger) from facts about the written part K: the library's own take a ledger (News) for what they write -/
section
variable {prog : Program} {w : World} {A : Around} {E : Value → Shared → Prop} {s : Shared} {K : Frag}

/-! the whole heap as the ledger: makes every rule that writes through a ledger a rule over any heap -/
end
end Att

namespace L2
open PySem PySem.Spec PyProof.Rows

theorem vals_ints : ∀ {vs : List Value} {ns : List Int}, IntsAre vs ns → Vals (ns.map V.int) vs
  | _, _, .nil => .nil
  | _, _, .cons n t h => .cons ⟨t, rfl⟩ (vals_ints h)

/-- nothing is tracked but the script, known to the object (or it is an object of the module) -/
def Only (H : Hp) : Prop := ∀ b, H b = none ∨ ∃ o xs, H b = some (.frz o (.lst xs))

/-- THE HEAD: the law's promise, at the heap behind the top. F, the promise of the law's def, may use that base is part of the heap (so K.In base, base.Ns mainGlobals mg stand in Mod) -/
theorem law_call {P : Program} {w : World} {K : PySem.W.Frag} {mg mb : Str → Option Value} {CX : CXT} {k : Nat} {fa a : Addr} {fd : FuncData} {x : Str} {sp : Sp} {s₁ : Shared} {vs : List Value} {ns : List Int}
    (KX : K.In s₁.heap) (hns : s₁.heap.Ns mainGlobals mg) (hb : s₁.heap.Ns builtinsNs mb) (hbb : ∀ x : Str, x ≠ "__name__" → mb x = bootBuiltins x) (hlim : s₁.heap.NoLimit) (hg : s₁.gens = #[])
    (ha : s₁.heap.get? a = some { cls := .type "list", data := .seq vs.toArray }) (hi : IntsAre vs ns) (hl : ns.length ≤ sizeLine) (hr : Room k callerA)
    (F : ∀ base : Heap, K.In base → base.Ns mainGlobals mg → FnOk P w K mg base CX k fa fd [x] sp) (hbind : ∀ (s : Shared) (u : Value), BindsTo s fd ⟨[u], []⟩ [(x, u)])
    (hsp : ∀ H : Hp, Only H → SqL K H a (ns.map V.int) → sp [.ref a] H (fun v _ => v = .bl true) fun _ _ _ => False)
    (hCX : ∀ H e s', CX [] H s₁ (fun _ _ _ => False) e s' → False) :
    codeAny (model P w) callerA (.call (.ref fa) ⟨[.ref a], []⟩) (fun r s' => r = .ok (.ret (.bool true)) ∧ OldK s₁.heap s'.heap ∧ s'.os = s₁.os ∧ AllBare s'.gens) s₁ := by
  have rv := vals_ints hi
  have lenV := hi.length
  -- from an abstract heap in which nothing but the script may be tracked
  have core : ∀ H : Hp, Only H → SqL K H a (ns.map V.int) → HOk P w H s₁.heap → (∀ b, H b ≠ none → b = a) → (H a ≠ none → K.lookup a = none) →
      codeAny (model P w) callerA (.call (.ref fa) ⟨[.ref a], []⟩) (fun r s' => r = .ok (.ret (.bool true)) ∧ OldK s₁.heap s'.heap ∧ s'.os = s₁.os ∧ AllBare s'.gens) s₁ := by
    intro H hO hS hok hA hK
    have base_of : ∀ {b : Addr} {o : Obj}, s₁.heap.get? b = some o → H b = none → (hidT s₁.heap H).get? b = some o := fun e n => hidT_get e n
    have noA : ∀ {b : Addr} {o : Obj} {es : Array DictEntry} {ep : Nat}, s₁.heap.get? b = some o → o.data = .dict es ep → H b = none := fun {b o es ep} e d => by
      cases q : H b with
      | none => rfl
      | some u =>
        have e' : b = a := hA b (by rw [q]; simp)
        subst e'
        rw [ha] at e; cases e
        have d' : Data.seq vs.toArray _ = Data.dict es ep := d
        cases d'
    have nsK : ∀ {b : Addr} {m : Str → Option Value}, s₁.heap.Ns b m → (hidT s₁.heap H).Ns b m := fun {b m} ⟨o, es, ep, e, d, r⟩ => ⟨o, es, ep, base_of e (noA e d), d, r⟩
    have hKb : K.In (hidT s₁.heap H) := fun b o e => base_of (KX b o e) (by
      cases q : H b with
      | none => rfl
      | some u =>
        have e' : b = a := hA b (by rw [q]; simp)
        subst e'
        rw [hK (by rw [q]; simp)] at e; cases e)
    have hM : Mod K mg (hidT s₁.heap H) := ⟨hKb, nsK hns, ⟨mb, nsK hb, hbb⟩, let ⟨mc, h1, h2⟩ := hlim; ⟨mc, nsK h1, h2⟩⟩
    have e0 : Env0 P w K mg (hidT s₁.heap H) callerA [] s₁ H := ⟨rfl, hM, fun b o e => of_hidT e, Nat.le_of_eq (hidT_size _ _), trivial, fun b hb => absurd (show b ∈ ([] : List Addr) from hb) (by simp), hok, .of_eq hg⟩
    refine codeAny_mono ((F _ hKb (nsK hns)).run callerA [] s₁ H ⟨[.ref a], []⟩ [.ref a] [.ref a] _ _ hr e0 (hbind s₁ (.ref a)) (.cons rfl .nil) (hsp H hO hS)) fun r s' h => ?_
    cases r with
    | error e => exact (hCX H e s' h).elim
    | ok fl =>
      cases fl with
      | next => exact False.elim h
      | brk => exact False.elim h
      | cont => exact False.elim h
      | ret u =>
        obtain ⟨v, H', os, bare, un, hok', r', q⟩ := h
        have q' : v = .bl true := q
        subst q'
        obtain rfl : u = Value.bool true := r'
        refine ⟨rfl, OldK.of_keep fun b o e => ?_, os, bare⟩
        cases q : H b with
        | none => exact un.keep b o e q (by intro z; exact absurd (show b ∈ ([] : List Addr) from z) (by simp)) (by simp)
        | some u =>
          rcases hO b with z | ⟨ob, xs, z⟩
          · rw [q] at z; cases z
          · have z2 := un.frzs b ob _ z
            obtain ⟨e1, _⟩ := hok b _ z
            obtain ⟨e2, _⟩ := hok' b _ z2
            rw [e] at e1; cases e1
            exact e2
  cases hk : K.lookup a with
  | some o =>
    -- the script is one of the module's own objects
    have e := KX a o hk
    rw [ha] at e
    cases e
    refine core (fun _ => none) (fun _ => .inl rfl) (.inr ⟨_, vs.toArray, _, hk, rfl, rfl, rfl, by rw [List.size_toArray, lenV]; exact hl, by simpa using rv⟩) (fun b u z => by have z' : (none : Option HO) = some u := z; cases z') (fun b z => absurd rfl z) fun z => absurd rfl z
  | none =>
    refine core (fun b => if b = a then some (.frz { cls := .type "list", data := .seq vs.toArray } (.lst (ns.map V.int))) else none) (fun b => ?_) (.inl (.inr ⟨{ cls := .type "list", data := .seq vs.toArray }, if_pos rfl⟩)) (fun b u z => ?_) (fun b z => ?_) fun _ => hk
    · by_cases hb : b = a
      · exact .inr ⟨_, _, if_pos hb⟩
      · exact .inl (if_neg hb)
    · by_cases hb : b = a
      · have z' := (if_pos hb).symm.trans z
        cases z'
        subst hb
        exact ⟨ha, by rw [List.length_map]; exact hl, vs, _, rv, ha⟩
      · have z' := (if_neg hb).symm.trans z
        cases z'
    · by_cases hb : b = a
      · exact hb
      · exact absurd (if_neg hb) z
end L2

namespace L2
open PySem PySem.Spec PyProof.Rows

/-- the goal that k_head leaves (case hc), from the law's promise. F gives the function object fd (K's own) once, then the promise over every base -/
theorem walk_of {l : PySem.W.OpenLaw} {n k : Nat} {q : Program} {loose : List Str} {XP : (Str → Option Value) → Heap → Prop} {YP : World → Heap → Prop} {d : DefRec} {K : Params → PySem.W.Frag} {CX : World → CXT} {sp : World → Sp} {x : Str}
    (hn : l.most = some n) (hn2 : n ≤ sizeLine) (hdf : d.params.defaults = []) (hr : Room k callerA)
    (hY : ∀ (w : World) (h : Heap), YP w h → (K w.params).In h)
    (F : ∀ (w : World) (mg : Str → Option Value) (fa : Addr) (h : Heap), (K w.params).In h → h.Ns mainGlobals mg → mg d.name = some (.ref fa) →
      ∃ fd : FuncData, (∀ (s : Shared) (u : Value), BindsTo s fd ⟨[u], []⟩ [(x, u)]) ∧
        ∀ base : Heap, (K w.params).In base → base.Ns mainGlobals mg → FnOk l.prog w (K w.params) mg base (CX w) k fa fd [x] (sp w))
    (hsp : ∀ (w : World) (H : Hp) (a : Addr) (ns : List Int), ns.length ≤ n → Only H → SqL (K w.params) H a (ns.map V.int) → sp w [.ref a] H (fun v _ => v = .bl true) fun _ _ _ => False)
    (hCX : ∀ (w : World) (H : Hp) (s : Shared) (e : Value) (s' : Shared), CX w [] H s (fun _ _ _ => False) e s' → False) :
    PySem.W.WalkO q loose XP YP l.row.toRowW d [] (fun f vs => PySem.call f vs) := by
  refine Att.attach_call hn hdf fun w s₀ s₁ mg mb fa o pm cd doc a vs ns G Y ho hd hcd hmg hobj hints hlen hg => ?_
  have KX := hY w _ Y
  obtain ⟨fd, hb, hF⟩ := F w mg fa _ KX G.T.g hmg
  exact law_call KX G.T.g G.T.b G.T.builtins G.T.nolimit hg hobj hints (Nat.le_trans hlen hn2) hr hF hb (fun H hO hS => hsp w H a ns hlen hO hS) fun H e s' => hCX w H s₁ e s'
end L2

/- THE LAST THEOREM (shape; LID, My.* are yours):
   My.Adr: a structure of the addresses that your layer names (classes, functions); My.Txt K t: a structure (Prop) of the equations over K;
   My.txt_mk : {K} {implicit addresses ..} (e1 : nsIn K mainGlobals "law" = some (some (.ref f))) (e2 : K.lookup f = some ⟨oc, od, .func (fnOf "law" "law" params body scope dV kV doc pm an cdv ct), sl⟩) (e3 : codeIn K cdv "law" = true) .. : ∃ t, My.Txt K t

set_option maxRecDepth 100000 in
set_option maxHeartbeats 0 in
theorem PySem.Challenge.cw_LID_holds : PySem.Challenge.rw_LID.Holds := by
  w_on; o_law; k_head; (case hw => w_witness2)
  k_fill
  refine L2.walk_of (l := PySem.Challenge.rw_LID) (n := 63) (k := 40) (x := "script") (CX := fun w => ..) (sp := fun _ => My.sp_law) rfl (by decide) rfl ⟨rfl, by decide, by decide⟩ (fun w h Y => PySem.W.kIn_of Y) ?F ?S ?C
  case F =>
    intro w mg fa h KX G hmg
    have T : ∃ t, My.Txt (L2.KOf KX) t := by
      dsimp only [L2.KOf]                          -- K must stand as «<heap const> w.params» for k_is
      refine' My.txt_mk ?e1 ?e2 ?e3 ..
      (case e1 => PySem.W.k_is)                    -- in the order: a name -> its address -> its object -> its parts
      (case e2 => PySem.W.k_is)
      ..
    obtain ⟨t, T⟩ := T
    have e0 := hmg.symm.trans (PySem.W.mg_of KX G T.law)
    cases e0                                       -- fa is the law's own address
    exact ⟨_, fun s u => .of_eq rfl, fun base kb nb => My.law_fn T kb nb⟩     -- if «.of_eq rfl» comes too early: refine' ⟨_, ?b, fun base kb nb => My.law_fn T kb nb⟩; exact fun s u => .of_eq rfl
  case S => exact fun w H a ns hl hO hS => ..
  case C => exact ..
(the tactic k_is has no namespace: write k_is) -/

/-! SHORT WORDS over the layer: a def of the text, its body, what a loop and a test want. -/
namespace L2
open PySem PySem.Spec PyProof.Rows

/-! ### the text by places -/
/-- the j-th statement of a class's body -/
def inClass (s : Stmt) (j : Nat) : Stmt := match s with
  | .ClassDef _ _ _ body _ _ _ _ _ _ _ => body.getD j (.Pass ⟨0, 0, 0, 0⟩)
  | _ => .Pass ⟨0, 0, 0, 0⟩
def defArgs (s : Stmt) : Arguments := match s with
  | .FunctionDef _ a _ _ _ _ _ _ _ _ => a
  | _ => { posonlyargs := [], args := [], vararg := none, kwonlyargs := [], kw_defaults := [], kwarg := none, defaults := [] }
def defBody (s : Stmt) : List Stmt := match s with
  | .FunctionDef _ _ b _ _ _ _ _ _ _ => b
  | _ => []
def defScope (s : Stmt) : Scope := match s with
  | .FunctionDef _ _ _ _ _ _ sc _ _ _ => sc
  | _ => { kind := .function, names := [], isGenerator := false, isCoroutine := false }

/-! ### no exception leaves a def -/
abbrev E0 : XK := fun _ _ _ => False
/-! ### a def (or method) of the text as it stands behind the top -/
structure Fun (K : PySem.W.Frag) (x qual : Str) (st : Stmt) (f : Addr) (fd : FuncData) : Prop where
  ex : ∃ (oc : Value) (od : Option Addr) (kV doc pm : Value) (an : Option Addr) (cdv ct : Value) (osl : Array (Option Value)),
    fd = PySem.W.fnOf x qual (defArgs st) (defBody st) (defScope st) .none kV doc pm an cdv ct ∧ K.lookup f = some ⟨oc, od, .func fd, osl⟩ ∧ PySem.W.codeIn K cdv qual = true
  kp : PySem.W.keepIn K (.ref f) = true
section
variable {P : Program} {w : World} {K : PySem.W.Frag} {mg : Str → Option Value} {base : Heap}
/-- how its arguments bind (no defaults): h is «fun _ _ _ _ _ _ us hl => match us, hl with | [_, _], _ => rfl», one _ a parameter -/
theorem Fun.binds {x qual : Str} {st : Stmt} {f : Addr} {fd : FuncData} {ps : List Str} (F : Fun K x qual st f fd)
    (h : ∀ (kV doc pm : Value) (an : Option Addr) (cdv ct : Value) (us : List Value), us.length = ps.length → bindArgs (PySem.W.fnOf x qual (defArgs st) (defBody st) (defScope st) .none kV doc pm an cdv ct) ⟨us, []⟩ = pure (ps.zip us)) : Binds K fd ps [] := by
  obtain ⟨oc, od, kV, doc, pm, an, cdv, ct, osl, rfl, lk, hcd⟩ := F.ex
  exact .all (h kV doc pm an cdv ct)
theorem fun_mk {x qual : Str} {st : Stmt} {f : Addr} {oc : Value} {od an : Option Addr} {osl : Array (Option Value)} {kV doc pm cdv ct : Value} (l : K.lookup f = some ⟨oc, od, .func (PySem.W.fnOf x qual (defArgs st) (defBody st) (defScope st) .none kV doc pm an cdv ct), osl⟩)
    (c : PySem.W.codeIn K cdv qual = true) (k : PySem.W.keepIn K (.ref f) = true) : Fun K x qual st f (PySem.W.fnOf x qual (defArgs st) (defBody st) (defScope st) .none kV doc pm an cdv ct) := ⟨⟨oc, od, kV, doc, pm, an, cdv, ct, osl, rfl, l, c⟩, k⟩
end
theorem small1000 {n : Nat} (h : n ≤ 1000) : n < sizeLine := Nat.lt_of_le_of_lt h (by decide)

/-! ### expressions in short: the name that stands in the i-th slot -/
section
variable {X : Cx}
theorem pv (i : Nat) {x : Str} {pos : Pos} (hN : X.N[i]? = some x := by rfl) (hv : Vis X.env.scope x := by first | exact Or.inl rfl | exact Or.inr (Or.inl rfl) | exact Or.inr (Or.inr rfl)) (hd : (x == ("__debug__" : Str)) = false := by decide)
    (hcd : (x == ("__classdict__" : Str)) = false := by decide) : PE X (.Name x pos) (tVar i) := pe_var hN hv hd hcd
end

/-! ### tests -/
theorem iteF {A B : Prop} (h : B) : if false = true then A else B := by
  rw [if_neg Bool.false_ne_true]
  exact h
theorem iteT {A B : Prop} (h : A) : if true = true then A else B := by
  rw [if_pos rfl]
  exact h
theorem ite2 {c A B : Prop} [Decidable c] (h1 : c → A) (h2 : ¬ c → B) : if c then A else B := by
  by_cases h : c
  · rw [if_pos h]
    exact h1 h
  · rw [if_neg h]
    exact h2 h
/-! ### heaps -/
/-- all that was tracked is as it was -/
def Same (H H' : Hp) : Prop := ∀ b o, H b = some o → H' b = some o
end L2

namespace L2
open PySem PySem.Spec PyProof.Rows
section
variable {X : Cx}
end
section
variable {κ : Type} [DecidableEq κ]
end
end L2

set_option Elab.async false
set_option linter.all false
set_option maxRecDepth 100000

/-! ## Exceptions over the hand layer: raised, passed on through frames, taken by a try -/
namespace L2
open PySem PySem.Spec PyProof.Rows

/-- the newest traceback entry of the record vs, its flight by F -/
def XHead (h : Heap) (G : Addr → Prop) (ea : Addr) (vs : Array Value) (F : Value → Prop) : Prop :=
  ∃ T oT ts fl, vs[1]? = some (.ref T) ∧ T ≠ ea ∧ h.get? T = some oT ∧ oT.data = .fields ts ∧ ts[3]? = some fl ∧ F fl ∧ G T
/-- made with one text, outside of an except: its argument, no context -/
def Pln (h : Heap) (G : Addr → Prop) (vs : Array Value) : Prop :=
  ∃ t ot n y k, vs[0]? = some (.ref t) ∧ vs[2]? = some .none ∧ h.get? t = some ot ∧ ot.cls = .type "tuple" ∧ ot.data = .seq #[.str y k] n ∧ G t
theorem Pln.imp {h : Heap} {G G' : Addr → Prop} {vs : Array Value} (x : Pln h G vs) (hG : ∀ b, G b → G' b) : Pln h G' vs := by
  obtain ⟨t, ot, n, y, k, a, b, c, d, e, f⟩ := x
  exact ⟨t, ot, n, y, k, a, b, c, d, e, hG _ f⟩
theorem Pln.set1 {h : Heap} {G : Addr → Prop} {vs : Array Value} {v : Value} (x : Pln h G vs) : Pln h G (vs.setIfInBounds 1 v) := by
  obtain ⟨t, ot, n, y, k, a, b, c, d, e, f⟩ := x
  exact ⟨t, ot, n, y, k, by rw [Array.getElem?_setIfInBounds_ne (by decide)]; exact a, by rw [Array.getElem?_setIfInBounds_ne (by decide)]; exact b, c, d, e, f⟩
theorem Pln.move {h h' : Heap} {G : Addr → Prop} {vs : Array Value} (x : Pln h G vs) {S : List Addr} (hr : ∀ b ∈ S, ∀ o, h.get? b = some o → ∃ vs, o.data = .fields vs) (hs : ∀ b o, b ∉ S → h.get? b = some o → ∃ sl, h'.get? b = some { o with slots := sl }) : Pln h' G vs := by
  obtain ⟨t, ot, n, y, k, a, b, c, d, e, f⟩ := x
  obtain ⟨sl, q⟩ := hs t ot (fun z => by obtain ⟨_, w⟩ := hr t z ot c; rw [e] at w; cases w) c
  exact ⟨t, _, n, y, k, a, b, q, d, e, f⟩
/-- an exception of class C stands at ea; o: none where it is plain -/
def XObj (h : Heap) (G : Addr → Prop) (ea : Addr) (C : Value) (o : Option Addr) (P : Array Value → Prop) : Prop :=
  ∃ oe vs, h.get? ea = some oe ∧ (oe.cls = C ∧ oe.dict = none) ∧ oe.data = .fields vs ∧ 1 < vs.size ∧ G ea ∧ (o = none → Pln h G vs) ∧ P vs
theorem dict_mapFields (o : Obj) (f : Array Value → Array Value) : (o.mapFields f).dict = o.dict := by
  obtain ⟨c, d, dt, sl⟩ := o; cases dt <;> rfl
/-- in the frame at L: just made, come out of a callee, or noted here already -/
abbrev XRaw (h : Heap) (G : Addr → Prop) (L ea : Addr) (C : Value) (o : Option Addr) : Prop :=
  XObj h G ea C o fun vs => vs[1]? = some .none ∨ XHead h G ea vs fun fl => fl = .none ∨ fl = rawInt L
/-- noted, its flight fl -/
abbrev XOn (h : Heap) (G : Addr → Prop) (ea : Addr) (C fl : Value) (o : Option Addr) : Prop := XObj h G ea C o fun vs => XHead h G ea vs fun f => f = fl

theorem XObj.imp {h : Heap} {G G' : Addr → Prop} {ea : Addr} {C : Value} {o : Option Addr} {P P' : Array Value → Prop} (x : XObj h G ea C o P) (hG : ∀ b, G b → G' b) (hP : ∀ vs, P vs → P' vs) : XObj h G' ea C o P' := by
  obtain ⟨oe, vs, a, b, c, d, e, g, f⟩ := x
  exact ⟨oe, vs, a, b, c, d, hG _ e, fun z => (g z).imp hG, hP _ f⟩
theorem XHead.imp {h : Heap} {G G' : Addr → Prop} {ea : Addr} {vs : Array Value} {F F' : Value → Prop} (x : XHead h G ea vs F) (hG : ∀ b, G b → G' b) (hF : ∀ v, F v → F' v) : XHead h G' ea vs F' := by
  obtain ⟨T, oT, ts, fl, a, b, c, d, e, f, g⟩ := x
  exact ⟨T, oT, ts, fl, a, b, c, d, e, hF _ f, hG _ g⟩
theorem XOn.raw {h : Heap} {G G' : Addr → Prop} {L ea : Addr} {C : Value} {o : Option Addr} (x : XOn h G ea C .none o) (hG : ∀ b, G b → G' b) : XRaw h G' L ea C o :=
  XObj.imp x hG fun _ y => .inr (XHead.imp y hG fun _ z => .inl z)

/-- records of S have turned, slots of the frames fs, and new ones have come; all else stands -/
structure XTurn (fs : List Addr) (G : Addr → Prop) (h h' : Heap) (S : List Addr) : Prop where
  recs : ∀ b ∈ S, G b ∧ ∀ o, h.get? b = some o → ∃ vs, o.data = .fields vs
  keep : ∀ b o, b ∉ fs → b ∉ S → h.get? b = some o → h'.get? b = some o
  slot : ∀ b o, b ∉ S → h.get? b = some o → ∃ sl, h'.get? b = some { o with slots := sl }
  there : ∀ b o, h.get? b = some o → ∃ o', h'.get? b = some o'
theorem XTurn.trans {fs : List Addr} {G : Addr → Prop} {h h1 h2 : Heap} {S S' : List Addr} (x : XTurn fs G h h1 S) (y : XTurn fs G h1 h2 S') : XTurn fs G h h2 (S ++ S') where
  recs := fun b hb => by
    rcases List.mem_append.mp hb with q | q
    · exact x.recs b q
    · refine ⟨(y.recs b q).1, fun o ho => ?_⟩
      by_cases hS : b ∈ S
      · exact (x.recs b hS).2 o ho
      · obtain ⟨sl, e⟩ := x.slot b o hS ho
        obtain ⟨vs, e2⟩ := (y.recs b q).2 _ e
        exact ⟨vs, e2⟩
  keep := fun b o hf hb e => y.keep b o hf (fun z => hb (List.mem_append_right _ z)) (x.keep b o hf (fun z => hb (List.mem_append_left _ z)) e)
  slot := fun b o hb e => by
    obtain ⟨sl, e1⟩ := x.slot b o (fun z => hb (List.mem_append_left _ z)) e
    obtain ⟨sl', e2⟩ := y.slot b _ (fun z => hb (List.mem_append_right _ z)) e1
    exact ⟨sl', e2⟩
  there := fun b o e => by
    obtain ⟨o1, e1⟩ := x.there b o e
    exact y.there b o1 e1
theorem XTurn.refl {fs : List Addr} {G : Addr → Prop} {h : Heap} : XTurn fs G h h [] :=
  ⟨fun b hb => (by simp at hb), fun _ _ _ _ e => e, fun _ o _ e => ⟨o.slots, e⟩, fun _ o e => ⟨o, e⟩⟩
theorem XTurn.mono {fs fs' : List Addr} {G : Addr → Prop} {h h' : Heap} {S : List Addr} (x : XTurn fs G h h' S) (hf : ∀ b, b ∈ fs → b ∈ fs') : XTurn fs' G h h' S :=
  ⟨x.recs, fun b o hb hS e => x.keep b o (fun z => hb (hf b z)) hS e, x.slot, x.there⟩

section
variable {M : Model} {A : Around} {E : Value → Shared → Prop} {s : Shared} {base : Heap} {env : Env} {outer : List Env} {L ea : Addr} {C : Value} {oo : Option Addr} {G : Addr → Prop} {Q : Unit → Shared → Prop}

theorem x_entry {oe : Obj} {vs : Array Value} {head : Value} {hadNext : Bool} (hfr : A.frames = some (env :: outer)) (hl : s.heap.FunFrames base (env :: outer)) (hf : env.frame = some L)
    (he : s.heap.get? ea = some oe) (hd : oe.data = .fields vs) (hsz : 1 < vs.size)
    (h : ∀ (h' : Heap) (T : Addr) (oT : Obj) (ts : Array Value), s.heap.objs.size ≤ T → (∀ b o, b ∉ frs (env :: outer) → b ≠ ea → s.heap.get? b = some o → h'.get? b = some o) →
      (∀ b o, b ≠ ea → s.heap.get? b = some o → ∃ sl, h'.get? b = some { o with slots := sl }) →
      (∃ oe', h'.get? ea = some oe' ∧ (oe'.cls = oe.cls ∧ oe'.dict = oe.dict) ∧ oe'.data = .fields (vs.setIfInBounds 1 (.ref T))) → h'.get? T = some oT → oT.data = .fields ts → ts[3]? = some (rawInt L) → Q () { s with heap := h' }) :
    wpAny M A (do let a ← frameOf env; let pl ← entryPlaceOf L hadNext; let b ← EntryCells.newEntry head a .none (rawInt L) .none pl; setField (.ref ea) 1 b) Q E s := by
  have hne : ea ∉ frs (env :: outer) := fun hm => by
    obtain ⟨_, o, ho, hnf⟩ := hl.mem hm
    rw [he] at ho; cases ho; exact hnf vs hd
  refine wpAny_bind (wpAny_frameOf_fun hfr hl hf fun h1 hs => ?_)
  refine wpAny_bind (wpAny_entryPlaceOf fun pl hpl => ?_)
  unfold EntryCells.newEntry newFields
  refine wpAny_bind (wpAny_newObj_type ?_ (hpl.sizeOk5 _ _ _ _ _))
  have he1 : h1.get? ea = some oe := (hs.2.1 ea hne).trans he
  have hea : ea ≠ h1.objs.size := Nat.ne_of_lt (Heap.lt_size he1)
  refine wpAny_setField (Heap.get?_push_of_some _ he1) hd hsz (h _ h1.objs.size _ _ (by rw [hs.1]; exact Nat.le_refl _) (fun b o hb hbe e => ?_) (fun b o hbe e => ?_) ⟨_, Heap.get?_update_self _ (Heap.get?_push_of_some _ he1) (Obj.isFreed_of_fields (Obj.data_mapFields hd _)), ⟨Obj.cls_mapFields _ _, dict_mapFields _ _⟩, Obj.data_mapFields hd _⟩
    ((Heap.get?_update_other _ _ hea).trans (Heap.get?_push_size h1 rfl)) rfl (by first | (simp; done) | (rcases hpl with rfl | ⟨_, _, _, _, _, _, _, rfl⟩ <;> simp)))
  · rw [Heap.get?_update_other _ _ (Ne.symm hbe)]
    exact Heap.get?_push_of_some _ ((hs.2.1 b hb).trans e)
  · obtain ⟨sl, q⟩ := hs.2.2 b o e
    refine ⟨sl, ?_⟩
    rw [Heap.get?_update_other _ _ (Ne.symm hbe)]
    exact Heap.get?_push_of_some _ q

theorem x_note (hfr : A.frames = some (env :: outer)) (hl : s.heap.FunFrames base (env :: outer)) (hf : env.frame = some L) (hG : ∀ b, s.heap.objs.size ≤ b → G b) (x : XRaw s.heap G L ea C oo)
    (h : ∀ (h' : Heap) (S : List Addr), XTurn (frs (env :: outer)) G s.heap h' S → XOn h' G ea C (rawInt L) oo → Q () { s with heap := h' }) : wpAny M A (noteFrame (.ref ea) env) Q E s := by
  obtain ⟨oe, vs, he, hc, hd, hsz, hg, pl, x⟩ := x
  unfold noteFrame
  simp only [hf]
  rcases x with x | ⟨T, oT, ts, fl, h1, hne, hT, hdT, h3, hfl, gT⟩
  · refine wpAny_bind (wpAny_field he hd x ?_)
    rw [if_neg (by decide)]
    refine x_entry hfr hl hf he hd hsz fun h' T oT ts lT hk hs ⟨oe', q1, q2, q3⟩ hT hdT h3 => h h' [ea] ⟨fun b hb => ?_, fun b o hb hS e => hk b o hb (fun z => hS (by simp [z])) e, fun b o hS e => hs b o (fun z => hS (by simp [z])) e, fun b o e => ?_⟩
      ⟨oe', _, q1, ⟨q2.1.trans hc.1, q2.2.trans hc.2⟩, q3, by simpa using hsz, hg, fun z => ((pl z).move (S := [ea]) (fun b hb o e => by
        obtain rfl : b = ea := by simpa using hb
        rw [he] at e; cases e; exact ⟨vs, hd⟩) fun b o hS e => hs b o (fun z => hS (by simp [z])) e).set1, T, oT, ts, _, by simp [hsz], ?_, hT, hdT, h3, rfl, hG T lT⟩
    · obtain rfl : b = ea := by simpa using hb
      exact ⟨hg, fun o e => by rw [he] at e; cases e; exact ⟨vs, hd⟩⟩
    · by_cases z : b = ea
      · subst z; exact ⟨_, q1⟩
      · obtain ⟨sl, q⟩ := hs b o z e
        exact ⟨_, q⟩
    · exact Nat.ne_of_gt (Nat.lt_of_lt_of_le (Heap.lt_size he) lT)
  · refine wpAny_bind (wpAny_field he hd h1 ?_)
    rw [if_pos (show (Value.ref T != Value.none) = true from by simp)]
    refine wpAny_bind (wpAny_field hT hdT h3 ?_)
    by_cases e : fl = rawInt L
    · rw [if_pos (show (fl == rawInt L) = true by rw [e]; exact beq_self_eq_true _)]
      exact wpAny_pure (h s.heap [] XTurn.refl ⟨oe, vs, he, hc, hd, hsz, hg, pl, T, oT, ts, fl, h1, hne, hT, hdT, h3, e, gT⟩)
    · rw [if_neg (show ¬ ((fl == rawInt L) = true) from fun z => e (by simpa using z))]
      refine wpAny_bind (wpAny_setField hT hdT (Array.getElem?_eq_some_iff.mp h3).1 ?_)
      have oth : ∀ b, b ≠ T → (s.heap.update T (Obj.mapFields (·.setIfInBounds 3 Value.none))).get? b = s.heap.get? b := fun b hb => Heap.get?_update_other _ _ (Ne.symm hb)
      have selfT : (s.heap.update T (Obj.mapFields (·.setIfInBounds 3 Value.none))).get? T = some (Obj.mapFields (·.setIfInBounds 3 Value.none) oT) := Heap.get?_update_self _ hT (Obj.isFreed_of_fields (Obj.data_mapFields hdT _))
      have hl' : (s.heap.update T (Obj.mapFields (·.setIfInBounds 3 Value.none))).FunFrames base (env :: outer) := hl.of_keeps fun b o hb hnf => ⟨o, (oth b (by rintro rfl; rw [hT] at hb; cases hb; exact hnf ts hdT)).trans hb, rfl⟩
      refine x_entry (s := { s with heap := s.heap.update T (Obj.mapFields (·.setIfInBounds 3 Value.none)) }) hfr hl' hf ((oth ea (Ne.symm hne)).trans he) hd hsz fun h' T' oT' ts' lT hk hs ⟨oe', q1, q2, q3⟩ hT' hdT' h3' => ?_
      have lT : s.heap.objs.size ≤ T' := by
        have z : (s.heap.update T (Obj.mapFields (·.setIfInBounds 3 Value.none))).objs.size ≤ T' := lT
        rwa [Heap.size_after_update] at z
      refine h h' [ea, T] ⟨fun b hb => ?_, fun b o hb hS e => ?_, fun b o hS e => ?_, fun b o e => ?_⟩ ⟨oe', _, q1, ⟨q2.1.trans hc.1, q2.2.trans hc.2⟩, q3, by simpa using hsz, hg, fun z => ((pl z).move (S := [ea, T]) (fun b hb o e => by
        rcases List.mem_cons.mp hb with rfl | hb
        · rw [he] at e; cases e; exact ⟨vs, hd⟩
        · obtain rfl : b = T := by simpa using hb
          rw [hT] at e; cases e; exact ⟨ts, hdT⟩) fun b o hS e => hs b o (fun z => hS (by simp [z])) ((oth b fun z => hS (by simp [z])).trans e)).set1, T', oT', ts', _, by simp [hsz], ?_, hT', hdT', h3', rfl, hG T' lT⟩
      · rcases List.mem_cons.mp hb with rfl | hb
        · exact ⟨hg, fun o e => by rw [he] at e; cases e; exact ⟨vs, hd⟩⟩
        · obtain rfl : b = T := by simpa using hb
          exact ⟨gT, fun o e => by rw [hT] at e; cases e; exact ⟨ts, hdT⟩⟩
      · exact hk b o hb (fun z => hS (by simp [z])) ((oth b fun z => hS (by simp [z])).trans e)
      · exact hs b o (fun z => hS (by simp [z])) ((oth b fun z => hS (by simp [z])).trans e)
      · by_cases z : b = ea
        · subst z; exact ⟨_, q1⟩
        · by_cases z2 : b = T
          · subst z2
            obtain ⟨sl, q⟩ := hs b _ z selfT
            exact ⟨_, q⟩
          · obtain ⟨sl, q⟩ := hs b o z ((oth b z2).trans e)
            exact ⟨_, q⟩
      · exact Nat.ne_of_gt (Nat.lt_of_lt_of_le (Heap.lt_size he) lT)

theorem x_flight {fs : List Addr} {fl : Value} (x : XOn s.heap G ea C fl oo)
    (h : ∀ (h' : Heap) (S : List Addr), XTurn fs G s.heap h' S → XOn h' G ea C .none oo → Q () { s with heap := h' }) : wpAny M A (setFlight (.ref ea) none) Q E s := by
  obtain ⟨oe, vs, he, hc, hd, hsz, hg, pl, T, oT, ts, fl, h1, hne, hT, hdT, h3, hfl, gT⟩ := x
  have hs3 : 3 < ts.size := (Array.getElem?_eq_some_iff.mp h3).1
  unfold setFlight
  refine wpAny_bind (wpAny_field he hd h1 ?_)
  rw [if_pos (show (Value.ref T != Value.none) = true from by simp)]
  have oth : ∀ b, b ≠ T → (s.heap.update T (Obj.mapFields (·.setIfInBounds 3 ((none : Option Addr).elim Value.none fun f => rawInt f)))).get? b = s.heap.get? b := fun b hb => Heap.get?_update_other _ _ (Ne.symm hb)
  have selfT : (s.heap.update T (Obj.mapFields (·.setIfInBounds 3 ((none : Option Addr).elim Value.none fun f => rawInt f)))).get? T = some (Obj.mapFields (·.setIfInBounds 3 ((none : Option Addr).elim Value.none fun f => rawInt f)) oT) :=
    Heap.get?_update_self _ hT (Obj.isFreed_of_fields (Obj.data_mapFields hdT _))
  refine wpAny_setField hT hdT hs3 (h _ [T] ⟨fun b hb => ?_, fun b o _ hS e => (oth b fun z => hS (by simp [z])).trans e, fun b o hS e => ⟨o.slots, (oth b fun z => hS (by simp [z])).trans e⟩, fun b o e => ?_⟩
    ⟨oe, vs, (oth ea (Ne.symm hne)).trans he, hc, hd, hsz, hg, fun z => (pl z).move (S := [T]) (fun b hb o e => by
      obtain rfl : b = T := by simpa using hb
      rw [hT] at e; cases e; exact ⟨ts, hdT⟩) fun b o hS e => ⟨o.slots, (oth b fun z => hS (by simp [z])).trans e⟩, T, _, _, _, h1, hne, selfT, Obj.data_mapFields hdT _, by simp [hs3], rfl, gT⟩)
  · obtain rfl : b = T := by simpa using hb
    exact ⟨gT, fun o e => by rw [hT] at e; cases e; exact ⟨ts, hdT⟩⟩
  · by_cases z : b = T
    · subst z; exact ⟨_, selfT⟩
    · exact ⟨o, (oth b z).trans e⟩

theorem x_leave (hfr : A.frames = some (env :: outer)) (hl : s.heap.FunFrames base (env :: outer)) (hf : env.frame = some L) (hG : ∀ b, s.heap.objs.size ≤ b → G b) (x : XRaw s.heap G L ea C oo)
    (h : ∀ (h' : Heap) (S : List Addr), XTurn (frs (env :: outer)) G s.heap h' S → XOn h' G ea C .none oo → Q () { s with heap := h' }) : wpAny M A (leaving env (.ref ea)) Q E s := by
  unfold leaving
  refine wpAny_bind (x_note hfr hl hf hG x fun h1 S1 t1 x1 => ?_)
  exact x_flight (s := { s with heap := h1 }) x1 fun h2 S2 t2 x2 => h h2 _ (t1.trans t2) x2
end

/-! ### within a body -/
theorem ObjOk.obj {P : Program} {w : World} {H : Hp} {h : Heap} {a : Addr} {o : HO} (x : ObjOk P w H h a o) : ∃ ob, h.get? a = some ob := by
  cases o with
  | lst xs => obtain ⟨_, _, _, _, e⟩ := x; exact ⟨_, e⟩
  | tup xs => obtain ⟨_, _, _, p⟩ := x; obtain ⟨ob, e, _⟩ := p; exact ⟨_, e⟩
  | dK kvs => obtain ⟨_, _, _, _, o, _, _, e, _⟩ := x; exact ⟨_, e⟩
  | dT kvs => obtain ⟨_, _, _, _, o, _, _, e, _⟩ := x; exact ⟨_, e⟩
  | set S n => obtain ⟨o, _, _, _, e, _⟩ := x; exact ⟨_, e⟩
  | ins C dx fs => obtain ⟨_, _, _, e, _⟩ := x; exact ⟨_, e⟩
  | own y => exact x
  | xd fs => obtain ⟨_, ⟨_, _, _, e, _⟩, _⟩ := x; exact ⟨_, e⟩
  | rng lo hi => obtain ⟨_, _, _, e⟩ := x; exact ⟨_, e⟩
  | frz ob u => obtain ⟨e, _⟩ := x; exact ⟨_, e⟩
  | tbl ps => exact ⟨_, show h.get? a = some _ from x⟩
  | met f y => exact ⟨_, show h.get? a = some _ from x⟩
  | ext φ => obtain ⟨_, e, _⟩ := x; exact e
/-- an address that an exception's records may have -/
def Gx (X : Cx) (pins : List (Addr × Obj)) (H : Hp) (b : Addr) : Prop := X.s₀.heap.get? b = none ∧ H b = none ∧ ∀ p ∈ X.pn ++ pins, p.1 ≠ b
section
variable {X : Cx} {pins : List (Addr × Obj)} {σ : St} {H : Hp} {s : Shared}
theorem Inv.gx (I : Inv X pins σ H s) (hex : X.ex = []) : ∀ b, s.heap.get? b = none → Gx X pins H b := fun b hb => by
  refine ⟨?_, ?_, fun p hp z => ?_⟩
  · cases e : X.s₀.heap.get? b with
    | none => rfl
    | some o =>
      obtain ⟨o', e'⟩ := I.base.there b o e (by rw [hex]; simp)
      rw [hb] at e'; cases e'
  · cases e : H b with
    | none => rfl
    | some o =>
      obtain ⟨o', e'⟩ := (I.hok b o e).obj
      rw [hb] at e'; cases e'
  · obtain ⟨e, _⟩ := I.pin p hp
    rw [z, hb] at e; cases e
theorem Inv.gxl (I : Inv X pins σ H s) (hex : X.ex = []) : ∀ b, s.heap.objs.size ≤ b → Gx X pins H b := fun b hb => I.gx hex b (Heap.get?_none_of_le hb)
/-- the records of an exception have turned -/
theorem Inv.turn {h' : Heap} {S : List Addr} (I : Inv X pins σ H s) (t : XTurn (X.env.locals :: X.fs) (Gx X pins H) s.heap h' S) : Inv X pins σ H { s with heap := h' } := by
  have nL : X.env.locals ∉ S := fun z => by
    obtain ⟨m0, ⟨oL, es0, ep0, hoL, hdL, r0⟩, _⟩ := id I.loc
    obtain ⟨vs, e⟩ := (t.recs _ z).2 _ hoL
    rw [hdL] at e; cases e
  have nC : ∀ x c, X.env.cells.lookup x = some c → c ∉ S := fun x c e z => by
    obtain ⟨v, o, ho, hd⟩ := I.cell x c e
    obtain ⟨vs, e⟩ := (t.recs _ z).2 _ ho
    rw [hd] at e; cases e
  have trk : ∀ b u, H b = some u → b ∉ S ∧ b ∉ X.env.locals :: X.fs := fun b u e => by
    refine ⟨fun z => ?_, fun z => ?_⟩
    · rw [(t.recs b z).1.2.1] at e; cases e
    · rcases List.mem_cons.mp z with rfl | z
      · rw [I.free] at e; cases e
      · obtain ⟨_, o, ho, _⟩ := I.ok.funs.mem z
        rw [I.base.free b o ho (I.ok.frf b z) fun q => I.ok.exfs b q z] at e
        cases e
  have nS : ∀ b o, X.s₀.heap.get? b = some o → b ∉ S := fun b o e z => by
    rw [(t.recs b z).1.1] at e; cases e
  have neL : ∀ b o, X.s₀.heap.get? b = some o → b ≠ X.env.locals := fun b o e => Nat.ne_of_lt (Nat.lt_of_lt_of_le (Heap.lt_size e) I.ok.above)
  have cellK : ∀ x c, X.env.cells.lookup x = some c → ∀ v, s.heap.IsCell c v → h'.IsCell c v := fun x c e v ⟨o, ho, hd⟩ => by
    obtain ⟨sl, q⟩ := t.slot c o (nC x c e) ho
    exact ⟨_, q, hd⟩
  refine ⟨I.ok, I.os, I.bare, ⟨fun b o e n hb hx => ?_, fun b o e n hb hx => ?_, I.base.free, fun b o e hx => ?_, I.base.tups, I.base.frzs, I.base.tbls⟩, ?_, fun x c e => ?_, I.free, I.freeC, fun p hp => ?_, fun b u e => ?_, I.len⟩
  · exact t.keep b o (fun z => (List.mem_cons.mp z).elim (neL b o e) hb) (nS b o e) (I.base.keep b o e n hb hx)
  · obtain ⟨sl, e1⟩ := I.base.slot b o e n hb hx
    obtain ⟨sl', e2⟩ := t.slot b _ (nS b o e) e1
    exact ⟨sl', e2⟩
  · obtain ⟨o', e1⟩ := I.base.there b o e hx
    exact t.there b o' e1
  · obtain ⟨m, ⟨o, es, ep, ho, r⟩, hl⟩ := I.loc
    obtain ⟨sl, q⟩ := t.slot _ o nL ho
    refine ⟨m, ⟨_, es, ep, q, r⟩, fun i x v e1 e2 e3 => ?_⟩
    obtain ⟨u, r, l⟩ := hl i x v e1 e2 e3
    refine ⟨u, r, ?_⟩
    rcases l with l | ⟨k, c, e, z⟩
    · exact .inl l
    · exact .inr ⟨k, c, e, cellK x c e _ z⟩
  · obtain ⟨v, z⟩ := I.cell x c e
    exact ⟨v, cellK x c e v z⟩
  · obtain ⟨e, n, ne, nf, d⟩ := I.pin p hp
    exact ⟨t.keep p.1 p.2 (fun z => (List.mem_cons.mp z).elim ne nf) (fun z => (t.recs p.1 z).1.2.2 p hp rfl) e, n, ne, nf, d⟩
  · refine (I.hok b u e).stay (fun c v hc q => ?_) (fun _ q => q) fun _ _ q => q
    rcases hc with rfl | hc
    · exact t.keep c v (trk c _ e).2 (trk c _ e).1 q
    · exact t.keep c v (trk c _ hc).2 (trk c _ hc).1 q
end

/-- how an exception lies behind a call -/
def CX1 (P : Program) (w : World) : CXT := fun outer H s E e s' => ∃ (ea : Addr) (C : Value) (o : Option Addr) (H' : Hp), e = .ref ea ∧ s'.os = s.os ∧ AllBare s'.gens ∧ Un (frs outer) [] H H' s.heap s'.heap ∧ HOk P w H' s'.heap ∧
  XOn s'.heap (fun b => s.heap.get? b = none ∧ H' b = none) ea C .none o ∧ E C o H'
/-- the context lets an exception out for which E holds -/
def Lets (X : Cx) (E : XK) : Prop := ∀ (pins : List (Addr × Obj)) (σ : St) (H : Hp) (s : Shared) (ea : Addr) (C : Value) (o : Option Addr), Inv X pins σ H s → XRaw s.heap (Gx X pins H) X.env.locals ea C o → E C o H → X.xe (.ref ea) s

theorem cx1_inv {X : Cx} {pins : List (Addr × Obj)} {σ : St} {H : Hp} {s s' : Shared} {e : Value} {E : XK} (hex : X.ex = []) (I : Inv X pins σ H s) (h : CX1 X.prog X.w X.stack H s E e s') :
    ∃ ea C o H', e = .ref ea ∧ Inv X pins σ H' s' ∧ XRaw s'.heap (Gx X pins H') X.env.locals ea C o ∧ E C o H' := by
  obtain ⟨ea, C, o, H', rfl, ho, hb, u, hok, x, q⟩ := h
  refine ⟨ea, C, o, H', rfl, I.call' (ch := []) ho u hok hb (fun b z => absurd z (by simp)), ?_, q⟩
  exact XOn.raw x fun b ⟨h1, h2⟩ => ⟨(I.gx hex b h1).1, h2, (I.gx hex b h1).2.2⟩
theorem pass1 {X : Cx} {E : XK} (hex : X.ex = []) (h : Lets X E) : Passes (CX1 X.prog X.w) X E := fun pins σ H s e s' I c => by
  obtain ⟨ea, C, o, H', rfl, I', x, q⟩ := cx1_inv hex I c
  exact h pins σ H' s' ea C o I' x q
theorem passN {X : Cx} : Passes (CX1 X.prog X.w) X E0 := fun pins σ H s e s' I c => by
  obtain ⟨ea, C, o, H', rfl, _, _, _, _, _, q⟩ := c
  exact q.elim
theorem lets1 {P : Program} {w : World} {K : PySem.W.Frag} {mg : Str → Option Value} {base : Heap} {N : List Str} {qual : Str} {scope : Scope} {f : Addr} {cd : Value} {A : Around} {outer : List Env} {s : Shared} {H : Hp} {E : XK} :
    Lets (cxOf (CX1 P w) P w K mg base N qual scope f cd A outer s H E) E := fun pins σ H1 s1 ea C o I x q => by
  show wpAny _ _ (leaving _ (.ref ea)) _ _ s1
  refine x_leave (base := base) (L := s.heap.objs.size) I.ok.frames I.stack rfl (I.gxl rfl) x fun h' S t x' => ?_
  have I2 := I.turn t
  exact ⟨ea, C, o, H1, rfl, I2.os, I2.bare, I2.base, I2.hok, XObj.imp x' (fun b z => ⟨z.1, z.2.1⟩) fun _ y => XHead.imp y (fun b z => ⟨z.1, z.2.1⟩) fun _ z => z, q⟩

/-! ### defs: exceptions may leave (okx), or not (ok1) -/
section
variable {P : Program} {w : World} {K : PySem.W.Frag} {mg : Str → Option Value} {base : Heap}
theorem Fun.okx {x qual : Str} {st : Stmt} {f : Addr} {fd : FuncData} {N ps : List Str} {k : Nat} {sp : Sp} (F : Fun K x qual st f fd) (S : FnScope N ps (defScope st)) (len : ∀ vs H Q E, sp vs H Q E → vs.length = ps.length)
    (hbody : ∀ (cdv : Value) (A : Around) (outer : List Env) (s : Shared) (H : Hp) (vs : List V) (Q : VK) (E : XK), Room k (A.deeper (envOfC qual (defScope st) s.heap.objs.size f cdv)) → sp vs H Q E →
      ∃ t, PSs (cxOf (CX1 P w) P w K mg base N qual (defScope st) f cdv A outer s H E) (defBody st) t ∧ t { nx := fun _ H' => Q .non H', rt := Q } (start N vs) H) : FnOk P w K mg base (CX1 P w) (k + 1) f fd ps sp := by
  obtain ⟨oc, od, kV, doc, pm, an, cdv, ct, osl, rfl, lk, hcd⟩ := F.ex
  exact fn_of lk hcd S len fun A outer s H vs Q E hr h => hbody cdv A outer s H vs Q E hr h
theorem Fun.ok1 {x qual : Str} {st : Stmt} {f : Addr} {fd : FuncData} {N ps : List Str} {k : Nat} {sp : Sp} (F : Fun K x qual st f fd) (S : FnScope N ps (defScope st)) (len : ∀ vs H Q E, sp vs H Q E → vs.length = ps.length)
    (hbody : ∀ (cdv : Value) (A : Around) (outer : List Env) (s : Shared) (H : Hp) (vs : List V) (Q : VK) (E : XK), Room k (A.deeper (envOfC qual (defScope st) s.heap.objs.size f cdv)) → sp vs H Q E →
      ∃ t, PSs (cxOf (CX1 P w) P w K mg base N qual (defScope st) f cdv A outer s H E).nox (defBody st) t ∧ t { nx := fun _ H' => Q .non H', rt := Q } (start N vs) H) : FnOk P w K mg base (CX1 P w) (k + 1) f fd ps sp :=
  F.okx S len fun cdv A outer s H vs Q E hr h => by
    obtain ⟨t, ht, q⟩ := hbody cdv A outer s H vs Q E hr h
    exact ⟨t, ht.nox, q⟩
end
end L2

set_option Elab.async false
set_option linter.all false
set_option maxRecDepth 100000
namespace L2
open PySem PySem.Spec PyProof.Rows

/-! ### own exception classes -/
/-- what the written part says of an own error class, at any heap that holds it -/
theorem exc_obj {K : PySem.W.Frag} {C : Addr} {bmB : List Value} {newId : String} (q : PySem.W.excIn K C bmB newId = true) :
    ∃ (bm : List Value) (N : Addr) (nm qn : Str) (bs : List Value) (hd : Bool) (sn : List Str) (sub : List Value) (ab : Bool) (col : Option Bool) (dd : Option Addr) (k0 k1 k2 k3 k5 : Option Value),
      ∀ h : Heap, K.In h → h.get? C = some (excClassObj nm qn C N bs bm hd sn sub ab col dd k0 k1 k2 k3 k5 newId) ∧ h.isNs N = true ∧ h.nsMap N "__init__" = none ∧ OwnTail h bmB bm := by
  unfold PySem.W.excIn at q
  split at q
  · rename_i dd cd sl ho
    split at q
    · rename_i C' bm k0 k1 k2 k3 n k5 hm hs
      simp only [Bool.and_eq_true, beq_iff_eq, Bool.not_eq_true'] at q
      obtain ⟨⟨⟨⟨⟨rfl, rfl⟩, hdel⟩, ht⟩, hok⟩, hni⟩ := q
      obtain ⟨nm, bs, mro, ns, qn, hd, sn, sub, ab, col, del⟩ := cd
      dsimp only at hm hdel hok hni
      subst hm hdel
      obtain ⟨l⟩ := sl
      simp only at hs
      subst hs
      exact ⟨bm, ns, nm, qn, bs, hd, sn, sub, ab, col, dd, k0, k1, k2, k3, k5, fun h X => ⟨X _ _ ho, PySem.W.isNs_of_in X hok, PySem.W.nsMap_none_of_in X hok hni, PySem.W.tail_of_in X ht⟩⟩
    · cases q
  · cases q

/-- an own error class as the walk asks it: its place, and what stands above it -/
structure Err (K : PySem.W.Frag) (C : Addr) : Prop where
  ex : PySem.W.excIn K C [.type "ValueError", .type "Exception", .type "BaseException", .type "object"] "ValueError.__new__" = true

/-- one text -/
def txt1 : List V → Bool
  | [.str _] => true
  | _ => false
/-- raise C(e) -/
def tRaise (ta : TA) (C : Addr) (E : XK) : TS := fun _ σ H => ta σ H fun xs H1 => xs.length ≤ sizeLine ∧ E (.ref C) (if txt1 xs then none else some 0) H1
section
variable {X : Cx} {x : Str} {C : Addr} {E : XK} {e : Expr} {es : List Expr} {ta : TA} {np cpos pos : Pos}
theorem ps_raise (hex : X.ex = []) (hL : Lets X E) (hh : X.A.handled = none) (c : Err X.K C) (hg : Gl X x) (hm : X.mg x = some (.ref C)) (ha : PA X (e :: es) ta) (hdb : (x == ("__debug__" : Str)) = false := by decide)
    (he : starEach (e :: es) X.env = (false, eval e X.env) :: starEach es X.env := by rfl) (hpl : (backTo cpos (starEach es X.env)).any (·.1) = false := by rfl) :
    PS X (.Raise (some (.Call (.Name x np) (e :: es) [] cpos)) none pos) (tRaise ta C E) := by
  intro pins s σ H D I h
  obtain ⟨bm, N, nm, qn, bs, hd, sn, sub, ab, col, dd, k0, k1, k2, k3, k5, O⟩ := exc_obj c.ex
  obtain ⟨_, o2, o3, _⟩ := O X.base I.mod.kin
  have hN : X.base.Ns N (X.base.nsMap N) := .of_isNs o2
  refine wpAny_Raise_call_subT (C := C) (nm := nm) (q := qn) (N := N) (bs := bs) (bm := bm) (hdct := hd) (sn := sn) (sub := sub) (ab := ab) (col := col) (dd := dd) (k0 := k0) (k1 := k1) (k2 := k2) (k3 := k3) (k5 := k5)
    PySem.F.excBase_ValueError (mN := X.base.nsMap N) ((O X.base I.mod.kin).2.2.2.hasType PySem.F.excBase_ValueError.hasBase) hh (by rw [he]; show (false || (backTo cpos (starEach es X.env)).any (·.1)) = false; rw [hpl]; rfl) o3 (ld_glob I hg hm ⟨rfl, ?_⟩ hdb)
  have h1 := ha cpos pins s σ H _ I h
  rw [he] at h1 ⊢
  refine Calls.evalArgs_plain (wpAny_mono h1 (fun us s2 ⟨xs, H2, I2, r, z, q⟩ => ⟨rfl, by rw [← r.length]; exact z, (O _ I2.kIn).1, hN.keeps I2.bk, (O _ I2.kIn).2.2.2, fun h' e' mk => ?_⟩) fun _ _ y => y)
  obtain ⟨t, he', hnt, ht⟩ := mk.there
  have I3 := I2.kept (t' := s2.toks) mk.keeps
  refine hL pins σ H2 _ e' (.ref C) _ I3 ⟨_, _, he', ⟨rfl, rfl⟩, rfl, by simp, I2.gx hex e' mk.new, fun z => ?_, .inl rfl⟩ q
  split at z
  · rename_i z1
    have : ∃ y, xs = [.str y] := by
      unfold txt1 at z1
      split at z1
      · exact ⟨_, rfl⟩
      · cases z1
    obtain ⟨y, rfl⟩ := this
    obtain ⟨u, rfl, k, rfl⟩ := vals1 r
    exact ⟨t, _, _, y, k, rfl, rfl, ht, rfl, rfl, I2.gx hex t hnt⟩
  · cases z
end

/-! ### an expression within a try: what is wanted of the exception's class and the heap; the frame's values stand -/
abbrev TX := St → Hp → VK → (Value → Hp → Prop) → Prop
def XP (X : Cx) (pins : List (Addr × Obj)) (σ : St) (E : Value → Hp → Prop) (v : Value) (s' : Shared) : Prop :=
  ∃ ea C o H', v = .ref ea ∧ Inv X pins σ H' s' ∧ XRaw s'.heap (Gx X pins H') X.env.locals ea C o ∧ E C H'
def PEx (X : Cx) (e : Expr) (t : TX) : Prop :=
  ∀ (pins : List (Addr × Obj)) (s : Shared) (σ : St) (H : Hp) (Q : VK) (E : Value → Hp → Prop), Inv X pins σ H s → t σ H Q E → wpAny (model X.prog X.w) X.A (eval e X.env) (EP X pins σ Q) (XP X pins σ E) s
section
variable {X : Cx} {k : Nat} {f C : Addr} {fd : FuncData} {ps : List Str} {sp : Sp} {x m : Str} {p pos apos : Pos} {e o : Expr} {es : List Expr} {ta te : TE} {t : TA}
theorem run_fnx {pins : List (Addr × Obj)} {σ : St} {H : Hp} {s : Shared} {Q : VK} {E : Value → Hp → Prop} {us : List Value} {vs : List V} (hex : X.ex = []) (F : FnOk X.prog X.w X.K X.mg X.base (CX1 X.prog X.w) k f fd ps sp) (hr : Room k X.A) (hb : Binds X.K fd ps [])
    (I : Inv X pins σ H s) (r : Vals vs us) (h : sp vs H Q (fun C _ H' => E C H')) : wpAny (model X.prog X.w) X.A (call (.ref f) us) (EP X pins σ Q) (XP X pins σ E) s := by
  have hl : us.length = ps.length := by rw [← r.length]; exact F.len _ _ _ _ h
  have hb1 := hb s us I.kIn (by simpa using hl)
  rw [List.append_nil] at hb1
  refine wpAny_call (codeAny_mono (F.run X.A X.stack s H ⟨us, []⟩ us vs Q (fun C _ H' => E C H') hr I.env0 hb1 r h) fun r s' hq => ?_)
  cases r with
  | error e =>
    obtain ⟨ea, C, o, H', rfl, I', x, q⟩ := cx1_inv (E := fun C _ H' => E C H') (e := e) (s' := s') hex I hq
    exact ⟨ea, C, o, H', rfl, I', x, q⟩
  | ok fl =>
    cases fl with
    | ret u => exact I.after hq
    | next => exact False.elim hq
    | brk => exact False.elim hq
    | cont => exact False.elim hq
def xCall (sp : Sp) (t : TA) : TX := fun σ H Q E => t σ H fun vs H1 => sp vs H1 Q (fun C _ H' => E C H')
theorem pex_call (hex : X.ex = []) (F : FnOk X.prog X.w X.K X.mg X.base (CX1 X.prog X.w) k f fd ps sp) (hr : Room k X.A) (hg : Gl X x) (hm : X.mg x = some (.ref f)) (hk : PySem.W.keepIn X.K (.ref f) = true) (hb : Binds X.K fd ps [])
    (ha : PA X.nox (e :: es) t) (hdb : (x == ("__debug__" : Str)) = false := by decide) (he : starEach (e :: es) X.env = (false, eval e X.env) :: starEach es X.env := by rfl) (hpl : (backTo pos (starEach es X.env)).any (·.1) = false := by rfl) :
    PEx X (.Call (.Name x p) (e :: es) [] pos) (xCall sp t) := by
  intro pins s σ H Q E I h
  refine wpAny_Call_Name_kw (ld_glob I hg hm ?_ hdb)
  refine PySem.W.callWith_K (h₀ := X.base) I.ok.mod.kin hk (wpAny_mono (ha pos pins s σ H _ (I.wish _) h) (fun us s1 ⟨vs, H1, I1, r, q⟩ => ⟨I1.kIn, ?_⟩) fun _ _ z => False.elim z) he hpl
  exact run_fnx hex F hr hb I1.unwish r q
/-- the rows of a try -/
abbrev TSx := Ends → (Value → St → Hp → Prop) → St → Hp → Prop
def PSx (X : Cx) (sts : List Stmt) (t : TSx) : Prop :=
  ∀ (pins : List (Addr × Obj)) (s : Shared) (σ : St) (H : Hp) (D : Ends) (E : Value → St → Hp → Prop), Inv X pins σ H s → t D E σ H →
    wpAny (model X.prog X.w) X.A (execs sts X.env) (SP X pins D) (fun v s' => ∃ σ', XP X pins σ' (fun C H' => E C σ' H') v s') s
def xSet (te : TX) (i : Nat) : TSx := fun D E σ H => te σ H (fun v H1 => D.nx (σ.set i (some v)) H1) (fun C H1 => E C σ H1)
theorem psx_set {i : Nat} {tx : TX} {pos' : Pos} (hN : X.N.Nodup) (hi : X.N[i]? = some x) (hx : Loc X.env.scope x) (he : PEx X e tx) (hs : swapsWith e (some (.Name x pos')) pos.line X.env = pure false := by rfl)
    (hf : X.fn x = true ∨ X.env.scope.names.lookup x = some .local := by first | exact .inl rfl | exact .inr rfl | assumption) : PSx X [.Assign [.Name x pos'] e pos] (xSet tx i) := by
  intro pins s σ H D E I h
  refine wpAny_execs_cons (wpAny_Assign_Name (wpAny_mono (he pins s σ H _ _ I h) (fun v s1 ⟨y, H1, I1, r1, q1⟩ => ?_) (fun v s' q => ⟨σ, q⟩)) hs)
  exact store_ok I1 hN hi hx r1 (fun s2 I2 => wpAny_execs_nil ⟨_, H1, I2, q1⟩) hf
end

/-! ### the suite of an except -/
/-- an exception of the class at C stands at a -/
def ExcIs (a C : Addr) (h : Heap) : Prop := ∃ o vs, h.get? a = some o ∧ (o.cls = .ref C ∧ o.dict = none) ∧ o.data = .fields vs
abbrev HO.exc (a C : Addr) : HO := .ext (ExcIs a C)
/-- within the suite -/
abbrev Cx.held (X : Cx) (ea : Addr) : Cx := { X with A := X.A.mark (some (.ref ea)), calm := false, xe := fun _ _ => False }
section
variable {X : Cx} {pins : List (Addr × Obj)} {σ : St} {H : Hp} {s : Shared} {ea : Addr}
theorem Inv.held (I : Inv X pins σ H s) (ea : Addr) : Inv (X.held ea) pins σ H s :=
  ⟨⟨I.ok.mod, I.ok.kind, I.ok.glob, I.ok.blt, I.ok.above, I.ok.inj, I.ok.has, I.ok.cab, (fun z => nomatch z), I.ok.frames, I.ok.stk, I.ok.exf, I.ok.bs, I.ok.bsz, I.ok.noex, I.ok.exfs, I.ok.funs, I.ok.frf⟩,
    I.os, I.bare, I.base, I.loc, I.cell, I.free, I.freeC, I.pin, I.hok, I.len⟩
theorem Inv.unheld (hd : X.calm = true → X.A.handled = none) (I : Inv (X.held ea) pins σ H s) : Inv X pins σ H s :=
  ⟨⟨I.ok.mod, I.ok.kind, I.ok.glob, I.ok.blt, I.ok.above, I.ok.inj, I.ok.has, I.ok.cab, hd, I.ok.frames, I.ok.stk, I.ok.exf, I.ok.bs, I.ok.bsz, I.ok.noex, I.ok.exfs, I.ok.funs, I.ok.frf⟩,
    I.os, I.bare, I.base, I.loc, I.cell, I.free, I.freeC, I.pin, I.hok, I.len⟩
/-- a record that stands is tracked from here on -/
theorem Inv.track {o : HO} (I : Inv X pins σ H s) (g : Gx X pins H ea) (nL : ea ≠ X.env.locals) (nC : ∀ x c, X.env.cells.lookup x = some c → c ≠ ea) (ok : ObjOk X.prog X.w (upd H ea o) s.heap ea o) : Inv X pins σ (upd H ea o) s := by
  have keep : ∀ b u, H b = some u → upd H ea o b = some u := fun b u e => by
    rw [upd_ne (ne_of_none e g.2.1)]; exact e
  refine ⟨I.ok, I.os, I.bare, ⟨I.base.keep, I.base.slot, fun b ob e n hx => ?_, I.base.there, fun b xs e => keep _ _ (I.base.tups b xs e), fun b ob u e => keep _ _ (I.base.frzs b ob u e), fun b ps e => ?_⟩, I.loc, I.cell, ?_, fun x c e => ?_, fun p hp => ?_, fun b u e => ?_, I.len⟩
  · rw [upd_ne (fun z => by rw [z, g.1] at e; cases e)]
    exact I.base.free b ob e n hx
  · obtain ⟨mo, e1⟩ := I.base.tbls b ps e
    exact ⟨mo, keep _ _ e1⟩
  · rw [upd_ne (Ne.symm nL)]; exact I.free
  · rw [upd_ne (nC x c e)]; exact I.freeC x c e
  · obtain ⟨e, n, r⟩ := I.pin p hp
    exact ⟨e, by rw [upd_ne (g.2.2 p hp)]; exact n, r⟩
  · by_cases hb : b = ea
    · subst hb; rw [upd_same] at e; cases e; exact ok
    · rw [upd_ne hb] at e
      exact (I.hok b u e).stay (fun c v _ q => q) (fun c q => keep _ _ q) fun c xs q => keep _ _ q
end
end L2

set_option Elab.async false
set_option linter.all false
set_option maxRecDepth 100000
namespace L2
open PySem PySem.Spec PyProof.Rows

theorem x_matches {M : Model} {A : Around} {E : Value → Shared → Prop} {s : Shared} {K : PySem.W.Frag} {ea Ce Ch : Addr} {oe : Obj} {Q : Bool → Shared → Prop} (X : K.In s.heap) (c : Err K Ch) (hs : PySem.W.subIn K (.ref Ce) (.ref Ch) = some true)
    (he : s.heap.get? ea = some oe) (hc : oe.cls = .ref Ce) (hq : Q true s) : wpAny M A (excMatches (.ref ea) (.ref Ch)) Q E s := by
  obtain ⟨bm, N, nm, qn, bs, hd, sn, sub, ab, col, dd, k0, k1, k2, k3, k5, O⟩ := exc_obj c.ex
  obtain ⟨hC, _, _, T⟩ := O s.heap X
  obtain ⟨h, g, d, t, os⟩ := s
  have hcB : (Value.ref Ch :: bm).contains (.type "BaseException") = true := by rw [List.contains_cons, T.hasType PySem.F.excBase_ValueError.hasBase, Bool.or_true]
  have LS : PySem.W.Looks M h (isSubtype (.ref Ce) (.ref Ch)) true := PySem.W.looks_subIn X hs
  have f := tc_notTuple
  unfold excMatches
  repeat (first | (with_reducible refine wpAny_loadPart_at he ?_; rw [hc]) | with_reducible refine wpAny_loadPart_at hC ?_ | (with_reducible refine wpAny_isSubtype_exc hC ?_; rw [hcB]) | with_reducible refine LS.at ?_ | wp_step)
  exact hq

/-- .. as a name -/
def tTryAs (tb : TSx) (K : PySem.W.Frag) (Ch : Addr) (j : Nat) (ts : TS) : TS := fun D σ H => tb D (fun C σ' H' => ∃ Ce, C = .ref Ce ∧ PySem.W.subIn K (.ref Ce) (.ref Ch) = some true ∧
  ∀ ea, H' ea = none → ts { nx := fun σ2 H2 => D.nx (σ2.set j none) H2, rt := D.rt, bk := fun σ2 H2 => D.bk (σ2.set j none) H2, ct := fun σ2 H2 => D.ct (σ2.set j none) H2 } (σ'.set j (some (.ref ea))) (upd H' ea (HO.exc ea Ce))) σ H
section
variable {X : Cx} {body : List Stmt} {b0 : Stmt} {suite : List Stmt} {cn n : Str} {Ch : Addr} {np hpos pos : Pos} {tb : TSx} {ts : TS} {j : Nat}
/-- the name of an except goes behind its suite -/
theorem goes_ok {M : Model} {A : Around} {E : Value → Shared → Prop} {pins : List (Addr × Obj)} {σ : St} {H : Hp} {s : Shared} {Q : Unit → Shared → Prop} (I : Inv X pins σ H s) (hN : X.N.Nodup) (hj : X.N[j]? = some n) (hl : X.env.scope.names.lookup n = some .local)
    (h : ∀ s', Inv X pins (σ.set j none) H s' → Q () s') : wpAny M A (do bindName X.env n .none; unbindBehindTheSuite X.env n pos) Q E s := by
  obtain ⟨m, hn, hv⟩ := id I.loc
  obtain ⟨oL, _, _, hoL, _⟩ := id hn
  refine wpAny_nameGoes_keeps hl hn (by rw [I.ok.kind]; rfl) fun h' v hn' hs => h _ ?_
  have nb : ∀ b o, X.s₀.heap.get? b = some o → h'.get? b = s.heap.get? b := fun b o e => hs.2 b (Nat.ne_of_lt (Nat.lt_of_lt_of_le (Heap.lt_size e) I.ok.above))
  refine ⟨I.ok, I.os, I.bare, ⟨fun b o e nn hb hx => ?_, fun b o e nn hb hx => ?_, I.base.free, fun b o e hx => ?_, I.base.tups, I.base.frzs, I.base.tbls⟩, ⟨_, hn', fun i y v' e1 e2 e3 => ?_⟩, fun y c e => ?_, I.free, I.freeC, fun p hp => ?_, fun b ob e => ?_, by simpa using I.len⟩
  · exact (nb b o e).trans (I.base.keep b o e nn hb hx)
  · obtain ⟨sl, e1⟩ := I.base.slot b o e nn hb hx
    exact ⟨sl, (nb b o e).trans e1⟩
  · obtain ⟨o', e1⟩ := I.base.there b o e hx
    exact ⟨o', (nb b o e).trans e1⟩
  · have hij : j ≠ i := fun z => by
      subst z
      rw [List.getElem?_set] at e2
      split at e2
      · split at e2 <;> cases e2
      · rename_i z; exact z rfl
    rw [List.getElem?_set_ne hij] at e2
    obtain ⟨u, r, q⟩ := hv i y v' e1 e2 e3
    refine ⟨u, r, ?_⟩
    have hyn : y ≠ n := fun z => hij (nodup_ix hN hj (z ▸ e1))
    rcases q with ⟨k, e⟩ | ⟨k, c, e, z⟩
    · exact .inl ⟨k, by simp [hyn, e]⟩
    · exact .inr ⟨k, c, e, z.sameBut hs (I.cne y c e)⟩
  · obtain ⟨w', z⟩ := I.cell y c e
    exact ⟨w', z.sameBut hs (I.cne y c e)⟩
  · obtain ⟨e, nn, ne, nf, d⟩ := I.pin p hp
    exact ⟨(hs.2 p.1 ne).trans e, nn, ne, nf, d⟩
  · refine (I.hok b ob e).stay (fun c w' hc q => (hs.2 c ?_).trans q) (fun _ q => q) fun _ _ q => q
    rintro rfl
    rcases hc with z | hc
    · rw [← z, I.free] at e; cases e
    · rw [I.free] at hc; cases hc
theorem ps_try_as (hex : X.ex = []) (hst : X.stack = X.env :: X.outer) (hfm : X.env.frame = some X.env.locals) (c : Err X.K Ch) (hg : Gl X cn) (hm : X.mg cn = some (.ref Ch)) (hN : X.N.Nodup) (hj : X.N[j]? = some n) (hl : X.env.scope.names.lookup n = some .local)
    (hb : PSx X body tb) (hs : ∀ ea, PSs (X.held ea) (b0 :: suite) ts) (hdb : (cn == ("__debug__" : Str)) = false := by decide) :
    PS X (.Try body [.ExceptHandler (some (.Name cn np)) (some n) (b0 :: suite) hpos] [] [] pos) (tTryAs tb X.K Ch j ts) := by
  intro pins s σ H D I h
  refine wpAny_Try_except (wpAny_mono (hb pins s σ H D _ I h) (fun f s1 q => ?_) (fun v s1 ⟨σ', ea, C, oo, H', e, I', x, Ce, hC, hsub, q⟩ => ?_))
  · cases f with
    | next => exact wpAny_execs_nil q
    | brk => exact q
    | cont => exact q
    | ret u => exact q
  · subst e hC
    refine x_note (base := X.base) (L := X.env.locals) (by rw [I'.ok.frames, hst]) (by have := I'.stack; rw [hst] at this; exact this) hfm (I'.gxl hex) x fun h1 S1 t1 x1 => ?_
    have I1 := I'.turn (t1.mono fun b hb => I'.stkSub b (by rw [hst]; exact hb))
    refine x_flight (s := { s1 with heap := h1 }) (fs := []) x1 fun h2 S2 t2 x2 => ?_
    have I2 := I1.turn (t2.mono fun b hb => absurd hb (by simp))
    refine wpAny_handleBy_cons (codeAny_handlers_test (ld_glob (X := X.held ea) (I2.held ea) hg hm ?_ hdb)) (by intro q; cases q)
    obtain ⟨oe, vs, he, hc, hd⟩ := id x2
    refine x_matches I2.kIn c hsub he hc.1 ?_
    refine codeAny_handlers_suite_as ?_
    refine x_flight (s := { s1 with heap := h2 }) (fs := []) x2 fun h3 S3 t3 x3 => ?_
    have I3 := I2.turn (t3.mono fun b hb => absurd hb (by simp))
    obtain ⟨oe3, vs3, he3, hc3, hd3, hz3, g3, _, _⟩ := id x3
    have nL : ea ≠ X.env.locals := fun z => by
      obtain ⟨m0, ⟨oL, _, _, hoL, hdL, _⟩, _⟩ := id I3.loc
      rw [← z] at hoL
      have e := he3.symm.trans hoL
      cases e
      rw [hd3] at hdL; cases hdL
    have nC : ∀ x c, X.env.cells.lookup x = some c → c ≠ ea := fun x c e z => by
      obtain ⟨v, o, ho, hdc⟩ := I3.cell x c e
      rw [z] at ho
      have e := he3.symm.trans ho
      cases e
      rw [hd3] at hdc; cases hdc
    have ok : ObjOk X.prog X.w (upd H' ea (HO.exc ea Ce)) h3 ea (HO.exc ea Ce) :=
      ⟨⟨oe3, vs3, he3, hc3, hd3⟩, ⟨_, he3⟩, fun g1 g2 ⟨o, vs, a, b, c⟩ k => ⟨o, vs, k _ a, b, c⟩⟩
    have I4 := I3.track (o := HO.exc ea Ce) g3 nL nC ok
    refine store_ok (X := X.held ea) (v := .ref ea) (i := j) (I4.held ea) hN hj (.inl hl) rfl (fun s5 I5 => ?_) (.inr hl)
    refine wpAny_mono (hs ea pins s5 _ _ _ I5 (q ea g3.2.1)) (fun f s6 q6 => ?_) fun _ _ z => False.elim z
    cases f with
    | next => obtain ⟨σ6, H6, I6, q6⟩ := q6; exact goes_ok (I6.unheld I.ok.hd) hN hj hl fun s7 I7 => ⟨_, H6, I7, q6⟩
    | brk => obtain ⟨σ6, H6, I6, q6⟩ := q6; exact goes_ok (I6.unheld I.ok.hd) hN hj hl fun s7 I7 => ⟨_, H6, I7, q6⟩
    | cont => obtain ⟨σ6, H6, I6, q6⟩ := q6; exact goes_ok (I6.unheld I.ok.hd) hN hj hl fun s7 I7 => ⟨_, H6, I7, q6⟩
    | ret u => obtain ⟨v6, σ6, H6, I6, r6, q6⟩ := q6; exact goes_ok (I6.unheld I.ok.hd) hN hj hl fun s7 I7 => ⟨v6, _, H6, I7, r6, q6⟩
end
end L2

set_option Elab.async false
set_option linter.all false
set_option maxRecDepth 100000
namespace L2
open PySem PySem.Spec PyProof.Rows

/-! ## Comprehensions over the hand layer -/
/-- the tests of a comprehension -/
def PTs (X : Cx) (ifs : List Expr) (t : TT) : Prop :=
  ∀ (pins : List (Addr × Obj)) (s : Shared) (σ : St) (H : Hp) (Q : Bool → Hp → Prop), Inv X pins σ H s → t σ H Q →
    wpAny (model X.prog X.w) X.A (forIn ifs true fun c r => if r = true then do let ok ← isTrue c X.env (eval c X.env); pure (ForInStep.yield ok) else pure (ForInStep.yield r)) (TP X pins σ Q) X.xe s
def tYes : TT := fun _ H Q => Q true H
theorem pts_nil {X : Cx} : PTs X [] tYes := fun _ _ _ H _ I h => wpAny_tests_nil ⟨H, I, h⟩
theorem pts_one {X : Cx} {c : Expr} {t : TT} (h : PT X c t) : PTs X [c] t := fun pins s σ H Q I hw => wpAny_tests_one (h pins s σ H Q I hw)

/-- the turns of a comprehension: its list stands at D -/
def cLoop (D : Addr) (g : TG) (tc : TT) (te : TE) (J : It) (Q : Hp → Prop) (σ0 : St) (H0 : Hp) : Prop :=
  ∃ W : Nat → Nat → St → Hp → Prop, (∃ m, W 0 m σ0 H0) ∧ ∀ i m σ H, W i m σ H →
    (J.stop i H ∧ Q H) ∨ (J.go i H ∧ ∃ N : St → Hp → Prop, (∀ σ' H', N σ' H' → ∃ m', m' < m ∧ W (i + 1) m' σ' H') ∧ ∀ x H', J.yld i H x H' → g x σ H' fun σ2 H2 => tc σ2 H2 fun b H3 =>
      if b = true then te σ2 H3 fun y H4 => ∃ xs, H4 D = some (.lst xs) ∧ xs.length < sizeLine ∧ N σ2 (upd H4 D (.lst (xs ++ [y]))) else N σ2 H3)

section
variable {X : Cx} {elt tg iter : Expr} {ifs : List Expr} {scope : Scope} {pos : Pos} {g : TG} {tc : TT} {te : TE} {J : It} {fp : List Addr} {it D : Addr} {tn : Nat → Heap → Prop}
/-- the loop of the block, in the block's own context -/
theorem comp_run (hxe : X.xe = fun _ _ => False) (hcalm : X.calm = true) (hg : PG X tg g) (hc : PTs X ifs tc) (he : PE X elt te) (T : Turn X.prog X.w X.K tg J fp it tn) {Q : Hp → Prop} {σ0 : St} {H0 : Hp} {s : Shared} (I : Inv X [] σ0 H0 s)
    (h0 : tn 0 s.heap) (hf : ∀ b ∈ fp, FpOk X [] H0 b) (hl : cLoop D g tc te J Q σ0 H0) :
    codeAny (model X.prog X.w) X.A (.compLoop (.ListComp elt [⟨tg, iter, ifs, 0⟩] scope pos) 0 (.ref it) (.ref D) X.env) (fun r s' => r = .ok .next ∧ ∃ σ' H', Inv X [] σ' H' s' ∧ Q H') s := by
  obtain ⟨W, ⟨m0, w0⟩, turn⟩ := hl
  have stat : ∀ {H' : Hp}, (∀ b ∈ fp, H' b = none) → ∀ b ∈ fp, FpOk X [] H' b := fun hn b hb => ⟨hn b hb, (hf b hb).2⟩
  have lift : ∀ {α : Type} {t : Sem α} {R : α → Shared → Prop} {E : Value → Shared → Prop} {s : Shared}, wpAny (model X.prog X.w) X.A t R X.xe s → wpAny (model X.prog X.w) X.A t R E s := fun {α t R E s} h => wpAny_mono h (fun _ _ x => x) (fun v s' z => by rw [hxe] at z; exact z.elim)
  refine codeAny_loop rfl (fun n s' => ∃ i σ' H', Inv X [] σ' H' s' ∧ tn i s'.heap ∧ (∀ b ∈ fp, H' b = none) ∧ W i n σ' H') (fun n s3 h3 => ?_) m0 ⟨0, σ0, H0, I, h0, fun b hb => (hf b hb).1, w0⟩
  obtain ⟨i, σ3, H3, I3, st3, fr3, w3⟩ := h3
  show wpAny _ X.A ((compTurn (.ListComp elt [⟨tg, iter, ifs, 0⟩] scope pos) 0 (.ref it) (.ref D) X.env).onRaise (fun x => do noteFrame x X.env; theTreesLotGoes x)) _ _ s3
  refine wpAny_noted ?_
  rw [compTurn_list]
  rcases turn i n σ3 H3 w3 with ⟨stop, qn⟩ | ⟨go, N, hN, step⟩
  · refine wpAny_bind (wpAny_standAt (wpAny_bind (lift (thn (T.done X rfl rfl rfl hcalm i [] s3 σ3 H3 X.xe I3 (stat fr3) st3 stop) fun r s4 ⟨hr, I4⟩ => ?_))))
    subst hr
    exact wpAny_pure ⟨rfl, σ3, H3, I4, qn⟩
  · refine wpAny_bind (wpAny_standAt (wpAny_bind (lift (thn (T.item X rfl rfl rfl hcalm i [] s3 σ3 H3 X.xe I3 (stat fr3) st3 go) fun r s4 ⟨u, hr, h4⟩ => ?_))))
    subst hr
    refine wpAny_bind (lift (thn h4 fun _ s5 ⟨x, H5, I5, r5, y5, st5, fr5⟩ => ?_))
    have I5' := I5.pinned (stat fr5) (T.obj _ _ st5)
    refine wpAny_bind (lift (thn (hg _ s5 σ3 H5 x u _ I5' r5 (step x H5 y5)) fun _ s6 ⟨σ6, H6, I6, q6⟩ => ?_))
    have again : ∀ {σ7 : St} {H7 : Hp} {s7 : Shared}, Inv X ([] ++ pinsAt fp s5.heap) σ7 H7 s7 → N σ7 H7 → ∃ m, m < n ∧ ∃ i σ' H', Inv X [] σ' H' s7 ∧ tn i s7.heap ∧ (∀ b ∈ fp, H' b = none) ∧ W i m σ' H' := fun {σ7 H7 s7} I7 n7 => by
      obtain ⟨m', hm, w7⟩ := hN σ7 H7 n7
      refine ⟨m', hm, i + 1, σ7, H7, I7.unpinned, T.keep _ _ _ st5 fun b hb o e => (I7.pin (b, o) (List.mem_append_right _ (List.mem_append_right _ (mem_pinsAt hb e)))).1, fun b hb => ?_, w7⟩
      obtain ⟨o, e, d⟩ := T.obj _ _ st5 b hb
      exact (I7.pin (b, o) (List.mem_append_right _ (List.mem_append_right _ (mem_pinsAt hb e)))).2.1
    refine wpAny_bind (lift (thn (hc _ s6 σ6 H6 _ I6 q6) fun ok s7 ⟨H7, I7, q7⟩ => ?_))
    cases ok with
    | false =>
      simp only [Bool.false_eq_true, if_false] at q7 ⊢
      first
        | exact wpAny_pure ⟨rfl, again I7 q7⟩
        | exact wpAny_bind (wpAny_pure (wpAny_pure ⟨rfl, again I7 q7⟩))
    | true =>
      simp only [if_true] at q7 ⊢
      have app : wpAny (model X.prog X.w) X.A (do let _ ← call (.builtin "list.append") [.ref D, ← eval elt X.env]) (fun _ s9 => ∃ m, m < n ∧ ∃ i σ' H', Inv X [] σ' H' s9 ∧ tn i s9.heap ∧ (∀ b ∈ fp, H' b = none) ∧ W i m σ' H') X.xe s7 := by
        refine wpAny_bind (thn (he _ s7 σ6 H7 _ I7 q7) fun y s8 ⟨yv, H8, I8, r8, xs, hD, hz, nn⟩ => ?_)
        refine wpAny_bind (thn (mt_append _ s8 σ6 H8 (.ref D) [yv] (.ref D) [y] (fun v H9 => N σ6 H9) I8 rfl (.cons r8 .nil) ⟨D, xs, yv, rfl, rfl, hD, hz, nn⟩) fun v s9 ⟨vv, H9, I9, _, n9⟩ => ?_)
        exact wpAny_pure (again I9 n9)
      first
        | exact wpAny_bind (lift (thn app fun _ s9 h9 => wpAny_pure ⟨rfl, h9⟩))
        | exact lift (thn app fun _ s9 h9 => wpAny_bind (wpAny_pure ⟨rfl, h9⟩))
end

/-- the context of a comprehension's block -/
abbrev Cx.comp (X : Cx) (scope : Scope) (cl : List (Str × Addr)) (N : List Str) (fp : List Addr) (s3 : Shared) (H3 : Hp) : Cx :=
  { X with N := N, s₀ := s3, H₀ := H3, env := compEnvC scope cl s3.heap.objs.size X.env, outer := X.stack, stack := X.stack, ex := fp, fn := fun _ => false, pn := [], xe := fun _ _ => False }
/-- each of these cells is one of the cells without -/
def cellsIn (cells : List (Str × Addr)) : List (Str × Addr) → Prop
  | [] => True
  | y :: r => cells.lookup y.1 = some y.2 ∧ cellsIn cells r
theorem cellsIn.get {cells : List (Str × Addr)} : ∀ {cl : List (Str × Addr)}, cellsIn cells cl → ∀ x c, cl.lookup x = some c → cells.lookup x = some c
  | [], _, x, c, h => by simp at h
  | y :: r, s, x, c, h => by
    obtain ⟨k, v⟩ := y
    rw [List.lookup_cons] at h
    cases e : (x == k) with
    | true =>
      rw [e] at h
      have := eq_of_beq e
      subst this
      cases h
      exact s.1
    | false =>
      rw [e] at h
      exact cellsIn.get s.2 x c h
/-- a name of another def's frame -/
def isOut : Option NameKind → Bool
  | some .cell => true
  | some .free => true
  | _ => false
theorem isOut_of {o : Option NameKind} (h : isOut o = true) : o = some .cell ∨ o = some .free := by
  cases o with
  | none => cases h
  | some k => cases k <;> first | exact .inl rfl | exact .inr rfl | cases h
/-- what the block's names are: its own (locs), then those that it captures (caps, by their slots without) -/
structure CompOk (X : Cx) (scope : Scope) (cl : List (Str × Addr)) (locs : List Str) (caps : List Nat) : Prop where
  clos : closureFor scope X.env = pure cl
  nocell : ∀ y ∈ scope.names, y.2 ≠ .cell
  kind : scope.kind = .function
  names : ∀ y ∈ scope.names, y.2 = .local → scope.names.lookup y.1 = some .local
  cin : cellsIn X.env.cells cl
  all : ((relabel scope X.env).names.all fun y => !isOut (some y.2) || (cl.lookup y.1).isSome) = true
  capt : (caps.all fun i => match X.N[i]? with | some x => isOut (X.env.kindOf x) && isOut ((relabel scope X.env).names.lookup x) | none => false) = true
theorem CompOk.sub {X : Cx} {scope : Scope} {cl : List (Str × Addr)} {locs : List Str} {caps : List Nat} (c : CompOk X scope cl locs caps) : ∀ x k, cl.lookup x = some k → X.env.cells.lookup x = some k := c.cin.get
theorem CompOk.has {X : Cx} {scope : Scope} {cl : List (Str × Addr)} {locs : List Str} {caps : List Nat} (c : CompOk X scope cl locs caps) (x : Str)
    (h : (relabel scope X.env).names.lookup x = some .cell ∨ (relabel scope X.env).names.lookup x = some .free) : ∃ k, cl.lookup x = some k := by
  have q : ∀ k, isOut (some k) = true → (relabel scope X.env).names.lookup x = some k → ∃ k, cl.lookup x = some k := fun k hk e => by
    have m := List.all_eq_true.mp c.all _ (PySem.mem_of_lookup e)
    simp only [hk, Bool.not_true, Bool.false_or] at m
    exact Option.isSome_iff_exists.mp m
  rcases h with e | e
  · exact q _ rfl e
  · exact q _ rfl e
theorem CompOk.cap {X : Cx} {scope : Scope} {cl : List (Str × Addr)} {locs : List Str} {caps : List Nat} (c : CompOk X scope cl locs caps) : ∀ i ∈ caps, ∃ x, X.N[i]? = some x ∧ (X.env.kindOf x = some .cell ∨ X.env.kindOf x = some .free) ∧ ((relabel scope X.env).names.lookup x = some .cell ∨ (relabel scope X.env).names.lookup x = some .free) := fun i hi => by
  have m := List.all_eq_true.mp c.capt i hi
  cases e : X.N[i]? with
  | none => rw [e] at m; cases m
  | some x =>
    rw [e] at m
    simp only [Bool.and_eq_true] at m
    exact ⟨x, rfl, isOut_of m.1, isOut_of m.2⟩
def capN (N locs : List Str) (caps : List Nat) : List Str := locs ++ caps.map fun i => N.getD i ""
def capS (locs : List Str) (caps : List Nat) (σ : St) : St := locs.map (fun _ => none) ++ caps.map fun i => σ.getD i none

section
variable {X : Cx} {scope : Scope} {cl : List (Str × Addr)} {locs : List Str} {caps : List Nat} {pins : List (Addr × Obj)} {σ : St} {H : Hp} {s s4 : Shared} {fp : List Addr}
theorem inv_comp (c : CompOk X scope cl locs caps) (I : Inv X pins σ H s) (hf : ∀ b ∈ fp, FpOk X pins H b) (hfo : ∀ b ∈ fp, b < s.heap.objs.size) (hk : ∀ b o, s.heap.get? b = some o → s4.heap.get? b = some o) (ho : s4.os = s.os) (hg : s4.gens = s.gens)
    {m : Str → Option Value} (hn : s4.heap.Ns s.heap.objs.size m) : Inv (X.comp scope cl (capN X.N locs caps) fp s H) [] (capS locs caps σ) H s4 := by
  have fresh : H s.heap.objs.size = none := I.hok.fresh (Nat.le_refl _)
  have fpst : ∀ b ∈ fp, b ∉ frs X.stack := fun b hb z => by
    rcases List.mem_cons.mp (I.stkSub b z) with e | e
    · exact (hf b hb).2.1 e
    · exact (hf b hb).2.2.1 e
  refine ⟨⟨I.ok.mod, c.kind, I.ok.glob, I.ok.blt, Nat.le_refl _, fun x y c1 h1 h2 => I.ok.inj x y c1 (c.sub _ _ h1) (c.sub _ _ h2), fun x hx => c.has x hx, (fun x c1 h1 _ => nomatch h1), I.ok.hd, I.ok.frames, .inl rfl, fun b hb => ⟨?_, fun x c1 h1 => (hf b hb).2.2.2.2.1 x c1 (c.sub _ _ h1)⟩,
      I.bs, Nat.le_trans I.ok.bsz I.sz, fun b o e hb => ?_, fpst, I.stack, I.stkFree⟩, ho, by rw [hg]; exact I.bare, Un.kept hk, ⟨m, hn, fun i x v e1 e2 e3 => ?_⟩, fun x c1 h1 => ?_, fresh, fun x c1 h1 => I.freeC x c1 (c.sub _ _ h1), fun p hp => absurd hp (by simp), I.hok.kept hk, ?_⟩
  · exact Nat.ne_of_lt (hfo b hb)
  · rcases (hf b hb).2.2.2.1 with z | z
    · exact I.ok.noex b o e z
    · exact absurd (Nat.lt_of_lt_of_le (Heap.lt_size (I.ok.bs b o e).1) z) (Nat.lt_irrefl _)
  · have e1 : (capN X.N locs caps)[i]? = some x := e1
    unfold capN at e1
    unfold capS at e2
    by_cases hi : i < locs.length
    · rw [List.getElem?_append_left (by simpa using hi), List.getElem?_map] at e2
      cases q : locs[i]? with
      | none => rw [q] at e2; cases e2
      | some y => rw [q] at e2; cases e2
    · have hi : locs.length ≤ i := Nat.le_of_not_lt hi
      rw [List.getElem?_append_right (by simpa using hi), List.getElem?_map] at e2
      rw [List.getElem?_append_right hi, List.getElem?_map] at e1
      rw [List.length_map] at e2
      cases q : caps[i - locs.length]? with
      | none => rw [q] at e2; cases e2
      | some k =>
        rw [q] at e1 e2
        obtain ⟨x', hx', k1, k2⟩ := c.cap k (List.mem_of_getElem? q)
        have ex : x' = x := by
          have := Option.some.inj e1
          dsimp only at this
          rw [List.getD_eq_getElem?_getD, hx'] at this
          exact this
        subst ex
        have ev : σ[k]? = some (some v) := by
          have := Option.some.inj e2
          dsimp only at this
          rw [List.getD_eq_getElem?_getD] at this
          cases z : σ[k]? with
          | none => rw [z] at this; cases this
          | some o => rw [z] at this; rw [show o = some v from this]
        obtain ⟨m0, hn0, hl⟩ := id I.loc
        have hv : Vis X.env.scope x' := by
          rcases k1 with k1 | k1
          · exact .inr (.inl k1)
          · exact .inr (.inr k1)
        obtain ⟨u, r, l⟩ := hl k x' v hx' ev hv
        refine ⟨u, r, .inr ⟨k2, ?_⟩⟩
        obtain ⟨c1, hc1⟩ := c.has x' k2
        rcases l with ⟨kk, _⟩ | ⟨_, c2, hc2, ic⟩
        · rcases k1 with k1 | k1 <;> (rw [k1] at kk; cases kk)
        · have e := hc2.symm.trans (c.sub _ _ hc1)
          obtain ⟨o, ho', hd⟩ := ic
          rw [Option.some.inj e] at ho'
          exact ⟨c1, hc1, o, hk _ _ ho', hd⟩
  · obtain ⟨v, o, ho', hd⟩ := I.cell x c1 (c.sub _ _ h1)
    exact ⟨v, o, hk _ _ ho', hd⟩
  · show (capS locs caps σ).length = (capN X.N locs caps).length
    unfold capS capN
    simp
end
end L2

set_option Elab.async false
set_option linter.all false
set_option maxRecDepth 100000
namespace L2
open PySem PySem.Spec PyProof.Rows

/-- a comprehension's list: it stands at a new D -/
def tComp (wi : TI) (locs : List Str) (caps : List Nat) (g : TG) (tc : TT) (te : TE) : TE := fun σ H Q => wi σ H fun J H1 => ∀ D, H1 D = none → cLoop D g tc te J (fun H2 => Q (.ref D) H2) (capS locs caps σ) (upd H1 D (.lst []))
section
variable {X : Cx} {elt tg iter : Expr} {ifs : List Expr} {scope : Scope} {cl : List (Str × Addr)} {locs : List Str} {caps : List Nat} {pos : Pos} {wi : TI} {g : TG} {tc : TT} {te : TE}
theorem comp_block {M : Model} {E : Value → Shared → Prop} {pins : List (Addr × Obj)} {σ : St} {H2 : Hp} {s2 : Shared} {it : Addr} {fp : List Addr} {tn : Nat → Heap → Prop} {J : It} {Q : VK} {RR : Value → Addr → Result → Shared → Prop} (hcalm : X.calm = true) (c : CompOk X scope cl locs caps)
    (hg : ∀ fp s3 H3, PG (X.comp scope cl (capN X.N locs caps) fp s3 H3) tg g) (hc : ∀ fp s3 H3, PTs (X.comp scope cl (capN X.N locs caps) fp s3 H3) ifs tc) (he : ∀ fp s3 H3, PE (X.comp scope cl (capN X.N locs caps) fp s3 H3) elt te)
    (I2 : Inv X pins σ H2 s2) (T : Turn X.prog X.w X.K tg J fp it tn) (st2 : tn 0 s2.heap) (f2 : ∀ b ∈ fp, FpOk X pins H2 b) (hl : ∀ D, H2 D = none → cLoop D g tc te J (fun H' => Q (.ref D) H') (capS locs caps σ) (upd H2 D (.lst [])))
    (hRR : ∀ D C m s' H', s'.heap.Ns C m → H' C = none → C ≠ X.env.locals → X.s₀.heap.objs.size ≤ C → (∀ x k, X.env.cells.lookup x = some k → k ≠ C) → (∀ p ∈ X.pn ++ pins, p.1 ≠ C) → Inv X pins σ H' s' → Q (.ref D) H' → RR (.ref D) C (.ok .next) s') :
    wpAny (model X.prog X.w) X.A (newList []) (fun acc s₃ => wpAny (model X.prog X.w) X.A (newFunctionEnv scope X.env.globals cl [] X.env.qual none .none (some X.env)) (fun cenv s₄ =>
      codeAny (model X.prog X.w) X.A (.compStart (.ListComp elt [⟨tg, iter, ifs, 0⟩] scope pos) 0 (.ref it) acc { cenv with scope := relabel scope X.env }) (RR acc cenv.locals) s₄) E s₃) E s2 := by
  have I3 : Inv X pins σ (upd H2 s2.heap.objs.size (.lst [])) { s2 with heap := s2.heap.push { cls := .type "list", dict := none, data := .seq ([] : List Value).toArray }, toks := s2.toks } :=
    I2.laid (t' := s2.toks) (fun b u e => Heap.get?_push_of_some _ e) (Nat.le_refl _) ⟨Nat.zero_le _, [], 0, .nil, Heap.get?_push_size _ rfl⟩
  refine wpAny_newObj_type (wpAny_newFunctionEnv c.nocell (by intro y hy; simp at hy) (fun h₁ hns₁ hsb₁ => ?_) c.kind)
  dsimp only at hns₁ hsb₁ ⊢
  have fpo : ∀ b ∈ fp, b < s2.heap.objs.size := fun b hb => by
    obtain ⟨o, e, _⟩ := T.obj 0 _ st2 b hb
    exact Heap.lt_size e
  have hD : H2 s2.heap.objs.size = none := I2.hok.fresh (Nat.le_refl _)
  have keep : ∀ b o, (s2.heap.push { cls := .type "list", dict := none, data := .seq ([] : List Value).toArray }).get? b = some o → h₁.get? b = some o := fun b o e =>
    hsb₁.extBut b o (Nat.ne_of_lt (Heap.lt_size e)) (Heap.get?_push_of_some _ e)
  have f3 : ∀ b ∈ fp, FpOk X pins (upd H2 s2.heap.objs.size (.lst [])) b := fun b hb => ⟨by rw [upd_ne (Nat.ne_of_lt (fpo b hb))]; exact (f2 b hb).1, (f2 b hb).2⟩
  have loop : ∀ s4 : Shared, s4.heap = h₁ → s4.os = s2.os → s4.gens = s2.gens →
      codeAny (model X.prog X.w) X.A (.compLoop (.ListComp elt [⟨tg, iter, ifs, 0⟩] scope pos) 0 (.ref it) (.ref s2.heap.objs.size) (compEnvC scope cl (s2.heap.push { cls := .type "list", dict := none, data := .seq ([] : List Value).toArray }).objs.size X.env))
        (RR (.ref s2.heap.objs.size) (s2.heap.push { cls := .type "list", dict := none, data := .seq ([] : List Value).toArray }).objs.size) s4 := by
    intro s4 e1 e2 e3
    have I4 := inv_comp (s4 := s4) c I3 f3 (fun b hb => by rw [Heap.size_push]; exact Nat.lt_succ_of_lt (fpo b hb)) (fun b o e => by rw [e1]; exact keep b o e) e2 e3 (m := _) (by rw [e1]; exact hns₁)
    have f4 : ∀ b ∈ fp, FpOk (X.comp scope cl (capN X.N locs caps) fp { s2 with heap := s2.heap.push { cls := .type "list", dict := none, data := .seq ([] : List Value).toArray }, toks := s2.toks } (upd H2 s2.heap.objs.size (.lst []))) [] (upd H2 s2.heap.objs.size (.lst [])) b := fun b hb =>
      ⟨(f3 b hb).1, (I4.ok.exf b hb).1, I4.ok.exfs b hb, .inl hb, (I4.ok.exf b hb).2, fun p hp => absurd hp (by simp)⟩
    refine codeAny_mono (comp_run (X := X.comp scope cl (capN X.N locs caps) fp _ _) (D := s2.heap.objs.size) rfl hcalm (hg fp _ _) (hc fp _ _) (he fp _ _) T I4 (by rw [e1]; exact T.keep 0 _ _ st2 fun b hb o e => keep b o (Heap.get?_push_of_some _ e)) f4 (hl _ hD)) fun r s' ⟨hr, σ', H', I', q⟩ => ?_
    subst hr
    have IX : Inv X pins σ H' s' := I3.call' (ch := fp) I'.os I'.base I'.hok I'.bare fun b hb => ⟨(f3 b hb).2.2.2.1, (f3 b hb).2.1, (f3 b hb).2.2.2.2.1, (f3 b hb).2.2.2.2.2⟩
    obtain ⟨m, hn, _⟩ := I'.loc
    refine hRR _ _ m s' H' hn I'.free ?_ (Nat.le_trans I3.sz (Nat.le_refl _)) (fun x k e => ?_) (fun p hp => ?_) IX q
    · exact Nat.ne_of_gt I3.lt
    · obtain ⟨v, o, ho, _⟩ := I3.cell x k e
      exact Nat.ne_of_lt (Heap.lt_size ho)
    · exact Nat.ne_of_lt (Heap.lt_size (I3.pin p hp).1)
  exact codeAny_compStart_list (loop _ rfl rfl rfl) (T.self _ 0 _ _ _ (T.keep 0 _ _ st2 fun b hb o e => keep b o (Heap.get?_push_of_some _ e)) (loop _ rfl rfl rfl))
theorem same_turned {pins : List (Addr × Obj)} {σ : St} {H : Hp} {s : Shared} {h' : Heap} {C : Addr} (I : Inv X pins σ H s) (hs : Heap.SameBut C s.heap h') (n : H C = none) (nL : C ≠ X.env.locals) (lo : X.s₀.heap.objs.size ≤ C) (nC : ∀ x k, X.env.cells.lookup x = some k → k ≠ C)
    (nP : ∀ p ∈ X.pn ++ pins, p.1 ≠ C) : Inv X pins σ H { s with heap := h' } := I.turned (t' := s.toks) (it := C) (fun b o hb e => (hs.2 b hb).trans e) n nL (.inr lo) nC nP
theorem pe_comp (hcalm : X.calm = true) (c : CompOk X scope cl locs caps) (hi : PI X tg iter wi) (hg : ∀ fp s3 H3, PG (X.comp scope cl (capN X.N locs caps) fp s3 H3) tg g) (hc : ∀ fp s3 H3, PTs (X.comp scope cl (capN X.N locs caps) fp s3 H3) ifs tc)
    (he : ∀ fp s3 H3, PE (X.comp scope cl (capN X.N locs caps) fp s3 H3) elt te) (hs : ∀ x, foldedSetIterable iter X.env x = pure x := by intro _; rfl) : PE X (.ListComp elt [⟨tg, iter, ifs, 0⟩] scope pos) (tComp wi locs caps g tc te) := by
  intro pins s σ H Q I h
  rw [eval_ListComp]
  refine wpAny_comprehension_free (use := none) rfl hs c.clos c.kind c.names (thn (hi pins s σ H _ I h) fun x s1 h1 => thn h1 fun itv s2 h2 => ?_)
  obtain ⟨it, fp, tn, J, H2, e, I2, T, st2, f2, hl⟩ := h2
  subst e
  refine comp_block (M := model X.prog X.w) (RR := fun acc C => compPost (model X.prog X.w) X.A X.xe none (EP X pins σ Q) acc C) hcalm c hg hc he I2 T st2 f2 hl ?_
  intro D C m s' H' hn n nL lo nC nP IX q
  exact ⟨m, hn, fun h' hs' => ⟨.ref D, H', same_turned IX hs' n nL lo nC nP, rfl, q⟩⟩
/-- name = [.. for ..] -/
theorem ps_setc {i : Nat} {y : Str} {py spos : Pos} (hcalm : X.calm = true) (c : CompOk X scope cl locs caps) (hi : PI X tg iter wi) (hg : ∀ fp s3 H3, PG (X.comp scope cl (capN X.N locs caps) fp s3 H3) tg g)
    (hc : ∀ fp s3 H3, PTs (X.comp scope cl (capN X.N locs caps) fp s3 H3) ifs tc) (he : ∀ fp s3 H3, PE (X.comp scope cl (capN X.N locs caps) fp s3 H3) elt te) (hN : X.N.Nodup) (hy : X.N[i]? = some y) (hx : Loc X.env.scope y)
    (hsw : swapsWith (.ListComp elt [⟨tg, iter, ifs, 0⟩] scope pos) (some (.Name y py)) spos.line X.env = pure true := by rfl) (hf : X.fn y = true ∨ X.env.scope.names.lookup y = some .local := by first | exact .inl rfl | exact .inr rfl | assumption)
    (hs : ∀ x, foldedSetIterable iter X.env x = pure x := by intro _; rfl) : PS X (.Assign [.Name y py] (.ListComp elt [⟨tg, iter, ifs, 0⟩] scope pos) spos) (tAsg (tComp wi locs caps g tc te) (gName i)) := by
  intro pins s σ H D I h
  rw [exec_Assign_Name_used _ _ _ _ hsw]
  refine wpAny_bind (wpAny_standAt (wpAny_bind ?_))
  show wpAny _ X.A (do let _ ← comprehension (.ListComp elt [⟨tg, iter, ifs, 0⟩] scope pos) scope X.env _ (newList []) false (eval iter X.env) (some (assign (.Name y py) X.env))) _ _ s
  refine wpAny_bind (wpAny_mono (wpAny_comprehension_free (use := some (assign (.Name y py) X.env)) (Q := fun _ s' => SP X pins D .next s') rfl hs c.clos c.kind c.names (thn (hi pins s σ H _ I h) fun x s1 h1 => thn h1 fun itv s2 h2 => ?_)) (fun _ s' hq => wpAny_pure (wpAny_pure hq)) fun _ _ e => e)
  obtain ⟨it, fp, tn, J, H2, e, I2, T, st2, f2, hl⟩ := h2
  subst e
  refine comp_block (M := model X.prog X.w) (Q := fun v H' => D.nx (σ.set i (some v)) H') (RR := fun acc C => compPost (model X.prog X.w) X.A X.xe (some (assign (.Name y py) X.env)) (fun _ s' => SP X pins D .next s') acc C) hcalm c hg hc he I2 T st2 f2 hl ?_
  intro D' C m s' H' hn n nL lo nC nP IX q
  show wpAny _ X.A (assign (.Name y py) X.env (.ref D')) _ _ s'
  refine wpAny_assign_Name (store_ok2 IX hN hy hx (v := .ref D') rfl (fun s5 I5 ⟨a, hsb, ha⟩ => ⟨m, hn.sameBut hsb ?_, fun h' hs' => ⟨_, H', same_turned I5 hs' n nL lo nC nP, q⟩⟩) hf)
  rcases ha with rfl | ha
  · exact nL
  · exact (nC _ _ ha).symm
end
end L2

set_option Elab.async false
set_option linter.all false
set_option maxRecDepth 100000
namespace L2
open PySem PySem.Spec PyProof.Rows

/-! ## == and != of lists and tuples with flat items; sorted -/
def eqVs : List V → List V → Bool
  | [], [] => true
  | x :: xs, y :: ys => eqV x y && eqVs xs ys
  | _, _ => false
def flatVs (xs : List V) : Prop := ∀ x ∈ xs, flatV x = true
theorem eqVs_len : ∀ {xs ys : List V}, xs.length ≠ ys.length → eqVs xs ys = false
  | [], [], h => absurd rfl h
  | [], _ :: _, _ => rfl
  | _ :: _, [], _ => rfl
  | x :: xs, y :: ys, h => by
    show (eqV x y && eqVs xs ys) = false
    rw [eqVs_len (xs := xs) (ys := ys) (by simpa using h), Bool.and_false]
theorem eqVs_all : ∀ (xs ys : List V), xs.length = ys.length → (List.range xs.length).all (fun j => eqV (xs.getD j .non) (ys.getD j .non)) = eqVs xs ys
  | [], [], _ => rfl
  | [], _ :: _, h => by simp at h
  | _ :: _, [], h => by simp at h
  | x :: xs, y :: ys, h => by
    have ih := eqVs_all xs ys (by simpa using h)
    show (List.range (xs.length + 1)).all _ = (eqV x y && eqVs xs ys)
    rw [← ih, List.range_succ_eq_map, List.all_cons, List.all_map]
    congr 1
theorem Vals.getD {xs : List V} {us : List Value} (r : Vals xs us) {j : Nat} (h : j < us.length) : RelV (xs.getD j .non) us[j] := by
  have hx : j < xs.length := by rw [r.length]; exact h
  obtain ⟨u, e, q⟩ := r.get (i := j) (x := xs[j]) (by simp [hx])
  rw [List.getElem?_eq_getElem h] at e
  cases e
  rw [List.getD_eq_getElem?_getD, List.getElem?_eq_getElem hx]
  exact q
theorem flat_getD {xs : List V} (h : flatVs xs) (j : Nat) : flatV (xs.getD j .non) = true := by
  rw [List.getD_eq_getElem?_getD]
  cases e : xs[j]? with
  | none => rfl
  | some x => exact h x (List.mem_of_getElem? e)
section
variable {X : Cx}
def rEqL (K : PySem.W.Frag) : R2 := fun x y H Q => ∃ a b xs ys, x = .ref a ∧ y = .ref b ∧ SqL K H a xs ∧ SqL K H b ys ∧ flatVs xs ∧ flatVs ys ∧ Q (.bl (eqVs xs ys)) H
def rNeL (K : PySem.W.Frag) : R2 := fun x y H Q => ∃ a b xs ys, x = .ref a ∧ y = .ref b ∧ SqL K H a xs ∧ SqL K H b ys ∧ flatVs xs ∧ flatVs ys ∧ Q (.bl (!eqVs xs ys)) H
def rNeT (K : PySem.W.Frag) : R2 := fun x y H Q => ∃ a b xs ys, x = .ref a ∧ y = .ref b ∧ SqT K H a xs ∧ SqT K H b ys ∧ flatVs xs ∧ flatVs ys ∧ Q (.bl (!eqVs xs ys)) H
theorem op_eqL (hu : X.A.units < cLine) : OpR X (compareOp .Eq) (rEqL X.K) := by
  intro pins s σ H x y v u Q I rx ry h
  obtain ⟨a, b, xs, ys, rfl, rfl, ha, hb, fx, fy, q⟩ := h
  cases rx; cases ry
  obtain ⟨its, ra, pa, _⟩ := I.list ha
  obtain ⟨jts, rb, pb, _⟩ := I.list hb
  have l1 : s.heap.IsList a its.toArray := let ⟨o, n, e, c, _, d⟩ := pa; ⟨o, e, c, n, d⟩
  have l2 : s.heap.IsList b jts.toArray := let ⟨o, n, e, c, _, d⟩ := pb; ⟨o, e, c, n, d⟩
  by_cases hz : xs.length = ys.length
  · have hz' : its.toArray.size = jts.toArray.size := by
      simp only [List.size_toArray]; rw [← ra.length, ← rb.length]; exact hz
    refine SeqAt.eq_listAt l1 l2 hz' hu (e := fun j => eqV (xs.getD j .non) (ys.getD j .non)) (fun j h1 h2 => ?_) ?_
    · exact eqAt_V (ra.getD (by simpa using h1)) (rb.getD (by simpa using h2)) (flat_getD fx j) (flat_getD fy j)
    · refine ⟨.bl _, H, I, ?_, q⟩
      show _ = _
      rw [List.size_toArray, ← ra.length, eqVs_all xs ys hz]
  · refine SeqAt.eq_list_lengthsAt l1 l2 ?_ hu ⟨.bl _, H, I, ?_, q⟩
    · simp only [List.size_toArray, bne_iff_ne]; rw [← ra.length, ← rb.length]; exact hz
    · show _ = _
      rw [eqVs_len hz]
theorem op_neL (hu : X.A.units < cLine) : OpR X (compareOp .NotEq) (rNeL X.K) := by
  intro pins s σ H x y v u Q I rx ry h
  obtain ⟨a, b, xs, ys, rfl, rfl, ha, hb, fx, fy, q⟩ := h
  cases rx; cases ry
  obtain ⟨its, ra, pa, _⟩ := I.list ha
  obtain ⟨jts, rb, pb, _⟩ := I.list hb
  have l1 : s.heap.IsList a its.toArray := let ⟨o, n, e, c, _, d⟩ := pa; ⟨o, e, c, n, d⟩
  have l2 : s.heap.IsList b jts.toArray := let ⟨o, n, e, c, _, d⟩ := pb; ⟨o, e, c, n, d⟩
  by_cases hz : xs.length = ys.length
  · have hz' : its.toArray.size = jts.toArray.size := by
      simp only [List.size_toArray]; rw [← ra.length, ← rb.length]; exact hz
    refine SeqAt.RcNeAt.lists l1 l2 hz' hu (e := fun j => eqV (xs.getD j .non) (ys.getD j .non)) (fun j h1 h2 => ?_) _ _ _ _ ?_
    · exact eqAt_V (ra.getD (by simpa using h1)) (rb.getD (by simpa using h2)) (flat_getD fx j) (flat_getD fy j)
    · refine ⟨.bl _, H, I, ?_, q⟩
      show _ = _
      rw [List.size_toArray, ← ra.length, eqVs_all xs ys hz]
  · refine SeqAt.RcNeAt.lists_lengths l1 l2 ?_ hu _ _ _ _ ⟨.bl _, H, I, ?_, q⟩
    · simp only [List.size_toArray, bne_iff_ne]; rw [← ra.length, ← rb.length]; exact hz
    · show _ = _
      rw [eqVs_len hz]; rfl
theorem min_all {xs ys : List V} : ((List.range (min xs.length ys.length)).all (fun j => eqV (xs.getD j .non) (ys.getD j .non)) && xs.length == ys.length) = eqVs xs ys := by
  by_cases hz : xs.length = ys.length
  · rw [hz, Nat.min_self, ← hz, eqVs_all xs ys hz]; simp [hz]
  · rw [eqVs_len hz, show (xs.length == ys.length) = false from beq_eq_false_iff_ne.mpr hz, Bool.and_false]
theorem op_neT (hu : X.A.units < cLine) : OpR X (compareOp .NotEq) (rNeT X.K) := by
  intro pins s σ H x y v u Q I rx ry h
  obtain ⟨a, b, xs, ys, rfl, rfl, ha, hb, fx, fy, q⟩ := h
  cases rx; cases ry
  obtain ⟨its, ra, pa, _⟩ := I.tuple ha
  obtain ⟨jts, rb, pb, _⟩ := I.tuple hb
  refine SeqAt.RcNeAt.tuples (l := a) (b := b) (items := its.toArray) (items2 := jts.toArray) pa pb hu (e := fun j => eqV (xs.getD j .non) (ys.getD j .non)) (fun j h1 h2 => ?_) _ _ _ _ ⟨.bl _, H, I, ?_, q⟩
  · exact eqAt_V (ra.getD (by simpa using h1)) (rb.getD (by simpa using h2)) (flat_getD fx j) (flat_getD fy j)
  · show _ = _
    rw [List.size_toArray, List.size_toArray, ← ra.length, ← rb.length, min_all]

end
end L2

set_option Elab.async false
set_option linter.all false
set_option maxRecDepth 100000
namespace L2
open PySem PySem.Spec PyProof.Rows

/-! ## f-strings -/
abbrev TJ := Str → St → Hp → VK → Prop
def PJ (X : Cx) (es : List Expr) (t : TJ) : Prop :=
  ∀ (acc : Str) (pins : List (Addr × Obj)) (s : Shared) (σ : St) (H : Hp) (Q : VK), Inv X pins σ H s → t acc σ H Q → wpAny (model X.prog X.w) X.A (joinParts acc (evalEach es X.env)) (EP X pins σ Q) X.xe s
def jNil : TJ := fun acc _ H Q => acc.length ≤ sizeLine ∧ Q (.str acc) H
def jCons (te : TE) (t : TJ) : TJ := fun acc σ H Q => te σ H fun x H1 => ∃ y, x = .str y ∧ (acc ++ y).length ≤ sizeLine ∧ t (acc ++ y) σ H1 Q
section
variable {X : Cx} {e v1 v2 : Expr} {es : List Expr} {te : TE} {t : TJ} {pos : Pos}
theorem pj_nil : PJ X [] jNil := fun acc pins s σ H Q I h => joinParts_nil ⟨.str acc, H, I.tok _, ⟨_, rfl⟩, h.2⟩ h.1
theorem pj_cons (he : PE X e te) (hr : PJ X es t) : PJ X (e :: es) (jCons te t) := by
  intro acc pins s σ H Q I h
  show wpAny _ _ (joinParts acc (eval e X.env :: evalEach es X.env)) _ _ s
  refine joinParts_cons (thn (he pins s σ H _ I h) fun v s1 ⟨x, H1, I1, r1, y, ex, hz, q⟩ => ?_)
  subst ex
  obtain ⟨tk, rfl⟩ := r1
  exact ⟨hz, hr (acc ++ y) pins s1 σ H1 Q I1 q⟩
theorem pe_join (h : PJ X (v1 :: v2 :: es) t) : PE X (.JoinedStr (v1 :: v2 :: es) pos) (fun σ H Q => t Str.empty σ H Q) := fun pins s σ H Q I hw => JoinedStr_many (h Str.empty pins s σ H Q I hw)
def tFmtI (te : TE) : TE := fun σ H Q => te σ H fun x H1 => ∃ i, x = .int i ∧ i.natAbs.log2 < 1920 ∧ Q (.str (toString i)) H1
/-- {name} of an int -/
theorem pe_fmtI (he : PE X e te) : PE X (.FormattedValue e (-1) none pos) (tFmtI te) := by
  intro pins s σ H Q I h
  refine FormattedValue_plain (thn (he pins s σ H _ I h) fun v s1 ⟨x, H1, I1, r1, i, ex, hi, q⟩ => ?_)
  subst ex
  obtain ⟨tk, rfl⟩ := r1
  exact formatField_int_small hi ⟨.str _, H1, I1.tok _, ⟨_, rfl⟩, q⟩
end
theorem len_app {a b : Str} {m n : Nat} (ha : a.length ≤ m) (hb : b.length ≤ n) : (a ++ b).length ≤ m + n := by rw [strLen_append]; omega

/-! ## isinstance, exceptions too -/
/-- what is asked of an error class so that its objects tell their class -/
structure ExcCls (K : PySem.W.Frag) (C : Addr) : Prop where
  er : Err K C
  ga : PySem.W.findIn K (.ref C) "__getattribute__" = some (some (.builtin "BaseException.__getattribute__"))
  gt : PySem.W.findIn K (.ref C) "__getattr__" = some none
  cl : PySem.W.findIn K (.ref C) "__class__" = some (some (.builtin "object.__class__"))
  ob : PySem.W.mroIn K C (.type "object") = some true

theorem exc_inst {a C : Addr} {h : Heap} (x : ExcIs a C h) : ∃ ox, PySem.W.InstAt h a ox C none := by
  obtain ⟨o, vs, e, c, d⟩ := x
  refine ⟨o, e, c.1, ?_, ?_⟩
  · obtain ⟨c0, d0, dt, sl⟩ := o
    simp only at d
    subst d
    rfl
  · rw [c.2]
    trivial
end L2

set_option Elab.async false
set_option linter.all false
set_option maxRecDepth 100000
namespace L2
open PySem PySem.Spec PyProof.Rows
section
variable {prog : Program} {w : World} {A : Around} {E : Value → Shared → Prop} {K : PySem.W.Frag} {a C : Addr}
/-- e.__class__ of an exception of an own class -/
theorem exc_class {s : Shared} {Q : Option Value → Shared → Prop} (X : K.In s.heap) (c : ExcCls K C) (x : ExcIs a C s.heap) (hq : Q (some (.ref C)) { s with toks := s.toks + 1 }) : wpAny (model prog w) A (getAttr? (.ref a) "__class__") Q E s := by
  obtain ⟨ox, J⟩ := exc_inst x
  obtain ⟨o, vs, hx, hc, hd⟩ := x
  obtain ⟨bm, N, nm, qn, bs, hdd, sn, sub, ab, col, dd, k0, k1, k2, k3, k5, O⟩ := exc_obj c.er.ex
  obtain ⟨hC, _, _, TL⟩ := O s.heap X
  have hcB : (Value.ref C :: bm).contains (.type "BaseException") = true := by rw [List.contains_cons, TL.hasType PySem.F.excBase_ValueError.hasBase, Bool.or_true]
  obtain ⟨h, g, d, t, os⟩ := s
  have L0 := J.type (M := model prog w)
  have L1 := PySem.W.looks_findIn (M := model prog w) X c.ga
  have L2 := PySem.W.looks_findIn (M := model prog w) X c.gt
  have L3 := PySem.W.looks_findIn (M := model prog w) X c.cl
  have f3 := PySem.F.attr_ValueError.ga.bind (.ref a)
  have hx2 : (Value.builtin "BaseException.__getattribute__" == Value.builtin "object.__getattribute__") = false := by decide +kernel
  have hx1 : (onTheHeap (Value.ref C) && Value.builtin "BaseException.__getattribute__" == Value.builtin "object.__getattribute__") = false := by rw [hx2]; rfl
  have hx0 : (false && onTheHeap (Value.builtin "BaseException.__getattribute__")) = false := rfl
  have f5 : typeOf (.builtin "object.__class__") = pure (.type "getset_descriptor") := PySem.F.typeOf_object_class
  have f6 := PySem.F.slot_gs_get.lookup
  have f7 := PySem.F.slot_gs_set.lookup
  have hT5 : (⟨h, g, d, t + 1, os⟩ : Shared).TypeIs (.builtin "object.__class__") "getset_descriptor" := f5
  unfold getAttr? getAttrBy? getAttrBy
  refine wpAny_bind (wpAny_mkText (wpAny_bind (wpAny_attempt (wpAny_holding (wpAny_bind (L0.at (wpAny_bind (L1.at ?_))))))))
  dsimp only
  rw [hx1]
  simp only [Bool.false_eq_true, if_false]
  unfold getAttrByItsOwn hookBefore
  rw [if_pos (show onTheHeap (Value.ref C) = true from rfl)]
  refine wpAny_bind (L2.at ?_)
  refine wpAny_bind (wpAny_attempt (wpAny_holding ?_))
  unfold callGetattribute
  rw [hx0]
  simp only [Bool.false_eq_true, if_false]
  unfold boundAndCalled
  refine wpAny_bind (wpAny_of_eq f3 ?_)
  refine wpAny_call (codeAny_call_builtin PySem.F.attr_ValueError.ga.plain PySem.F.entry_bexc_ga ?_)
  have hk : builtinKind "BaseException.__getattribute__" = some .slot := by decide +kernel
  have hsplit : splitId "BaseException.__getattribute__" = some ("BaseException", "__getattribute__") := by decide +kernel
  have ha := PySem.F.args_bexc_ga (.ref a) (.str "__class__" t)
  simp only [checkBuiltinCall, hk, hsplit]
  refine wpAny_bind ?_
  unfold isInstance
  repeat (first | (with_reducible refine wpAny_loadPart_at hx ?_; rw [hc.1]) | (with_reducible refine wpAny_isSubtype_exc hC ?_; rw [hcB]) | wp_step)
  repeat (any_goals (first | assumption | (with_reducible refine wpAny_loadPart_at hx ?_; rw [hc.1]) | with_reducible refine L3.at ?_ | wp_step))
  refine PySem.W.class_get (s := ⟨h, g, d, t + 1, os⟩) (ox := ox) (od := none) X J c.ob ?_
  show wpAny _ _ (ret (.ref C)) _ _ _
  refine wpAny_pure ?_
  exact PySem.W.handed_on rfl (wpAny_pure hq)
theorem kitx_exc (c : ExcCls K C) : PySem.W.KitX K (.ref a) (.ref C) (ExcIs a C) where
  ty := fun M h X x => by
    obtain ⟨ox, J⟩ := exc_inst x
    exact J.type
  it := fun M h X x => by
    obtain ⟨bm, N, nm, qn, bs, hdd, sn, sub, ab, col, dd, k0, k1, k2, k3, k5, O⟩ := exc_obj c.er.ex
    obtain ⟨hC, _⟩ := O h X
    intro A' Q' E' s' k q
    unfold isType loadHead
    exact wpAny_bind (wpAny_loadPart (k _ _ hC) (wpAny_pure q))
  ne := fun h tp dd its n sl X htp => by
    obtain ⟨bm, N, nm, qn, bs, hdd, sn, sub, ab, col, dd', k0, k1, k2, k3, k5, O⟩ := exc_obj c.er.ex
    obtain ⟨hC, _⟩ := O h X
    refine Bool.eq_false_iff.mpr fun q => ?_
    have e : C = tp := Value.ref.inj (beq_iff_eq.mp q)
    subst e
    have z := Option.some.inj (hC.symm.trans htp)
    have z2 : Obj.data _ = Obj.data _ := congrArg Obj.data z
    exact nomatch z2
  ca := fun X x k => exc_class X c x k
end
/-- the kind of a value, exceptions too -/
inductive TyX (K : PySem.W.Frag) (H : Hp) : V → Value → Prop where
  | ty {x : V} {t : Value} (h : TyOf K H x t) : TyX K H x t
  | sq {a : Addr} {xs : List V} (h : SqL K H a xs) : TyX K H (.ref a) (.type "list")
  | exc {a C : Addr} (e : H a = some (HO.exc a C)) (c : ExcCls K C) : TyX K H (.ref a) (.ref C)
/-- a class as a value -/
def ClsV : V → Value → Prop
  | .ref c, v => v = .ref c
  | .ty n, v => v = .type n
  | _, _ => False
section
variable {X : Cx}
def rIs (K : PySem.W.Frag) : List V → Hp → VK → Prop := fun xs H Q => ∃ x c cv t b, xs = [x, c] ∧ ClsV c cv ∧ TyX K H x t ∧ PySem.W.kitOne K t cv = some b ∧ Q (.bl b) H
theorem call_isinstance : CallR X (.builtin "isinstance") (rIs X.K) := by
  intro pins s σ H xs us Q I r h
  obtain ⟨x, c, cv, t, b, rfl, hc, ty, hk, q⟩ := h
  obtain ⟨u, v, rfl, rx, rc⟩ := vals2 r
  have ev : v = cv := by
    cases c with
    | ref a => exact (show v = .ref a from rc).trans (show cv = .ref a from hc).symm
    | ty n => exact (show v = .type n from rc).trans (show cv = .type n from hc).symm
    | _ => exact hc.elim
  subst ev
  have fin : ∀ tk, EP X pins σ Q (.bool b) { s with toks := tk } := fun tk => ⟨.bl b, H, I.tok tk, rfl, q⟩
  cases ty with
  | ty h => exact isinst_ok I rx h hk fin
  | @sq a xs h =>
    cases (show u = Value.ref a from rx)
    obtain ⟨its, _, pl, _⟩ := I.list h
    obtain ⟨o, n, e, cc, _⟩ := pl
    exact PySem.W.kia_one PySem.W.kitx_list I.kIn ⟨o, e, cc⟩ hk (fun z => nomatch z) fin
  | @exc a C e c =>
    cases (show u = Value.ref a from rx)
    obtain ⟨p, _⟩ := (show ObjOk X.prog X.w H s.heap a (HO.exc a C) from I.hok a _ e)
    exact PySem.W.kia_one (kitx_exc c) I.kIn p hk (fun z => nomatch z) fin
end
end L2
namespace L2
open PySem PySem.Spec PyProof.Rows
theorem kit_same (K : PySem.W.Frag) (t : Value) : PySem.W.kitOne K t t = some true := by unfold PySem.W.kitOne; rw [if_pos (beq_self_eq_true t)]
theorem kit_int_bool (K : PySem.W.Frag) : PySem.W.kitOne K (.type "int") (.type "bool") = some false := by
  unfold PySem.W.kitOne
  rw [if_neg (by decide +kernel)]
  kernel_rfl
end L2

set_option Elab.async false
set_option linter.all false
set_option maxRecDepth 100000
namespace L2
open PySem PySem.Spec PyProof.Rows
/-! ## the forms of a comprehension that one uses -/
theorem cl_range {D : Addr} {lo : Int} {n : Nat} {g : TG} {tc : TT} {te : TE} {Q : Hp → Prop} {σ0 : St} {H0 : Hp} (Pv : Nat → St → Hp → Prop) (h0 : Pv 0 σ0 H0)
    (hs : ∀ i σ H, i < n → Pv i σ H → g (.int (lo + i)) σ H fun σ2 H2 => tc σ2 H2 fun b H3 => if b = true then te σ2 H3 fun y H4 => ∃ xs, H4 D = some (.lst xs) ∧ xs.length < sizeLine ∧ Pv (i + 1) σ2 (upd H4 D (.lst (xs ++ [y]))) else Pv (i + 1) σ2 H3)
    (hd : ∀ σ H, Pv n σ H → Q H) : cLoop D g tc te (Itr lo n) Q σ0 H0 := by
  refine ⟨fun i m σ H => m = n - i ∧ i ≤ n ∧ Pv i σ H, ⟨n, by simp, Nat.zero_le _, h0⟩, ?_⟩
  rintro i m σ H ⟨rfl, hi, p⟩
  by_cases hlt : i < n
  · refine .inr ⟨hlt, Pv (i + 1), fun σ' H' p' => ⟨n - (i + 1), by omega, rfl, hlt, p'⟩, fun x H' y => ?_⟩
    obtain ⟨e, y⟩ := y
    subst e y
    exact hs i σ _ hlt p
  · have e : i = n := by omega
    subst e
    exact .inl ⟨Nat.le_refl _, hd σ H p⟩
theorem cl_list {K : PySem.W.Frag} {D a : Addr} {xs : List V} {g : TG} {tc : TT} {te : TE} {Q : Hp → Prop} {σ0 : St} {H0 : Hp} (Pv : Nat → St → Hp → Prop) (h0 : Pv 0 σ0 H0) (hl : ∀ i σ H, i ≤ xs.length → Pv i σ H → SqL K H a xs)
    (hs : ∀ i x σ H, xs[i]? = some x → Pv i σ H → g x σ H fun σ2 H2 => tc σ2 H2 fun b H3 => if b = true then te σ2 H3 fun y H4 => ∃ xs, H4 D = some (.lst xs) ∧ xs.length < sizeLine ∧ Pv (i + 1) σ2 (upd H4 D (.lst (xs ++ [y]))) else Pv (i + 1) σ2 H3)
    (hd : ∀ σ H, Pv xs.length σ H → Q H) : cLoop D g tc te (Itl K a) Q σ0 H0 := by
  refine ⟨fun i m σ H => m = xs.length - i ∧ i ≤ xs.length ∧ Pv i σ H, ⟨xs.length, by simp, Nat.zero_le _, h0⟩, ?_⟩
  rintro i m σ H ⟨rfl, hi, p⟩
  have q := hl i σ H hi p
  by_cases hlt : i < xs.length
  · refine .inr ⟨⟨xs, xs[i], q, by simp [hlt]⟩, Pv (i + 1), fun σ' H' p' => ⟨xs.length - (i + 1), by omega, rfl, hlt, p'⟩, fun x H' y => ?_⟩
    obtain ⟨e, y⟩ := y
    subst e
    exact hs i x σ _ (y xs q) p
  · have e : i = xs.length := by omega
    subst e
    exact .inl ⟨⟨xs, q, Nat.le_refl _⟩, hd σ H p⟩
/-! ## names of Python's own -/
theorem bt_list : bootBuiltins "list" = some (.type "list") := by decide +kernel
theorem bt_int : bootBuiltins "int" = some (.type "int") := by decide +kernel
theorem bt_bool : bootBuiltins "bool" = some (.type "bool") := by decide +kernel
theorem bt_tuple : bootBuiltins "tuple" = some (.type "tuple") := by decide +kernel
theorem bt_str : bootBuiltins "str" = some (.type "str") := by decide +kernel
theorem bt_len : bootBuiltins "len" = some (.builtin "len") := by decide +kernel
theorem bt_min : bootBuiltins "min" = some (.builtin "min") := by decide +kernel
theorem bt_max : bootBuiltins "max" = some (.builtin "max") := by decide +kernel
theorem bt_isinstance : bootBuiltins "isinstance" = some (.builtin "isinstance") := by decide +kernel
theorem bt_ValueError : bootBuiltins "ValueError" = some (.type "ValueError") := by decide +kernel
end L2

set_option Elab.async false
set_option linter.all false
set_option maxRecDepth 100000
namespace L2
open PySem PySem.Spec PyProof.Rows
/-! ## the rules that read the written part, with it by name (within an except's suite, a comprehension's block) -/
section
variable {X : Cx} (K : PySem.W.Frag)
theorem isiK (h : X.K = K := by rfl) : CallR X (.builtin "isinstance") (rIs K) := by subst h; exact call_isinstance
theorem ixL (h : X.K = K := by rfl) : IxR X (rIxL K) := by subst h; exact ix_list
theorem ixT (h : X.K = K := by rfl) : IxR X (rIxT K) := by subst h; exact ix_tup
theorem lenK (h : X.K = K := by rfl) : CallR X (.builtin "len") (fun xs H Q => ∃ p ys, xs = [.ref p] ∧ (SqL K H p ys ∨ SqT K H p ys) ∧ Q (.int ys.length) H) := by subst h; exact call_len_seq
theorem notinK (h : X.K = K := by rfl) : OpR X (compareOp .NotIn) (rIn K true) := by subst h; exact op_notIn_seq
theorem eqLK (hu : X.A.units < cLine) (h : X.K = K := by rfl) : OpR X (compareOp .Eq) (rEqL K) := by subst h; exact op_eqL hu
theorem neLK (hu : X.A.units < cLine) (h : X.K = K := by rfl) : OpR X (compareOp .NotEq) (rNeL K) := by subst h; exact op_neL hu
theorem slLK (h : X.K = K := by rfl) : SlR X (rSlL K) := by subst h; exact sl_list
end
end L2

set_option Elab.async false
set_option linter.all false
set_option maxRecDepth 100000
namespace L2
open PySem PySem.Spec PyProof.Rows

/-! ## enumerate(xs): its tuples are new -/
section
variable {X : Cx} {pins : List (Addr × Obj)} {σ : St} {H : Hp} {s : Shared}
end
/-! ## xs[::-1] -/
/-! ## set(xs) of ints, len of it -/
section
variable {X : Cx}
end

/-! ## sorted(d) of a dict with ints for keys -/
section
variable {X : Cx}
end
end L2

set_option Elab.async false
set_option linter.all false
set_option maxRecDepth 100000
namespace L2
open PySem PySem.Spec PyProof.Rows
/-! ## all(bs) -/
section
variable {X : Cx}
end
/-! ## list(range(i, j)) -/
/-! ## xs.insert(i, y) -/
section
variable {X : Cx}
end
end L2

set_option Elab.async false
set_option linter.all false
set_option maxRecDepth 100000
namespace L2
open PySem PySem.Spec PyProof.Rows
/-! ## what is never come to -/
/-! ## try: whose body raises nothing -/
/-! ## text.split(sep), sep.join(texts) -/
section
variable {X : Cx}
theorem strs_of {l : List (Str × Tok)} : Vals ((l.map (·.1)).map V.str) (strValues l) := by
  induction l with
  | nil => exact .nil
  | cons p l ih => exact .cons ⟨p.2, rfl⟩ ih
theorem strs_to : ∀ {ts : List Str} {us : List Value}, Vals (ts.map V.str) us → ∃ l : List (Str × Tok), us = strValues l ∧ l.map (·.1) = ts
  | [], _, r => by
    rw [List.map_nil] at r
    cases r
    exact ⟨[], rfl, rfl⟩
  | t :: ts, _, r => by
    rw [List.map_cons] at r
    cases r with
    | cons h r =>
      obtain ⟨k, rfl⟩ := h
      obtain ⟨l, rfl, e⟩ := strs_to r
      exact ⟨(t, k) :: l, rfl, by rw [List.map_cons, e]⟩
def rSplit : V → List V → Hp → VK → Prop := fun x vs H Q => ∃ a b : Str, x = .str a ∧ vs = [.str b] ∧ 1 ≤ b.length ∧ a.length ≤ 100000 ∧ ∀ p, H p = none → Q (.ref p) (upd H p (.lst ((Txt.split a b).map V.str)))
theorem mt_split : MtM X "str.split" rSplit := by
  intro pins s σ H x vs v us Q I rx rv h
  obtain ⟨a, b, rfl, rfl, hb, ha, q⟩ := h
  obtain ⟨t, rfl⟩ := rx
  obtain ⟨u, rfl, ru⟩ := rv.one
  obtain ⟨t', rfl⟩ := ru
  have sl : sizeLine = 16777216 := sizeLine_eq
  have hle := split_le a b
  have hy : (b.length == 0) = false := by simp; omega
  have fr : H s.heap.objs.size = none := I.hok.fresh (Nat.le_refl _)
  have fin : ∀ (l : List (Str × Tok)) (k : Nat), l.map (·.1) = Txt.split a b → EP X pins σ Q (.ref s.heap.objs.size) { s with heap := s.heap.push { cls := .type "list", data := .seq (strValues l).toArray }, toks := k } := fun l k e => by
    refine ⟨.ref s.heap.objs.size, _, I.laid (t' := k) (o := .lst ((Txt.split a b).map V.str)) (fun c o z => Heap.get?_push_of_some _ z) (Nat.le_refl _) ?_, rfl, q _ fr⟩
    refine ⟨by rw [List.length_map, sl]; omega, strValues l, 0, by rw [← e]; exact strs_of, Heap.get?_push_size _ rfl⟩
  have hsz2 : (Builtin.Str.partsBetween a (Builtin.Str.occurrences a b 0 a.length (a.length + 1)) b.length).length ≤ sizeLine := by
    rw [len_partsBetween]
    have := StrLaws.occ_length_le a b 0 a.length (a.length + 1)
    omega
  cases h1 : (decide (a.length < b.length) || decide (Builtin.Str.strKind a < Builtin.Str.strKind b))
  · cases hf : (Builtin.Str.occurrences a b 0 a.length (a.length + 1)).isEmpty
    · refine call_meets F.slot_str_split (typeIs_str _ _ _) F.entry_str_split (F.args_str_split_2 _ _) (meets_str_split_sep a b t t' h1 hy hf (by omega) hsz2) ?_
      show wants _ _ _ { s with toks := _, heap := s.heap.push { cls := .type "list", data := .seq (strsFrom s.toks (Builtin.Str.partsBetween a (Builtin.Str.occurrences a b 0 a.length (a.length + 1)) b.length)).toArray } }
      rw [strsFrom_eq]
      exact fin (numbered s.toks _) _ ((numbered_texts _ _).trans ((if_neg (ne_true_of_eq_false h1)).trans (if_neg (ne_true_of_eq_false hf))).symm)
    · exact call_meets F.slot_str_split (typeIs_str _ _ _) F.entry_str_split (F.args_str_split_2 _ _) (meets_str_split_not_found a b t t' h1 hy hf) (fin [(a, t)] s.toks ((if_neg (ne_true_of_eq_false h1)).trans (if_pos hf)).symm)
  · exact call_meets F.slot_str_split (typeIs_str _ _ _) F.entry_str_split (F.args_str_split_2 _ _) (meets_str_split_cannot_occur a b t t' h1) (fin [(a, t)] s.toks (if_pos h1).symm)
def rJoin (K : PySem.W.Frag) : V → List V → Hp → VK → Prop := fun x vs H Q => ∃ (a : Str) (p : Addr) (ts : List Str), x = .str a ∧ vs = [.ref p] ∧ SqL K H p (ts.map V.str) ∧ (ts.map (·.length)).sum + ts.length * a.length ≤ 1000000 ∧ Q (.str (Str.join a ts)) H
theorem mt_join : MtM X "str.join" (rJoin X.K) := by
  intro pins s σ H x vs v us Q I rx rv h
  obtain ⟨a, p, ts, rfl, rfl, hp, hz, q⟩ := h
  obtain ⟨t, rfl⟩ := rx
  obtain ⟨u, rfl, ru⟩ := rv.one
  cases ru
  obtain ⟨its, r, pl, _⟩ := I.list hp
  obtain ⟨l, rfl, e⟩ := strs_to r
  have sl : sizeLine = 16777216 := sizeLine_eq
  refine SC.join (texts := ts) pl.isList e ?_ fun t' k => ⟨.str _, H, I.tok _, ⟨t', ?_⟩, q⟩
  · unfold JoinOk
    rw [StrLaws.joinTotal, Bool.not_eq_true']
    unfold Builtin.Str.tooLong
    exact decide_eq_false (by omega)
  · show Value.str (Builtin.Str.glued a ts) t' = _
    rw [StrLaws.glued_eq_join]
/-! ## == of lists of rows that are alike -/
end
theorem joinK {X : Cx} (K : PySem.W.Frag) (h : X.K = K := by rfl) : MtM X "str.join" (rJoin K) := by subst h; exact mt_join
end L2

set_option Elab.async false
set_option linter.all false
set_option maxRecDepth 100000
namespace L2
open PySem PySem.Spec PyProof.Rows
/-! ## isinstance, of what is no exception -/
section
variable {X : Cx}
end
end L2

set_option Elab.async false
set_option linter.all false
set_option maxRecDepth 100000
namespace L2
open PySem PySem.Spec PyProof.Rows
/-! ## {x!r} of a text -/
section
variable {X : Cx} {e : Expr} {te : TE} {pos : Pos}
def tFmtR (te : TE) : TE := fun σ H Q => te σ H fun x H1 => ∃ y : Str, x = .str y ∧ (reprText y).length ≤ sizeLine ∧ Q (.str (reprText y)) H1
theorem pe_fmtR (he : PE X e te) : PE X (.FormattedValue e 114 none pos) (tFmtR te) := by
  intro pins s σ H Q I h
  refine wpAny_FormattedValue_repr (thn (he pins s σ H _ I h) fun v s1 ⟨x, H1, I1, r1, y, ex, hz, q⟩ => ?_)
  subst ex
  obtain ⟨tk, rfl⟩ := r1
  refine wpAny_pyReprObj_str (formatField_str (fun t' k => ⟨.str _, H1, I1.tok _, ⟨t', rfl⟩, q⟩) hz) hz
end
end L2

set_option Elab.async false
set_option linter.all false
set_option maxRecDepth 100000
namespace L2
open PySem PySem.Spec PyProof.Rows
/-! ## raise C(e) from None, within an except -/
theorem entry_unchain : entryFor table "proto.unchain" = some Builtin.«proto.unchain» := entryFor_of_tree (by kernel_rfl)
section
variable {prog : Program} {w : World} {A : Around} {E : Value → Shared → Prop} {s : Shared} {env : Env}
theorem raiseNew_ctx {α : Type} {e ha : Addr} {oh oe : Obj} {vh ve : Array Value} {Q : α → Shared → Prop} (hh : A.handled = some (.ref ha)) (hne : ha ≠ e) (ho : s.heap.get? ha = some oh) (hd : oh.data = .fields vh) (h2 : vh[2]? = some .none)
    (he : s.heap.get? e = some oe) (hde : oe.data = .fields ve) (hz : 2 < ve.size) (h : E (.ref e) { s with heap := s.heap.update e (Obj.mapFields (·.setIfInBounds 2 (.ref ha))) }) : wpAny (model prog w) A (raiseNew (.ref e) : Sem α) Q E s := by
  unfold raiseNew
  refine wpAny_bind (wpAny_handled ?_)
  rw [hh]
  dsimp only
  rw [if_pos (show (Value.ref ha != Value.ref e) = true by simpa using hne)]
  refine wpAny_bind (wpAny_holding (wpAny_runValue (codeAny_builtin entry_unchain ?_)))
  unfold Builtin.«proto.unchain»
  dsimp only
  refine wpAny_bind (wpAny_field ho hd h2 ?_)
  rw [if_pos (show (Value.none == Value.none) = true by decide)]
  refine wpAny_bind (wpAny_pure ?_)
  refine wpAny_pure ?_
  refine wpAny_bind ?_
  exact wpAny_setField (x := .ref ha) he hde hz (wpAny_throw h)
variable {nm q : Str} {C N : Addr} {bs bm bmB : List Value} {hdct : Bool} {sn : List Str} {sub : List Value} {ab : Bool} {col : Option Bool} {dd : Option Addr} {k0 k1 k2 k3 k5 : Option Value} {B newId initId : String}
theorem raiseStmt_from {x : Sem Value} {c : Sem Value} {ha : Addr} {Q : Flow → Shared → Prop} (hbase : bm.contains (.type "BaseException") = true) (hh : A.handled = some (.ref ha)) (hc : ∀ (Q : Value → Shared → Prop) (s : Shared), Q .none s → wpAny (model prog w) A c Q E s)
    (h : wpAny (model prog w) A x (fun v s₁ => ∃ e t, v = .ref e ∧ s₁.heap.get? C = some (excClassObj nm q C N bs bm hdct sn sub ab col dd k0 k1 k2 k3 k5 newId) ∧
      s₁.heap.get? e = some { cls := .ref C, data := .fields #[.ref t, .none, .none, .none, .bool false, .none] } ∧ ha ≠ e ∧ C ≠ e ∧ (∃ oh vh, s₁.heap.get? ha = some oh ∧ oh.data = .fields vh ∧ vh[2]? = some .none) ∧
      ∀ h', (∀ b o, b ≠ e → s₁.heap.get? b = some o → h'.get? b = some o) → h'.get? e = some { cls := .ref C, data := .fields #[.ref t, .none, .ref ha, .none, .bool true, .none] } → E (.ref e) { s₁ with heap := h' }) E s) :
    wpAny (model prog w) A (raiseStmt env (some x) (some c)) Q E s := by
  have hcB : (Value.ref C :: bm).contains (.type "BaseException") = true := by rw [List.contains_cons, hbase, Bool.or_true]
  unfold raiseStmt
  refine wpAny_bind (wpAny_mono h (fun v s₁ h₁ => ?_) fun _ _ x => x)
  obtain ⟨e, t, rfl, hC, he, hne, hCe, ⟨oh, vh, ho, hd, h2⟩, hE⟩ := h₁
  obtain ⟨hp, g, d, tk, os⟩ := s₁
  dsimp only at hC he ho hE
  refine wpAny_bind (wpAny_holding (hc _ _ (wpAny_bind (wpAny_pure ?_))))
  unfold excFromValue isExcClass
  repeat (first | with_reducible refine wpAny_loadPart_at he ?_ | with_reducible refine wpAny_loadPart_at hC ?_ | (with_reducible refine wpAny_isSubtype_exc hC ?_; rw [hcB]) | wp_step)
  have e1 : (hp.update e (Obj.mapFields fun x => x.setIfInBounds 3 Value.none)).get? e = some { cls := .ref C, data := .fields #[.ref t, .none, .none, .none, .bool false, .none] } := Heap.get?_update_self _ he rfl
  have e2 : ((hp.update e (Obj.mapFields fun x => x.setIfInBounds 3 Value.none)).update e (Obj.mapFields fun x => x.setIfInBounds 4 (Value.bool true))).get? e = some { cls := .ref C, data := .fields #[.ref t, .none, .none, .none, .bool true, .none] } := Heap.get?_update_self _ e1 rfl
  have o2 : ∀ b, b ≠ e → ((hp.update e (Obj.mapFields fun x => x.setIfInBounds 3 Value.none)).update e (Obj.mapFields fun x => x.setIfInBounds 4 (Value.bool true))).get? b = hp.get? b := fun b hb => by
    rw [Heap.get?_update_other _ _ (Ne.symm hb), Heap.get?_update_other _ _ (Ne.symm hb)]
  refine raiseNew_ctx hh hne ((o2 ha hne).trans ho) hd h2 e2 rfl (by simp) (hE _ (fun b o hb q => ?_) ?_)
  · show (Heap.update _ e _).get? b = _
    rw [Heap.get?_update_other _ _ (Ne.symm hb), o2 b hb]
    exact q
  · exact Heap.get?_update_self _ e2 rfl
theorem Raise_from (F : ExcBaseFacts B newId initId bmB) {mN : Str → Option Value} {x : Str} {np cpos npos pos : Pos} {k : Nat} {args : List Expr} {ha : Addr} {Q : Flow → Shared → Prop}
    (hbase : bm.contains (.type "BaseException") = true) (hh : A.handled = some (.ref ha)) (hplain : (backTo cpos (starEach args env)).any (·.1) = false) (hni : mN "__init__" = none)
    (h : wpAny (model prog w) A (eval (.Name x np) env) (fun f s₁ => f = .ref C ∧ wpAny (model prog w) A (evalArgs (.ref C) true (backTo cpos (starEach args env)) [])
      (fun a s₂ => a.kw = [] ∧ a.pos.length ≤ sizeLine ∧ s₂.heap.get? C = some (excClassObj nm q C N bs bm hdct sn sub ab col dd k0 k1 k2 k3 k5 newId) ∧ s₂.heap.Ns N mN ∧ OwnTail s₂.heap bmB bm ∧ (∃ oh vh, s₂.heap.get? ha = some oh ∧ oh.data = .fields vh ∧ vh[2]? = some .none) ∧
        ∀ h' e t, s₂.heap.get? e = none → (∀ b o, s₂.heap.get? b = some o → h'.get? b = some o) → h'.get? e = some { cls := .ref C, data := .fields #[.ref t, .none, .ref ha, .none, .bool true, .none] } → E (.ref e) { s₂ with heap := h' }) E s₁) E s) :
    wpAny (model prog w) A (exec (.Raise (some (.Call (.Name x np) args [] cpos)) (some (.Constant .none k npos)) pos) env) Q E s := by
  rw [arm_exec_Raise]
  refine wpAny_bind (wpAny_standAt ?_)
  simp only [evalOpt, Option.map]
  refine raiseStmt_from (C := C) (nm := nm) (q := q) (N := N) (bs := bs) (bm := bm) (hdct := hdct) (sn := sn) (sub := sub) (ab := ab) (col := col) (dd := dd) (k0 := k0) (k1 := k1) (k2 := k2) (k3 := k3) (k5 := k5) (newId := newId) hbase hh (fun Q s q => wpAny_bind (wpAny_Constant_none (wpAny_bind (wpAny_standAt (wpAny_pure q))))) ?_
  refine wpAny_bind (wpAny_mono (wpAny_Call_ofName (wpAny_mono h (fun f s₁ h₁ => ?_) fun _ _ x => x)) (fun v s₃ h₃ => wpAny_bind (wpAny_standAt (wpAny_pure h₃))) fun _ _ x => x)
  obtain ⟨rfl, h₁⟩ := h₁
  unfold callWith
  refine wpAny_bind (wpAny_holding (wpAny_mono h₁ (fun a s₂ h₂ => wpAny_bind (wpAny_standAt ?_)) fun _ _ x => x))
  obtain ⟨apos, akw⟩ := a
  obtain ⟨hkw, hlen, hC, hn, T, ⟨oh, vh, ho, hd, h2⟩, h₂⟩ := h₂
  obtain rfl : akw = [] := hkw
  obtain ⟨hp, g, d, tk, os⟩ := s₂
  simp only [hplain]
  refine wpAny_bind (wpAny_keeperOf_exc hC ?_)
  refine wpAny_bind (wpAny_call_exc_subT (hrest := hlen) F T hC hn hni fun h' e hm => wpAny_bind (wpAny_holding (wpAny_point (wpAny_pure ?_))))
  obtain ⟨t, ht, _, _⟩ := hm.there
  have ne1 : ∀ {b : Addr} {o : Obj}, hp.get? b = some o → b ≠ e := fun {b o} q z => by
    have := hm.new
    rw [← z, q] at this
    cases this
  refine ⟨e, t, rfl, hm.keeps _ _ hC, ht, ne1 ho, ne1 hC, ⟨oh, vh, hm.keeps _ _ ho, hd, h2⟩, fun h'' kp he => h₂ h'' e t hm.new (fun b o q => kp b o (ne1 q) (hm.keeps _ _ q)) he⟩
end
/-! ## str(e) of an own exception that was made with one text -/
structure ErrS (K : PySem.W.Frag) (C : Addr) : Prop where
  str : PySem.W.findIn K (.ref C) "__str__" = some (some (.builtin "BaseException.__str__"))
  mro : PySem.W.mroIn K C (.type "BaseException") = some true
theorem bs_bind (self : Value) : bindSpecial (.builtin "BaseException.__str__") self = pure (.builtin "BaseException.__str__", [self]) := PySem.F.excStr_ValueError.str.bind self
section
variable {prog : Program} {w : World} {A : Around} {E : Value → Shared → Prop} {s : Shared} {K : PySem.W.Frag} {e t C : Addr} {oe : Obj} {vs : Array Value} {y : Str} {k : Tok}
open Builtin Builtin.Str Builtin.BaseException Builtin.Exceptions PySem.W in
theorem call_bstr {Q : Value → Shared → Prop} (X : K.In s.heap) (c : ErrS K C) (he : s.heap.get? e = some oe) (hc : oe.cls = .ref C) (hd : oe.data = .fields vs) (h0 : vs[0]? = some (.ref t)) (ht : s.heap.TupAt t [.str y k]) (hq : Q (.str y k) s) :
    wpAny (model prog w) A (call (.builtin "BaseException.__str__") [.ref e]) Q E s := by
  have ty : ∀ M, Looks M s.heap (typeOf (.ref e)) (.ref C) := fun M => hc ▸ (Looks.ld he).andThen .now
  refine wpAny_call (codeAny_call_builtin PySem.F.excStr_ValueError.str.plain PySem.F.entry_bexc_str (check_slot (i := "BaseException.__str__") (owner := "BaseException") (n := "__str__") (by decide +kernel) (by decide +kernel) ((ty _).andThen (looks_mroIn X c.mro)) (PySem.F.args_bexc_str _) ?_))
  obtain ⟨ot, kk, hto, _, htd⟩ := ht
  unfold Builtin.«BaseException.__str__»
  have key : ∀ {M : Model} {A : Around} {Q : Value × List Value → Shared → Prop}, Q (.ref t, [.str y k]) s → wpAny M A (bexcArgs (.ref e)) Q (fun e s' => match (Except.error e : Result) with | .ok (.ret v) => Q (v, []) s' | .ok _ => False | .error e => E e s') s := fun {M A Q} hq => by
    unfold bexcArgs
    exact wpAny_bind (wpAny_field he hd h0 (wpAny_bind (wpAny_seqItems hto htd (wpAny_pure hq))))
  repeat (first | with_reducible refine key ?_ | wp_step)
  exact hq
open Builtin Builtin.Str Builtin.BaseException Builtin.Exceptions PySem.W in
theorem call_str_exc {Q : Value → Shared → Prop} (hu : A.in1.in1.units < cLine) (X : K.In s.heap) (c : ErrS K C) (he : s.heap.get? e = some oe) (hc : oe.cls = .ref C) (hd : oe.data = .fields vs) (h0 : vs[0]? = some (.ref t)) (ht : s.heap.TupAt t [.str y k]) (hq : Q (.str y k) s) :
    wpAny (model prog w) A (call (.type "str") [.ref e]) Q E s := by
  have ty : ∀ M, Looks M s.heap (typeOf (.ref e)) (.ref C) := fun M => hc ▸ (Looks.ld he).andThen .now
  refine callType_codes (T := "str") (Bi := Builtin.«object.__init__») (Q₁ := fun r s₁ => ∃ y u, r = .str y u ∧ Q r s₁) PySem.F.called_str (PySem.F.typeCall_str_1 _) PySem.F.entry_object_init ?_ ?_
  · refine codeAny_of_tree ?_
    show wpAny _ A.in1.in1 (do checkBuiltinCall "str.__new__" ⟨[.type "str", .ref e], []⟩; again (.builtin "str.__new__" ⟨[.type "str", .ref e], []⟩)) _ _ s
    refine wpAny_bind (wpAny_of_eq (PySem.F.newCall_str_1 _) (wpAny_pure ⟨plainId_quiet (by decide +kernel) _, codeAny_builtin PySem.F.entry_str_new ?_⟩))
    rw [Around.under_plainId (by decide +kernel) _]
    rw [str_new_tree]
    refine wpAny_bind (wpAny_pure ?_)
    refine wpAny_bind (wpAny_of_eq isSubtype_str_str ?_)
    have key : wpAny (model prog w) A.in1.in1 (PySem.Builtin.Str.strOf (.ref e)) (fun r s₁ => ∃ y u, r = .str y u ∧ Q r s₁) E s := by
      unfold PySem.Builtin.Str.strOf
      rw [show isExactStr (.ref e) = false from rfl]
      refine wpAny_bind (m := cRoomFor _ _) (wpAny_cRoomFor hu ?_)
      refine wpAny_bind (m := callSpecial? (.ref e) (Str.ofString "__str__")) ?_
      refine wpAny_bind (wpAny_bind ((ty _).here ((looks_findIn X c.str).here (wpAny_holding (wpAny_bind ((Looks.of_pure (bs_bind _)).here (wpAny_bind (call_bstr X c he hc hd h0 ht (wpAny_pure ?_)))))))))
      exact wpAny_pure ⟨_, _, rfl, hq⟩
    exact wpAny_bind (wpAny_mono key (fun r s₁ hr => wpAny_pure hr) fun _ _ y => y)
  · rintro obj s₁ ⟨y, u, rfl, hq⟩
    exact ⟨typeIs_str _ _ _, PySem.F.args_object_init_2 _ _, object_init_meets PySem.F.called_str.init.lookup PySem.F.called_str.made (by decide) prog w A.in1 _ s₁ ⟨typeIs_str _ _ _, rfl, hq⟩⟩
end
end L2

set_option Elab.async false
set_option linter.all false
set_option maxRecDepth 100000
namespace L2
open PySem PySem.Spec PyProof.Rows
/-! ## try: rows, loops; what comes is plain; the suite raises -/
section
variable {M : Model} {A : Around} {E : Value → Shared → Prop} {s : Shared} {L ea : Addr} {C : Value} {oo : Option Addr} {G : Addr → Prop}
theorem x_fly {fs : List Addr} {fl : Value} {Q : Unit → Shared → Prop} (x : XOn s.heap G ea C fl oo)
    (h : ∀ (h' : Heap) (S : List Addr), XTurn fs G s.heap h' S → XOn h' G ea C (rawInt L) oo → Q () { s with heap := h' }) : wpAny M A (setFlight (.ref ea) (some L)) Q E s := by
  obtain ⟨oe, vs, he, hc, hd, hsz, hg, pl, T, oT, ts, fl, h1, hne, hT, hdT, h3, hfl, gT⟩ := x
  have hs3 : 3 < ts.size := (Array.getElem?_eq_some_iff.mp h3).1
  unfold setFlight
  refine wpAny_bind (wpAny_field he hd h1 ?_)
  rw [if_pos (show (Value.ref T != Value.none) = true from by simp)]
  have oth : ∀ b, b ≠ T → (s.heap.update T (Obj.mapFields (·.setIfInBounds 3 ((some L : Option Addr).elim Value.none fun f => rawInt f)))).get? b = s.heap.get? b := fun b hb => Heap.get?_update_other _ _ (Ne.symm hb)
  have selfT : (s.heap.update T (Obj.mapFields (·.setIfInBounds 3 ((some L : Option Addr).elim Value.none fun f => rawInt f)))).get? T = some (Obj.mapFields (·.setIfInBounds 3 ((some L : Option Addr).elim Value.none fun f => rawInt f)) oT) :=
    Heap.get?_update_self _ hT (Obj.isFreed_of_fields (Obj.data_mapFields hdT _))
  refine wpAny_setField hT hdT hs3 (h _ [T] ⟨fun b hb => ?_, fun b o _ hS e => (oth b fun z => hS (by simp [z])).trans e, fun b o hS e => ⟨o.slots, (oth b fun z => hS (by simp [z])).trans e⟩, fun b o e => ?_⟩
    ⟨oe, vs, (oth ea (Ne.symm hne)).trans he, hc, hd, hsz, hg, fun z => (pl z).move (S := [T]) (fun b hb o e => by
      obtain rfl : b = T := by simpa using hb
      rw [hT] at e; cases e; exact ⟨ts, hdT⟩) fun b o hS e => ⟨o.slots, (oth b fun z => hS (by simp [z])).trans e⟩, T, _, _, _, h1, hne, selfT, Obj.data_mapFields hdT _, by simp [hs3], rfl, gT⟩)
  · obtain rfl : b = T := by simpa using hb
    exact ⟨gT, fun o e => by rw [hT] at e; cases e; exact ⟨ts, hdT⟩⟩
  · by_cases z : b = T
    · subst z; exact ⟨_, selfT⟩
    · exact ⟨o, (oth b z).trans e⟩
theorem x_back {fs : List Addr} {env : Env} {fl : Value} {E' : Value → Shared → Prop} (hf : env.frame = some L) (x : XOn s.heap G ea C fl oo)
    (h : ∀ (h' : Heap) (S : List Addr), XTurn fs G s.heap h' S → XOn h' G ea C (rawInt L) oo → E' (.ref ea) { s with heap := h' }) : cameBackBy M A env E' (.ref ea) s := by
  obtain ⟨oe, vs, he, hc, hd, hsz, hg, pl, T, oT, ts, fl', h1, r⟩ := id x
  unfold cameBackBy
  refine wpAny_bind (wpAny_field he hd h1 ?_)
  rw [if_neg (show ¬ ((Value.ref T == Value.none) = true) by simp)]
  rw [hf]
  exact x_fly x h
theorem x_pass {fs : List Addr} {env : Env} {fl : Value} {E' : Value → Shared → Prop} {Q : Flow → Shared → Prop} (hf : env.frame = some L) (x : XOn s.heap G ea C fl oo)
    (h : ∀ (h' : Heap) (S : List Addr), XTurn fs G s.heap h' S → XOn h' G ea C (rawInt L) oo → E' (.ref ea) { s with heap := h' }) {what : String} : wpAny M A (PySem.passOn what (.ref ea) env : Sem Flow) Q E' s := by
  obtain ⟨oe, vs, he, hc, hd, hsz, hg, pl, T, oT, ts, fl', h1, r⟩ := id x
  unfold PySem.passOn
  refine wpAny_bind (wpAny_field he hd h1 ?_)
  rw [if_neg (show ¬ ((Value.ref T == Value.none) = true) by simp)]
  rw [hf]
  exact wpAny_bind (x_fly x fun h' S t x' => wpAny_throw (h h' S t x'))
end
/-- within the rows of a try -/
abbrev Cx.catch (X : Cx) (p0 : List (Addr × Obj)) (EE : XK) : Cx :=
  { X with pn := X.pn ++ p0, xe := fun v s' => ∃ ea C o σ' H', v = .ref ea ∧ Inv X p0 σ' H' s' ∧ XRaw s'.heap (Gx X p0 H') X.env.locals ea C o ∧ EE C o H' }
/-- within the suite of an except that raises -/
abbrev Cx.heldC (X : Cx) (p0 : List (Addr × Obj)) (E : XK) (ea : Addr) : Cx :=
  { X with A := X.A.mark (some (.ref ea)), calm := false, pn := X.pn ++ p0, xe := fun v s' => ∃ ea C o σ' H', v = .ref ea ∧ Inv X p0 σ' H' s' ∧ XRaw s'.heap (Gx X p0 H') X.env.locals ea C o ∧ E C o H' }
/-- an exception of the class at C, made with one text, stands at a, its arguments at t -/
def ExcPl (a C t : Addr) (h : Heap) : Prop := ∃ o vs, h.get? a = some o ∧ (o.cls = .ref C ∧ o.dict = none) ∧ o.data = .fields vs ∧ vs[0]? = some (.ref t) ∧ vs[2]? = some .none
abbrev HO.excP (a C t : Addr) : HO := .ext (ExcPl a C t)
section
variable {X : Cx} {p0 pins : List (Addr × Obj)} {EE E : XK} {σ : St} {H : Hp} {s : Shared} {ea : Addr}
theorem Inv.catch (I : Inv X (p0 ++ pins) σ H s) : Inv (X.catch p0 EE) pins σ H s :=
  ⟨⟨I.ok.mod, I.ok.kind, I.ok.glob, I.ok.blt, I.ok.above, I.ok.inj, I.ok.has, I.ok.cab, I.ok.hd, I.ok.frames, I.ok.stk, I.ok.exf, I.ok.bs, I.ok.bsz, I.ok.noex, I.ok.exfs, I.ok.funs, I.ok.frf⟩,
    I.os, I.bare, I.base, I.loc, I.cell, I.free, I.freeC, fun p hp => I.pin p (by rw [← List.append_assoc]; exact hp), I.hok, I.len⟩
theorem Inv.uncatch (I : Inv (X.catch p0 EE) pins σ H s) : Inv X (p0 ++ pins) σ H s :=
  ⟨⟨I.ok.mod, I.ok.kind, I.ok.glob, I.ok.blt, I.ok.above, I.ok.inj, I.ok.has, I.ok.cab, I.ok.hd, I.ok.frames, I.ok.stk, I.ok.exf, I.ok.bs, I.ok.bsz, I.ok.noex, I.ok.exfs, I.ok.funs, I.ok.frf⟩,
    I.os, I.bare, I.base, I.loc, I.cell, I.free, I.freeC, fun p hp => I.pin p (by rw [← List.append_assoc] at hp; exact hp), I.hok, I.len⟩
theorem Inv.heldC (I : Inv X (p0 ++ pins) σ H s) : Inv (X.heldC p0 E ea) pins σ H s :=
  ⟨⟨I.ok.mod, I.ok.kind, I.ok.glob, I.ok.blt, I.ok.above, I.ok.inj, I.ok.has, I.ok.cab, (fun z => nomatch z), I.ok.frames, I.ok.stk, I.ok.exf, I.ok.bs, I.ok.bsz, I.ok.noex, I.ok.exfs, I.ok.funs, I.ok.frf⟩,
    I.os, I.bare, I.base, I.loc, I.cell, I.free, I.freeC, fun p hp => I.pin p (by rw [← List.append_assoc]; exact hp), I.hok, I.len⟩
theorem Inv.unheldC (hd : X.calm = true → X.A.handled = none) (I : Inv (X.heldC p0 E ea) pins σ H s) : Inv X (p0 ++ pins) σ H s :=
  ⟨⟨I.ok.mod, I.ok.kind, I.ok.glob, I.ok.blt, I.ok.above, I.ok.inj, I.ok.has, I.ok.cab, hd, I.ok.frames, I.ok.stk, I.ok.exf, I.ok.bs, I.ok.bsz, I.ok.noex, I.ok.exfs, I.ok.funs, I.ok.frf⟩,
    I.os, I.bare, I.base, I.loc, I.cell, I.free, I.freeC, fun p hp => I.pin p (by rw [← List.append_assoc] at hp; exact hp), I.hok, I.len⟩
theorem letsC : Lets (X.catch p0 EE) EE := fun pins σ H s ea C o I x q =>
  ⟨ea, C, o, σ, H, rfl, I.uncatch.unpinned, XObj.imp x (fun b z => ⟨z.1, z.2.1, fun p hp => z.2.2 p (List.mem_append_left _ hp)⟩) fun _ y => y.imp id fun y => XHead.imp y (fun b z => ⟨z.1, z.2.1, fun p hp => z.2.2 p (List.mem_append_left _ hp)⟩) fun _ z => z, q⟩
theorem letsH (hd : X.calm = true → X.A.handled = none) : Lets (X.heldC p0 E ea) E := fun pins σ H s ea C o I x q =>
  ⟨ea, C, o, σ, H, rfl, (I.unheldC hd).unpinned, XObj.imp x (fun b z => ⟨z.1, z.2.1, fun p hp => z.2.2 p (List.mem_append_left _ hp)⟩) fun _ y => y.imp id fun y => XHead.imp y (fun b z => ⟨z.1, z.2.1, fun p hp => z.2.2 p (List.mem_append_left _ hp)⟩) fun _ z => z, q⟩
theorem XOn.raw' {h : Heap} {G : Addr → Prop} {L ea : Addr} {C : Value} {o : Option Addr} (x : XOn h G ea C (rawInt L) o) : XRaw h G L ea C o :=
  XObj.imp x (fun _ z => z) fun _ y => .inr (XHead.imp y (fun _ z => z) fun _ z => .inr z)
theorem ownC (hex : X.ex = []) (hst : X.stack = X.env :: X.outer) (hfm : X.env.frame = some X.env.locals) : PassesOwn (model X.prog X.w) X.A X.env (X.catch p0 EE).xe := by
  rintro e s' ⟨ea, C, o, σ', H', rfl, I, x, q⟩
  refine x_note (base := X.base) (L := X.env.locals) (by rw [I.ok.frames, hst]) (by have := I.stack; rw [hst] at this; exact this) hfm (I.gxl hex) x fun h1 S1 t1 x1 => ?_
  have I1 := I.turn (t1.mono fun b hb => I.stkSub b (by rw [hst]; exact hb))
  refine x_back (s := { s' with heap := h1 }) (fs := []) hfm x1 fun h2 S2 t2 x2 => ?_
  have I2 := I1.turn (t2.mono fun b hb => absurd hb (by simp))
  exact ⟨ea, C, o, σ', H', rfl, I2, x2.raw', q⟩
/-- the name goes, and the exception's records stand -/
theorem XOn.same {h h' : Heap} {G : Addr → Prop} {L ea : Addr} {C fl : Value} {o : Option Addr} (x : XOn h G ea C fl o) (hn : ∃ m, h.Ns L m) (hs : Heap.SameBut L h h') : XOn h' G ea C fl o := by
  obtain ⟨oe, vs, he, hc, hd, hsz, hg, pl, T, oT, ts, fl', h1, hne, hT, hdT, r⟩ := x
  obtain ⟨m, oL, es, ep, hL, hdL, _⟩ := hn
  have nf : ∀ {b : Addr} {ob : Obj}, h.get? b = some ob → (∀ es ep, ob.data ≠ .dict es ep) → b ≠ L := fun {b ob} e nd z => by
    subst z
    rw [hL] at e
    cases e
    exact nd _ _ hdL
  refine ⟨oe, vs, (hs.2 ea (nf he fun _ _ z => by rw [hd] at z; cases z)).trans he, hc, hd, hsz, hg, fun z => ?_, T, oT, ts, fl', h1, hne, (hs.2 T (nf hT fun _ _ z => by rw [hdT] at z; cases z)).trans hT, hdT, r⟩
  obtain ⟨t, ot, n, y, k, a, b, c, d, e, f⟩ := pl z
  exact ⟨t, ot, n, y, k, a, b, (hs.2 t (nf c fun _ _ z => by rw [e] at z; cases z)).trans c, d, e, f⟩
variable {body : List Stmt} {b0 : Stmt} {suite : List Stmt} {cn n : Str} {Ch : Addr} {np hpos pos : Pos} {tb : XK → TS} {ts : Addr → TS} {j : Nat}
theorem goes_okS {M : Model} {A : Around} {E' : Value → Shared → Prop} {pins : List (Addr × Obj)} {σ : St} {H : Hp} {s : Shared} {Q : Unit → Shared → Prop} (I : Inv X pins σ H s) (hN : X.N.Nodup) (hj : X.N[j]? = some n) (hl : X.env.scope.names.lookup n = some .local)
    (h : ∀ s', Inv X pins (σ.set j none) H s' → Heap.SameBut X.env.locals s.heap s'.heap → Q () s') : wpAny M A (do bindName X.env n .none; unbindBehindTheSuite X.env n pos) Q E' s := by
  obtain ⟨m, hn, hv⟩ := id I.loc
  obtain ⟨oL, _, _, hoL, _⟩ := id hn
  refine wpAny_nameGoes_keeps hl hn (by rw [I.ok.kind]; rfl) fun h' v hn' hs => h _ ?_ hs
  have nb : ∀ b o, X.s₀.heap.get? b = some o → h'.get? b = s.heap.get? b := fun b o e => hs.2 b (Nat.ne_of_lt (Nat.lt_of_lt_of_le (Heap.lt_size e) I.ok.above))
  refine ⟨I.ok, I.os, I.bare, ⟨fun b o e nn hb hx => ?_, fun b o e nn hb hx => ?_, I.base.free, fun b o e hx => ?_, I.base.tups, I.base.frzs, I.base.tbls⟩, ⟨_, hn', fun i y v' e1 e2 e3 => ?_⟩, fun y c e => ?_, I.free, I.freeC, fun p hp => ?_, fun b ob e => ?_, by simpa using I.len⟩
  · exact (nb b o e).trans (I.base.keep b o e nn hb hx)
  · obtain ⟨sl, e1⟩ := I.base.slot b o e nn hb hx
    exact ⟨sl, (nb b o e).trans e1⟩
  · obtain ⟨o', e1⟩ := I.base.there b o e hx
    exact ⟨o', (nb b o e).trans e1⟩
  · have hij : j ≠ i := fun z => by
      subst z
      rw [List.getElem?_set] at e2
      split at e2
      · split at e2 <;> cases e2
      · rename_i z; exact z rfl
    rw [List.getElem?_set_ne hij] at e2
    obtain ⟨u, r, q⟩ := hv i y v' e1 e2 e3
    refine ⟨u, r, ?_⟩
    have hyn : y ≠ n := fun z => hij (nodup_ix hN hj (z ▸ e1))
    rcases q with ⟨k, e⟩ | ⟨k, c, e, z⟩
    · exact .inl ⟨k, by simp [hyn, e]⟩
    · exact .inr ⟨k, c, e, z.sameBut hs (I.cne y c e)⟩
  · obtain ⟨w', z⟩ := I.cell y c e
    exact ⟨w', z.sameBut hs (I.cne y c e)⟩
  · obtain ⟨e, nn, ne, nf, d⟩ := I.pin p hp
    exact ⟨(hs.2 p.1 ne).trans e, nn, ne, nf, d⟩
  · refine (I.hok b ob e).stay (fun c w' hc q => (hs.2 c ?_).trans q) (fun _ q => q) fun _ _ q => q
    rintro rfl
    rcases hc with z | hc
    · rw [← z, I.free] at e; cases e
    · rw [I.free] at hc; cases hc

/-- nothing but a raise ends it -/
def noEnds : Ends := { nx := fun _ _ => False, rt := fun _ _ => False, bk := fun _ _ => False, ct := fun _ _ => False }
/-- try: rows, except C as name: a suite that raises -/
def tTryB (tb : XK → TS) (K : PySem.W.Frag) (Ch : Addr) (j : Nat) (ts : Addr → TS) : TS := fun D σ H => tb (fun C o H' => ∃ Ce, C = .ref Ce ∧ PySem.W.subIn K (.ref Ce) (.ref Ch) = some true ∧ o = none ∧
  ∀ (σ' : St) ea t y, σ'.length = σ.length → H' ea = none → H' t = none → t ≠ ea → ts ea noEnds (σ'.set j (some (.ref ea))) (upd (upd H' t (.tup [.str y])) ea (HO.excP ea Ce t))) D σ H
theorem SP.uncatch {D : Ends} {f : Flow} {s' : Shared} (h : SP (X.catch p0 EE) [] D f s') : SP X p0 D f s' := by
  cases f with
  | next => obtain ⟨σ', H', I, q⟩ := h; exact ⟨σ', H', I.uncatch.unpinned, q⟩
  | brk => obtain ⟨σ', H', I, q⟩ := h; exact ⟨σ', H', I.uncatch.unpinned, q⟩
  | cont => obtain ⟨σ', H', I, q⟩ := h; exact ⟨σ', H', I.uncatch.unpinned, q⟩
  | ret u => obtain ⟨v, σ', H', I, r, q⟩ := h; exact ⟨v, σ', H', I.uncatch.unpinned, r, q⟩
theorem ps_tryB (hex : X.ex = []) (hst : X.stack = X.env :: X.outer) (hfm : X.env.frame = some X.env.locals) (hL : Lets X E) (c : Err X.K Ch) (hg : Gl X cn) (hm : X.mg cn = some (.ref Ch)) (hN : X.N.Nodup) (hj : X.N[j]? = some n) (hl : X.env.scope.names.lookup n = some .local)
    (hb : ∀ p0 EE, PSs (X.catch p0 EE) body (tb EE)) (hs : ∀ p0 ea, PSs (X.heldC p0 E ea) (b0 :: suite) (ts ea)) (hdb : (cn == ("__debug__" : Str)) = false := by decide) :
    PS X (.Try body [.ExceptHandler (some (.Name cn np)) (some n) (b0 :: suite) hpos] [] [] pos) (tTryB tb X.K Ch j ts) := by
  intro pins s σ H D I h
  refine wpAny_Try_except (wpAny_mono (hb pins _ [] s σ H D (Inv.catch (by rw [List.append_nil]; exact I)) h) (fun f s1 q => ?_) (fun v s1 ⟨ea, C, oo, σ', H', e, I', x, Ce, hC, hsub, ho, q⟩ => ?_))
  · have q := SP.uncatch q
    cases f with
    | next => exact wpAny_execs_nil q
    | brk => exact q
    | cont => exact q
    | ret u => exact q
  · subst e hC ho
    refine x_note (base := X.base) (L := X.env.locals) (by rw [I'.ok.frames, hst]) (by have := I'.stack; rw [hst] at this; exact this) hfm (I'.gxl hex) x fun h1 S1 t1 x1 => ?_
    have I1 := I'.turn (t1.mono fun b hb => I'.stkSub b (by rw [hst]; exact hb))
    refine x_flight (s := { s1 with heap := h1 }) (fs := []) x1 fun h2 S2 t2 x2 => ?_
    have I2 := I1.turn (t2.mono fun b hb => absurd hb (by simp))
    refine wpAny_handleBy_cons (codeAny_handlers_test (ld_glob (X := X.held ea) (I2.held ea) hg hm ?_ hdb)) (by intro q; cases q)
    obtain ⟨oe, vs, he, hc, hd⟩ := id x2
    refine x_matches I2.kIn c hsub he hc.1 ?_
    refine codeAny_handlers_suite_as ?_
    refine x_flight (s := { s1 with heap := h2 }) (fs := []) x2 fun h3 S3 t3 x3 => ?_
    have I3 := I2.turn (t3.mono fun b hb => absurd hb (by simp))
    obtain ⟨oe3, vs3, he3, hc3, hd3, hz3, g3, pl3, _⟩ := id x3
    obtain ⟨t, ot, nn, y, k, a0, a2, ht, hct, hdt, gt⟩ := pl3 rfl
    have nL : ∀ {b : Addr} {ob : Obj}, h3.get? b = some ob → (∀ es ep, ob.data ≠ .dict es ep) → b ≠ X.env.locals := fun {b ob} e nd z => by
      obtain ⟨m0, ⟨oL, _, _, hoL, hdL, _⟩, _⟩ := id I3.loc
      rw [z] at e
      have e := e.symm.trans hoL
      cases e
      exact nd _ _ hdL
    have nC : ∀ {b : Addr} {ob : Obj}, h3.get? b = some ob → (∀ v, ob.data ≠ .cell v) → ∀ x c, X.env.cells.lookup x = some c → c ≠ b := fun {b ob} e nd x c ec z => by
      obtain ⟨v, o, ho, hdc⟩ := I3.cell x c ec
      rw [z] at ho
      have e := e.symm.trans ho
      cases e
      exact nd _ hdc
    have nte : t ≠ ea := fun z => by
      rw [z, he3] at ht
      cases ht
      rw [hd3] at hdt; cases hdt
    have okt : ObjOk X.prog X.w (upd H' t (.tup [.str y])) h3 t (.tup [.str y]) := ⟨by rw [sizeLine_eq]; show 1 ≤ 16777216; decide, [.str y k], .cons ⟨k, rfl⟩ .nil, ot, ht, hct, nn, hdt⟩
    have It := I3.track (o := .tup [.str y]) gt (nL ht fun _ _ z => by rw [hdt] at z; cases z) (nC ht fun _ z => by rw [hdt] at z; cases z) okt
    have ok : ObjOk X.prog X.w (upd (upd H' t (.tup [.str y])) ea (HO.excP ea Ce t)) h3 ea (HO.excP ea Ce t) :=
      ⟨⟨oe3, vs3, he3, hc3, hd3, a0, a2⟩, ⟨_, he3⟩, fun g1 g2 ⟨o, vs, a, b, c⟩ k => ⟨o, vs, k _ a, b, c⟩⟩
    have I4 := It.track (o := HO.excP ea Ce t) ⟨g3.1, by rw [upd_ne (Ne.symm nte)]; exact g3.2.1, g3.2.2⟩ (nL he3 fun _ _ z => by rw [hd3] at z; cases z) (nC he3 fun _ z => by rw [hd3] at z; cases z) ok
    refine store_ok (X := X.held ea) (v := .ref ea) (i := j) (I4.held ea) hN hj (.inl hl) rfl (fun s5 I5 => ?_) (.inr hl)
    have I5' := I5.unheld I.ok.hd
    refine wpAny_mono (hs pins ea [] s5 _ _ _ (Inv.heldC (by rw [List.append_nil]; exact I5')) (q σ' ea t y (by rw [I'.len, I.len]) g3.2.1 gt.2.1 nte)) (fun f s6 q6 => ?_) fun v s6 ⟨ex, C6, o6, σ6, H6, ev, I6, x6, q6⟩ => ?_
    · cases f with
      | next => obtain ⟨σ6, H6, I6, q6⟩ := q6; exact q6.elim
      | brk => obtain ⟨σ6, H6, I6, q6⟩ := q6; exact q6.elim
      | cont => obtain ⟨σ6, H6, I6, q6⟩ := q6; exact q6.elim
      | ret u => obtain ⟨v6, σ6, H6, I6, r6, q6⟩ := q6; exact q6.elim
    · subst ev
      have frs : ∀ {σ H s}, Inv X pins σ H s → (X.A.mark (some (.ref ea))).frames = some (X.env :: X.outer) := fun I => by
        have := I.ok.frames
        rw [hst] at this
        exact this
      refine x_note (base := X.base) (L := X.env.locals) (frs I6) (by have := I6.stack; rw [hst] at this; exact this) hfm (I6.gxl hex) x6 fun h7 S7 t7 x7 => ?_
      have I7 := I6.turn (t7.mono fun b hb => I6.stkSub b (by rw [hst]; exact hb))
      refine goes_okS (s := { s6 with heap := h7 }) I7 hN hj hl fun s8 I8 sb => ?_
      have x8 := x7.same (let ⟨m, a, _⟩ := I7.loc; ⟨m, a⟩) sb
      refine x_pass (fs := []) hfm x8 fun h9 S9 t9 x9 => ?_
      have I9 := I8.turn (t9.mono fun b hb => absurd hb (by simp))
      refine x_note (s := { s8 with heap := h9 }) (base := X.base) (L := X.env.locals) (frs I9) (by have := I9.stack; rw [hst] at this; exact this) hfm (I9.gxl hex) x9.raw' fun h10 S10 t10 x10 => ?_
      have I10 := I9.turn (t10.mono fun b hb => I9.stkSub b (by rw [hst]; exact hb))
      refine x_back (s := { s8 with heap := h10 }) (fs := []) hfm x10 fun h11 S11 t11 x11 => ?_
      have I11 := I10.turn (t11.mono fun b hb => absurd hb (by simp))
      exact hL pins _ H6 _ ex C6 o6 I11 x11.raw' q6
/-- raise C(e) from None -/
def tRaiseF (ea : Addr) (ta : TA) (C : Addr) (E : XK) : TS := fun _ σ H => ta σ H fun xs H1 => xs.length ≤ sizeLine ∧ (∃ Ce t, H1 ea = some (HO.excP ea Ce t)) ∧ E (.ref C) (some 0) H1
theorem ps_raiseF {x : Str} {C : Addr} {e : Expr} {es : List Expr} {ta : TA} {np cpos npos pos : Pos} {k : Nat} (hex : X.ex = []) (hL : Lets X E) (hh : X.A.handled = some (.ref ea)) (c : Err X.K C) (hg : Gl X x) (hm : X.mg x = some (.ref C)) (ha : PA X (e :: es) ta) (hdb : (x == ("__debug__" : Str)) = false := by decide)
    (he : starEach (e :: es) X.env = (false, eval e X.env) :: starEach es X.env := by rfl) (hpl : (backTo cpos (starEach es X.env)).any (·.1) = false := by rfl) :
    PS X (.Raise (some (.Call (.Name x np) (e :: es) [] cpos)) (some (.Constant .none k npos)) pos) (tRaiseF ea ta C E) := by
  intro pins s σ H D I h
  obtain ⟨bm, N, nm, qn, bs, hd, sn, sub, ab, col, dd, k0, k1, k2, k3, k5, O⟩ := exc_obj c.ex
  obtain ⟨_, o2, o3, _⟩ := O X.base I.mod.kin
  have hN : X.base.Ns N (X.base.nsMap N) := .of_isNs o2
  refine Raise_from (C := C) (nm := nm) (q := qn) (N := N) (bs := bs) (bm := bm) (hdct := hd) (sn := sn) (sub := sub) (ab := ab) (col := col) (dd := dd) (k0 := k0) (k1 := k1) (k2 := k2) (k3 := k3) (k5 := k5)
    PySem.F.excBase_ValueError (mN := X.base.nsMap N) ((O X.base I.mod.kin).2.2.2.hasType PySem.F.excBase_ValueError.hasBase) hh (by rw [he]; show (false || (backTo cpos (starEach es X.env)).any (·.1)) = false; rw [hpl]; rfl) o3 (ld_glob I hg hm ⟨rfl, ?_⟩ hdb)
  have h1 := ha cpos pins s σ H _ I h
  rw [he] at h1 ⊢
  refine Calls.evalArgs_plain (wpAny_mono h1 (fun us s2 ⟨xs, H2, I2, r, z, ⟨Ce, t, hx⟩, q⟩ => ⟨rfl, by rw [← r.length]; exact z, (O _ I2.kIn).1, hN.keeps I2.bk, (O _ I2.kIn).2.2.2, ?_, fun h' e' t' new kp he' => ?_⟩) fun _ _ y => y)
  · obtain ⟨⟨o, vs, a, _, b, _, d⟩, _⟩ := I2.hok _ _ hx
    exact ⟨o, vs, a, b, d⟩
  · have I3 := I2.kept (t' := s2.toks) kp
    exact hL pins σ H2 _ e' (.ref C) (some 0) I3 ⟨_, _, he', ⟨rfl, rfl⟩, rfl, by simp, I2.gx hex e' new, (fun z => nomatch z), .inl rfl⟩ q
/-- str(e) -/
def rStrX (K : PySem.W.Frag) : List V → Hp → VK → Prop := fun xs H Q => ∃ e Ce t y, xs = [.ref e] ∧ H e = some (HO.excP e Ce t) ∧ H t = some (.tup [.str y]) ∧ ErrS K Ce ∧ Q (.str y) H
theorem call_strX (hu : X.A.units + 64 < cLine) : CallR X (.type "str") (rStrX X.K) := by
  intro pins s σ H xs us Q I r h
  obtain ⟨e, Ce, t, y, rfl, hx, ht, c, q⟩ := h
  obtain ⟨u, rfl, ru⟩ := vals1 r
  cases ru
  obtain ⟨⟨o, vs, a, b, d, e0, _⟩, _⟩ := I.hok _ _ hx
  obtain ⟨_, its, rv, ot, h1, h2, nn, h3⟩ := I.hok _ _ ht
  obtain ⟨w, rfl, k, rfl⟩ := vals1 rv
  exact call_str_exc (by show X.A.units + 1 + 1 < cLine; omega) I.kIn c a b.1 d e0 ⟨ot, nn, h1, h2, h3⟩ ⟨.str y, H, I, ⟨k, rfl⟩, q⟩
end
theorem strXK {X : Cx} (K : PySem.W.Frag) (hu : X.A.units + 64 < cLine) (h : X.K = K := by rfl) : CallR X (.type "str") (rStrX K) := by subst h; exact call_strX hu
end L2

set_option Elab.async false
set_option linter.all false
set_option maxRecDepth 100000
namespace L2
open PySem PySem.Spec PyProof.Rows
/-! ## slices of a text -/
def cutS (x : Str) (lo hi : Option Int) : Str := ⟨((x.cps.toList.drop (HT.sIx x.length 0 lo)).take (HT.sIx x.length x.length hi - HT.sIx x.length 0 lo)).toArray⟩
theorem sIx_le (n d : Nat) (hd : d ≤ n) (v : Option Int) : HT.sIx n d v ≤ n := by
  cases v with
  | none => exact hd
  | some i =>
    unfold HT.sIx
    simp only
    split <;> omega
theorem str_indices (lo hi : Option Int) (n : Nat) : Builtin.Str.strSliceIndices lo hi 1 n = (List.range (HT.sIx n n hi - HT.sIx n 0 lo)).map (HT.sIx n 0 lo + ·) := by
  rw [← sliceRange_one]
  unfold Builtin.Str.strSliceIndices
  simp only [show (1 : Int) > 0 by decide, if_true]
  congr 1
  · cases lo with
    | none => simp [HT.sIx]
    | some i =>
      simp only [HT.sIx]
      by_cases h : i < 0
      · simp only [h, if_true] <;> omega
      · simp only [h, if_false] <;> omega
  · cases hi with
    | none => simp [HT.sIx]
    | some i =>
      simp only [HT.sIx]
      by_cases h : i < 0
      · simp only [h, if_true] <;> omega
      · simp only [h, if_false] <;> omega
theorem part_of {v : Value} {o : Option Int} (p : IsPart v o) : ∃ l : Option (Int × Tok), v = partValue l ∧ l.map (·.1) = o := by
  cases p with
  | none => exact ⟨none, rfl, rfl⟩
  | int i t => exact ⟨some (i, t), rfl, rfl⟩
section
variable {X : Cx}
def rSlS : V → Option Int → Option Int → Hp → VK → Prop := fun x lo hi H Q => ∃ z : Str, x = .str z ∧ z.length ≤ sizeLine ∧ Q (.str (cutS z lo hi)) H
theorem sl_str : SlR X rSlS := by
  intro pins s σ H x v vl vu lo hi sl Q I rx hs pl pu h
  obtain ⟨z, rfl, hz, q⟩ := h
  obtain ⟨t, rfl⟩ := rx
  obtain ⟨l, rfl, rfl⟩ := part_of pl
  obtain ⟨u, rfl, rfl⟩ := part_of pu
  refine ⟨"str", _, F.slot_str_getitem.lookup, typeIs_str _ _ _, wpAny_getItem_str_slice (st := none) hs rfl ?_⟩
  have e : slicePicked z l u none = (List.range (HT.sIx z.length z.length (u.map (·.1)) - HT.sIx z.length 0 (l.map (·.1)))).map (HT.sIx z.length 0 (l.map (·.1)) + ·) := str_indices _ _ _
  unfold sliceMade
  rw [e]
  have pk := pick_run z.cps (HT.sIx z.length 0 (l.map (·.1))) (HT.sIx z.length z.length (u.map (·.1)) - HT.sIx z.length 0 (l.map (·.1)))
  rw [pk]
  split
  · rename_i c
    have c2 : HT.sIx z.length z.length (u.map (·.1)) - HT.sIx z.length 0 (l.map (·.1)) = z.length := by
      simp only [Bool.and_eq_true, beq_iff_eq, List.length_map, List.length_range] at c
      exact c.2
    have e2 : cutS z (l.map (·.1)) (u.map (·.1)) = z := by
      have b := sIx_le z.length z.length (Nat.le_refl _) (u.map (·.1))
      unfold cutS
      rw [c2]
      by_cases z0 : z.length = 0
      · have z1 : z.cps.toList = [] := List.eq_nil_of_length_eq_zero z0
        rw [z1]
        simp only [List.drop_nil, List.take_nil]
        apply Str.ext'
        apply Array.ext'
        rw [z1]
      · have a0 : HT.sIx z.length 0 (l.map (·.1)) = 0 := by omega
        rw [a0, List.drop_zero, List.take_of_length_le (show z.cps.toList.length ≤ z.length from Nat.le_refl _)]
    rw [e2] at q
    exact ⟨.str z, H, I, ⟨t, rfl⟩, q⟩
  · refine ⟨?_, ⟨.str _, H, I.tok _, ⟨_, rfl⟩, q⟩⟩
    refine Nat.le_trans ?_ hz
    show (List.take _ _).length ≤ z.length
    rw [List.length_take, List.length_drop]
    have : z.cps.toList.length = z.length := rfl
    omega
end
/-! ## a walk over the signs of a text -/
def Itx (x : Str) : It where
  go := fun i _ => i < x.cps.size
  yld := fun i H v H' => H' = H ∧ ∃ c, x.cps[i]? = some c ∧ v = .str ⟨#[c]⟩
  stop := fun i _ => x.cps.size ≤ i
theorem turn_text {P : Program} {w : World} {K : PySem.W.Frag} {tg : Expr} (it : Addr) (x : Str) (t : Tok) (ty : String) (hy : ty = "str_ascii_iterator" ∨ ty = "str_iterator") : Turn P w K tg (Itx x) [it] it (fun i h => h.IsStrIter it ty x t i) where
  mem := by simp
  obj := fun i h st b hb => by
    have e : b = it := by simpa using hb
    subst e
    obtain ⟨o, e, c, d⟩ := st
    exact ⟨o, e, fun v z => by rw [d] at z; cases z⟩
  keep := fun i h h' st k => let ⟨o, e, r⟩ := st; ⟨o, k it (by simp) o e, r⟩
  item := by
    intro X hP hw hK hc i pins s σ H E I hf st hg
    subst hP hw hK
    obtain ⟨f0, f1, f2, f3, f4, f5⟩ := hf it (by simp)
    have hg : i < x.cps.size := hg
    have go : ∀ (h' : Heap), h'.IsStrIter it ty x t (i + 1) → Heap.SameBut it s.heap h' → ∃ u, some (Value.str ⟨#[x.cps[i]]⟩ s.toks) = some u ∧
        wpAny (model X.prog X.w) X.A (letOwnedTupleGo tg (.ref it) u) (fun _ s2 => ∃ v H', Inv X pins σ H' s2 ∧ RelV v u ∧ (Itx x).yld i H v H' ∧ s2.heap.IsStrIter it ty x t (i + 1) ∧ ∀ b ∈ [it], H' b = none) E { s with heap := h', toks := s.toks + 1 } := fun h' st' sb => by
      have I1 : Inv X pins σ H { s with heap := h', toks := s.toks + 1 } := I.turned (fun b o hb e => (sb.2 b hb).trans e) f0 f1 f3 f4 f5
      obtain ⟨o, e, c, d⟩ := id st'
      exact ⟨_, rfl, go_of (s := { s with heap := h', toks := s.toks + 1 }) e c d (by rcases hy with rfl | rfl <;> decide) ⟨.str ⟨#[x.cps[i]]⟩, H, I1, ⟨_, rfl⟩, ⟨rfl, _, by simp [hg], rfl⟩, st', fun b hb => (hf b hb).1⟩⟩
    rcases hy with rfl | rfl
    · exact wpAny_pyNext_ascii_item st (c := x.cps[i]) (by simp [hg]) go
    · exact wpAny_pyNext_wide_item st (c := x.cps[i]) (by simp [hg]) go
  done := by
    intro X hP hw hK hc i pins s σ H E I hf st hg
    subst hP hw hK
    obtain ⟨f0, f1, f2, f3, f4, f5⟩ := hf it (by simp)
    have hg : x.cps.size ≤ i := hg
    rcases hy with rfl | rfl
    · exact wpAny_pyNext_ascii_end (I.ok.hd hc) st (by simp [hg]) fun h' eb => ⟨rfl, I.turned (t' := s.toks) (fun b o hb e => eb b o hb e) f0 f1 f3 f4 f5⟩
    · exact wpAny_pyNext_wide_end (I.ok.hd hc) st (by simp [hg]) fun h' eb => ⟨rfl, I.turned (t' := s.toks) (fun b o hb e => eb b o hb e) f0 f1 f3 f4 f5⟩
  self := fun _ _ _ _ _ st h => by
    rcases hy with rfl | rfl
    · exact wpAny_pyIter_striter_ascii st h
    · exact wpAny_pyIter_striter_wide st h
section
variable {X : Cx} {tg : Expr}
def iText (tl : TE) : TI := fun σ H R => tl σ H fun x H1 => ∃ z : Str, x = .str z ∧ R (Itx z) H1
theorem pi_text {l : Expr} {tl : TE} (hl : PE X l tl) : PI X tg l (iText tl) := by
  intro pins s σ H R I h
  refine thn (hl pins s σ H _ I h) fun v s1 ⟨x, H1, I1, r1, q1⟩ => ?_
  obtain ⟨z, e, q⟩ := q1
  subst e
  obtain ⟨t, rfl⟩ := r1
  have fin : ∀ b ∈ [s1.heap.objs.size], FpOk X pins H1 b := fun b hb => by
    have e : b = s1.heap.objs.size := by simpa using hb
    subst e
    exact I1.fpOk (Nat.le_refl _) (I1.hok.fresh (Nat.le_refl _))
  cases ha : z.cps.all (· < 128)
  · exact wpAny_pyIter_wide ha ⟨s1.heap.objs.size, [s1.heap.objs.size], _, _, H1, rfl, I1.kept (t' := s1.toks) fun b o e => Heap.get?_push_of_some _ e, turn_text _ z t _ (.inr rfl), ⟨_, Heap.get?_push_size _ rfl, rfl, rfl⟩, fin, q⟩
  · exact wpAny_pyIter_ascii ha ⟨s1.heap.objs.size, [s1.heap.objs.size], _, _, H1, rfl, I1.kept (t' := s1.toks) fun b o e => Heap.get?_push_of_some _ e, turn_text _ z t _ (.inl rfl), ⟨_, Heap.get?_push_size _ rfl, rfl, rfl⟩, fin, q⟩
end
theorem for_text {x : Str} {g : TG} {tb : TS} {D : Ends} {σ : St} {H : Hp} (Pv : Nat → St → Hp → Prop) (h0 : Pv 0 σ H)
    (hs : ∀ i c σ H, x.cps[i]? = some c → Pv i σ H → g (.str ⟨#[c]⟩) σ H fun σ2 H2 => tb { D with nx := Pv (i + 1), ct := Pv (i + 1), bk := D.nx } σ2 H2) (hd : ∀ σ H, Pv x.cps.size σ H → D.nx σ H) :
    ∃ W : Nat → Nat → St → Hp → Prop, (∃ m, W 0 m σ H) ∧ ∀ i m σ H, W i m σ H →
      ((Itx x).stop i H ∧ D.nx σ H) ∨ ((Itx x).go i H ∧ ∃ N : St → Hp → Prop, (∀ σ' H', N σ' H' → ∃ m', m' < m ∧ W (i + 1) m' σ' H') ∧ ∀ v H', (Itx x).yld i H v H' → g v σ H' fun σ2 H2 => tb { D with nx := N, ct := N, bk := D.nx } σ2 H2) := by
  refine ⟨fun i m σ H => m = x.cps.size - i ∧ i ≤ x.cps.size ∧ Pv i σ H, ⟨x.cps.size, by simp, Nat.zero_le _, h0⟩, ?_⟩
  rintro i m σ H ⟨rfl, hi, p⟩
  by_cases hlt : i < x.cps.size
  · refine .inr ⟨hlt, Pv (i + 1), fun σ' H' p' => ⟨x.cps.size - (i + 1), by omega, rfl, hlt, p'⟩, fun v H' y => ?_⟩
    obtain ⟨rfl, c, e, rfl⟩ := y
    exact hs i c σ _ e p
  · refine .inl ⟨Nat.not_lt.mp hlt, hd σ H ?_⟩
    have : i = x.cps.size := by omega
    rw [← this]
    exact p
theorem piLK {X : Cx} {tg l : Expr} {tl : TE} (K : PySem.W.Frag) (hl : PE X l tl) (h : X.K = K := by rfl) : PI X tg l (iList K tl) := by subst h; exact pi_list hl
/-! ## int(text) -/
theorem call_int_num {X : Cx} : CallR X (.type "int") (fun xs H Q => ∃ n : Int, xs = [.str (Str.ofString (toString n))] ∧ 0 ≤ n ∧ n < 10000000000 ∧ Q (.int n) H) := by
  intro pins s σ H xs us Q I r h
  obtain ⟨n, rfl, h0, h1, q⟩ := h
  obtain ⟨u, rfl, t, rfl⟩ := vals1 r
  exact PySem.W.KIN.call_num h0 h1 ⟨.int n, H, I.tok _, ⟨_, rfl⟩, q⟩
end L2

namespace Sw
/-- a pipe: from, to, open -/
abbrev P := Int × Int × Bool

/-! ### the law's own water -/
/-! ### rising lists -/
end Sw

namespace Sw
/-! ### needed pipes -/
end Sw

namespace Sw
/-- a pipe of a net with so many places -/
def Ok (n : Int) (x : P) : Prop := ((0 ≤ x.1 ∧ x.1 < n) ∧ 0 ≤ x.2.1 ∧ x.2.1 < n) ∧ x.1 ≠ x.2.1
end Sw

namespace Sw
end Sw

/-! flows: lists of pipes, what enters less what leaves -/
namespace Sw
end Sw

namespace Sw
/-! ### pipes turned round -/
/-! ### toggling -/
/-! ### flows -/
end Sw

namespace Sw
end Sw

namespace Sw
end Sw

namespace Sw
end Sw

namespace Sw
end Sw

set_option Elab.async false
set_option linter.all false
set_option maxRecDepth 100000
/-! ## The program's data on the abstract heap -/
namespace Sp
open PySem L2

/-- all but S stands; tuples and what is known stand anyway -/
structure Ext (S : List Addr) (H H' : Hp) : Prop where
  keep : ∀ b o, H b = some o → b ∉ S → H' b = some o
  tups : ∀ b xs, H b = some (.tup xs) → H' b = some (.tup xs)
  frzs : ∀ b o u, H b = some (.frz o u) → H' b = some (.frz o u)
theorem Ext.refl {S : List Addr} {H : Hp} : Ext S H H := ⟨fun _ _ e _ => e, fun _ _ e => e, fun _ _ _ e => e⟩
theorem Ext.trans {S : List Addr} {H H1 H2 : Hp} (a : Ext S H H1) (b : Ext S H1 H2) : Ext S H H2 := ⟨fun c o e n => b.keep c o (a.keep c o e n) n, fun c xs e => b.tups c xs (a.tups c xs e), fun c o u e => b.frzs c o u (a.frzs c o u e)⟩
theorem Ext.mono {S S' : List Addr} {H H' : Hp} (a : Ext S H H') (h : ∀ b, b ∈ S → b ∈ S') : Ext S' H H' := ⟨fun c o e n => a.keep c o e fun z => n (h c z), a.tups, a.frzs⟩
theorem Ext.of_same {S : List Addr} {H H' : Hp} (a : Same H H') : Ext S H H' := ⟨fun b o e _ => a b o e, fun b xs e => a b _ e, fun b o u e => a b _ e⟩
theorem Ext.new {S : List Addr} {H : Hp} {p : Addr} {o : HO} (h : H p = none) : Ext S H (upd H p o) :=
  Ext.of_same fun b u e => by rw [upd_ne (ne_of_none e h)]; exact e
theorem Ext.put {S : List Addr} {H : Hp} {p : Addr} {o u : HO} (h : H p = some u) (hS : p ∈ S) (hu : ∀ xs, u ≠ .tup xs) (hf : ∀ o' u', u ≠ .frz o' u') : Ext S H (upd H p o) :=
  ⟨fun b v e n => by rw [upd_ne (fun (z : b = p) => n (by rw [z]; exact hS))]; exact e, fun b xs e => by
    rw [upd_ne (fun z => by subst z; rw [h] at e; exact hu xs (Option.some.inj e))]; exact e, fun b o' u' e => by
    rw [upd_ne (fun z => by subst z; rw [h] at e; exact hf o' u' (Option.some.inj e))]; exact e⟩
theorem Ext.putL {S : List Addr} {H : Hp} {p : Addr} {xs : List V} {o : HO} (h : H p = some (.lst xs)) (hS : p ∈ S) : Ext S H (upd H p o) := Ext.put h hS (by intro xs z; cases z) (by intro a b z; cases z)
/-- a list of ints that nobody writes: the script -/
def ScrAt (K : PySem.W.Frag) (H : Hp) (a : Addr) (xs : List V) : Prop := (∃ o, H a = some (.frz o (.lst xs))) ∨
  ∃ (o : Obj) (its : Array Value) (n : Nat), K.lookup a = some o ∧ o.cls = .type "list" ∧ o.dict = none ∧ o.data = .seq its n ∧ its.size ≤ sizeLine ∧ Vals xs its.toList
theorem ScrAt.sq {K : PySem.W.Frag} {H : Hp} {a : Addr} {xs : List V} (h : ScrAt K H a xs) : SqL K H a xs := by
  rcases h with ⟨o, e⟩ | h
  · exact .inl (.inr ⟨o, e⟩)
  · exact .inr h
theorem ScrAt.ext {K : PySem.W.Frag} {S : List Addr} {H H' : Hp} {a : Addr} {xs : List V} (h : ScrAt K H a xs) (e : Ext S H H') : ScrAt K H' a xs := by
  rcases h with ⟨o, q⟩ | h
  · exact .inl ⟨o, e.frzs _ _ _ q⟩
  · exact .inr h
theorem ScrAt.of {K : PySem.W.Frag} {H : Hp} {a : Addr} {xs : List V} (o : Only H) (h : SqL K H a xs) : ScrAt K H a xs := by
  rcases h with (h | ⟨ob, h⟩) | h
  · rcases o a with z | ⟨ob, ys, z⟩ <;> (rw [z] at h; cases h)
  · exact .inl ⟨ob, h⟩
  · exact .inr h
/-- what has changed since is new -/
theorem Ext.over {S S' : List Addr} {H H' H'' : Hp} (a : Ext S H H') (b : Ext S' H' H'') (n : ∀ c ∈ S', H c = none) : Ext S H H'' :=
  ⟨fun c o e z => b.keep c o (a.keep c o e z) (fun y => by rw [n c y] at e; cases e), fun c xs e => b.tups c xs (a.tups c xs e), fun c o u e => b.frzs c o u (a.frzs c o u e)⟩
theorem Ext.over1 {S : List Addr} {H H' H'' : Hp} {d : Addr} (a : Ext S H H') (b : Ext [d] H' H'') (n : H d = none) : Ext S H H'' := a.over b (by intro c hc; simp at hc; rw [hc]; exact n)
theorem Ext.free {H H' : Hp} {S : List Addr} (a : Ext S H H') {b : Addr} (h : H' b = none) (n : b ∉ S) : H b = none := by
  cases e : H b with
  | none => rfl
  | some o => rw [a.keep b o e n] at h; cases h
/-- a new address is none of those that stand -/
theorem fresh_ne {H : Hp} {a b : Addr} {o : HO} (h : H a = some o) (n : H b = none) : b ≠ a := fun z => by subst z; rw [h] at n; cases n

/-! ### a net -/
theorem ne_el : ¬ (("extent" : Str) = "laid") := by decide +kernel
/-- the attributes, in the order in which they are stored -/
def flds (n : Int) (l : Addr) : List (Str × V) := putF "laid" (.ref l) (putF "extent" (.int n) [])
theorem flds_laid (n : Int) (l : Addr) : (flds n l).lookup ("laid" : Str) = some (.ref l) := by
  unfold flds
  rw [lookup_putF, if_pos rfl]
theorem flds_extent (n : Int) (l : Addr) : (flds n l).lookup ("extent" : Str) = some (.int n) := by
  unfold flds
  rw [lookup_putF, if_neg ne_el, lookup_putF, if_pos rfl]
theorem flds_no (n : Int) (l : Addr) {m : Str} (h1 : ¬ m = "laid") (h2 : ¬ m = "extent") : (flds n l).lookup m = none := by
  unfold flds
  rw [lookup_putF, if_neg h1, lookup_putF, if_neg h2]
  all_goals rfl

abbrev Pt := Int × Int × Bool
def tupOf (p : Pt) : HO := .tup [.int p.1, .int p.2.1, .bl p.2.2]
/-- the tuples at ts are the pipes ps -/
abbrev Tups (H : Hp) : List Addr → List Pt → Prop := Paired fun t p => H t = some (tupOf p)
theorem Tups.mono {H H' : Hp} (h : ∀ b xs, H b = some (.tup xs) → H' b = some (.tup xs)) : ∀ {ts : List Addr} {ps : List Pt}, Tups H ts ps → Tups H' ts ps
  | _, _, .nil => .nil
  | _, _, .cons r t => .cons (h _ _ r) (Tups.mono h t)
theorem Tups.get {H : Hp} : ∀ {ts : List Addr} {ps : List Pt} {i : Nat} {p : Pt}, Tups H ts ps → ps[i]? = some p → ∃ t, ts[i]? = some t ∧ H t = some (tupOf p)
  | _, _, _, _, .nil, e => by simp at e
  | _, _, 0, _, .cons r _, e => by simp at e; subst e; exact ⟨_, rfl, r⟩
  | _, _, i + 1, p, .cons _ t, e => by
    obtain ⟨u, h1, h2⟩ := Tups.get (i := i) (p := p) t (by simpa using e)
    exact ⟨u, by simpa using h1, h2⟩
theorem Tups.len {H : Hp} {ts : List Addr} {ps : List Pt} (h : Tups H ts ps) : ts.length = ps.length := Paired.length h
theorem Tups.snoc {H : Hp} {t : Addr} {p : Pt} (r : H t = some (tupOf p)) : ∀ {ts : List Addr} {ps : List Pt}, Tups H ts ps → Tups H (ts ++ [t]) (ps ++ [p])
  | _, _, .nil => .cons r .nil
  | _, _, .cons q h => .cons q (Tups.snoc r h)
theorem Tups.set {H : Hp} {t : Addr} {p : Pt} (r : H t = some (tupOf p)) : ∀ {ts : List Addr} {ps : List Pt} (i : Nat), Tups H ts ps → Tups H (ts.set i t) (ps.set i p)
  | _, _, _, .nil => .nil
  | _, _, 0, .cons _ h => .cons r h
  | _, _, i + 1, .cons q h => .cons q (Tups.set r i h)
/-- a list of pipes stands at l -/
def PipesAt (H : Hp) (l : Addr) (ps : List Pt) : Prop := ∃ ts : List Addr, H l = some (.lst (ts.map V.ref)) ∧ Tups H ts ps
theorem PipesAt.ext {S : List Addr} {H H' : Hp} {l : Addr} {ps : List Pt} (h : PipesAt H l ps) (e : Ext S H H') (n : l ∉ S) : PipesAt H' l ps := by
  obtain ⟨ts, a, b⟩ := h
  exact ⟨ts, e.keep _ _ a n, b.mono e.tups⟩
/-- a net of n places stands at p, its list at l -/
structure NetAt (C : Addr) (H : Hp) (p l : Addr) (n : Int) (ps : List Pt) : Prop where
  ob : ∃ dx, H p = some (.ins C dx (flds n l))
  li : PipesAt H l ps
theorem NetAt.ext {C : Addr} {S : List Addr} {H H' : Hp} {p l : Addr} {n : Int} {ps : List Pt} (h : NetAt C H p l n ps) (e : Ext S H H') (np : p ∉ S) (nl : l ∉ S) : NetAt C H' p l n ps := by
  obtain ⟨⟨dx, a⟩, b⟩ := h
  exact ⟨⟨dx, e.keep _ _ a np⟩, b.ext e nl⟩
/-- an int whose figures are written -/
def Small (i : Int) : Prop := i.natAbs.log2 < 1920
theorem small_of {i : Int} (h1 : -1000000000000 ≤ i) (h2 : i ≤ 1000000000000) : Small i := by
  unfold Small
  have h : i.natAbs ≤ 1000000000000 := by omega
  by_cases z : i.natAbs = 0
  · rw [z]; decide
  · refine (Nat.log2_lt z).mpr (Nat.lt_of_le_of_lt h (by decide +kernel))
/-- between two statements: what holds there -/
theorem seq_mid {t u : TS} {D : Ends} {σ : St} {H : Hp} (M : St → Hp → Prop) (h1 : ∀ R : St → Hp → Prop, (∀ σ' H', M σ' H' → R σ' H') → t { D with nx := R } σ H) (h2 : ∀ σ' H', M σ' H' → u D σ' H') : tSeq t u D σ H := h1 _ h2
/-- one pipe more behind a list -/
theorem pipes_push {H : Hp} {d t : Addr} {ts : List Addr} {ps : List Pt} (x : Pt) (hd : H d = some (.lst (ts.map V.ref))) (tt : Tups H ts ps) (ht : H t = none) :
    PipesAt (upd (upd H t (tupOf x)) d (.lst (ts.map V.ref ++ [.ref t]))) d (ps ++ [x]) ∧ Ext [d] H (upd (upd H t (tupOf x)) d (.lst (ts.map V.ref ++ [.ref t]))) := by
  have ndt : d ≠ t := (fresh_ne hd ht).symm
  have x1 : Ext [d] H (upd H t (tupOf x)) := Ext.new ht
  have x2 := x1.trans (Ext.putL (o := .lst (ts.map V.ref ++ [.ref t])) (p := d) (xs := ts.map V.ref) (by rw [upd_ne ndt]; exact hd) (by simp))
  refine ⟨⟨ts ++ [t], by rw [upd_same, List.map_append]; rfl, Tups.snoc ?_ (tt.mono x2.tups)⟩, x2⟩
  rw [upd_ne ndt.symm, upd_same]
theorem pe_gi {X : Cx} {x : Str} {i : Int} {t : Tok} {pos : Pos} (hg : Gl X x) (hm : X.mg x = some (.int i t)) (hd : (x == ("__debug__" : Str)) = false := by decide) : PE X (.Name x pos) (tC (.int i)) := pe_glob (v := .int i) hg hm ⟨t, rfl⟩ hd
theorem len_msg {a : Str} {i : Int} (ha : a.length ≤ 4000) (hi : Small i) : (a ++ Str.ofString (toString i)).length ≤ 6000 := Nat.le_trans (len_app ha (PyProof.Rows.int_text_len_1921 hi)) (by decide)
theorem line6000 : 6000 ≤ sizeLine := by decide
end Sp

set_option Elab.async false
set_option linter.all false
set_option maxRecDepth 100000
namespace Sp
open PySem L2 Sw
theorem neN {H : Hp} {t c : Addr} {o : HO} (ht : H t = none) (hc : H c = some o) : c ≠ t := ne_of_none hc ht
/-! ### in, not in lists of ints -/
/-! ### rows of pipes under places -/
theorem ifT {p : Prop} [Decidable p] (h : p) {A B : Prop} (a : A) : if decide p = true then A else B := by rw [decide_eq_true h]; exact iteT a
theorem ifF {p : Prop} [Decidable p] (h : ¬ p) {A B : Prop} (b : B) : if decide p = true then A else B := by rw [decide_eq_false h]; exact iteF b
theorem ifNT {p : Prop} [Decidable p] (h : ¬ p) {A B : Prop} (a : A) : if (!decide p) = true then A else B := by rw [decide_eq_false h]; exact iteT a
theorem ifNF {p : Prop} [Decidable p] (h : p) {A B : Prop} (b : B) : if (!decide p) = true then A else B := by rw [decide_eq_true h]; exact iteF b
end Sp

set_option Elab.async false
set_option linter.all false
set_option maxRecDepth 100000
namespace Sp
open PySem L2 Sw
end Sp

set_option Elab.async false
set_option linter.all false
set_option maxRecDepth 100000
namespace Sp
open PySem L2 Sw
/-! ### a dict of pipes -/
/-! ### a list of rows -/
end Sp

set_option Elab.async false
set_option linter.all false
set_option maxRecDepth 100000
namespace Sp
open PySem L2 Sw
end Sp

set_option Elab.async false
set_option linter.all false
set_option maxRecDepth 100000
namespace Sp
open PySem L2 Sw
end Sp

set_option Elab.async false
set_option linter.all false
set_option maxRecDepth 100000
namespace Sp
open PySem L2 Sw
/-! ### a dict of places -/
end Sp

set_option Elab.async false
set_option linter.all false
set_option maxRecDepth 100000
namespace Sp
open PySem L2 Sw
theorem cutv_to (xs : List V) (k : Nat) : cutV xs none (some (k : Int)) = xs.take k := by
  unfold cutV
  rw [HT.sIx_nat, HT.sIx_none, List.drop_zero, Nat.sub_zero]
  by_cases h : k ≤ xs.length
  · rw [Nat.min_eq_left h]
  · rw [Nat.min_eq_right (by omega), List.take_length, List.take_of_length_le (by omega)]
theorem cutv_from (xs : List V) (k : Nat) : cutV xs (some (k : Int)) none = xs.drop k := by
  unfold cutV
  rw [HT.sIx_nat, HT.sIx_none]
  by_cases h : k ≤ xs.length
  · rw [Nat.min_eq_left h, List.take_of_length_le (by rw [List.length_drop]; omega)]
  · rw [Nat.min_eq_right (by omega), Nat.sub_self, List.take_zero, List.drop_eq_nil_of_le (by omega)]
end Sp

set_option Elab.async false
set_option linter.all false
set_option maxRecDepth 100000
namespace Sp
open PySem L2 Sw
/-! ### texts by their signs -/
def cp (x : Str) : List Nat := x.cps.toList
theorem cp_ext {a b : Str} (h : cp a = cp b) : a = b := Str.ext' (Array.ext' h)
theorem cp_append (a b : Str) : cp (a ++ b) = cp a ++ cp b := by
  unfold cp
  rw [Str.cps_append, Array.toList_append]
theorem cp_empty : cp Str.empty = [] := rfl
/-- glued with a sign between -/
def jn (c : Nat) : List (List Nat) → List Nat
  | [] => []
  | [a] => a
  | a :: b :: r => a ++ c :: jn c (b :: r)
theorem cp_join (c : Nat) : ∀ ts : List Str, cp (Str.join ⟨#[c]⟩ ts) = jn c (ts.map cp)
  | [] => rfl
  | [_] => rfl
  | x :: y :: r => by
    show cp (x ++ ⟨#[c]⟩ ++ Str.join ⟨#[c]⟩ (y :: r)) = cp x ++ c :: jn c ((y :: r).map cp)
    rw [cp_append, cp_append, cp_join c (y :: r), List.append_assoc]
    rfl
theorem app_sep {c : Nat} : ∀ {a b x y : List Nat}, c ∉ a → c ∉ b → a ++ c :: x = b ++ c :: y → a = b ∧ x = y
  | [], [], x, y, _, _, h => ⟨rfl, by simpa using h⟩
  | [], d :: b, x, y, _, hb, h => by
    have : c = d := by simpa using (List.cons.inj h).1
    exact absurd (by simp [this]) hb
  | d :: a, [], x, y, ha, _, h => by
    have : d = c := by simpa using (List.cons.inj h).1
    exact absurd (by simp [this]) ha
  | d :: a, e :: b, x, y, ha, hb, h => by
    obtain ⟨h1, h2⟩ := List.cons.inj h
    obtain ⟨h3, h4⟩ := app_sep (a := a) (b := b) (fun z => ha (by simp [z])) (fun z => hb (by simp [z])) h2
    exact ⟨by rw [h1, h3], h4⟩
theorem jn_inj {c : Nat} : ∀ {as bs : List (List Nat)}, as ≠ [] → bs ≠ [] → (∀ a ∈ as, c ∉ a) → (∀ b ∈ bs, c ∉ b) → jn c as = jn c bs → as = bs
  | [], _, h, _, _, _, _ => absurd rfl h
  | _, [], _, h, _, _, _ => absurd rfl h
  | [a], [b], _, _, _, _, h => by rw [show a = b from h]
  | [a], b :: d :: r, _, _, ha, _, h => by
    have h : a = b ++ c :: jn c (d :: r) := h
    exact absurd (by rw [h]; simp) (ha a (by simp))
  | a :: d :: r, [b], _, _, _, hb, h => by
    have h : a ++ c :: jn c (d :: r) = b := h
    exact absurd (by rw [← h]; simp) (hb b (by simp))
  | a :: d :: r, b :: e :: q, _, _, ha, hb, h => by
    have h : a ++ c :: jn c (d :: r) = b ++ c :: jn c (e :: q) := h
    obtain ⟨h1, h2⟩ := app_sep (ha a (by simp)) (hb b (by simp)) h
    rw [h1, jn_inj (by simp) (by simp) (fun x hx => ha x (by simp [hx])) (fun x hx => hb x (by simp [hx])) h2]
/-- split, where the parts are known -/
theorem split_is {c : Nat} {x : Str} {ts : List Str} (ne : ts ≠ []) (free : ∀ t ∈ ts, c ∉ cp t) (e : jn c (ts.map cp) = cp x) : Txt.split x ⟨#[c]⟩ = ts := by
  have h1 := StrLaws.join_split x ⟨#[c]⟩
  have h2 := StrLaws.split_free x c
  have h3 := PyProof.Rows.split_pos x ⟨#[c]⟩
  have ne2 : Txt.split x ⟨#[c]⟩ ≠ [] := fun z => by rw [z] at h3; simp at h3
  have h4 : jn c ((Txt.split x ⟨#[c]⟩).map cp) = jn c (ts.map cp) := by
    rw [e, ← cp_join, h1]
  have h5 := jn_inj (c := c) (by simpa using ne2) (by simpa using ne) (fun a ha => by obtain ⟨t, ht, rfl⟩ := List.mem_map.mp ha; exact h2 t ht) (fun a ha => by obtain ⟨t, ht, rfl⟩ := List.mem_map.mp ha; exact free t ht) h4
  have inj : ∀ {a b : List Str}, a.map cp = b.map cp → a = b := fun {a b} h => List.map_inj_right (fun x y z => cp_ext z) |>.mp h
  exact inj h5
/-- lines with a line end behind each -/
theorem jn_lines (c : Nat) : ∀ ls : List (List Nat), jn c (ls ++ [[]]) = (ls.map fun l => l ++ [c]).flatten
  | [] => rfl
  | [a] => by simp [jn]
  | a :: b :: r => by
    show a ++ c :: jn c (b :: r ++ [[]]) = _
    rw [jn_lines c (b :: r)]
    simp
/-- a number of a net by its figures -/
abbrev fg (i : Int) : Str := Str.ofString (toString i)
theorem fg_free10 : ∀ v : Fin 13, (10 : Nat) ∉ cp (fg (v.val : Int)) ∧ (32 : Nat) ∉ cp (fg (v.val : Int)) ∧ (fg (v.val : Int)).length ≤ 2 := by decide +kernel
theorem fg_ok {i : Int} (h0 : 0 ≤ i) (h1 : i ≤ 12) : (10 : Nat) ∉ cp (fg i) ∧ (32 : Nat) ∉ cp (fg i) ∧ (fg i).length ≤ 2 := by
  have := fg_free10 ⟨i.toNat, by omega⟩
  rw [show ((⟨i.toNat, by omega⟩ : Fin 13).val : Int) = i by show ((i.toNat : Nat) : Int) = i; omega] at this
  exact this
def wd (b : Bool) : Str := if b then "pipe" else "shut"
/-- the first line, a pipe's line -/
def hdL (n : Nat) : Str := ("places" : Str) ++ (" " : Str) ++ fg n
def lnL (x : Pt) : Str := wd x.2.2 ++ (" " : Str) ++ fg x.1 ++ (" " : Str) ++ fg x.2.1
def nl : Str := "\n"
def netL (n : Nat) (ps : List Pt) : List Str := hdL n :: ps.map lnL
theorem nl_is : nl = ⟨#[10]⟩ := by decide +kernel
theorem sp_is : (" " : Str) = ⟨#[32]⟩ := by decide +kernel
theorem cp_nl : cp nl = [10] := by decide +kernel
theorem cp_sp : cp (" " : Str) = [32] := by decide +kernel
theorem wd_ok (b : Bool) : (10 : Nat) ∉ cp (wd b) ∧ (32 : Nat) ∉ cp (wd b) ∧ (wd b).length ≤ 6 := by cases b <;> decide +kernel
theorem ln_len {n : Nat} {x : Pt} (h : Sw.Ok n x) (hn : n ≤ 12) : (lnL x).length ≤ 12 := by
  have a := (fg_ok h.1.1.1 (by have := h.1.1.2; omega)).2.2
  have b := (fg_ok h.1.2.1 (by have := h.1.2.2; omega)).2.2
  have c := (wd_ok x.2.2).2.2
  have s : (" " : Str).length = 1 := by decide +kernel
  unfold lnL
  rw [Str.length_append, Str.length_append, Str.length_append, Str.length_append]
  omega
theorem hd_len {n : Nat} (hn : n ≤ 12) : (hdL n).length ≤ 9 := by
  have a := (fg_ok (i := (n : Int)) (by omega) (by omega)).2.2
  have s : (" " : Str).length = 1 := by decide +kernel
  have p : ("places" : Str).length = 6 := by decide +kernel
  unfold hdL
  rw [Str.length_append, Str.length_append]
  omega
theorem pe_gs {X : Cx} {x y : Str} {t : Tok} {pos : Pos} (hg : Gl X x) (hm : X.mg x = some (.str y t)) (hd : (x == ("__debug__" : Str)) = false := by decide) : PE X (.Name x pos) (tC (.str y)) := pe_glob (v := .str y) hg hm ⟨t, rfl⟩ hd
theorem cp_join0 : ∀ ts : List Str, cp (Str.join Str.empty ts) = (ts.map cp).flatten
  | [] => rfl
  | [x] => by simp [Str.join]
  | x :: y :: r => by
    show cp (x ++ Str.empty ++ Str.join Str.empty (y :: r)) = _
    rw [cp_append, cp_append, cp_join0 (y :: r), cp_empty]
    simp
theorem len_small {x : Str} {k : Nat} (h : x.length ≤ k) (hk : k ≤ 100000) : x.length ≤ sizeLine := by rw [sizeLine_eq]; omega
theorem len_add {a b : Str} {i j k : Nat} (ha : a.length ≤ i) (hb : b.length ≤ j) (h : i + j ≤ k) : (a ++ b).length ≤ k := by
  rw [Str.length_append]
  exact Nat.le_trans (Nat.add_le_add ha hb) h
theorem lsp : (" " : Str).length ≤ 1 := by decide +kernel
theorem lnl : ("\n" : Str).length ≤ 1 := by decide +kernel
theorem atI_last {xs : List V} {x : V} : atI (xs ++ [x]) (-1) = some x := by
  unfold atI ixN
  rw [if_neg (by decide)]
  have h : ((xs ++ [x]).length : Int) = (xs.length : Int) + 1 := by simp
  rw [if_pos (by omega)]
  have e : (-1 + ((xs ++ [x]).length : Int)).toNat = xs.length := by omega
  simp
  have e2 : (-1 + ((xs.length : Int) + 1)).toNat = xs.length := by omega
  rw [e2]
  simp
theorem cut_mid (a b : V) (mid : List V) : cutV (a :: mid ++ [b]) (some 1) (some (-1)) = mid := by
  unfold cutV
  have n : (a :: mid ++ [b]).length = mid.length + 2 := by simp
  have s1 : HT.sIx (a :: mid ++ [b]).length 0 (some 1) = 1 := by
    rw [show (1 : Int) = ((1 : Nat) : Int) by rfl, HT.sIx_nat, n]
    omega
  have s2 : HT.sIx (a :: mid ++ [b]).length (a :: mid ++ [b]).length (some (-1)) = mid.length + 1 := by
    show (if (-1 : Int) < 0 then (-1 + ((a :: mid ++ [b]).length : Int)).toNat else min (-1 : Int).toNat (a :: mid ++ [b]).length) = _
    rw [if_pos (by decide), n]
    omega
  rw [s1, s2]
  simp
end Sp

set_option Elab.async false
set_option linter.all false
set_option maxRecDepth 100000
namespace Sp
open PySem L2 Sw
/-! ### words that write numbers -/
def rd : List Nat → Nat
  | [c] => c - 48
  | [c, d] => 10 * (c - 48) + (d - 48)
  | _ => 100
/-- the number that a word writes, or -1 -/
def nm (w : Str) : Int := if rd (cp w) < 100 ∧ fg ((rd (cp w) : Nat) : Int) = w then ((rd (cp w) : Nat) : Int) else -1
theorem fg_100 : ∀ v : Fin 100, rd (cp (fg (v.val : Int))) = v.val ∧ 1 ≤ (cp (fg (v.val : Int))).length ∧ (cp (fg (v.val : Int))).length ≤ 2 ∧ (∀ c ∈ cp (fg (v.val : Int)), 48 ≤ c ∧ c ≤ 57) ∧ ((cp (fg (v.val : Int))).length = 2 → (cp (fg (v.val : Int)))[0]? ≠ some 48) := by decide +kernel
theorem fg_at {v : Int} (h0 : 0 ≤ v) (h1 : v ≤ 99) : rd (cp (fg v)) = v.toNat ∧ 1 ≤ (cp (fg v)).length ∧ (cp (fg v)).length ≤ 2 ∧ (∀ c ∈ cp (fg v), 48 ≤ c ∧ c ≤ 57) ∧ ((cp (fg v)).length = 2 → (cp (fg v))[0]? ≠ some 48) := by
  have := fg_100 ⟨v.toNat, by omega⟩
  rw [show ((⟨v.toNat, by omega⟩ : Fin 100).val : Int) = v by show ((v.toNat : Nat) : Int) = v; omega] at this
  exact this
theorem nm_fg {v : Int} (h0 : 0 ≤ v) (h1 : v ≤ 99) : nm (fg v) = v := by
  have h := (fg_at h0 h1).1
  unfold nm
  rw [h, show ((v.toNat : Nat) : Int) = v by omega, if_pos ⟨by omega, rfl⟩]
theorem nm_ge {w : Str} (h : 0 ≤ nm w) : nm w ≤ 99 ∧ w = fg (nm w) := by
  unfold nm at h ⊢
  split
  · rename_i c
    exact ⟨by omega, c.2.symm⟩
  · rename_i c
    rw [if_neg c] at h
    omega
theorem nm_neg {w : Str} (h : ¬ 0 ≤ nm w) : nm w = -1 := by
  unfold nm at h ⊢
  split
  · rename_i c
    rw [if_pos c] at h
    omega
  · rfl
theorem nm_len {w : Str} (h : ¬ (1 ≤ w.length ∧ w.length ≤ 2)) : nm w = -1 := nm_neg fun z => by
  obtain ⟨a, b⟩ := nm_ge z
  have c := fg_at z a
  rw [← b] at c
  exact h ⟨c.2.1, c.2.2.1⟩
theorem nm_dig {w : Str} {c : Nat} (h : c ∈ cp w) (hc : ¬ (48 ≤ c ∧ c ≤ 57)) : nm w = -1 := nm_neg fun z => by
  obtain ⟨a, b⟩ := nm_ge z
  have e := fg_at z a
  rw [← b] at e
  exact hc (e.2.2.2.1 c h)
theorem nm_zero {w : Str} (h : w.length = 2) (h0 : (cp w)[0]? = some 48) : nm w = -1 := nm_neg fun z => by
  obtain ⟨a, b⟩ := nm_ge z
  have e := fg_at z a
  rw [← b] at e
  exact e.2.2.2.2 h h0
theorem one_dig : ∀ a : Fin 10, cp (fg (a.val : Int)) = [a.val + 48] := by decide +kernel
theorem two_dig : ∀ a : Fin 100, 10 ≤ a.val → cp (fg (a.val : Int)) = [a.val / 10 + 48, a.val % 10 + 48] := by decide +kernel
theorem nm_is {w : Str} (h1 : 1 ≤ w.length) (h2 : w.length ≤ 2) (hd : ∀ c ∈ cp w, 48 ≤ c ∧ c ≤ 57) (hz : ¬ (w.length = 2 ∧ (cp w)[0]? = some 48)) : 0 ≤ nm w := by
  have hl : w.length = (cp w).length := rfl
  have fin : ∀ v : Nat, v ≤ 99 → w = fg (v : Int) → 0 ≤ nm w := fun v hv e => by
    rw [e, nm_fg (by omega) (by omega)]
    omega
  match hw : cp w with
  | [] => rw [hw] at hl; simp at hl; omega
  | [c] =>
    have hc := hd c (by rw [hw]; simp)
    have h := one_dig ⟨c - 48, by omega⟩
    refine fin (c - 48) (by omega) (cp_ext ?_)
    rw [hw]
    have e : (⟨c - 48, by omega⟩ : Fin 10).val + 48 = c := by show c - 48 + 48 = c; omega
    rw [e] at h
    exact h.symm
  | [c, d] =>
    have hc := hd c (by rw [hw]; simp)
    have hd' := hd d (by rw [hw]; simp)
    have c0 : c ≠ 48 := fun z => hz ⟨by rw [hl, hw]; rfl, by rw [hw, z]; rfl⟩
    have h := two_dig ⟨10 * (c - 48) + (d - 48), by omega⟩ (by show 10 ≤ 10 * (c - 48) + (d - 48); omega)
    refine fin (10 * (c - 48) + (d - 48)) (by omega) (cp_ext ?_)
    rw [hw]
    have e1 : (⟨10 * (c - 48) + (d - 48), by omega⟩ : Fin 100).val / 10 + 48 = c := by show (10 * (c - 48) + (d - 48)) / 10 + 48 = c; omega
    have e2 : (⟨10 * (c - 48) + (d - 48), by omega⟩ : Fin 100).val % 10 + 48 = d := by show (10 * (c - 48) + (d - 48)) % 10 + 48 = d; omega
    rw [e1, e2] at h
    exact h.symm
  | _ :: _ :: _ :: _ => rw [hw] at hl; simp at hl; omega
/-! ### lines -/
/-- a line, a word: no line end in it, short -/
def Ln (l : Str) : Prop := (∀ c ∈ cp l, c ≠ 10 ∧ c < 1000) ∧ l.length ≤ 40
theorem Ln.len {l : Str} (h : Ln l) : l.length ≤ 40 := h.2
theorem Ln.small {l : Str} (h : Ln l) : l.length ≤ sizeLine := len_small h.2 (by decide)
theorem Ln.rep {l : Str} (h : Ln l) : (reprText l).length ≤ 402 := by
  have e := StrLaws.reprText_len l fun c hc => Nat.lt_of_lt_of_le (h.1 c hc).2 (by decide)
  have := h.2
  omega
theorem Ln.rep1 {l : Str} (h : Ln l) : (reprText l).length ≤ sizeLine := len_small h.rep (by decide)
theorem Ln.msg {l a : Str} (h : Ln l) (ha : a.length ≤ 100) : (a ++ reprText l).length ≤ sizeLine := len_small (len_add ha h.rep (Nat.le_refl _)) (by decide)
theorem jn_mem {k : Nat} : ∀ {as : List (List Nat)} {a : List Nat}, a ∈ as → (∀ c ∈ a, c ∈ jn k as) ∧ a.length ≤ (jn k as).length
  | [], a, h => by simp at h
  | [x], a, h => by
    have : a = x := by simpa using h
    subst this
    exact ⟨fun c hc => hc, Nat.le_refl _⟩
  | x :: y :: r, a, h => by
    show (∀ c ∈ a, c ∈ x ++ k :: jn k (y :: r)) ∧ a.length ≤ (x ++ k :: jn k (y :: r)).length
    rcases List.mem_cons.mp h with e | h
    · subst e
      exact ⟨fun c hc => by simp [hc], by simp⟩
    · have ih := jn_mem (k := k) h
      refine ⟨fun c hc => by simp [ih.1 c hc], ?_⟩
      have := ih.2
      simp
      omega
theorem words_ok {l : Str} (h : Ln l) : ∀ t ∈ Txt.split l (" " : Str), Ln t := by
  rw [sp_is]
  intro t ht
  have e := StrLaws.join_split l ⟨#[32]⟩
  have e2 := cp_join 32 (Txt.split l ⟨#[32]⟩)
  rw [e] at e2
  obtain ⟨m1, m2⟩ := jn_mem (k := 32) (List.mem_map_of_mem (f := cp) ht)
  rw [← e2] at m1 m2
  have := h.2
  have l1 : l.length = (cp l).length := rfl
  have l2 : t.length = (cp t).length := rfl
  exact ⟨fun c hc => h.1 c (m1 c hc), by omega⟩
/-- what a first line, a pipe's line say -/
def hOf (l : Str) : Option Nat := match Txt.split l (" " : Str) with
  | [a, b] => if a = ("places" : Str) ∧ 1 ≤ nm b ∧ nm b ≤ 12 then some (nm b).toNat else none
  | _ => none
def pOf (n : Nat) (l : Str) : Option Pt := match Txt.split l (" " : Str) with
  | [a, b, c] => if (a = ("pipe" : Str) ∨ a = ("shut" : Str)) ∧ (0 ≤ nm b ∧ nm b < n) ∧ (0 ≤ nm c ∧ nm c < n) ∧ nm b ≠ nm c then some (nm b, nm c, decide (a = ("pipe" : Str))) else none
  | _ => none
theorem hOf_2 {l a b : Str} (h : Txt.split l (" " : Str) = [a, b]) : hOf l = if a = ("places" : Str) ∧ 1 ≤ nm b ∧ nm b ≤ 12 then some (nm b).toNat else none := by unfold hOf; rw [h]
theorem hOf_no {l : Str} (h : (Txt.split l (" " : Str)).length ≠ 2) : hOf l = none := by
  unfold hOf
  split
  · rename_i e; rw [e] at h; exact absurd rfl h
  · rfl
theorem pOf_3 {n : Nat} {l a b c : Str} (h : Txt.split l (" " : Str) = [a, b, c]) : pOf n l = if (a = ("pipe" : Str) ∨ a = ("shut" : Str)) ∧ (0 ≤ nm b ∧ nm b < n) ∧ (0 ≤ nm c ∧ nm c < n) ∧ nm b ≠ nm c then some (nm b, nm c, decide (a = ("pipe" : Str))) else none := by unfold pOf; rw [h]
theorem pOf_no {n : Nat} {l : Str} (h : (Txt.split l (" " : Str)).length ≠ 3) : pOf n l = none := by
  unfold pOf
  split
  · rename_i e; rw [e] at h; exact absurd rfl h
  · rfl
theorem hOf_le {l : Str} {n : Nat} (h : hOf l = some n) : 1 ≤ n ∧ n ≤ 12 := by
  unfold hOf at h
  split at h
  · split at h
    · rename_i c
      cases h
      omega
    · cases h
  · cases h
theorem list2 {α : Type} {ts : List α} (h : ts.length = 2) : ∃ a b, ts = [a, b] := by
  match ts, h with
  | [a, b], _ => exact ⟨a, b, rfl⟩
theorem list3 {α : Type} {ts : List α} (h : ts.length = 3) : ∃ a b c, ts = [a, b, c] := by
  match ts, h with
  | [a, b, c], _ => exact ⟨a, b, c, rfl⟩
/-- the net that the lines write -/
def Due (ls : List Str) (n : Nat) (ps : List Pt) : Prop := ∃ l r, ls = l :: r ∧ hOf l = some n ∧ r.map (pOf n) = ps.map some ∧ r.length ≤ 60
/-- lines as they are here -/
def Lns (ls : List Str) : Prop := (∀ l ∈ ls, Ln l) ∧ ls.length ≤ 70
/-- a line end behind each -/
def txtL (ls : List Str) : Str := ⟨((ls.map fun l => cp l ++ [10]).flatten).toArray⟩
theorem cp_txtL (ls : List Str) : cp (txtL ls) = (ls.map fun l => cp l ++ [10]).flatten := rfl
theorem txtL_join (ls : List Str) : Str.join Str.empty (ls.map fun l => l ++ nl) = txtL ls := cp_ext (by
  rw [cp_join0, cp_txtL, List.map_map]
  congr 1
  apply List.map_congr_left
  intro l _
  show cp (l ++ nl) = _
  rw [cp_append, cp_nl])
theorem split_lines {ls : List Str} (h : ∀ l ∈ ls, Ln l) : Txt.split (txtL ls) nl = ls ++ [Str.empty] := by
  rw [nl_is]
  refine split_is (by simp) (fun t ht => ?_) ?_
  · rcases List.mem_append.mp ht with z | z
    · exact fun y => (h t z).1 10 y |>.1 rfl
    · rw [List.mem_singleton.mp z]
      simp [cp_empty]
  · rw [List.map_append, cp_txtL]
    show jn 10 (ls.map cp ++ [[]]) = _
    rw [jn_lines, List.map_map]
    rfl
theorem flat_jn (c : Nat) : ∀ {as : List (List Nat)}, as ≠ [] → (as.map fun l => l ++ [c]).flatten = jn c as ++ [c]
  | [], h => absurd rfl h
  | [a], _ => by simp [jn]
  | a :: b :: r, _ => by
    have ih := flat_jn c (as := b :: r) (by simp)
    show (a ++ [c]) ++ ((b :: r).map fun l => l ++ [c]).flatten = (a ++ c :: jn c (b :: r)) ++ [c]
    rw [ih]
    simp
theorem txtL_len {ls : List Str} (h : Lns ls) : (txtL ls).length ≤ 3000 := by
  have e : ∀ {ls : List Str}, (∀ l ∈ ls, Ln l) → (cp (txtL ls)).length ≤ ls.length * 41 := fun {ls} h => by
    induction ls with
    | nil => simp [cp_txtL]
    | cons l ls ih =>
      have a := ih fun x hx => h x (by simp [hx])
      have b := (h l (by simp)).2
      have l1 : l.length = (cp l).length := rfl
      rw [cp_txtL] at a ⊢
      rw [List.map_cons, List.flatten_cons, List.length_append, List.length_append]
      simp only [List.length_cons, List.length_nil]
      omega
  have a := e h.1
  have b := h.2
  have l1 : (txtL ls).length = (cp (txtL ls)).length := rfl
  omega
/-- the last line end cut off -/
theorem cut_end {ls : List Str} (ne : ls ≠ []) : cp (cutS (txtL ls) none (some (-1))) = jn 10 (ls.map cp) := by
  have ne2 : ls.map cp ≠ [] := by simpa using ne
  have f := flat_jn 10 ne2
  rw [List.map_map] at f
  have e : cp (txtL ls) = jn 10 (ls.map cp) ++ [10] := f
  have l1 : (txtL ls).length = (jn 10 (ls.map cp)).length + 1 := by
    show (cp (txtL ls)).length = _
    rw [e]
    simp
  have s1 : HT.sIx (txtL ls).length 0 none = 0 := rfl
  have s2 : HT.sIx (txtL ls).length (txtL ls).length (some (-1)) = (jn 10 (ls.map cp)).length := by
    show (if (-1 : Int) < 0 then (-1 + ((txtL ls).length : Int)).toNat else min (-1 : Int).toNat (txtL ls).length) = _
    rw [if_pos (by decide), l1]
    omega
  show ((cp (txtL ls)).drop _).take _ = _
  rw [s1, s2, List.drop_zero, e]
  simp
theorem split_cut {ls : List Str} (ne : ls ≠ []) (h : ∀ l ∈ ls, Ln l) : Txt.split (cutS (txtL ls) none (some (-1))) nl = ls := by
  rw [nl_is]
  exact split_is ne (fun t ht y => (h t ht).1 10 y |>.1 rfl) (cut_end ne).symm
theorem cut_len {ls : List Str} (h : Lns ls) (lo hi : Option Int) : (cutS (txtL ls) lo hi).length ≤ 3000 := by
  refine Nat.le_trans ?_ (txtL_len h)
  show (List.take _ _).length ≤ (txtL ls).length
  rw [List.length_take, List.length_drop]
  have : (txtL ls).cps.toList.length = (txtL ls).length := rfl
  omega
/-- as the text has them -/
def Lm (l : Str) : Prop := (∀ c ∈ cp l, c ≠ 10 ∧ c < 1000) ∧ l.length ≤ 12
theorem Lm.ln {l : Str} (h : Lm l) : Ln l := ⟨h.1, Nat.le_trans h.2 (by decide)⟩
theorem ln_ok14 {n : Nat} {x : Pt} (h : Sw.Ok n x) (hn : n ≤ 12) : Lm (lnL x) := by
  have a := (fg_at (v := x.1) h.1.1.1 (by have := h.1.1.2; omega)).2.2.2.1
  have b := (fg_at (v := x.2.1) h.1.2.1 (by have := h.1.2.2; omega)).2.2.2.1
  have c : ∀ c ∈ cp (wd x.2.2), c ≠ 10 ∧ c < 1000 := by cases x.2.2 <;> decide +kernel
  refine ⟨fun k hk => ?_, Nat.le_trans (ln_len h hn) (by decide)⟩
  unfold lnL at hk
  rw [cp_append, cp_append, cp_append, cp_append, cp_sp] at hk
  simp only [List.mem_append, List.mem_singleton] at hk
  rcases hk with (((z | z) | z) | z) | z
  · exact c k z
  · omega
  · have := a k z; omega
  · omega
  · have := b k z; omega
theorem hd_ok14 {n : Nat} (hn : n ≤ 12) : Lm (hdL n) := by
  have a := (fg_at (v := (n : Int)) (by omega) (by omega)).2.2.2.1
  have c : ∀ c ∈ cp ("places" : Str), c ≠ 10 ∧ c < 1000 := by decide +kernel
  refine ⟨fun k hk => ?_, Nat.le_trans (hd_len hn) (by decide)⟩
  unfold hdL at hk
  rw [cp_append, cp_append, cp_sp] at hk
  simp only [List.mem_append, List.mem_singleton] at hk
  rcases hk with (z | z) | z
  · exact c k z
  · omega
  · have := a k z; omega
/-- a sign put in, left out, changed -/
theorem cp_cut (x : Str) (lo hi : Option Int) : ∀ c ∈ cp (cutS x lo hi), c ∈ cp x := fun c h => List.mem_of_mem_drop (List.mem_of_mem_take h)
theorem cutS_len (x : Str) (lo hi : Option Int) : (cutS x lo hi).length ≤ x.length := by
  show (List.take _ _).length ≤ x.length
  rw [List.length_take, List.length_drop]
  have : x.cps.toList.length = x.length := rfl
  omega
end Sp

set_option Elab.async false
set_option linter.all false
set_option maxRecDepth 100000
namespace Sp
open PySem L2
def top (i : Nat) : Stmt := PySem.Challenge.pw_springways_k14_nets_read_or_refused.main.body.getD i (.Pass ⟨0, 0, 0, 0⟩)
abbrev s_check_place : Stmt := top 11
abbrev s_check_pipe : Stmt := top 12
abbrev s_Net_init : Stmt := inClass (top 13) 0
abbrev s_Net_size : Stmt := inClass (top 13) 1
abbrev s_Net_lay : Stmt := inClass (top 13) 2
abbrev s_Net_shut : Stmt := inClass (top 13) 3
abbrev s_Net_turn : Stmt := inClass (top 13) 5
abbrev s_Net_pipes : Stmt := inClass (top 13) 6
abbrev s_number : Stmt := top 18
abbrev s_first_line : Stmt := top 19
abbrev s_lay_line : Stmt := top 20
abbrev s_read : Stmt := top 21
abbrev s__law_cell_at : Stmt := top 23
abbrev s__law_whole : Stmt := top 24
abbrev s__law_pipe_by : Stmt := top 25
abbrev s__law_pipes_by : Stmt := top 26
abbrev s__law_same_pipes : Stmt := top 27
abbrev s__law_line : Stmt := top 28
abbrev s__law_bad_line : Stmt := top 29
abbrev s__law_bad_first : Stmt := top 30
abbrev s__law_spoiled : Stmt := top 31
abbrev s__law_number : Stmt := top 32
abbrev s__law_pipe_of : Stmt := top 33
abbrev s__law_due : Stmt := top 34
abbrev s_law : Stmt := top 35
theorem sc_check_place : FnScope ["net", "place"] ["net", "place"] (defScope s_check_place) := ⟨rfl, rfl, rfl, by decide +kernel, rfl, by decide +kernel, by decide +kernel⟩
theorem sc_check_pipe : FnScope ["net", "pipe"] ["net", "pipe"] (defScope s_check_pipe) := ⟨rfl, rfl, rfl, by decide +kernel, rfl, by decide +kernel, by decide +kernel⟩
theorem sc_Net_init : FnScope ["self", "size"] ["self", "size"] (defScope s_Net_init) := ⟨rfl, rfl, rfl, by decide +kernel, rfl, by decide +kernel, by decide +kernel⟩
theorem sc_Net_size : FnScope ["self"] ["self"] (defScope s_Net_size) := ⟨rfl, rfl, rfl, by decide +kernel, rfl, by decide +kernel, by decide +kernel⟩
theorem sc_Net_lay : FnScope ["self", "start", "goal"] ["self", "start", "goal"] (defScope s_Net_lay) := ⟨rfl, rfl, rfl, by decide +kernel, rfl, by decide +kernel, by decide +kernel⟩
theorem sc_Net_shut : FnScope ["self", "pipe"] ["self", "pipe"] (defScope s_Net_shut) := ⟨rfl, rfl, rfl, by decide +kernel, rfl, by decide +kernel, by decide +kernel⟩
theorem sc_Net_turn : FnScope ["self", "pipe", "opened", "row"] ["self", "pipe", "opened"] (defScope s_Net_turn) := ⟨rfl, rfl, rfl, by decide +kernel, rfl, by decide +kernel, by decide +kernel⟩
theorem sc_Net_pipes : FnScope ["self"] ["self"] (defScope s_Net_pipes) := ⟨rfl, rfl, rfl, by decide +kernel, rfl, by decide +kernel, by decide +kernel⟩
theorem sc_number : FnScope ["word", "value"] ["word"] (defScope s_number) := ⟨rfl, rfl, rfl, by decide +kernel, rfl, by decide +kernel, by decide +kernel⟩
theorem sc_first_line : FnScope ["line", "words"] ["line"] (defScope s_first_line) := ⟨rfl, rfl, rfl, by decide +kernel, rfl, by decide +kernel, by decide +kernel⟩
theorem sc_lay_line : FnScope ["net", "line", "words", "pipe"] ["net", "line"] (defScope s_lay_line) := ⟨rfl, rfl, rfl, by decide +kernel, rfl, by decide +kernel, by decide +kernel⟩
theorem sc_read : FnScope ["text", "lines", "net", "line", "error"] ["text"] (defScope s_read) := ⟨rfl, rfl, rfl, by decide +kernel, rfl, by decide +kernel, by decide +kernel⟩
theorem sc__law_cell_at : FnScope ["script", "k"] ["script", "k"] (defScope s__law_cell_at) := ⟨rfl, rfl, rfl, by decide +kernel, rfl, by decide +kernel, by decide +kernel⟩
theorem sc__law_whole : FnScope ["found"] ["found"] (defScope s__law_whole) := ⟨rfl, rfl, rfl, by decide +kernel, rfl, by decide +kernel, by decide +kernel⟩
theorem sc__law_pipe_by : FnScope ["cell", "size", "start", "goal"] ["cell", "size"] (defScope s__law_pipe_by) := ⟨rfl, rfl, rfl, by decide +kernel, rfl, by decide +kernel, by decide +kernel⟩
theorem sc__law_pipes_by : FnScope ["script", "first", "many", "size"] ["script", "first", "many", "size"] (defScope s__law_pipes_by) := ⟨rfl, rfl, rfl, by decide +kernel, rfl, by decide +kernel, by decide +kernel⟩
theorem sc__law_same_pipes : FnScope ["found", "due", "k", "pipe"] ["found", "due"] (defScope s__law_same_pipes) := ⟨rfl, rfl, rfl, by decide +kernel, rfl, by decide +kernel, by decide +kernel⟩
theorem sc__law_line : FnScope ["pipe"] ["pipe"] (defScope s__law_line) := ⟨rfl, rfl, rfl, by decide +kernel, rfl, by decide +kernel, by decide +kernel⟩
theorem sc__law_bad_line : FnScope ["cell", "some"] ["cell"] (defScope s__law_bad_line) := ⟨rfl, rfl, rfl, by decide +kernel, rfl, by decide +kernel, by decide +kernel⟩
theorem sc__law_bad_first : FnScope ["cell", "some"] ["cell"] (defScope s__law_bad_first) := ⟨rfl, rfl, rfl, by decide +kernel, rfl, by decide +kernel, by decide +kernel⟩
theorem sc__law_spoiled : FnScope ["lines", "cell", "place", "line", "ahead", "behind", "spot", "sign", "kind"] ["lines", "cell"] (defScope s__law_spoiled) := ⟨rfl, rfl, rfl, by decide +kernel, rfl, by decide +kernel, by decide +kernel⟩
theorem sc__law_number : FnScope ["word", "sign"] ["word"] (defScope s__law_number) := ⟨rfl, rfl, rfl, by decide +kernel, rfl, by decide +kernel, by decide +kernel⟩
theorem sc__law_pipe_of : FnScope ["line", "size", "words", "start", "goal"] ["line", "size"] (defScope s__law_pipe_of) := ⟨rfl, rfl, rfl, by decide +kernel, rfl, by decide +kernel, by decide +kernel⟩
theorem sc__law_due : FnScope ["lines", "words", "pipes"] ["lines"] (defScope s__law_due) := ⟨rfl, rfl, rfl, by decide +kernel, rfl, by decide +kernel, by decide +kernel⟩
theorem sc_law : FnScope ["script", "size", "many", "pipes", "lines", "cell", "text", "due", "found", "marks", "e", "told"] ["script"] (defScope s_law) := ⟨rfl, rfl, rfl, by decide +kernel, rfl, by decide +kernel, by decide +kernel⟩
set_option genInjectivity false in
set_option genSizeOf false in
/-- all that the top has written -/
structure TX (K : PySem.W.Frag) (mg : Str → Option Value) where
  a_Net : Addr
  mg_Net : mg "Net" = some (.ref a_Net)
  cl_Net : Cls K a_Net
  na_Net_extent : NoAttr K a_Net "extent"
  na_Net_laid : NoAttr K a_Net "laid"
  a_NetError : Addr
  mg_NetError : mg "NetError" = some (.ref a_NetError)
  er_NetError : Err K a_NetError
  a_NoPlace : Addr
  mg_NoPlace : mg "NoPlace" = some (.ref a_NoPlace)
  er_NoPlace : Err K a_NoPlace
  a_NoPipe : Addr
  mg_NoPipe : mg "NoPipe" = some (.ref a_NoPipe)
  er_NoPipe : Err K a_NoPipe
  a_SamePlace : Addr
  mg_SamePlace : mg "SamePlace" = some (.ref a_SamePlace)
  er_SamePlace : Err K a_SamePlace
  a_TooMuch : Addr
  mg_TooMuch : mg "TooMuch" = some (.ref a_TooMuch)
  er_TooMuch : Err K a_TooMuch
  a_NoNet : Addr
  mg_NoNet : mg "NoNet" = some (.ref a_NoNet)
  er_NoNet : Err K a_NoNet
  sub_NoNet_NetError : PySem.W.subIn K (.ref a_NoNet) (.ref a_NetError) = some true
  sub_NoPipe_NetError : PySem.W.subIn K (.ref a_NoPipe) (.ref a_NetError) = some true
  sub_NoPlace_NetError : PySem.W.subIn K (.ref a_NoPlace) (.ref a_NetError) = some true
  sub_SamePlace_NetError : PySem.W.subIn K (.ref a_SamePlace) (.ref a_NetError) = some true
  sub_TooMuch_NetError : PySem.W.subIn K (.ref a_TooMuch) (.ref a_NetError) = some true
  st_NoNet : ErrS K a_NoNet
  st_NoPipe : ErrS K a_NoPipe
  st_NoPlace : ErrS K a_NoPlace
  st_SamePlace : ErrS K a_SamePlace
  st_TooMuch : ErrS K a_TooMuch
  xc_NoNet : ExcCls K a_NoNet
  is_NoNet_NoNet : PySem.W.kitOne K (.ref a_NoNet) (.ref a_NoNet) = some true
  is_NoNet_NoPipe : PySem.W.kitOne K (.ref a_NoNet) (.ref a_NoPipe) = some false
  is_NoNet_NoPlace : PySem.W.kitOne K (.ref a_NoNet) (.ref a_NoPlace) = some false
  is_NoNet_SamePlace : PySem.W.kitOne K (.ref a_NoNet) (.ref a_SamePlace) = some false
  is_NoNet_TooMuch : PySem.W.kitOne K (.ref a_NoNet) (.ref a_TooMuch) = some false
  is_NoNet_ValueError : PySem.W.kitOne K (.ref a_NoNet) (.type "ValueError") = some true
  xc_NoPipe : ExcCls K a_NoPipe
  is_NoPipe_NoNet : PySem.W.kitOne K (.ref a_NoPipe) (.ref a_NoNet) = some false
  is_NoPipe_NoPipe : PySem.W.kitOne K (.ref a_NoPipe) (.ref a_NoPipe) = some true
  is_NoPipe_NoPlace : PySem.W.kitOne K (.ref a_NoPipe) (.ref a_NoPlace) = some false
  is_NoPipe_SamePlace : PySem.W.kitOne K (.ref a_NoPipe) (.ref a_SamePlace) = some false
  is_NoPipe_TooMuch : PySem.W.kitOne K (.ref a_NoPipe) (.ref a_TooMuch) = some false
  is_NoPipe_ValueError : PySem.W.kitOne K (.ref a_NoPipe) (.type "ValueError") = some true
  xc_NoPlace : ExcCls K a_NoPlace
  is_NoPlace_NoNet : PySem.W.kitOne K (.ref a_NoPlace) (.ref a_NoNet) = some false
  is_NoPlace_NoPipe : PySem.W.kitOne K (.ref a_NoPlace) (.ref a_NoPipe) = some false
  is_NoPlace_NoPlace : PySem.W.kitOne K (.ref a_NoPlace) (.ref a_NoPlace) = some true
  is_NoPlace_SamePlace : PySem.W.kitOne K (.ref a_NoPlace) (.ref a_SamePlace) = some false
  is_NoPlace_TooMuch : PySem.W.kitOne K (.ref a_NoPlace) (.ref a_TooMuch) = some false
  is_NoPlace_ValueError : PySem.W.kitOne K (.ref a_NoPlace) (.type "ValueError") = some true
  xc_SamePlace : ExcCls K a_SamePlace
  is_SamePlace_NoNet : PySem.W.kitOne K (.ref a_SamePlace) (.ref a_NoNet) = some false
  is_SamePlace_NoPipe : PySem.W.kitOne K (.ref a_SamePlace) (.ref a_NoPipe) = some false
  is_SamePlace_NoPlace : PySem.W.kitOne K (.ref a_SamePlace) (.ref a_NoPlace) = some false
  is_SamePlace_SamePlace : PySem.W.kitOne K (.ref a_SamePlace) (.ref a_SamePlace) = some true
  is_SamePlace_TooMuch : PySem.W.kitOne K (.ref a_SamePlace) (.ref a_TooMuch) = some false
  is_SamePlace_ValueError : PySem.W.kitOne K (.ref a_SamePlace) (.type "ValueError") = some true
  xc_TooMuch : ExcCls K a_TooMuch
  is_TooMuch_NoNet : PySem.W.kitOne K (.ref a_TooMuch) (.ref a_NoNet) = some false
  is_TooMuch_NoPipe : PySem.W.kitOne K (.ref a_TooMuch) (.ref a_NoPipe) = some false
  is_TooMuch_NoPlace : PySem.W.kitOne K (.ref a_TooMuch) (.ref a_NoPlace) = some false
  is_TooMuch_SamePlace : PySem.W.kitOne K (.ref a_TooMuch) (.ref a_SamePlace) = some false
  is_TooMuch_TooMuch : PySem.W.kitOne K (.ref a_TooMuch) (.ref a_TooMuch) = some true
  is_TooMuch_ValueError : PySem.W.kitOne K (.ref a_TooMuch) (.type "ValueError") = some true
  t_MOST_PLACES : Tok
  mg_MOST_PLACES : mg "MOST_PLACES" = some (.int 12 t_MOST_PLACES)
  t_MOST_PIPES : Tok
  mg_MOST_PIPES : mg "MOST_PIPES" = some (.int 60 t_MOST_PIPES)
  t_PLACES : Tok
  mg_PLACES : mg "PLACES" = some (.str "places" t_PLACES)
  t_OPENED : Tok
  mg_OPENED : mg "OPENED" = some (.str "pipe" t_OPENED)
  t_SHUT : Tok
  mg_SHUT : mg "SHUT" = some (.str "shut" t_SHUT)
  no_ValueError : mg "ValueError" = none
  no_bool : mg "bool" = none
  no_int : mg "int" = none
  no_isinstance : mg "isinstance" = none
  no_len : mg "len" = none
  no_list : mg "list" = none
  no_max : mg "max" = none
  no_min : mg "min" = none
  no_range : mg "range" = none
  no_str : mg "str" = none
  no_tuple : mg "tuple" = none
  f_check_place : Addr
  fd_check_place : FuncData
  F_check_place : Fun K "check_place" "check_place" s_check_place f_check_place fd_check_place
  b_check_place : Binds K fd_check_place ["net", "place"] []
  mg_check_place : mg "check_place" = some (.ref f_check_place)
  f_check_pipe : Addr
  fd_check_pipe : FuncData
  F_check_pipe : Fun K "check_pipe" "check_pipe" s_check_pipe f_check_pipe fd_check_pipe
  b_check_pipe : Binds K fd_check_pipe ["net", "pipe"] []
  mg_check_pipe : mg "check_pipe" = some (.ref f_check_pipe)
  f_Net_init : Addr
  fd_Net_init : FuncData
  F_Net_init : Fun K "__init__" "Net.__init__" s_Net_init f_Net_init fd_Net_init
  b_Net_init : Binds K fd_Net_init ["self", "size"] []
  mk_Net : Mk K a_Net f_Net_init
  f_Net_size : Addr
  fd_Net_size : FuncData
  F_Net_size : Fun K "size" "Net.size" s_Net_size f_Net_size fd_Net_size
  b_Net_size : Binds K fd_Net_size ["self"] []
  m_Net_size : Meth K a_Net "size" f_Net_size
  f_Net_lay : Addr
  fd_Net_lay : FuncData
  F_Net_lay : Fun K "lay" "Net.lay" s_Net_lay f_Net_lay fd_Net_lay
  b_Net_lay : Binds K fd_Net_lay ["self", "start", "goal"] []
  m_Net_lay : Meth K a_Net "lay" f_Net_lay
  f_Net_shut : Addr
  fd_Net_shut : FuncData
  F_Net_shut : Fun K "shut" "Net.shut" s_Net_shut f_Net_shut fd_Net_shut
  b_Net_shut : Binds K fd_Net_shut ["self", "pipe"] []
  m_Net_shut : Meth K a_Net "shut" f_Net_shut
  f_Net_turn : Addr
  fd_Net_turn : FuncData
  F_Net_turn : Fun K "turn" "Net.turn" s_Net_turn f_Net_turn fd_Net_turn
  b_Net_turn : Binds K fd_Net_turn ["self", "pipe", "opened"] []
  m_Net_turn : Meth K a_Net "turn" f_Net_turn
  f_Net_pipes : Addr
  fd_Net_pipes : FuncData
  F_Net_pipes : Fun K "pipes" "Net.pipes" s_Net_pipes f_Net_pipes fd_Net_pipes
  b_Net_pipes : Binds K fd_Net_pipes ["self"] []
  m_Net_pipes : Meth K a_Net "pipes" f_Net_pipes
  f_number : Addr
  fd_number : FuncData
  F_number : Fun K "number" "number" s_number f_number fd_number
  b_number : Binds K fd_number ["word"] []
  mg_number : mg "number" = some (.ref f_number)
  f_first_line : Addr
  fd_first_line : FuncData
  F_first_line : Fun K "first_line" "first_line" s_first_line f_first_line fd_first_line
  b_first_line : Binds K fd_first_line ["line"] []
  mg_first_line : mg "first_line" = some (.ref f_first_line)
  f_lay_line : Addr
  fd_lay_line : FuncData
  F_lay_line : Fun K "lay_line" "lay_line" s_lay_line f_lay_line fd_lay_line
  b_lay_line : Binds K fd_lay_line ["net", "line"] []
  mg_lay_line : mg "lay_line" = some (.ref f_lay_line)
  f_read : Addr
  fd_read : FuncData
  F_read : Fun K "read" "read" s_read f_read fd_read
  b_read : Binds K fd_read ["text"] []
  mg_read : mg "read" = some (.ref f_read)
  f__law_cell_at : Addr
  fd__law_cell_at : FuncData
  F__law_cell_at : Fun K "_law_cell_at" "_law_cell_at" s__law_cell_at f__law_cell_at fd__law_cell_at
  b__law_cell_at : Binds K fd__law_cell_at ["script", "k"] []
  mg__law_cell_at : mg "_law_cell_at" = some (.ref f__law_cell_at)
  f__law_whole : Addr
  fd__law_whole : FuncData
  F__law_whole : Fun K "_law_whole" "_law_whole" s__law_whole f__law_whole fd__law_whole
  b__law_whole : Binds K fd__law_whole ["found"] []
  mg__law_whole : mg "_law_whole" = some (.ref f__law_whole)
  f__law_pipe_by : Addr
  fd__law_pipe_by : FuncData
  F__law_pipe_by : Fun K "_law_pipe_by" "_law_pipe_by" s__law_pipe_by f__law_pipe_by fd__law_pipe_by
  b__law_pipe_by : Binds K fd__law_pipe_by ["cell", "size"] []
  mg__law_pipe_by : mg "_law_pipe_by" = some (.ref f__law_pipe_by)
  f__law_pipes_by : Addr
  fd__law_pipes_by : FuncData
  F__law_pipes_by : Fun K "_law_pipes_by" "_law_pipes_by" s__law_pipes_by f__law_pipes_by fd__law_pipes_by
  b__law_pipes_by : Binds K fd__law_pipes_by ["script", "first", "many", "size"] []
  mg__law_pipes_by : mg "_law_pipes_by" = some (.ref f__law_pipes_by)
  f__law_same_pipes : Addr
  fd__law_same_pipes : FuncData
  F__law_same_pipes : Fun K "_law_same_pipes" "_law_same_pipes" s__law_same_pipes f__law_same_pipes fd__law_same_pipes
  b__law_same_pipes : Binds K fd__law_same_pipes ["found", "due"] []
  mg__law_same_pipes : mg "_law_same_pipes" = some (.ref f__law_same_pipes)
  f__law_line : Addr
  fd__law_line : FuncData
  F__law_line : Fun K "_law_line" "_law_line" s__law_line f__law_line fd__law_line
  b__law_line : Binds K fd__law_line ["pipe"] []
  mg__law_line : mg "_law_line" = some (.ref f__law_line)
  f__law_bad_line : Addr
  fd__law_bad_line : FuncData
  F__law_bad_line : Fun K "_law_bad_line" "_law_bad_line" s__law_bad_line f__law_bad_line fd__law_bad_line
  b__law_bad_line : Binds K fd__law_bad_line ["cell"] []
  mg__law_bad_line : mg "_law_bad_line" = some (.ref f__law_bad_line)
  f__law_bad_first : Addr
  fd__law_bad_first : FuncData
  F__law_bad_first : Fun K "_law_bad_first" "_law_bad_first" s__law_bad_first f__law_bad_first fd__law_bad_first
  b__law_bad_first : Binds K fd__law_bad_first ["cell"] []
  mg__law_bad_first : mg "_law_bad_first" = some (.ref f__law_bad_first)
  f__law_spoiled : Addr
  fd__law_spoiled : FuncData
  F__law_spoiled : Fun K "_law_spoiled" "_law_spoiled" s__law_spoiled f__law_spoiled fd__law_spoiled
  b__law_spoiled : Binds K fd__law_spoiled ["lines", "cell"] []
  mg__law_spoiled : mg "_law_spoiled" = some (.ref f__law_spoiled)
  f__law_number : Addr
  fd__law_number : FuncData
  F__law_number : Fun K "_law_number" "_law_number" s__law_number f__law_number fd__law_number
  b__law_number : Binds K fd__law_number ["word"] []
  mg__law_number : mg "_law_number" = some (.ref f__law_number)
  f__law_pipe_of : Addr
  fd__law_pipe_of : FuncData
  F__law_pipe_of : Fun K "_law_pipe_of" "_law_pipe_of" s__law_pipe_of f__law_pipe_of fd__law_pipe_of
  b__law_pipe_of : Binds K fd__law_pipe_of ["line", "size"] []
  mg__law_pipe_of : mg "_law_pipe_of" = some (.ref f__law_pipe_of)
  f__law_due : Addr
  fd__law_due : FuncData
  F__law_due : Fun K "_law_due" "_law_due" s__law_due f__law_due fd__law_due
  b__law_due : Binds K fd__law_due ["lines"] []
  mg__law_due : mg "_law_due" = some (.ref f__law_due)
  f_law : Addr
  fd_law : FuncData
  F_law : Fun K "law" "law" s_law f_law fd_law
  b_law : Binds K fd_law ["script"] []
  mg_law : mg "law" = some (.ref f_law)
end Sp
namespace Sp
open PySem L2 Sw PyProof.Rows
section
variable {P : Program} {w : World} {K : PySem.W.Frag} {mg : Str → Option Value} {base : Heap}
/-! ### Net.size -/
def sp_size (C : Addr) : Sp := fun vs H Q _ => ∃ p l dx n, vs = [.ref p] ∧ H p = some (.ins C dx (flds n l)) ∧ Q (.int n) H
theorem ok_size (T : TX K mg) : FnOk P w K mg base (CX1 P w) 1 T.f_Net_size T.fd_Net_size ["self"] (sp_size T.a_Net) := by
  refine T.F_Net_size.ok1 sc_Net_size (fun vs H Q E h => ?_) (fun cdv A outer s H vs Q E hr h => ?_)
  · obtain ⟨p, l, dx, n, rfl, _⟩ := h
    rfl
  · obtain ⟨p, l, dx, n, rfl, hp, k⟩ := h
    refine ⟨_, pss_one (ps_ret (pe_fld (pv 0) rfl)), ?_⟩
    exact ⟨_, rfl, p, T.a_Net, dx, _, _, rfl, hp, T.cl_Net, T.na_Net_extent, flds_extent _ _, k⟩
end
end Sp
namespace Sp
open PySem L2 Sw PyProof.Rows
section
variable {P : Program} {w : World} {K : PySem.W.Frag} {mg : Str → Option Value} {base : Heap}
/-! ### check_place -/
def sp_check (C X : Addr) : Sp := fun vs H Q E => ∃ p l dx n i, vs = [.ref p, .int i] ∧ H p = some (.ins C dx (flds n l)) ∧ Small i ∧ (0 ≤ i → i < n → Q .non H) ∧ (¬ (0 ≤ i ∧ i < n) → E (.ref X) none H)
theorem ok_check (T : TX K mg) : FnOk P w K mg base (CX1 P w) 2 T.f_check_place T.fd_check_place ["net", "place"] (sp_check T.a_Net T.a_NoPlace) := by
  have Gs : FnOk P w K mg base (CX1 P w) 1 T.f_Net_size T.fd_Net_size ["self"] (sp_size T.a_Net) := ok_size T
  refine T.F_check_place.okx sc_check_place (fun vs H Q E h => ?_) (fun cdv A outer s H vs Q E hr h => ?_)
  · obtain ⟨p, l, dx, n, i, rfl, _⟩ := h
    rfl
  · obtain ⟨p, l, dx, n, i, rfl, hp, hi, k1, k2⟩ := h
    refine ⟨_, pss_one (ps_if (PW.pt (pw_or (pt_cmp (pc_lt (pv 1) pe_int)) (pw_or1 (pt_cmp (pc_ge (pv 1) (pe_meth0 (pv 0) T.cl_Net T.m_Net_size Gs hr T.b_Net_size .nil passN))))))
      (pss_one (ps_raise rfl lets1 hr.hd T.er_NoPlace rfl T.mg_NoPlace (pa_cons (pe_join (pj_cons pe_str (pj_cons (pe_fmtI (pv 1)) pj_nil))) pa_nil))) pss_nil), ?_⟩
    have msg : ¬ (0 ≤ i ∧ i < n) → tRaise (tCons (fun σ H Q => jCons (tC (.str "no place of the net: ")) (jCons (tFmtI (tVar 1)) jNil) Str.empty σ H Q) tNil) T.a_NoPlace E { nx := fun _ H' => Q .non H', rt := Q } (start ["net", "place"] [.ref p, .int i]) H := fun hn =>
      ⟨_, rfl, by decide +kernel, _, rfl, i, rfl, hi, _, rfl, Nat.le_trans (len_app (m := 30) (n := 1921) (by decide +kernel) (int_text_len_1921 hi)) (by decide), ⟨Nat.le_trans (len_app (m := 30) (n := 1921) (by decide +kernel) (int_text_len_1921 hi)) (by decide), by show 1 ≤ sizeLine; decide, k2 hn⟩⟩
    refine ⟨_, rfl, i, 0, rfl, rfl, _, rfl, ?_⟩
    refine ite2 (fun c => ?_) (fun c => ?_)
    · refine iteT ?_
      exact msg (by have := of_decide_eq_true c; omega)
    · refine ⟨_, rfl, _, rfl, p, dx, _, rfl, hp, flds_no _ _ (by decide +kernel) (by decide +kernel), p, l, dx, n, rfl, hp, i, n, rfl, rfl, _, rfl, ?_⟩
      have c0 : ¬ i < 0 := fun z => c (decide_eq_true z)
      refine ite2 (fun d => ?_) (fun d => ?_)
      · exact msg (by have := of_decide_eq_true d; omega)
      · exact k1 (by omega) (by have : ¬ n ≤ i := fun z => d (decide_eq_true z); omega)
end
end Sp
namespace Sp
open PySem L2 Sw PyProof.Rows
section
variable {P : Program} {w : World} {K : PySem.W.Frag} {mg : Str → Option Value} {base : Heap}
/-! ### Net.__init__ -/
def sp_init (C X : Addr) : Sp := fun vs H Q E => ∃ p dx n, vs = [.ref p, .int n] ∧ H p = some (.ins C dx []) ∧ Small n ∧ (1 ≤ n → n ≤ 12 → ∀ l H', H l = none → NetAt C H' p l n [] → Ext [p] H H' → Q .non H') ∧ (¬ (1 ≤ n ∧ n ≤ 12) → E (.ref X) none H)
theorem ok_init (T : TX K mg) : FnOk P w K mg base (CX1 P w) 1 T.f_Net_init T.fd_Net_init ["self", "size"] (sp_init T.a_Net T.a_TooMuch) := by
  refine T.F_Net_init.okx sc_Net_init (fun vs H Q E h => ?_) (fun cdv A outer s H vs Q E hr h => ?_)
  · obtain ⟨p, dx, n, rfl, _⟩ := h
    rfl
  · obtain ⟨p, dx, n, rfl, hp, hi, k1, k2⟩ := h
    refine ⟨_, pss_cons (ps_if (PW.pt (pw_or (pt_cmp (pc_lt (pv 1) pe_int)) (pw_or1 (pt_cmp (pc_gt (pv 1) (pe_gi rfl T.mg_MOST_PLACES))))))
      (pss_one (ps_raise rfl lets1 hr.hd T.er_TooMuch rfl T.mg_TooMuch (pa_cons (pe_join (pj_cons pe_str (pj_cons (pe_fmtI (pe_gi rfl T.mg_MOST_PLACES)) (pj_cons pe_str (pj_cons (pe_fmtI (pv 1)) pj_nil))))) pa_nil))) pss_nil)
      (pss_cons (ps_fld (pv 0) (pv 1) rfl) (pss_one (ps_fld (pv 0) (pe_lst pa_nil) rfl))), ?_⟩
    have bad : ¬ (1 ≤ n ∧ n ≤ 12) → E (.ref T.a_TooMuch) none H := k2
    have msg : ¬ (1 ≤ n ∧ n ≤ 12) → tRaise (tCons (fun σ H Q => jCons (tC (.str "a net has 1 to ")) (jCons (tFmtI (tC (.int 12))) (jCons (tC (.str " places, not ")) (jCons (tFmtI (tVar 1)) jNil))) Str.empty σ H Q) tNil) T.a_TooMuch E
        { nx := tSeq (sFld K (tVar 0) (tVar 1) "extent") (sFld K (tVar 0) (tLst tNil) "laid") { nx := fun _ H' => Q .non H', rt := Q }, rt := Q } (start ["self", "size"] [.ref p, .int n]) H := fun hn =>
      ⟨_, rfl, by decide +kernel, 12, rfl, by decide, _, rfl, by decide +kernel, _, rfl, by decide +kernel, _, rfl, n, rfl, hi, _, rfl, Nat.le_trans (len_msg (by decide +kernel) hi) line6000, Nat.le_trans (len_msg (by decide +kernel) hi) line6000, by show 1 ≤ sizeLine; decide, k2 hn⟩
    refine ⟨_, rfl, n, 1, rfl, rfl, _, rfl, ?_⟩
    refine ite2 (fun c => ?_) (fun c => ?_)
    · refine iteT ?_
      exact msg (by have := of_decide_eq_true c; omega)
    · refine ⟨_, rfl, n, 12, rfl, rfl, _, rfl, ?_⟩
      have c0 : ¬ n < 1 := fun z => c (decide_eq_true z)
      refine ite2 (fun d => ?_) (fun d => ?_)
      · exact msg (by have := of_decide_eq_true d; omega)
      · have d0 : ¬ 12 < n := fun z => d (decide_eq_true z)
        refine ⟨_, rfl, _, rfl, p, T.a_Net, dx, [], rfl, hp, T.cl_Net, T.na_Net_extent, (by show 0 < 1000; decide), ?_⟩
        refine ⟨Nat.zero_le _, fun l hl => ?_⟩
        have hl0 : H l = none := by
          by_cases z : l = p
          · subst z; rw [upd_same] at hl; cases hl
          · rw [upd_ne z] at hl; exact hl
        have npl : p ≠ l := fresh_ne hp hl0 |>.symm
        refine ⟨_, rfl, p, T.a_Net, dx, _, rfl, (by rw [upd_ne npl, upd_same]), T.cl_Net, T.na_Net_laid, (by show 1 < 1000; decide), ?_⟩
        refine k1 (by omega) (by omega) l _ hl0 ⟨⟨dx, upd_same⟩, [], by rw [upd_ne npl.symm, upd_same]; rfl, .nil⟩ ?_
        refine ⟨fun b o e n => ?_, fun b xs e => ?_, fun b o u e => ?_⟩
        · have nb : b ≠ p := fun z => n (by simp [z])
          rw [upd_ne nb, upd_ne (ne_of_none e hl0), upd_ne nb]; exact e
        · have nb : b ≠ p := fun z => by subst z; rw [hp] at e; cases e
          rw [upd_ne nb, upd_ne (ne_of_none e hl0), upd_ne nb]; exact e
        · have nb : b ≠ p := fun z => by subst z; rw [hp] at e; cases e
          rw [upd_ne nb, upd_ne (ne_of_none e hl0), upd_ne nb]; exact e
end
end Sp
namespace Sp
open PySem L2 Sw PyProof.Rows
section
variable {P : Program} {w : World} {K : PySem.W.Frag} {mg : Str → Option Value} {base : Heap}
/-! ### Net.lay -/
def sp_lay (C xNo xSame xMuch : Addr) : Sp := fun vs H Q E => ∃ p l n ps a b, vs = [.ref p, .int a, .int b] ∧ NetAt C H p l n ps ∧ Small a ∧ Small b ∧ ps.length ≤ 60 ∧
  (¬ ((0 ≤ a ∧ a < n) ∧ 0 ≤ b ∧ b < n) → E (.ref xNo) none H) ∧ ((0 ≤ a ∧ a < n) ∧ 0 ≤ b ∧ b < n → a = b → E (.ref xSame) none H) ∧ ((0 ≤ a ∧ a < n) ∧ 0 ≤ b ∧ b < n → a ≠ b → 60 ≤ ps.length → E (.ref xMuch) none H) ∧
  ((0 ≤ a ∧ a < n) ∧ 0 ≤ b ∧ b < n → a ≠ b → ps.length < 60 → ∀ H', NetAt C H' p l n (ps ++ [(a, b, true)]) → Ext [l] H H' → Q (.int ps.length) H')
theorem ok_lay (T : TX K mg) : FnOk P w K mg base (CX1 P w) 3 T.f_Net_lay T.fd_Net_lay ["self", "start", "goal"] (sp_lay T.a_Net T.a_NoPlace T.a_SamePlace T.a_TooMuch) := by
  have Gc : FnOk P w K mg base (CX1 P w) 2 T.f_check_place T.fd_check_place ["net", "place"] (sp_check T.a_Net T.a_NoPlace) := ok_check T
  refine T.F_Net_lay.okx sc_Net_lay (fun vs H Q E h => ?_) (fun cdv A outer s H vs Q E hr h => ?_)
  · obtain ⟨p, l, n, ps, a, b, rfl, _⟩ := h
    rfl
  · obtain ⟨p, l, n, ps, a, b, rfl, N, ha, hb, hz, e1, e2, e3, k⟩ := h
    refine ⟨_, pss_cons (ps_expr (pe_call Gc (hr.mono (by decide)) rfl T.mg_check_place T.F_check_place.kp T.b_check_place .nil (pass1 rfl lets1) (pa_cons (pv 0) (pa_cons (pv 1) pa_nil))))
      (pss_cons (ps_expr (pe_call Gc (hr.mono (by decide)) rfl T.mg_check_place T.F_check_place.kp T.b_check_place .nil (pass1 rfl lets1) (pa_cons (pv 0) (pa_cons (pv 2) pa_nil))))
      (pss_cons (ps_if (pt_cmp (pc_eqI (pv 1) (pv 2))) (pss_one (ps_raise rfl lets1 hr.hd T.er_SamePlace rfl T.mg_SamePlace (pa_cons (pe_join (pj_cons pe_str (pj_cons (pe_fmtI (pv 1)) (pj_cons pe_str pj_nil)))) pa_nil))) pss_nil)
      (pss_cons (ps_if (pt_cmp (pc_ge (pe_callB call_len_seq (by rfl) T.no_len PySem.boot_len (pa_cons (pe_fld (pv 0) rfl) pa_nil)) (pe_gi rfl T.mg_MOST_PIPES)))
        (pss_one (ps_raise rfl lets1 hr.hd T.er_TooMuch rfl T.mg_TooMuch (pa_cons (pe_join (pj_cons pe_str (pj_cons (pe_fmtI (pe_gi rfl T.mg_MOST_PIPES)) (pj_cons pe_str pj_nil)))) pa_nil))) pss_nil)
      (pss_cons (ps_expr (pe_bm PySem.F.plainAttrs_list PySem.F.slot_list_append PySem.F.type_list_append mt_append (pe_fld (pv 0) rfl) (pa_cons (pe_tup (pa_cons (pv 1) (pa_cons (pv 2) (pa_cons pe_bl pa_nil)))) pa_nil)))
      (pss_one (ps_ret (pe_sub (pe_callB call_len_seq (by rfl) T.no_len PySem.boot_len (pa_cons (pe_fld (pv 0) rfl) pa_nil)) pe_int))))))), ?_⟩
    obtain ⟨⟨dx, hp⟩, ts, hl, tt⟩ := N
    have hts : ts.length = ps.length := tt.len
    refine ⟨_, rfl, _, rfl, p, l, dx, n, a, rfl, hp, ha, fun a0 a1 => ?_, fun q => e1 (by omega)⟩
    refine ⟨_, rfl, _, rfl, p, l, dx, n, b, rfl, hp, hb, fun b0 b1 => ?_, fun q => e1 (by omega)⟩
    have rg : (0 ≤ a ∧ a < n) ∧ 0 ≤ b ∧ b < n := ⟨⟨a0, a1⟩, b0, b1⟩
    refine ⟨_, rfl, _, rfl, a, b, rfl, rfl, _, rfl, ?_⟩
    refine ite2 (fun c => ?_) (fun c => ?_)
    · have c0 := of_decide_eq_true c
      exact ⟨_, rfl, by decide +kernel, _, rfl, a, rfl, ha, _, rfl, Nat.le_trans (len_msg (by decide +kernel) ha) line6000, _, rfl, Nat.le_trans (len_app (len_msg (by decide +kernel) ha) (n := 100) (by decide +kernel)) (by decide), Nat.le_trans (len_app (len_msg (by decide +kernel) ha) (n := 100) (by decide +kernel)) (by decide), by show 1 ≤ sizeLine; decide, e2 rg c0⟩
    · have c0 : a ≠ b := fun z => c (decide_eq_true z)
      refine ⟨_, rfl, p, T.a_Net, dx, _, _, rfl, hp, T.cl_Net, T.na_Net_laid, flds_laid _ _, l, _, rfl, .inl (SqL.of hl), _, 60, rfl, rfl, _, rfl, ?_⟩
      rw [List.length_map, hts]
      refine ite2 (fun d => ?_) (fun d => ?_)
      · have d0 : (60 : Int) ≤ (ps.length : Int) := of_decide_eq_true d
        exact ⟨_, rfl, by decide +kernel, 60, rfl, by decide, _, rfl, by decide +kernel, _, rfl, by decide +kernel, by decide +kernel, by show 1 ≤ sizeLine; decide, e3 rg c0 (by omega)⟩
      · have d0 : ¬ (60 : Int) ≤ (ps.length : Int) := fun z => d (decide_eq_true z)
        refine ⟨_, rfl, p, T.a_Net, dx, _, _, rfl, hp, T.cl_Net, T.na_Net_laid, flds_laid _ _, .inl ⟨rfl, _, SqL.of hl⟩, _, rfl, _, rfl, (by show 3 ≤ sizeLine; decide), fun t ht => ?_⟩
        have nlt : l ≠ t := (fresh_ne hl ht).symm
        have npt : p ≠ t := (fresh_ne hp ht).symm
        have npl : p ≠ l := ne_of hp hl (by intro z; cases z)
        refine ⟨l, _, _, rfl, rfl, (by rw [upd_ne nlt]; exact hl), small1000 (by rw [List.length_map]; omega), ?_⟩
        refine ⟨_, rfl, p, T.a_Net, dx, _, _, rfl, (by rw [upd_ne npl, upd_ne npt]; exact hp), T.cl_Net, T.na_Net_laid, flds_laid _ _, l, _, rfl, .inl (SqL.of upd_same), _, 1, rfl, rfl, ?_⟩
        have eq1 : (((ts.map V.ref ++ [V.ref t]).length : Int) - 1) = (ps.length : Int) := by
          rw [List.length_append, List.length_map, hts]; simp
        show Q (V.int (((ts.map V.ref ++ [V.ref t]).length : Int) - 1)) _
        rw [eq1]
        have x1 : Ext [l] H (upd H t (.tup [.int a, .int b, .bl true])) := Ext.new ht
        have x2 : Ext [l] H (upd (upd H t (.tup [.int a, .int b, .bl true])) l (.lst (ts.map V.ref ++ [V.ref t]))) := x1.trans (Ext.putL (xs := ts.map V.ref) (by rw [upd_ne nlt]; exact hl) (by simp))
        refine k rg c0 (by omega) _ ⟨⟨dx, by rw [upd_ne npl, upd_ne npt]; exact hp⟩, ts ++ [t], by rw [upd_same, List.map_append]; rfl, ?_⟩ x2
        refine Tups.snoc ?_ (tt.mono x2.tups)
        rw [upd_ne nlt.symm, upd_same]
        rfl
end
end Sp
namespace Sp
open PySem L2 Sw PyProof.Rows
section
variable {P : Program} {w : World} {K : PySem.W.Frag} {mg : Str → Option Value} {base : Heap}
/-! ### Net.pipes -/
def sp_pipes (C : Addr) : Sp := fun vs H Q _ => ∃ p l n ps, vs = [.ref p] ∧ NetAt C H p l n ps ∧ ∀ a H', H a = none → PipesAt H' a ps → Ext [] H H' → Q (.ref a) H'
theorem ok_pipes (T : TX K mg) : FnOk P w K mg base (CX1 P w) 1 T.f_Net_pipes T.fd_Net_pipes ["self"] (sp_pipes T.a_Net) := by
  refine T.F_Net_pipes.ok1 sc_Net_pipes (fun vs H Q E h => ?_) (fun cdv A outer s H vs Q E hr h => ?_)
  · obtain ⟨p, l, n, ps, rfl, _⟩ := h
    rfl
  · obtain ⟨p, l, n, ps, rfl, N, k⟩ := h
    refine ⟨_, pss_one (ps_ret (pe_callTy call_list_of (by rfl) T.no_list (by decide +kernel) (pa_cons (pe_fld (pv 0) rfl) pa_nil))), ?_⟩
    obtain ⟨⟨dx, hp⟩, ts, hl, tt⟩ := N
    refine ⟨_, rfl, p, T.a_Net, dx, _, _, rfl, hp, T.cl_Net, T.na_Net_laid, flds_laid _ _, l, _, rfl, .inl (SqL.of hl), fun a ha => ?_⟩
    exact k a _ ha ⟨ts, upd_same, tt.mono (Ext.new (S := []) ha).tups⟩ (Ext.new ha)
end
end Sp
namespace Sp
open PySem L2 Sw PyProof.Rows
section
variable {P : Program} {w : World} {K : PySem.W.Frag} {mg : Str → Option Value} {base : Heap}
/-! ### check_pipe -/
def sp_chpipe (C X : Addr) : Sp := fun vs H Q E => ∃ p l n ps k, vs = [.ref p, .int k] ∧ NetAt C H p l n ps ∧ Small k ∧ (¬ (0 ≤ k ∧ k < ps.length) → ∀ H', Ext [] H H' → E (.ref X) none H') ∧ (0 ≤ k → k < ps.length → ∀ H', Ext [] H H' → Q .non H')
theorem ok_chpipe (T : TX K mg) : FnOk P w K mg base (CX1 P w) 2 T.f_check_pipe T.fd_check_pipe ["net", "pipe"] (sp_chpipe T.a_Net T.a_NoPipe) := by
  have G_Net_pipes : FnOk P w K mg base (CX1 P w) 1 T.f_Net_pipes T.fd_Net_pipes ["self"] (sp_pipes T.a_Net) := ok_pipes T
  refine T.F_check_pipe.okx sc_check_pipe (fun vs H Q E h => ?_) (fun cdv A outer s H vs Q E hr h => ?_)
  · obtain ⟨p, l, n, ps, k, rfl, _⟩ := h
    rfl
  · obtain ⟨p, l, n, ps, k, rfl, N, hk, e1, q⟩ := h
    obtain ⟨⟨dx, hp⟩, ts, hl, tt⟩ := id N
    refine ⟨_, pss_one (ps_if (PW.pt (pw_or (pt_cmp (pc_lt (pv 1) pe_int)) (pw_or1 (pt_cmp (pc_ge (pv 1) (pe_callB (lenK K) (by rfl) T.no_len bt_len (pa_cons (pe_meth0 (pv 0) T.cl_Net T.m_Net_pipes G_Net_pipes hr T.b_Net_pipes .nil passN) pa_nil)))))))
      (pss_one (ps_raise rfl lets1 hr.hd T.er_NoPipe rfl T.mg_NoPipe (pa_cons (pe_join (pj_cons pe_str (pj_cons (pe_fmtI (pv 1)) pj_nil))) pa_nil))) pss_nil), ?_⟩
    have msg : ¬ (0 ≤ k ∧ k < ps.length) → ∀ H', Ext [] H H' → tRaise (tCons (fun σ H Q => jCons (tC (.str "no pipe has the number ")) (jCons (tFmtI (tVar 1)) jNil) Str.empty σ H Q) tNil) T.a_NoPipe E
        { nx := fun _ H' => Q .non H', rt := Q } (start ["net", "pipe"] [.ref p, .int k]) H' := fun hn H' x =>
      ⟨_, rfl, by decide +kernel, _, rfl, k, rfl, hk, _, rfl, Nat.le_trans (len_msg (by decide +kernel) hk) line6000, Nat.le_trans (len_msg (by decide +kernel) hk) line6000, by show 1 ≤ sizeLine; decide, e1 hn H' x⟩
    refine ⟨_, rfl, k, 0, rfl, rfl, _, rfl, ?_⟩
    refine ite2 (fun c => ?_) (fun c => ?_)
    · refine iteT ?_
      exact msg (by have := of_decide_eq_true c; omega) H Ext.refl
    · have c0 : ¬ k < 0 := fun z => c (decide_eq_true z)
      refine ⟨_, rfl, _, rfl, p, dx, _, rfl, hp, flds_no _ _ (by decide +kernel) (by decide +kernel), p, l, n, ps, rfl, N, fun a H1 ha P1 x1 => ?_⟩
      obtain ⟨us, hl1, tt1⟩ := P1
      refine ⟨a, _, rfl, .inl (SqL.of hl1), _, _, rfl, rfl, _, rfl, ?_⟩
      rw [List.length_map, tt1.len]
      refine ite2 (fun d => ?_) (fun d => ?_)
      · exact msg (by have := of_decide_eq_true d; omega) H1 x1
      · have d0 : ¬ (ps.length : Int) ≤ k := fun z => d (decide_eq_true z)
        exact q (by omega) (by omega) H1 x1
/-! ### Net.turn -/
def sp_turn (C X : Addr) : Sp := fun vs H Q E => ∃ p l n ps k o, vs = [.ref p, .int k, .bl o] ∧ NetAt C H p l n ps ∧ Small k ∧ (¬ (0 ≤ k ∧ k < ps.length) → ∀ H', Ext [] H H' → E (.ref X) none H') ∧
  (∀ (j : Nat) (x : Pt), k = j → ps[j]? = some x → ∀ H', NetAt C H' p l n (ps.set j (x.1, x.2.1, o)) → Ext [l] H H' → Q .non H')
theorem ok_turn (T : TX K mg) : FnOk P w K mg base (CX1 P w) 3 T.f_Net_turn T.fd_Net_turn ["self", "pipe", "opened"] (sp_turn T.a_Net T.a_NoPipe) := by
  have G_check_pipe : FnOk P w K mg base (CX1 P w) 2 T.f_check_pipe T.fd_check_pipe ["net", "pipe"] (sp_chpipe T.a_Net T.a_NoPipe) := ok_chpipe T
  refine T.F_Net_turn.okx sc_Net_turn (fun vs H Q E h => ?_) (fun cdv A outer s H vs Q E hr h => ?_)
  · obtain ⟨p, l, n, ps, k, o, rfl, _⟩ := h
    rfl
  · obtain ⟨p, l, n, ps, k, o, rfl, N0, hk, e1, q0⟩ := h
    refine ⟨_, (pss_cons (ps_expr (pe_call G_check_pipe (hr.mono (by decide)) rfl T.mg_check_pipe T.F_check_pipe.kp T.b_check_pipe .nil (pass1 rfl lets1) (pa_cons (pv 0) (pa_cons (pv 1) pa_nil))))
      (pss_cons (ps_set (i := 3) sc_Net_turn.nd rfl (Or.inl rfl) (pe_ix (ixL K) (pe_fld (pv 0) rfl) (pv 1) (fun _ _ => rfl)))
      (pss_one (ps_asg (pe_tup (pa_cons (pe_ix (ixT K) (pv 3) pe_int (fun _ _ => rfl)) (pa_cons (pe_ix (ixT K) (pv 3) pe_int (fun _ _ => rfl)) (pa_cons (pv 2) pa_nil)))) (pg_sub (pe_fld (pv 0) rfl) (pv 1) set_list))))), ?_⟩
    refine ⟨_, rfl, _, rfl, p, l, n, ps, k, rfl, N0, hk, e1, fun k0 k1 H1 x0 => ?_⟩
    have N := N0.ext x0 (by simp) (by simp)
    have q : ∀ (j : Nat) (x : Pt), k = j → ps[j]? = some x → ∀ H', NetAt T.a_Net H' p l n (ps.set j (x.1, x.2.1, o)) → Ext [l] H1 H' → Q .non H' := fun j x a b H' c d => q0 j x a b H' c ((x0.mono (by simp)).trans d)
    obtain ⟨⟨dx, hp⟩, ts, hl, tt⟩ := id N
    have hts : ts.length = ps.length := tt.len
    clear N0 q0 x0
    obtain ⟨j, rfl⟩ : ∃ j : Nat, k = j := ⟨k.toNat, by omega⟩
    have hj : j < ps.length := by omega
    obtain ⟨t, ht, et⟩ := tt.get (i := j) (p := ps[j]) (by simp [hj])
    have a1 : atI (ts.map V.ref) (j : Int) = some (.ref t) := atI_nat (by rw [List.getElem?_map, ht]; rfl)
    refine ⟨_, rfl, p, T.a_Net, dx, _, _, rfl, hp, T.cl_Net, T.na_Net_laid, flds_laid _ _, _, rfl, l, _, _, _, rfl, rfl, SqL.of hl, a1, ?_⟩
    refine ⟨_, rfl, t, _, 0, _, rfl, rfl, SqT.of et, rfl, _, rfl, t, _, 1, _, rfl, rfl, SqT.of et, rfl, _, rfl, (by show 3 ≤ sizeLine; decide), fun u hu => ?_⟩
    have nlu : l ≠ u := (fresh_ne hl hu).symm
    have npu : p ≠ u := (fresh_ne hp hu).symm
    have npl : p ≠ l := ne_of hp hl (by intro z; cases z)
    have ix : ixN (ts.map V.ref).length (j : Int) = some j := by
      unfold ixN
      rw [if_pos (by omega), if_pos (by rw [List.length_map]; omega)]
      simp
    refine ⟨_, rfl, p, T.a_Net, dx, _, _, rfl, (by rw [upd_ne npu]; exact hp), T.cl_Net, T.na_Net_laid, flds_laid _ _, _, rfl, l, _, _, _, rfl, rfl, (by rw [upd_ne nlu]; exact hl), ix, ?_⟩
    have x1 : Ext [l] H1 (upd H1 u (.tup [.int ps[j].1, .int ps[j].2.1, .bl o])) := Ext.new hu
    have x2 := x1.trans (Ext.putL (o := .lst ((ts.map V.ref).set j (.ref u))) (p := l) (xs := ts.map V.ref) (by rw [upd_ne nlu]; exact hl) (by simp))
    refine q j ps[j] rfl (by simp [hj]) _ ⟨⟨dx, by rw [upd_ne npl, upd_ne npu]; exact hp⟩, ts.set j u, ?_, ?_⟩ x2
    · rw [upd_same, ← List.map_set]
    · refine Tups.set ?_ j (tt.mono x2.tups)
      rw [upd_ne nlu.symm, upd_same]
      rfl
/-! ### Net.shut, Net.reopen -/
def sp_turn2 (C X : Addr) (o : Bool) : Sp := fun vs H Q E => ∃ p l n ps k, vs = [.ref p, .int k] ∧ NetAt C H p l n ps ∧ Small k ∧ (¬ (0 ≤ k ∧ k < ps.length) → ∀ H', Ext [] H H' → E (.ref X) none H') ∧
  (∀ (j : Nat) (x : Pt), k = j → ps[j]? = some x → ∀ H', NetAt C H' p l n (ps.set j (x.1, x.2.1, o)) → Ext [l] H H' → Q .non H')
theorem ok_shut (T : TX K mg) : FnOk P w K mg base (CX1 P w) 4 T.f_Net_shut T.fd_Net_shut ["self", "pipe"] (sp_turn2 T.a_Net T.a_NoPipe false) := by
  have G : FnOk P w K mg base (CX1 P w) 3 T.f_Net_turn T.fd_Net_turn ["self", "pipe", "opened"] (sp_turn T.a_Net T.a_NoPipe) := ok_turn T
  refine T.F_Net_shut.okx sc_Net_shut (fun vs H Q E h => ?_) (fun cdv A outer s H vs Q E hr h => ?_)
  · obtain ⟨p, l, n, ps, k, rfl, _⟩ := h
    rfl
  · obtain ⟨p, l, n, ps, k, rfl, N, hk, e1, q⟩ := h
    obtain ⟨⟨dx, hp⟩, _⟩ := id N
    refine ⟨_, pss_one (ps_expr (pe_meth (pv 0) T.cl_Net T.m_Net_turn G (hr.mono (by decide)) T.b_Net_turn .nil (pass1 rfl lets1) (pa_cons (pv 1) (pa_cons pe_bl pa_nil)))), ?_⟩
    exact ⟨_, rfl, p, dx, _, rfl, hp, flds_no _ _ (by decide +kernel) (by decide +kernel), _, rfl, p, l, n, ps, k, false, rfl, N, hk, e1, q⟩
end
end Sp

set_option Elab.async false
set_option linter.all false
set_option maxRecDepth 100000
namespace Sp
open PySem L2 Sw PyProof.Rows
section
variable {P : Program} {w : World} {K : PySem.W.Frag} {mg : Str → Option Value} {base : Heap}
/-! ### number -/
def sp_num (X : Addr) : Sp := fun vs H Q E => ∃ v : Str, vs = [.str v] ∧ Ln v ∧ (∀ i : Int, 0 ≤ i → i ≤ 12 → v = fg i → Q (.int i) H) ∧ ((∀ i : Int, 0 ≤ i → i ≤ 12 → v ≠ fg i) → E (.ref X) none H)
theorem ok_number (T : TX K mg) : FnOk P w K mg base (CX1 P w) 1 T.f_number T.fd_number ["word"] (sp_num T.a_NoNet) := by
  refine T.F_number.okx sc_number (fun vs H Q E h => ?_) (fun cdv A outer s H vs Q E hr h => ?_)
  · obtain ⟨v, rfl, _⟩ := h
    rfl
  · obtain ⟨v, rfl, hv, q, k⟩ := h
    refine ⟨_, (pss_cons (ps_for (by passes_own) rfl (pi_range1 rfl T.no_range (pa_cons (pe_op op_add (pe_gi rfl T.mg_MOST_PLACES) pe_int) pa_nil)) (pg_name (i := 1) sc_number.nd rfl (Or.inl rfl))
      (pss_one (ps_if (pt_cmpR op_eq (pe_callTy call_str_int (by rfl) T.no_str bt_str (pa_cons (pv 1) pa_nil)) (pv 0) (nomark _)) (pss_one (ps_ret (pv 1))) pss_nil)))
      (pss_one (ps_raise rfl lets1 hr.hd T.er_NoNet rfl T.mg_NoNet (pa_cons (pe_join (pj_cons pe_str (pj_cons (pe_fmtR (pv 0)) pj_nil))) pa_nil)))), ?_⟩
    refine seq_mid (t := tFor _ _ _) (fun σ' H' => (∃ x1, σ' = [some (.str v), x1]) ∧ (∀ i : Int, 0 ≤ i → i ≤ 12 → v ≠ fg i) ∧ H' = H) (fun Z hZ => ?_) ?_
    · refine ⟨_, _, rfl, rfl, _, rfl, by decide, by decide, ?_⟩
      refine for_range (n := 13) (fun i σ' H' => ∃ x1, σ' = [some (.str v), x1] ∧ (∀ j : Int, 0 ≤ j → j < i → v ≠ fg j) ∧ H' = H) ⟨none, rfl, fun j a b => by omega, rfl⟩ ?_ ?_
      · rintro i σ' H' hi ⟨x1, rfl, iv, rfl⟩
        refine ⟨_, rfl, _, rfl, small_of (by omega) (by omega), _, rfl, rfl, _, rfl, ?_⟩
        by_cases c : fg (0 + (i : Int)) = v
        · refine ifT (by rw [← c]) ⟨_, rfl, ?_⟩
          exact q _ (by omega) (by omega) c.symm
        · refine ifF (fun z => c (V.str.inj z)) ⟨_, rfl, fun j a b => ?_, rfl⟩
          by_cases e : j < i
          · exact iv j a e
          · have : j = 0 + (i : Int) := by omega
            rw [this]
            exact fun z => c z.symm
      · rintro σ' H' ⟨x1, rfl, iv, rfl⟩
        exact hZ _ _ ⟨⟨_, rfl⟩, fun j a b => iv j a (by omega), rfl⟩
    rintro σ' H' ⟨⟨x1, rfl⟩, iv, rfl⟩
    have l1 : (Str.empty ++ ("no number of a net: " : Str)).length ≤ 100 := by decide +kernel
    exact ⟨_, rfl, by decide +kernel, _, rfl, _, rfl, hv.rep1, _, rfl, hv.msg l1, hv.msg l1, by show 1 ≤ sizeLine; decide, k iv⟩
end
end Sp
namespace Sp
open PySem L2 Sw PyProof.Rows
section
variable {P : Program} {w : World} {K : PySem.W.Frag} {mg : Str → Option Value} {base : Heap}
/-! ### first_line -/
def sp_first (C X Y : Addr) : Sp := fun vs H Q E => ∃ v : Str, vs = [.str v] ∧ Ln v ∧ (∀ n : Nat, hOf v = some n → ∀ p l H', H p = none → H l = none → NetAt C H' p l n [] → Ext [] H H' → Q (.ref p) H') ∧ (hOf v = none → ∀ Z H', Z = X ∨ Z = Y → Ext [] H H' → E (.ref Z) none H')
theorem ok_first (T : TX K mg) : FnOk P w K mg base (CX1 P w) 3 T.f_first_line T.fd_first_line ["line"] (sp_first T.a_Net T.a_NoNet T.a_TooMuch) := by
  have G_Net_init : FnOk P w K mg base (CX1 P w) 1 T.f_Net_init T.fd_Net_init ["self", "size"] (sp_init T.a_Net T.a_TooMuch) := ok_init T
  have G_number : FnOk P w K mg base (CX1 P w) 1 T.f_number T.fd_number ["word"] (sp_num T.a_NoNet) := ok_number T
  refine T.F_first_line.okx sc_first_line (fun vs H Q E h => ?_) (fun cdv A outer s H vs Q E hr h => ?_)
  · obtain ⟨v, rfl, _⟩ := h
    rfl
  · obtain ⟨v, rfl, hv, q, k⟩ := h
    refine ⟨_, (pss_cons (ps_set (i := 1) sc_first_line.nd rfl (Or.inl rfl) (pe_bm PySem.F.plainAttrs_str PySem.F.slot_str_split PySem.F.type_str_split mt_split (pv 0) (pa_cons pe_str pa_nil)))
      (pss_cons (ps_if (PW.pt (pw_or (pt_cmp (pc_neI (pe_callB (lenK K) (by rfl) T.no_len bt_len (pa_cons (pv 1) pa_nil)) pe_int)) (pw_or1 (pt_cmpR op_ne (pe_ix (ixL K) (pv 1) pe_int (fun _ _ => rfl)) (pe_gs rfl T.mg_PLACES) (nomark _))))) (pss_one (ps_raise rfl lets1 hr.hd T.er_NoNet rfl T.mg_NoNet (pa_cons (pe_join (pj_cons pe_str (pj_cons (pe_fmtR (pv 0)) pj_nil))) pa_nil))) pss_nil)
      (pss_one (ps_ret (pe_make T.mk_Net G_Net_init (hr.mono (by decide)) rfl T.mg_Net T.b_Net_init .nil (pass1 rfl lets1) (pa_cons (pe_call G_number (hr.mono (by decide)) rfl T.mg_number T.F_number.kp T.b_number .nil (pass1 rfl lets1) (pa_cons (pe_ix (ixL K) (pv 1) pe_int (fun _ _ => rfl)) pa_nil)) pa_nil)))))), ?_⟩
    have hl := hv.len
    have b1 : 1 ≤ (" " : Str).length := by decide +kernel
    have wok := words_ok hv
    refine ⟨_, rfl, rfl, _, _, rfl, rfl, b1, by omega, fun w hw => ?_⟩
    have x1 : Ext [] H (upd H w (.lst ((Txt.split v (" " : Str)).map V.str))) := Ext.new hw
    have W1 : upd H w (.lst ((Txt.split v (" " : Str)).map V.str)) w = some (.lst ((Txt.split v (" " : Str)).map V.str)) := upd_same
    generalize upd H w (.lst ((Txt.split v (" " : Str)).map V.str)) = H1 at x1 W1 ⊢
    dsimp only [gName]
    have l1 : (Str.empty ++ ("no first line of a net: " : Str)).length ≤ 100 := by decide +kernel
    have msg : hOf v = none → ∀ D σ, tRaise (tCons (fun σ H Q => jCons (tC (.str "no first line of a net: ")) (jCons (tFmtR (tVar 0)) jNil) Str.empty σ H Q) tNil) T.a_NoNet E D (some (.str v) :: σ) H1 := fun hn D σ =>
      ⟨_, rfl, by decide +kernel, _, rfl, _, rfl, hv.rep1, _, rfl, hv.msg l1, hv.msg l1, by show 1 ≤ sizeLine; decide, k hn _ _ (.inl rfl) x1⟩
    refine ⟨_, rfl, w, _, rfl, .inl (SqL.of W1), _, _, rfl, rfl, _, rfl, ?_⟩
    by_cases c : (Txt.split v (" " : Str)).length = 2
    · obtain ⟨a, b, e⟩ := list2 c
      have he := hOf_2 e
      rw [e] at W1 wok ⊢
      have okb := wok b (by simp)
      refine ifNF rfl ⟨_, rfl, w, _, 0, _, rfl, rfl, SqL.of W1, rfl, rfl, _, rfl, ?_⟩
      by_cases ca : a = ("places" : Str)
      · refine ifNF (congrArg V.str ca) ?_
        refine ⟨_, rfl, w, _, 1, _, rfl, rfl, SqL.of W1, rfl, b, rfl, okb, fun i i0 i1 eb p dx np ndx nex => ?_, fun no => ?_⟩
        · have ei : nm b = i := by rw [eb]; exact nm_fg i0 (by omega)
          rw [ei] at he
          have y1 : Ext [] H1 (upd (upd H1 dx (.own p)) p (.ins T.a_Net dx [])) := (Ext.new ndx).trans (Ext.new (by rw [upd_ne (Ne.symm nex)]; exact np))
          have np0 : H p = none := x1.free np (by simp)
          refine ⟨p, dx, i, rfl, upd_same, small_of (by omega) (by omega), fun j0 j1 l H5 hl5 N5 x5 => ⟨rfl, ?_⟩, fun z => ?_⟩
          · rw [if_pos ⟨ca, j0, j1⟩] at he
            refine q i.toNat he p l H5 np0 (x1.free (y1.free hl5 (by simp)) (by simp)) ?_ (x1.trans (y1.over1 x5 np))
            rw [show ((i.toNat : Nat) : Int) = i by omega]
            exact N5
          · rw [if_neg (fun z2 => z ⟨z2.2.1, z2.2.2⟩)] at he
            exact k he _ _ (.inr rfl) (x1.trans y1)
        · refine k ?_ _ _ (.inl rfl) x1
          rw [he]
          exact if_neg fun z => no (nm b) (by omega) z.2.2 (nm_ge (by omega)).2
      · refine ifNT (fun z => ca (V.str.inj z)) ?_
        exact msg (by rw [he]; exact if_neg fun z => ca z.1) _ _
    · refine ifNT ?_ (iteT (msg (hOf_no c) _ _))
      intro z
      rw [List.length_map] at z
      exact c (by omega)
end
end Sp

set_option Elab.async false
set_option linter.all false
set_option maxRecDepth 100000
namespace Sp
open PySem L2 Sw PyProof.Rows
section
variable {P : Program} {w : World} {K : PySem.W.Frag} {mg : Str → Option Value} {base : Heap}
/-! ### lay_line -/
theorem set_last {α : Type} (l : List α) (x y : α) : (l ++ [x]).set l.length y = l ++ [y] := by
  rw [List.set_append_right _ _ (Nat.le_refl _), Nat.sub_self]
  rfl
def sp_layl (C X1 X2 X3 X4 : Addr) : Sp := fun vs H Q E => ∃ (p l : Addr) (n : Nat) (qs : List Pt) (v : Str), vs = [.ref p, .str v] ∧ NetAt C H p l n qs ∧ Ln v ∧ n ≤ 12 ∧ qs.length ≤ 60 ∧ (∀ x, pOf n v = some x → qs.length < 60 → ∀ H', NetAt C H' p l n (qs ++ [x]) → Ext [l] H H' → Q .non H') ∧
  (pOf n v = none ∨ 60 ≤ qs.length → ∀ Z H', Z = X1 ∨ Z = X2 ∨ Z = X3 ∨ Z = X4 → Ext [] H H' → E (.ref Z) none H')
set_option maxHeartbeats 0 in
theorem ok_layl (T : TX K mg) : FnOk P w K mg base (CX1 P w) 5 T.f_lay_line T.fd_lay_line ["net", "line"] (sp_layl T.a_Net T.a_NoNet T.a_NoPlace T.a_SamePlace T.a_TooMuch) := by
  have G_Net_lay : FnOk P w K mg base (CX1 P w) 3 T.f_Net_lay T.fd_Net_lay ["self", "start", "goal"] (sp_lay T.a_Net T.a_NoPlace T.a_SamePlace T.a_TooMuch) := ok_lay T
  have G_number : FnOk P w K mg base (CX1 P w) 1 T.f_number T.fd_number ["word"] (sp_num T.a_NoNet) := ok_number T
  have G_Net_shut : FnOk P w K mg base (CX1 P w) 4 T.f_Net_shut T.fd_Net_shut ["self", "pipe"] (sp_turn2 T.a_Net T.a_NoPipe false) := ok_shut T
  refine T.F_lay_line.okx sc_lay_line (fun vs H Q E h => ?_) (fun cdv A outer s H vs Q E hr h => ?_)
  · obtain ⟨p, l, n, qs, v, rfl, _⟩ := h
    rfl
  · obtain ⟨p, l, n, qs, v, rfl, N, hv, n12, hz, q, k⟩ := h
    refine ⟨_, (pss_cons (ps_set (i := 2) sc_lay_line.nd rfl (Or.inl rfl) (pe_bm PySem.F.plainAttrs_str PySem.F.slot_str_split PySem.F.type_str_split mt_split (pv 1) (pa_cons pe_str pa_nil)))
      (pss_cons (ps_if (PW.pt (pw_or (pt_cmp (pc_neI (pe_callB (lenK K) (by rfl) T.no_len bt_len (pa_cons (pv 2) pa_nil)) pe_int)) (pw_or1 (pt_cmpR (notinK K) (pe_ix (ixL K) (pv 2) pe_int (fun _ _ => rfl)) (pe_tup (pa_cons (pe_gs rfl T.mg_OPENED) (pa_cons (pe_gs rfl T.mg_SHUT) pa_nil))) (by with_unfolding_all rfl))))) (pss_one (ps_raise rfl lets1 hr.hd T.er_NoNet rfl T.mg_NoNet (pa_cons (pe_join (pj_cons pe_str (pj_cons (pe_fmtR (pv 1)) pj_nil))) pa_nil))) pss_nil)
      (pss_cons (ps_set (i := 3) sc_lay_line.nd rfl (Or.inl rfl) (pe_meth (pv 0) T.cl_Net T.m_Net_lay G_Net_lay (hr.mono (by decide)) T.b_Net_lay .nil (pass1 rfl lets1) (pa_cons (pe_call G_number (hr.mono (by decide)) rfl T.mg_number T.F_number.kp T.b_number .nil (pass1 rfl lets1) (pa_cons (pe_ix (ixL K) (pv 2) pe_int (fun _ _ => rfl)) pa_nil)) (pa_cons (pe_call G_number (hr.mono (by decide)) rfl T.mg_number T.F_number.kp T.b_number .nil (pass1 rfl lets1) (pa_cons (pe_ix (ixL K) (pv 2) pe_int (fun _ _ => rfl)) pa_nil)) pa_nil))))
      (pss_one (ps_if (pt_cmpR op_eq (pe_ix (ixL K) (pv 2) pe_int (fun _ _ => rfl)) (pe_gs rfl T.mg_SHUT) (nomark _)) (pss_one (ps_expr (pe_meth (pv 0) T.cl_Net T.m_Net_shut G_Net_shut (hr.mono (by decide)) T.b_Net_shut .nil (pass1 rfl lets1) (pa_cons (pv 3) pa_nil)))) pss_nil))))), ?_⟩
    have hl := hv.len
    have b1 : 1 ≤ (" " : Str).length := by decide +kernel
    have wok := words_ok hv
    refine ⟨_, rfl, rfl, _, _, rfl, rfl, b1, by omega, fun w hw => ?_⟩
    have x1 : Ext [] H (upd H w (.lst ((Txt.split v (" " : Str)).map V.str))) := Ext.new hw
    have W1 : upd H w (.lst ((Txt.split v (" " : Str)).map V.str)) w = some (.lst ((Txt.split v (" " : Str)).map V.str)) := upd_same
    have N1 := N.ext x1 (by simp) (by simp)
    have nlw : w ≠ l := by
      obtain ⟨_, u, z, _⟩ := N
      exact (neN hw z).symm
    generalize upd H w (.lst ((Txt.split v (" " : Str)).map V.str)) = H1 at x1 W1 N1 ⊢
    dsimp only [gName]
    have l1 : (Str.empty ++ ("no line of a pipe: " : Str)).length ≤ 100 := by decide +kernel
    have msg : pOf n v = none → ∀ D σ H2, Ext [] H H2 → tRaise (tCons (fun σ H Q => jCons (tC (.str "no line of a pipe: ")) (jCons (tFmtR (tVar 1)) jNil) Str.empty σ H Q) tNil) T.a_NoNet E D (some (.ref p) :: some (.str v) :: σ) H2 := fun hn D σ H2 x2 =>
      ⟨_, rfl, by decide +kernel, _, rfl, _, rfl, hv.rep1, _, rfl, hv.msg l1, hv.msg l1, by show 1 ≤ sizeLine; decide, k (.inl hn) _ _ (.inl rfl) x2⟩
    refine ⟨_, rfl, w, _, rfl, .inl (SqL.of W1), _, _, rfl, rfl, _, rfl, ?_⟩
    by_cases c : (Txt.split v (" " : Str)).length = 3
    · obtain ⟨a, b, d, e⟩ := list3 c
      have he := pOf_3 (n := n) e
      rw [e] at W1 wok ⊢
      have okb := wok b (by simp)
      have okd := wok d (by simp)
      refine ifNF rfl ⟨_, rfl, w, _, 0, _, rfl, rfl, SqL.of W1, rfl, by show 2 ≤ sizeLine; decide, fun t ht => ?_⟩
      have x2 : Ext [] H1 (upd H1 t (.tup [.str "pipe", .str "shut"])) := Ext.new ht
      have T2 : upd H1 t (.tup [.str "pipe", .str "shut"]) t = some (.tup [.str "pipe", .str "shut"]) := upd_same
      have N2 := N1.ext x2 (by simp) (by simp)
      have W2 := x2.keep _ _ W1 (by simp)
      generalize upd H1 t (.tup [.str "pipe", .str "shut"]) = H2 at x2 T2 N2 W2 ⊢
      have y2 := x1.trans x2
      have inn : inV (.str a) [V.str "pipe", V.str "shut"] = decide (a = ("pipe" : Str) ∨ a = ("shut" : Str)) := by
        show (("pipe" : Str) == a || (("shut" : Str) == a || false)) = _
        rw [Bool.or_false, Bool.eq_iff_iff, Bool.or_eq_true, beq_iff_eq, beq_iff_eq, decide_eq_true_eq]
        exact ⟨fun z => z.imp Eq.symm Eq.symm, fun z => z.imp Eq.symm Eq.symm⟩
      refine ⟨t, _, rfl, .inr (SqT.of T2), rfl, by decide +kernel, _, rfl, ?_⟩
      rw [inn]
      by_cases ca : a = ("pipe" : Str) ∨ a = ("shut" : Str)
      · refine ifNF ca ?_
        obtain ⟨⟨dy, hp2⟩, _⟩ := id N2
        have bad : ∀ {i j : Int}, b = fg i → 0 ≤ i → i ≤ 12 → d = fg j → 0 ≤ j → j ≤ 12 → ¬ ((0 ≤ i ∧ i < n) ∧ (0 ≤ j ∧ j < n) ∧ i ≠ j) → pOf n v = none := fun {i j} eb i0 i1 ed j0 j1 no => by
          rw [he, eb, ed, nm_fg i0 (by omega), nm_fg j0 (by omega)]
          exact if_neg fun z => no z.2
        refine ⟨_, rfl, p, dy, _, rfl, hp2, flds_no _ _ (by decide +kernel) (by decide +kernel), _, rfl, w, _, 1, _, rfl, rfl, SqL.of W2, rfl, b, rfl, okb, fun i i0 i1 eb => ?_, fun no => ?_⟩
        · refine ⟨_, rfl, w, _, 2, _, rfl, rfl, SqL.of W2, rfl, d, rfl, okd, fun j j0 j1 ed => ?_, fun no => ?_⟩
          · refine ⟨p, l, n, qs, i, j, rfl, N2, small_of (by omega) (by omega), small_of (by omega) (by omega), hz, fun z => k (.inl (bad eb i0 i1 ed j0 j1 fun z2 => z ⟨z2.1, z2.2.1⟩)) _ _ (.inr (.inl rfl)) y2, fun _ z => k (.inl (bad eb i0 i1 ed j0 j1 fun z2 => z2.2.2 z)) _ _ (.inr (.inr (.inl rfl))) y2, fun _ _ z => k (.inr z) _ _ (.inr (.inr (.inr rfl))) y2, fun rg ne lt H3 N3 x3 => ?_⟩
            have W3 := x3.keep _ _ W2 (by simp [nlw])
            dsimp only [gName]
            refine ⟨_, rfl, w, _, 0, _, rfl, rfl, SqL.of W3, rfl, rfl, _, rfl, ?_⟩
            have y3 : Ext [l] H H3 := (y2.mono (by simp)).trans x3
            have hx : pOf n v = some (i, j, decide (a = ("pipe" : Str))) := by
              rw [he, eb, ed, nm_fg i0 (by omega), nm_fg j0 (by omega)]
              exact if_pos ⟨ca, rg.1, rg.2, ne⟩
            have q := q _ hx lt
            clear hx he bad msg k inn
            by_cases cs : a = ("shut" : Str)
            · refine ifT (congrArg V.str cs) ?_
              have dp : decide (a = ("pipe" : Str)) = false := by rw [cs]; decide +kernel
              rw [dp] at q
              obtain ⟨⟨dz, hp3⟩, _⟩ := id N3
              refine ⟨_, rfl, p, dz, _, rfl, hp3, flds_no _ _ (by decide +kernel) (by decide +kernel), _, rfl, p, l, n, _, _, rfl, N3, small_of (by omega) (by omega), fun z => absurd (by rw [List.length_append]; simp; omega) z, fun j' z ej hj H4 N4 x4 => ?_⟩
              have ej' : j' = qs.length := by omega
              subst ej'
              have ez : z = (i, j, true) := by
                rw [List.getElem?_append_right (Nat.le_refl _), Nat.sub_self] at hj
                exact (Option.some.inj hj).symm
              subst ez
              rw [set_last] at N4
              exact q _ N4 (y3.trans x4)
            · refine ifF (fun z => cs (V.str.inj z)) ?_
              have dp : decide (a = ("pipe" : Str)) = true := decide_eq_true (ca.resolve_right cs)
              rw [dp] at q
              exact q _ N3 y3
          · refine k (.inl ?_) _ _ (.inl rfl) y2
            rw [he]
            exact if_neg fun z => no (nm d) z.2.2.1.1 (by have := z.2.2.1.2; omega) (nm_ge z.2.2.1.1).2
        · refine k (.inl ?_) _ _ (.inl rfl) y2
          rw [he]
          exact if_neg fun z => no (nm b) z.2.1.1 (by have := z.2.1.2; omega) (nm_ge z.2.1.1).2
      · refine ifNT ca ?_
        exact msg (by rw [he]; exact if_neg fun z => ca z.1) _ _ _ y2
    · refine ifNT ?_ (iteT (msg (pOf_no c) _ _ _ x1))
      intro z
      rw [List.length_map] at z
      exact c (by omega)
end
end Sp

set_option Elab.async false
set_option linter.all false
set_option maxRecDepth 100000
namespace Sp
open PySem L2 Sw PyProof.Rows
section
variable {P : Program} {w : World} {K : PySem.W.Frag} {mg : Str → Option Value} {base : Heap}
/-! ### read -/
def sp_read (C X : Addr) : Sp := fun vs H Q E => ∃ (v : Str) (ls : List Str) (z : Str), vs = [.str v] ∧ v.length ≤ 3000 ∧ Txt.split v nl = ls ++ [z] ∧ Lns ls ∧
  (z = Str.empty → (∀ n ps, Due ls n ps → ∀ p l H', H p = none → H l = none → NetAt C H' p l n ps → Ext [] H H' → Q (.ref p) H') ∧ ((∀ n ps, ¬ Due ls n ps) → ∀ o H', Ext [] H H' → E (.ref X) o H')) ∧ (z ≠ Str.empty → ∀ o H', Ext [] H H' → E (.ref X) o H')
set_option maxHeartbeats 0 in
theorem ok_read (T : TX K mg) : FnOk P w K mg base (CX1 P w) 6 T.f_read T.fd_read ["text"] (sp_read T.a_Net T.a_NoNet) := by
  have G_first_line : FnOk P w K mg base (CX1 P w) 3 T.f_first_line T.fd_first_line ["line"] (sp_first T.a_Net T.a_NoNet T.a_TooMuch) := ok_first T
  have G_lay_line : FnOk P w K mg base (CX1 P w) 5 T.f_lay_line T.fd_lay_line ["net", "line"] (sp_layl T.a_Net T.a_NoNet T.a_NoPlace T.a_SamePlace T.a_TooMuch) := ok_layl T
  refine T.F_read.okx sc_read (fun vs H Q E h => ?_) (fun cdv A outer s H vs Q E hr h => ?_)
  · obtain ⟨v, ls, z, rfl, _⟩ := h
    rfl
  · obtain ⟨v, ls, z, rfl, vl, sp1, lok, fin, no⟩ := h
    refine ⟨_, (pss_cons (ps_set (i := 1) sc_read.nd rfl (Or.inl rfl) (pe_bm PySem.F.plainAttrs_str PySem.F.slot_str_split PySem.F.type_str_split mt_split (pv 0) (pa_cons pe_str pa_nil)))
      (pss_cons (ps_if (pt_cmpR op_ne (pe_ix (ixL K) (pv 1) (pe_un un_neg pe_int) (fun _ _ => rfl)) pe_str (nomark _)) (pss_one (ps_raise rfl lets1 hr.hd T.er_NoNet rfl T.mg_NoNet (pa_cons pe_str pa_nil))) pss_nil)
      (pss_cons (ps_tryB (j := 4) rfl rfl rfl lets1 T.er_NetError rfl T.mg_NetError sc_read.nd rfl rfl (fun p0 EE => (pss_cons (ps_set (i := 2) sc_read.nd rfl (Or.inl rfl) (pe_call G_first_line (hr.mono (by decide)) rfl T.mg_first_line T.F_first_line.kp T.b_first_line .nil (pass1 rfl letsC) (pa_cons (pe_ix (ixL K) (pv 1) pe_int (fun _ _ => rfl)) pa_nil)))
      (pss_one (ps_for (by exact ownC rfl rfl rfl) rfl (piLK K (pe_slice (slLK K) (pv 1) (po_some pe_int) (po_some (pe_un un_neg pe_int)))) (pg_name (i := 3) sc_read.nd rfl (Or.inl rfl))
      (pss_one (ps_expr (pe_call G_lay_line (hr.mono (by decide)) rfl T.mg_lay_line T.F_lay_line.kp T.b_lay_line .nil (pass1 rfl letsC) (pa_cons (pv 2) (pa_cons (pv 3) pa_nil)))))))))
        (fun p0 ea => (pss_one (ps_raiseF rfl (letsH fun _ => hr.hd) rfl T.er_NoNet rfl T.mg_NoNet (pa_cons (pe_callTy (strXK K hr.units) (by rfl) T.no_str bt_str (pa_cons (pv 4) pa_nil)) pa_nil)))))
      (pss_one (ps_ret (pv 2)))))), ?_⟩
    have b1 : 1 ≤ nl.length := by decide +kernel
    refine ⟨_, rfl, rfl, _, nl, rfl, rfl, b1, by omega, fun w hw => ?_⟩
    rw [sp1]
    have x1 : Ext [] H (upd H w (.lst (ls.map V.str ++ [.str z]))) := Ext.new hw
    have W1 : upd H w (.lst (ls.map V.str ++ [.str z])) w = some (.lst (ls.map V.str ++ [.str z])) := upd_same
    rw [List.map_append]
    show _
    generalize hH : upd H w (.lst (ls.map V.str ++ [.str z])) = H1 at x1 W1
    rw [show List.map V.str [z] = [V.str z] from rfl, hH]
    clear hH
    dsimp only [gName]
    refine ⟨_, rfl, 1, rfl, w, _, _, _, rfl, rfl, SqL.of W1, atI_last, rfl, _, rfl, ?_⟩
    by_cases cz : z = Str.empty
    · refine ifNF (by rw [cz]; decide +kernel) ?_
      obtain ⟨q, k⟩ := fin cz
      dsimp only [tNext]
      have hs : ∀ (H' : Hp), Ext [] H H' → (∀ n ps, ¬ Due ls n ps) → ∀ Z, Z = T.a_NoNet ∨ Z = T.a_NoPlace ∨ Z = T.a_SamePlace ∨ Z = T.a_TooMuch → ∃ Ce, (Value.ref Z) = .ref Ce ∧ PySem.W.subIn K (.ref Ce) (.ref T.a_NetError) = some true ∧ (none : Option Addr) = none ∧
          ∀ (σ' : L2.St) ea t y, σ'.length = 5 → H' ea = none → H' t = none → t ≠ ea → tRaiseF ea (tCons (fun σ H Q => (tCons (tVar 4) tNil) σ H fun vs H1 => rStrX K vs H1 Q) tNil) T.a_NoNet E noEnds (σ'.set 4 (some (.ref ea))) (upd (upd H' t (.tup [.str y])) ea (HO.excP ea Ce t)) := fun H' x' nd Z hZ => by
        have fin2 : ∀ C : Addr, ErrS K C → ∀ (σ' : L2.St) ea t y, σ'.length = 5 → H' ea = none → H' t = none → t ≠ ea → tRaiseF ea (tCons (fun σ H Q => (tCons (tVar 4) tNil) σ H fun vs H1 => rStrX K vs H1 Q) tNil) T.a_NoNet E noEnds (σ'.set 4 (some (.ref ea))) (upd (upd H' t (.tup [.str y])) ea (HO.excP ea C t)) := fun C st σ' ea t y hl he ht ne => by
          refine ⟨.ref ea, by rw [List.getElem?_set_self (by omega)], ea, C, t, y, rfl, upd_same, by rw [upd_ne ne, upd_same], st, by show 1 ≤ sizeLine; decide, ⟨C, t, upd_same⟩, k nd _ _ ?_⟩
          exact (x'.trans (Ext.new ht)).trans (Ext.new (by rw [upd_ne (Ne.symm ne)]; exact he))
        rcases hZ with rfl | rfl | rfl | rfl
        · exact ⟨_, rfl, T.sub_NoNet_NetError, rfl, fin2 _ T.st_NoNet⟩
        · exact ⟨_, rfl, T.sub_NoPlace_NetError, rfl, fin2 _ T.st_NoPlace⟩
        · exact ⟨_, rfl, T.sub_SamePlace_NetError, rfl, fin2 _ T.st_SamePlace⟩
        · exact ⟨_, rfl, T.sub_TooMuch_NetError, rfl, fin2 _ T.st_TooMuch⟩
      obtain ⟨l0, r, el, at0⟩ : ∃ l0 r, (ls.map V.str ++ [V.str z]) = V.str l0 :: r ∧ ((ls = [] ∧ l0 = Str.empty) ∨ ∃ rs, ls = l0 :: rs) := by
        cases ls with
        | nil => exact ⟨z, [], rfl, .inl ⟨rfl, cz⟩⟩
        | cons a rs => exact ⟨a, _, rfl, .inr ⟨rs, rfl⟩⟩
      have ok0 : Ln l0 := by
        rcases at0 with ⟨_, e⟩ | ⟨rs, e⟩
        · rw [e]; exact ⟨fun c hc => by simp [cp_empty] at hc, by decide +kernel⟩
        · exact lok.1 l0 (by rw [e]; simp)
      refine seq_mid (t := tTryB _ _ _ _ _) (fun σ' H' => ∃ (n : Nat) (ps : List Pt) (p l : Addr) (x3 : Option V), Due ls n ps ∧ σ' = [some (.str v), some (.ref w), some (.ref p), x3, none] ∧ H p = none ∧ H l = none ∧ NetAt T.a_Net H' p l n ps ∧ Ext [] H H') (fun Z hZ => ?_) ?_
      · refine ⟨_, rfl, w, _, 0, _, rfl, rfl, SqL.of W1, atI_nat (j := 0) (v := V.str l0) (by rw [el]; rfl), l0, rfl, ok0, fun n hn p l H2 hp hl N2 x2 => ?_, fun hn Z H' hZ' x' => ?_⟩
        · have n12 := hOf_le hn
          rcases at0 with ⟨_, e⟩ | ⟨rs, e⟩
          · rw [e] at hn
            rw [show hOf Str.empty = none by decide +kernel] at hn
            cases hn
          subst e
          have hp0 := x1.free hp (by simp)
          have hl0 := x1.free hl (by simp)
          have W2 := x2.keep _ _ W1 (by simp)
          dsimp only [gName]
          refine ⟨_, rfl, 1, rfl, 1, rfl, _, rfl, w, _, rfl, SqL.of W2, fun u hu => ?_⟩
          have cut : cutV ((l0 :: rs).map V.str ++ [V.str z]) (some 1) (some (-1)) = rs.map V.str := cut_mid _ _ _
          rw [cut]
          have x3 : Ext [] H2 (upd H2 u (.lst (rs.map V.str))) := Ext.new hu
          have U3 : upd H2 u (.lst (rs.map V.str)) u = some (.lst (rs.map V.str)) := upd_same
          have N3 := N2.ext x3 (by simp) (by simp)
          have nul : u ≠ l := by
            obtain ⟨_, v, z, _⟩ := N2
            exact (neN hu z).symm
          generalize upd H2 u (.lst (rs.map V.str)) = H3 at x3 U3 N3 ⊢
          have y3 := (x1.trans x2).trans x3
          refine ⟨u, rfl, ⟨_, SqL.of U3⟩, ?_⟩
          refine for_list (K := K) (a := u) (xs := rs.map V.str) (fun i σ' H' => ∃ (x3 : Option V) (qs : List Pt), σ' = [some (.str v), some (.ref w), some (.ref p), x3, none] ∧ (rs.take i).map (pOf n) = qs.map some ∧ i ≤ 60 ∧ NetAt T.a_Net H' p l n qs ∧ Ext [l] H3 H') ⟨none, [], rfl, rfl, by decide, N3, Ext.refl⟩ ?_ ?_ ?_
          · rintro i σ' H' _ ⟨_, _, rfl, _, _, _, ex⟩
            exact SqL.of (ex.keep _ _ U3 (by simp [nul]))
          · rintro i y σ' H' hy ⟨x3', qs, rfl, hq, i60, Ni, ex⟩
            rw [List.getElem?_map] at hy
            have hi : i < rs.length := by
              cases z : rs[i]? with
              | none => rw [z] at hy; cases hy
              | some x => exact (List.getElem?_eq_some_iff.mp z).1
            rw [List.getElem?_eq_getElem hi] at hy
            obtain rfl : y = .str rs[i] := (Option.some.inj hy).symm
            have lq : qs.length = i := by
              have := congrArg List.length hq
              rw [List.length_map, List.length_map, List.length_take] at this
              omega
            refine ⟨_, rfl, _, rfl, p, l, n, qs, rs[i], rfl, Ni, lok.1 _ (by simp), n12.2, by omega, fun x hx lt H4 N4 x4 => ⟨_, qs ++ [x], rfl, ?_, by omega, N4, ex.trans x4⟩, fun no Z H4 hZ4 x4 => hs _ (y3.over1 (ex.trans (x4.mono (by simp))) hl0) ?_ Z hZ4⟩
            · rw [List.take_add_one, List.getElem?_eq_getElem hi, List.map_append, List.map_append, hq]
              show _ ++ [pOf n rs[i]] = _
              rw [hx]
              rfl
            · rintro n' ps' ⟨l', r', e', h1, h2, h3⟩
              cases e'
              rw [hn] at h1
              cases h1
              rcases no with no | no
              · have := congrArg (fun z => z[i]?) h2
                simp only [List.getElem?_map, List.getElem?_eq_getElem hi] at this
                rw [show Option.map (pOf n) (some rs[i]) = some none by rw [← no]; rfl] at this
                cases e : ps'[i]? with
                | none => rw [e] at this; cases this
                | some q => rw [e] at this; cases this
              · omega
          · rintro σ' H' ⟨x3', qs, rfl, hq, i60, Ni, ex⟩
            rw [List.length_map, List.take_length] at hq
            rw [List.length_map] at i60
            exact hZ _ _ ⟨n, qs, p, l, _, ⟨l0, rs, rfl, hn, hq, i60⟩, rfl, hp0, hl0, Ni, y3.over1 ex hl0⟩
        · refine hs _ (x1.trans x') ?_ Z (hZ'.imp id fun z => .inr (.inr z))
          rintro n ps ⟨l', r', e', h1, _⟩
          rcases at0 with ⟨e, _⟩ | ⟨rs, e⟩
          · rw [e] at e'; cases e'
          · rw [e] at e'
            cases e'
            rw [hn] at h1
            cases h1
      rintro σ' H' ⟨n, ps, p, l, x3, du, rfl, hp, hl, N, ex⟩
      exact ⟨_, rfl, q n ps du p l H' hp hl N ex⟩
    · refine ifNT (fun y => cz (by have := V.str.inj y; rw [this]; decide +kernel)) ?_
      exact ⟨by show 1 ≤ sizeLine; decide, no cz _ _ x1⟩
end
end Sp

set_option Elab.async false
set_option linter.all false
set_option maxRecDepth 100000
namespace Sp
open PySem L2 Sw PyProof.Rows
section
variable {P : Program} {w : World} {K : PySem.W.Frag} {mg : Str → Option Value} {base : Heap}
/-! ### _law_line -/
def sp_line : Sp := fun vs H Q _ => ∃ (t : Addr) (n : Nat) (x : Pt), vs = [.ref t] ∧ H t = some (tupOf x) ∧ Sw.Ok n x ∧ n ≤ 12 ∧ ∀ H', Ext [] H H' → Q (.str (lnL x)) H'
set_option maxHeartbeats 0 in
theorem ok_line (T : TX K mg) : FnOk P w K mg base (CX1 P w) 1 T.f__law_line T.fd__law_line ["pipe"] sp_line := by
  refine T.F__law_line.ok1 sc__law_line (fun vs H Q E h => ?_) (fun cdv A outer s H vs Q E hr h => ?_)
  · obtain ⟨t, n, x, rfl, _⟩ := h
    rfl
  · obtain ⟨t, n, x, rfl, et, okx, n12, q⟩ := h
    refine ⟨_, (pss_one (ps_ret (pe_op op_add_str (pe_op op_add_str (pe_op op_add_str (pe_op op_add_str (pe_ix (ixL K) (pe_lst (pa_cons pe_str (pa_cons pe_str pa_nil))) (pe_callTy call_int1 (by rfl) T.no_int bt_int (pa_cons (pe_ix (ixT K) (pv 0) pe_int (fun _ _ => rfl)) pa_nil)) (fun _ _ => rfl)) pe_str) (pe_callTy call_str_int (by rfl) T.no_str bt_str (pa_cons (pe_ix (ixT K) (pv 0) pe_int (fun _ _ => rfl)) pa_nil))) pe_str) (pe_callTy call_str_int (by rfl) T.no_str bt_str (pa_cons (pe_ix (ixT K) (pv 0) pe_int (fun _ _ => rfl)) pa_nil))))), ?_⟩
    have sa : Small x.1 := small_of (by have := okx.1.1; omega) (by have := okx.1.1; omega)
    have sb : Small x.2.1 := small_of (by have := okx.1.2; omega) (by have := okx.1.2; omega)
    have fa := (fg_ok (i := x.1) okx.1.1.1 (by have := okx.1.1.2; omega)).2.2
    have fb := (fg_ok (i := x.2.1) okx.1.2.1 (by have := okx.1.2.2; omega)).2.2
    have wl := (wd_ok x.2.2).2.2
    have h1 := len_add wl lsp (Nat.le_refl _)
    have h2 := len_add h1 fa (Nat.le_refl _)
    have h3 := len_add h2 lsp (Nat.le_refl _)
    have big : ∀ {a b : Str} {i j : Nat}, a.length ≤ i → b.length ≤ j → i + j ≤ 5000 → a.length + b.length ≤ sizeLine := fun ha hb hh => by rw [sizeLine_eq]; exact Nat.le_trans (Nat.add_le_add ha hb) (Nat.le_trans hh (by decide))
    refine ⟨by show 2 ≤ sizeLine; decide, fun a ha => ?_⟩
    have x1 : Ext [] H (upd H a (.lst [.str "shut", .str "pipe"])) := Ext.new ha
    have A1 : upd H a (.lst [.str "shut", .str "pipe"]) a = some (.lst [.str "shut", .str "pipe"]) := upd_same
    have et1 := x1.tups _ _ et
    generalize upd H a (.lst [.str "shut", .str "pipe"]) = H1 at x1 A1 et1 ⊢
    have ai : atI [V.str "shut", V.str "pipe"] (if x.2.2 then 1 else 0) = some (.str (wd x.2.2)) := by cases x.2.2 <;> rfl
    exact ⟨_, rfl, t, _, 2, _, rfl, rfl, SqT.of et1, rfl, .inr ⟨x.2.2, rfl, a, _, _, _, rfl, rfl, SqL.of A1, ai, _, _, rfl, rfl, big wl lsp (by decide), _, rfl, t, _, 0, _, rfl, rfl, SqT.of et1, rfl, _, rfl, sa, _, _, rfl, rfl, big h1 fa (by decide), _, _, rfl, rfl, big h2 lsp (by decide), _, rfl, t, _, 1, _, rfl, rfl, SqT.of et1, rfl, _, rfl, sb, _, _, rfl, rfl, big h3 fb (by decide), q _ x1⟩⟩
end
end Sp

set_option Elab.async false
set_option linter.all false
set_option maxRecDepth 100000
namespace Sp
open PySem L2 Sw PyProof.Rows
section
variable {P : Program} {w : World} {K : PySem.W.Frag} {mg : Str → Option Value} {base : Heap}
/-! ### _law_bad_line -/
def badL : List Str := ["", " ", "pipe", "pipe 0", "pipe 0 1 1", "pipe 0 0", "pipe 1 1", "pipe 0 12", "pipe 12 0", "pipe 0 100", "pipe 0 01", "pipe 0 -1", "pipe 0 +1", "pipe 00 1", "Pipe 0 1", " pipe 0 1", "pipe 0 1 ", "pipe  0 1"]
theorem badL_ok : ∀ z ∈ badL, (∀ c ∈ cp z, c ≠ 10 ∧ c < 1000) ∧ z.length ≤ 12 := by decide +kernel
def sp_bad : Sp := fun vs H Q _ => ∃ c : Int, vs = [.int c] ∧ ∀ z H', Lm z → Ext [] H H' → Q (.str z) H'
set_option maxHeartbeats 0 in
theorem ok_bad (T : TX K mg) : FnOk P w K mg base (CX1 P w) 1 T.f__law_bad_line T.fd__law_bad_line ["cell"] sp_bad := by
  refine T.F__law_bad_line.ok1 sc__law_bad_line (fun vs H Q E h => ?_) (fun cdv A outer s H vs Q E hr h => ?_)
  · obtain ⟨c, rfl, _⟩ := h
    rfl
  · obtain ⟨c, rfl, q⟩ := h
    refine ⟨_, (pss_cons (ps_set (i := 1) sc__law_bad_line.nd rfl (Or.inl rfl) (pe_lst (pa_cons pe_str (pa_cons pe_str (pa_cons pe_str (pa_cons pe_str (pa_cons pe_str (pa_cons pe_str (pa_cons pe_str (pa_cons pe_str pa_nil))))))))))
      (pss_cons (ps_set (i := 1) sc__law_bad_line.nd rfl (Or.inl rfl) (pe_op op_cat (pv 1) (pe_lst (pa_cons pe_str (pa_cons pe_str (pa_cons pe_str (pa_cons pe_str (pa_cons pe_str (pa_cons pe_str pa_nil)))))))))
      (pss_cons (ps_set (i := 1) sc__law_bad_line.nd rfl (Or.inl rfl) (pe_op op_cat (pv 1) (pe_lst (pa_cons pe_str (pa_cons pe_str (pa_cons pe_str (pa_cons pe_str pa_nil)))))))
      (pss_one (ps_ret (pe_ix (ixL K) (pv 1) (pe_op op_mod (pv 0) pe_int) (fun _ _ => rfl))))))), ?_⟩
    refine ⟨by show 8 ≤ sizeLine; decide, fun a1 h1 => ?_⟩
    have x1 : Ext [] H (upd H a1 (.lst [.str "", .str " ", .str "pipe", .str "pipe 0", .str "pipe 0 1 1", .str "pipe 0 0", .str "pipe 1 1", .str "pipe 0 12"])) := Ext.new h1
    have A1 : upd H a1 (.lst [.str "", .str " ", .str "pipe", .str "pipe 0", .str "pipe 0 1 1", .str "pipe 0 0", .str "pipe 1 1", .str "pipe 0 12"]) a1 = some (.lst [.str "", .str " ", .str "pipe", .str "pipe 0", .str "pipe 0 1 1", .str "pipe 0 0", .str "pipe 1 1", .str "pipe 0 12"]) := upd_same
    generalize upd H a1 (.lst [.str "", .str " ", .str "pipe", .str "pipe 0", .str "pipe 0 1 1", .str "pipe 0 0", .str "pipe 1 1", .str "pipe 0 12"]) = H1 at x1 A1 ⊢
    dsimp only [gName]
    refine ⟨_, rfl, by show 6 ≤ sizeLine; decide, fun b1 hb1 => ?_⟩
    have y1 : Ext [] H1 (upd H1 b1 (.lst [.str "pipe 12 0", .str "pipe 0 100", .str "pipe 0 01", .str "pipe 0 -1", .str "pipe 0 +1", .str "pipe 00 1"])) := Ext.new hb1
    have B1 : upd H1 b1 (.lst [.str "pipe 12 0", .str "pipe 0 100", .str "pipe 0 01", .str "pipe 0 -1", .str "pipe 0 +1", .str "pipe 00 1"]) b1 = some (.lst [.str "pipe 12 0", .str "pipe 0 100", .str "pipe 0 01", .str "pipe 0 -1", .str "pipe 0 +1", .str "pipe 00 1"]) := upd_same
    have A1' := y1.keep _ _ A1 (by simp)
    generalize upd H1 b1 (.lst [.str "pipe 12 0", .str "pipe 0 100", .str "pipe 0 01", .str "pipe 0 -1", .str "pipe 0 +1", .str "pipe 00 1"]) = G1 at y1 B1 A1' ⊢
    refine ⟨a1, b1, _, _, rfl, rfl, A1', B1, (by show 14 ≤ sizeLine; decide), fun a2 h2 => ?_⟩
    have x2 : Ext [] H (upd G1 a2 (.lst ([.str "", .str " ", .str "pipe", .str "pipe 0", .str "pipe 0 1 1", .str "pipe 0 0", .str "pipe 1 1", .str "pipe 0 12"] ++ [.str "pipe 12 0", .str "pipe 0 100", .str "pipe 0 01", .str "pipe 0 -1", .str "pipe 0 +1", .str "pipe 00 1"]))) := (x1.trans y1).trans (Ext.new h2)
    have A2 : upd G1 a2 (.lst ([.str "", .str " ", .str "pipe", .str "pipe 0", .str "pipe 0 1 1", .str "pipe 0 0", .str "pipe 1 1", .str "pipe 0 12"] ++ [.str "pipe 12 0", .str "pipe 0 100", .str "pipe 0 01", .str "pipe 0 -1", .str "pipe 0 +1", .str "pipe 00 1"])) a2 = some (.lst [.str "", .str " ", .str "pipe", .str "pipe 0", .str "pipe 0 1 1", .str "pipe 0 0", .str "pipe 1 1", .str "pipe 0 12", .str "pipe 12 0", .str "pipe 0 100", .str "pipe 0 01", .str "pipe 0 -1", .str "pipe 0 +1", .str "pipe 00 1"]) := upd_same
    generalize upd G1 a2 (.lst ([.str "", .str " ", .str "pipe", .str "pipe 0", .str "pipe 0 1 1", .str "pipe 0 0", .str "pipe 1 1", .str "pipe 0 12"] ++ [.str "pipe 12 0", .str "pipe 0 100", .str "pipe 0 01", .str "pipe 0 -1", .str "pipe 0 +1", .str "pipe 00 1"])) = H2 at x2 A2 ⊢
    dsimp only [gName]
    refine ⟨_, rfl, by show 4 ≤ sizeLine; decide, fun b2 hb2 => ?_⟩
    have y2 : Ext [] H2 (upd H2 b2 (.lst [.str "Pipe 0 1", .str " pipe 0 1", .str "pipe 0 1 ", .str "pipe  0 1"])) := Ext.new hb2
    have B2 : upd H2 b2 (.lst [.str "Pipe 0 1", .str " pipe 0 1", .str "pipe 0 1 ", .str "pipe  0 1"]) b2 = some (.lst [.str "Pipe 0 1", .str " pipe 0 1", .str "pipe 0 1 ", .str "pipe  0 1"]) := upd_same
    have A2' := y2.keep _ _ A2 (by simp)
    generalize upd H2 b2 (.lst [.str "Pipe 0 1", .str " pipe 0 1", .str "pipe 0 1 ", .str "pipe  0 1"]) = G2 at y2 B2 A2' ⊢
    refine ⟨a2, b2, _, _, rfl, rfl, A2', B2, (by show 18 ≤ sizeLine; decide), fun a3 h3 => ?_⟩
    have x3 : Ext [] H (upd G2 a3 (.lst ([.str "", .str " ", .str "pipe", .str "pipe 0", .str "pipe 0 1 1", .str "pipe 0 0", .str "pipe 1 1", .str "pipe 0 12", .str "pipe 12 0", .str "pipe 0 100", .str "pipe 0 01", .str "pipe 0 -1", .str "pipe 0 +1", .str "pipe 00 1"] ++ [.str "Pipe 0 1", .str " pipe 0 1", .str "pipe 0 1 ", .str "pipe  0 1"]))) := (x2.trans y2).trans (Ext.new h3)
    have A3 : upd G2 a3 (.lst ([.str "", .str " ", .str "pipe", .str "pipe 0", .str "pipe 0 1 1", .str "pipe 0 0", .str "pipe 1 1", .str "pipe 0 12", .str "pipe 12 0", .str "pipe 0 100", .str "pipe 0 01", .str "pipe 0 -1", .str "pipe 0 +1", .str "pipe 00 1"] ++ [.str "Pipe 0 1", .str " pipe 0 1", .str "pipe 0 1 ", .str "pipe  0 1"])) a3 = some (.lst [.str "", .str " ", .str "pipe", .str "pipe 0", .str "pipe 0 1 1", .str "pipe 0 0", .str "pipe 1 1", .str "pipe 0 12", .str "pipe 12 0", .str "pipe 0 100", .str "pipe 0 01", .str "pipe 0 -1", .str "pipe 0 +1", .str "pipe 00 1", .str "Pipe 0 1", .str " pipe 0 1", .str "pipe 0 1 ", .str "pipe  0 1"]) := upd_same
    generalize upd G2 a3 (.lst ([.str "", .str " ", .str "pipe", .str "pipe 0", .str "pipe 0 1 1", .str "pipe 0 0", .str "pipe 1 1", .str "pipe 0 12", .str "pipe 12 0", .str "pipe 0 100", .str "pipe 0 01", .str "pipe 0 -1", .str "pipe 0 +1", .str "pipe 00 1"] ++ [.str "Pipe 0 1", .str " pipe 0 1", .str "pipe 0 1 ", .str "pipe  0 1"])) = H3 at x3 A3 ⊢
    dsimp only [gName]
    have m0 := Int.emod_nonneg c (show (18 : Int) ≠ 0 by omega)
    have m1 := Int.emod_lt_of_pos c (show 0 < (18 : Int) by omega)
    obtain ⟨j, hj⟩ : ∃ j : Nat, c % 18 = j := ⟨(c % 18).toNat, by omega⟩
    have jl : j < badL.length := by show j < 18; omega
    have ai : atI (badL.map V.str) (c % 18) = some (.str badL[j]) := by
      rw [hj]
      exact atI_nat (by rw [List.getElem?_map, List.getElem?_eq_getElem jl]; rfl)
    exact ⟨_, rfl, _, rfl, _, _, rfl, rfl, (by show (0 : Int) < 18; decide), a3, _, _, _, rfl, rfl, SqL.of A3, ai, q _ _ (badL_ok _ (List.getElem_mem jl)) x3⟩
end
end Sp

set_option Elab.async false
set_option linter.all false
set_option maxRecDepth 100000
namespace Sp
open PySem L2 Sw PyProof.Rows
section
variable {P : Program} {w : World} {K : PySem.W.Frag} {mg : Str → Option Value} {base : Heap}
/-! ### _law_bad_first -/
def badF : List Str := ["places", "places 0", "places 13", "places 01", "place 3", "places 3 ", "places  3", "", "places x", "Places 3"]
theorem badF_ok : ∀ z ∈ badF, (∀ c ∈ cp z, c ≠ 10 ∧ c < 1000) ∧ z.length ≤ 12 := by decide +kernel
def sp_badf : Sp := fun vs H Q _ => ∃ c : Int, vs = [.int c] ∧ ∀ z H', Lm z → Ext [] H H' → Q (.str z) H'
set_option maxHeartbeats 0 in
theorem ok_badf (T : TX K mg) : FnOk P w K mg base (CX1 P w) 1 T.f__law_bad_first T.fd__law_bad_first ["cell"] sp_badf := by
  refine T.F__law_bad_first.ok1 sc__law_bad_first (fun vs H Q E h => ?_) (fun cdv A outer s H vs Q E hr h => ?_)
  · obtain ⟨c, rfl, _⟩ := h
    rfl
  · obtain ⟨c, rfl, q⟩ := h
    refine ⟨_, (pss_cons (ps_set (i := 1) sc__law_bad_first.nd rfl (Or.inl rfl) (pe_lst (pa_cons pe_str (pa_cons pe_str (pa_cons pe_str (pa_cons pe_str (pa_cons pe_str (pa_cons pe_str pa_nil))))))))
      (pss_cons (ps_set (i := 1) sc__law_bad_first.nd rfl (Or.inl rfl) (pe_op op_cat (pv 1) (pe_lst (pa_cons pe_str (pa_cons pe_str (pa_cons pe_str (pa_cons pe_str pa_nil)))))))
      (pss_one (ps_ret (pe_ix (ixL K) (pv 1) (pe_op op_mod (pv 0) pe_int) (fun _ _ => rfl)))))), ?_⟩
    refine ⟨by show 6 ≤ sizeLine; decide, fun a1 h1 => ?_⟩
    have x1 : Ext [] H (upd H a1 (.lst [.str "places", .str "places 0", .str "places 13", .str "places 01", .str "place 3", .str "places 3 "])) := Ext.new h1
    have A1 : upd H a1 (.lst [.str "places", .str "places 0", .str "places 13", .str "places 01", .str "place 3", .str "places 3 "]) a1 = some (.lst [.str "places", .str "places 0", .str "places 13", .str "places 01", .str "place 3", .str "places 3 "]) := upd_same
    generalize upd H a1 (.lst [.str "places", .str "places 0", .str "places 13", .str "places 01", .str "place 3", .str "places 3 "]) = H1 at x1 A1 ⊢
    dsimp only [gName]
    refine ⟨_, rfl, by show 4 ≤ sizeLine; decide, fun b1 hb1 => ?_⟩
    have y1 : Ext [] H1 (upd H1 b1 (.lst [.str "places  3", .str "", .str "places x", .str "Places 3"])) := Ext.new hb1
    have B1 : upd H1 b1 (.lst [.str "places  3", .str "", .str "places x", .str "Places 3"]) b1 = some (.lst [.str "places  3", .str "", .str "places x", .str "Places 3"]) := upd_same
    have A1' := y1.keep _ _ A1 (by simp)
    generalize upd H1 b1 (.lst [.str "places  3", .str "", .str "places x", .str "Places 3"]) = G1 at y1 B1 A1' ⊢
    refine ⟨a1, b1, _, _, rfl, rfl, A1', B1, (by show 10 ≤ sizeLine; decide), fun a2 h2 => ?_⟩
    have x2 : Ext [] H (upd G1 a2 (.lst ([.str "places", .str "places 0", .str "places 13", .str "places 01", .str "place 3", .str "places 3 "] ++ [.str "places  3", .str "", .str "places x", .str "Places 3"]))) := (x1.trans y1).trans (Ext.new h2)
    have A2 : upd G1 a2 (.lst ([.str "places", .str "places 0", .str "places 13", .str "places 01", .str "place 3", .str "places 3 "] ++ [.str "places  3", .str "", .str "places x", .str "Places 3"])) a2 = some (.lst [.str "places", .str "places 0", .str "places 13", .str "places 01", .str "place 3", .str "places 3 ", .str "places  3", .str "", .str "places x", .str "Places 3"]) := upd_same
    generalize upd G1 a2 (.lst ([.str "places", .str "places 0", .str "places 13", .str "places 01", .str "place 3", .str "places 3 "] ++ [.str "places  3", .str "", .str "places x", .str "Places 3"])) = H2 at x2 A2 ⊢
    dsimp only [gName]
    have m0 := Int.emod_nonneg c (show (10 : Int) ≠ 0 by omega)
    have m1 := Int.emod_lt_of_pos c (show 0 < (10 : Int) by omega)
    obtain ⟨j, hj⟩ : ∃ j : Nat, c % 10 = j := ⟨(c % 10).toNat, by omega⟩
    have jl : j < badF.length := by show j < 10; omega
    have ai : atI (badF.map V.str) (c % 10) = some (.str badF[j]) := by
      rw [hj]
      exact atI_nat (by rw [List.getElem?_map, List.getElem?_eq_getElem jl]; rfl)
    exact ⟨_, rfl, _, rfl, _, _, rfl, rfl, (by show (0 : Int) < 10; decide), a2, _, _, _, rfl, rfl, SqL.of A2, ai, q _ _ (badF_ok _ (List.getElem_mem jl)) x2⟩
end
end Sp

set_option Elab.async false
set_option linter.all false
set_option maxRecDepth 100000
namespace Sp
open PySem L2 Sw PyProof.Rows
section
variable {P : Program} {w : World} {K : PySem.W.Frag} {mg : Str → Option Value} {base : Heap}
/-! ### _law_number -/
theorem ifB {b b' : Bool} (e : b = b') {A B : Prop} (h : if b' = true then A else B) : if b = true then A else B := by rw [e]; exact h
def sp_lnum : Sp := fun vs H Q _ => ∃ w : Str, vs = [.str w] ∧ Ln w ∧ Q (.int (nm w)) H
theorem ok_lnum (T : TX K mg) : FnOk P w K mg base (CX1 P w) 1 T.f__law_number T.fd__law_number ["word"] sp_lnum := by
  refine T.F__law_number.ok1 sc__law_number (fun vs H Q E h => ?_) (fun cdv A outer s H vs Q E hr h => ?_)
  · obtain ⟨w, rfl, _⟩ := h
    rfl
  · obtain ⟨w, rfl, hw, q⟩ := h
    refine ⟨_, (pss_cons (ps_if (PW.pt (pw_or (pt_cmp (pc_lt (pe_callB call_len_str (by rfl) T.no_len bt_len (pa_cons (pv 0) pa_nil)) pe_int)) (pw_or1 (pt_cmp (pc_gt (pe_callB call_len_str (by rfl) T.no_len bt_len (pa_cons (pv 0) pa_nil)) pe_int))))) (pss_one (ps_ret (pe_un un_neg pe_int))) pss_nil)
      (pss_cons (ps_for PassesOwn.never rfl (pi_text (pv 0)) (pg_name (i := 1) sc__law_number.nd rfl (Or.inl rfl))
      (pss_one (ps_if (pt_cmpR op_notin_str (pv 1) pe_str (by with_unfolding_all rfl)) (pss_one (ps_ret (pe_un un_neg pe_int))) pss_nil)))
      (pss_cons (ps_if (PW.pt (pw_and (pt_cmpR op_eq (pe_ix ix_str (pv 0) pe_int (fun _ _ => rfl)) pe_str (nomark _)) (pw_and1 (pt_cmp (pc_gt (pe_callB call_len_str (by rfl) T.no_len bt_len (pa_cons (pv 0) pa_nil)) pe_int))))) (pss_one (ps_ret (pe_un un_neg pe_int))) pss_nil)
      (pss_one (ps_ret (pe_callTy call_int_num (by rfl) T.no_int bt_int (pa_cons (pv 0) pa_nil))))))), ?_⟩
    have sm := hw.small
    have dig : ∀ c, c ∈ cp ("0123456789" : Str) ↔ 48 ≤ c ∧ c ≤ 57 := fun c => by
      rw [show cp ("0123456789" : Str) = [48, 49, 50, 51, 52, 53, 54, 55, 56, 57] by decide +kernel]
      simp
      omega
    refine ⟨_, rfl, w, rfl, sm, _, 1, rfl, rfl, _, rfl, ?_⟩
    by_cases c1 : (w.length : Int) < 1
    · refine ifT c1 (iteT ⟨1, rfl, ?_⟩)
      rw [nm_len (w := w) (by omega)] at q
      exact q
    refine ifF c1 ⟨_, rfl, w, rfl, sm, _, 2, rfl, rfl, _, rfl, ?_⟩
    by_cases c2 : 2 < (w.length : Int)
    · refine ifT c2 ⟨1, rfl, ?_⟩
      rw [nm_len (w := w) (by omega)] at q
      exact q
    refine ifF c2 ?_
    dsimp only [tNext]
    refine seq_mid (t := tFor _ _ _) (fun σ' H' => (∃ x1, σ' = [some (.str w), x1]) ∧ (∀ c ∈ cp w, 48 ≤ c ∧ c ≤ 57) ∧ H' = H) (fun Z hZ => ?_) ?_
    · refine ⟨_, rfl, w, rfl, ?_⟩
      refine for_text (fun i σ' H' => (∃ x1, σ' = [some (.str w), x1]) ∧ (∀ j c, j < i → w.cps[j]? = some c → 48 ≤ c ∧ c ≤ 57) ∧ H' = H) ⟨⟨none, rfl⟩, fun j c z => by omega, rfl⟩ ?_ ?_
      · rintro i c σ' H' hc ⟨⟨x1, rfl⟩, iv, rfl⟩
        refine ⟨_, rfl, _, _, rfl, rfl, _, rfl, ?_⟩
        refine ifB (congrArg (fun b => !b) (StrLaws.found_one ("0123456789" : Str) c)) ?_
        by_cases cd : c ∈ ("0123456789" : Str).cps.toList
        · refine ifNF cd ⟨⟨_, rfl⟩, fun j c' hj hc' => ?_, rfl⟩
          by_cases e : j < i
          · exact iv j c' e hc'
          · have : j = i := by omega
            subst this
            rw [hc] at hc'
            cases hc'
            exact (dig c).mp cd
        · refine ifNT cd ⟨1, rfl, ?_⟩
          rw [nm_dig (w := w) (c := c) (by
            have := Array.getElem?_toList (xs := w.cps) (i := i)
            rw [hc] at this
            exact List.mem_of_getElem? this) (fun z => cd ((dig c).mpr z))] at q
          exact q
      · rintro σ' H' ⟨hx, iv, rfl⟩
        refine hZ _ _ ⟨hx, fun c hc => ?_, rfl⟩
        obtain ⟨j, hj⟩ := List.mem_iff_getElem?.mp hc
        have hj : w.cps[j]? = some c := by rw [← Array.getElem?_toList]; exact hj
        exact iv j c (Array.getElem?_eq_some_iff.mp hj).1 hj
    rintro σ' H' ⟨⟨x1, rfl⟩, hd, rfl⟩
    obtain ⟨c0, hc0⟩ : ∃ c0, (cp w)[0]? = some c0 := by
      have : 0 < (cp w).length := by
        have : w.length = (cp w).length := rfl
        omega
      exact ⟨_, List.getElem?_eq_getElem this⟩
    refine ⟨_, rfl, w, 0, c0, rfl, rfl, sm, atI_nat (j := 0) hc0, rfl, _, rfl, ?_⟩
    have fin : ¬ (w.length = 2 ∧ (cp w)[0]? = some 48) → Q (.int (nm w)) H' ∧ V.str w = V.str (fg (nm w)) ∧ 0 ≤ nm w ∧ nm w < 10000000000 := fun hz => by
      have n0 := nm_is (w := w) (by omega) (by omega) hd hz
      have n1 := nm_ge n0
      exact ⟨q, congrArg V.str n1.2, n0, by omega⟩
    by_cases cz : (⟨#[c0]⟩ : Str) = ("0" : Str)
    · have e0 : c0 = 48 := by
        have := congrArg cp cz
        rw [show cp ("0" : Str) = [48] by decide +kernel] at this
        exact (List.cons.inj this).1
      refine ifT (congrArg V.str cz) ⟨_, rfl, w, rfl, sm, _, 1, rfl, rfl, _, rfl, ?_⟩
      by_cases c3 : 1 < (w.length : Int)
      · refine ifT c3 ⟨1, rfl, ?_⟩
        rw [nm_zero (w := w) (by omega) (by rw [hc0, e0])] at q
        exact q
      · refine ifF c3 ?_
        obtain ⟨q1, e1, n0, n1⟩ := fin (by omega)
        exact ⟨_, rfl, nm w, by rw [e1], n0, n1, q1⟩
    · refine ifF (fun z => cz (V.str.inj z)) (iteF ?_)
      obtain ⟨q1, e1, n0, n1⟩ := fin (fun z => cz (by
        rw [hc0] at z
        have := Option.some.inj z.2
        rw [this]
        decide +kernel))
      exact ⟨_, rfl, nm w, by rw [e1], n0, n1, q1⟩
end
end Sp

set_option Elab.async false
set_option linter.all false
set_option maxRecDepth 100000
namespace Sp
open PySem L2 Sw PyProof.Rows
section
variable {P : Program} {w : World} {K : PySem.W.Frag} {mg : Str → Option Value} {base : Heap}
/-! ### _law_pipe_of -/
/-- None, or a pipe -/
def PV (H : Hp) (y : V) : Option Pt → Prop
  | none => y = .non
  | some x => ∃ t, y = .ref t ∧ H t = some (tupOf x)
def sp_pof : Sp := fun vs H Q _ => ∃ (v : Str) (n : Nat), vs = [.str v, .int n] ∧ Ln v ∧ ∀ y H', PV H' y (pOf n v) → Ext [] H H' → Q y H'
set_option maxHeartbeats 0 in
theorem ok_pof (T : TX K mg) : FnOk P w K mg base (CX1 P w) 2 T.f__law_pipe_of T.fd__law_pipe_of ["line", "size"] sp_pof := by
  have G__law_number : FnOk P w K mg base (CX1 P w) 1 T.f__law_number T.fd__law_number ["word"] sp_lnum := ok_lnum T
  refine T.F__law_pipe_of.ok1 sc__law_pipe_of (fun vs H Q E h => ?_) (fun cdv A outer s H vs Q E hr h => ?_)
  · obtain ⟨v, n, rfl, _⟩ := h
    rfl
  · obtain ⟨v, n, rfl, hv, q⟩ := h
    refine ⟨_, (pss_cons (ps_set (i := 2) sc__law_pipe_of.nd rfl (Or.inl rfl) (pe_bm PySem.F.plainAttrs_str PySem.F.slot_str_split PySem.F.type_str_split mt_split (pv 0) (pa_cons pe_str pa_nil)))
      (pss_cons (ps_if (PW.pt (pw_or (pt_cmp (pc_neI (pe_callB (lenK K) (by rfl) T.no_len bt_len (pa_cons (pv 2) pa_nil)) pe_int)) (pw_or1 (PW.pt (pw_and (pt_cmpR op_ne (pe_ix (ixL K) (pv 2) pe_int (fun _ _ => rfl)) pe_str (nomark _)) (pw_and1 (pt_cmpR op_ne (pe_ix (ixL K) (pv 2) pe_int (fun _ _ => rfl)) pe_str (nomark _)))))))) (pss_one (ps_ret pe_non)) pss_nil)
      (pss_cons (ps_set (i := 3) sc__law_pipe_of.nd rfl (Or.inl rfl) (pe_call G__law_number (hr.mono (by decide)) rfl T.mg__law_number T.F__law_number.kp T.b__law_number .nil passN (pa_cons (pe_ix (ixL K) (pv 2) pe_int (fun _ _ => rfl)) pa_nil)))
      (pss_cons (ps_set (i := 4) sc__law_pipe_of.nd rfl (Or.inl rfl) (pe_call G__law_number (hr.mono (by decide)) rfl T.mg__law_number T.F__law_number.kp T.b__law_number .nil passN (pa_cons (pe_ix (ixL K) (pv 2) pe_int (fun _ _ => rfl)) pa_nil)))
      (pss_cons (ps_if (PW.pt (pw_or (pt_cmp (pc_lt (pe_callB (call_min2 rfl) (by rfl) T.no_min bt_min (pa_cons (pv 3) (pa_cons (pv 4) pa_nil))) pe_int)) (pw_or (pt_cmp (pc_ge (pe_callB (call_max2 rfl) (by rfl) T.no_max bt_max (pa_cons (pv 3) (pa_cons (pv 4) pa_nil))) (pv 1))) (pw_or1 (pt_cmp (pc_eqI (pv 3) (pv 4))))))) (pss_one (ps_ret pe_non)) pss_nil)
      (pss_one (ps_ret (pe_tup (pa_cons (pv 3) (pa_cons (pv 4) (pa_cons (pe_cmpR op_eq (pe_ix (ixL K) (pv 2) pe_int (fun _ _ => rfl)) pe_str (nomark _)) pa_nil))))))))))), ?_⟩
    have hl := hv.len
    have b1 : 1 ≤ (" " : Str).length := by decide +kernel
    have wok := words_ok hv
    refine ⟨_, rfl, rfl, _, _, rfl, rfl, b1, by omega, fun w hw => ?_⟩
    have x1 : Ext [] H (upd H w (.lst ((Txt.split v (" " : Str)).map V.str))) := Ext.new hw
    have W1 : upd H w (.lst ((Txt.split v (" " : Str)).map V.str)) w = some (.lst ((Txt.split v (" " : Str)).map V.str)) := upd_same
    generalize upd H w (.lst ((Txt.split v (" " : Str)).map V.str)) = H1 at x1 W1 ⊢
    dsimp only [gName]
    refine seq_mid (t := tIfS _ _ _) (fun σ' H' => σ' = [some (.str v), some (.int n), some (.ref w), none, none] ∧ H' = H1 ∧ ∃ a b d, Txt.split v (" " : Str) = [a, b, d] ∧ (a = ("pipe" : Str) ∨ a = ("shut" : Str))) (fun R hR => ?_) ?_
    · refine ⟨_, rfl, w, _, rfl, .inl (SqL.of W1), _, _, rfl, rfl, _, rfl, ?_⟩
      by_cases c : (Txt.split v (" " : Str)).length = 3
      · obtain ⟨a, b, d, e⟩ := list3 c
        have he := pOf_3 (n := n) e
        rw [e] at W1 ⊢
        refine ifNF rfl ⟨_, rfl, w, _, 0, _, rfl, rfl, SqL.of W1, rfl, rfl, _, rfl, ?_⟩
        by_cases ca : a = ("pipe" : Str)
        · exact ifNF (congrArg V.str ca) (iteF (hR _ _ ⟨rfl, rfl, a, b, d, e, .inl ca⟩))
        refine ifNT (fun z => ca (V.str.inj z)) ⟨_, rfl, w, _, 0, _, rfl, rfl, SqL.of W1, rfl, rfl, _, rfl, ?_⟩
        by_cases cb : a = ("shut" : Str)
        · exact ifNF (congrArg V.str cb) (hR _ _ ⟨rfl, rfl, a, b, d, e, .inr cb⟩)
        · refine ifNT (fun z => cb (V.str.inj z)) (q _ _ ?_ x1)
          rw [he, if_neg fun z => z.1.elim ca cb]
          exact rfl
      · refine ifNT ?_ (iteT (q _ _ ?_ x1))
        · intro z
          rw [List.length_map] at z
          exact c (by omega)
        · rw [pOf_no c]
          exact rfl
    rintro σ' H' ⟨rfl, rfl, a, b, d, e, ca⟩
    have he := pOf_3 (n := n) e
    rw [e] at W1 wok
    have okb := wok b (by simp)
    have okd := wok d (by simp)
    refine ⟨_, rfl, w, _, 1, _, rfl, rfl, SqL.of W1, rfl, b, rfl, okb, ?_⟩
    dsimp only [gName]
    refine ⟨_, rfl, w, _, 2, _, rfl, rfl, SqL.of W1, rfl, d, rfl, okd, ?_⟩
    dsimp only [gName]
    have no : ¬ ((0 ≤ nm b ∧ nm b < n) ∧ (0 ≤ nm d ∧ nm d < n) ∧ nm b ≠ nm d) → Q .non H' := fun z => q _ _ (by
      rw [he, if_neg fun z2 => z z2.2]
      exact rfl) x1
    refine ⟨_, rfl, _, rfl, _, _, rfl, _, 0, rfl, rfl, _, rfl, ?_⟩
    by_cases c1 : (if nm d < nm b then nm d else nm b) < 0
    · exact ifT c1 (iteT (no (by intro z; split at c1 <;> omega)))
    refine ifF c1 ⟨_, rfl, _, rfl, _, _, rfl, _, rfl, _, _, rfl, rfl, _, rfl, ?_⟩
    by_cases c2 : (n : Int) ≤ (if nm d > nm b then nm d else nm b)
    · exact ifT c2 (no (by intro z; split at c2 <;> omega))
    refine ifF c2 ⟨_, rfl, _, rfl, _, _, rfl, rfl, _, rfl, ?_⟩
    by_cases c3 : nm b = nm d
    · exact ifT c3 (no fun z => z.2.2 c3)
    refine ifF c3 ?_
    have all : (0 ≤ nm b ∧ nm b < n) ∧ (0 ≤ nm d ∧ nm d < n) ∧ nm b ≠ nm d := by
      split at c1 <;> split at c2 <;> exact ⟨⟨by omega, by omega⟩, ⟨by omega, by omega⟩, c3⟩
    refine ⟨_, rfl, _, rfl, _, rfl, w, _, 0, _, rfl, rfl, SqL.of W1, rfl, rfl, by show 3 ≤ sizeLine; decide, fun t ht => q _ _ ?_ (x1.trans (Ext.new ht))⟩
    rw [he, if_pos ⟨ca, all⟩]
    refine ⟨t, rfl, ?_⟩
    rw [upd_same]
    have dd : decide (V.str a = V.str "pipe") = decide (a = ("pipe" : Str)) := decide_eq_decide.mpr ⟨fun z => V.str.inj z, fun z => congrArg V.str z⟩
    rw [dd]
    rfl
end
end Sp

set_option Elab.async false
set_option linter.all false
set_option maxRecDepth 100000
namespace Sp
open PySem L2 Sw PyProof.Rows
section
variable {P : Program} {w : World} {K : PySem.W.Frag} {mg : Str → Option Value} {base : Heap}
/-! ### _law_spoiled -/
theorem sig_ok : ∀ c ∈ cp ("0123456789 -+.pst_" : Str), c ≠ 10 ∧ c < 1000 := by decide +kernel
theorem pipe01_ok : (∀ c ∈ cp ("pipe 0 1" : Str), c ≠ 10 ∧ c < 1000) ∧ ("pipe 0 1" : Str).length ≤ 12 := by decide +kernel
theorem ln_cut {l : Str} {lo hi lo' hi' : Option Int} (h : Lm l) : Ln (cutS l lo hi ++ cutS l lo' hi') := by
  refine ⟨fun c hc => ?_, len_add (Nat.le_trans (cutS_len _ _ _) h.2) (Nat.le_trans (cutS_len _ _ _) h.2) (by decide)⟩
  rw [cp_append] at hc
  exact h.1 c ((List.mem_append.mp hc).elim (cp_cut l lo hi c) (cp_cut l lo' hi' c))
theorem ln_put {l : Str} {g : Nat} {lo hi lo' hi' : Option Int} (h : Lm l) (hg : g ≠ 10 ∧ g < 1000) (gl : (⟨#[g]⟩ : Str).length ≤ 1) : Ln (cutS l lo hi ++ ⟨#[g]⟩ ++ cutS l lo' hi') := by
  refine ⟨fun c hc => ?_, len_add (len_add (Nat.le_trans (cutS_len _ _ _) h.2) gl (Nat.le_refl _)) (Nat.le_trans (cutS_len _ _ _) h.2) (by decide)⟩
  rw [cp_append, cp_append] at hc
  rcases List.mem_append.mp hc with hc | hc
  · rcases List.mem_append.mp hc with hc | hc
    · exact h.1 c (cp_cut l lo hi c hc)
    · have : c = g := by simpa [cp] using hc
      rw [this]; exact hg
  · exact h.1 c (cp_cut l lo' hi' c hc)
theorem mid_ok {ls mid : List Str} {k : Nat} (lok : ∀ l ∈ ls, Lm l) (len : ls.length ≤ 61) (kl : k < ls.length) (hm : ∀ l ∈ mid, Ln l) (h2 : mid.length ≤ 2) : Lns (ls.take k ++ mid ++ ls.drop (k + 1)) := by
  refine ⟨fun l hl => ?_, by rw [List.length_append, List.length_append, List.length_take, List.length_drop]; omega⟩
  rcases List.mem_append.mp hl with hl | hl
  · rcases List.mem_append.mp hl with hl | hl
    · exact (lok l (List.mem_of_mem_take hl)).ln
    · exact hm l hl
  · exact (lok l (List.mem_of_mem_drop hl)).ln
def sp_spoil : Sp := fun vs H Q _ => ∃ (a : Addr) (ls : List Str) (c : Int), vs = [.ref a, .int c] ∧ H a = some (.lst (ls.map V.str)) ∧ ls ≠ [] ∧ (∀ l ∈ ls, Lm l) ∧ ls.length ≤ 61 ∧
  ∀ b ms H', Lns ms → (c % 9 = 8 → ms = ls ++ [("pipe 0 1" : Str)]) → H' b = some (.lst (ms.map V.str)) → Ext [] H H' → Q (.ref b) H'
set_option maxHeartbeats 0 in
theorem ok_spoil (T : TX K mg) : FnOk P w K mg base (CX1 P w) 2 T.f__law_spoiled T.fd__law_spoiled ["lines", "cell"] sp_spoil := by
  have G__law_bad_first : FnOk P w K mg base (CX1 P w) 1 T.f__law_bad_first T.fd__law_bad_first ["cell"] sp_badf := ok_badf T
  have G__law_bad_line : FnOk P w K mg base (CX1 P w) 1 T.f__law_bad_line T.fd__law_bad_line ["cell"] sp_bad := ok_bad T
  refine T.F__law_spoiled.ok1 sc__law_spoiled (fun vs H Q E h => ?_) (fun cdv A outer s H vs Q E hr h => ?_)
  · obtain ⟨a, ls, c, rfl, _⟩ := h
    rfl
  · obtain ⟨a, ls, c, rfl, hA, ne, lok, len, q⟩ := h
    refine ⟨_, (pss_cons (ps_set (i := 2) sc__law_spoiled.nd rfl (Or.inl rfl) (pe_op op_mod (pe_op op_fdiv (pv 1) pe_int) (pe_callB (lenK K) (by rfl) T.no_len bt_len (pa_cons (pv 0) pa_nil))))
      (pss_cons (ps_set (i := 3) sc__law_spoiled.nd rfl (Or.inl rfl) (pe_ix (ixL K) (pv 0) (pv 2) (fun _ _ => rfl)))
      (pss_cons (ps_set (i := 4) sc__law_spoiled.nd rfl (Or.inl rfl) (pe_slice (slLK K) (pv 0) po_none (po_some (pv 2))))
      (pss_cons (ps_set (i := 5) sc__law_spoiled.nd rfl (Or.inl rfl) (pe_slice (slLK K) (pv 0) (po_some (pe_op op_add (pv 2) pe_int)) po_none))
      (pss_cons (ps_set (i := 6) sc__law_spoiled.nd rfl (Or.inl rfl) (pe_op op_mod (pe_op op_fdiv (pv 1) pe_int) (pe_op op_add (pe_callB call_len_str (by rfl) T.no_len bt_len (pa_cons (pv 3) pa_nil)) pe_int)))
      (pss_cons (ps_set (i := 7) sc__law_spoiled.nd rfl (Or.inl rfl) (pe_ix ix_str pe_str (pe_op op_mod (pe_op op_fdiv (pv 1) pe_int) pe_int) (fun _ _ => rfl)))
      (pss_cons (ps_set (i := 8) sc__law_spoiled.nd rfl (Or.inl rfl) (pe_op op_mod (pv 1) pe_int))
      (pss_cons (ps_if (pt_cmp (pc_eqI (pv 8) pe_int)) (pss_one (ps_ret (pe_op op_cat (pe_op op_cat (pv 4) (pe_lst (pa_cons (pe_op op_add_str (pe_op op_add_str (pe_slice sl_str (pv 3) po_none (po_some (pv 6))) (pv 7)) (pe_slice sl_str (pv 3) (po_some (pv 6)) po_none)) pa_nil))) (pv 5)))) pss_nil)
      (pss_cons (ps_if (pt_cmp (pc_eqI (pv 8) pe_int)) (pss_one (ps_ret (pe_op op_cat (pe_op op_cat (pv 4) (pe_lst (pa_cons (pe_op op_add_str (pe_slice sl_str (pv 3) po_none (po_some (pv 6))) (pe_slice sl_str (pv 3) (po_some (pe_op op_add (pv 6) pe_int)) po_none)) pa_nil))) (pv 5)))) pss_nil)
      (pss_cons (ps_if (pt_cmp (pc_eqI (pv 8) pe_int)) (pss_one (ps_ret (pe_op op_cat (pe_op op_cat (pv 4) (pe_lst (pa_cons (pe_op op_add_str (pe_op op_add_str (pe_slice sl_str (pv 3) po_none (po_some (pv 6))) (pv 7)) (pe_slice sl_str (pv 3) (po_some (pe_op op_add (pv 6) pe_int)) po_none)) pa_nil))) (pv 5)))) pss_nil)
      (pss_cons (ps_if (pt_cmp (pc_eqI (pv 8) pe_int)) (pss_one (ps_ret (pe_op op_cat (pe_op op_cat (pv 4) (pe_lst (pa_cons (pv 3) (pa_cons (pv 3) pa_nil)))) (pv 5)))) pss_nil)
      (pss_cons (ps_if (pt_cmp (pc_eqI (pv 8) pe_int)) (pss_one (ps_ret (pe_op op_cat (pe_op op_cat (pv 4) (pe_lst (pa_cons (pv 3) (pa_cons (pe_call G__law_bad_line (hr.mono (by decide)) rfl T.mg__law_bad_line T.F__law_bad_line.kp T.b__law_bad_line .nil passN (pa_cons (pe_op op_fdiv (pv 1) pe_int) pa_nil)) pa_nil)))) (pv 5)))) pss_nil)
      (pss_cons (ps_if (pt_cmp (pc_eqI (pv 8) pe_int)) (pss_one (ps_ret (pe_op op_cat (pe_lst (pa_cons (pe_call G__law_bad_first (hr.mono (by decide)) rfl T.mg__law_bad_first T.F__law_bad_first.kp T.b__law_bad_first .nil passN (pa_cons (pe_op op_fdiv (pv 1) pe_int) pa_nil)) pa_nil)) (pe_slice (slLK K) (pv 0) (po_some pe_int) po_none)))) pss_nil)
      (pss_cons (ps_if (pt_cmp (pc_eqI (pv 8) pe_int)) (pss_one (ps_ret (pe_slice (slLK K) (pv 0) (po_some pe_int) po_none))) pss_nil)
      (pss_one (ps_ret (pe_op op_cat (pv 0) (pe_lst (pa_cons pe_str pa_nil))))))))))))))))))), ?_⟩
    have l0 : 0 < ls.length := List.length_pos_iff.mpr ne
    have d9 := Int.emod_nonneg (c / 9) (show (ls.length : Int) ≠ 0 by omega)
    have e9 := Int.emod_lt_of_pos (c / 9) (show 0 < (ls.length : Int) by omega)
    obtain ⟨k, hk⟩ : ∃ k : Nat, c / 9 % (ls.length : Int) = k := ⟨(c / 9 % (ls.length : Int)).toNat, by omega⟩
    have kl : k < ls.length := by omega
    refine ⟨_, rfl, _, _, rfl, rfl, ⟨by decide, by decide⟩, _, rfl, a, _, rfl, .inl (SqL.of hA), _, _, rfl, rfl, (by rw [List.length_map]; omega), ?_⟩
    dsimp only [gName]
    rw [List.length_map, hk]
    clear d9 e9 hk
    have okl := lok _ (List.getElem_mem kl)
    have at1 : atI (ls.map V.str) (k : Int) = some (.str ls[k]) := atI_nat (by rw [List.getElem?_map, List.getElem?_eq_getElem kl]; rfl)
    refine ⟨_, rfl, _, rfl, a, _, _, _, rfl, rfl, SqL.of hA, at1, ?_⟩
    dsimp only [gName]
    refine ⟨_, rfl, _, rfl, _, rfl, a, _, rfl, SqL.of hA, fun ah hah => ?_⟩
    rw [cutv_to, ← List.map_take]
    have x1 : Ext [] H (upd H ah (.lst ((ls.take k).map V.str))) := Ext.new hah
    have AH : upd H ah (.lst ((ls.take k).map V.str)) ah = some (.lst ((ls.take k).map V.str)) := upd_same
    have hA1 := x1.keep _ _ hA (by simp)
    generalize upd H ah (.lst ((ls.take k).map V.str)) = H1 at x1 AH hA1 ⊢
    dsimp only [gName]
    refine ⟨_, rfl, _, rfl, _, _, rfl, rfl, _, rfl, a, _, rfl, SqL.of hA1, fun bh hbh => ?_⟩
    have ek : ((k : Int) + 1) = ((k + 1 : Nat) : Int) := by omega
    rw [ek, cutv_from, ← List.map_drop]
    have x2 : Ext [] H1 (upd H1 bh (.lst ((ls.drop (k + 1)).map V.str))) := Ext.new hbh
    have BH : upd H1 bh (.lst ((ls.drop (k + 1)).map V.str)) bh = some (.lst ((ls.drop (k + 1)).map V.str)) := upd_same
    have AH2 := x2.keep _ _ AH (by simp)
    have hA2 := x2.keep _ _ hA1 (by simp)
    generalize upd H1 bh (.lst ((ls.drop (k + 1)).map V.str)) = H2 at x2 BH AH2 hA2 ⊢
    have y2 := x1.trans x2
    dsimp only [gName]
    have sl := okl.ln.small
    have d90 := Int.emod_nonneg (c / 90) (show ((ls[k].length : Int) + 1) ≠ 0 by omega)
    obtain ⟨j, hj⟩ : ∃ j : Nat, c / 90 % ((ls[k].length : Int) + 1) = j := ⟨(c / 90 % ((ls[k].length : Int) + 1)).toNat, by omega⟩
    refine ⟨_, rfl, _, _, rfl, rfl, ⟨by decide, by decide⟩, _, rfl, _, rfl, sl, _, _, rfl, rfl, _, _, rfl, rfl, (by omega), ?_⟩
    dsimp only [gName]
    rw [hj]
    clear d90 hj
    have d11 := Int.emod_nonneg (c / 11) (show (18 : Int) ≠ 0 by omega)
    have e11 := Int.emod_lt_of_pos (c / 11) (show 0 < (18 : Int) by omega)
    obtain ⟨i, hi⟩ : ∃ i : Nat, c / 11 % 18 = i := ⟨(c / 11 % 18).toNat, by omega⟩
    have il : i < (cp ("0123456789 -+.pst_" : Str)).length := by
      rw [show (cp ("0123456789 -+.pst_" : Str)).length = 18 by decide +kernel]
      omega
    have sgl : ("0123456789 -+.pst_" : Str).length ≤ sizeLine := by decide +kernel
    obtain ⟨g, hg⟩ : ∃ g, (cp ("0123456789 -+.pst_" : Str))[i]? = some g := ⟨_, List.getElem?_eq_getElem il⟩
    have gok := sig_ok g (List.mem_of_getElem? hg)
    refine ⟨_, rfl, _, _, rfl, rfl, ⟨by decide, by decide⟩, _, _, rfl, rfl, (by show (0 : Int) < 18; decide), _, _, g, rfl, rfl, sgl, (by rw [hi]; exact atI_nat hg), ?_⟩
    clear il sgl hg d11 e11 hi sl
    dsimp only [gName]
    refine ⟨_, rfl, _, _, rfl, rfl, (by show (0 : Int) < 9; decide), ?_⟩
    dsimp only [gName]
    have gl : (⟨#[g]⟩ : Str).length ≤ 1 := Nat.le_refl _
    have cl := fun lo hi => Nat.le_trans (cutS_len ls[k] lo hi) okl.2
    have sm := okl.ln.small
    have big : ∀ {a b : Str} {i j : Nat}, a.length ≤ i → b.length ≤ j → i + j ≤ 5000 → a.length + b.length ≤ sizeLine := fun ha hb hh => by rw [sizeLine_eq]; exact Nat.le_trans (Nat.add_le_add ha hb) (Nat.le_trans hh (by decide))
    refine ⟨_, rfl, _, _, rfl, rfl, _, rfl, ?_⟩
    by_cases k0 : c % 9 = 0
    · refine ifT k0 ?_
      refine ⟨_, rfl, _, rfl, _, rfl, _, rfl, _, rfl, sm, _, rfl, _, _, rfl, rfl, big (cl _ _) gl (by decide), _, rfl, _, rfl, _, rfl, _, rfl, sm, _, _, rfl, rfl, big (len_add (cl _ _) gl (Nat.le_refl _)) (cl _ _) (by decide), ?_⟩
      refine ⟨by show 1 ≤ sizeLine; decide, fun m1 hm1 => ?_⟩
      have u1 : Ext [] H2 (upd H2 m1 (.lst [V.str (cutS ls[k] none (some (j : Int)) ++ ⟨#[g]⟩ ++ cutS ls[k] (some (j : Int)) none)])) := Ext.new hm1
      have M1 : upd H2 m1 (.lst [V.str (cutS ls[k] none (some (j : Int)) ++ ⟨#[g]⟩ ++ cutS ls[k] (some (j : Int)) none)]) m1 = some (.lst ([cutS ls[k] none (some (j : Int)) ++ ⟨#[g]⟩ ++ cutS ls[k] (some (j : Int)) none].map V.str)) := upd_same
      have A1 := u1.keep _ _ AH2 (by simp)
      have B1 := u1.keep _ _ BH (by simp)
      generalize upd H2 m1 (.lst [V.str (cutS ls[k] none (some (j : Int)) ++ ⟨#[g]⟩ ++ cutS ls[k] (some (j : Int)) none)]) = G1 at u1 M1 A1 B1 ⊢
      refine ⟨ah, m1, _, _, rfl, rfl, A1, M1, by rw [List.length_map, List.length_map, List.length_take, sizeLine_eq]; simp; omega, fun m2 hm2 => ?_⟩
      have u2 : Ext [] G1 (upd G1 m2 (.lst ((ls.take k).map V.str ++ [cutS ls[k] none (some (j : Int)) ++ ⟨#[g]⟩ ++ cutS ls[k] (some (j : Int)) none].map V.str))) := Ext.new hm2
      have M2 : upd G1 m2 (.lst ((ls.take k).map V.str ++ [cutS ls[k] none (some (j : Int)) ++ ⟨#[g]⟩ ++ cutS ls[k] (some (j : Int)) none].map V.str)) m2 = some (.lst ((ls.take k).map V.str ++ [cutS ls[k] none (some (j : Int)) ++ ⟨#[g]⟩ ++ cutS ls[k] (some (j : Int)) none].map V.str)) := upd_same
      have B2 := u2.keep _ _ B1 (by simp)
      generalize upd G1 m2 (.lst ((ls.take k).map V.str ++ [cutS ls[k] none (some (j : Int)) ++ ⟨#[g]⟩ ++ cutS ls[k] (some (j : Int)) none].map V.str)) = G2 at u2 M2 B2 ⊢
      refine ⟨_, rfl, m2, bh, _, _, rfl, rfl, M2, B2, by rw [List.length_append, List.length_map, List.length_map, List.length_map, List.length_take, List.length_drop, sizeLine_eq]; simp; omega, fun m3 hm3 => ?_⟩
      exact q m3 (ls.take k ++ [cutS ls[k] none (some (j : Int)) ++ ⟨#[g]⟩ ++ cutS ls[k] (some (j : Int)) none] ++ ls.drop (k + 1)) _ (mid_ok lok len kl (by simp only [List.mem_singleton, forall_eq]; exact ln_put okl gok gl) (by simp)) (fun z => absurd z (by omega)) (by rw [upd_same, List.map_append, List.map_append]) (((y2.trans u1).trans u2).trans (Ext.new hm3))
    refine ifF k0 ?_
    dsimp only [tNext]
    refine ⟨_, rfl, _, _, rfl, rfl, _, rfl, ?_⟩
    by_cases k1 : c % 9 = 1
    · refine ifT k1 ?_
      refine ⟨_, rfl, _, rfl, _, rfl, _, rfl, _, rfl, sm, _, rfl, _, rfl, _, _, rfl, rfl, _, rfl, _, rfl, sm, _, _, rfl, rfl, big (cl _ _) (cl _ _) (by decide), ?_⟩
      refine ⟨by show 1 ≤ sizeLine; decide, fun m1 hm1 => ?_⟩
      have u1 : Ext [] H2 (upd H2 m1 (.lst [V.str (cutS ls[k] none (some (j : Int)) ++ cutS ls[k] (some ((j : Int) + 1)) none)])) := Ext.new hm1
      have M1 : upd H2 m1 (.lst [V.str (cutS ls[k] none (some (j : Int)) ++ cutS ls[k] (some ((j : Int) + 1)) none)]) m1 = some (.lst ([cutS ls[k] none (some (j : Int)) ++ cutS ls[k] (some ((j : Int) + 1)) none].map V.str)) := upd_same
      have A1 := u1.keep _ _ AH2 (by simp)
      have B1 := u1.keep _ _ BH (by simp)
      generalize upd H2 m1 (.lst [V.str (cutS ls[k] none (some (j : Int)) ++ cutS ls[k] (some ((j : Int) + 1)) none)]) = G1 at u1 M1 A1 B1 ⊢
      refine ⟨ah, m1, _, _, rfl, rfl, A1, M1, by rw [List.length_map, List.length_map, List.length_take, sizeLine_eq]; simp; omega, fun m2 hm2 => ?_⟩
      have u2 : Ext [] G1 (upd G1 m2 (.lst ((ls.take k).map V.str ++ [cutS ls[k] none (some (j : Int)) ++ cutS ls[k] (some ((j : Int) + 1)) none].map V.str))) := Ext.new hm2
      have M2 : upd G1 m2 (.lst ((ls.take k).map V.str ++ [cutS ls[k] none (some (j : Int)) ++ cutS ls[k] (some ((j : Int) + 1)) none].map V.str)) m2 = some (.lst ((ls.take k).map V.str ++ [cutS ls[k] none (some (j : Int)) ++ cutS ls[k] (some ((j : Int) + 1)) none].map V.str)) := upd_same
      have B2 := u2.keep _ _ B1 (by simp)
      generalize upd G1 m2 (.lst ((ls.take k).map V.str ++ [cutS ls[k] none (some (j : Int)) ++ cutS ls[k] (some ((j : Int) + 1)) none].map V.str)) = G2 at u2 M2 B2 ⊢
      refine ⟨_, rfl, m2, bh, _, _, rfl, rfl, M2, B2, by rw [List.length_append, List.length_map, List.length_map, List.length_map, List.length_take, List.length_drop, sizeLine_eq]; simp; omega, fun m3 hm3 => ?_⟩
      exact q m3 (ls.take k ++ [cutS ls[k] none (some (j : Int)) ++ cutS ls[k] (some ((j : Int) + 1)) none] ++ ls.drop (k + 1)) _ (mid_ok lok len kl (by simp only [List.mem_singleton, forall_eq]; exact ln_cut okl) (by simp)) (fun z => absurd z (by omega)) (by rw [upd_same, List.map_append, List.map_append]) (((y2.trans u1).trans u2).trans (Ext.new hm3))
    refine ifF k1 ?_
    dsimp only [tNext]
    refine ⟨_, rfl, _, _, rfl, rfl, _, rfl, ?_⟩
    by_cases k2 : c % 9 = 2
    · refine ifT k2 ?_
      refine ⟨_, rfl, _, rfl, _, rfl, _, rfl, _, rfl, sm, _, rfl, _, _, rfl, rfl, big (cl _ _) gl (by decide), _, rfl, _, rfl, _, _, rfl, rfl, _, rfl, _, rfl, sm, _, _, rfl, rfl, big (len_add (cl _ _) gl (Nat.le_refl _)) (cl _ _) (by decide), ?_⟩
      refine ⟨by show 1 ≤ sizeLine; decide, fun m1 hm1 => ?_⟩
      have u1 : Ext [] H2 (upd H2 m1 (.lst [V.str (cutS ls[k] none (some (j : Int)) ++ ⟨#[g]⟩ ++ cutS ls[k] (some ((j : Int) + 1)) none)])) := Ext.new hm1
      have M1 : upd H2 m1 (.lst [V.str (cutS ls[k] none (some (j : Int)) ++ ⟨#[g]⟩ ++ cutS ls[k] (some ((j : Int) + 1)) none)]) m1 = some (.lst ([cutS ls[k] none (some (j : Int)) ++ ⟨#[g]⟩ ++ cutS ls[k] (some ((j : Int) + 1)) none].map V.str)) := upd_same
      have A1 := u1.keep _ _ AH2 (by simp)
      have B1 := u1.keep _ _ BH (by simp)
      generalize upd H2 m1 (.lst [V.str (cutS ls[k] none (some (j : Int)) ++ ⟨#[g]⟩ ++ cutS ls[k] (some ((j : Int) + 1)) none)]) = G1 at u1 M1 A1 B1 ⊢
      refine ⟨ah, m1, _, _, rfl, rfl, A1, M1, by rw [List.length_map, List.length_map, List.length_take, sizeLine_eq]; simp; omega, fun m2 hm2 => ?_⟩
      have u2 : Ext [] G1 (upd G1 m2 (.lst ((ls.take k).map V.str ++ [cutS ls[k] none (some (j : Int)) ++ ⟨#[g]⟩ ++ cutS ls[k] (some ((j : Int) + 1)) none].map V.str))) := Ext.new hm2
      have M2 : upd G1 m2 (.lst ((ls.take k).map V.str ++ [cutS ls[k] none (some (j : Int)) ++ ⟨#[g]⟩ ++ cutS ls[k] (some ((j : Int) + 1)) none].map V.str)) m2 = some (.lst ((ls.take k).map V.str ++ [cutS ls[k] none (some (j : Int)) ++ ⟨#[g]⟩ ++ cutS ls[k] (some ((j : Int) + 1)) none].map V.str)) := upd_same
      have B2 := u2.keep _ _ B1 (by simp)
      generalize upd G1 m2 (.lst ((ls.take k).map V.str ++ [cutS ls[k] none (some (j : Int)) ++ ⟨#[g]⟩ ++ cutS ls[k] (some ((j : Int) + 1)) none].map V.str)) = G2 at u2 M2 B2 ⊢
      refine ⟨_, rfl, m2, bh, _, _, rfl, rfl, M2, B2, by rw [List.length_append, List.length_map, List.length_map, List.length_map, List.length_take, List.length_drop, sizeLine_eq]; simp; omega, fun m3 hm3 => ?_⟩
      exact q m3 (ls.take k ++ [cutS ls[k] none (some (j : Int)) ++ ⟨#[g]⟩ ++ cutS ls[k] (some ((j : Int) + 1)) none] ++ ls.drop (k + 1)) _ (mid_ok lok len kl (by simp only [List.mem_singleton, forall_eq]; exact ln_put okl gok gl) (by simp)) (fun z => absurd z (by omega)) (by rw [upd_same, List.map_append, List.map_append]) (((y2.trans u1).trans u2).trans (Ext.new hm3))
    refine ifF k2 ?_
    dsimp only [tNext]
    refine ⟨_, rfl, _, _, rfl, rfl, _, rfl, ?_⟩
    by_cases k3 : c % 9 = 3
    · refine ifT k3 ?_
      refine ⟨_, rfl, _, rfl, _, rfl, ?_⟩
      refine ⟨by show 2 ≤ sizeLine; decide, fun m1 hm1 => ?_⟩
      have u1 : Ext [] H2 (upd H2 m1 (.lst [V.str (ls[k]), V.str (ls[k])])) := Ext.new hm1
      have M1 : upd H2 m1 (.lst [V.str (ls[k]), V.str (ls[k])]) m1 = some (.lst ([ls[k], ls[k]].map V.str)) := upd_same
      have A1 := u1.keep _ _ AH2 (by simp)
      have B1 := u1.keep _ _ BH (by simp)
      generalize upd H2 m1 (.lst [V.str (ls[k]), V.str (ls[k])]) = G1 at u1 M1 A1 B1 ⊢
      refine ⟨ah, m1, _, _, rfl, rfl, A1, M1, by rw [List.length_map, List.length_map, List.length_take, sizeLine_eq]; simp; omega, fun m2 hm2 => ?_⟩
      have u2 : Ext [] G1 (upd G1 m2 (.lst ((ls.take k).map V.str ++ [ls[k], ls[k]].map V.str))) := Ext.new hm2
      have M2 : upd G1 m2 (.lst ((ls.take k).map V.str ++ [ls[k], ls[k]].map V.str)) m2 = some (.lst ((ls.take k).map V.str ++ [ls[k], ls[k]].map V.str)) := upd_same
      have B2 := u2.keep _ _ B1 (by simp)
      generalize upd G1 m2 (.lst ((ls.take k).map V.str ++ [ls[k], ls[k]].map V.str)) = G2 at u2 M2 B2 ⊢
      refine ⟨_, rfl, m2, bh, _, _, rfl, rfl, M2, B2, by rw [List.length_append, List.length_map, List.length_map, List.length_map, List.length_take, List.length_drop, sizeLine_eq]; simp; omega, fun m3 hm3 => ?_⟩
      exact q m3 (ls.take k ++ [ls[k], ls[k]] ++ ls.drop (k + 1)) _ (mid_ok lok len kl (by simp only [List.mem_cons, List.not_mem_nil, or_false, or_self, forall_eq]; exact okl.ln) (by simp)) (fun z => absurd z (by omega)) (by rw [upd_same, List.map_append, List.map_append]) (((y2.trans u1).trans u2).trans (Ext.new hm3))
    refine ifF k3 ?_
    dsimp only [tNext]
    refine ⟨_, rfl, _, _, rfl, rfl, _, rfl, ?_⟩
    by_cases k4 : c % 9 = 4
    · refine ifT k4 ?_
      refine ⟨_, rfl, _, rfl, _, rfl, _, _, rfl, rfl, ⟨by decide, by decide⟩, _, rfl, fun z H3 okz x3 => ?_⟩
      have AH3 := x3.keep _ _ AH2 (by simp)
      have BH3 := x3.keep _ _ BH (by simp)
      have y3 := y2.trans x3
      refine ⟨by show 2 ≤ sizeLine; decide, fun m1 hm1 => ?_⟩
      have u1 : Ext [] H3 (upd H3 m1 (.lst [V.str (ls[k]), V.str (z)])) := Ext.new hm1
      have M1 : upd H3 m1 (.lst [V.str (ls[k]), V.str (z)]) m1 = some (.lst ([ls[k], z].map V.str)) := upd_same
      have A1 := u1.keep _ _ AH3 (by simp)
      have B1 := u1.keep _ _ BH3 (by simp)
      generalize upd H3 m1 (.lst [V.str (ls[k]), V.str (z)]) = G1 at u1 M1 A1 B1 ⊢
      refine ⟨ah, m1, _, _, rfl, rfl, A1, M1, by rw [List.length_map, List.length_map, List.length_take, sizeLine_eq]; simp; omega, fun m2 hm2 => ?_⟩
      have u2 : Ext [] G1 (upd G1 m2 (.lst ((ls.take k).map V.str ++ [ls[k], z].map V.str))) := Ext.new hm2
      have M2 : upd G1 m2 (.lst ((ls.take k).map V.str ++ [ls[k], z].map V.str)) m2 = some (.lst ((ls.take k).map V.str ++ [ls[k], z].map V.str)) := upd_same
      have B2 := u2.keep _ _ B1 (by simp)
      generalize upd G1 m2 (.lst ((ls.take k).map V.str ++ [ls[k], z].map V.str)) = G2 at u2 M2 B2 ⊢
      refine ⟨_, rfl, m2, bh, _, _, rfl, rfl, M2, B2, by rw [List.length_append, List.length_map, List.length_map, List.length_map, List.length_take, List.length_drop, sizeLine_eq]; simp; omega, fun m3 hm3 => ?_⟩
      exact q m3 (ls.take k ++ [ls[k], z] ++ ls.drop (k + 1)) _ (mid_ok lok len kl (by intro l hl; simp at hl; rcases hl with rfl | rfl; exact okl.ln; exact okz.ln) (by simp)) (fun z => absurd z (by omega)) (by rw [upd_same, List.map_append, List.map_append]) (((y3.trans u1).trans u2).trans (Ext.new hm3))
    refine ifF k4 ?_
    dsimp only [tNext]
    refine ⟨_, rfl, _, _, rfl, rfl, _, rfl, ?_⟩
    by_cases k5 : c % 9 = 5
    · refine ifT k5 ?_
      refine ⟨_, rfl, _, _, rfl, rfl, ⟨by decide, by decide⟩, _, rfl, fun z H3 okz x3 => ?_⟩
      refine ⟨by show 1 ≤ sizeLine; decide, fun m1 hm1 => ?_⟩
      have y1 : Ext [] H3 (upd H3 m1 (.lst [.str z])) := Ext.new hm1
      have M1 : upd H3 m1 (.lst [.str z]) m1 = some (.lst [.str z]) := upd_same
      have A3 := (x3.trans y1).keep _ _ hA2 (by simp)
      generalize upd H3 m1 (.lst [.str z]) = G1 at y1 M1 A3 ⊢
      refine ⟨_, rfl, _, rfl, a, _, rfl, SqL.of A3, fun m2 hm2 => ?_⟩
      rw [show (1 : Int) = ((1 : Nat) : Int) from rfl, cutv_from, ← List.map_drop]
      have z2 : Ext [] G1 (upd G1 m2 (.lst ((ls.drop 1).map V.str))) := Ext.new hm2
      have M2 : upd G1 m2 (.lst ((ls.drop 1).map V.str)) m2 = some (.lst ((ls.drop 1).map V.str)) := upd_same
      have M1' := z2.keep _ _ M1 (by simp)
      generalize upd G1 m2 (.lst ((ls.drop 1).map V.str)) = G2 at z2 M2 M1' ⊢
      refine ⟨m1, m2, _, _, rfl, rfl, M1', M2, by rw [List.length_map, List.length_drop, sizeLine_eq]; simp; omega, fun m3 hm3 => ?_⟩
      exact q m3 (z :: ls.drop 1) _ ⟨fun l hl => by
        rcases List.mem_cons.mp hl with rfl | h
        · exact okz.ln
        · exact (lok l (List.mem_of_mem_drop h)).ln, by simp; omega⟩ (fun z => absurd z (by omega)) (by rw [upd_same]; rfl) ((((y2.trans x3).trans y1).trans z2).trans (Ext.new hm3))
    refine ifF k5 ?_
    dsimp only [tNext]
    refine ⟨_, rfl, _, _, rfl, rfl, _, rfl, ?_⟩
    by_cases k6 : c % 9 = 6
    · refine ifT k6 ?_
      refine ⟨_, rfl, _, rfl, a, _, rfl, SqL.of hA2, fun m2 hm2 => ?_⟩
      rw [show (1 : Int) = ((1 : Nat) : Int) from rfl, cutv_from, ← List.map_drop]
      exact q m2 (ls.drop 1) _ ⟨fun l hl => (lok l (List.mem_of_mem_drop hl)).ln, by rw [List.length_drop]; omega⟩ (fun z => absurd z (by omega)) (by rw [upd_same]) (y2.trans (Ext.new hm2))
    refine ifF k6 ?_
    dsimp only [tNext]
    refine ⟨_, rfl, by show 1 ≤ sizeLine; decide, fun m1 hm1 => ?_⟩
    have y1 : Ext [] H2 (upd H2 m1 (.lst [.str "pipe 0 1"])) := Ext.new hm1
    have M1 : upd H2 m1 (.lst [.str "pipe 0 1"]) m1 = some (.lst [.str "pipe 0 1"]) := upd_same
    have A3 := y1.keep _ _ hA2 (by simp)
    generalize upd H2 m1 (.lst [.str "pipe 0 1"]) = G1 at y1 M1 A3 ⊢
    refine ⟨a, m1, _, _, rfl, rfl, A3, M1, by rw [List.length_map, sizeLine_eq]; simp; omega, fun m3 hm3 => ?_⟩
    exact q m3 (ls ++ [("pipe 0 1" : Str)]) _ ⟨fun l hl => by
      rcases List.mem_append.mp hl with h | h
      · exact (lok l h).ln
      · rw [List.mem_singleton.mp h]; exact Lm.ln pipe01_ok, by simp; omega⟩ (fun _ => rfl) (by rw [upd_same, List.map_append]; rfl) ((y2.trans y1).trans (Ext.new hm3))
end
end Sp

set_option Elab.async false
set_option linter.all false
set_option maxRecDepth 100000
namespace Sp
open PySem L2 Sw PyProof.Rows
section
variable {P : Program} {w : World} {K : PySem.W.Frag} {mg : Str → Option Value} {base : Heap}
/-! ### _law_due -/
theorem PV.tups {H H' : Hp} {y : V} {o : Option Pt} (h : PV H y o) (x : ∀ b xs, H b = some (.tup xs) → H' b = some (.tup xs)) : PV H' y o := by
  cases o with
  | none => exact h
  | some p => obtain ⟨t, a, b⟩ := h; exact ⟨t, a, x _ _ b⟩
theorem pvs_mono {H H' : Hp} {ys : List V} {os : List (Option Pt)} (h : Paired (PV H) ys os) (x : ∀ b xs, H b = some (.tup xs) → H' b = some (.tup xs)) : Paired (PV H') ys os := Paired.mapP h fun _ _ z => z.tups x
theorem pvs_snoc {H : Hp} {y : V} {o : Option Pt} : ∀ {ys : List V} {os : List (Option Pt)}, Paired (PV H) ys os → PV H y o → Paired (PV H) (ys ++ [y]) (os ++ [o])
  | _, _, .nil, r => .cons r .nil
  | _, _, .cons a h, r => .cons a (pvs_snoc h r)
theorem pvs_non {H : Hp} : ∀ {ys : List V} {os : List (Option Pt)} {ps : List Pt} {j : Nat}, Paired (PV H) ys os → ys[j]? = some .non → os = ps.map some → False
  | _, _, _, _, .nil, h, _ => by simp at h
  | _, _, [], _, .cons _ _, _, e => by cases e
  | _, _, p :: ps, 0, .cons (l₂ := os) (b := o) r t, h, e => by
    have : o = some p := (List.cons.inj e).1
    subst this
    obtain ⟨u, z, _⟩ := r
    rw [z] at h
    cases h
  | _, _, p :: ps, j + 1, .cons _ t, h, e => pvs_non (j := j) t (by simpa using h) (List.cons.inj e).2
theorem pvs_all {H : Hp} : ∀ {ys : List V} {os : List (Option Pt)}, Paired (PV H) ys os → (∀ j : Nat, ys[j]? = some V.non → False) → ∃ ts ps, ys = List.map V.ref ts ∧ Tups H ts ps ∧ os = ps.map some
  | _, _, .nil, _ => ⟨[], [], rfl, .nil, rfl⟩
  | y :: _, o :: _, .cons r t, h => by
    obtain ⟨ts, ps, a, b, c⟩ := pvs_all t fun j hj => h (j + 1) (by simpa using hj)
    cases o with
    | none => exact (h 0 (by rw [show y = .non from r]; rfl)).elim
    | some p =>
      obtain ⟨u, e1, e2⟩ := r
      exact ⟨u :: ts, p :: ps, by rw [e1, a]; rfl, .cons e2 b, by rw [c]; rfl⟩
def sp_ldue : Sp := fun vs H Q _ => ∃ (a : Addr) (ls : List Str), vs = [.ref a] ∧ H a = some (.lst (ls.map V.str)) ∧ Lns ls ∧ (∀ n ps, Due ls n ps → ∀ t c H', H' t = some (.tup [.int n, .ref c]) → PipesAt H' c ps → Ext [] H H' → Q (.ref t) H') ∧ ((∀ n ps, ¬ Due ls n ps) → ∀ H', Ext [] H H' → Q .non H')
set_option maxHeartbeats 0 in
theorem ok_ldue (T : TX K mg) : FnOk P w K mg base (CX1 P w) 3 T.f__law_due T.fd__law_due ["lines"] sp_ldue := by
  have G__law_pipe_of : FnOk P w K mg base (CX1 P w) 2 T.f__law_pipe_of T.fd__law_pipe_of ["line", "size"] sp_pof := ok_pof T
  have G__law_number : FnOk P w K mg base (CX1 P w) 1 T.f__law_number T.fd__law_number ["word"] sp_lnum := ok_lnum T
  refine T.F__law_due.ok1 sc__law_due (fun vs H Q E h => ?_) (fun cdv A outer s H vs Q E hr h => ?_)
  · obtain ⟨a, ls, rfl, _⟩ := h
    rfl
  · obtain ⟨a, ls, rfl, hA, lok, q, k⟩ := h
    refine ⟨_, (pss_cons (ps_if (pt_cmp (pc_eqI (pe_callB (lenK K) (by rfl) T.no_len bt_len (pa_cons (pv 0) pa_nil)) pe_int)) (pss_one (ps_ret pe_non)) pss_nil)
      (pss_cons (ps_set (i := 1) sc__law_due.nd rfl (Or.inr rfl) (pe_bm PySem.F.plainAttrs_str PySem.F.slot_str_split PySem.F.type_str_split mt_split (pe_ix (ixL K) (pv 0) pe_int (fun _ _ => rfl)) (pa_cons pe_str pa_nil)))
      (pss_cons (ps_if (PW.pt (pw_or (pt_cmp (pc_neI (pe_callB (lenK K) (by rfl) T.no_len bt_len (pa_cons (pv 1) pa_nil)) pe_int)) (pw_or (pt_cmpR op_ne (pe_ix (ixL K) (pv 1) pe_int (fun _ _ => rfl)) pe_str (nomark _)) (pw_or1 (pt_not (pt_chain op_le op_le pe_int (pe_call G__law_number (hr.mono (by decide)) rfl T.mg__law_number T.F__law_number.kp T.b__law_number .nil passN (pa_cons (pe_ix (ixL K) (pv 1) pe_int (fun _ _ => rfl)) pa_nil)) pe_int)))))) (pss_one (ps_ret pe_non)) pss_nil)
      (pss_cons (ps_setc (i := 2) (locs := ["line"]) (caps := [1]) rfl ⟨by rfl, by decide +kernel, rfl, by decide +kernel, by exact ⟨rfl, trivial⟩, by rfl, by rfl⟩ (pi_list (pe_slice (slLK K) (pv 0) (po_some pe_int) po_none)) (fun fp s3 H3 => (pg_name (i := 0) (show (["line", "words"] : List Str).Nodup by decide +kernel) rfl (Or.inl rfl))) (fun fp s3 H3 => pts_nil)
          (fun fp s3 H3 => (pe_call G__law_pipe_of (hr.mono (by decide)) rfl T.mg__law_pipe_of T.F__law_pipe_of.kp T.b__law_pipe_of .nil passN (pa_cons (pv 0) (pa_cons (pe_callTy call_int_num (by rfl) T.no_int bt_int (pa_cons (pe_ix (ixL K) (pv 1) pe_int (fun _ _ => rfl)) pa_nil)) pa_nil)))) sc__law_due.nd rfl (Or.inl rfl))
      (pss_cons (ps_if (PW.pt (pw_or (pt_cmp (pc_gt (pe_callB (lenK K) (by rfl) T.no_len bt_len (pa_cons (pv 2) pa_nil)) pe_int)) (pw_or1 (pt_cmp (pc_gt (pe_callB (lenK K) (by rfl) T.no_len bt_len (pa_cons (pe_comp (locs := ["pipe"]) (caps := []) rfl ⟨by rfl, by decide +kernel, rfl, by decide +kernel, by exact trivial, by rfl, by rfl⟩ (pi_list (pv 2)) (fun fp s3 H3 => (pg_name (i := 0) (show (["pipe"] : List Str).Nodup by decide +kernel) rfl (Or.inl rfl))) (fun fp s3 H3 => (pts_one (pt_cmp (pc_isN (pv 0)))))
          (fun fp s3 H3 => (pv 0))) pa_nil)) pe_int))))) (pss_one (ps_ret pe_non)) pss_nil)
      (pss_one (ps_ret (pe_tup (pa_cons (pe_callTy call_int_num (by rfl) T.no_int bt_int (pa_cons (pe_ix (ixL K) (pv 1) pe_int (fun _ _ => rfl)) pa_nil)) (pa_cons (pv 2) pa_nil)))))))))), ?_⟩
    have b1 : 1 ≤ (" " : Str).length := by decide +kernel
    refine ⟨_, rfl, a, _, rfl, .inl (SqL.of hA), _, 0, rfl, rfl, _, rfl, ?_⟩
    cases ls with
    | nil => exact ifT rfl (k (fun n ps ⟨l, r, e, _⟩ => by cases e) _ Ext.refl)
    | cons l0 rs =>
      refine ifF (by rw [List.length_map, List.length_cons]; omega) ?_
      dsimp only [tNext]
      have ok0 := lok.1 l0 (by simp)
      have hl := ok0.len
      have wok := words_ok ok0
      have lr : rs.length ≤ 69 := by have := lok.2; simp at this; omega
      refine ⟨_, rfl, a, _, 0, _, rfl, rfl, SqL.of hA, atI_nat (j := 0) (v := V.str l0) rfl, rfl, _, _, rfl, rfl, b1, by omega, fun w hw => ?_⟩
      have x1 : Ext [] H (upd H w (.lst ((Txt.split l0 (" " : Str)).map V.str))) := Ext.new hw
      have W1 : upd H w (.lst ((Txt.split l0 (" " : Str)).map V.str)) w = some (.lst ((Txt.split l0 (" " : Str)).map V.str)) := upd_same
      have hA1 := x1.keep _ _ hA (by simp)
      generalize upd H w (.lst ((Txt.split l0 (" " : Str)).map V.str)) = H1 at x1 W1 hA1 ⊢
      dsimp only [gName]
      have none_ : hOf l0 = none → Q .non H1 := fun hn => k (fun n ps ⟨l, r, e, h, _⟩ => by
        cases e
        rw [hn] at h
        cases h) _ x1
      refine seq_mid (t := tIfS _ _ _) (fun σ' H' => σ' = [some (.ref a), some (.ref w), none] ∧ H' = H1 ∧ ∃ x b, Txt.split l0 (" " : Str) = [x, b] ∧ x = ("places" : Str) ∧ 1 ≤ nm b ∧ nm b ≤ 12) (fun R hR => ?_) ?_
      · refine ⟨_, rfl, w, _, rfl, .inl (SqL.of W1), _, _, rfl, rfl, _, rfl, ?_⟩
        by_cases c : (Txt.split l0 (" " : Str)).length = 2
        · obtain ⟨x, b, e⟩ := list2 c
          have he := hOf_2 e
          rw [e] at W1 wok ⊢
          have okb := wok b (by simp)
          refine ifNF rfl ⟨_, rfl, w, _, 0, _, rfl, rfl, SqL.of W1, rfl, rfl, _, rfl, ?_⟩
          by_cases ca : x = ("places" : Str)
          · refine ifNF (congrArg V.str ca) ⟨_, rfl, w, _, 1, _, rfl, rfl, SqL.of W1, rfl, b, rfl, okb, _, _, rfl, rfl, _, rfl, ?_⟩
            by_cases h1 : 1 ≤ nm b
            · refine ifT h1 ⟨_, _, rfl, rfl, _, rfl, ?_⟩
              by_cases h2 : nm b ≤ 12
              · exact ifNF h2 (hR _ _ ⟨rfl, rfl, x, b, e, ca, h1, h2⟩)
              · exact ifNT h2 (none_ (by rw [he]; exact if_neg fun z => h2 z.2.2))
            · exact ifF h1 ⟨false, rfl, iteT (none_ (by rw [he]; exact if_neg fun z => h1 z.2.1))⟩
          · exact ifNT (fun z => ca (V.str.inj z)) (iteT (none_ (by rw [he]; exact if_neg fun z => ca z.1)))
        · refine ifNT ?_ (iteT (none_ (hOf_no c)))
          intro z
          rw [List.length_map] at z
          exact c (by omega)
      rintro σ' H' ⟨rfl, rfl, x, b, e, ca, h1, h2⟩
      have he := hOf_2 e
      rw [if_pos ⟨ca, h1, h2⟩] at he
      rw [e] at W1
      clear none_ wok
      obtain ⟨n, hn⟩ : ∃ n : Nat, nm b = n := ⟨(nm b).toNat, by omega⟩
      have eb : b = fg n := by
        have := (nm_ge (w := b) (by omega)).2
        rw [hn] at this
        exact this
      rw [hn, Int.toNat_natCast] at he
      have n12 : 1 ≤ n ∧ n ≤ 12 := by omega
      clear h1 h2 hn ca
      refine ⟨_, rfl, _, rfl, a, _, rfl, SqL.of hA1, fun u hu => ?_⟩
      rw [show (1 : Int) = ((1 : Nat) : Int) from rfl, cutv_from, ← List.map_drop, List.drop_one, List.tail_cons]
      have x2 : Ext [] H' (upd H' u (.lst (rs.map V.str))) := Ext.new hu
      have U2 : upd H' u (.lst (rs.map V.str)) u = some (.lst (rs.map V.str)) := upd_same
      have W2 := x2.keep _ _ W1 (by simp)
      generalize upd H' u (.lst (rs.map V.str)) = H2 at x2 U2 W2 ⊢
      have y2 := x1.trans x2
      refine ⟨u, rfl, ⟨_, SqL.of U2⟩, fun D hD => ?_⟩
      refine cl_list (K := K) (a := u) (xs := rs.map V.str) (fun i σ' H' => ∃ (x : Option V) (ys : List V), σ' = [x, some (.ref w)] ∧ H' D = some (.lst ys) ∧ Paired (PV H') ys ((rs.take i).map (pOf n)) ∧ Ext [] H2 H') ⟨none, [], rfl, upd_same, .nil, Ext.new hD⟩ ?_ ?_ ?_
      · rintro i σ' H' _ ⟨x, ys, rfl, hD', pr, ex⟩
        exact SqL.of (ex.keep _ _ U2 (by simp))
      · rintro i y σ' H' hy ⟨x', ys, rfl, hD', pr, ex⟩
        rw [List.getElem?_map] at hy
        have hi : i < rs.length := by
          cases z : rs[i]? with
          | none => rw [z] at hy; cases hy
          | some x => exact (List.getElem?_eq_some_iff.mp z).1
        rw [List.getElem?_eq_getElem hi] at hy
        obtain rfl : y = .str rs[i] := (Option.some.inj hy).symm
        have ly : ys.length = i := by
          rw [Paired.length pr, List.length_map, List.length_take]
          omega
        refine ⟨_, rfl, _, rfl, w, _, 1, _, rfl, rfl, SqL.of (ex.keep _ _ W2 (by simp)), rfl, n, by rw [eb], by omega, by omega, rs[i], n, rfl, lok.1 _ (by simp), fun y H4 pv x4 => ⟨ys, x4.keep _ _ hD' (by simp), small1000 (by omega), ?_⟩⟩
        have x5 : Ext [D] H4 (upd H4 D (.lst (ys ++ [y]))) := Ext.putL (x4.keep _ _ hD' (by simp)) (by simp)
        refine ⟨_, _, rfl, upd_same, ?_, (ex.trans x4).over1 x5 hD⟩
        rw [List.take_add_one, List.getElem?_eq_getElem hi, List.map_append]
        exact pvs_snoc (pvs_mono (pvs_mono pr x4.tups) x5.tups) (PV.tups pv x5.tups)
      · rintro σ' H' ⟨x', ys, rfl, hD', pr, ex⟩
        rw [List.length_map, List.take_length] at pr
        have y3 := y2.trans ex
        have W3 := ex.keep _ _ W2 (by simp)
        have ly : ys.length = rs.length := by rw [Paired.length pr, List.length_map]
        clear ex U2 W2 x2 hA hA1 W1 x1
        dsimp only [gName]
        refine ⟨_, rfl, D, _, rfl, .inl (SqL.of hD'), _, 60, rfl, rfl, _, rfl, ?_⟩
        by_cases c60 : 60 < (ys.length : Int)
        · refine ifT c60 (iteT (k (fun n' ps ⟨l, r, e, h, _, z⟩ => ?_) _ y3))
          cases e
          omega
        refine ifF c60 ⟨_, rfl, D, rfl, ⟨_, SqL.of hD'⟩, fun D2 hD2 => ?_⟩
        refine cl_list (K := K) (a := D) (xs := ys) (fun i σ' H4 => ∃ (x : Option V) (zs : List V), σ' = [x] ∧ H4 D2 = some (.lst zs) ∧ zs.length ≤ i ∧ ((∃ j, j < i ∧ ys[j]? = some .non) ↔ 0 < zs.length) ∧ Ext [] H' H4) ⟨none, [], rfl, upd_same, Nat.le_refl _, ⟨fun ⟨j, z, _⟩ => by omega, fun z => by simp at z⟩, Ext.new hD2⟩ ?_ ?_ ?_
        · rintro i σ' H4 _ ⟨x, zs, rfl, _, _, _, ex⟩
          exact SqL.of (ex.keep _ _ hD' (by simp))
        · rintro i y σ' H4 hy ⟨x, zs, rfl, hz, lz, iff, ex⟩
          have hi : i < ys.length := (List.getElem?_eq_some_iff.mp hy).1
          refine ⟨_, rfl, _, rfl, ?_⟩
          by_cases cy : y = .non
          · refine ifT cy ⟨_, rfl, zs, hz, small1000 (by omega), _, _, rfl, upd_same, by rw [List.length_append]; simp; omega, ⟨fun _ => by simp, fun _ => ⟨i, by omega, by rw [hy, cy]⟩⟩, ex.over1 (Ext.putL hz (by simp)) hD2⟩
          · refine ifF cy ⟨_, _, rfl, hz, by omega, ?_, ex⟩
            rw [← iff]
            refine ⟨fun ⟨j, a, b⟩ => ⟨j, ?_, b⟩, fun ⟨j, a, b⟩ => ⟨j, by omega, b⟩⟩
            have : j ≠ i := fun z => by
              subst z
              rw [hy] at b
              exact cy (Option.some.inj b)
            omega
        · rintro σ' H4 ⟨x, zs, rfl, hz, lz, iff, ex⟩
          refine ⟨D2, _, rfl, .inl (SqL.of hz), _, 0, rfl, rfl, _, rfl, ?_⟩
          have y4 := y3.trans ex
          by_cases cz : 0 < (zs.length : Int)
          · refine ifT cz (k (fun n' ps ⟨l, r, e, h, h2, _⟩ => ?_) _ y4)
            cases e
            rw [he] at h
            cases h
            obtain ⟨j, hj, hjn⟩ := iff.mpr (by omega)
            exact pvs_non pr hjn h2
          · refine ifF cz ?_
            obtain ⟨ts, ps, e1, tt, e2⟩ := pvs_all pr fun j hj => cz (by have := iff.mp ⟨j, (List.getElem?_eq_some_iff.mp hj).1, hj⟩; omega)
            refine ⟨_, rfl, w, _, 1, _, rfl, rfl, SqL.of (ex.keep _ _ W3 (by simp)), rfl, n, by rw [eb], by omega, by omega, _, rfl, by show 2 ≤ sizeLine; decide, fun t ht => ?_⟩
            have x5 : Ext [] H4 (upd H4 t (.tup [.int n, .ref D])) := Ext.new ht
            have z5 := ex.trans x5
            exact q n ps ⟨l0, rs, rfl, he, e2, by omega⟩ t D _ upd_same ⟨ts, by rw [z5.keep _ _ hD' (by simp), e1], tt.mono z5.tups⟩ (y4.trans x5)
end
end Sp

set_option Elab.async false
set_option linter.all false
set_option maxRecDepth 100000
namespace Sp
open PySem L2 Sw PyProof.Rows
section
variable {P : Program} {w : World} {K : PySem.W.Frag} {mg : Str → Option Value} {base : Heap}
/-! ### _law_cell_at -/
def cell (ns : List Int) (k : Int) : Int := ns.getD k.toNat 0
def sp_cell (K : PySem.W.Frag) : Sp := fun vs H Q _ => ∃ (a : Addr) (ns : List Int) (k : Int), vs = [.ref a, .int k] ∧ SqL K H a (ns.map V.int) ∧ 0 ≤ k ∧ Q (.int (cell ns k)) H
theorem ok_cell (T : TX K mg) : FnOk P w K mg base (CX1 P w) 1 T.f__law_cell_at T.fd__law_cell_at ["script", "k"] (sp_cell K) := by
  refine T.F__law_cell_at.ok1 sc__law_cell_at (fun vs H Q E h => ?_) (fun cdv A outer s H vs Q E hr h => ?_)
  · obtain ⟨a, ns, k, rfl, _⟩ := h
    rfl
  · obtain ⟨a, ns, k, rfl, hS, hk, q⟩ := h
    refine ⟨_, pss_cons (ps_if (pt_cmp (pc_lt (pv 1) (pe_callB call_len_seq (by rfl) T.no_len bt_len (pa_cons (pv 0) pa_nil)))) (pss_one (ps_ret (pe_ix ix_list (pv 0) (pv 1) (fun _ _ => rfl)))) pss_nil) (pss_one (ps_ret pe_int)), ?_⟩
    refine ⟨_, rfl, _, rfl, a, _, rfl, .inl hS, k, _, rfl, rfl, _, rfl, ?_⟩
    refine ite2 (fun c => ?_) (fun c => ?_)
    · have c0 : k < ((ns.map V.int).length : Int) := of_decide_eq_true c
      rw [List.length_map] at c0
      have hlt : k.toNat < ns.length := by omega
      refine ⟨_, rfl, _, rfl, a, _, k, .int (ns[k.toNat]), rfl, rfl, hS, ?_, ?_⟩
      · have e : (ns.map V.int)[k.toNat]? = some (.int ns[k.toNat]) := by rw [List.getElem?_map, List.getElem?_eq_getElem hlt]; rfl
        have := atI_nat e
        rwa [Int.toNat_of_nonneg hk] at this
      · have e : cell ns k = ns[k.toNat] := by unfold cell; rw [List.getD_eq_getElem?_getD, List.getElem?_eq_getElem hlt]; rfl
        rw [e] at q
        exact q
    · have c0 : ¬ k < ((ns.map V.int).length : Int) := fun z => c (decide_eq_true z)
      rw [List.length_map] at c0
      have e : cell ns k = 0 := by unfold cell; rw [List.getD_eq_getElem?_getD, List.getElem?_eq_none (by omega)]; rfl
      rw [e] at q
      exact q
end
end Sp
namespace Sp
open PySem L2 Sw PyProof.Rows
section
variable {P : Program} {w : World} {K : PySem.W.Frag} {mg : Str → Option Value} {base : Heap}
/-! ### _law_whole -/
def sp_whole : Sp := fun vs H Q _ => ∃ (i : Int), vs = [.int i] ∧ Q (.bl true) H
theorem ok_whole (T : TX K mg) : FnOk P w K mg base (CX1 P w) 1 T.f__law_whole T.fd__law_whole ["found"] sp_whole := by
  refine T.F__law_whole.ok1 sc__law_whole (fun vs H Q E h => ?_) (fun cdv A outer s H vs Q E hr h => ?_)
  · obtain ⟨i, rfl, _⟩ := h
    rfl
  · obtain ⟨i, rfl, q⟩ := h
    refine ⟨_, pss_one (ps_ret (pe_and (pe_callB call_isinstance (by rfl) T.no_isinstance bt_isinstance (pa_cons (pv 0) (pa_cons (pe_bltn (v := .ty "int") rfl T.no_int bt_int rfl) pa_nil)))
      (pe_one (pe_not (pe_callB call_isinstance (by rfl) T.no_isinstance bt_isinstance (pa_cons (pv 0) (pa_cons (pe_bltn (v := .ty "bool") rfl T.no_bool bt_bool rfl) pa_nil))))))), ?_⟩
    refine ⟨_, rfl, _, _, _, _, _, rfl, rfl, .ty (.int i), kit_same K _, _, rfl, ?_⟩
    refine iteT ?_
    exact ⟨_, rfl, _, _, _, _, _, rfl, rfl, .ty (.int i), kit_int_bool K, _, rfl, q⟩
end
end Sp
namespace Sp
open PySem L2 Sw PyProof.Rows
section
variable {P : Program} {w : World} {K : PySem.W.Frag} {mg : Str → Option Value} {base : Heap}
/-! ### _law_same_pipes -/
def sp_same : Sp := fun vs H Q _ => ∃ (a b : Addr) (ps ds : List Pt), vs = [.ref a, .ref b] ∧ PipesAt H a ps ∧ PipesAt H b ds ∧ ps.length ≤ 1000 ∧ ds.length ≤ 1000 ∧ Q (.bl (decide (ps = ds))) H
theorem flat_pipe (p : Pt) : flatVs [V.int p.1, V.int p.2.1, V.bl p.2.2] := fun x hx => by
  simp at hx
  rcases hx with rfl | rfl | rfl <;> rfl
theorem eq_pipe (p q : Pt) : eqVs [V.int p.1, V.int p.2.1, V.bl p.2.2] [V.int q.1, V.int q.2.1, V.bl q.2.2] = decide (p = q) := by
  obtain ⟨a, b, c⟩ := p
  obtain ⟨a', b', c'⟩ := q
  show ((a == a') && ((b == b') && ((c == c') && true))) = decide ((a, b, c) = (a', b', c'))
  rw [Bool.eq_iff_iff]
  simp
theorem ok_same (T : TX K mg) : FnOk P w K mg base (CX1 P w) 2 T.f__law_same_pipes T.fd__law_same_pipes ["found", "due"] sp_same := by
  have Gw : FnOk P w K mg base (CX1 P w) 1 T.f__law_whole T.fd__law_whole ["found"] sp_whole := ok_whole T
  refine T.F__law_same_pipes.ok1 sc__law_same_pipes (fun vs H Q E h => ?_) (fun cdv A outer s H vs Q E hr h => ?_)
  · obtain ⟨a, b, ps, ds, rfl, _⟩ := h
    rfl
  · obtain ⟨a, b, ps, ds, rfl, hA, hB, la, lb, q⟩ := h
    refine ⟨_, pss_cons (ps_if (PW.pt (pw_or (pt_not (pt_val (pe_callB call_isinstance (by rfl) T.no_isinstance bt_isinstance (pa_cons (pv 0) (pa_cons (pe_bltn (v := .ty "list") rfl T.no_list bt_list rfl) pa_nil)))))
        (pw_or1 (pt_cmp (pc_neI (pe_callB call_len_seq (by rfl) T.no_len bt_len (pa_cons (pv 0) pa_nil)) (pe_callB call_len_seq (by rfl) T.no_len bt_len (pa_cons (pv 1) pa_nil))))))) (pss_one (ps_ret pe_bl)) pss_nil)
      (pss_cons (ps_for PassesOwn.never rfl (pi_range1 rfl T.no_range (pa_cons (pe_callB call_len_seq (by rfl) T.no_len bt_len (pa_cons (pv 1) pa_nil)) pa_nil)) (pg_name (i := 2) sc__law_same_pipes.nd rfl (Or.inl rfl))
        (pss_cons (ps_set (i := 3) sc__law_same_pipes.nd rfl (Or.inl rfl) (pe_ix ix_list (pv 0) (pv 2) (fun _ _ => rfl)))
        (pss_cons (ps_if (PW.pt (pw_or (pt_not (pt_val (pe_callB call_isinstance (by rfl) T.no_isinstance bt_isinstance (pa_cons (pv 3) (pa_cons (pe_bltn (v := .ty "tuple") rfl T.no_tuple bt_tuple rfl) pa_nil)))))
            (pw_or (pt_cmp (pc_neI (pe_callB call_len_seq (by rfl) T.no_len bt_len (pa_cons (pv 3) pa_nil)) pe_int))
            (pw_or1 (pt_not (pt_val (pe_callB call_isinstance (by rfl) T.no_isinstance bt_isinstance (pa_cons (pe_ix ix_tup (pv 3) pe_int (fun _ _ => rfl)) (pa_cons (pe_bltn (v := .ty "bool") rfl T.no_bool bt_bool rfl) pa_nil))))))))) (pss_one (ps_ret pe_bl)) pss_nil)
        (pss_one (ps_if (PW.pt (pw_or (pt_not (pt_val (pe_call Gw hr rfl T.mg__law_whole T.F__law_whole.kp T.b__law_whole .nil passN (pa_cons (pe_ix ix_tup (pv 3) pe_int (fun _ _ => rfl)) pa_nil))))
            (pw_or (pt_not (pt_val (pe_call Gw hr rfl T.mg__law_whole T.F__law_whole.kp T.b__law_whole .nil passN (pa_cons (pe_ix ix_tup (pv 3) pe_int (fun _ _ => rfl)) pa_nil))))
            (pw_or1 (pt_cmpR (op_neT hr.units0) (pv 3) (pe_ix ix_list (pv 1) (pv 2) (fun _ _ => rfl)) (nomark _)))))) (pss_one (ps_ret pe_bl)) pss_nil)))))
      (pss_one (ps_ret pe_bl))), ?_⟩
    obtain ⟨ts, ha, ta⟩ := id hA
    obtain ⟨us, hb, tb⟩ := id hB
    refine ⟨_, rfl, _, _, _, _, _, rfl, rfl, .ty (.lst ha), kit_same K _, _, rfl, ?_⟩
    refine iteF ?_
    refine ⟨_, rfl, a, _, rfl, .inl (SqL.of ha), _, rfl, b, _, rfl, .inl (SqL.of hb), _, _, rfl, rfl, _, rfl, ?_⟩
    rw [List.length_map, List.length_map, ta.len, tb.len]
    refine ite2 (fun c => ?_) (fun c => ?_)
    · have c0 : (ps.length : Int) ≠ ds.length := by simpa using c
      have : decide (ps = ds) = false := by simp; rintro rfl; exact c0 rfl
      rw [this] at q
      exact q
    · have c0 : ps.length = ds.length := by
        have z : (ps.length : Int) = ds.length := by simpa using c
        omega
      refine ⟨_, rfl, b, _, rfl, .inl (SqL.of hb), _, rfl, ?_, ?_, ?_⟩
      · omega
      · rw [List.length_map, tb.len]; omega
      rw [List.length_map, tb.len]
      refine for_range (n := ds.length) (fun i σ H2 => ∃ (x y : Option V), σ = [some (.ref a), some (.ref b), x, y] ∧ H2 = H ∧ ∀ j, j < i → ps[j]? = ds[j]?) ⟨none, none, rfl, rfl, fun j hj => by omega⟩ ?_ ?_
      · rintro i σ H2 hi ⟨x, y, rfl, rfl, he⟩
        have hip : i < ps.length := by omega
        obtain ⟨t, ht, et⟩ := ta.get (i := i) (p := ps[i]) (by simp [hip])
        obtain ⟨u, hu, eu⟩ := tb.get (i := i) (p := ds[i]) (by simp [hi])
        have a1 : atI (ts.map V.ref) (0 + (i : Int)) = some (.ref t) := by
          rw [Int.zero_add]
          exact atI_nat (by rw [List.getElem?_map, ht]; rfl)
        have b1 : atI (us.map V.ref) (0 + (i : Int)) = some (.ref u) := by
          rw [Int.zero_add]
          exact atI_nat (by rw [List.getElem?_map, hu]; rfl)
        refine ⟨_, rfl, _, rfl, a, _, _, _, rfl, rfl, SqL.of ha, a1, ?_⟩
        refine ⟨_, rfl, _, _, _, _, _, rfl, rfl, .ty (.tup et), kit_same K _, _, rfl, ?_⟩
        refine iteF ?_
        refine ⟨_, rfl, t, _, rfl, .inr (SqT.of et), _, 3, rfl, rfl, _, rfl, ?_⟩
        refine iteF ?_
        refine ⟨_, rfl, t, _, 2, _, rfl, rfl, SqT.of et, rfl, _, _, _, _, _, rfl, rfl, .ty (.bl _), kit_same K _, _, rfl, ?_⟩
        refine iteF ?_
        refine ⟨_, rfl, t, _, 0, _, rfl, rfl, SqT.of et, rfl, _, rfl, _, rfl, ?_⟩
        refine iteF ?_
        refine ⟨_, rfl, t, _, 1, _, rfl, rfl, SqT.of et, rfl, _, rfl, _, rfl, ?_⟩
        refine iteF ?_
        refine ⟨_, rfl, _, rfl, _, rfl, b, _, _, _, rfl, rfl, SqL.of hb, b1, t, u, _, _, rfl, rfl, SqT.of et, SqT.of eu, flat_pipe _, flat_pipe _, _, rfl, ?_⟩
        rw [eq_pipe]
        refine ite2 (fun c => ?_) (fun c => ?_)
        · have c1 : ps[i] ≠ ds[i] := by simpa using c
          have : decide (ps = ds) = false := by simp; rintro rfl; exact c1 rfl
          rw [this] at q
          exact q
        · have c1 : ps[i] = ds[i] := by simpa using c
          refine ⟨_, _, rfl, rfl, fun j hj => ?_⟩
          by_cases z : j = i
          · subst z; simp [hip, hi, c1]
          · exact he j (by omega)
      · rintro σ H2 ⟨x, y, rfl, rfl, he⟩
        have : ps = ds := List.ext_getElem? fun j => by
          by_cases z : j < ds.length
          · exact he j z
          · rw [List.getElem?_eq_none (by omega), List.getElem?_eq_none (by omega)]
        rw [decide_eq_true this] at q
        exact q
end
end Sp
namespace Sp
open PySem L2 Sw PyProof.Rows
section
variable {P : Program} {w : World} {K : PySem.W.Frag} {mg : Str → Option Value} {base : Heap}
/-! ### _law_pipe_by -/
def pipeBy (c n : Int) : Pt := (c % n, (c % n + 1 + c / n % (n - 1)) % n, !decide (c / 11 % 8 = 1))
theorem pipeBy_ok {c n : Int} (h : 2 ≤ n) : (0 ≤ (pipeBy c n).1 ∧ (pipeBy c n).1 < n) ∧ (0 ≤ (pipeBy c n).2.1 ∧ (pipeBy c n).2.1 < n) ∧ (pipeBy c n).1 ≠ (pipeBy c n).2.1 := by
  unfold pipeBy
  dsimp only
  have a0 := Int.emod_nonneg c (show n ≠ 0 by omega)
  have a1 := Int.emod_lt_of_pos c (show 0 < n by omega)
  have b0 := Int.emod_nonneg (c / n) (show n - 1 ≠ 0 by omega)
  have b1 := Int.emod_lt_of_pos (c / n) (show 0 < n - 1 by omega)
  generalize c % n = s at a0 a1 ⊢
  generalize c / n % (n - 1) = r at b0 b1 ⊢
  refine ⟨⟨a0, a1⟩, ⟨Int.emod_nonneg _ (by omega), Int.emod_lt_of_pos _ (by omega)⟩, ?_⟩
  by_cases z : s + 1 + r < n
  · rw [Int.emod_eq_of_lt (by omega) z]; omega
  · have e : (s + 1 + r) % n = s + 1 + r - n := by
      rw [← Int.sub_emod_right (s + 1 + r) n]
      exact Int.emod_eq_of_lt (by omega) (by omega)
    rw [e]; omega
def sp_pipe_by : Sp := fun vs H Q _ => ∃ (c n : Int), vs = [.int c, .int n] ∧ 2 ≤ n ∧ n ≤ 12 ∧ ∀ t, H t = none → Q (.ref t) (upd H t (tupOf (pipeBy c n)))
theorem ok_pipe_by (T : TX K mg) : FnOk P w K mg base (CX1 P w) 1 T.f__law_pipe_by T.fd__law_pipe_by ["cell", "size"] sp_pipe_by := by
  refine T.F__law_pipe_by.ok1 sc__law_pipe_by (fun vs H Q E h => ?_) (fun cdv A outer s H vs Q E hr h => ?_)
  · obtain ⟨c, n, rfl, _⟩ := h
    rfl
  · obtain ⟨c, n, rfl, n0, n1, q⟩ := h
    refine ⟨_, (pss_cons (ps_set (i := 2) sc__law_pipe_by.nd rfl (Or.inl rfl) (pe_op op_mod (pv 0) (pv 1)))
      (pss_cons (ps_set (i := 3) sc__law_pipe_by.nd rfl (Or.inl rfl) (pe_op op_mod (pe_op op_add (pe_op op_add (pv 2) pe_int) (pe_op op_mod (pe_op op_fdiv (pv 0) (pv 1)) (pe_op op_sub (pv 1) pe_int))) (pv 1)))
      (pss_one (ps_ret (pe_tup (pa_cons (pv 2) (pa_cons (pv 3) (pa_cons (pe_cmp (pc_neI (pe_op op_mod (pe_op op_fdiv (pv 0) pe_int) pe_int) pe_int)) pa_nil)))))))), ?_⟩
    refine ⟨_, rfl, _, rfl, c, n, rfl, rfl, (by show (0 : Int) < n; omega), ?_⟩
    refine ⟨_, rfl, _, _, rfl, rfl, _, rfl, _, rfl, c, n, rfl, rfl, ⟨by omega, by omega⟩, _, rfl, _, _, rfl, rfl, _, _, rfl, rfl, (by show (0 : Int) < n - 1; omega), _, _, rfl, rfl, _, rfl, _, n, rfl, rfl, (by show (0 : Int) < n; omega), ?_⟩
    exact ⟨_, rfl, _, rfl, _, rfl, _, _, rfl, rfl, ⟨by decide, by decide⟩, _, _, rfl, rfl, (by show (0 : Int) < 8; decide), _, _, rfl, rfl, (by show 3 ≤ sizeLine; decide), q⟩
end
end Sp
namespace Sp
open PySem L2 Sw PyProof.Rows
section
variable {P : Program} {w : World} {K : PySem.W.Frag} {mg : Str → Option Value} {base : Heap}
/-! ### _law_pipes_by -/
def pipesBy (ns : List Int) (f : Int) (m : Nat) (n : Int) : List Pt := if n < 2 then [] else (List.range m).map fun k : Nat => pipeBy (cell ns (f + k)) n
def sp_pipes_by (K : PySem.W.Frag) : Sp := fun vs H Q _ => ∃ (a : Addr) (ns : List Int) (f : Int) (m : Nat) (n : Int), vs = [.ref a, .int f, .int m, .int n] ∧ ScrAt K H a (ns.map V.int) ∧ 0 ≤ f ∧ m ≤ 60 ∧ n ≤ 12 ∧
  ∀ b H', H b = none → PipesAt H' b (pipesBy ns f m n) → Ext [] H H' → Q (.ref b) H'
theorem ok_pipes_by (T : TX K mg) : FnOk P w K mg base (CX1 P w) 2 T.f__law_pipes_by T.fd__law_pipes_by ["script", "first", "many", "size"] (sp_pipes_by K) := by
  have Gp : FnOk P w K mg base (CX1 P w) 1 T.f__law_pipe_by T.fd__law_pipe_by ["cell", "size"] sp_pipe_by := ok_pipe_by T
  have Gc : FnOk P w K mg base (CX1 P w) 1 T.f__law_cell_at T.fd__law_cell_at ["script", "k"] (sp_cell K) := ok_cell T
  refine T.F__law_pipes_by.ok1 sc__law_pipes_by (fun vs H Q E h => ?_) (fun cdv A outer s H vs Q E hr h => ?_)
  · obtain ⟨a, ns, f, m, n, rfl, _⟩ := h
    rfl
  · obtain ⟨a, ns, f, m, n, rfl, hS, hf, hm, hn, q⟩ := h
    refine ⟨_, (pss_cons (ps_if (pt_cmp (pc_lt (pv 3) pe_int)) (pss_one (ps_ret (pe_lst pa_nil))) pss_nil)
      (pss_one (ps_ret (pe_comp (locs := ["k"]) (caps := [0, 1, 3]) rfl ⟨by rfl, by decide +kernel, rfl, by decide +kernel, by exact ⟨rfl, rfl, rfl, trivial⟩, by rfl, by rfl⟩ (pi_range1 rfl T.no_range (pa_cons (pv 2) pa_nil)) (fun fp s3 H3 => pg_name (i := 0) (show (["k", "script", "first", "size"] : List Str).Nodup by decide +kernel) rfl (Or.inl rfl)) (fun fp s3 H3 => pts_nil)
          (fun fp s3 H3 => (pe_call Gp hr rfl T.mg__law_pipe_by T.F__law_pipe_by.kp T.b__law_pipe_by .nil passN (pa_cons (pe_call Gc hr rfl T.mg__law_cell_at T.F__law_cell_at.kp T.b__law_cell_at .nil passN (pa_cons (pv 1) (pa_cons (pe_op op_add (pv 2) (pv 0)) pa_nil))) (pa_cons (pv 3) pa_nil)))))))), ?_⟩
    refine ⟨_, rfl, n, 2, rfl, rfl, _, rfl, ?_⟩
    refine ite2 (fun c => ?_) (fun c => ?_)
    · have c0 := of_decide_eq_true c
      refine ⟨Nat.zero_le _, fun b hb => q b _ hb ?_ (Ext.new hb)⟩
      unfold pipesBy
      rw [if_pos c0]
      exact ⟨[], upd_same, .nil⟩
    · have c0 : ¬ n < 2 := fun z => c (decide_eq_true z)
      refine ⟨_, rfl, _, rfl, by omega, by omega, fun D hD => ?_⟩
      rw [Int.toNat_natCast]
      refine cl_range (n := m) (fun i σ' H' => ∃ (x : Option V) (ts : List Addr), σ' = [x, some (.ref a), some (.int f), some (.int n)] ∧ H' D = some (.lst (ts.map V.ref)) ∧ Tups H' ts ((List.range i).map fun k : Nat => pipeBy (cell ns (f + k)) n) ∧ Ext [] H H') ⟨none, [], rfl, upd_same, .nil, Ext.new hD⟩ ?_ ?_
      · rintro i σ' H' hi ⟨x, ts, rfl, hD', tt, ex⟩
        refine ⟨_, rfl, _, rfl, _, rfl, _, _, rfl, rfl, a, ns, _, rfl, (hS.ext ex).sq, (by omega), _, rfl, _, n, rfl, by omega, by omega, fun t ht => ?_⟩
        have nDt : D ≠ t := (fresh_ne hD' ht).symm
        have hlen : ts.length = i := by rw [tt.len, List.length_map, List.length_range]
        refine ⟨_, by rw [upd_ne nDt]; exact hD', small1000 (by rw [List.length_map]; omega), ?_⟩
        obtain ⟨P6, x6⟩ := pipes_push (pipeBy (cell ns (f + i)) n) hD' tt ht
        have e : (List.range (i + 1)).map (fun k : Nat => pipeBy (cell ns (f + k)) n) = ((List.range i).map fun k : Nat => pipeBy (cell ns (f + k)) n) ++ [pipeBy (cell ns (f + i)) n] := by rw [List.range_succ, List.map_append]; rfl
        rw [Int.zero_add]
        refine ⟨_, ts ++ [t], rfl, by rw [upd_same, List.map_append]; rfl, ?_, ex.over1 x6 hD⟩
        rw [e]
        refine Tups.snoc ?_ (tt.mono x6.tups)
        rw [upd_ne nDt.symm, upd_same]
      · rintro σ' H' ⟨x, ts, rfl, hD', tt, ex⟩
        refine q D H' hD ?_ ex
        unfold pipesBy
        rw [if_neg c0]
        exact ⟨ts, hD', tt⟩
end
end Sp

set_option Elab.async false
set_option linter.all false
set_option maxRecDepth 100000
namespace Sp
open PySem L2 Sw PyProof.Rows
section
variable {P : Program} {w : World} {K : PySem.W.Frag} {mg : Str → Option Value} {base : Heap}
/-! ### law -/
/-- a pipe that may be laid in a net of n places -/
def PtOk (n : Int) (x : Pt) : Prop := ((0 ≤ x.1 ∧ x.1 < n) ∧ 0 ≤ x.2.1 ∧ x.2.1 < n) ∧ x.1 ≠ x.2.1
abbrev lawDeep : Nat := 7
def sp_law (K : PySem.W.Frag) : Sp := fun vs H Q _ => ∃ (a : Addr) (ns : List Int), vs = [.ref a] ∧ SqL K H a (ns.map V.int) ∧ ns.length ≤ 63 ∧ Only H ∧ ∀ H', Q (.bl true) H'
theorem pipesBy_ok {ns : List Int} {f n : Int} {m : Nat} : ∀ x ∈ pipesBy ns f m n, PtOk n x := fun x hx => by
  unfold pipesBy at hx
  split at hx
  · simp at hx
  · obtain ⟨k, _, rfl⟩ := List.mem_map.mp hx
    have h := pipeBy_ok (c := cell ns (f + k)) (n := n) (by omega)
    exact ⟨⟨h.1, h.2.1⟩, h.2.2⟩
theorem pipesBy_len {ns : List Int} {f n : Int} {m : Nat} : (pipesBy ns f m n).length ≤ m := by
  unfold pipesBy
  split
  · simp
  · rw [List.length_map, List.length_range]
    exact Nat.le_refl _
def DueV (H : Hp) (dv : V) (ls : List Str) : Prop := (∃ (n : Nat) (ps : List Pt) (t c : Addr), dv = .ref t ∧ Due ls n ps ∧ H t = some (.tup [.int n, .ref c]) ∧ PipesAt H c ps) ∨ (dv = .non ∧ ∀ n ps, ¬ Due ls n ps)
theorem due_uniq {ls : List Str} {n n' : Nat} {ps ps' : List Pt} (h : Due ls n ps) (h' : Due ls n' ps') : n = n' ∧ ps = ps' := by
  obtain ⟨l, r, e, a, b, _⟩ := h
  obtain ⟨l', r', e', a', b', _⟩ := h'
  rw [e] at e'
  cases e'
  rw [a] at a'
  cases a'
  rw [b] at b'
  exact ⟨rfl, List.map_inj_right (fun x y z => Option.some.inj z) |>.mp b'⟩
theorem due_len {ls : List Str} {n : Nat} {ps : List Pt} (h : Due ls n ps) : ps.length ≤ 60 := by
  obtain ⟨l, r, e, a, b, c⟩ := h
  have := congrArg List.length b
  rw [List.length_map, List.length_map] at this
  omega
theorem join_bd {ms : List Str} (h : Lns ms) : ((ms.map fun l => l ++ nl).map (·.length)).sum + (ms.map fun l => l ++ nl).length * (Str.ofString "").length ≤ 1000000 := by
  have z : (Str.ofString "").length = 0 := by decide +kernel
  rw [z, Nat.mul_zero, Nat.add_zero]
  have nn1 : nl.length = 1 := by decide +kernel
  have e : ∀ {ms : List Str}, (∀ l ∈ ms, Ln l) → ((ms.map fun l => l ++ nl).map (·.length)).sum ≤ ms.length * 41 := fun {ms} h => by
    induction ms with
    | nil => simp
    | cons l ms ih =>
      have a := ih fun x hx => h x (by simp [hx])
      have b := (h l (by simp)).2
      rw [List.map_cons, List.map_cons, List.sum_cons, Str.length_append, nn1, List.length_cons]
      omega
  have a := e h.1
  have b := h.2
  omega
set_option maxHeartbeats 0 in
theorem ok_law (T : TX K mg) : FnOk P w K mg base (CX1 P w) lawDeep T.f_law T.fd_law ["script"] (sp_law K) := by
  have G__law_pipes_by : FnOk P w K mg base (CX1 P w) 2 T.f__law_pipes_by T.fd__law_pipes_by ["script", "first", "many", "size"] (sp_pipes_by K) := ok_pipes_by T
  have G__law_due : FnOk P w K mg base (CX1 P w) 3 T.f__law_due T.fd__law_due ["lines"] sp_ldue := ok_ldue T
  have G_Net_size : FnOk P w K mg base (CX1 P w) 1 T.f_Net_size T.fd_Net_size ["self"] (sp_size T.a_Net) := ok_size T
  have G__law_cell_at : FnOk P w K mg base (CX1 P w) 1 T.f__law_cell_at T.fd__law_cell_at ["script", "k"] (sp_cell K) := ok_cell T
  have G__law_spoiled : FnOk P w K mg base (CX1 P w) 2 T.f__law_spoiled T.fd__law_spoiled ["lines", "cell"] sp_spoil := ok_spoil T
  have G_read : FnOk P w K mg base (CX1 P w) 6 T.f_read T.fd_read ["text"] (sp_read T.a_Net T.a_NoNet) := ok_read T
  have G__law_whole : FnOk P w K mg base (CX1 P w) 1 T.f__law_whole T.fd__law_whole ["found"] sp_whole := ok_whole T
  have G__law_same_pipes : FnOk P w K mg base (CX1 P w) 2 T.f__law_same_pipes T.fd__law_same_pipes ["found", "due"] sp_same := ok_same T
  have G__law_line : FnOk P w K mg base (CX1 P w) 1 T.f__law_line T.fd__law_line ["pipe"] sp_line := ok_line T
  have G_Net_pipes : FnOk P w K mg base (CX1 P w) 1 T.f_Net_pipes T.fd_Net_pipes ["self"] (sp_pipes T.a_Net) := ok_pipes T
  refine T.F_law.ok1 sc_law (fun vs H Q E h => ?_) (fun cdv A outer s H vs Q E hr h => ?_)
  · obtain ⟨a, ns, rfl, _⟩ := h
    rfl
  · obtain ⟨a, ns, rfl, hS0, hlen, ho, q⟩ := h
    refine ⟨_, (pss_cons (ps_set (i := 1) sc_law.nd rfl (Or.inl rfl) (pe_op op_add pe_int (pe_op op_mod (pe_call G__law_cell_at (hr.mono (by decide)) rfl T.mg__law_cell_at T.F__law_cell_at.kp T.b__law_cell_at .nil passN (pa_cons (pv 0) (pa_cons pe_int pa_nil))) pe_int)))
      (pss_cons (ps_set (i := 2) sc_law.nd rfl (Or.inl rfl) (pe_op op_mod (pe_call G__law_cell_at (hr.mono (by decide)) rfl T.mg__law_cell_at T.F__law_cell_at.kp T.b__law_cell_at .nil passN (pa_cons (pv 0) (pa_cons pe_int pa_nil))) pe_int))
      (pss_cons (ps_if (pt_cmp (pc_eqI (pe_op op_mod (pe_op op_fdiv (pe_call G__law_cell_at (hr.mono (by decide)) rfl T.mg__law_cell_at T.F__law_cell_at.kp T.b__law_cell_at .nil passN (pa_cons (pv 0) (pa_cons pe_int pa_nil))) pe_int) pe_int) pe_int)) (pss_one (ps_set (i := 2) sc_law.nd rfl (Or.inl rfl) pe_int)) pss_nil)
      (pss_cons (ps_set (i := 3) sc_law.nd rfl (Or.inl rfl) (pe_call G__law_pipes_by (hr.mono (by decide)) rfl T.mg__law_pipes_by T.F__law_pipes_by.kp T.b__law_pipes_by .nil passN (pa_cons (pv 0) (pa_cons pe_int (pa_cons (pv 2) (pa_cons (pv 1) pa_nil))))))
      (pss_cons (ps_set (i := 4) sc_law.nd rfl (Or.inl rfl) (pe_op op_cat (pe_lst (pa_cons (pe_op op_add_str pe_str (pe_callTy call_str_int (by rfl) T.no_str bt_str (pa_cons (pv 1) pa_nil))) pa_nil)) (pe_comp (locs := ["pipe"]) (caps := []) rfl ⟨by rfl, by decide +kernel, rfl, by decide +kernel, by exact trivial, by rfl, by rfl⟩ (pi_list (pv 3)) (fun fp s3 H3 => (pg_name (i := 0) (show (["pipe"] : List Str).Nodup by decide +kernel) rfl (Or.inl rfl))) (fun fp s3 H3 => pts_nil)
          (fun fp s3 H3 => (pe_call G__law_line (hr.mono (by decide)) rfl T.mg__law_line T.F__law_line.kp T.b__law_line .nil passN (pa_cons (pv 0) pa_nil))))))
      (pss_cons (ps_set (i := 5) sc_law.nd rfl (Or.inl rfl) (pe_op op_mod (pe_call G__law_cell_at (hr.mono (by decide)) rfl T.mg__law_cell_at T.F__law_cell_at.kp T.b__law_cell_at .nil passN (pa_cons (pv 0) (pa_cons pe_int pa_nil))) (pe_op op_pow pe_int pe_int)))
      (pss_cons (ps_if (pt_cmp (pc_gt (pe_op op_mod (pv 5) pe_int) pe_int)) (pss_one (ps_set (i := 4) sc_law.nd rfl (Or.inl rfl) (pe_call G__law_spoiled (hr.mono (by decide)) rfl T.mg__law_spoiled T.F__law_spoiled.kp T.b__law_spoiled .nil passN (pa_cons (pv 4) (pa_cons (pe_op op_fdiv (pv 5) pe_int) pa_nil))))) pss_nil)
      (pss_cons (ps_set (i := 6) sc_law.nd rfl (Or.inl rfl) (pe_bm PySem.F.plainAttrs_str PySem.F.slot_str_join PySem.F.type_str_join (joinK K) pe_str (pa_cons (pe_comp (locs := ["line"]) (caps := []) rfl ⟨by rfl, by decide +kernel, rfl, by decide +kernel, by exact trivial, by rfl, by rfl⟩ (pi_list (pv 4)) (fun fp s3 H3 => (pg_name (i := 0) (show (["line"] : List Str).Nodup by decide +kernel) rfl (Or.inl rfl))) (fun fp s3 H3 => pts_nil)
          (fun fp s3 H3 => (pe_op op_add_str (pv 0) pe_str))) pa_nil)))
      (pss_cons (ps_set (i := 7) sc_law.nd rfl (Or.inl rfl) (pe_call G__law_due (hr.mono (by decide)) rfl T.mg__law_due T.F__law_due.kp T.b__law_due .nil passN (pa_cons (pv 4) pa_nil)))
      (pss_cons (ps_if (PW.pt (pw_and (pt_cmp (pc_eqI (pe_op op_mod (pv 5) pe_int) pe_int)) (pw_and1 (pt_cmp (pc_eqI (pe_op op_mod (pe_op op_fdiv (pv 5) pe_int) pe_int) pe_int))))) (pss_cons (ps_set (i := 6) sc_law.nd rfl (Or.inl rfl) (pe_slice sl_str (pv 6) po_none (po_some (pe_un un_neg pe_int))))
      (pss_one (ps_set (i := 7) sc_law.nd rfl (Or.inl rfl) pe_non))) pss_nil)
      (pss_cons (ps_set (i := 8) sc_law.nd rfl (Or.inl rfl) pe_non)
      (pss_cons (ps_set (i := 9) sc_law.nd rfl (Or.inl rfl) (pe_lst pa_nil))
      (pss_cons (ps_try_as (j := 10) rfl rfl rfl T.er_NetError rfl T.mg_NetError sc_law.nd rfl rfl (psx_set (i := 8) sc_law.nd rfl (Or.inl rfl) (pex_call rfl G_read (hr.mono (by decide)) rfl T.mg_read T.F_read.kp T.b_read (pa_cons (pv 6) pa_nil)))
        (fun ea => (pss_cons (ps_set (i := 9) sc_law.nd rfl (Or.inl rfl) (pe_lst (pa_cons (pe_callB (isiK K) (by rfl) T.no_isinstance bt_isinstance (pa_cons (pv 10) (pa_cons (pe_glob (v := .ref T.a_NoNet) rfl T.mg_NoNet rfl) pa_nil))) (pa_cons (pe_callB (isiK K) (by rfl) T.no_isinstance bt_isinstance (pa_cons (pv 10) (pa_cons (pe_bltn (v := .ty "ValueError") rfl T.no_ValueError bt_ValueError rfl) pa_nil))) (pa_cons (pe_callB (isiK K) (by rfl) T.no_isinstance bt_isinstance (pa_cons (pv 10) (pa_cons (pe_glob (v := .ref T.a_NoPlace) rfl T.mg_NoPlace rfl) pa_nil))) pa_nil)))))
      (pss_one (ps_set (i := 9) sc_law.nd rfl (Or.inl rfl) (pe_op op_cat (pv 9) (pe_lst (pa_cons (pe_callB (isiK K) (by rfl) T.no_isinstance bt_isinstance (pa_cons (pv 10) (pa_cons (pe_glob (v := .ref T.a_NoPipe) rfl T.mg_NoPipe rfl) pa_nil))) (pa_cons (pe_callB (isiK K) (by rfl) T.no_isinstance bt_isinstance (pa_cons (pv 10) (pa_cons (pe_glob (v := .ref T.a_SamePlace) rfl T.mg_SamePlace rfl) pa_nil))) (pa_cons (pe_callB (isiK K) (by rfl) T.no_isinstance bt_isinstance (pa_cons (pv 10) (pa_cons (pe_glob (v := .ref T.a_TooMuch) rfl T.mg_TooMuch rfl) pa_nil))) pa_nil))))))))))
      (pss_cons (ps_if (pt_cmp (pc_isN (pv 7))) (pss_one (ps_ret (pe_cmpR (eqLK K hr.units0) (pv 9) (pe_lst (pa_cons pe_bl (pa_cons pe_bl (pa_cons pe_bl (pa_cons pe_bl (pa_cons pe_bl (pa_cons pe_bl pa_nil))))))) (nomark _)))) pss_nil)
      (pss_cons (ps_if (pt_cmpR (neLK K hr.units0) (pv 9) (pe_lst pa_nil) (nomark _)) (pss_one (ps_ret pe_bl)) pss_nil)
      (pss_cons (ps_set (i := 11) sc_law.nd rfl (Or.inl rfl) (pe_meth0 (pv 8) T.cl_Net T.m_Net_size G_Net_size (hr.mono (by decide)) T.b_Net_size .nil passN))
      (pss_one (ps_ret (pe_and (pe_call G__law_whole (hr.mono (by decide)) rfl T.mg__law_whole T.F__law_whole.kp T.b__law_whole .nil passN (pa_cons (pv 11) pa_nil)) (pe_and (pe_cmp (pc_eqI (pv 11) (pe_ix (ixT K) (pv 7) pe_int (fun _ _ => rfl)))) (pe_one (pe_call G__law_same_pipes (hr.mono (by decide)) rfl T.mg__law_same_pipes T.F__law_same_pipes.kp T.b__law_same_pipes .nil passN (pa_cons (pe_meth0 (pv 8) T.cl_Net T.m_Net_pipes G_Net_pipes (hr.mono (by decide)) T.b_Net_pipes .nil passN) (pa_cons (pe_ix (ixT K) (pv 7) pe_int (fun _ _ => rfl)) pa_nil)))))))))))))))))))))))), ?_⟩
    have hS := ScrAt.of ho hS0
    refine ⟨_, rfl, a, ns, 0, rfl, hS.sq, by decide, _, _, rfl, rfl, (by show (0 : Int) < 12; decide), _, _, rfl, rfl, ?_⟩
    have s0 := Int.emod_nonneg (cell ns 0) (show (12 : Int) ≠ 0 by omega)
    have s1 := Int.emod_lt_of_pos (cell ns 0) (show 0 < (12 : Int) by omega)
    obtain ⟨n, hn⟩ : ∃ n : Nat, 1 + cell ns 0 % 12 = n := ⟨(1 + cell ns 0 % 12).toNat, by omega⟩
    dsimp only [gName]
    rw [hn]
    have n0 : 1 ≤ n := by omega
    have n1 : n ≤ 12 := by omega
    clear hn s0 s1
    refine ⟨_, rfl, a, ns, 1, rfl, hS.sq, by decide, _, _, rfl, rfl, (by show (0 : Int) < 9; decide), ?_⟩
    have s0 := Int.emod_nonneg (cell ns 1) (show (9 : Int) ≠ 0 by omega)
    have s1 := Int.emod_lt_of_pos (cell ns 1) (show 0 < (9 : Int) by omega)
    obtain ⟨m0, hm0⟩ : ∃ m : Nat, cell ns 1 % 9 = m := ⟨(cell ns 1 % 9).toNat, by omega⟩
    dsimp only [gName]
    rw [hm0]
    have m9 : m0 ≤ 60 := by omega
    clear hm0 s0 s1
    refine seq_mid (t := tIfS _ _ _) (fun σ' H' => ∃ m : Nat, m ≤ 60 ∧ σ' = [some (.ref a), some (.int n), some (.int m), none, none, none, none, none, none, none, none, none] ∧ H' = H) (fun R hR => ?_) ?_
    · refine ⟨_, rfl, a, ns, 1, rfl, hS.sq, by decide, _, _, rfl, rfl, ⟨by decide, by decide⟩, _, _, rfl, rfl, (by show (0 : Int) < 8; decide), _, _, rfl, rfl, _, rfl, ?_⟩
      refine ite2 (fun _ => ?_) (fun _ => ?_)
      · exact hR _ _ ⟨60, by decide, rfl, rfl⟩
      · exact hR _ _ ⟨m0, m9, rfl, rfl⟩
    rintro σ' H0 ⟨m, m60, rfl, rfl⟩
    clear m9 m0
    refine ⟨_, rfl, _, rfl, _, rfl, a, ns, 4, m, n, rfl, hS, by decide, m60, by omega, fun c H1 hc P1 x1 => ?_⟩
    have okp := pipesBy_ok (ns := ns) (f := 4) (n := (n : Int)) (m := m)
    have lenp := pipesBy_len (ns := ns) (f := 4) (n := (n : Int)) (m := m)
    generalize pipesBy ns 4 m (n : Int) = ps at okp lenp P1
    have lp : ps.length ≤ 60 := by omega
    have okp : ∀ x ∈ ps, Sw.Ok n x := okp
    clear lenp hc m60
    have hS1 := hS.ext x1
    dsimp only [gName]
    obtain ⟨ts, hc, tt⟩ := id P1
    have fn := (fg_ok (i := (n : Int)) (by omega) (by omega)).2.2
    have p7 : ("places " : Str).length ≤ 7 := by decide +kernel
    have sn : Small (n : Int) := small_of (by clear fn p7; omega) (by clear fn p7; omega)
    have l1 : ("places " : Str).length + (fg n).length ≤ sizeLine := by rw [sizeLine_eq]; exact Nat.le_trans (Nat.add_le_add p7 fn) (by decide)
    have e1 : ("places " : Str) ++ fg n = hdL n := by
      unfold hdL
      have : ("places " : Str) = ("places" : Str) ++ (" " : Str) := by decide +kernel
      rw [this]
    refine seq_mid (t := tAsg _ _) (fun σ' H' => ∃ L : Addr, σ' = [some (.ref a), some (.int n), some (.int m), some (.ref c), some (.ref L), none, none, none, none, none, none, none] ∧ H' L = some (.lst ((netL n ps).map V.str)) ∧ Ext [] H1 H') (fun R hR => ?_) ?_
    · refine ⟨_, rfl, _, rfl, sn, _, _, rfl, rfl, l1, by show 1 ≤ sizeLine; decide, fun m1 hm1 => ?_⟩
      rw [e1]
      clear l1 e1 p7 fn sn
      have x2 : Ext [] H1 (upd H1 m1 (.lst [.str (hdL n)])) := Ext.new hm1
      have M1 : upd H1 m1 (.lst [.str (hdL n)]) m1 = some (.lst [.str (hdL n)]) := upd_same
      have hc2 := x2.keep _ _ hc (by simp)
      generalize upd H1 m1 (.lst [.str (hdL n)]) = H2 at x2 M1 hc2 ⊢
      refine ⟨_, rfl, c, rfl, ⟨_, SqL.of hc2⟩, fun D hD => ?_⟩
      refine cl_list (K := K) (a := c) (xs := ts.map V.ref) (fun i σ' H' => ∃ x : Option V, σ' = [x] ∧ H' D = some (.lst (((ps.take i).map lnL).map V.str)) ∧ Ext [] H2 H') ⟨none, rfl, upd_same, Ext.new hD⟩ ?_ ?_ ?_
      · rintro i σ' H' _ ⟨x, rfl, _, ex⟩
        exact SqL.of (ex.keep _ _ hc2 (by simp))
      · rintro i y σ' H' hy ⟨x, rfl, hD', ex⟩
        have hi : i < ps.length := by
          have := (List.getElem?_eq_some_iff.mp hy).1
          rw [List.length_map, tt.len] at this
          exact this
        obtain ⟨t, ht, et⟩ := tt.get (i := i) (p := ps[i]) (by simp [hi])
        obtain rfl : y = .ref t := by
          rw [List.getElem?_map, ht] at hy
          exact (Option.some.inj hy).symm
        refine ⟨_, rfl, t, n, ps[i], rfl, ex.tups _ _ (x2.tups _ _ et), okp _ (List.getElem_mem hi), n1, fun H4 x4 => ⟨_, x4.keep _ _ hD' (by simp), small1000 (by rw [List.length_map, List.length_map, List.length_take]; omega), _, rfl, ?_, (ex.trans x4).over1 (Ext.putL (x4.keep _ _ hD' (by simp)) (by simp)) hD⟩⟩
        rw [upd_same, List.take_add_one, List.getElem?_eq_getElem hi, List.map_append, List.map_append]
        rfl
      · rintro σ' H' ⟨x, rfl, hD', ex⟩
        rw [List.length_map, tt.len, List.take_length] at hD'
        have lc : [V.str (hdL n)].length + ((ps.map lnL).map V.str).length ≤ sizeLine := by rw [List.length_map, List.length_map, sizeLine_eq]; simp; omega
        refine ⟨m1, D, _, _, rfl, rfl, ex.keep _ _ M1 (by simp), hD', lc, fun b hb => hR _ _ ⟨b, rfl, ?_, (x2.trans ex).trans (Ext.new hb)⟩⟩
        rw [upd_same]
        rfl
    rintro σ' H2 ⟨L, rfl, hL, x2⟩
    have hS2 := hS1.ext x2
    have y2 := x1.trans x2
    clear P1 hc tt hS1 x1 x2 l1 e1 p7 fn sn hS
    have okL : ∀ l ∈ netL n ps, Lm l := fun l hl => by
      rcases List.mem_cons.mp hl with rfl | h
      · exact hd_ok14 n1
      · obtain ⟨x, hx, rfl⟩ := List.mem_map.mp h
        exact ln_ok14 (okp x hx) n1
    have lenL : (netL n ps).length ≤ 61 := by
      show (hdL n :: ps.map lnL).length ≤ 61
      rw [List.length_cons, List.length_map]
      omega
    have neL : netL n ps ≠ [] := by unfold netL; simp
    generalize netL n ps = ls0 at hL okL lenL neL
    clear okp lp n0 n1
    refine ⟨_, rfl, a, ns, 2, rfl, hS2.sq, by decide, _, _, rfl, rfl, ⟨by decide, by decide, by decide⟩, _, _, rfl, rfl, (by show (0 : Int) < 10 ^ (9 : Int).toNat; decide), ?_⟩
    dsimp only [gName]
    generalize cell ns 2 % 10 ^ (9 : Int).toNat = q0
    refine seq_mid (t := tIfS _ _ _) (fun σ' H' => ∃ (b : Addr) (ms : List Str), σ' = [some (.ref a), some (.int n), some (.int m), some (.ref c), some (.ref b), some (.int q0), none, none, none, none, none, none] ∧ H' b = some (.lst (ms.map V.str)) ∧ Lns ms ∧ (q0 % 3 = 2 → q0 / 3 % 9 = 8 → ms = ls0 ++ [("pipe 0 1" : Str)]) ∧ Ext [] H0 H') (fun R hR => ?_) ?_
    · refine ⟨_, rfl, _, _, rfl, rfl, (by show (0 : Int) < 3; decide), _, _, rfl, rfl, _, rfl, ?_⟩
      by_cases c3 : 0 < q0 % 3
      · refine ifT c3 ⟨_, rfl, _, rfl, _, _, rfl, rfl, ⟨by decide, by decide⟩, L, ls0, q0 / 3, rfl, hL, neL, okL, lenL, fun b ms H' h1 h2 h3 h4 => hR _ _ ⟨b, ms, rfl, h3, h1, fun _ z => h2 z, y2.trans h4⟩⟩
      · exact ifF c3 (hR _ _ ⟨L, ls0, rfl, hL, ⟨fun l hl => (okL l hl).ln, by omega⟩, fun z => by omega, y2⟩)
    rintro σ' H3 ⟨b, ms, rfl, hb, okm, lastm, y3⟩
    clear hL y2 hS2 okL
    refine seq_mid (t := tAsg _ _) (fun σ' H' => σ' = [some (.ref a), some (.int n), some (.int m), some (.ref c), some (.ref b), some (.int q0), some (.str (txtL ms)), none, none, none, none, none] ∧ Ext [] H3 H') (fun R hR => ?_) ?_
    · refine ⟨rfl, _, rfl, b, rfl, ⟨_, SqL.of hb⟩, fun D hD => ?_⟩
      refine cl_list (K := K) (a := b) (xs := ms.map V.str) (fun i σ' H' => ∃ x : Option V, σ' = [x] ∧ H' D = some (.lst (((ms.take i).map fun l => l ++ nl).map V.str)) ∧ Ext [] H3 H') ⟨none, rfl, upd_same, Ext.new hD⟩ ?_ ?_ ?_
      · rintro i σ' H' _ ⟨x, rfl, _, ex⟩
        exact SqL.of (ex.keep _ _ hb (by simp))
      · rintro i y σ' H' hy ⟨x, rfl, hD', ex⟩
        rw [List.getElem?_map] at hy
        have hi : i < ms.length := by
          cases z : ms[i]? with
          | none => rw [z] at hy; cases hy
          | some x => exact (List.getElem?_eq_some_iff.mp z).1
        rw [List.getElem?_eq_getElem hi] at hy
        obtain rfl : y = .str ms[i] := (Option.some.inj hy).symm
        have lm := (okm.1 ms[i] (List.getElem_mem hi)).len
        have ll : ms[i].length + ("\n" : Str).length ≤ sizeLine := by rw [sizeLine_eq]; exact Nat.le_trans (Nat.add_le_add lm lnl) (by decide)
        have l70 := okm.2
        have lt : ((((ms.take i).map fun l => l ++ nl).map V.str)).length < sizeLine := small1000 (by rw [List.length_map, List.length_map, List.length_take]; clear lm ll; omega)
        refine ⟨_, rfl, _, _, rfl, rfl, ll, _, hD', lt, _, rfl, ?_, ex.over1 (Ext.putL hD' (by simp)) hD⟩
        clear lm ll lt
        rw [upd_same, List.take_add_one, List.getElem?_eq_getElem hi, List.map_append, List.map_append]
        rfl
      · rintro σ' H' ⟨x, rfl, hD', ex⟩
        rw [List.length_map, List.take_length] at hD'
        refine ⟨_, _, _, rfl, rfl, SqL.of hD', join_bd okm, ?_⟩
        have e3 : Str.join (Str.ofString "") (ms.map fun l => l ++ nl) = txtL ms := by
          rw [show (Str.ofString "" : Str) = Str.empty by decide +kernel]
          exact txtL_join ms
        rw [e3]
        exact hR _ _ ⟨rfl, ex⟩
    rintro σ' H4 ⟨rfl, x4⟩
    have hb4 := x4.keep _ _ hb (by simp)
    have y4 := y3.trans x4
    clear hb x4 y3
    refine seq_mid (t := tAsg _ _) (fun σ' H' => ∃ dv : V, σ' = [some (.ref a), some (.int n), some (.int m), some (.ref c), some (.ref b), some (.int q0), some (.str (txtL ms)), some dv, none, none, none, none] ∧ DueV H' dv ms ∧ Ext [] H0 H') (fun R hR => ?_) ?_
    · exact ⟨_, rfl, b, ms, rfl, hb4, okm, fun n' ps' du t c' H' ht P' x' => hR _ _ ⟨_, rfl, .inl ⟨n', ps', t, c', rfl, du, ht, P'⟩, y4.trans x'⟩, fun nd H' x' => hR _ _ ⟨_, rfl, .inr ⟨rfl, nd⟩, y4.trans x'⟩⟩
    rintro σ' H5 ⟨dv, rfl, hdv, y5⟩
    clear hb4 y4
    have tl := txtL_len okm
    refine seq_mid (t := tIfS _ _ _) (fun σ' H' => ∃ (v : Str) (dv : V) (ls : List Str) (z : Str), σ' = [some (.ref a), some (.int n), some (.int m), some (.ref c), some (.ref b), some (.int q0), some (.str v), some dv, none, none, none, none] ∧ v.length ≤ 3000 ∧ Txt.split v nl = ls ++ [z] ∧ Lns ls ∧ ((z = Str.empty ∧ DueV H' dv ls) ∨ (z ≠ Str.empty ∧ dv = .non)) ∧ Ext [] H0 H') (fun R hR => ?_) ?_
    · have stay : R [some (.ref a), some (.int n), some (.int m), some (.ref c), some (.ref b), some (.int q0), some (.str (txtL ms)), some dv, none, none, none, none] H5 := hR _ _ ⟨_, dv, ms, Str.empty, rfl, tl, split_lines okm.1, okm, .inl ⟨rfl, hdv⟩, y5⟩
      refine ⟨_, rfl, _, _, rfl, rfl, (by show (0 : Int) < 3; decide), _, _, rfl, rfl, _, rfl, ?_⟩
      by_cases c2 : q0 % 3 = 2
      · refine ifT c2 ⟨_, rfl, _, _, rfl, rfl, ⟨by decide, by decide⟩, _, _, rfl, rfl, (by show (0 : Int) < 9; decide), _, _, rfl, rfl, _, rfl, ?_⟩
        by_cases c8 : q0 / 3 % 9 = 8
        · refine ifT c8 ⟨_, rfl, 1, rfl, _, rfl, _, rfl, len_small tl (by decide), ?_⟩
          dsimp only [gName]
          have em := lastm c2 c8
          have nem : ms ≠ [] := by rw [em]; simp
          have sc := split_cut nem okm.1
          have clen := cut_len okm none (some (-1))
          have sc2 : Txt.split (cutS (txtL ms) none (some (-1))) nl = ls0 ++ [("pipe 0 1" : Str)] := by rw [sc, em]
          exact hR _ _ ⟨_, .non, ls0, ("pipe 0 1" : Str), rfl, clen, sc2, ⟨fun l hl => okm.1 l (by rw [em]; simp [hl]), by omega⟩, .inr ⟨by decide +kernel, rfl⟩, y5⟩
        · exact ifF c8 stay
      · exact ifF c2 (iteF stay)
    rintro σ' H6 ⟨v, dv, ls, z, rfl, vl, spl, okl, cs, y6⟩
    clear hdv y5 tl okm lastm
    refine ⟨Nat.zero_le _, fun mk hmk => ?_⟩
    have x7 : Ext [] H6 (upd H6 mk (.lst [])) := Ext.new hmk
    have K7 : upd H6 mk (.lst []) mk = some (.lst []) := upd_same
    generalize upd H6 mk (.lst []) = H7 at x7 K7 ⊢
    dsimp only [gName]
    refine seq_mid (t := tTryAs _ _ _ _ _) (fun σ' H' => (∃ (p l : Addr) (n' : Nat) (ps' : List Pt) (t c' : Addr), σ' = [some (.ref a), some (.int n), some (.int m), some (.ref c), some (.ref b), some (.int q0), some (.str v), some (.ref t), some (.ref p), some (.ref mk), none, none] ∧ NetAt T.a_Net H' p l n' ps' ∧ H' t = some (.tup [.int n', .ref c']) ∧ PipesAt H' c' ps' ∧ H' mk = some (.lst []) ∧ ps'.length ≤ 60) ∨
      ∃ (m' : Addr) (y : Option V), σ' = [some (.ref a), some (.int n), some (.int m), some (.ref c), some (.ref b), some (.int q0), some (.str v), some .non, y, some (.ref m'), none, none] ∧ H' m' = some (.lst [.bl true, .bl true, .bl false, .bl false, .bl false, .bl false])) (fun R hR => ?_) ?_
    · refine ⟨_, rfl, v, ls, z, rfl, vl, spl, okl, fun cz => ⟨fun n' ps' du p l H' hp hl N x => ?_, fun nd o H' x => ?_⟩, fun cz o H' x => ?_⟩
      · rcases cs with ⟨_, dd⟩ | ⟨h, _⟩
        · rcases dd with ⟨n2, ps2, t, c', rfl, du2, ht, P⟩ | ⟨_, nd⟩
          · obtain ⟨rfl, rfl⟩ := due_uniq du du2
            have xx := x7.trans x
            exact hR _ _ (.inl ⟨p, l, n', ps', t, c', rfl, N, xx.tups _ _ ht, P.ext xx (by simp), x.keep _ _ K7 (by simp), due_len du⟩)
          · exact absurd du (nd _ _)
        · exact absurd cz h
      · rcases cs with ⟨_, dd⟩ | ⟨h, _⟩
        · rcases dd with ⟨n2, ps2, t, c', rfl, du2, ht, P⟩ | ⟨rfl, _⟩
          · exact absurd du2 (nd _ _)
          · refine ⟨T.a_NoNet, rfl, T.sub_NoNet_NetError, fun ea hea => ?_⟩
            have X0 : (upd H' ea (HO.exc ea T.a_NoNet)) ea = some (HO.exc ea T.a_NoNet) := upd_same
            generalize upd H' ea (HO.exc ea T.a_NoNet) = J0 at X0 ⊢
            refine ⟨_, rfl, _, _, _, _, _, rfl, rfl, .exc X0 T.xc_NoNet, T.is_NoNet_NoNet, _, rfl, _, _, _, _, _, rfl, rfl, .exc X0 T.xc_NoNet, T.is_NoNet_ValueError, _, rfl, _, _, _, _, _, rfl, rfl, .exc X0 T.xc_NoNet, T.is_NoNet_NoPlace, (by show 3 ≤ sizeLine; decide), fun m1 hm1 => ?_⟩
            have X1 := (Ext.new (S := []) (o := .lst [.bl true, .bl true, .bl false]) hm1).keep _ _ X0 (by simp)
            have M1 : upd J0 m1 (.lst [.bl true, .bl true, .bl false]) m1 = some (.lst [.bl true, .bl true, .bl false]) := upd_same
            generalize upd J0 m1 (.lst [.bl true, .bl true, .bl false]) = J1 at X1 M1 ⊢
            dsimp only [gName]
            refine ⟨_, rfl, _, rfl, _, _, _, _, _, rfl, rfl, .exc X1 T.xc_NoNet, T.is_NoNet_NoPipe, _, rfl, _, _, _, _, _, rfl, rfl, .exc X1 T.xc_NoNet, T.is_NoNet_SamePlace, _, rfl, _, _, _, _, _, rfl, rfl, .exc X1 T.xc_NoNet, T.is_NoNet_TooMuch, (by show 3 ≤ sizeLine; decide), fun m2 hm2 => ?_⟩
            have e2 : m1 ≠ m2 := (fresh_ne M1 hm2).symm
            refine ⟨m1, m2, _, _, rfl, rfl, (by rw [upd_ne e2]; exact M1), upd_same, (by show 3 + 3 ≤ sizeLine; decide), fun m3 hm3 => ?_⟩
            exact hR _ _ (.inr ⟨m3, _, rfl, by rw [upd_same]; rfl⟩)
        · exact absurd cz h
      · rcases cs with ⟨h, _⟩ | ⟨_, rfl⟩
        · exact absurd h cz
        · refine ⟨T.a_NoNet, rfl, T.sub_NoNet_NetError, fun ea hea => ?_⟩
          have X0 : (upd H' ea (HO.exc ea T.a_NoNet)) ea = some (HO.exc ea T.a_NoNet) := upd_same
          generalize upd H' ea (HO.exc ea T.a_NoNet) = J0 at X0 ⊢
          refine ⟨_, rfl, _, _, _, _, _, rfl, rfl, .exc X0 T.xc_NoNet, T.is_NoNet_NoNet, _, rfl, _, _, _, _, _, rfl, rfl, .exc X0 T.xc_NoNet, T.is_NoNet_ValueError, _, rfl, _, _, _, _, _, rfl, rfl, .exc X0 T.xc_NoNet, T.is_NoNet_NoPlace, (by show 3 ≤ sizeLine; decide), fun m1 hm1 => ?_⟩
          have X1 := (Ext.new (S := []) (o := .lst [.bl true, .bl true, .bl false]) hm1).keep _ _ X0 (by simp)
          have M1 : upd J0 m1 (.lst [.bl true, .bl true, .bl false]) m1 = some (.lst [.bl true, .bl true, .bl false]) := upd_same
          generalize upd J0 m1 (.lst [.bl true, .bl true, .bl false]) = J1 at X1 M1 ⊢
          dsimp only [gName]
          refine ⟨_, rfl, _, rfl, _, _, _, _, _, rfl, rfl, .exc X1 T.xc_NoNet, T.is_NoNet_NoPipe, _, rfl, _, _, _, _, _, rfl, rfl, .exc X1 T.xc_NoNet, T.is_NoNet_SamePlace, _, rfl, _, _, _, _, _, rfl, rfl, .exc X1 T.xc_NoNet, T.is_NoNet_TooMuch, (by show 3 ≤ sizeLine; decide), fun m2 hm2 => ?_⟩
          have e2 : m1 ≠ m2 := (fresh_ne M1 hm2).symm
          refine ⟨m1, m2, _, _, rfl, rfl, (by rw [upd_ne e2]; exact M1), upd_same, (by show 3 + 3 ≤ sizeLine; decide), fun m3 hm3 => ?_⟩
          exact hR _ _ (.inr ⟨m3, _, rfl, by rw [upd_same]; rfl⟩)
    rintro σ' H8 (⟨p, l, n', ps', t, c', rfl, N, ht, P, hmk8, lp⟩ | ⟨m', y, rfl, hm'⟩)
    · refine ⟨_, rfl, _, rfl, ?_⟩
      refine ifF (by intro z; cases z) ?_
      dsimp only [tNext]
      refine ⟨_, rfl, Nat.zero_le _, fun m2 hm2 => ?_⟩
      have x9 : Ext [] H8 (upd H8 m2 (.lst [])) := Ext.new hm2
      have M9 : upd H8 m2 (.lst []) m2 = some (.lst []) := upd_same
      have K9 := x9.keep _ _ hmk8 (by simp)
      have N9 := N.ext x9 (by simp) (by simp)
      have t9 := x9.tups _ _ ht
      have P9 := P.ext x9 (by simp)
      generalize upd H8 m2 (.lst []) = H9 at x9 M9 K9 N9 t9 P9 ⊢
      refine ⟨mk, m2, [], [], rfl, rfl, SqL.of K9, SqL.of M9, (fun y hy => by simp at hy), (fun y hy => by simp at hy), _, rfl, ?_⟩
      refine iteF ?_
      dsimp only [tNext]
      obtain ⟨⟨dx, hp⟩, _⟩ := id N9
      refine ⟨_, rfl, p, dx, _, rfl, hp, flds_no _ _ (by decide +kernel) (by decide +kernel), p, l, dx, n', rfl, hp, ?_⟩
      dsimp only [gName]
      refine ⟨_, rfl, _, rfl, true, rfl, iteT ?_⟩
      refine ⟨_, rfl, _, rfl, t, _, 0, _, rfl, rfl, SqT.of t9, rfl, _, _, rfl, rfl, _, rfl, ?_⟩
      refine ifT rfl ?_
      refine ⟨_, rfl, p, dx, _, rfl, hp, flds_no _ _ (by decide +kernel) (by decide +kernel), p, l, n', ps', rfl, N9, fun b' H10 hb' P10 x10 => ⟨_, rfl, t, _, 1, _, rfl, rfl, SqT.of (x10.tups _ _ t9), rfl, b', c', ps', ps', rfl, P10, P9.ext x10 (by simp), by omega, by omega, ?_⟩⟩
      rw [decide_eq_true rfl]
      exact q _
    · refine ⟨_, rfl, _, rfl, ?_⟩
      refine ifT rfl ?_
      refine ⟨_, rfl, by show 6 ≤ sizeLine; decide, fun m2 hm2 => ?_⟩
      have x9 : Ext [] H8 (upd H8 m2 (.lst [.bl true, .bl true, .bl false, .bl false, .bl false, .bl false])) := Ext.new hm2
      have fl : flatVs [V.bl true, V.bl true, V.bl false, V.bl false, V.bl false, V.bl false] := by intro y hy; simp at hy; rcases hy with rfl | rfl <;> rfl
      exact ⟨m', m2, _, _, rfl, rfl, SqL.of (x9.keep _ _ hm' (by simp)), SqL.of upd_same, fl, fl, q _⟩
end
end Sp

set_option Elab.async false
set_option linter.all false
set_option maxRecDepth 100000
namespace Sp
open PySem L2
theorem binds_1 {K : PySem.W.Frag} {x qual : Str} {st : Stmt} {f : Addr} {fd : FuncData} {n0 : Str} (F : Fun K x qual st f fd)
    (h : ∀ (kV doc pm : Value) (an : Option Addr) (cdv ct : Value) (u0 : Value), bindArgs (PySem.W.fnOf x qual (defArgs st) (defBody st) (defScope st) .none kV doc pm an cdv ct) ⟨[u0], []⟩ = pure ([n0].zip [u0])) : Binds K fd [n0] [] :=
  F.binds fun kV doc pm an cdv ct us hl => match us, hl with | [u0], _ => h kV doc pm an cdv ct u0
theorem binds_2 {K : PySem.W.Frag} {x qual : Str} {st : Stmt} {f : Addr} {fd : FuncData} {n0 n1 : Str} (F : Fun K x qual st f fd)
    (h : ∀ (kV doc pm : Value) (an : Option Addr) (cdv ct : Value) (u0 u1 : Value), bindArgs (PySem.W.fnOf x qual (defArgs st) (defBody st) (defScope st) .none kV doc pm an cdv ct) ⟨[u0, u1], []⟩ = pure ([n0, n1].zip [u0, u1])) : Binds K fd [n0, n1] [] :=
  F.binds fun kV doc pm an cdv ct us hl => match us, hl with | [u0, u1], _ => h kV doc pm an cdv ct u0 u1
theorem binds_3 {K : PySem.W.Frag} {x qual : Str} {st : Stmt} {f : Addr} {fd : FuncData} {n0 n1 n2 : Str} (F : Fun K x qual st f fd)
    (h : ∀ (kV doc pm : Value) (an : Option Addr) (cdv ct : Value) (u0 u1 u2 : Value), bindArgs (PySem.W.fnOf x qual (defArgs st) (defBody st) (defScope st) .none kV doc pm an cdv ct) ⟨[u0, u1, u2], []⟩ = pure ([n0, n1, n2].zip [u0, u1, u2])) : Binds K fd [n0, n1, n2] [] :=
  F.binds fun kV doc pm an cdv ct us hl => match us, hl with | [u0, u1, u2], _ => h kV doc pm an cdv ct u0 u1 u2
theorem binds_4 {K : PySem.W.Frag} {x qual : Str} {st : Stmt} {f : Addr} {fd : FuncData} {n0 n1 n2 n3 : Str} (F : Fun K x qual st f fd)
    (h : ∀ (kV doc pm : Value) (an : Option Addr) (cdv ct : Value) (u0 u1 u2 u3 : Value), bindArgs (PySem.W.fnOf x qual (defArgs st) (defBody st) (defScope st) .none kV doc pm an cdv ct) ⟨[u0, u1, u2, u3], []⟩ = pure ([n0, n1, n2, n3].zip [u0, u1, u2, u3])) : Binds K fd [n0, n1, n2, n3] [] :=
  F.binds fun kV doc pm an cdv ct us hl => match us, hl with | [u0, u1, u2, u3], _ => h kV doc pm an cdv ct u0 u1 u2 u3
set_option maxHeartbeats 0 in
theorem all_mk {K : PySem.W.Frag} {h : Heap} {mg : Str → Option Value} {fa : Addr} (X : K.In h) (G : h.Ns mainGlobals mg) (hfa : mg "law" = some (.ref fa))
    {a_Net : Addr}
    {a_NetError : Addr}
    {a_NoPlace : Addr}
    {a_NoPipe : Addr}
    {a_SamePlace : Addr}
    {a_TooMuch : Addr}
    {a_NoNet : Addr}
    {t_MOST_PLACES : Tok}
    {t_MOST_PIPES : Tok}
    {t_PLACES : Tok}
    {t_OPENED : Tok}
    {t_SHUT : Tok}
    {f_check_place : Addr} {od_check_place an_check_place : Option Addr} {sl_check_place : Array (Option Value)} {oc_check_place kV_check_place dc_check_place pm_check_place cd_check_place ct_check_place : Value}
    {f_check_pipe : Addr} {od_check_pipe an_check_pipe : Option Addr} {sl_check_pipe : Array (Option Value)} {oc_check_pipe kV_check_pipe dc_check_pipe pm_check_pipe cd_check_pipe ct_check_pipe : Value}
    {f_Net_init : Addr} {od_Net_init an_Net_init : Option Addr} {sl_Net_init : Array (Option Value)} {oc_Net_init kV_Net_init dc_Net_init pm_Net_init cd_Net_init ct_Net_init : Value}
    {f_Net_size : Addr} {od_Net_size an_Net_size : Option Addr} {sl_Net_size : Array (Option Value)} {oc_Net_size kV_Net_size dc_Net_size pm_Net_size cd_Net_size ct_Net_size : Value}
    {f_Net_lay : Addr} {od_Net_lay an_Net_lay : Option Addr} {sl_Net_lay : Array (Option Value)} {oc_Net_lay kV_Net_lay dc_Net_lay pm_Net_lay cd_Net_lay ct_Net_lay : Value}
    {f_Net_shut : Addr} {od_Net_shut an_Net_shut : Option Addr} {sl_Net_shut : Array (Option Value)} {oc_Net_shut kV_Net_shut dc_Net_shut pm_Net_shut cd_Net_shut ct_Net_shut : Value}
    {f_Net_turn : Addr} {od_Net_turn an_Net_turn : Option Addr} {sl_Net_turn : Array (Option Value)} {oc_Net_turn kV_Net_turn dc_Net_turn pm_Net_turn cd_Net_turn ct_Net_turn : Value}
    {f_Net_pipes : Addr} {od_Net_pipes an_Net_pipes : Option Addr} {sl_Net_pipes : Array (Option Value)} {oc_Net_pipes kV_Net_pipes dc_Net_pipes pm_Net_pipes cd_Net_pipes ct_Net_pipes : Value}
    {f_number : Addr} {od_number an_number : Option Addr} {sl_number : Array (Option Value)} {oc_number kV_number dc_number pm_number cd_number ct_number : Value}
    {f_first_line : Addr} {od_first_line an_first_line : Option Addr} {sl_first_line : Array (Option Value)} {oc_first_line kV_first_line dc_first_line pm_first_line cd_first_line ct_first_line : Value}
    {f_lay_line : Addr} {od_lay_line an_lay_line : Option Addr} {sl_lay_line : Array (Option Value)} {oc_lay_line kV_lay_line dc_lay_line pm_lay_line cd_lay_line ct_lay_line : Value}
    {f_read : Addr} {od_read an_read : Option Addr} {sl_read : Array (Option Value)} {oc_read kV_read dc_read pm_read cd_read ct_read : Value}
    {f__law_cell_at : Addr} {od__law_cell_at an__law_cell_at : Option Addr} {sl__law_cell_at : Array (Option Value)} {oc__law_cell_at kV__law_cell_at dc__law_cell_at pm__law_cell_at cd__law_cell_at ct__law_cell_at : Value}
    {f__law_whole : Addr} {od__law_whole an__law_whole : Option Addr} {sl__law_whole : Array (Option Value)} {oc__law_whole kV__law_whole dc__law_whole pm__law_whole cd__law_whole ct__law_whole : Value}
    {f__law_pipe_by : Addr} {od__law_pipe_by an__law_pipe_by : Option Addr} {sl__law_pipe_by : Array (Option Value)} {oc__law_pipe_by kV__law_pipe_by dc__law_pipe_by pm__law_pipe_by cd__law_pipe_by ct__law_pipe_by : Value}
    {f__law_pipes_by : Addr} {od__law_pipes_by an__law_pipes_by : Option Addr} {sl__law_pipes_by : Array (Option Value)} {oc__law_pipes_by kV__law_pipes_by dc__law_pipes_by pm__law_pipes_by cd__law_pipes_by ct__law_pipes_by : Value}
    {f__law_same_pipes : Addr} {od__law_same_pipes an__law_same_pipes : Option Addr} {sl__law_same_pipes : Array (Option Value)} {oc__law_same_pipes kV__law_same_pipes dc__law_same_pipes pm__law_same_pipes cd__law_same_pipes ct__law_same_pipes : Value}
    {f__law_line : Addr} {od__law_line an__law_line : Option Addr} {sl__law_line : Array (Option Value)} {oc__law_line kV__law_line dc__law_line pm__law_line cd__law_line ct__law_line : Value}
    {f__law_bad_line : Addr} {od__law_bad_line an__law_bad_line : Option Addr} {sl__law_bad_line : Array (Option Value)} {oc__law_bad_line kV__law_bad_line dc__law_bad_line pm__law_bad_line cd__law_bad_line ct__law_bad_line : Value}
    {f__law_bad_first : Addr} {od__law_bad_first an__law_bad_first : Option Addr} {sl__law_bad_first : Array (Option Value)} {oc__law_bad_first kV__law_bad_first dc__law_bad_first pm__law_bad_first cd__law_bad_first ct__law_bad_first : Value}
    {f__law_spoiled : Addr} {od__law_spoiled an__law_spoiled : Option Addr} {sl__law_spoiled : Array (Option Value)} {oc__law_spoiled kV__law_spoiled dc__law_spoiled pm__law_spoiled cd__law_spoiled ct__law_spoiled : Value}
    {f__law_number : Addr} {od__law_number an__law_number : Option Addr} {sl__law_number : Array (Option Value)} {oc__law_number kV__law_number dc__law_number pm__law_number cd__law_number ct__law_number : Value}
    {f__law_pipe_of : Addr} {od__law_pipe_of an__law_pipe_of : Option Addr} {sl__law_pipe_of : Array (Option Value)} {oc__law_pipe_of kV__law_pipe_of dc__law_pipe_of pm__law_pipe_of cd__law_pipe_of ct__law_pipe_of : Value}
    {f__law_due : Addr} {od__law_due an__law_due : Option Addr} {sl__law_due : Array (Option Value)} {oc__law_due kV__law_due dc__law_due pm__law_due cd__law_due ct__law_due : Value}
    {f_law : Addr} {od_law an_law : Option Addr} {sl_law : Array (Option Value)} {oc_law kV_law dc_law pm_law cd_law ct_law : Value}
    (z1 : PySem.W.nsIn K mainGlobals "Net" = some (some (.ref a_Net)))
    (z2 : PySem.W.plainGet K a_Net Str.empty = true)
    (z3 : PySem.W.hasDictIn K a_Net = true)
    (z4 : PySem.W.plainOver K a_Net = true)
    (z5 : PySem.W.findIn K (.ref a_Net) "__setattr__" = some (some (.builtin "object.__setattr__")))
    (z6 : PySem.W.findIn K (.ref a_Net) "extent" = some none)
    (z7 : PySem.W.findIn K (.ref a_Net) "laid" = some none)
    (z8 : PySem.W.nsIn K mainGlobals "NetError" = some (some (.ref a_NetError)))
    (z9 : PySem.W.excIn K a_NetError [.type "ValueError", .type "Exception", .type "BaseException", .type "object"] "ValueError.__new__" = true)
    (z10 : PySem.W.nsIn K mainGlobals "NoPlace" = some (some (.ref a_NoPlace)))
    (z11 : PySem.W.excIn K a_NoPlace [.type "ValueError", .type "Exception", .type "BaseException", .type "object"] "ValueError.__new__" = true)
    (z12 : PySem.W.nsIn K mainGlobals "NoPipe" = some (some (.ref a_NoPipe)))
    (z13 : PySem.W.excIn K a_NoPipe [.type "ValueError", .type "Exception", .type "BaseException", .type "object"] "ValueError.__new__" = true)
    (z14 : PySem.W.nsIn K mainGlobals "SamePlace" = some (some (.ref a_SamePlace)))
    (z15 : PySem.W.excIn K a_SamePlace [.type "ValueError", .type "Exception", .type "BaseException", .type "object"] "ValueError.__new__" = true)
    (z16 : PySem.W.nsIn K mainGlobals "TooMuch" = some (some (.ref a_TooMuch)))
    (z17 : PySem.W.excIn K a_TooMuch [.type "ValueError", .type "Exception", .type "BaseException", .type "object"] "ValueError.__new__" = true)
    (z18 : PySem.W.nsIn K mainGlobals "NoNet" = some (some (.ref a_NoNet)))
    (z19 : PySem.W.excIn K a_NoNet [.type "ValueError", .type "Exception", .type "BaseException", .type "object"] "ValueError.__new__" = true)
    (z20 : PySem.W.subIn K (.ref a_NoNet) (.ref a_NetError) = some true)
    (z21 : PySem.W.subIn K (.ref a_NoPipe) (.ref a_NetError) = some true)
    (z22 : PySem.W.subIn K (.ref a_NoPlace) (.ref a_NetError) = some true)
    (z23 : PySem.W.subIn K (.ref a_SamePlace) (.ref a_NetError) = some true)
    (z24 : PySem.W.subIn K (.ref a_TooMuch) (.ref a_NetError) = some true)
    (z25 : PySem.W.findIn K (.ref a_NoNet) "__str__" = some (some (.builtin "BaseException.__str__")))
    (z26 : PySem.W.mroIn K a_NoNet (.type "BaseException") = some true)
    (z27 : PySem.W.findIn K (.ref a_NoPipe) "__str__" = some (some (.builtin "BaseException.__str__")))
    (z28 : PySem.W.mroIn K a_NoPipe (.type "BaseException") = some true)
    (z29 : PySem.W.findIn K (.ref a_NoPlace) "__str__" = some (some (.builtin "BaseException.__str__")))
    (z30 : PySem.W.mroIn K a_NoPlace (.type "BaseException") = some true)
    (z31 : PySem.W.findIn K (.ref a_SamePlace) "__str__" = some (some (.builtin "BaseException.__str__")))
    (z32 : PySem.W.mroIn K a_SamePlace (.type "BaseException") = some true)
    (z33 : PySem.W.findIn K (.ref a_TooMuch) "__str__" = some (some (.builtin "BaseException.__str__")))
    (z34 : PySem.W.mroIn K a_TooMuch (.type "BaseException") = some true)
    (z35 : PySem.W.findIn K (.ref a_NoNet) "__getattribute__" = some (some (.builtin "BaseException.__getattribute__")))
    (z36 : PySem.W.findIn K (.ref a_NoNet) "__getattr__" = some none)
    (z37 : PySem.W.findIn K (.ref a_NoNet) "__class__" = some (some (.builtin "object.__class__")))
    (z38 : PySem.W.mroIn K a_NoNet (.type "object") = some true)
    (z39 : PySem.W.kitOne K (.ref a_NoNet) (.ref a_NoNet) = some true)
    (z40 : PySem.W.kitOne K (.ref a_NoNet) (.ref a_NoPipe) = some false)
    (z41 : PySem.W.kitOne K (.ref a_NoNet) (.ref a_NoPlace) = some false)
    (z42 : PySem.W.kitOne K (.ref a_NoNet) (.ref a_SamePlace) = some false)
    (z43 : PySem.W.kitOne K (.ref a_NoNet) (.ref a_TooMuch) = some false)
    (z44 : PySem.W.kitOne K (.ref a_NoNet) (.type "ValueError") = some true)
    (z45 : PySem.W.findIn K (.ref a_NoPipe) "__getattribute__" = some (some (.builtin "BaseException.__getattribute__")))
    (z46 : PySem.W.findIn K (.ref a_NoPipe) "__getattr__" = some none)
    (z47 : PySem.W.findIn K (.ref a_NoPipe) "__class__" = some (some (.builtin "object.__class__")))
    (z48 : PySem.W.mroIn K a_NoPipe (.type "object") = some true)
    (z49 : PySem.W.kitOne K (.ref a_NoPipe) (.ref a_NoNet) = some false)
    (z50 : PySem.W.kitOne K (.ref a_NoPipe) (.ref a_NoPipe) = some true)
    (z51 : PySem.W.kitOne K (.ref a_NoPipe) (.ref a_NoPlace) = some false)
    (z52 : PySem.W.kitOne K (.ref a_NoPipe) (.ref a_SamePlace) = some false)
    (z53 : PySem.W.kitOne K (.ref a_NoPipe) (.ref a_TooMuch) = some false)
    (z54 : PySem.W.kitOne K (.ref a_NoPipe) (.type "ValueError") = some true)
    (z55 : PySem.W.findIn K (.ref a_NoPlace) "__getattribute__" = some (some (.builtin "BaseException.__getattribute__")))
    (z56 : PySem.W.findIn K (.ref a_NoPlace) "__getattr__" = some none)
    (z57 : PySem.W.findIn K (.ref a_NoPlace) "__class__" = some (some (.builtin "object.__class__")))
    (z58 : PySem.W.mroIn K a_NoPlace (.type "object") = some true)
    (z59 : PySem.W.kitOne K (.ref a_NoPlace) (.ref a_NoNet) = some false)
    (z60 : PySem.W.kitOne K (.ref a_NoPlace) (.ref a_NoPipe) = some false)
    (z61 : PySem.W.kitOne K (.ref a_NoPlace) (.ref a_NoPlace) = some true)
    (z62 : PySem.W.kitOne K (.ref a_NoPlace) (.ref a_SamePlace) = some false)
    (z63 : PySem.W.kitOne K (.ref a_NoPlace) (.ref a_TooMuch) = some false)
    (z64 : PySem.W.kitOne K (.ref a_NoPlace) (.type "ValueError") = some true)
    (z65 : PySem.W.findIn K (.ref a_SamePlace) "__getattribute__" = some (some (.builtin "BaseException.__getattribute__")))
    (z66 : PySem.W.findIn K (.ref a_SamePlace) "__getattr__" = some none)
    (z67 : PySem.W.findIn K (.ref a_SamePlace) "__class__" = some (some (.builtin "object.__class__")))
    (z68 : PySem.W.mroIn K a_SamePlace (.type "object") = some true)
    (z69 : PySem.W.kitOne K (.ref a_SamePlace) (.ref a_NoNet) = some false)
    (z70 : PySem.W.kitOne K (.ref a_SamePlace) (.ref a_NoPipe) = some false)
    (z71 : PySem.W.kitOne K (.ref a_SamePlace) (.ref a_NoPlace) = some false)
    (z72 : PySem.W.kitOne K (.ref a_SamePlace) (.ref a_SamePlace) = some true)
    (z73 : PySem.W.kitOne K (.ref a_SamePlace) (.ref a_TooMuch) = some false)
    (z74 : PySem.W.kitOne K (.ref a_SamePlace) (.type "ValueError") = some true)
    (z75 : PySem.W.findIn K (.ref a_TooMuch) "__getattribute__" = some (some (.builtin "BaseException.__getattribute__")))
    (z76 : PySem.W.findIn K (.ref a_TooMuch) "__getattr__" = some none)
    (z77 : PySem.W.findIn K (.ref a_TooMuch) "__class__" = some (some (.builtin "object.__class__")))
    (z78 : PySem.W.mroIn K a_TooMuch (.type "object") = some true)
    (z79 : PySem.W.kitOne K (.ref a_TooMuch) (.ref a_NoNet) = some false)
    (z80 : PySem.W.kitOne K (.ref a_TooMuch) (.ref a_NoPipe) = some false)
    (z81 : PySem.W.kitOne K (.ref a_TooMuch) (.ref a_NoPlace) = some false)
    (z82 : PySem.W.kitOne K (.ref a_TooMuch) (.ref a_SamePlace) = some false)
    (z83 : PySem.W.kitOne K (.ref a_TooMuch) (.ref a_TooMuch) = some true)
    (z84 : PySem.W.kitOne K (.ref a_TooMuch) (.type "ValueError") = some true)
    (z85 : PySem.W.nsIn K mainGlobals "MOST_PLACES" = some (some (.int 12 t_MOST_PLACES)))
    (z86 : PySem.W.nsIn K mainGlobals "MOST_PIPES" = some (some (.int 60 t_MOST_PIPES)))
    (z87 : PySem.W.nsIn K mainGlobals "PLACES" = some (some (.str "places" t_PLACES)))
    (z88 : PySem.W.nsIn K mainGlobals "OPENED" = some (some (.str "pipe" t_OPENED)))
    (z89 : PySem.W.nsIn K mainGlobals "SHUT" = some (some (.str "shut" t_SHUT)))
    (z90 : PySem.W.nsIn K mainGlobals "ValueError" = some none)
    (z91 : PySem.W.nsIn K mainGlobals "bool" = some none)
    (z92 : PySem.W.nsIn K mainGlobals "int" = some none)
    (z93 : PySem.W.nsIn K mainGlobals "isinstance" = some none)
    (z94 : PySem.W.nsIn K mainGlobals "len" = some none)
    (z95 : PySem.W.nsIn K mainGlobals "list" = some none)
    (z96 : PySem.W.nsIn K mainGlobals "max" = some none)
    (z97 : PySem.W.nsIn K mainGlobals "min" = some none)
    (z98 : PySem.W.nsIn K mainGlobals "range" = some none)
    (z99 : PySem.W.nsIn K mainGlobals "str" = some none)
    (z100 : PySem.W.nsIn K mainGlobals "tuple" = some none)
    (z101 : PySem.W.nsIn K mainGlobals "check_place" = some (some (.ref f_check_place)))
    (z102 : K.lookup f_check_place = some ⟨oc_check_place, od_check_place, .func (PySem.W.fnOf "check_place" "check_place" (defArgs s_check_place) (defBody s_check_place) (defScope s_check_place) .none kV_check_place dc_check_place pm_check_place an_check_place cd_check_place ct_check_place), sl_check_place⟩)
    (z103 : PySem.W.codeIn K cd_check_place "check_place" = true)
    (z104 : PySem.W.keepIn K (.ref f_check_place) = true)
    (z105 : PySem.W.nsIn K mainGlobals "check_pipe" = some (some (.ref f_check_pipe)))
    (z106 : K.lookup f_check_pipe = some ⟨oc_check_pipe, od_check_pipe, .func (PySem.W.fnOf "check_pipe" "check_pipe" (defArgs s_check_pipe) (defBody s_check_pipe) (defScope s_check_pipe) .none kV_check_pipe dc_check_pipe pm_check_pipe an_check_pipe cd_check_pipe ct_check_pipe), sl_check_pipe⟩)
    (z107 : PySem.W.codeIn K cd_check_pipe "check_pipe" = true)
    (z108 : PySem.W.keepIn K (.ref f_check_pipe) = true)
    (z109 : PySem.W.findIn K (.ref a_Net) "__init__" = some (some (.ref f_Net_init)))
    (z110 : PySem.W.isFn K (.ref f_Net_init) = true)
    (z111 : K.lookup f_Net_init = some ⟨oc_Net_init, od_Net_init, .func (PySem.W.fnOf "__init__" "Net.__init__" (defArgs s_Net_init) (defBody s_Net_init) (defScope s_Net_init) .none kV_Net_init dc_Net_init pm_Net_init an_Net_init cd_Net_init ct_Net_init), sl_Net_init⟩)
    (z112 : PySem.W.codeIn K cd_Net_init "Net.__init__" = true)
    (z113 : PySem.W.keepIn K (.ref f_Net_init) = true)
    (z114 : PySem.W.makesIn K a_Net = true)
    (z115 : PySem.W.keepIn K (.ref a_Net) = true)
    (z116 : PySem.W.findIn K (.ref a_Net) "size" = some (some (.ref f_Net_size)))
    (z117 : PySem.W.isFn K (.ref f_Net_size) = true)
    (z118 : K.lookup f_Net_size = some ⟨oc_Net_size, od_Net_size, .func (PySem.W.fnOf "size" "Net.size" (defArgs s_Net_size) (defBody s_Net_size) (defScope s_Net_size) .none kV_Net_size dc_Net_size pm_Net_size an_Net_size cd_Net_size ct_Net_size), sl_Net_size⟩)
    (z119 : PySem.W.codeIn K cd_Net_size "Net.size" = true)
    (z120 : PySem.W.keepIn K (.ref f_Net_size) = true)
    (z121 : PySem.W.findIn K (.ref a_Net) "lay" = some (some (.ref f_Net_lay)))
    (z122 : PySem.W.isFn K (.ref f_Net_lay) = true)
    (z123 : K.lookup f_Net_lay = some ⟨oc_Net_lay, od_Net_lay, .func (PySem.W.fnOf "lay" "Net.lay" (defArgs s_Net_lay) (defBody s_Net_lay) (defScope s_Net_lay) .none kV_Net_lay dc_Net_lay pm_Net_lay an_Net_lay cd_Net_lay ct_Net_lay), sl_Net_lay⟩)
    (z124 : PySem.W.codeIn K cd_Net_lay "Net.lay" = true)
    (z125 : PySem.W.keepIn K (.ref f_Net_lay) = true)
    (z126 : PySem.W.findIn K (.ref a_Net) "shut" = some (some (.ref f_Net_shut)))
    (z127 : PySem.W.isFn K (.ref f_Net_shut) = true)
    (z128 : K.lookup f_Net_shut = some ⟨oc_Net_shut, od_Net_shut, .func (PySem.W.fnOf "shut" "Net.shut" (defArgs s_Net_shut) (defBody s_Net_shut) (defScope s_Net_shut) .none kV_Net_shut dc_Net_shut pm_Net_shut an_Net_shut cd_Net_shut ct_Net_shut), sl_Net_shut⟩)
    (z129 : PySem.W.codeIn K cd_Net_shut "Net.shut" = true)
    (z130 : PySem.W.keepIn K (.ref f_Net_shut) = true)
    (z131 : PySem.W.findIn K (.ref a_Net) "turn" = some (some (.ref f_Net_turn)))
    (z132 : PySem.W.isFn K (.ref f_Net_turn) = true)
    (z133 : K.lookup f_Net_turn = some ⟨oc_Net_turn, od_Net_turn, .func (PySem.W.fnOf "turn" "Net.turn" (defArgs s_Net_turn) (defBody s_Net_turn) (defScope s_Net_turn) .none kV_Net_turn dc_Net_turn pm_Net_turn an_Net_turn cd_Net_turn ct_Net_turn), sl_Net_turn⟩)
    (z134 : PySem.W.codeIn K cd_Net_turn "Net.turn" = true)
    (z135 : PySem.W.keepIn K (.ref f_Net_turn) = true)
    (z136 : PySem.W.findIn K (.ref a_Net) "pipes" = some (some (.ref f_Net_pipes)))
    (z137 : PySem.W.isFn K (.ref f_Net_pipes) = true)
    (z138 : K.lookup f_Net_pipes = some ⟨oc_Net_pipes, od_Net_pipes, .func (PySem.W.fnOf "pipes" "Net.pipes" (defArgs s_Net_pipes) (defBody s_Net_pipes) (defScope s_Net_pipes) .none kV_Net_pipes dc_Net_pipes pm_Net_pipes an_Net_pipes cd_Net_pipes ct_Net_pipes), sl_Net_pipes⟩)
    (z139 : PySem.W.codeIn K cd_Net_pipes "Net.pipes" = true)
    (z140 : PySem.W.keepIn K (.ref f_Net_pipes) = true)
    (z141 : PySem.W.nsIn K mainGlobals "number" = some (some (.ref f_number)))
    (z142 : K.lookup f_number = some ⟨oc_number, od_number, .func (PySem.W.fnOf "number" "number" (defArgs s_number) (defBody s_number) (defScope s_number) .none kV_number dc_number pm_number an_number cd_number ct_number), sl_number⟩)
    (z143 : PySem.W.codeIn K cd_number "number" = true)
    (z144 : PySem.W.keepIn K (.ref f_number) = true)
    (z145 : PySem.W.nsIn K mainGlobals "first_line" = some (some (.ref f_first_line)))
    (z146 : K.lookup f_first_line = some ⟨oc_first_line, od_first_line, .func (PySem.W.fnOf "first_line" "first_line" (defArgs s_first_line) (defBody s_first_line) (defScope s_first_line) .none kV_first_line dc_first_line pm_first_line an_first_line cd_first_line ct_first_line), sl_first_line⟩)
    (z147 : PySem.W.codeIn K cd_first_line "first_line" = true)
    (z148 : PySem.W.keepIn K (.ref f_first_line) = true)
    (z149 : PySem.W.nsIn K mainGlobals "lay_line" = some (some (.ref f_lay_line)))
    (z150 : K.lookup f_lay_line = some ⟨oc_lay_line, od_lay_line, .func (PySem.W.fnOf "lay_line" "lay_line" (defArgs s_lay_line) (defBody s_lay_line) (defScope s_lay_line) .none kV_lay_line dc_lay_line pm_lay_line an_lay_line cd_lay_line ct_lay_line), sl_lay_line⟩)
    (z151 : PySem.W.codeIn K cd_lay_line "lay_line" = true)
    (z152 : PySem.W.keepIn K (.ref f_lay_line) = true)
    (z153 : PySem.W.nsIn K mainGlobals "read" = some (some (.ref f_read)))
    (z154 : K.lookup f_read = some ⟨oc_read, od_read, .func (PySem.W.fnOf "read" "read" (defArgs s_read) (defBody s_read) (defScope s_read) .none kV_read dc_read pm_read an_read cd_read ct_read), sl_read⟩)
    (z155 : PySem.W.codeIn K cd_read "read" = true)
    (z156 : PySem.W.keepIn K (.ref f_read) = true)
    (z157 : PySem.W.nsIn K mainGlobals "_law_cell_at" = some (some (.ref f__law_cell_at)))
    (z158 : K.lookup f__law_cell_at = some ⟨oc__law_cell_at, od__law_cell_at, .func (PySem.W.fnOf "_law_cell_at" "_law_cell_at" (defArgs s__law_cell_at) (defBody s__law_cell_at) (defScope s__law_cell_at) .none kV__law_cell_at dc__law_cell_at pm__law_cell_at an__law_cell_at cd__law_cell_at ct__law_cell_at), sl__law_cell_at⟩)
    (z159 : PySem.W.codeIn K cd__law_cell_at "_law_cell_at" = true)
    (z160 : PySem.W.keepIn K (.ref f__law_cell_at) = true)
    (z161 : PySem.W.nsIn K mainGlobals "_law_whole" = some (some (.ref f__law_whole)))
    (z162 : K.lookup f__law_whole = some ⟨oc__law_whole, od__law_whole, .func (PySem.W.fnOf "_law_whole" "_law_whole" (defArgs s__law_whole) (defBody s__law_whole) (defScope s__law_whole) .none kV__law_whole dc__law_whole pm__law_whole an__law_whole cd__law_whole ct__law_whole), sl__law_whole⟩)
    (z163 : PySem.W.codeIn K cd__law_whole "_law_whole" = true)
    (z164 : PySem.W.keepIn K (.ref f__law_whole) = true)
    (z165 : PySem.W.nsIn K mainGlobals "_law_pipe_by" = some (some (.ref f__law_pipe_by)))
    (z166 : K.lookup f__law_pipe_by = some ⟨oc__law_pipe_by, od__law_pipe_by, .func (PySem.W.fnOf "_law_pipe_by" "_law_pipe_by" (defArgs s__law_pipe_by) (defBody s__law_pipe_by) (defScope s__law_pipe_by) .none kV__law_pipe_by dc__law_pipe_by pm__law_pipe_by an__law_pipe_by cd__law_pipe_by ct__law_pipe_by), sl__law_pipe_by⟩)
    (z167 : PySem.W.codeIn K cd__law_pipe_by "_law_pipe_by" = true)
    (z168 : PySem.W.keepIn K (.ref f__law_pipe_by) = true)
    (z169 : PySem.W.nsIn K mainGlobals "_law_pipes_by" = some (some (.ref f__law_pipes_by)))
    (z170 : K.lookup f__law_pipes_by = some ⟨oc__law_pipes_by, od__law_pipes_by, .func (PySem.W.fnOf "_law_pipes_by" "_law_pipes_by" (defArgs s__law_pipes_by) (defBody s__law_pipes_by) (defScope s__law_pipes_by) .none kV__law_pipes_by dc__law_pipes_by pm__law_pipes_by an__law_pipes_by cd__law_pipes_by ct__law_pipes_by), sl__law_pipes_by⟩)
    (z171 : PySem.W.codeIn K cd__law_pipes_by "_law_pipes_by" = true)
    (z172 : PySem.W.keepIn K (.ref f__law_pipes_by) = true)
    (z173 : PySem.W.nsIn K mainGlobals "_law_same_pipes" = some (some (.ref f__law_same_pipes)))
    (z174 : K.lookup f__law_same_pipes = some ⟨oc__law_same_pipes, od__law_same_pipes, .func (PySem.W.fnOf "_law_same_pipes" "_law_same_pipes" (defArgs s__law_same_pipes) (defBody s__law_same_pipes) (defScope s__law_same_pipes) .none kV__law_same_pipes dc__law_same_pipes pm__law_same_pipes an__law_same_pipes cd__law_same_pipes ct__law_same_pipes), sl__law_same_pipes⟩)
    (z175 : PySem.W.codeIn K cd__law_same_pipes "_law_same_pipes" = true)
    (z176 : PySem.W.keepIn K (.ref f__law_same_pipes) = true)
    (z177 : PySem.W.nsIn K mainGlobals "_law_line" = some (some (.ref f__law_line)))
    (z178 : K.lookup f__law_line = some ⟨oc__law_line, od__law_line, .func (PySem.W.fnOf "_law_line" "_law_line" (defArgs s__law_line) (defBody s__law_line) (defScope s__law_line) .none kV__law_line dc__law_line pm__law_line an__law_line cd__law_line ct__law_line), sl__law_line⟩)
    (z179 : PySem.W.codeIn K cd__law_line "_law_line" = true)
    (z180 : PySem.W.keepIn K (.ref f__law_line) = true)
    (z181 : PySem.W.nsIn K mainGlobals "_law_bad_line" = some (some (.ref f__law_bad_line)))
    (z182 : K.lookup f__law_bad_line = some ⟨oc__law_bad_line, od__law_bad_line, .func (PySem.W.fnOf "_law_bad_line" "_law_bad_line" (defArgs s__law_bad_line) (defBody s__law_bad_line) (defScope s__law_bad_line) .none kV__law_bad_line dc__law_bad_line pm__law_bad_line an__law_bad_line cd__law_bad_line ct__law_bad_line), sl__law_bad_line⟩)
    (z183 : PySem.W.codeIn K cd__law_bad_line "_law_bad_line" = true)
    (z184 : PySem.W.keepIn K (.ref f__law_bad_line) = true)
    (z185 : PySem.W.nsIn K mainGlobals "_law_bad_first" = some (some (.ref f__law_bad_first)))
    (z186 : K.lookup f__law_bad_first = some ⟨oc__law_bad_first, od__law_bad_first, .func (PySem.W.fnOf "_law_bad_first" "_law_bad_first" (defArgs s__law_bad_first) (defBody s__law_bad_first) (defScope s__law_bad_first) .none kV__law_bad_first dc__law_bad_first pm__law_bad_first an__law_bad_first cd__law_bad_first ct__law_bad_first), sl__law_bad_first⟩)
    (z187 : PySem.W.codeIn K cd__law_bad_first "_law_bad_first" = true)
    (z188 : PySem.W.keepIn K (.ref f__law_bad_first) = true)
    (z189 : PySem.W.nsIn K mainGlobals "_law_spoiled" = some (some (.ref f__law_spoiled)))
    (z190 : K.lookup f__law_spoiled = some ⟨oc__law_spoiled, od__law_spoiled, .func (PySem.W.fnOf "_law_spoiled" "_law_spoiled" (defArgs s__law_spoiled) (defBody s__law_spoiled) (defScope s__law_spoiled) .none kV__law_spoiled dc__law_spoiled pm__law_spoiled an__law_spoiled cd__law_spoiled ct__law_spoiled), sl__law_spoiled⟩)
    (z191 : PySem.W.codeIn K cd__law_spoiled "_law_spoiled" = true)
    (z192 : PySem.W.keepIn K (.ref f__law_spoiled) = true)
    (z193 : PySem.W.nsIn K mainGlobals "_law_number" = some (some (.ref f__law_number)))
    (z194 : K.lookup f__law_number = some ⟨oc__law_number, od__law_number, .func (PySem.W.fnOf "_law_number" "_law_number" (defArgs s__law_number) (defBody s__law_number) (defScope s__law_number) .none kV__law_number dc__law_number pm__law_number an__law_number cd__law_number ct__law_number), sl__law_number⟩)
    (z195 : PySem.W.codeIn K cd__law_number "_law_number" = true)
    (z196 : PySem.W.keepIn K (.ref f__law_number) = true)
    (z197 : PySem.W.nsIn K mainGlobals "_law_pipe_of" = some (some (.ref f__law_pipe_of)))
    (z198 : K.lookup f__law_pipe_of = some ⟨oc__law_pipe_of, od__law_pipe_of, .func (PySem.W.fnOf "_law_pipe_of" "_law_pipe_of" (defArgs s__law_pipe_of) (defBody s__law_pipe_of) (defScope s__law_pipe_of) .none kV__law_pipe_of dc__law_pipe_of pm__law_pipe_of an__law_pipe_of cd__law_pipe_of ct__law_pipe_of), sl__law_pipe_of⟩)
    (z199 : PySem.W.codeIn K cd__law_pipe_of "_law_pipe_of" = true)
    (z200 : PySem.W.keepIn K (.ref f__law_pipe_of) = true)
    (z201 : PySem.W.nsIn K mainGlobals "_law_due" = some (some (.ref f__law_due)))
    (z202 : K.lookup f__law_due = some ⟨oc__law_due, od__law_due, .func (PySem.W.fnOf "_law_due" "_law_due" (defArgs s__law_due) (defBody s__law_due) (defScope s__law_due) .none kV__law_due dc__law_due pm__law_due an__law_due cd__law_due ct__law_due), sl__law_due⟩)
    (z203 : PySem.W.codeIn K cd__law_due "_law_due" = true)
    (z204 : PySem.W.keepIn K (.ref f__law_due) = true)
    (z205 : PySem.W.nsIn K mainGlobals "law" = some (some (.ref f_law)))
    (z206 : K.lookup f_law = some ⟨oc_law, od_law, .func (PySem.W.fnOf "law" "law" (defArgs s_law) (defBody s_law) (defScope s_law) .none kV_law dc_law pm_law an_law cd_law ct_law), sl_law⟩)
    (z207 : PySem.W.codeIn K cd_law "law" = true)
    (z208 : PySem.W.keepIn K (.ref f_law) = true) :
    ∃ T : TX K mg, T.f_law = fa := by
  have F_check_place := fun_mk (x := "check_place") (qual := "check_place") (st := s_check_place) z102 z103 z104
  have b_check_place := binds_2 (n0 := "net") (n1 := "place") F_check_place (fun _ _ _ _ _ _ _ _ => rfl)
  have F_check_pipe := fun_mk (x := "check_pipe") (qual := "check_pipe") (st := s_check_pipe) z106 z107 z108
  have b_check_pipe := binds_2 (n0 := "net") (n1 := "pipe") F_check_pipe (fun _ _ _ _ _ _ _ _ => rfl)
  have F_Net_init := fun_mk (x := "__init__") (qual := "Net.__init__") (st := s_Net_init) z111 z112 z113
  have b_Net_init := binds_2 (n0 := "self") (n1 := "size") F_Net_init (fun _ _ _ _ _ _ _ _ => rfl)
  have F_Net_size := fun_mk (x := "size") (qual := "Net.size") (st := s_Net_size) z118 z119 z120
  have b_Net_size := binds_1 (n0 := "self") F_Net_size (fun _ _ _ _ _ _ _ => rfl)
  have F_Net_lay := fun_mk (x := "lay") (qual := "Net.lay") (st := s_Net_lay) z123 z124 z125
  have b_Net_lay := binds_3 (n0 := "self") (n1 := "start") (n2 := "goal") F_Net_lay (fun _ _ _ _ _ _ _ _ _ => rfl)
  have F_Net_shut := fun_mk (x := "shut") (qual := "Net.shut") (st := s_Net_shut) z128 z129 z130
  have b_Net_shut := binds_2 (n0 := "self") (n1 := "pipe") F_Net_shut (fun _ _ _ _ _ _ _ _ => rfl)
  have F_Net_turn := fun_mk (x := "turn") (qual := "Net.turn") (st := s_Net_turn) z133 z134 z135
  have b_Net_turn := binds_3 (n0 := "self") (n1 := "pipe") (n2 := "opened") F_Net_turn (fun _ _ _ _ _ _ _ _ _ => rfl)
  have F_Net_pipes := fun_mk (x := "pipes") (qual := "Net.pipes") (st := s_Net_pipes) z138 z139 z140
  have b_Net_pipes := binds_1 (n0 := "self") F_Net_pipes (fun _ _ _ _ _ _ _ => rfl)
  have F_number := fun_mk (x := "number") (qual := "number") (st := s_number) z142 z143 z144
  have b_number := binds_1 (n0 := "word") F_number (fun _ _ _ _ _ _ _ => rfl)
  have F_first_line := fun_mk (x := "first_line") (qual := "first_line") (st := s_first_line) z146 z147 z148
  have b_first_line := binds_1 (n0 := "line") F_first_line (fun _ _ _ _ _ _ _ => rfl)
  have F_lay_line := fun_mk (x := "lay_line") (qual := "lay_line") (st := s_lay_line) z150 z151 z152
  have b_lay_line := binds_2 (n0 := "net") (n1 := "line") F_lay_line (fun _ _ _ _ _ _ _ _ => rfl)
  have F_read := fun_mk (x := "read") (qual := "read") (st := s_read) z154 z155 z156
  have b_read := binds_1 (n0 := "text") F_read (fun _ _ _ _ _ _ _ => rfl)
  have F__law_cell_at := fun_mk (x := "_law_cell_at") (qual := "_law_cell_at") (st := s__law_cell_at) z158 z159 z160
  have b__law_cell_at := binds_2 (n0 := "script") (n1 := "k") F__law_cell_at (fun _ _ _ _ _ _ _ _ => rfl)
  have F__law_whole := fun_mk (x := "_law_whole") (qual := "_law_whole") (st := s__law_whole) z162 z163 z164
  have b__law_whole := binds_1 (n0 := "found") F__law_whole (fun _ _ _ _ _ _ _ => rfl)
  have F__law_pipe_by := fun_mk (x := "_law_pipe_by") (qual := "_law_pipe_by") (st := s__law_pipe_by) z166 z167 z168
  have b__law_pipe_by := binds_2 (n0 := "cell") (n1 := "size") F__law_pipe_by (fun _ _ _ _ _ _ _ _ => rfl)
  have F__law_pipes_by := fun_mk (x := "_law_pipes_by") (qual := "_law_pipes_by") (st := s__law_pipes_by) z170 z171 z172
  have b__law_pipes_by := binds_4 (n0 := "script") (n1 := "first") (n2 := "many") (n3 := "size") F__law_pipes_by (fun _ _ _ _ _ _ _ _ _ _ => rfl)
  have F__law_same_pipes := fun_mk (x := "_law_same_pipes") (qual := "_law_same_pipes") (st := s__law_same_pipes) z174 z175 z176
  have b__law_same_pipes := binds_2 (n0 := "found") (n1 := "due") F__law_same_pipes (fun _ _ _ _ _ _ _ _ => rfl)
  have F__law_line := fun_mk (x := "_law_line") (qual := "_law_line") (st := s__law_line) z178 z179 z180
  have b__law_line := binds_1 (n0 := "pipe") F__law_line (fun _ _ _ _ _ _ _ => rfl)
  have F__law_bad_line := fun_mk (x := "_law_bad_line") (qual := "_law_bad_line") (st := s__law_bad_line) z182 z183 z184
  have b__law_bad_line := binds_1 (n0 := "cell") F__law_bad_line (fun _ _ _ _ _ _ _ => rfl)
  have F__law_bad_first := fun_mk (x := "_law_bad_first") (qual := "_law_bad_first") (st := s__law_bad_first) z186 z187 z188
  have b__law_bad_first := binds_1 (n0 := "cell") F__law_bad_first (fun _ _ _ _ _ _ _ => rfl)
  have F__law_spoiled := fun_mk (x := "_law_spoiled") (qual := "_law_spoiled") (st := s__law_spoiled) z190 z191 z192
  have b__law_spoiled := binds_2 (n0 := "lines") (n1 := "cell") F__law_spoiled (fun _ _ _ _ _ _ _ _ => rfl)
  have F__law_number := fun_mk (x := "_law_number") (qual := "_law_number") (st := s__law_number) z194 z195 z196
  have b__law_number := binds_1 (n0 := "word") F__law_number (fun _ _ _ _ _ _ _ => rfl)
  have F__law_pipe_of := fun_mk (x := "_law_pipe_of") (qual := "_law_pipe_of") (st := s__law_pipe_of) z198 z199 z200
  have b__law_pipe_of := binds_2 (n0 := "line") (n1 := "size") F__law_pipe_of (fun _ _ _ _ _ _ _ _ => rfl)
  have F__law_due := fun_mk (x := "_law_due") (qual := "_law_due") (st := s__law_due) z202 z203 z204
  have b__law_due := binds_1 (n0 := "lines") F__law_due (fun _ _ _ _ _ _ _ => rfl)
  have F_law := fun_mk (x := "law") (qual := "law") (st := s_law) z206 z207 z208
  have b_law := binds_1 (n0 := "script") F_law (fun _ _ _ _ _ _ _ => rfl)
  have T : ∃ T : TX K mg, T.f_law = f_law := ⟨{
    a_Net := a_Net
    mg_Net := PySem.W.mg_of X G z1
    cl_Net := ⟨z2, z3, z4, z5⟩
    na_Net_extent := z6
    na_Net_laid := z7
    a_NetError := a_NetError
    mg_NetError := PySem.W.mg_of X G z8
    er_NetError := ⟨z9⟩
    a_NoPlace := a_NoPlace
    mg_NoPlace := PySem.W.mg_of X G z10
    er_NoPlace := ⟨z11⟩
    a_NoPipe := a_NoPipe
    mg_NoPipe := PySem.W.mg_of X G z12
    er_NoPipe := ⟨z13⟩
    a_SamePlace := a_SamePlace
    mg_SamePlace := PySem.W.mg_of X G z14
    er_SamePlace := ⟨z15⟩
    a_TooMuch := a_TooMuch
    mg_TooMuch := PySem.W.mg_of X G z16
    er_TooMuch := ⟨z17⟩
    a_NoNet := a_NoNet
    mg_NoNet := PySem.W.mg_of X G z18
    er_NoNet := ⟨z19⟩
    sub_NoNet_NetError := z20
    sub_NoPipe_NetError := z21
    sub_NoPlace_NetError := z22
    sub_SamePlace_NetError := z23
    sub_TooMuch_NetError := z24
    st_NoNet := ⟨z25, z26⟩
    st_NoPipe := ⟨z27, z28⟩
    st_NoPlace := ⟨z29, z30⟩
    st_SamePlace := ⟨z31, z32⟩
    st_TooMuch := ⟨z33, z34⟩
    xc_NoNet := ⟨⟨z19⟩, z35, z36, z37, z38⟩
    is_NoNet_NoNet := z39
    is_NoNet_NoPipe := z40
    is_NoNet_NoPlace := z41
    is_NoNet_SamePlace := z42
    is_NoNet_TooMuch := z43
    is_NoNet_ValueError := z44
    xc_NoPipe := ⟨⟨z13⟩, z45, z46, z47, z48⟩
    is_NoPipe_NoNet := z49
    is_NoPipe_NoPipe := z50
    is_NoPipe_NoPlace := z51
    is_NoPipe_SamePlace := z52
    is_NoPipe_TooMuch := z53
    is_NoPipe_ValueError := z54
    xc_NoPlace := ⟨⟨z11⟩, z55, z56, z57, z58⟩
    is_NoPlace_NoNet := z59
    is_NoPlace_NoPipe := z60
    is_NoPlace_NoPlace := z61
    is_NoPlace_SamePlace := z62
    is_NoPlace_TooMuch := z63
    is_NoPlace_ValueError := z64
    xc_SamePlace := ⟨⟨z15⟩, z65, z66, z67, z68⟩
    is_SamePlace_NoNet := z69
    is_SamePlace_NoPipe := z70
    is_SamePlace_NoPlace := z71
    is_SamePlace_SamePlace := z72
    is_SamePlace_TooMuch := z73
    is_SamePlace_ValueError := z74
    xc_TooMuch := ⟨⟨z17⟩, z75, z76, z77, z78⟩
    is_TooMuch_NoNet := z79
    is_TooMuch_NoPipe := z80
    is_TooMuch_NoPlace := z81
    is_TooMuch_SamePlace := z82
    is_TooMuch_TooMuch := z83
    is_TooMuch_ValueError := z84
    t_MOST_PLACES := t_MOST_PLACES
    mg_MOST_PLACES := PySem.W.mg_of X G z85
    t_MOST_PIPES := t_MOST_PIPES
    mg_MOST_PIPES := PySem.W.mg_of X G z86
    t_PLACES := t_PLACES
    mg_PLACES := PySem.W.mg_of X G z87
    t_OPENED := t_OPENED
    mg_OPENED := PySem.W.mg_of X G z88
    t_SHUT := t_SHUT
    mg_SHUT := PySem.W.mg_of X G z89
    no_ValueError := PySem.W.mg_none_of X G z90
    no_bool := PySem.W.mg_none_of X G z91
    no_int := PySem.W.mg_none_of X G z92
    no_isinstance := PySem.W.mg_none_of X G z93
    no_len := PySem.W.mg_none_of X G z94
    no_list := PySem.W.mg_none_of X G z95
    no_max := PySem.W.mg_none_of X G z96
    no_min := PySem.W.mg_none_of X G z97
    no_range := PySem.W.mg_none_of X G z98
    no_str := PySem.W.mg_none_of X G z99
    no_tuple := PySem.W.mg_none_of X G z100
    f_check_place := f_check_place
    fd_check_place := PySem.W.fnOf "check_place" "check_place" (defArgs s_check_place) (defBody s_check_place) (defScope s_check_place) .none kV_check_place dc_check_place pm_check_place an_check_place cd_check_place ct_check_place
    F_check_place := F_check_place
    b_check_place := b_check_place
    mg_check_place := PySem.W.mg_of X G z101
    f_check_pipe := f_check_pipe
    fd_check_pipe := PySem.W.fnOf "check_pipe" "check_pipe" (defArgs s_check_pipe) (defBody s_check_pipe) (defScope s_check_pipe) .none kV_check_pipe dc_check_pipe pm_check_pipe an_check_pipe cd_check_pipe ct_check_pipe
    F_check_pipe := F_check_pipe
    b_check_pipe := b_check_pipe
    mg_check_pipe := PySem.W.mg_of X G z105
    f_Net_init := f_Net_init
    fd_Net_init := PySem.W.fnOf "__init__" "Net.__init__" (defArgs s_Net_init) (defBody s_Net_init) (defScope s_Net_init) .none kV_Net_init dc_Net_init pm_Net_init an_Net_init cd_Net_init ct_Net_init
    F_Net_init := F_Net_init
    b_Net_init := b_Net_init
    mk_Net := ⟨z114, z109, z110, z115⟩
    f_Net_size := f_Net_size
    fd_Net_size := PySem.W.fnOf "size" "Net.size" (defArgs s_Net_size) (defBody s_Net_size) (defScope s_Net_size) .none kV_Net_size dc_Net_size pm_Net_size an_Net_size cd_Net_size ct_Net_size
    F_Net_size := F_Net_size
    b_Net_size := b_Net_size
    m_Net_size := ⟨z116, z117, z120⟩
    f_Net_lay := f_Net_lay
    fd_Net_lay := PySem.W.fnOf "lay" "Net.lay" (defArgs s_Net_lay) (defBody s_Net_lay) (defScope s_Net_lay) .none kV_Net_lay dc_Net_lay pm_Net_lay an_Net_lay cd_Net_lay ct_Net_lay
    F_Net_lay := F_Net_lay
    b_Net_lay := b_Net_lay
    m_Net_lay := ⟨z121, z122, z125⟩
    f_Net_shut := f_Net_shut
    fd_Net_shut := PySem.W.fnOf "shut" "Net.shut" (defArgs s_Net_shut) (defBody s_Net_shut) (defScope s_Net_shut) .none kV_Net_shut dc_Net_shut pm_Net_shut an_Net_shut cd_Net_shut ct_Net_shut
    F_Net_shut := F_Net_shut
    b_Net_shut := b_Net_shut
    m_Net_shut := ⟨z126, z127, z130⟩
    f_Net_turn := f_Net_turn
    fd_Net_turn := PySem.W.fnOf "turn" "Net.turn" (defArgs s_Net_turn) (defBody s_Net_turn) (defScope s_Net_turn) .none kV_Net_turn dc_Net_turn pm_Net_turn an_Net_turn cd_Net_turn ct_Net_turn
    F_Net_turn := F_Net_turn
    b_Net_turn := b_Net_turn
    m_Net_turn := ⟨z131, z132, z135⟩
    f_Net_pipes := f_Net_pipes
    fd_Net_pipes := PySem.W.fnOf "pipes" "Net.pipes" (defArgs s_Net_pipes) (defBody s_Net_pipes) (defScope s_Net_pipes) .none kV_Net_pipes dc_Net_pipes pm_Net_pipes an_Net_pipes cd_Net_pipes ct_Net_pipes
    F_Net_pipes := F_Net_pipes
    b_Net_pipes := b_Net_pipes
    m_Net_pipes := ⟨z136, z137, z140⟩
    f_number := f_number
    fd_number := PySem.W.fnOf "number" "number" (defArgs s_number) (defBody s_number) (defScope s_number) .none kV_number dc_number pm_number an_number cd_number ct_number
    F_number := F_number
    b_number := b_number
    mg_number := PySem.W.mg_of X G z141
    f_first_line := f_first_line
    fd_first_line := PySem.W.fnOf "first_line" "first_line" (defArgs s_first_line) (defBody s_first_line) (defScope s_first_line) .none kV_first_line dc_first_line pm_first_line an_first_line cd_first_line ct_first_line
    F_first_line := F_first_line
    b_first_line := b_first_line
    mg_first_line := PySem.W.mg_of X G z145
    f_lay_line := f_lay_line
    fd_lay_line := PySem.W.fnOf "lay_line" "lay_line" (defArgs s_lay_line) (defBody s_lay_line) (defScope s_lay_line) .none kV_lay_line dc_lay_line pm_lay_line an_lay_line cd_lay_line ct_lay_line
    F_lay_line := F_lay_line
    b_lay_line := b_lay_line
    mg_lay_line := PySem.W.mg_of X G z149
    f_read := f_read
    fd_read := PySem.W.fnOf "read" "read" (defArgs s_read) (defBody s_read) (defScope s_read) .none kV_read dc_read pm_read an_read cd_read ct_read
    F_read := F_read
    b_read := b_read
    mg_read := PySem.W.mg_of X G z153
    f__law_cell_at := f__law_cell_at
    fd__law_cell_at := PySem.W.fnOf "_law_cell_at" "_law_cell_at" (defArgs s__law_cell_at) (defBody s__law_cell_at) (defScope s__law_cell_at) .none kV__law_cell_at dc__law_cell_at pm__law_cell_at an__law_cell_at cd__law_cell_at ct__law_cell_at
    F__law_cell_at := F__law_cell_at
    b__law_cell_at := b__law_cell_at
    mg__law_cell_at := PySem.W.mg_of X G z157
    f__law_whole := f__law_whole
    fd__law_whole := PySem.W.fnOf "_law_whole" "_law_whole" (defArgs s__law_whole) (defBody s__law_whole) (defScope s__law_whole) .none kV__law_whole dc__law_whole pm__law_whole an__law_whole cd__law_whole ct__law_whole
    F__law_whole := F__law_whole
    b__law_whole := b__law_whole
    mg__law_whole := PySem.W.mg_of X G z161
    f__law_pipe_by := f__law_pipe_by
    fd__law_pipe_by := PySem.W.fnOf "_law_pipe_by" "_law_pipe_by" (defArgs s__law_pipe_by) (defBody s__law_pipe_by) (defScope s__law_pipe_by) .none kV__law_pipe_by dc__law_pipe_by pm__law_pipe_by an__law_pipe_by cd__law_pipe_by ct__law_pipe_by
    F__law_pipe_by := F__law_pipe_by
    b__law_pipe_by := b__law_pipe_by
    mg__law_pipe_by := PySem.W.mg_of X G z165
    f__law_pipes_by := f__law_pipes_by
    fd__law_pipes_by := PySem.W.fnOf "_law_pipes_by" "_law_pipes_by" (defArgs s__law_pipes_by) (defBody s__law_pipes_by) (defScope s__law_pipes_by) .none kV__law_pipes_by dc__law_pipes_by pm__law_pipes_by an__law_pipes_by cd__law_pipes_by ct__law_pipes_by
    F__law_pipes_by := F__law_pipes_by
    b__law_pipes_by := b__law_pipes_by
    mg__law_pipes_by := PySem.W.mg_of X G z169
    f__law_same_pipes := f__law_same_pipes
    fd__law_same_pipes := PySem.W.fnOf "_law_same_pipes" "_law_same_pipes" (defArgs s__law_same_pipes) (defBody s__law_same_pipes) (defScope s__law_same_pipes) .none kV__law_same_pipes dc__law_same_pipes pm__law_same_pipes an__law_same_pipes cd__law_same_pipes ct__law_same_pipes
    F__law_same_pipes := F__law_same_pipes
    b__law_same_pipes := b__law_same_pipes
    mg__law_same_pipes := PySem.W.mg_of X G z173
    f__law_line := f__law_line
    fd__law_line := PySem.W.fnOf "_law_line" "_law_line" (defArgs s__law_line) (defBody s__law_line) (defScope s__law_line) .none kV__law_line dc__law_line pm__law_line an__law_line cd__law_line ct__law_line
    F__law_line := F__law_line
    b__law_line := b__law_line
    mg__law_line := PySem.W.mg_of X G z177
    f__law_bad_line := f__law_bad_line
    fd__law_bad_line := PySem.W.fnOf "_law_bad_line" "_law_bad_line" (defArgs s__law_bad_line) (defBody s__law_bad_line) (defScope s__law_bad_line) .none kV__law_bad_line dc__law_bad_line pm__law_bad_line an__law_bad_line cd__law_bad_line ct__law_bad_line
    F__law_bad_line := F__law_bad_line
    b__law_bad_line := b__law_bad_line
    mg__law_bad_line := PySem.W.mg_of X G z181
    f__law_bad_first := f__law_bad_first
    fd__law_bad_first := PySem.W.fnOf "_law_bad_first" "_law_bad_first" (defArgs s__law_bad_first) (defBody s__law_bad_first) (defScope s__law_bad_first) .none kV__law_bad_first dc__law_bad_first pm__law_bad_first an__law_bad_first cd__law_bad_first ct__law_bad_first
    F__law_bad_first := F__law_bad_first
    b__law_bad_first := b__law_bad_first
    mg__law_bad_first := PySem.W.mg_of X G z185
    f__law_spoiled := f__law_spoiled
    fd__law_spoiled := PySem.W.fnOf "_law_spoiled" "_law_spoiled" (defArgs s__law_spoiled) (defBody s__law_spoiled) (defScope s__law_spoiled) .none kV__law_spoiled dc__law_spoiled pm__law_spoiled an__law_spoiled cd__law_spoiled ct__law_spoiled
    F__law_spoiled := F__law_spoiled
    b__law_spoiled := b__law_spoiled
    mg__law_spoiled := PySem.W.mg_of X G z189
    f__law_number := f__law_number
    fd__law_number := PySem.W.fnOf "_law_number" "_law_number" (defArgs s__law_number) (defBody s__law_number) (defScope s__law_number) .none kV__law_number dc__law_number pm__law_number an__law_number cd__law_number ct__law_number
    F__law_number := F__law_number
    b__law_number := b__law_number
    mg__law_number := PySem.W.mg_of X G z193
    f__law_pipe_of := f__law_pipe_of
    fd__law_pipe_of := PySem.W.fnOf "_law_pipe_of" "_law_pipe_of" (defArgs s__law_pipe_of) (defBody s__law_pipe_of) (defScope s__law_pipe_of) .none kV__law_pipe_of dc__law_pipe_of pm__law_pipe_of an__law_pipe_of cd__law_pipe_of ct__law_pipe_of
    F__law_pipe_of := F__law_pipe_of
    b__law_pipe_of := b__law_pipe_of
    mg__law_pipe_of := PySem.W.mg_of X G z197
    f__law_due := f__law_due
    fd__law_due := PySem.W.fnOf "_law_due" "_law_due" (defArgs s__law_due) (defBody s__law_due) (defScope s__law_due) .none kV__law_due dc__law_due pm__law_due an__law_due cd__law_due ct__law_due
    F__law_due := F__law_due
    b__law_due := b__law_due
    mg__law_due := PySem.W.mg_of X G z201
    f_law := f_law
    fd_law := PySem.W.fnOf "law" "law" (defArgs s_law) (defBody s_law) (defScope s_law) .none kV_law dc_law pm_law an_law cd_law ct_law
    F_law := F_law
    b_law := b_law
    mg_law := PySem.W.mg_of X G z205 }, rfl⟩
  obtain ⟨T, e⟩ := T
  refine ⟨T, ?_⟩
  have q := hfa.symm.trans T.mg_law
  cases q
  rfl
theorem law_mk {l : PySem.W.OpenLaw} {w : World} {K : PySem.W.Frag} {mg : Str → Option Value} {fa : Addr} (h : ∃ T : TX K mg, T.f_law = fa) :
    ∃ fd : FuncData, (∀ (s : Shared) (v : Value), BindsTo s fd ⟨[v], []⟩ [("script", v)]) ∧ ∀ base : Heap, K.In base → base.Ns mainGlobals mg → FnOk l.prog w K mg base (CX1 l.prog w) lawDeep fa fd ["script"] (sp_law K) := by
  obtain ⟨T, rfl⟩ := h
  refine ⟨T.fd_law, fun s v => ?_, fun base _ _ => ok_law T⟩
  obtain ⟨oc, od, kV, doc, pm, an, cdv, ct, osl, e, _, _⟩ := T.F_law.ex
  rw [e]
  exact .of_eq rfl
theorem walk {l : PySem.W.OpenLaw} {q : Program} {loose : List Str} {XP : (Str → Option Value) → Heap → Prop} {YP : World → Heap → Prop} {d : DefRec} {K : Params → PySem.W.Frag} (hn : l.most = some 63) (hdf : d.params.defaults = [])
    (hY : ∀ (w : World) (h : Heap), YP w h → (K w.params).In h)
    (F : ∀ (w : World) (mg : Str → Option Value) (fa : Addr) (h : Heap), (K w.params).In h → h.Ns mainGlobals mg → mg d.name = some (.ref fa) →
      ∃ fd : FuncData, (∀ (s : Shared) (u : Value), BindsTo s fd ⟨[u], []⟩ [("script", u)]) ∧ ∀ base : Heap, (K w.params).In base → base.Ns mainGlobals mg → FnOk l.prog w (K w.params) mg base (CX1 l.prog w) lawDeep fa fd ["script"] (sp_law (K w.params))) :
    PySem.W.WalkO q loose XP YP l.row.toRowW d [] (fun f vs => PySem.call f vs) :=
  L2.walk_of (n := 63) (k := lawDeep) (x := "script") (CX := fun w => CX1 l.prog w) (sp := fun w => sp_law (K w.params)) hn (by decide) hdf ⟨rfl, by decide, by decide⟩ hY F (fun _ _ a ns hl ho hS => ⟨a, ns, rfl, hS, hl, ho, fun _ => rfl⟩) fun _ _ _ _ _ z => by
    obtain ⟨_, _, _, _, _, _, _, _, _, _, q⟩ := z
    exact q.elim
end Sp
open PySem PySem.W PyProof.Rows
set_option maxRecDepth 100000 in
set_option maxHeartbeats 0 in
theorem PySem.Challenge.cw_springways_k14_nets_read_or_refused_holds : PySem.Challenge.rw_springways_k14_nets_read_or_refused.Holds := by
  w_on; o_law; k_head; (case hw => w_witness2)
  k_fill
  refine Sp.walk (l := PySem.Challenge.rw_springways_k14_nets_read_or_refused) rfl rfl (fun w h Y => PySem.W.kIn_of Y) ?F
  case F =>
    intro w mg fa h KX G hmg
    refine Sp.law_mk (l := PySem.Challenge.rw_springways_k14_nets_read_or_refused) ?_
    refine' Sp.all_mk KX G hmg ?z1 ?z2 ?z3 ?z4 ?z5 ?z6 ?z7 ?z8 ?z9 ?z10 ?z11 ?z12 ?z13 ?z14 ?z15 ?z16 ?z17 ?z18 ?z19 ?z20 ?z21 ?z22 ?z23 ?z24 ?z25 ?z26 ?z27 ?z28 ?z29 ?z30 ?z31 ?z32 ?z33 ?z34 ?z35 ?z36 ?z37 ?z38 ?z39 ?z40 ?z41 ?z42 ?z43 ?z44 ?z45 ?z46 ?z47 ?z48 ?z49 ?z50 ?z51 ?z52 ?z53 ?z54 ?z55 ?z56 ?z57 ?z58 ?z59 ?z60 ?z61 ?z62 ?z63 ?z64 ?z65 ?z66 ?z67 ?z68 ?z69 ?z70 ?z71 ?z72 ?z73 ?z74 ?z75 ?z76 ?z77 ?z78 ?z79 ?z80 ?z81 ?z82 ?z83 ?z84 ?z85 ?z86 ?z87 ?z88 ?z89 ?z90 ?z91 ?z92 ?z93 ?z94 ?z95 ?z96 ?z97 ?z98 ?z99 ?z100 ?z101 ?z102 ?z103 ?z104 ?z105 ?z106 ?z107 ?z108 ?z109 ?z110 ?z111 ?z112 ?z113 ?z114 ?z115 ?z116 ?z117 ?z118 ?z119 ?z120 ?z121 ?z122 ?z123 ?z124 ?z125 ?z126 ?z127 ?z128 ?z129 ?z130 ?z131 ?z132 ?z133 ?z134 ?z135 ?z136 ?z137 ?z138 ?z139 ?z140 ?z141 ?z142 ?z143 ?z144 ?z145 ?z146 ?z147 ?z148 ?z149 ?z150 ?z151 ?z152 ?z153 ?z154 ?z155 ?z156 ?z157 ?z158 ?z159 ?z160 ?z161 ?z162 ?z163 ?z164 ?z165 ?z166 ?z167 ?z168 ?z169 ?z170 ?z171 ?z172 ?z173 ?z174 ?z175 ?z176 ?z177 ?z178 ?z179 ?z180 ?z181 ?z182 ?z183 ?z184 ?z185 ?z186 ?z187 ?z188 ?z189 ?z190 ?z191 ?z192 ?z193 ?z194 ?z195 ?z196 ?z197 ?z198 ?z199 ?z200 ?z201 ?z202 ?z203 ?z204 ?z205 ?z206 ?z207 ?z208
    (case z1 => k_is)
    (case z2 => k_is)
    (case z3 => k_is)
    (case z4 => k_is)
    (case z5 => k_is)
    (case z6 => k_is)
    (case z7 => k_is)
    (case z8 => k_is)
    (case z9 => k_exc)
    (case z10 => k_is)
    (case z11 => k_exc)
    (case z12 => k_is)
    (case z13 => k_exc)
    (case z14 => k_is)
    (case z15 => k_exc)
    (case z16 => k_is)
    (case z17 => k_exc)
    (case z18 => k_is)
    (case z19 => k_exc)
    (case z20 => k_is)
    (case z21 => k_is)
    (case z22 => k_is)
    (case z23 => k_is)
    (case z24 => k_is)
    (case z25 => k_is)
    (case z26 => k_is)
    (case z27 => k_is)
    (case z28 => k_is)
    (case z29 => k_is)
    (case z30 => k_is)
    (case z31 => k_is)
    (case z32 => k_is)
    (case z33 => k_is)
    (case z34 => k_is)
    (case z35 => k_is)
    (case z36 => k_is)
    (case z37 => k_is)
    (case z38 => k_is)
    (case z39 => kit_is)
    (case z40 => kit_is)
    (case z41 => kit_is)
    (case z42 => kit_is)
    (case z43 => kit_is)
    (case z44 => kit_is)
    (case z45 => k_is)
    (case z46 => k_is)
    (case z47 => k_is)
    (case z48 => k_is)
    (case z49 => kit_is)
    (case z50 => kit_is)
    (case z51 => kit_is)
    (case z52 => kit_is)
    (case z53 => kit_is)
    (case z54 => kit_is)
    (case z55 => k_is)
    (case z56 => k_is)
    (case z57 => k_is)
    (case z58 => k_is)
    (case z59 => kit_is)
    (case z60 => kit_is)
    (case z61 => kit_is)
    (case z62 => kit_is)
    (case z63 => kit_is)
    (case z64 => kit_is)
    (case z65 => k_is)
    (case z66 => k_is)
    (case z67 => k_is)
    (case z68 => k_is)
    (case z69 => kit_is)
    (case z70 => kit_is)
    (case z71 => kit_is)
    (case z72 => kit_is)
    (case z73 => kit_is)
    (case z74 => kit_is)
    (case z75 => k_is)
    (case z76 => k_is)
    (case z77 => k_is)
    (case z78 => k_is)
    (case z79 => kit_is)
    (case z80 => kit_is)
    (case z81 => kit_is)
    (case z82 => kit_is)
    (case z83 => kit_is)
    (case z84 => kit_is)
    (case z85 => k_is)
    (case z86 => k_is)
    (case z87 => k_is)
    (case z88 => k_is)
    (case z89 => k_is)
    (case z90 => k_is)
    (case z91 => k_is)
    (case z92 => k_is)
    (case z93 => k_is)
    (case z94 => k_is)
    (case z95 => k_is)
    (case z96 => k_is)
    (case z97 => k_is)
    (case z98 => k_is)
    (case z99 => k_is)
    (case z100 => k_is)
    (case z101 => k_is)
    (case z102 => k_is)
    (case z103 => k_is)
    (case z104 => k_is)
    (case z105 => k_is)
    (case z106 => k_is)
    (case z107 => k_is)
    (case z108 => k_is)
    (case z109 => k_is)
    (case z110 => k_is)
    (case z111 => k_is)
    (case z112 => k_is)
    (case z113 => k_is)
    (case z114 => k_is)
    (case z115 => k_is)
    (case z116 => k_is)
    (case z117 => k_is)
    (case z118 => k_is)
    (case z119 => k_is)
    (case z120 => k_is)
    (case z121 => k_is)
    (case z122 => k_is)
    (case z123 => k_is)
    (case z124 => k_is)
    (case z125 => k_is)
    (case z126 => k_is)
    (case z127 => k_is)
    (case z128 => k_is)
    (case z129 => k_is)
    (case z130 => k_is)
    (case z131 => k_is)
    (case z132 => k_is)
    (case z133 => k_is)
    (case z134 => k_is)
    (case z135 => k_is)
    (case z136 => k_is)
    (case z137 => k_is)
    (case z138 => k_is)
    (case z139 => k_is)
    (case z140 => k_is)
    (case z141 => k_is)
    (case z142 => k_is)
    (case z143 => k_is)
    (case z144 => k_is)
    (case z145 => k_is)
    (case z146 => k_is)
    (case z147 => k_is)
    (case z148 => k_is)
    (case z149 => k_is)
    (case z150 => k_is)
    (case z151 => k_is)
    (case z152 => k_is)
    (case z153 => k_is)
    (case z154 => k_is)
    (case z155 => k_is)
    (case z156 => k_is)
    (case z157 => k_is)
    (case z158 => k_is)
    (case z159 => k_is)
    (case z160 => k_is)
    (case z161 => k_is)
    (case z162 => k_is)
    (case z163 => k_is)
    (case z164 => k_is)
    (case z165 => k_is)
    (case z166 => k_is)
    (case z167 => k_is)
    (case z168 => k_is)
    (case z169 => k_is)
    (case z170 => k_is)
    (case z171 => k_is)
    (case z172 => k_is)
    (case z173 => k_is)
    (case z174 => k_is)
    (case z175 => k_is)
    (case z176 => k_is)
    (case z177 => k_is)
    (case z178 => k_is)
    (case z179 => k_is)
    (case z180 => k_is)
    (case z181 => k_is)
    (case z182 => k_is)
    (case z183 => k_is)
    (case z184 => k_is)
    (case z185 => k_is)
    (case z186 => k_is)
    (case z187 => k_is)
    (case z188 => k_is)
    (case z189 => k_is)
    (case z190 => k_is)
    (case z191 => k_is)
    (case z192 => k_is)
    (case z193 => k_is)
    (case z194 => k_is)
    (case z195 => k_is)
    (case z196 => k_is)
    (case z197 => k_is)
    (case z198 => k_is)
    (case z199 => k_is)
    (case z200 => k_is)
    (case z201 => k_is)
    (case z202 => k_is)
    (case z203 => k_is)
    (case z204 => k_is)
    (case z205 => k_is)
    (case z206 => k_is)
    (case z207 => k_is)
    (case z208 => k_is)
#print axioms PySem.Challenge.cw_springways_k14_nets_read_or_refused_holds
