import PyProof.Rows.All
import Wide.All
import OpenK.AllK
import Wide.FinOn
import PyProof.NeKinds
import PyProof.EqAt
import PyProof.EqKinds
import PyProof.TupleCall
import PySem.Challenge.RW_springways_k11_whole_the_most_trees
set_option Elab.async false
set_option linter.all false
set_option maxRecDepth 100000
namespace L2
open PySem PySem.Spec PyProof.Rows

noncomputable abbrev Key := Sum Int Str
noncomputable def keyIs : Key → Value → Bool
  | .inl k, v => Value.isInt k v
  | .inr x, v => Value.isStrOf x v
noncomputable def keyH (w : World) : Key → Int
  | .inl k => hashInt k
  | .inr x => hashStr w x
theorem keyIs_shape : ∀ {k : Key} {v : Value}, keyIs k v = true → (∃ i t, k = Sum.inl i ∧ v = Value.int i t) ∨ (∃ x t, k = Sum.inr x ∧ v = Value.str x t)
  | .inl i, v, h => by
    obtain ⟨t, e⟩ := Value.isInt_shape (k := i) (v := v) h
    exact .inl ⟨i, t, rfl, e⟩
  | .inr x, v, h => by
    obtain ⟨t, e⟩ := Value.isStrOf_shape (x := x) (v := v) h
    exact .inr ⟨x, t, rfl, e⟩
theorem keyIs_int (i : Int) (t : Tok) : keyIs (.inl i) (.int i t) = true := by simp [keyIs, Value.isInt]
theorem keyIs_str (x : Str) (t : Tok) : keyIs (.inr x) (.str x t) = true := by simp [keyIs, Value.isStrOf]
theorem key_ll (a b : Int) : decide ((Sum.inl a : Key) = Sum.inl b) = (a == b) := by
  by_cases e : a = b
  · subst e; simp
  · have h : ¬ (Sum.inl a : Key) = Sum.inl b := fun q => e (Sum.inl.inj q)
    rw [decide_eq_false h]
    exact (beq_eq_false_iff_ne.mpr e).symm
theorem key_rr (a b : Str) : decide ((Sum.inr a : Key) = Sum.inr b) = decide (a = b) := by
  by_cases e : a = b
  · subst e; simp
  · have h : ¬ (Sum.inr a : Key) = Sum.inr b := fun q => e (Sum.inr.inj q)
    rw [decide_eq_false h, decide_eq_false e]
theorem key_lr (a : Int) (b : Str) : decide ((Sum.inl a : Key) = Sum.inr b) = false := decide_eq_false (fun q => nomatch q)
theorem key_rl (a : Str) (b : Int) : decide ((Sum.inr a : Key) = Sum.inl b) = false := decide_eq_false (fun q => nomatch q)

noncomputable def mixKind (prog : Program) (w : World) : PySem.KeyKind prog w Key where
  is := keyIs
  hash := keyH w
  inj := fun v a b ha hb => by
    rcases keyIs_shape ha with ⟨i, t, rfl, rfl⟩ | ⟨x, t, rfl, rfl⟩
    · rcases keyIs_shape hb with ⟨j, u, rfl, e⟩ | ⟨y, u, rfl, e⟩
      · injection e with e1 _; rw [e1]
      · exact nomatch e
    · rcases keyIs_shape hb with ⟨j, u, rfl, e⟩ | ⟨y, u, rfl, e⟩
      · exact nomatch e
      · injection e with e1 _; rw [e1]
  byValue := fun k v h => by
    rcases keyIs_shape h with ⟨i, t, rfl, rfl⟩ | ⟨x, t, rfl, rfl⟩ <;> rfl
  pyHash := fun hv h => by
    rcases keyIs_shape hv with ⟨i, t, rfl, rfl⟩ | ⟨x, t, rfl, rfl⟩
    · exact wpAny_pyHash_int h
    · exact wpAny_pyHash_str h
  eqBool := fun hu hv h => by
    rcases keyIs_shape hu with ⟨i, t, rfl, rfl⟩ | ⟨x, t, rfl, rfl⟩
    · rcases keyIs_shape hv with ⟨j, u, rfl, rfl⟩ | ⟨y, u, rfl, rfl⟩
      · rw [key_ll] at h; exact wpAny_eqBool_int h
      · rw [key_lr] at h; exact SeqAt.EqAt.int_str i t y u _ _ _ _ h
    · rcases keyIs_shape hv with ⟨j, u, rfl, rfl⟩ | ⟨y, u, rfl, rfl⟩
      · rw [key_rl] at h; exact SeqAt.EqAt.str_int x t j u _ _ _ _ h
      · rw [key_rr] at h; exact wpAny_eqBool_str h
  «strs» := fun k x t v h => by
    rcases keyIs_shape h with ⟨i, u, rfl, e⟩ | ⟨y, u, rfl, e⟩
    · exact nomatch e
    · injection e with e1 _
      subst e1
      cases v <;> rfl

theorem mixKind_int (prog : Program) (w : World) (i : Int) (t : Tok) : (mixKind prog w).is (.inl i) (.int i t) = true := keyIs_int i t
theorem mixKind_str (prog : Program) (w : World) (x : Str) (t : Tok) : (mixKind prog w).is (.inr x) (.str x t) = true := keyIs_str x t
end L2

namespace L2
open PySem PySem.Spec PyProof.Rows

inductive V where
  | non | bl (b : Bool) | int (i : Int) | str (x : Str) | byt (b : Array UInt8) | flt (b : UInt64) | ref (a : Addr) | ty (n : String)
noncomputable instance : DecidableEq V := fun a b => Classical.propDecidable (a = b)

noncomputable def RelV : V → Value → Prop
  | .non, u => u = Value.none
  | .bl b, u => u = Value.bool b
  | .int i, u => ∃ t, u = Value.int i t
  | .str x, u => ∃ t, u = Value.str x t
  | .byt b, u => ∃ t, u = Value.bytes b t
  | .flt b, u => ∃ t, u = Value.float b t
  | .ref a, u => u = Value.ref a
  | .ty n, u => u = Value.type n

noncomputable abbrev Vals : List V → List Value → Prop := Paired RelV
theorem pr_snoc {α β : Type} {F : α → β → Prop} {a : α} {b : β} {l₁ : List α} {l₂ : List β} (t : Paired F l₁ l₂) (r : F a b) : Paired F (l₁ ++ [a]) (l₂ ++ [b]) := by
  induction t with
  | nil => exact .cons r .nil
  | cons q _ ih => exact .cons q ih
theorem pr_cat {α β : Type} {F : α → β → Prop} {l₁ m₁ : List α} {l₂ m₂ : List β} (t : Paired F l₁ l₂) (u : Paired F m₁ m₂) : Paired F (l₁ ++ m₁) (l₂ ++ m₂) := by
  induction t with
  | nil => exact u
  | cons q _ ih => exact .cons q ih
theorem pr_set {α β : Type} {F : α → β → Prop} {a : α} {b : β} {l₁ : List α} {l₂ : List β} (r : F a b) (i : Nat) (t : Paired F l₁ l₂) : Paired F (l₁.set i a) (l₂.set i b) := by
  induction t generalizing i with
  | nil => exact .nil
  | cons q t ih =>
    cases i with
    | zero => exact .cons r t
    | succ i => exact .cons q (ih i)
theorem pr_getR {α β : Type} {F : α → β → Prop} {l₁ : List α} {l₂ : List β} {i : Nat} {b : β} (t : Paired F l₁ l₂) (e : l₂[i]? = some b) : ∃ a, l₁[i]? = some a ∧ F a b := by
  induction t generalizing i with
  | nil => cases e
  | cons q _ ih =>
    cases i with
    | zero => cases e; exact ⟨_, rfl, q⟩
    | succ i => exact ih e
theorem pr_getL {α β : Type} {F : α → β → Prop} {l₁ : List α} {l₂ : List β} {i : Nat} {a : α} (t : Paired F l₁ l₂) (e : l₁[i]? = some a) : ∃ b, l₂[i]? = some b ∧ F a b := by
  induction t generalizing i with
  | nil => cases e
  | cons q _ ih =>
    cases i with
    | zero => cases e; exact ⟨_, rfl, q⟩
    | succ i => exact ih e
theorem Vals.length {xs : List V} {us : List Value} (r : Vals xs us) : xs.length = us.length := Paired.length r
theorem Vals.get : ∀ {xs : List V} {us : List Value} {i : Nat} {x : V}, Vals xs us → xs[i]? = some x → ∃ u, us[i]? = some u ∧ RelV x u := fun {_ _ _ _} t e => by
  have z := pr_getL t e
  exact z
theorem Vals.set {x : V} {u : Value} (r : RelV x u) : ∀ {xs : List V} {us : List Value} (i : Nat), Vals xs us → Vals (xs.set i x) (us.set i u) := fun {_ _} i t => pr_set r i t
theorem Vals.append : ∀ {xs ys : List V} {us ws : List Value}, Vals xs us → Vals ys ws → Vals (xs ++ ys) (us ++ ws) := fun {_ _ _ _} a b => pr_cat a b
noncomputable def RelO : Option V → Option Value → Prop
  | some v, some u => RelV v u
  | none, none => True
  | _, _ => False
noncomputable def KV {κ : Type} : List (κ × V) → List (κ × Value) → Prop := Paired fun (p : κ × V) (q : κ × Value) => p.1 = q.1 ∧ RelV p.2 q.2

noncomputable def kV : Key → V
  | .inl i => .int i
  | .inr x => .str x

inductive HO where
    | lst (xs : List V)
    | tup (xs : List V)
    | dK (kvs : List (Key × V)) | dT (kvs : List (List Key × V))
    | set (S : Int → Bool) (n : Nat)
    | ins (C dx : Addr) (fs : List (Str × V))
    | own (x : Addr)
    | xd (fs : List (Str × V))
    | met (f x : Addr)
    | rng (lo hi : Int)
    | frz (o : Obj) (u : HO)
    | tbl (ps : Array Value)
    | ext (φ : Heap → Prop)

noncomputable abbrev Hp := Addr → Option HO
noncomputable def upd (H : Hp) (a : Addr) (o : HO) : Hp := fun b => if b = a then some o else H b
theorem upd_same {H : Hp} {a : Addr} {o : HO} : upd H a o a = some o := by unfold upd; rw [if_pos rfl]
theorem upd_ne {H : Hp} {a b : Addr} {o : HO} (h : b ≠ a) : upd H a o b = H b := by unfold upd; rw [if_neg h]
theorem ne_of {H : Hp} {a b : Addr} {o u : HO} (h : H a = some o) (h' : H b = some u) (d : o ≠ u) : a ≠ b := by
  intro e; subst e; rw [h] at h'; exact d (Option.some.inj h')
theorem ne_of_none {H : Hp} {a b : Addr} {o : HO} (h : H a = some o) (h' : H b = none) : a ≠ b := by
  intro e; subst e; rw [h] at h'; cases h'

section
variable (P : Program) (w : World)
noncomputable def ObjOk (H : Hp) (h : Heap) (a : Addr) : HO → Prop
  | .lst xs => xs.length ≤ sizeLine ∧ ∃ (its : List Value) (n : Nat), Vals xs its ∧ h.get? a = some { cls := .type "list", data := .seq its.toArray n }
  | .tup xs => xs.length ≤ sizeLine ∧ ∃ its : List Value, Vals xs its ∧ IsTup h a its.toArray
  | .dK kvs => kvs.length ≤ sizeLine ∧ (a == sysModules) = false ∧ ∃ vs, KV kvs vs ∧ h.DictOf (mixKind P w) a vs
  | .dT kvs => kvs.length ≤ sizeLine ∧ (a == sysModules) = false ∧ ∃ xs : List (List Key × Addr × Value),
      Paired (fun (p : List Key × V) (q : List Key × Addr × Value) => p.1 = q.1 ∧ H q.2.1 = some (.tup (p.1.map kV)) ∧ RelV p.2 q.2.2) kvs xs ∧
      ∃ o es ep, h.get? a = some o ∧ o.ExactDict ∧ o.data = .dict es ep ∧ es.toList = xs.map (entryOfKey (tupleKind (mixKind P w))) ∧ (xs.map (·.1)).Nodup
  | .set S n => h.SetOf (intKind P w) a S n
  | .ins C dx fs => H dx = some (.own a) ∧ fs.length ≤ 1000 ∧ dx ≠ a ∧ h.get? a = some (PySem.W.instObj C dx) ∧
      ∃ mA, h.Ns1 dx mA ∧ (∀ f, RelO (fs.lookup f) (mA f)) ∧ PySem.Within mA (fs.map (·.1))
  | .own _ => ∃ o, h.get? a = some o
  | .xd fs => ∃ mA, h.Ns1 a mA ∧ ∀ f, RelO (fs.lookup f) (mA f)
  | .rng lo hi => ∃ t u v, h.get? a = some { cls := .type "range", data := .fields #[.int lo t, .int hi u, .int 1 v] }
  | .frz o u => h.get? a = some o ∧ ObjOk H h a u
  | .tbl ps => h.get? a = some { cls := .none, data := .fields ps }
  | .met f x => h.get? a = some (PySem.W.methodObj (.ref f) (.ref x))
  | .ext φ => φ h ∧ (∃ o, h.get? a = some o) ∧ ∀ h1 h2 : Heap, φ h1 → (∀ o, h1.get? a = some o → h2.get? a = some o) → φ h2
noncomputable def HOk (H : Hp) (h : Heap) : Prop := ∀ a o, H a = some o → ObjOk P w H h a o
end

section
variable {P : Program} {w : World} {H H' : Hp} {h h' : Heap} {a : Addr} {o : HO}
theorem ObjOk.lt (x : ObjOk P w H h a o) : a < h.objs.size := by
  cases o with
  | lst xs => obtain ⟨_, _, _, _, e⟩ := x; exact Heap.lt_size e
  | tup xs => obtain ⟨_, _, _, p⟩ := x; exact p.lt
  | dK kvs => obtain ⟨_, _, _, _, o, _, _, e, _⟩ := x; exact Heap.lt_size e
  | dT kvs => obtain ⟨_, _, _, _, o, _, _, e, _⟩ := x; exact Heap.lt_size e
  | set S n => obtain ⟨o, _, _, _, e, _⟩ := x; exact Heap.lt_size e
  | ins C dx fs => obtain ⟨_, _, _, e, _⟩ := x; exact Heap.lt_size e
  | own y => obtain ⟨_, e⟩ := x; exact Heap.lt_size e
  | xd fs => obtain ⟨_, ⟨_, _, _, e, _⟩, _⟩ := x; exact Heap.lt_size e
  | rng lo hi => obtain ⟨_, _, _, e⟩ := x; exact Heap.lt_size e
  | frz ob u => obtain ⟨e, _⟩ := x; exact Heap.lt_size e
  | tbl ps => exact Heap.lt_size (show h.get? a = some _ from x)
  | met f y => exact Heap.lt_size (show h.get? a = some _ from x)
  | ext φ => obtain ⟨_, ⟨_, e⟩, _⟩ := x; exact Heap.lt_size e
theorem Paired.mapP {α β : Type} {F G : α → β → Prop} : ∀ {l₁ : List α} {l₂ : List β}, Paired F l₁ l₂ → (∀ a b, F a b → G a b) → Paired G l₁ l₂ := by
  intro l₁ l₂ t f
  induction t with
  | nil => exact .nil
  | cons r _ ih => exact .cons (f _ _ r) ih
theorem ObjOk.stay (x : ObjOk P w H h a o) (k : ∀ b u, (b = a ∨ H b = some (.own a)) → h.get? b = some u → h'.get? b = some u)
    (ho : ∀ b, H b = some (.own a) → H' b = some (.own a)) (ht : ∀ b xs, H b = some (.tup xs) → H' b = some (.tup xs)) : ObjOk P w H' h' a o := by
  induction o with
  | lst xs => obtain ⟨z, its, n, r, e⟩ := x; exact ⟨z, its, n, r, k _ _ (.inl rfl) e⟩
  | tup xs => obtain ⟨z, its, r, ob, e, c⟩ := x; exact ⟨z, its, r, ob, k _ _ (.inl rfl) e, c⟩
  | dK kvs => obtain ⟨z, y, vs, r, ob, es, ep, e, c⟩ := x; exact ⟨z, y, vs, r, ob, es, ep, k _ _ (.inl rfl) e, c⟩
  | dT kvs =>
    obtain ⟨z, y, xs, r, ob, es, ep, e, c⟩ := x
    exact ⟨z, y, xs, Paired.mapP r fun p q z => ⟨z.1, ht _ _ z.2.1, z.2.2⟩, ob, es, ep, k _ _ (.inl rfl) e, c⟩
  | set S n => obtain ⟨ob, es, ep, t, e, c⟩ := x; exact ⟨ob, es, ep, t, k _ _ (.inl rfl) e, c⟩
  | ins C dx fs =>
    obtain ⟨d, z, ne, e, mA, ⟨od, es, ep, e2, c⟩, r⟩ := x
    exact ⟨ho _ d, z, ne, k _ _ (.inl rfl) e, mA, ⟨od, es, ep, k _ _ (.inr d) e2, c⟩, r⟩
  | own y => obtain ⟨ob, e⟩ := x; exact ⟨ob, k _ _ (.inl rfl) e⟩
  | xd fs => obtain ⟨mA, ⟨od, es, ep, e, c⟩, r⟩ := x; exact ⟨mA, ⟨od, es, ep, k _ _ (.inl rfl) e, c⟩, r⟩
  | rng lo hi => obtain ⟨t, u, v, e⟩ := x; exact ⟨t, u, v, k _ _ (.inl rfl) e⟩
  | frz ob u ih => obtain ⟨e, q⟩ := x; exact ⟨k _ _ (.inl rfl) e, ih q⟩
  | tbl ps =>
    have e : h.get? a = some { cls := .none, data := .fields ps } := x
    show h'.get? a = some { cls := .none, data := .fields ps }
    exact k a _ (.inl rfl) e
  | met f y =>
    have e : h.get? a = some (PySem.W.methodObj (.ref f) (.ref y)) := x
    show h'.get? a = some (PySem.W.methodObj (.ref f) (.ref y))
    exact k a _ (.inl rfl) e
  | ext φ => obtain ⟨p, ⟨o, e⟩, st⟩ := x; exact ⟨st _ _ p fun o q => k _ _ (.inl rfl) q, ⟨o, k _ _ (.inl rfl) e⟩, st⟩
theorem HOk.lt (x : HOk P w H h) (e : H a = some o) : a < h.objs.size := (x a o e).lt
theorem HOk.fresh (x : HOk P w H h) (e : h.objs.size ≤ a) : H a = none := by
  cases q : H a with
  | none => rfl
  | some u => exact absurd (Nat.lt_of_lt_of_le (x.lt q) e) (Nat.lt_irrefl _)
theorem HOk.kept (x : HOk P w H h) (k : ∀ b u, h.get? b = some u → h'.get? b = some u) : HOk P w H h' := fun a o e =>
  (x a o e).stay (fun b u _ q => k b u q) (fun _ q => q) fun _ _ q => q
theorem HOk.laid (x : HOk P w H h) (k : ∀ b u, h.get? b = some u → h'.get? b = some u) (hp : h.objs.size ≤ a) (new : ObjOk P w (upd H a o) h' a o) : HOk P w (upd H a o) h' := fun b u e => by
  have hn := x.fresh hp
  by_cases hb : b = a
  · subst hb; rw [upd_same] at e; cases e; exact new
  · rw [upd_ne hb] at e
    exact (x b u e).stay (fun c v _ q => k c v q) (fun c q => by rw [upd_ne (ne_of_none q hn)]; exact q) fun c xs q => by rw [upd_ne (ne_of_none q hn)]; exact q
end

noncomputable def Rd (H : Hp) (a : Addr) (u : HO) : Prop := H a = some u ∨ ∃ o, H a = some (.frz o u)
theorem Rd.ok {P : Program} {w : World} {H : Hp} {h : Heap} {a : Addr} {u : HO} (r : Rd H a u) (x : HOk P w H h) : ObjOk P w H h a u := by
  rcases r with r | ⟨o, r⟩
  · exact x a u r
  · obtain ⟨_, q⟩ := x a _ r
    exact q
noncomputable def Mut : Option HO → Prop
  | some (.lst _) => True
  | some (.dK _) => True
  | some (.dT _) => True
  | some (.set _ _) => True
  | some (.ins _ _ _) => True
  | some (.ext _) => True
  | _ => False
section
variable {P : Program} {w : World} {H : Hp} {h h' : Heap} {x e : Addr} {o' : HO}
theorem HOk.write (ok : HOk P w H h) (mu : Mut (H x)) (he : e = x ∨ H e = some (.own x)) (k : ∀ b u, b ≠ e → h.get? b = some u → h'.get? b = some u) (heo : ∃ u, h'.get? e = some u)
    (new : ObjOk P w (upd H x o') h' x o') : HOk P w (upd H x o') h' := fun b u q => by
  have nown : ∀ c y, H c = some (.own y) → c ≠ x := fun c y r z => by subst z; rw [r] at mu; exact mu
  have ntup : ∀ c xs, H c = some (.tup xs) → c ≠ x := fun c xs r z => by subst z; rw [r] at mu; exact mu
  by_cases hb : b = x
  · subst hb; rw [upd_same] at q; cases q; exact new
  · rw [upd_ne hb] at q
    by_cases hbe : b = e
    · have q' : H b = some (.own x) := by
        rcases he with z | z
        · exact absurd (hbe.trans z) hb
        · rw [hbe]; exact z
      rw [q] at q'; cases q'
      obtain ⟨v, hv⟩ := heo
      exact ⟨v, by rw [hbe]; exact hv⟩
    · refine (ok b u q).stay (fun c v hc r => k c v ?_ r) (fun c r => by rw [upd_ne (nown c b r)]; exact r) fun c xs r => by rw [upd_ne (ntup c xs r)]; exact r
      rcases hc with rfl | hc
      · exact hbe
      · rintro rfl
        rcases he with z | z
        · exact nown c b hc z
        · rw [hc] at z; cases z; exact hb rfl
end

structure Un (fs ex : List Addr) (H H' : Hp) (h h' : Heap) : Prop where
  keep : ∀ b o, h.get? b = some o → H b = none → b ∉ fs → b ∉ ex → h'.get? b = some o
  slot : ∀ b o, h.get? b = some o → H b = none → b ∈ fs → b ∉ ex → ∃ sl, h'.get? b = some { o with slots := sl }
  free : ∀ b o, h.get? b = some o → H b = none → b ∉ ex → H' b = none
  there : ∀ b o, h.get? b = some o → b ∉ ex → ∃ o', h'.get? b = some o'
  tups : ∀ b xs, H b = some (.tup xs) → H' b = some (.tup xs)
  frzs : ∀ b o u, H b = some (.frz o u) → H' b = some (.frz o u)
  tbls : ∀ b ps, H b = some (.tbl ps) → ∃ more, H' b = some (.tbl (ps ++ more))
section
variable {fs fs' ex ex' : List Addr} {H H1 H2 : Hp} {h h1 h2 h' : Heap} {a x e : Addr} {o : HO}
theorem Un.any (u : Un fs ex H H1 h h1) {b : Addr} {ob : Obj} (q : h.get? b = some ob) (n : H b = none) (hx : b ∉ ex) : ∃ sl, h1.get? b = some { ob with slots := sl } := by
  by_cases hb : b ∈ fs
  · exact u.slot b ob q n hb hx
  · exact ⟨ob.slots, u.keep b ob q n hb hx⟩
theorem Un.kept (k : ∀ b u, h.get? b = some u → h'.get? b = some u) : Un fs ex H H h h' :=
  ⟨fun b ob q _ _ _ => k b ob q, fun b ob q _ _ _ => ⟨ob.slots, k b ob q⟩, fun _ _ _ n _ => n, fun b ob q _ => ⟨ob, k b ob q⟩, fun _ _ q => q, fun _ _ _ q => q, fun _ ps q => ⟨#[], by rw [q]; simp⟩⟩
theorem Un.refl : Un fs ex H H h h := Un.kept fun _ _ q => q
theorem Un.laid (k : ∀ b u, h.get? b = some u → h'.get? b = some u) (hp : h.objs.size ≤ a) (hn : H a = none) : Un fs ex H (upd H a o) h h' where
  keep := fun b u q _ _ _ => k b u q
  slot := fun b u q _ _ _ => ⟨u.slots, k b u q⟩
  free := fun b u q n _ => by rw [upd_ne (Nat.ne_of_lt (Nat.lt_of_lt_of_le (Heap.lt_size q) hp))]; exact n
  there := fun b u q _ => ⟨u, k b u q⟩
  tups := fun b xs q => by rw [upd_ne (ne_of_none q hn)]; exact q
  frzs := fun b u xs q => by rw [upd_ne (ne_of_none q hn)]; exact q
  tbls := fun b ps q => ⟨#[], by rw [upd_ne (ne_of_none q hn), q]; simp⟩
theorem Un.write (mu : Mut (H x)) (he : e = x ∨ H e = some (.own x)) (k : ∀ b u, b ≠ e → h.get? b = some u → h'.get? b = some u) (heo : ∃ u, h'.get? e = some u) : Un fs ex H (upd H x o) h h' := by
  have hx : ∀ b, H b = none → b ≠ x := fun b n z => by subst z; rw [n] at mu; exact mu
  have hb : ∀ b, H b = none → b ≠ e := fun b n z => by
    subst z
    rcases he with r | r
    · exact hx b n r
    · rw [n] at r; cases r
  have hm : ∀ b u, H b = some u → ¬ Mut (some u) → b ≠ x := fun b u q nm z => by subst z; rw [q] at mu; exact nm mu
  refine ⟨fun b u q n _ _ => k b u (hb b n) q, fun b u q n _ _ => ⟨u.slots, k b u (hb b n) q⟩, fun b u q n _ => by rw [upd_ne (hx b n)]; exact n, fun b u q _ => ?_,
    fun b xs q => by rw [upd_ne (hm b _ q fun z => z)]; exact q, fun b u xs q => by rw [upd_ne (hm b _ q fun z => z)]; exact q, fun b ps q => ⟨#[], by rw [upd_ne (hm b _ q fun z => z), q]; simp⟩⟩
  by_cases hbe : b = e
  · subst hbe; exact heo
  · exact ⟨u, k b u hbe q⟩
end

noncomputable def trk (h : Heap) (H : Hp) : List Addr := (List.range h.objs.size).filter fun a => (H a).isSome
noncomputable def hidT (h : Heap) (H : Hp) : Heap := PySem.W.hideAll h (trk h H)
theorem hidT_size (h : Heap) (H : Hp) : (hidT h H).objs.size = h.objs.size := PySem.W.hideAll_size _ _
theorem hidT_get {h : Heap} {H : Hp} {b : Addr} {o : Obj} (e : h.get? b = some o) (n : H b = none) : (hidT h H).get? b = some o :=
  PySem.W.hideAll_get _ e fun hm => by
    have q : (H b).isSome = true := (List.mem_filter.mp hm).2
    rw [n] at q; simp at q
theorem of_hidT {h : Heap} {H : Hp} {b : Addr} {o : Obj} (e : (hidT h H).get? b = some o) : h.get? b = some o ∧ H b = none := by
  have e' : h.get? b = some o := PySem.W.of_hideAll (trk h H) e
  refine ⟨e', ?_⟩
  cases q : H b with
  | none => rfl
  | some x =>
    have hm : b ∈ trk h H := List.mem_filter.mpr ⟨List.mem_range.mpr (Heap.lt_size e'), by simp [q]⟩
    have z : (hidT h H).get? b = none := PySem.W.hideAll_none (trk h H) hm
    rw [z] at e; cases e

end L2

namespace L2
open PySem PySem.Spec PyProof.Rows

structure Mod (K : PySem.W.Frag) (mg : Str → Option Value) (base : Heap) : Prop where
  kin : K.In base
  glob : base.Ns mainGlobals mg
  blt : ∃ mb, base.Ns builtinsNs mb ∧ ∀ x : Str, x ≠ "__name__" → mb x = bootBuiltins x
  nolimit : base.NoLimit

set_option genInjectivity false in
structure Cx where
  prog : Program
  w : World
  K : PySem.W.Frag
  mg : Str → Option Value
  base : Heap
  A : Around
  N : List Str
  s₀ : Shared
  H₀ : Hp
  env : Env
  outer : List Env
  stack : List Env
  ex : List Addr
  fn : Str → Bool
  calm : Bool
  pn : List (Addr × Obj)
  xe : Value → Shared → Prop
noncomputable def frs (l : List Env) : List Addr := l.filterMap (·.frame)
noncomputable abbrev Cx.fs (X : Cx) : List Addr := frs X.outer

noncomputable def Vis (sc : Scope) (x : Str) : Prop := sc.names.lookup x = some .local ∨ sc.names.lookup x = some .cell ∨ sc.names.lookup x = some .free
noncomputable def Loc (sc : Scope) (x : Str) : Prop := sc.names.lookup x = some .local ∨ sc.names.lookup x = some .cell
noncomputable def Look (env : Env) (h : Heap) (m : Str → Option Value) (x : Str) (u : Value) : Prop :=
  (env.kindOf x = some .local ∧ m x = some u) ∨ ((env.kindOf x = some .cell ∨ env.kindOf x = some .free) ∧ ∃ c, env.cells.lookup x = some c ∧ h.IsCell c (some u))

structure Cx.Ok (X : Cx) : Prop where
  mod : Mod X.K X.mg X.base
  kind : X.env.scope.kind = .function
  glob : X.env.globals = mainGlobals
  blt : X.env.builtins = builtinsNs
  above : X.s₀.heap.objs.size ≤ X.env.locals
  inj : ∀ x y c, X.env.cells.lookup x = some c → X.env.cells.lookup y = some c → x = y
  has : ∀ x, (X.env.kindOf x = some .cell ∨ X.env.kindOf x = some .free) → ∃ c, X.env.cells.lookup x = some c
  cab : ∀ x c, X.fn x = true → X.env.cells.lookup x = some c → X.s₀.heap.objs.size ≤ c
  hd : X.calm = true → X.A.handled = none
  frames : X.A.frames = some X.stack
  stk : X.stack = X.outer ∨ (X.stack = X.env :: X.outer ∧ X.env.frame = some X.env.locals)
  exf : ∀ b ∈ X.ex, b ≠ X.env.locals ∧ ∀ x c, X.env.cells.lookup x = some c → c ≠ b
  bs : ∀ b o, X.base.get? b = some o → X.s₀.heap.get? b = some o ∧ X.H₀ b = none
  bsz : X.base.objs.size ≤ X.s₀.heap.objs.size
  noex : ∀ b o, X.base.get? b = some o → b ∉ X.ex
  exfs : ∀ b ∈ X.ex, b ∉ X.fs
  funs : X.s₀.heap.FunFrames X.base X.outer
  frf : ∀ b ∈ X.fs, X.H₀ b = none

structure Inv (X : Cx) (pins : List (Addr × Obj)) (σ : List (Option V)) (H : Hp) (s : Shared) : Prop where
  ok : X.Ok
  os : s.os = X.s₀.os
  bare : AllBare s.gens
  base : Un X.fs X.ex X.H₀ H X.s₀.heap s.heap
  loc : ∃ m, s.heap.Ns X.env.locals m ∧ ∀ (i : Nat) (x : Str) (v : V), X.N[i]? = some x → σ[i]? = some (some v) → Vis X.env.scope x → ∃ u, RelV v u ∧ Look X.env s.heap m x u
  cell : ∀ x c, X.env.cells.lookup x = some c → ∃ v, s.heap.IsCell c v
  free : H X.env.locals = none
  freeC : ∀ x c, X.env.cells.lookup x = some c → H c = none
  pin : ∀ p ∈ X.pn ++ pins, s.heap.get? p.1 = some p.2 ∧ H p.1 = none ∧ p.1 ≠ X.env.locals ∧ p.1 ∉ X.fs ∧ ∀ v, p.2.data ≠ .cell v
  hok : HOk X.prog X.w H s.heap
  len : σ.length = X.N.length

section
variable {X : Cx} {pins : List (Addr × Obj)} {σ : List (Option V)} {H H' : Hp} {s : Shared} {h' : Heap}

theorem Cx.Ok.nofr (ok : X.Ok) {b : Addr} {o : Obj} (e : X.base.get? b = some o) : b ∉ X.fs := fun hb => by
  have := (ok.funs.mem hb).1
  rw [e] at this; cases this
theorem Inv.bs (I : Inv X pins σ H s) : ∀ b o, X.base.get? b = some o → s.heap.get? b = some o ∧ H b = none := fun b o e =>
  ⟨I.base.keep b o (I.ok.bs b o e).1 (I.ok.bs b o e).2 (I.ok.nofr e) (I.ok.noex b o e), I.base.free b o (I.ok.bs b o e).1 (I.ok.bs b o e).2 (I.ok.noex b o e)⟩
theorem Inv.bk (I : Inv X pins σ H s) : ∀ b o, X.base.get? b = some o → s.heap.get? b = some o := fun b o e => (I.bs b o e).1
theorem Inv.mod (I : Inv X pins σ H s) : Mod X.K X.mg X.base := I.ok.mod
theorem Inv.kIn (I : Inv X pins σ H s) : X.K.In s.heap := I.ok.mod.kin.keeps I.bk
theorem Inv.nolimit (I : Inv X pins σ H s) : s.heap.NoLimit := I.ok.mod.nolimit.keeps I.bk
theorem Inv.lt (I : Inv X pins σ H s) : X.env.locals < s.heap.objs.size := by
  obtain ⟨_, hn, _⟩ := I.loc
  exact hn.lt
theorem Inv.sz (I : Inv X pins σ H s) : X.s₀.heap.objs.size ≤ s.heap.objs.size := Nat.le_trans I.ok.above (Nat.le_of_lt I.lt)
theorem Inv.nofs (I : Inv X pins σ H s) {a : Addr} (h : s.heap.objs.size ≤ a) : a ∉ X.fs := fun hb => by
  obtain ⟨_, o, ho, _⟩ := I.ok.funs.mem hb
  exact absurd (Nat.lt_of_lt_of_le (Heap.lt_size ho) (Nat.le_trans I.sz h)) (Nat.lt_irrefl _)
theorem Inv.cne (I : Inv X pins σ H s) : ∀ x c, X.env.cells.lookup x = some c → c ≠ X.env.locals := fun x c e z => by
  obtain ⟨v, o, ho, hd⟩ := I.cell x c e
  obtain ⟨m, ⟨o', es, ep, ho', hd', _⟩, _⟩ := I.loc
  rw [z, ho'] at ho; cases ho; rw [hd'] at hd; cases hd
theorem Inv.funs (I : Inv X pins σ H s) : s.heap.FunFrames X.base X.outer := by
  have all : ∀ (l : List Env), (∀ b ∈ frs l, b ∈ X.fs) → X.s₀.heap.FunFrames X.base l → s.heap.FunFrames X.base l := by
    intro l
    induction l with
    | nil => intro _ _; trivial
    | cons env r ih =>
      intro hs hl
      obtain ⟨hk, ⟨L, o, hf, hn, ho, hd⟩, hr⟩ := hl
      have hL : L ∈ X.fs := hs L (by unfold frs; rw [List.filterMap_cons, hf]; exact List.mem_cons_self)
      obtain ⟨sl, e⟩ := I.base.slot L o ho (I.ok.frf L hL) hL fun z => I.ok.exfs L z hL
      exact ⟨hk, ⟨L, _, hf, hn, e, hd⟩, ih (fun b hb => hs b (by unfold frs; rw [List.filterMap_cons, hf]; exact List.mem_cons_of_mem _ hb)) hr⟩
  exact all X.outer (fun _ hb => hb) I.ok.funs

theorem Inv.stack (I : Inv X pins σ H s) : s.heap.FunFrames X.base X.stack := by
  rcases I.ok.stk with e | ⟨e, hf⟩
  · rw [e]; exact I.funs
  · rw [e]
    obtain ⟨m, hn, _⟩ := I.loc
    refine .cons (by rw [I.ok.kind]; decide) hf hn ?_ I.funs
    exact Heap.get?_none_of_le (Nat.le_trans I.ok.bsz I.ok.above)
theorem Inv.stkSub (I : Inv X pins σ H s) : ∀ b ∈ frs X.stack, b ∈ X.env.locals :: X.fs := fun b hb => by
  rcases I.ok.stk with e | ⟨e, hf⟩
  · rw [e] at hb; exact List.mem_cons_of_mem _ hb
  · rw [e] at hb
    unfold frs at hb
    rw [List.filterMap_cons, hf] at hb
    exact hb
theorem Inv.stkFree (I : Inv X pins σ H s) : ∀ b ∈ frs X.stack, H b = none := fun b hb => by
  rcases List.mem_cons.mp (I.stkSub b hb) with e | hb
  · rw [e]; exact I.free
  · obtain ⟨_, o, ho, _⟩ := I.ok.funs.mem hb
    exact I.base.free b o ho (I.ok.frf b hb) fun z => I.ok.exfs b z hb

theorem Inv.step {g' : Array GenState} {t' : Nat} {d' : Drawn} {ch : List Addr} (I : Inv X pins σ H s)
    (hch : ∀ b ∈ ch, (b ∈ X.ex ∨ X.s₀.heap.objs.size ≤ b) ∧ b ≠ X.env.locals ∧ (∀ x c, X.env.cells.lookup x = some c → c ≠ b) ∧ ∀ p ∈ X.pn ++ pins, p.1 ≠ b)
    (keep : ∀ b o, b ≠ X.env.locals → b ∉ X.fs → b ∉ ch → s.heap.get? b = some o → H b = none → h'.get? b = some o)
    (slot : ∀ b o, b ≠ X.env.locals → b ∈ X.fs → b ∉ ch → s.heap.get? b = some o → H b = none → ∃ sl, h'.get? b = some { o with slots := sl }) (free : ∀ b o, b ∉ ch → s.heap.get? b = some o → H b = none → H' b = none)
    (there : ∀ b o, b ∉ ch → s.heap.get? b = some o → ∃ o', h'.get? b = some o')
    (tups : ∀ b xs, H b = some (.tup xs) → H' b = some (.tup xs)) (frzs : ∀ b o u, H b = some (.frz o u) → H' b = some (.frz o u)) (tbls : ∀ b ps, H b = some (.tbl ps) → ∃ more, H' b = some (.tbl (ps ++ more)))
    (ns : ∀ m, s.heap.Ns X.env.locals m → h'.Ns X.env.locals m) (hok : HOk X.prog X.w H' h') (hg : AllBare g') :
    Inv X pins σ H' { s with heap := h', gens := g', drawn := d', toks := t' } := by
  have neL : ∀ b o, X.s₀.heap.get? b = some o → b ≠ X.env.locals := fun b o e => Nat.ne_of_lt (Nat.lt_of_lt_of_le (Heap.lt_size e) I.ok.above)
  have neC : ∀ b o, X.s₀.heap.get? b = some o → b ∉ X.ex → b ∉ ch := fun b o e hx hb => by
    rcases (hch b hb).1 with z | z
    · exact hx z
    · exact absurd (Nat.lt_of_lt_of_le (Heap.lt_size e) z) (Nat.lt_irrefl _)
  have cellK : ∀ x c, X.env.cells.lookup x = some c → ∀ v, s.heap.IsCell c v → h'.IsCell c v := fun x c e v ⟨o, ho, hd⟩ => by
    have nch : c ∉ ch := fun z => (hch c z).2.2.1 x c e rfl
    by_cases hc : c ∈ X.fs
    · obtain ⟨sl, q⟩ := slot c o (I.cne x c e) hc nch ho (I.freeC x c e)
      exact ⟨_, q, hd⟩
    · exact ⟨o, keep c o (I.cne x c e) hc nch ho (I.freeC x c e), hd⟩
  refine ⟨I.ok, I.os, hg, ⟨fun b o e n hb hx => ?_, fun b o e n hb hx => ?_, fun b o e n hx => ?_, fun b o e hx => ?_, fun b xs e => tups b xs (I.base.tups b xs e), fun b o xs e => frzs b o xs (I.base.frzs b o xs e), fun b ps e => ?_⟩, ?_, fun x c e => ?_, ?_, fun x c e => ?_, fun p hp => ?_, hok, I.len⟩
  · exact keep b o (neL b o e) hb (neC b o e hx) (I.base.keep b o e n hb hx) (I.base.free b o e n hx)
  · obtain ⟨sl, e1⟩ := I.base.slot b o e n hb hx
    obtain ⟨sl', e2⟩ := slot b _ (neL b o e) hb (neC b o e hx) e1 (I.base.free b o e n hx)
    exact ⟨sl', e2⟩
  · obtain ⟨o', e1⟩ := I.base.there b o e hx
    exact free b o' (neC b o e hx) e1 (I.base.free b o e n hx)
  · obtain ⟨o', e1⟩ := I.base.there b o e hx
    exact there b o' (neC b o e hx) e1
  · obtain ⟨m1, e1⟩ := I.base.tbls b ps e
    obtain ⟨m2, e2⟩ := tbls b _ e1
    exact ⟨m1 ++ m2, by rw [e2, Array.append_assoc]⟩
  · obtain ⟨m, hn, hl⟩ := I.loc
    refine ⟨m, ns m hn, fun i x v e1 e2 e3 => ?_⟩
    obtain ⟨u, r, l⟩ := hl i x v e1 e2 e3
    refine ⟨u, r, ?_⟩
    rcases l with l | ⟨k, c, e, z⟩
    · exact .inl l
    · exact .inr ⟨k, c, e, cellK x c e _ z⟩
  · obtain ⟨v, z⟩ := I.cell x c e
    exact ⟨v, cellK x c e v z⟩
  · obtain ⟨m, ⟨o, _, _, ho, _⟩, _⟩ := I.loc
    exact free _ o (fun z => (hch _ z).2.1 rfl) ho I.free
  · obtain ⟨v, o, ho, hd⟩ := I.cell x c e
    exact free c o (fun z => (hch c z).2.2.1 x c e rfl) ho (I.freeC x c e)
  · obtain ⟨e, n, ne, nf, d⟩ := I.pin p hp
    have nch : p.1 ∉ ch := fun z => (hch p.1 z).2.2.2 p hp rfl
    exact ⟨keep p.1 p.2 ne nf nch e n, free p.1 p.2 nch e n, ne, nf, d⟩
theorem Inv.un {t' : Nat} (I : Inv X pins σ H s) (u : Un X.fs [] H H' s.heap h') (hok : HOk X.prog X.w H' h') : Inv X pins σ H' { s with heap := h', toks := t' } := by
  obtain ⟨m, ⟨o, es, ep, ho, r⟩, _⟩ := id I.loc
  obtain ⟨sl, hL⟩ := u.any ho I.free (by simp)
  exact I.step (g' := s.gens) (d' := s.drawn) (ch := []) (fun _ z => nomatch z) (fun b o _ hb _ e n => u.keep b o e n hb (by simp)) (fun b o _ hb _ e n => u.slot b o e n hb (by simp)) (fun b o _ e n => u.free b o e n (by simp)) (fun b o _ e => u.there b o e (by simp)) u.tups u.frzs u.tbls (fun m' hm => by
    obtain ⟨o', es', ep', ho', r'⟩ := hm
    rw [ho] at ho'; cases ho'
    exact ⟨_, es', ep', hL, r'⟩) hok I.bare
theorem Inv.call {g' : Array GenState} {t' : Nat} {d' : Drawn} {ch : List Addr} (I : Inv X pins σ H s) (u : Un (frs X.stack) ch H H' s.heap h') (hok : HOk X.prog X.w H' h') (hg : AllBare g')
    (hch : ∀ b ∈ ch, (b ∈ X.ex ∨ X.s₀.heap.objs.size ≤ b) ∧ b ≠ X.env.locals ∧ (∀ x c, X.env.cells.lookup x = some c → c ≠ b) ∧ ∀ p ∈ X.pn ++ pins, p.1 ≠ b) :
    Inv X pins σ H' { s with heap := h', gens := g', drawn := d', toks := t' } := by
  obtain ⟨m, ⟨o, es, ep, ho, r⟩, _⟩ := id I.loc
  obtain ⟨sl, hL⟩ := u.any ho I.free fun z => (hch _ z).2.1 rfl
  exact I.step (ch := ch) hch (fun b o hL hb hc e n => u.keep b o e n (fun z => (List.mem_cons.mp (I.stkSub b z)).elim hL hb) hc) (fun b o _ _ hc e n => u.any e n hc) (fun b o hc e n => u.free b o e n hc) (fun b o hc e => u.there b o e hc) u.tups u.frzs u.tbls (fun m' hm => by
    obtain ⟨o', es', ep', ho', r'⟩ := hm
    rw [ho] at ho'; cases ho'
    exact ⟨_, es', ep', hL, r'⟩) hok hg
theorem Inv.turned {t' : Nat} {it : Addr} (I : Inv X pins σ H s) (k : ∀ b o, b ≠ it → s.heap.get? b = some o → h'.get? b = some o) (hn : H it = none) (hL : it ≠ X.env.locals)
    (h1 : it ∈ X.ex ∨ X.s₀.heap.objs.size ≤ it) (h2 : ∀ x c, X.env.cells.lookup x = some c → c ≠ it) (h3 : ∀ p ∈ X.pn ++ pins, p.1 ≠ it) : Inv X pins σ H { s with heap := h', toks := t' } := by
  have nit : ∀ b u, H b = some u → b ≠ it := fun b u e z => by rw [z, hn] at e; cases e
  refine I.step (g' := s.gens) (d' := s.drawn) (ch := [it]) (fun b hb => ?_) (fun b o _ _ hc e _ => k b o (fun z => hc (by simp [z])) e) (fun b o _ _ hc e _ => ⟨o.slots, k b o (fun z => hc (by simp [z])) e⟩) (fun _ _ _ _ n => n)
    (fun b o hc e => ⟨o, k b o (fun z => hc (by simp [z])) e⟩) (fun _ _ e => e) (fun _ _ _ e => e) (fun b ps e => ⟨#[], by rw [e]; simp⟩) (fun m hm => ?_) (fun b u e => ?_) I.bare
  · have e : b = it := by simpa using hb
    subst e
    exact ⟨h1, hL, h2, h3⟩
  · obtain ⟨o, es, ep, ho, r⟩ := hm
    exact ⟨o, es, ep, k _ o (Ne.symm hL) ho, r⟩
  · refine (I.hok b u e).stay (fun c v hc q => k c v ?_ q) (fun _ q => q) fun _ _ q => q
    rcases hc with z | z
    · rw [z]; exact nit b u e
    · exact nit c _ z
theorem Inv.tok (I : Inv X pins σ H s) (t : Nat) : Inv X pins σ H { s with toks := t } := I.un (h' := s.heap) (t' := t) Un.refl I.hok
theorem Inv.kept {t' : Nat} (I : Inv X pins σ H s) (k : ∀ b u, s.heap.get? b = some u → h'.get? b = some u) : Inv X pins σ H { s with heap := h', toks := t' } := I.un (Un.kept k) (I.hok.kept k)
theorem Inv.laid {a : Addr} {o : HO} {t' : Nat} (I : Inv X pins σ H s) (k : ∀ b u, s.heap.get? b = some u → h'.get? b = some u) (hp : s.heap.objs.size ≤ a) (new : ObjOk X.prog X.w (upd H a o) h' a o) :
    Inv X pins σ (upd H a o) { s with heap := h', toks := t' } := I.un (Un.laid k hp (I.hok.fresh hp)) (I.hok.laid k hp new)
theorem Inv.write {x e : Addr} {o : HO} {t' : Nat} (I : Inv X pins σ H s) (mu : Mut (H x)) (he : e = x ∨ H e = some (.own x)) (k : ∀ b u, b ≠ e → s.heap.get? b = some u → h'.get? b = some u) (heo : ∃ u, h'.get? e = some u)
    (new : ObjOk X.prog X.w (upd H x o) h' x o) : Inv X pins σ (upd H x o) { s with heap := h', toks := t' } := I.un (Un.write mu he k heo) (I.hok.write mu he k heo new)
theorem Inv.pins_of {pins' : List (Addr × Obj)} (I : Inv X pins σ H s) (h : ∀ p ∈ pins', s.heap.get? p.1 = some p.2 ∧ H p.1 = none ∧ p.1 ≠ X.env.locals ∧ p.1 ∉ X.fs ∧ ∀ v, p.2.data ≠ .cell v) : Inv X pins' σ H s :=
  ⟨I.ok, I.os, I.bare, I.base, I.loc, I.cell, I.free, I.freeC, fun p hp => (List.mem_append.mp hp).elim (fun z => I.pin p (List.mem_append_left _ z)) (h p), I.hok, I.len⟩

theorem nodup_ix {N : List Str} (hN : N.Nodup) {i j : Nat} {x : Str} (a : N[i]? = some x) (b : N[j]? = some x) : i = j := by
  obtain ⟨h1, e1⟩ := List.getElem?_eq_some_iff.mp a
  obtain ⟨h2, e2⟩ := List.getElem?_eq_some_iff.mp b
  exact (List.getElem_inj hN).mp (e1.trans e2.symm)

theorem store_ok2 {M : Model} {A : Around} {E : Value → Shared → Prop} {i : Nat} {x : Str} {v : V} {u : Value} {Q : Unit → Shared → Prop} (I : Inv X pins σ H s) (hN : X.N.Nodup) (hi : X.N[i]? = some x) (hx : Loc X.env.scope x) (r : RelV v u)
    (h : ∀ s', Inv X pins (σ.set i (some v)) H s' → (∃ a, Heap.SameBut a s.heap s'.heap ∧ (a = X.env.locals ∨ X.env.cells.lookup x = some a)) → Q () s') (hf : X.fn x = true ∨ X.env.scope.names.lookup x = some .local := by first | exact .inl rfl | exact .inr rfl | assumption) : wpAny M A (storeName X.env x u) Q E s := by
  obtain ⟨m, hn, hl⟩ := id I.loc
  have hcls : (X.env.scope.kind == .class || (X.env.scope.kind == .module && X.env.locals != X.env.globals)) = false := by rw [I.ok.kind]; rfl
  have hiσ : i < σ.length := by rw [I.len]; exact (List.getElem?_eq_some_iff.mp hi).1
  have cne := I.cne
  have tracked : ∀ {a : Addr} {h' : Heap}, (∃ o, s.heap.get? a = some o ∧ H a = none) → Heap.SameBut a s.heap h' → HOk X.prog X.w H h' := fun {a h'} ha hs b ob e => by
    obtain ⟨_, _, hfree⟩ := ha
    refine (I.hok b ob e).stay (fun c w' hc q => (hs.2 c ?_).trans q) (fun _ q => q) fun _ _ q => q
    rintro rfl
    rcases hc with rfl | hc
    · rw [hfree] at e; cases e
    · rw [hfree] at hc; cases hc
  rcases hx with hk | hk
  · refine wpAny_storeName_local hk hn (fun h' hn' hs => ?_) hcls
    obtain ⟨oL, _, _, hoL, _⟩ := id hn
    refine h _ ⟨I.ok, I.os, I.bare, ⟨fun b o e n hb hx => ?_, fun b o e n hb hx => ?_, I.base.free, fun b o e hx => ?_, I.base.tups, I.base.frzs, I.base.tbls⟩, ⟨_, hn', fun j y v' e1 e2 e3 => ?_⟩, fun y c e => ?_, I.free, I.freeC, fun p hp => ?_, tracked ⟨oL, hoL, I.free⟩ hs, by simpa using I.len⟩ ⟨_, hs, .inl rfl⟩
    · exact (hs.2 b (Nat.ne_of_lt (Nat.lt_of_lt_of_le (Heap.lt_size e) I.ok.above))).trans (I.base.keep b o e n hb hx)
    · obtain ⟨sl, e1⟩ := I.base.slot b o e n hb hx
      exact ⟨sl, (hs.2 b (Nat.ne_of_lt (Nat.lt_of_lt_of_le (Heap.lt_size e) I.ok.above))).trans e1⟩
    · obtain ⟨o', e1⟩ := I.base.there b o e hx
      exact ⟨o', (hs.2 b (Nat.ne_of_lt (Nat.lt_of_lt_of_le (Heap.lt_size e) I.ok.above))).trans e1⟩
    · by_cases hj : j = i
      · subst hj
        rw [hi] at e1; cases e1
        rw [List.getElem?_set_self hiσ] at e2
        cases e2
        exact ⟨u, r, .inl ⟨hk, by simp⟩⟩
      · rw [List.getElem?_set_ne (Ne.symm hj)] at e2
        obtain ⟨u', r', q⟩ := hl j y v' e1 e2 e3
        refine ⟨u', r', ?_⟩
        rcases q with ⟨k, e⟩ | ⟨k, c, e, z⟩
        · refine .inl ⟨k, ?_⟩
          have : y ≠ x := fun e => hj (nodup_ix hN e1 (e ▸ hi))
          simp [this, e]
        · exact .inr ⟨k, c, e, z.sameBut hs (cne y c e)⟩
    · obtain ⟨w', z⟩ := I.cell y c e
      exact ⟨w', z.sameBut hs (cne y c e)⟩
    · obtain ⟨e, n, ne, nf, d⟩ := I.pin p hp
      exact ⟨(hs.2 p.1 ne).trans e, n, ne, nf, d⟩
  · have hfn : X.fn x = true := by
      rcases hf with z | z
      · exact z
      · rw [z] at hk; cases hk
    obtain ⟨c, hc⟩ := I.ok.has x (.inl hk)
    obtain ⟨w', z⟩ := I.cell x c hc
    refine wpAny_storeName_cell I.ok.kind hk hc z (fun h' hc' hs => ?_)
    obtain ⟨oc, hoc, hocd⟩ := id z
    refine h { s with heap := h' } ⟨I.ok, I.os, I.bare, ⟨fun b o e n hb hx => ?_, fun b o e n hb hx => ?_, I.base.free, fun b o e hx => ?_, I.base.tups, I.base.frzs, I.base.tbls⟩, ⟨m, hn.sameBut hs (Ne.symm (cne x c hc)), fun j y v' e1 e2 e3 => ?_⟩, fun y c' e => ?_, I.free, I.freeC, fun p hp => ?_, tracked ⟨oc, hoc, I.freeC x c hc⟩ hs, by simpa using I.len⟩ ⟨c, hs, .inr hc⟩
    · exact (hs.2 b (Nat.ne_of_lt (Nat.lt_of_lt_of_le (Heap.lt_size e) (I.ok.cab x c hfn hc)))).trans (I.base.keep b o e n hb hx)
    · obtain ⟨sl, e1⟩ := I.base.slot b o e n hb hx
      exact ⟨sl, (hs.2 b (Nat.ne_of_lt (Nat.lt_of_lt_of_le (Heap.lt_size e) (I.ok.cab x c hfn hc)))).trans e1⟩
    · obtain ⟨o', e1⟩ := I.base.there b o e hx
      exact ⟨o', (hs.2 b (Nat.ne_of_lt (Nat.lt_of_lt_of_le (Heap.lt_size e) (I.ok.cab x c hfn hc)))).trans e1⟩
    · by_cases hj : j = i
      · subst hj
        rw [hi] at e1; cases e1
        rw [List.getElem?_set_self hiσ] at e2
        cases e2
        exact ⟨u, r, .inr ⟨.inl hk, c, hc, hc'⟩⟩
      · rw [List.getElem?_set_ne (Ne.symm hj)] at e2
        obtain ⟨u', r', q⟩ := hl j y v' e1 e2 e3
        refine ⟨u', r', ?_⟩
        rcases q with q | ⟨k, c', e, z'⟩
        · exact .inl q
        · refine .inr ⟨k, c', e, z'.sameBut hs ?_⟩
          rintro rfl
          exact hj (nodup_ix hN e1 (I.ok.inj _ _ _ e hc ▸ hi))
    · by_cases hcc : c' = c
      · subst hcc; exact ⟨_, hc'⟩
      · obtain ⟨w2, z2⟩ := I.cell y c' e
        exact ⟨w2, z2.sameBut hs hcc⟩
    · obtain ⟨e, n, ne, nf, d⟩ := I.pin p hp
      refine ⟨(hs.2 p.1 ?_).trans e, n, ne, nf, d⟩
      intro q
      rw [q, hoc] at e
      have q' : oc = p.2 := Option.some.inj e
      exact d w' (by rw [← q']; exact hocd)
theorem store_ok {M : Model} {A : Around} {E : Value → Shared → Prop} {i : Nat} {x : Str} {v : V} {u : Value} {Q : Unit → Shared → Prop} (I : Inv X pins σ H s) (hN : X.N.Nodup) (hi : X.N[i]? = some x) (hx : Loc X.env.scope x) (r : RelV v u)
    (h : ∀ s', Inv X pins (σ.set i (some v)) H s' → Q () s') (hf : X.fn x = true ∨ X.env.scope.names.lookup x = some .local := by first | exact .inl rfl | exact .inr rfl | assumption) : wpAny M A (storeName X.env x u) Q E s :=
  store_ok2 I hN hi hx r (fun s' I' _ => h s' I') hf
theorem Inv.call' {s' : Shared} {ch : List Addr} (I : Inv X pins σ H s) (ho : s'.os = s.os) (u : Un (frs X.stack) ch H H' s.heap s'.heap) (hok : HOk X.prog X.w H' s'.heap) (hg : AllBare s'.gens)
    (hch : ∀ b ∈ ch, (b ∈ X.ex ∨ X.s₀.heap.objs.size ≤ b) ∧ b ≠ X.env.locals ∧ (∀ x c, X.env.cells.lookup x = some c → c ≠ b) ∧ ∀ p ∈ X.pn ++ pins, p.1 ≠ b) : Inv X pins σ H' s' := by
  obtain ⟨h', g', d', t', o'⟩ := s'
  have e : o' = s.os := ho
  subst e
  exact I.call (g' := g') (t' := t') (d' := d') u hok hg hch
end

noncomputable abbrev XK := Value → Option Addr → Hp → Prop
noncomputable abbrev St := List (Option V)
noncomputable abbrev VK := V → Hp → Prop
noncomputable abbrev TE := St → Hp → VK → Prop
noncomputable abbrev TT := St → Hp → (Bool → Hp → Prop) → Prop
noncomputable abbrev TA := St → Hp → (List V → Hp → Prop) → Prop
set_option genInjectivity false in
structure Ends where
  nx : St → Hp → Prop
  rt : VK
  bk : St → Hp → Prop := fun _ _ => False
  ct : St → Hp → Prop := fun _ _ => False
noncomputable abbrev TS := Ends → St → Hp → Prop

noncomputable def EP (X : Cx) (pins : List (Addr × Obj)) (σ : St) (Q : VK) (u : Value) (s' : Shared) : Prop := ∃ v H', Inv X pins σ H' s' ∧ RelV v u ∧ Q v H'
noncomputable def TP (X : Cx) (pins : List (Addr × Obj)) (σ : St) (Q : Bool → Hp → Prop) (b : Bool) (s' : Shared) : Prop := ∃ H', Inv X pins σ H' s' ∧ Q b H'
noncomputable def AP (X : Cx) (pins : List (Addr × Obj)) (σ : St) (Q : List V → Hp → Prop) (us : List Value) (s' : Shared) : Prop := ∃ vs H', Inv X pins σ H' s' ∧ Vals vs us ∧ Q vs H'
noncomputable def SP (X : Cx) (pins : List (Addr × Obj)) (D : Ends) (f : Flow) (s' : Shared) : Prop :=
  match f with
  | .next => ∃ σ' H', Inv X pins σ' H' s' ∧ D.nx σ' H'
  | .brk => ∃ σ' H', Inv X pins σ' H' s' ∧ D.bk σ' H'
  | .cont => ∃ σ' H', Inv X pins σ' H' s' ∧ D.ct σ' H'
  | .ret u => ∃ v σ' H', Inv X pins σ' H' s' ∧ RelV v u ∧ D.rt v H'

noncomputable def PE (X : Cx) (e : Expr) (t : TE) : Prop :=
  ∀ (pins : List (Addr × Obj)) (s : Shared) (σ : St) (H : Hp) (Q : VK), Inv X pins σ H s → t σ H Q → wpAny (model X.prog X.w) X.A (eval e X.env) (EP X pins σ Q) X.xe s
noncomputable def PT (X : Cx) (e : Expr) (t : TT) : Prop :=
  ∀ (pins : List (Addr × Obj)) (s : Shared) (σ : St) (H : Hp) (Q : Bool → Hp → Prop), Inv X pins σ H s → t σ H Q → wpAny (model X.prog X.w) X.A (isTrue e X.env (eval e X.env)) (TP X pins σ Q) X.xe s
noncomputable def PW (X : Cx) (e : Expr) (t : TT) : Prop :=
  ∀ (whole : Sem Value) (pins : List (Addr × Obj)) (s : Shared) (σ : St) (H : Hp) (Q : Bool → Hp → Prop), Inv X pins σ H s → t σ H Q → wpAny (model X.prog X.w) X.A (isTrue e X.env whole) (TP X pins σ Q) X.xe s
theorem PW.pt {X : Cx} {e : Expr} {t : TT} (h : PW X e t) : PT X e t := h _
noncomputable def PA (X : Cx) (es : List Expr) (t : TA) : Prop :=
  ∀ (pos : Pos) (pins : List (Addr × Obj)) (s : Shared) (σ : St) (H : Hp) (Q : List V → Hp → Prop), Inv X pins σ H s → t σ H Q → wpAny (model X.prog X.w) X.A (spliced (backTo pos (starEach es X.env))) (AP X pins σ Q) X.xe s
noncomputable def PS (X : Cx) (st : Stmt) (t : TS) : Prop :=
  ∀ (pins : List (Addr × Obj)) (s : Shared) (σ : St) (H : Hp) (D : Ends), Inv X pins σ H s → t D σ H → wpAny (model X.prog X.w) X.A (exec st X.env) (SP X pins D) X.xe s
noncomputable def PSs (X : Cx) (st : List Stmt) (t : TS) : Prop :=
  ∀ (pins : List (Addr × Obj)) (s : Shared) (σ : St) (H : Hp) (D : Ends), Inv X pins σ H s → t D σ H → wpAny (model X.prog X.w) X.A (execs st X.env) (SP X pins D) X.xe s
theorem thn {α : Type} {t : Sem α} {Q Q' : α → Shared → Prop} {M : Model} {A : Around} {E : Value → Shared → Prop} {s : Shared} (h : wpAny M A t Q E s) (hQ : ∀ a s, Q a s → Q' a s) : wpAny M A t Q' E s := wpAny_mono h hQ fun _ _ x => x
end L2

namespace L2
open PySem PySem.Spec PyProof.Rows
section
variable {X : Cx}

theorem bin {a b : Expr} {ta tb : TE} (ha : PE X a ta) (hb : PE X b tb) {pins : List (Addr × Obj)} {s : Shared} {σ : St} {H : Hp} {R : V → V → Hp → Prop} (I : Inv X pins σ H s) (h : ta σ H fun x H1 => tb σ H1 fun y H2 => R x y H2)
    {α : Type} {Q : α → Shared → Prop} {f : Value → Value → Sem α}
    (hf : ∀ v u s2 x y H2, Inv X pins σ H2 s2 → RelV x v → RelV y u → R x y H2 → wpAny (model X.prog X.w) X.A (f v u) Q X.xe s2) :
    wpAny (model X.prog X.w) X.A (eval a X.env) (fun v s₁ => wpAny (model X.prog X.w) X.A (eval b X.env) (fun u s₂ => wpAny (model X.prog X.w) X.A (f v u) Q X.xe s₂) X.xe s₁) X.xe s := by
  refine thn (ha pins s σ H _ I h) fun v s1 zz => ?_
  obtain ⟨x, H1, I1, r1, q1⟩ := zz
  refine thn (hb pins s1 σ H1 _ I1 q1) fun u s2 zz => ?_
  obtain ⟨y, H2, I2, r2, q2⟩ := zz
  exact hf v u s2 x y H2 I2 r1 r2 q2

noncomputable def tVar (i : Nat) : TE := fun σ H Q => ∃ v, σ[i]? = some (some v) ∧ Q v H
noncomputable def tC (v : V) : TE := fun _ H Q => Q v H
theorem pe_var {i : Nat} {x : Str} {pos : Pos} (hN : X.N[i]? = some x) (hv : Vis X.env.scope x) (hd : (x == ("__debug__" : Str)) = false := by decide) (hcd : (x == ("__classdict__" : Str)) = false := by decide) : PE X (.Name x pos) (tVar i) := by
  intro pins s σ H Q I h
  obtain ⟨v, e, h⟩ := h
  obtain ⟨m, hn, hl⟩ := I.loc
  obtain ⟨u, r, l⟩ := hl i x v hN e hv
  have fin : EP X pins σ Q u s := ⟨v, H, I, r, h⟩
  rcases l with ⟨hk, hm⟩ | ⟨hk, c, hc, hcell⟩
  · exact wpAny_Name (wpAny_loadName_local I.ok.kind hk hn hm fin) hd
  · rcases hk with hk | hk
    · exact wpAny_Name (wpAny_loadName_cell I.ok.kind hk hc hcell fin) hd
    · exact wpAny_Name (wpAny_loadName_free I.ok.kind hk hc hcell fin hcd) hd
theorem pe_int {i j pos} : PE X (.Constant (.int i) j pos) (tC (.int i)) := fun _ _ _ H _ I h => wpAny_Constant_int ⟨.int i, H, I.tok _, ⟨_, rfl⟩, h⟩
theorem pe_bl {b j pos} : PE X (.Constant (.bool b) j pos) (tC (.bl b)) := fun _ _ _ H _ I h => Constant_bool ⟨.bl b, H, I, rfl, h⟩
theorem pe_non {j pos} : PE X (.Constant .none j pos) (tC .non) := fun _ _ _ H _ I h => Constant_none ⟨.non, H, I, rfl, h⟩
theorem pe_str {x j pos} : PE X (.Constant (.str x) j pos) (tC (.str x)) := fun _ _ _ H _ I h => Calls.Constant_str ⟨.str x, H, I.tok _, ⟨_, rfl⟩, h⟩

noncomputable def Gl (X : Cx) (x : Str) : Prop := X.env.kindOf x = some .globalImplicit
theorem ld_glob {E : Value → Shared → Prop} {pins : List (Addr × Obj)} {s : Shared} {σ : St} {H : Hp} {x : Str} {u : Value} {pos : Pos} {Q : Value → Shared → Prop} (I : Inv X pins σ H s) (hg : Gl X x) (hm : X.mg x = some u) (h : Q u s)
    (hd : (x == ("__debug__" : Str)) = false := by decide) : wpAny (model X.prog X.w) X.A (eval (.Name x pos) X.env) Q E s :=
  Calls.Name_function_global I.ok.kind hg (Calls.loadGlobal_global (by rw [I.ok.glob]; exact I.mod.glob.keeps I.bk) hm h) hd
theorem ld_blt {E : Value → Shared → Prop} {pins : List (Addr × Obj)} {s : Shared} {σ : St} {H : Hp} {x : Str} {u : Value} {pos : Pos} {Q : Value → Shared → Prop} (I : Inv X pins σ H s) (hg : Gl X x) (hm : X.mg x = none) (hv : bootBuiltins x = some u) (h : Q u s)
    (hn : x ≠ "__name__" := by decide) (hd : (x == ("__debug__" : Str)) = false := by decide) : wpAny (model X.prog X.w) X.A (eval (.Name x pos) X.env) Q E s := by
  obtain ⟨mb, h1, h2⟩ := I.mod.blt
  exact Calls.Name_function_global I.ok.kind hg (Calls.loadGlobal_builtin (by rw [I.ok.glob]; exact I.mod.glob.keeps I.bk) hm (by rw [I.ok.blt]; exact h1.keeps I.bk) ((h2 x hn).trans hv) h) hd
theorem pe_glob {x : Str} {v : V} {u : Value} {pos : Pos} (hg : Gl X x) (hm : X.mg x = some u) (r : RelV v u) (hd : (x == ("__debug__" : Str)) = false := by decide) : PE X (.Name x pos) (tC v) :=
  fun _ _ _ H _ I h => ld_glob I hg hm ⟨v, H, I, r, h⟩ hd
theorem pe_bltn {x : Str} {v : V} {u : Value} {pos : Pos} (hg : Gl X x) (hm : X.mg x = none) (hv : bootBuiltins x = some u) (r : RelV v u) (hn : x ≠ "__name__" := by decide) (hd : (x == ("__debug__" : Str)) = false := by decide) : PE X (.Name x pos) (tC v) :=
  fun _ _ _ H _ I h => ld_blt I hg hm hv ⟨v, H, I, r, h⟩ hn hd

noncomputable def t2I (ta tb : TE) (k : Int → Int → Hp → Prop) : St → Hp → Prop := fun σ H => ta σ H fun x H1 => tb σ H1 fun y H2 => ∃ i j, x = .int i ∧ y = .int j ∧ k i j H2
variable {a b : Expr} {ta tb : TE} {pos : Pos}
noncomputable def PC (X : Cx) (op : CmpOp) (a b : Expr) (t : TE) : Prop :=
  ∀ (pins : List (Addr × Obj)) (s : Shared) (σ : St) (H : Hp) (Q : VK), Inv X pins σ H s → t σ H Q →
    wpAny (model X.prog X.w) X.A (eval a X.env) (fun v s₁ => wpAny (model X.prog X.w) X.A (eval b X.env) (fun u s₂ => wpAny (model X.prog X.w) X.A (compareOp op v u) (EP X pins σ Q) X.xe s₂) X.xe s₁) X.xe s
theorem nobehind (b : Expr) {op : CmpOp} (h : op ≠ .In) (h2 : op ≠ .NotIn) : behindInMarks op b = false := by
  have e1 : (op == CmpOp.In) = false := by cases op <;> first | rfl | exact absurd rfl h
  have e2 : (op == CmpOp.NotIn) = false := by cases op <;> first | rfl | exact absurd rfl h2
  cases b with
  | Set elts k p =>
    show (k == 0 && (op == .In || op == .NotIn) && _) = false
    rw [e1, e2, Bool.or_false, Bool.and_false, Bool.false_and]
  | _ => rfl
noncomputable def tCmp (p : Int → Int → Bool) (ta tb : TE) : TE := fun σ H Q => t2I ta tb (fun i j H2 => Q (.bl (p i j)) H2) σ H
noncomputable abbrev tLt : TE → TE → TE := tCmp fun i j => decide (i < j)
noncomputable abbrev tGt : TE → TE → TE := tCmp fun i j => decide (j < i)
noncomputable abbrev tGe : TE → TE → TE := tCmp fun i j => decide (j ≤ i)
noncomputable abbrev tEqI : TE → TE → TE := tCmp fun i j => decide (i = j)
noncomputable abbrev tNeI : TE → TE → TE := tCmp fun i j => !decide (i = j)
theorem pc_int {op : CmpOp} {p : Int → Int → Bool} (ha : PE X a ta) (hb : PE X b tb)
    (rule : ∀ (i j : Int) (t u : Tok) (Q : Value → Shared → Prop) (s : Shared), Q (.bool (p i j)) s → wpAny (model X.prog X.w) X.A (compareOp op (.int i t) (.int j u)) Q X.xe s) : PC X op a b (tCmp p ta tb) := by
  intro pins s σ H Q I h
  refine bin ha hb I h fun v u s2 x y H2 I2 rx ry q => ?_
  obtain ⟨i, j, rfl, rfl, q⟩ := q
  obtain ⟨t, rfl⟩ := rx
  obtain ⟨t', rfl⟩ := ry
  exact rule i j t t' _ s2 ⟨.bl _, H2, I2, rfl, q⟩
theorem pc_lt (ha : PE X a ta) (hb : PE X b tb) : PC X .Lt a b (tLt ta tb) := pc_int ha hb fun _ _ _ _ _ _ h => lt_int h
theorem pc_gt (ha : PE X a ta) (hb : PE X b tb) : PC X .Gt a b (tGt ta tb) := pc_int ha hb fun _ _ _ _ _ _ h => gt_int h
theorem pc_ge (ha : PE X a ta) (hb : PE X b tb) : PC X .GtE a b (tGe ta tb) := pc_int ha hb fun _ _ _ _ _ _ h => ge_int h
theorem pc_eqI (ha : PE X a ta) (hb : PE X b tb) : PC X .Eq a b (tEqI ta tb) := pc_int ha hb fun _ _ _ _ _ _ h => eq_int (by rw [Bool.beq_eq_decide_eq]; exact h)
theorem pc_neI (ha : PE X a ta) (hb : PE X b tb) : PC X .NotEq a b (tNeI ta tb) := pc_int ha hb fun _ _ _ _ _ _ h => ne_int (by rw [bne, Bool.beq_eq_decide_eq]; exact h)
noncomputable def tB (t : TE) : TT := fun σ H Q => t σ H fun x H1 => ∃ c, x = .bl c ∧ Q c H1
theorem pe_cmp {op : CmpOp} {t : TE} (h : PC X op a b t) (h1 : behindInMarks op b = false := by first | exact nobehind _ (by decide) (by decide) | rfl) : PE X (.Compare a [op] [b] pos) t := fun pins s σ H Q I hw => wpAny_Compare1 (h pins s σ H Q I hw) h1
theorem pt_cmp {op : CmpOp} {t : TE} (h : PC X op a b t) (h1 : behindInMarks op b = false := by first | exact nobehind _ (by decide) (by decide) | rfl) : PT X (.Compare a [op] [b] pos) (tB t) := by
  intro pins s σ H Q I hw
  refine wpAny_isTrue_Compare1 (thn (h pins s σ H _ I hw) fun v s1 h1 => thn h1 fun u s2 h2 => thn h2 fun c s3 zz => ?_) h1
  obtain ⟨x, H1, I1, r1, q1⟩ := zz
  obtain ⟨d, rfl, q⟩ := q1
  cases r1
  exact wpAny_truthy_bool ⟨H1, I1, q⟩
theorem pt_val {e : Expr} {t : TE} (h : PE X e t) (he : ∀ whole, isTrue e X.env whole = (do let v ← whole; standAt e.pos; holding [v] (truthy v)) := by intro _; rfl) : PT X e (tB t) := by
  intro pins s σ H Q I hw
  refine isTrue_plain (thn (h pins s σ H _ I hw) fun v s1 zz => ?_) (he _)
  obtain ⟨x, H1, I1, r1, q1⟩ := zz
  obtain ⟨d, rfl, q⟩ := q1
  cases r1
  exact wpAny_truthy_bool ⟨H1, I1, q⟩

variable {tA tB' : TT} {rest : List Expr}
noncomputable def tAnd (t u : TT) : TT := fun σ H Q => t σ H fun c H1 => if c = true then u σ H1 Q else Q false H1
noncomputable def tOr (t u : TT) : TT := fun σ H Q => t σ H fun c H1 => if c = true then Q true H1 else u σ H1 Q
noncomputable def tNot (t : TT) : TT := fun σ H Q => t σ H fun c H1 => Q (!c) H1
theorem pw_and1 (ha : PT X a tA) : PW X (.BoolOp .And [a] pos) tA := by
  intro wh pins s σ H Q I h
  refine isTrue_and (thn (ha pins s σ H Q I h) fun c s1 e => ?_)
  cases c with
  | true => exact isTrue_and_nil e
  | false => exact e
theorem pw_or1 (ha : PT X a tA) : PW X (.BoolOp .Or [a] pos) tA := by
  intro wh pins s σ H Q I h
  refine isTrue_or (thn (ha pins s σ H Q I h) fun c s1 e => ?_)
  cases c with
  | false => exact isTrue_or_nil e
  | true => exact e
theorem pw_and (ha : PT X a tA) (hb : PW X (.BoolOp .And (b :: rest) pos) tB') : PW X (.BoolOp .And (a :: b :: rest) pos) (tAnd tA tB') := by
  intro wh pins s σ H Q I h
  refine isTrue_and (thn (ha pins s σ H _ I h) fun c s1 zz => ?_)
  obtain ⟨H1, I1, q1⟩ := zz
  cases c with
  | true => exact hb wh pins s1 σ H1 Q I1 q1
  | false => exact ⟨H1, I1, q1⟩
theorem pw_or (ha : PT X a tA) (hb : PW X (.BoolOp .Or (b :: rest) pos) tB') : PW X (.BoolOp .Or (a :: b :: rest) pos) (tOr tA tB') := by
  intro wh pins s σ H Q I h
  refine isTrue_or (thn (ha pins s σ H _ I h) fun c s1 zz => ?_)
  obtain ⟨H1, I1, q1⟩ := zz
  cases c with
  | true => exact ⟨H1, I1, q1⟩
  | false => exact hb wh pins s1 σ H1 Q I1 q1
theorem pt_not (ha : PT X a tA) : PT X (.UnaryOp .Not a pos) (tNot tA) := by
  intro pins s σ H Q I h
  exact isTrue_not (ha pins s σ H (fun c H1 => Q (!c) H1) I h)
noncomputable def tAndV (ta tb : TE) : TE := fun σ H Q => ta σ H fun x H1 => ∃ c, x = .bl c ∧ if c = true then tb σ H1 Q else Q (.bl false) H1
noncomputable def tNotV (ta : TE) : TE := fun σ H Q => ta σ H fun x H1 => ∃ c, x = .bl c ∧ Q (.bl (!c)) H1
theorem pe_one {op} {t : TE} (h : PE X a t) : PE X (.BoolOp op [a] pos) t := fun pins s σ H Q I hw => BoolOp_one (h pins s σ H Q I hw)
theorem pe_and (ha : PE X a ta) (hb : PE X (.BoolOp .And (b :: rest) pos) tb) : PE X (.BoolOp .And (a :: b :: rest) pos) (tAndV ta tb) := by
  intro pins s σ H Q I h
  refine BoolOp_and (thn (ha pins s σ H _ I h) fun v s1 zz => ?_)
  obtain ⟨x, H1, I1, r1, q1⟩ := zz
  obtain ⟨c, rfl, q1⟩ := q1
  cases r1
  refine wpAny_truthy_bool ?_
  cases c with
  | true => exact hb pins s1 σ H1 Q I1 q1
  | false => exact ⟨.bl false, H1, I1, rfl, q1⟩
theorem pe_not (ha : PE X a ta) : PE X (.UnaryOp .Not a pos) (tNotV ta) := by
  intro pins s σ H Q I h
  refine UnaryOp_ (thn (ha pins s σ H _ I h) fun v s1 zz => ?_)
  obtain ⟨x, H1, I1, r1, q1⟩ := zz
  obtain ⟨c, rfl, q1⟩ := q1
  cases r1
  exact not_of (wpAny_truthy_bool ⟨.bl (!c), H1, I1, rfl, q1⟩)
noncomputable def tIf (t : TT) (ta tb : TE) : TE := fun σ H Q => t σ H fun c H1 => if c = true then ta σ H1 Q else tb σ H1 Q
theorem pe_ifExp {c : Expr} (hc : PT X c tA) (ha : PE X a ta) (hb : PE X b tb) : PE X (.IfExp c a b pos) (tIf tA ta tb) := by
  intro pins s σ H Q I h
  refine wpAny_IfExp (thn (hc pins s σ H _ I h) fun d s1 zz => ?_)
  obtain ⟨H1, I1, q1⟩ := zz
  cases d with
  | true => exact ha pins s1 σ H1 Q I1 q1
  | false => exact hb pins s1 σ H1 Q I1 q1
end
end L2

namespace L2
open PySem PySem.Spec PyProof.Rows

noncomputable def SqL (K : PySem.W.Frag) (H : Hp) (a : Addr) (xs : List V) : Prop :=
  Rd H a (.lst xs) ∨
    ∃ (o : Obj) (its : Array Value) (n : Nat), K.lookup a = some o ∧ o.cls = .type "list" ∧ o.dict = none ∧ o.data = .seq its n ∧ its.size ≤ sizeLine ∧ Vals xs its.toList
noncomputable def SqT (K : PySem.W.Frag) (H : Hp) (a : Addr) (xs : List V) : Prop :=
  Rd H a (.tup xs) ∨
    ∃ (o : Obj) (its : Array Value) (n : Nat), K.lookup a = some o ∧ o.cls = .type "tuple" ∧ o.data = .seq its n ∧ its.size ≤ sizeLine ∧ Vals xs its.toList
noncomputable def absV : Value → Option V
  | .none => some .non
  | .bool b => some (.bl b)
  | .int i _ => some (.int i)
  | .str x _ => some (.str x)
  | .bytes b _ => some (.byt b)
  | .float b _ => some (.flt b)
  | .ref a => some (.ref a)
  | .type n => some (.ty n)
  | _ => none
theorem RelV.abs {x : V} {u : Value} (r : RelV x u) : absV u = some x := by
  cases x with
  | non => cases r; rfl
  | bl _ => cases r; rfl
  | int _ => obtain ⟨t, rfl⟩ := r; rfl
  | str _ => obtain ⟨t, rfl⟩ := r; rfl
  | byt _ => obtain ⟨t, rfl⟩ := r; rfl
  | flt _ => obtain ⟨t, rfl⟩ := r; rfl
  | ref _ => cases r; rfl
  | ty _ => cases r; rfl
theorem RelV.inj {x y : V} {u : Value} (r : RelV x u) (q : RelV y u) : x = y := Option.some.inj (r.abs.symm.trans q.abs)
theorem Vals.inj : ∀ {xs ys : List V} {us : List Value}, Vals xs us → Vals ys us → xs = ys := by
  intro xs ys us a
  induction a generalizing ys with
  | nil => intro b; cases b; rfl
  | cons r t ih => intro b; cases b with | cons r' t' => rw [r.inj r', ih t']
section
variable {X : Cx} {pins : List (Addr × Obj)} {σ : St} {H : Hp} {s : Shared} {a : Addr} {xs ys : List V}
theorem SqL.of {K : PySem.W.Frag} (h : H a = some (.lst xs)) : SqL K H a xs := .inl (.inl h)
theorem SqT.of {K : PySem.W.Frag} (h : H a = some (.tup xs)) : SqT K H a xs := .inl (.inl h)
theorem Inv.list (I : Inv X pins σ H s) (h : SqL X.K H a xs) : ∃ its : List Value, Vals xs its ∧ PlainL s.heap a its.toArray ∧ xs.length ≤ sizeLine := by
  rcases h with h | ⟨o, its, n, hk, hc, hd, hs, hz, r⟩
  · obtain ⟨z, its, n, r, e⟩ := h.ok I.hok
    exact ⟨its, r, ⟨_, n, e, rfl, rfl, rfl⟩, z⟩
  · refine ⟨its.toList, r, ⟨o, n, I.kIn a o hk, hc, hd, by simpa using hs⟩, ?_⟩
    have e := r.length
    simp only [Array.length_toList] at e
    omega
theorem Inv.tuple (I : Inv X pins σ H s) (h : SqT X.K H a xs) : ∃ its : List Value, Vals xs its ∧ IsTup s.heap a its.toArray ∧ xs.length ≤ sizeLine := by
  rcases h with h | ⟨o, its, n, hk, hc, hs, hz, r⟩
  · obtain ⟨z, its, r, p⟩ := h.ok I.hok
    exact ⟨its, r, p, z⟩
  · refine ⟨its.toList, r, ⟨o, I.kIn a o hk, hc, n, by simpa using hs⟩, ?_⟩
    have e := r.length
    simp only [Array.length_toList] at e
    omega
theorem Inv.list_inj (I : Inv X pins σ H s) (h : SqL X.K H a xs) (h' : SqL X.K H a ys) : xs = ys := by
  obtain ⟨its, r, ⟨o, n, e, _, _, d⟩, _⟩ := I.list h
  obtain ⟨its', r', ⟨o', n', e', _, _, d'⟩, _⟩ := I.list h'
  rw [e] at e'; cases e'
  rw [d] at d'
  injection d' with d1 _
  have : its = its' := by simpa using congrArg Array.toList d1
  subst this
  exact r.inj r'
end

noncomputable abbrev Cx.wish (X : Cx) (E : Value → Shared → Prop) : Cx := { X with xe := E }
noncomputable abbrev Cx.nox (X : Cx) : Cx := X.wish fun _ _ => False
theorem Cx.Ok.wish {X : Cx} (ok : X.Ok) (E : Value → Shared → Prop) : (X.wish E).Ok :=
  ⟨ok.mod, ok.kind, ok.glob, ok.blt, ok.above, ok.inj, ok.has, ok.cab, ok.hd, ok.frames, ok.stk, ok.exf, ok.bs, ok.bsz, ok.noex, ok.exfs, ok.funs, ok.frf⟩
theorem Cx.Ok.unwish {X : Cx} {E : Value → Shared → Prop} (ok : (X.wish E).Ok) : X.Ok :=
  ⟨ok.mod, ok.kind, ok.glob, ok.blt, ok.above, ok.inj, ok.has, ok.cab, ok.hd, ok.frames, ok.stk, ok.exf, ok.bs, ok.bsz, ok.noex, ok.exfs, ok.funs, ok.frf⟩
section
variable {X : Cx} {pins : List (Addr × Obj)} {σ : St} {H : Hp} {s : Shared} {E : Value → Shared → Prop}
theorem Inv.wish (I : Inv X pins σ H s) (E : Value → Shared → Prop) : Inv (X.wish E) pins σ H s := ⟨I.ok.wish E, I.os, I.bare, I.base, I.loc, I.cell, I.free, I.freeC, I.pin, I.hok, I.len⟩
theorem Inv.unwish (I : Inv (X.wish E) pins σ H s) : Inv X pins σ H s := ⟨I.ok.unwish, I.os, I.bare, I.base, I.loc, I.cell, I.free, I.freeC, I.pin, I.hok, I.len⟩
theorem SP.unwish {D : Ends} {f : Flow} {s' : Shared} (h : SP (X.wish E) pins D f s') : SP X pins D f s' := by
  cases f with
  | next => obtain ⟨σ', H', I, q⟩ := h; exact ⟨σ', H', I.unwish, q⟩
  | brk => obtain ⟨σ', H', I, q⟩ := h; exact ⟨σ', H', I.unwish, q⟩
  | cont => obtain ⟨σ', H', I, q⟩ := h; exact ⟨σ', H', I.unwish, q⟩
  | ret u => obtain ⟨v, σ', H', I, r, q⟩ := h; exact ⟨v, σ', H', I.unwish, r, q⟩
theorem PSs.nox {st : List Stmt} {t : TS} (h : PSs X.nox st t) : PSs X st t := fun pins s σ H D I hw =>
  wpAny_mono (h pins s σ H D (I.wish _) hw) (fun _ _ q => q.unwish) fun _ _ z => False.elim z
end

section
variable {X : Cx} {st : Stmt} {rest : List Stmt} {t u : TS} {e : Expr} {te : TE} {pos : Pos}
noncomputable def tNext : TS := fun D σ H => D.nx σ H
noncomputable def tSeq (t u : TS) : TS := fun D σ H => t { D with nx := u D } σ H
theorem pss_nil : PSs X [] tNext := fun _ _ σ H _ I h => wpAny_execs_nil ⟨σ, H, I, h⟩
theorem pss_cons (h1 : PS X st t) (h2 : PSs X rest u) : PSs X (st :: rest) (tSeq t u) := by
  intro pins s σ H D I h
  refine wpAny_execs_cons (thn (h1 pins s σ H { D with nx := u D } I h) fun f s1 q => ?_)
  cases f with
  | next =>
    obtain ⟨σ', H', I', q⟩ := q
    exact h2 pins s1 σ' H' D I' q
  | ret v => exact q
  | brk => exact q
  | cont => exact q
theorem pss_one (h1 : PS X st t) : PSs X [st] t := by
  intro pins s σ H D I h
  refine wpAny_execs_cons (thn (h1 pins s σ H D I h) fun f s1 q => ?_)
  cases f with
  | next => exact wpAny_execs_nil q
  | ret v => exact q
  | brk => exact q
  | cont => exact q
noncomputable def tBreak : TS := fun D σ H => D.bk σ H
theorem ps_break : PS X (.Break pos) tBreak := fun _ _ σ H _ I h => wpAny_Break ⟨σ, H, I, h⟩
theorem Inv.quiet {pins : List (Addr × Obj)} {σ : St} {H : Hp} {s : Shared} (I : Inv X pins σ H s) : interactive X.env = false := by simp [interactive, I.ok.kind]
noncomputable def tDrop (te : TE) : TS := fun D σ H => te σ H fun _ H1 => D.nx σ H1
theorem ps_expr (he : PE X e te) (hs : swapsWith e none pos.line X.env = pure false := by rfl) : PS X (.Expr e pos) (tDrop te) := by
  intro pins s σ H D I h
  refine wpAny_Expr_any (thn (he pins s σ H _ I h) fun v s1 zz1 => ?_) I.quiet hs
  obtain ⟨x, H1, I1, r1, q1⟩ := zz1
  exact ⟨σ, H1, I1, q1⟩
noncomputable def tRet (te : TE) : TS := fun D σ H => te σ H D.rt
theorem ps_ret (he : PE X e te) : PS X (.Return (some e) pos) (tRet te) := by
  intro pins s σ H D I h
  refine wpAny_Return_some (thn (he pins s σ H _ I h) fun v s1 zz1 => ?_)
  obtain ⟨x, H1, I1, r1, q1⟩ := zz1
  exact ⟨x, σ, H1, I1, r1, q1⟩
noncomputable def tIfS (c : TT) (t u : TS) : TS := fun D σ H => c σ H fun b H1 => if b = true then t D σ H1 else u D σ H1
theorem ps_if {c : Expr} {a b : List Stmt} {tc : TT} (hc : PT X c tc) (ha : PSs X a t) (hb : PSs X b u) : PS X (.If c a b pos) (tIfS tc t u) := by
  intro pins s σ H D I h
  refine wpAny_If (thn (hc pins s σ H _ I h) fun d s1 zz => ?_)
  obtain ⟨H1, I1, q1⟩ := zz
  cases d with
  | true => exact ha pins s1 σ H1 D I1 q1
  | false => exact hb pins s1 σ H1 D I1 q1
noncomputable def tNever : TS := fun _ _ _ => False
theorem ps_never : PS X st tNever := fun _ _ _ _ _ _ h => h.elim
end

noncomputable abbrev TG := V → St → Hp → (St → Hp → Prop) → Prop
noncomputable abbrev TGs := List V → St → Hp → (St → Hp → Prop) → Prop
noncomputable def PG (X : Cx) (target : Expr) (t : TG) : Prop :=
  ∀ (pins : List (Addr × Obj)) (s : Shared) (σ : St) (H : Hp) (v : V) (u : Value) (Q : St → Hp → Prop), Inv X pins σ H s → RelV v u → t v σ H Q →
    wpAny (model X.prog X.w) X.A (assign target X.env u) (fun _ s' => ∃ σ' H', Inv X pins σ' H' s' ∧ Q σ' H') X.xe s
noncomputable def PGs (X : Cx) (ts : List Expr) (t : TGs) : Prop :=
  ∀ (pins : List (Addr × Obj)) (s : Shared) (σ : St) (H : Hp) (vs : List V) (us : List Value) (Q : St → Hp → Prop), Inv X pins σ H s → Vals vs us → t vs σ H Q →
    wpAny (model X.prog X.w) X.A (assignInOrder ((assignEach ts X.env).map (·.2)) us) (fun _ s' => ∃ σ' H', Inv X pins σ' H' s' ∧ Q σ' H') X.xe s
noncomputable abbrev TSet := V → V → V → Hp → (Hp → Prop) → Prop
noncomputable def PSet (X : Cx) (t : TSet) : Prop :=
  ∀ (pins : List (Addr × Obj)) (s : Shared) (σ : St) (H : Hp) (o i v : V) (ov iv u : Value) (Q : Hp → Prop), Inv X pins σ H s → RelV o ov → RelV i iv → RelV v u → t o i v H Q →
    wpAny (model X.prog X.w) X.A (setItem ov iv u) (fun _ s' => ∃ H', Inv X pins σ H' s' ∧ Q H') X.xe s
noncomputable abbrev TIp := V → V → Hp → VK → Prop
noncomputable def PIp (X : Cx) (op : Operator) (t : TIp) : Prop :=
  ∀ (pins : List (Addr × Obj)) (s : Shared) (σ : St) (H : Hp) (x y : V) (v u : Value) (Q : VK), Inv X pins σ H s → RelV x v → RelV y u → t x y H Q →
    wpAny (model X.prog X.w) X.A (inplaceOp op v u) (EP X pins σ Q) X.xe s
section
variable {X : Cx} {pos : Pos}
noncomputable def gName (i : Nat) : TG := fun v σ H Q => Q (σ.set i (some v)) H
theorem pg_name {i : Nat} {x : Str} (hN : X.N.Nodup) (hi : X.N[i]? = some x) (hx : Loc X.env.scope x) (hf : X.fn x = true ∨ X.env.scope.names.lookup x = some .local := by first | exact .inl rfl | exact .inr rfl | assumption) : PG X (.Name x pos) (gName i) := by
  intro pins s σ H v u Q I r h
  exact wpAny_assign_Name (store_ok I hN hi hx r (fun s' I' => ⟨_, H, I', h⟩) hf)
noncomputable def gNil : TGs := fun vs σ H Q => vs = [] ∧ Q σ H
noncomputable def gCons (t : TG) (u : TGs) : TGs := fun vs σ H Q => ∃ v r, vs = v :: r ∧ t v σ H fun σ' H' => u r σ' H' Q
theorem pgs_nil : PGs X [] gNil := by
  intro pins s σ H vs us Q I r h
  obtain ⟨e, h⟩ := h
  subst e
  cases r
  exact assignInOrder_nil ⟨σ, H, I, h⟩
theorem pgs_cons {e : Expr} {es : List Expr} {t : TG} {u : TGs} (h1 : PG X e t) (h2 : PGs X es u)
    (hs : (assignEach (e :: es) X.env).map (·.2) = assign e X.env :: (assignEach es X.env).map (·.2) := by rfl) : PGs X (e :: es) (gCons t u) := by
  intro pins s σ H vs us Q I r h
  obtain ⟨v, vr, e1, h⟩ := h
  subst e1
  cases r with
  | cons r rr =>
    rw [hs]
    refine assignInOrder_cons (thn (h1 pins s σ H _ _ _ I r h) fun _ s1 zz => ?_)
    obtain ⟨σ1, H1, I1, q1⟩ := zz
    exact h2 pins s1 σ1 H1 _ _ Q I1 rr q1
noncomputable def gTup (K : PySem.W.Frag) (n : Nat) (t : TGs) : TG := fun v σ H Q => ∃ a xs, v = .ref a ∧ SqT K H a xs ∧ xs.length = n ∧ t xs σ H Q
theorem pg_tup {es : List Expr} {k : Nat} {t : TGs} {n : Nat} (hc : X.calm = true) (h : PGs X es t)
    (hn : (assignEach es X.env).length = n := by rfl) (hst : (assignEach es X.env).findIdx? (·.1) = none := by rfl) : PG X (.Tuple es k pos) (gTup X.K n t) := by
  intro pins s σ H v u Q I r hw
  obtain ⟨a, xs, e1, hq, hl, hw⟩ := hw
  subst e1
  cases r
  obtain ⟨its, rv, ht, hz⟩ := I.tuple hq
  refine assign_Tuple_tuple (I.ok.hd hc) ht (by simp [hn, ← hl, rv.length]) hst fun h' hx => ?_
  have I1 : Inv X pins σ H { s with heap := h' } := I.kept (t' := s.toks) fun b o e => hx b o (Nat.ne_of_lt (Heap.lt_size e)) e
  exact h pins _ σ H xs _ Q I1 (by simpa using rv) hw
noncomputable def gSub (to ti : TE) (t : TSet) : TG := fun v σ H Q => to σ H fun o H1 => ti σ H1 fun i H2 => t o i v H2 fun H3 => Q σ H3
theorem pg_sub {o i : Expr} {to ti : TE} {t : TSet} (ho : PE X o to) (hi : PE X i ti) (hs : PSet X t)
    (ha : ∀ v, assign (.Subscript o i pos) X.env v = (do
      let ov ← holding [v] (eval o X.env)
      let iv ← holding [v, ov] (eval i X.env)
      standAt pos
      holding [v, ov, iv] (setItem ov iv v)
      release [v, ov, iv] []) := by intro _; rfl) : PG X (.Subscript o i pos) (gSub to ti t) := by
  intro pins s σ H v u Q I r h
  rw [ha]
  refine wpAny_bind (wpAny_holding (thn (ho pins s σ H _ I h) fun ov s1 zz => ?_))
  obtain ⟨x, H1, I1, r1, q1⟩ := zz
  refine wpAny_bind (wpAny_holding (thn (hi pins s1 σ H1 _ I1 q1) fun iv s2 zz => ?_))
  obtain ⟨y, H2, I2, r2, q2⟩ := zz
  refine wpAny_bind (wpAny_standAt (wpAny_bind (wpAny_holding (thn (hs pins s2 σ H2 x y v ov iv u _ I2 r1 r2 r q2) fun _ s3 zz => ?_))))
  obtain ⟨H3, I3, q3⟩ := zz
  exact wpAny_release ⟨σ, H3, I3, q3⟩
noncomputable def tAsg (te : TE) (g : TG) : TS := fun D σ H => te σ H fun x H1 => g x σ H1 D.nx
theorem ps_asg {tg e : Expr} {te : TE} {g : TG} (he : PE X e te) (hg : PG X tg g) (hs : swapsWithSole [tg] e pos.line X.env = pure false := by rfl) (hw : swappedStores [tg] e X.env = pure none := by rfl)
    (h1 : (assignEach [tg] X.env).map (·.2) = [assign tg X.env] := by rfl) : PS X (.Assign [tg] e pos) (tAsg te g) := by
  intro pins s σ H D I h
  refine wpAny_Assign_stores (thn (he pins s σ H _ I h) fun v s1 zz => ?_) hs hw
  obtain ⟨x, H1, I1, r1, q1⟩ := zz
  rw [h1]
  exact thn (hg pins s1 σ H1 x v _ I1 r1 q1) fun _ s2 q => q
theorem ps_set {i : Nat} {x : Str} {e : Expr} {te : TE} {pos' : Pos} (hN : X.N.Nodup) (hi : X.N[i]? = some x) (hx : Loc X.env.scope x) (he : PE X e te) (hs : swapsWith e (some (.Name x pos')) pos.line X.env = pure false := by rfl) (hf : X.fn x = true ∨ X.env.scope.names.lookup x = some .local := by first | exact .inl rfl | exact .inr rfl | assumption) :
    PS X (.Assign [.Name x pos'] e pos) (tAsg te (gName i)) := by
  intro pins s σ H D I h
  refine wpAny_Assign_Name (thn (he pins s σ H _ I h) fun v s1 zz => ?_) hs
  obtain ⟨y, H1, I1, r1, q1⟩ := zz
  exact store_ok I1 hN hi hx r1 (fun s2 I2 => ⟨_, H1, I2, q1⟩) hf
noncomputable def tAug (i : Nat) (te : TE) (ti : TIp) : TS := fun D σ H => ∃ x, σ[i]? = some (some x) ∧ te σ H fun y H1 => ti x y H1 fun z H2 => D.nx (σ.set i (some z)) H2
theorem ps_aug {i : Nat} {x : Str} {e : Expr} {te : TE} {op : Operator} {ti : TIp} {pos' : Pos} (hN : X.N.Nodup) (hi : X.N[i]? = some x) (hx : Loc X.env.scope x) (he : PE X e te) (ho : PIp X op ti) (hf : X.fn x = true ∨ X.env.scope.names.lookup x = some .local := by first | exact .inl rfl | exact .inr rfl | assumption) :
    PS X (.AugAssign (.Name x pos') op e pos) (tAug i te ti) := by
  intro pins s σ H D I h
  obtain ⟨v, e1, h⟩ := h
  obtain ⟨m, hn, hl⟩ := I.loc
  have vis : Vis X.env.scope x := by rcases hx with k | k; exact .inl k; exact .inr (.inl k)
  obtain ⟨u, r, l⟩ := hl i x v hi e1 vis
  refine wpAny_AugAssign_Name ?_
  have go : wpAny (model X.prog X.w) X.A (eval e X.env) (fun w s₂ => wpAny (model X.prog X.w) X.A (inplaceOp op u w) (fun r s₃ => wpAny (model X.prog X.w) X.A (storeName X.env x r) (fun _ => SP X pins D .next) X.xe s₃) X.xe s₂) X.xe s := by
    refine thn (he pins s σ H _ I h) fun w s1 zz => ?_
    obtain ⟨y, H1, I1, r1, q1⟩ := zz
    refine thn (ho pins s1 σ H1 v y u w _ I1 r r1 q1) fun z s2 zz => ?_
    obtain ⟨zv, H2, I2, r2, q2⟩ := zz
    exact store_ok I2 hN hi hx r2 (fun s3 I3 => ⟨_, H2, I3, q2⟩) hf
  rcases l with ⟨hk, hm⟩ | ⟨hk, c, hc, hcell⟩
  · exact wpAny_loadName_local I.ok.kind hk hn hm go
  · rcases hk with hk | hk
    · exact wpAny_loadName_cell I.ok.kind hk hc hcell go
    · rcases hx with k | k
      · have : X.env.scope.names.lookup x = some .free := hk
        rw [k] at this; cases this
      · have : X.env.scope.names.lookup x = some .free := hk
        rw [k] at this; cases this
noncomputable def ipI (f : Int → Int → Int) : TIp := fun x y H Q => ∃ i j, x = .int i ∧ y = .int j ∧ Q (.int (f i j)) H
theorem ip_add : PIp X .Add (ipI fun i j => i + j) := by
  intro pins s σ H x y v u Q I r1 r2 h
  obtain ⟨i, j, e1, e2, q⟩ := h
  subst e1; subst e2
  obtain ⟨t, rfl⟩ := r1
  obtain ⟨t', rfl⟩ := r2
  exact iadd_int ⟨.int _, H, I.tok _, ⟨_, rfl⟩, q⟩
end

section
variable {X : Cx} {pos : Pos}
noncomputable def tWhile (c : TT) (tb : TS) : TS := fun D σ H => ∃ W : Nat → St → Hp → Prop, (∃ m, W m σ H) ∧ ∀ m σ H, W m σ H →
  c σ H fun b H1 => if b = true then ∃ N : St → Hp → Prop, (∀ σ' H', N σ' H' → ∃ m', m' < m ∧ W m' σ' H') ∧ tb { D with nx := N, ct := N, bk := D.nx } σ H1 else D.nx σ H1
theorem ps_while {c : Expr} {body : List Stmt} {tc : TT} {tb : TS} (hp : PassesOwn (model X.prog X.w) X.A X.env X.xe) (hc : PT X c tc) (hb : PSs X body tb) : PS X (.While c body [] pos) (tWhile tc tb) := by
  intro pins s σ H D I h
  obtain ⟨W, ⟨m0, w0⟩, turn⟩ := h
  refine wpAny_While (codeAny_whileLoop (fun n s' => ∃ σ' H', Inv X pins σ' H' s' ∧ W n σ' H') ?_ m0 ⟨σ, H, I, w0⟩)
  rintro n s1 ⟨σ1, H1, I1, w1⟩
  refine wpAny_passesOwn hp (thn (hc pins s1 σ1 H1 _ I1 (turn n σ1 H1 w1)) fun b s2 zz => ?_)
  obtain ⟨H2, I2, q2⟩ := zz
  cases b with
  | true =>
    obtain ⟨N, hN, q2⟩ := q2
    rw [if_pos rfl]
    refine wpAny_passesOwn hp (thn (hb pins s2 σ1 H2 _ I2 q2) fun f s3 q3 => ?_)
    cases f with
    | next =>
      obtain ⟨σ3, H3, I3, n3⟩ := q3
      obtain ⟨m', hm, w3⟩ := hN σ3 H3 n3
      exact ⟨m', hm, σ3, H3, I3, w3⟩
    | cont =>
      obtain ⟨σ3, H3, I3, n3⟩ := q3
      obtain ⟨m', hm, w3⟩ := hN σ3 H3 n3
      exact ⟨m', hm, σ3, H3, I3, w3⟩
    | brk => exact q3
    | ret v => exact q3
  | false =>
    rw [if_neg Bool.false_ne_true]
    exact wpAny_execs_nil ⟨σ1, H2, I2, q2⟩
end

set_option genInjectivity false in
structure It where
  go : Nat → Hp → Prop
  yld : Nat → Hp → V → Hp → Prop
  stop : Nat → Hp → Prop
noncomputable def FpOk (X : Cx) (pins : List (Addr × Obj)) (H : Hp) (b : Addr) : Prop :=
  H b = none ∧ b ≠ X.env.locals ∧ b ∉ X.fs ∧ (b ∈ X.ex ∨ X.s₀.heap.objs.size ≤ b) ∧ (∀ x c, X.env.cells.lookup x = some c → c ≠ b) ∧ ∀ p ∈ X.pn ++ pins, p.1 ≠ b
theorem Inv.fpOk {X : Cx} {pins : List (Addr × Obj)} {σ : St} {H H' : Hp} {s : Shared} {b : Addr} (I : Inv X pins σ H s) (hb : s.heap.objs.size ≤ b) (hn : H' b = none) : FpOk X pins H' b := by
  refine ⟨hn, Nat.ne_of_gt (Nat.lt_of_lt_of_le I.lt hb), I.nofs hb, .inr (Nat.le_trans I.sz hb), fun x c e z => ?_, fun p hp z => ?_⟩
  · obtain ⟨v, q⟩ := I.cell x c e
    exact absurd (Nat.lt_of_lt_of_le q.lt (by rw [z]; exact hb)) (Nat.lt_irrefl _)
  · exact absurd (Nat.lt_of_lt_of_le (Heap.lt_size (I.pin p hp).1) (by rw [z]; exact hb)) (Nat.lt_irrefl _)
structure Turn (P : Program) (w : World) (K : PySem.W.Frag) (tg : Expr) (J : It) (fp : List Addr) (it : Addr) (tn : Nat → Heap → Prop) : Prop where
  mem : it ∈ fp
  obj : ∀ i h, tn i h → ∀ b ∈ fp, ∃ o, h.get? b = some o ∧ ∀ v, o.data ≠ .cell v
  keep : ∀ i h h', tn i h → (∀ b ∈ fp, ∀ o, h.get? b = some o → h'.get? b = some o) → tn i h'
  item : ∀ (X : Cx), X.prog = P → X.w = w → X.K = K → X.calm = true → ∀ (i : Nat) (pins : List (Addr × Obj)) (s : Shared) (σ : St) (H : Hp) (E : Value → Shared → Prop), Inv X pins σ H s → (∀ b ∈ fp, FpOk X pins H b) → tn i s.heap → J.go i H →
    wpAny (model P w) X.A (pyNext (.ref it)) (fun r s1 => ∃ u, r = some u ∧
      wpAny (model P w) X.A (letOwnedTupleGo tg (.ref it) u) (fun _ s2 => ∃ x H', Inv X pins σ H' s2 ∧ RelV x u ∧ J.yld i H x H' ∧ tn (i + 1) s2.heap ∧ ∀ b ∈ fp, H' b = none) E s1) E s
  done : ∀ (X : Cx), X.prog = P → X.w = w → X.K = K → X.calm = true → ∀ (i : Nat) (pins : List (Addr × Obj)) (s : Shared) (σ : St) (H : Hp) (E : Value → Shared → Prop), Inv X pins σ H s → (∀ b ∈ fp, FpOk X pins H b) → tn i s.heap → J.stop i H →
    wpAny (model P w) X.A (pyNext (.ref it)) (fun r s1 => r = none ∧ Inv X pins σ H s1) E s
  self : ∀ (A : Around) (i : Nat) (s : Shared) (Q : Value → Shared → Prop) (E : Value → Shared → Prop), tn i s.heap → Q (.ref it) s → wpAny (model P w) A (pyIter (.ref it)) Q E s
noncomputable abbrev TI := St → Hp → (It → Hp → Prop) → Prop
noncomputable def PIE (X : Cx) (pins : List (Addr × Obj)) (σ : St) (tg : Expr) (R : It → Hp → Prop) (itv : Value) (s2 : Shared) : Prop :=
  ∃ (it : Addr) (fp : List Addr) (tn : Nat → Heap → Prop) (J : It) (H' : Hp), itv = .ref it ∧ Inv X pins σ H' s2 ∧ Turn X.prog X.w X.K tg J fp it tn ∧ tn 0 s2.heap ∧ (∀ b ∈ fp, FpOk X pins H' b) ∧ R J H'
noncomputable def PI (X : Cx) (tg iter : Expr) (wi : TI) : Prop :=
  ∀ (pins : List (Addr × Obj)) (s : Shared) (σ : St) (H : Hp) (R : It → Hp → Prop), Inv X pins σ H s → wi σ H R →
    wpAny (model X.prog X.w) X.A (eval iter X.env) (fun v s1 => wpAny (model X.prog X.w) X.A (pyIter v) (PIE X pins σ tg R) X.xe s1) X.xe s

theorem go_of {M : Model} {A : Around} {E : Value → Shared → Prop} {s : Shared} {tg : Expr} {it : Addr} {u : Value} {o : Obj} {n : String} {vs : Array Value} {Q : Unit → Shared → Prop} (ho : s.heap.get? it = some o) (hc : o.cls = .type n) (hd : o.data = .fields vs)
    (hn : ["enumerate", "zip", "dict_itemiterator", "dict_reverseitemiterator", "odict_iterator", "itertools.zip_longest", "itertools.pairwise"].contains n = false) (hQ : Q () s) : wpAny M A (letOwnedTupleGo tg (.ref it) u) Q E s := by
  unfold letOwnedTupleGo
  cases tg <;> first
    | exact wpAny_pure hQ
    | (cases u <;> first
        | exact wpAny_pure hQ
        | (refine wpAny_bind (wpAny_load ho ?_)
           rw [hc, hd]
           show wpAny M A (if (["enumerate", "zip", "dict_itemiterator", "dict_reverseitemiterator", "odict_iterator", "itertools.zip_longest", "itertools.pairwise"].contains n && vs[0]? == some (rawInt _)) = true then _ else _) Q E s
           rw [if_neg (by intro h; rw [hn, Bool.false_and] at h; cases h)]
           exact wpAny_pure hQ))

noncomputable def Itl (K : PySem.W.Frag) (a : Addr) : It :=
  ⟨fun i H => ∃ xs x, SqL K H a xs ∧ xs[i]? = some x, fun i H x H' => H' = H ∧ ∀ xs, SqL K H a xs → xs[i]? = some x, fun i H => ∃ xs, SqL K H a xs ∧ xs.length ≤ i⟩
noncomputable def Itr (lo : Int) (n : Nat) : It := ⟨fun i _ => i < n, fun i H x H' => H' = H ∧ x = .int (lo + i), fun i _ => n ≤ i⟩
theorem turn_list {P : Program} {w : World} {K : PySem.W.Frag} {tg : Expr} (a it : Addr) : Turn P w K tg (Itl K a) [it] it (fun i h => h.IsListIter it a i) where
  mem := by simp
  obj := fun i h st b hb => by
    have e : b = it := by simpa using hb
    subst e
    obtain ⟨o, e, c, d⟩ := st
    exact ⟨o, e, fun v z => by rw [d] at z; cases z⟩
  keep := fun i h h' st k => st.at fun o e => k it (by simp) o e
  item := by
    intro X hP hw hK hc i pins s σ H E I hf st hg
    subst hP hw hK
    obtain ⟨xs, x, hq, hx⟩ := hg
    obtain ⟨its, rv, p, hz⟩ := I.list hq
    obtain ⟨u, hu, ru⟩ := rv.get hx
    obtain ⟨f0, f1, f2, f3, f4, f5⟩ := hf it (by simp)
    refine wpAny_pyNext_list_item st p.isList (x := u) (by simpa using hu) fun h' st' sb => ?_
    have I1 : Inv X pins σ H { s with heap := h' } := I.turned (t' := s.toks) (fun b o hb e => (sb.2 b hb).trans e) f0 f1 f3 f4 f5
    obtain ⟨o, e, c, d⟩ := id st'
    exact ⟨u, rfl, go_of (s := { s with heap := h' }) e c d (by decide) ⟨x, H, I1, ru, ⟨rfl, fun ys hy => by rw [I.list_inj hy hq]; exact hx⟩, st', fun b hb => (hf b hb).1⟩⟩
  done := by
    intro X hP hw hK hc i pins s σ H E I hf st hg
    subst hP hw hK
    obtain ⟨xs, hq, hx⟩ := hg
    obtain ⟨its, rv, p, hz⟩ := I.list hq
    obtain ⟨f0, f1, f2, f3, f4, f5⟩ := hf it (by simp)
    have hl := rv.length
    exact wpAny_pyNext_list_end (I.ok.hd hc) st p.isList (by simp; omega) fun h' eb => ⟨rfl, I.turned (t' := s.toks) (fun b o hb e => eb b o hb e) f0 f1 f3 f4 f5⟩
  self := fun _ _ _ _ _ st h => wpAny_pyIter_listiter st h
theorem turn_range {P : Program} {w : World} {K : PySem.W.Frag} {tg : Expr} (it : Addr) (lo : Int) (n : Nat) : Turn P w K tg (Itr lo n) [it] it (fun i h => IsRangeIter h it (lo + (i : Nat) * 1) ((n : Int) - (i : Nat)) 1) where
  mem := by simp
  obj := fun i h st b hb => by
    have e : b = it := by simpa using hb
    subst e
    exact ⟨_, st, fun v z => by
      have z' : Data.fields _ = Data.cell v := z
      cases z'⟩
  keep := fun i h h' st k => k it (by simp) _ st
  item := by
    intro X hP hw hK hc i pins s σ H E I hf st hg
    subst hP hw hK
    obtain ⟨f0, f1, f2, f3, f4, f5⟩ := hf it (by simp)
    have W := Walks.range (prog := X.prog) (w := X.w) (I.ok.hd hc) it lo 1 n
    refine W.item i s _ _ hg st fun v h' tk hv st' kk => ?_
    obtain ⟨t, rfl⟩ := hv
    have I1 : Inv X pins σ H { s with heap := h', toks := tk } := I.turned (fun b o hb e => kk b o (by simpa using hb) e) f0 f1 f3 f4 f5
    refine ⟨_, rfl, go_of (s := { s with heap := h', toks := tk }) (n := "range_iterator") st' rfl rfl (by decide) ⟨.int (lo + i), H, I1, ⟨t, ?_⟩, ⟨rfl, rfl⟩, st', fun b hb => (hf b hb).1⟩⟩
    rw [Int.mul_one]
  done := by
    intro X hP hw hK hc i pins s σ H E I hf st hg
    subst hP hw hK
    obtain ⟨f0, f1, f2, f3, f4, f5⟩ := hf it (by simp)
    exact wpAny_pyNext_range_end (I.ok.hd hc) st (by have : n ≤ i := hg; omega) fun h' eb => ⟨rfl, I.turned (t' := s.toks) (fun b o hb e => eb b o hb e) f0 f1 f3 f4 f5⟩
  self := fun _ _ _ _ _ st h => wpAny_pyIter_rangeiter st h
end L2

namespace L2
open PySem PySem.Spec PyProof.Rows
section
variable {X : Cx} {tg : Expr}
noncomputable def iList (K : PySem.W.Frag) (tl : TE) : TI := fun σ H R => tl σ H fun x H1 => ∃ a, x = .ref a ∧ (∃ xs, SqL K H1 a xs) ∧ R (Itl K a) H1
theorem pi_list {l : Expr} {tl : TE} (hl : PE X l tl) : PI X tg l (iList X.K tl) := by
  intro pins s σ H R I h
  refine thn (hl pins s σ H _ I h) fun v s1 zz => ?_
  obtain ⟨x, H1, I1, r1, q1⟩ := zz
  obtain ⟨a, e, ⟨xs, hq⟩, q⟩ := q1
  subst e
  cases r1
  obtain ⟨its, rv, p, hz⟩ := I1.list hq
  refine wpAny_pyIter_list p.isList ?_
  refine ⟨s1.heap.objs.size, [s1.heap.objs.size], _, _, H1, rfl, I1.kept (t' := s1.toks) fun b o e => Heap.get?_push_of_some _ e, turn_list a _, ⟨_, Heap.get?_push_size _ rfl, rfl, rfl⟩, fun b hb => ?_, q⟩
  have e : b = s1.heap.objs.size := by simpa using hb
  subst e
  exact I1.fpOk (Nat.le_refl _) (I1.hok.fresh (Nat.le_refl _))
theorem range_it {pins : List (Addr × Obj)} {σ : St} {H : Hp} {s : Shared} {R : It → Hp → Prop} {E : Value → Shared → Prop} {lo hi : Int} {t u v : Tok} {tk : Nat} (I : Inv X pins σ H s) (h1 : -(2 ^ 62) ≤ lo) (h2 : lo < 2 ^ 62) (h3 : -(2 ^ 62) ≤ hi) (h4 : hi < 2 ^ 62)
    (q : R (Itr lo (hi - lo).toNat) H) : wpAny (model X.prog X.w) X.A (pyIter (.ref s.heap.objs.size)) (PIE X pins σ tg R) E { s with heap := s.heap.push { cls := .type "range", data := .fields #[.int lo t, .int hi u, .int 1 v] }, toks := tk } := by
  refine wpAny_pyIter_range (IsRange.new ..) (small_one h1 h2 h3 h4) ?_
  have I1 : Inv X pins σ H { s with heap := s.heap.push { cls := .type "range", data := .fields #[.int lo t, .int hi u, .int 1 v] }, toks := tk } := I.kept fun b o e => Heap.get?_push_of_some _ e
  refine ⟨(s.heap.push { cls := .type "range", data := .fields #[.int lo t, .int hi u, .int 1 v] }).objs.size, [(s.heap.push { cls := .type "range", data := .fields #[.int lo t, .int hi u, .int 1 v] }).objs.size], _, _, H, rfl,
    I1.kept (t' := tk) fun b o e => Heap.get?_push_of_some _ e, turn_range _ lo (hi - lo).toNat, ?_, fun b hb => ?_, q⟩
  · have e1 : lo + ((0 : Nat) : Int) * 1 = lo := by simp
    have e2 : (((hi - lo).toNat : Nat) : Int) - ((0 : Nat) : Int) = Builtin.Range.rangeSize lo hi 1 := by rw [rangeSize_one]; split <;> omega
    show IsRangeIter _ _ (lo + ((0 : Nat) : Int) * 1) ((((hi - lo).toNat : Nat) : Int) - ((0 : Nat) : Int)) 1
    rw [e1, e2]
    exact Heap.get?_push_size _ rfl
  · have e : b = (s.heap.push { cls := .type "range", data := .fields #[.int lo t, .int hi u, .int 1 v] }).objs.size := by simpa using hb
    subst e
    exact I1.fpOk (Nat.le_refl _) (I1.hok.fresh (Nat.le_refl _))
noncomputable def iRng1 (ta : TA) : TI := fun σ H R => ta σ H fun vs H1 => ∃ j : Int, vs = [.int j] ∧ -(2 ^ 62) ≤ j ∧ j < 2 ^ 62 ∧ R (Itr 0 j.toNat) H1
noncomputable def iRng2 (ta : TA) : TI := fun σ H R => ta σ H fun vs H1 => ∃ i j : Int, vs = [.int i, .int j] ∧ (-(2 ^ 62) ≤ i ∧ i < 2 ^ 62 ∧ -(2 ^ 62) ≤ j ∧ j < 2 ^ 62) ∧ R (Itr i (j - i).toNat) H1
theorem pi_range1 {a : Expr} {ta : TA} {p pos : Pos} (hg : Gl X "range") (hm : X.mg "range" = none) (ha : PA X [a] ta) (hs : starEach [a] X.env = [(false, eval a X.env)] := by rfl) : PI X tg (.Call (.Name "range" p) [a] [] pos) (iRng1 ta) := by
  intro pins s σ H R I h
  refine Call_ (ld_blt I hg hm boot_range (PyProof.Rows.callWith_type1 (thn (ha pos pins s σ H _ I h) fun us s1 zz => ?_) hs rfl))
  obtain ⟨vs, H1, I1, r1, q1⟩ := zz
  obtain ⟨j, e, q1, q2, q⟩ := q1
  subst e
  cases r1 with
  | cons r rr =>
    cases rr
    obtain ⟨t, rfl⟩ := r
    exact call_range_1 (range_it I1 (by (clear q1 q2; omega)) (by (clear q1 q2; omega)) q1 q2 (by simpa using q))
theorem pi_range2 {a b : Expr} {ta : TA} {p pos : Pos} (hg : Gl X "range") (hm : X.mg "range" = none) (ha : PA X [a, b] ta) (hs : starEach [a, b] X.env = [(false, eval a X.env), (false, eval b X.env)] := by rfl) (hs2 : starEach [b] X.env = [(false, eval b X.env)] := by rfl) :
    PI X tg (.Call (.Name "range" p) [a, b] [] pos) (iRng2 ta) := by
  intro pins s σ H R I h
  refine Call_ (ld_blt I hg hm boot_range (PyProof.Rows.callWith_type1 (thn (ha pos pins s σ H _ I h) fun us s1 zz => ?_) (by rw [hs, hs2]) (by rw [hs2]; rfl)))
  obtain ⟨vs, H1, I1, r1, q1⟩ := zz
  obtain ⟨i, j, e, ⟨q1, q2, q3, q4⟩, q⟩ := q1
  subst e
  cases r1 with
  | cons r rr =>
    cases rr with
    | cons r' rr =>
      cases rr
      obtain ⟨t, rfl⟩ := r
      obtain ⟨t', rfl⟩ := r'
      exact call_range_2 (range_it I1 q1 q2 q3 q4 q)

noncomputable def tFor (wi : TI) (g : TG) (tb : TS) : TS := fun D σ H => wi σ H fun J H1 => ∃ W : Nat → Nat → St → Hp → Prop, (∃ m, W 0 m σ H1) ∧ ∀ i m σ H, W i m σ H →
  (J.stop i H ∧ D.nx σ H) ∨ (J.go i H ∧ ∃ N : St → Hp → Prop, (∀ σ' H', N σ' H' → ∃ m', m' < m ∧ W (i + 1) m' σ' H') ∧ ∀ x H', J.yld i H x H' → g x σ H' fun σ2 H2 => tb { D with nx := N, ct := N, bk := D.nx } σ2 H2)
noncomputable def pinsAt (fp : List Addr) (h : Heap) : List (Addr × Obj) := fp.filterMap fun b => (h.get? b).map fun o => (b, o)
theorem mem_pinsAt {fp : List Addr} {h : Heap} {b : Addr} {o : Obj} (hb : b ∈ fp) (e : h.get? b = some o) : (b, o) ∈ pinsAt fp h := List.mem_filterMap.mpr ⟨b, hb, by rw [e]; rfl⟩
theorem of_pinsAt {fp : List Addr} {h : Heap} {p : Addr × Obj} (hp : p ∈ pinsAt fp h) : p.1 ∈ fp ∧ h.get? p.1 = some p.2 := by
  obtain ⟨b, hb, e⟩ := List.mem_filterMap.mp hp
  cases q : h.get? b with
  | none => rw [q] at e; cases e
  | some o =>
    rw [q] at e
    have e' : (b, o) = p := Option.some.inj e
    subst e'
    exact ⟨hb, q⟩
theorem Inv.pinned {pins : List (Addr × Obj)} {σ : St} {H : Hp} {s : Shared} {fp : List Addr} (I : Inv X pins σ H s) (hf : ∀ b ∈ fp, FpOk X pins H b) (ho : ∀ b ∈ fp, ∃ o, s.heap.get? b = some o ∧ ∀ v, o.data ≠ .cell v) : Inv X (pins ++ pinsAt fp s.heap) σ H s :=
  I.pins_of fun p hp => (List.mem_append.mp hp).elim (fun z => I.pin p (List.mem_append_right _ z)) fun z => by
    obtain ⟨hb, e⟩ := of_pinsAt z
    obtain ⟨f0, f1, f2, _⟩ := hf p.1 hb
    obtain ⟨o, e', d⟩ := ho p.1 hb
    rw [e] at e'; cases e'
    exact ⟨e, f0, f1, f2, d⟩
theorem Inv.unpinned {pins pl : List (Addr × Obj)} {σ : St} {H : Hp} {s : Shared} (I : Inv X (pins ++ pl) σ H s) : Inv X pins σ H s := I.pins_of fun p hp => I.pin p (List.mem_append_right _ (List.mem_append_left _ hp))
theorem ps_for {iter : Expr} {body : List Stmt} {wi : TI} {g : TG} {tb : TS} {pos : Pos} (hp : PassesOwn (model X.prog X.w) X.A X.env X.xe) (hc : X.calm = true) (hi : PI X tg iter wi) (hg : PG X tg g) (hb : PSs X body tb)
    (hs : ∀ x, foldedSetIterable iter X.env x = pure x := by intro _; rfl) : PS X (.For tg iter body [] pos) (tFor wi g tb) := by
  intro pins s σ H D I h
  refine wpAny_For (thn (hi pins s σ H _ I h) fun v s1 h1 => thn h1 fun itv s2 h2 => ?_) hs
  obtain ⟨it, fp, tn, J, H2, e, I2, T, st2, f2, W, ⟨m0, w0⟩, turn⟩ := h2
  subst e
  -- what stays true of the iterator's objects through the loop
  have stat : ∀ {H' : Hp}, (∀ b ∈ fp, H' b = none) → ∀ b ∈ fp, FpOk X pins H' b := fun hn b hb => ⟨hn b hb, (f2 b hb).2⟩
  refine codeAny_forLoop_any (fun n s' => ∃ i σ' H', Inv X pins σ' H' s' ∧ tn i s'.heap ∧ (∀ b ∈ fp, H' b = none) ∧ W i n σ' H') ?_ m0 ⟨0, σ, H2, I2, st2, fun b hb => (f2 b hb).1, w0⟩
  rintro n s3 ⟨i, σ3, H3, I3, st3, fr3, w3⟩
  rcases turn i n σ3 H3 w3 with ⟨stop, qn⟩ | ⟨go, N, hN, step⟩
  · refine wpAny_passesOwn hp (thn (T.done X rfl rfl rfl hc i pins s3 σ3 H3 X.xe I3 (stat fr3) st3 stop) fun r s4 ⟨hr, I4⟩ => ?_)
    subst hr
    exact wpAny_execs_nil ⟨σ3, H3, I4, qn⟩
  · refine wpAny_passesOwn hp (thn (T.item X rfl rfl rfl hc i pins s3 σ3 H3 X.xe I3 (stat fr3) st3 go) fun r s4 zz => ?_)
    obtain ⟨u, hr, h4⟩ := zz
    subst hr
    refine wpAny_passesOwn hp (thn h4 fun _ s5 zz => ?_)
    obtain ⟨x, H5, I5, r5, y5, st5, fr5⟩ := zz
    have I5' := I5.pinned (stat fr5) (T.obj _ _ st5)
    refine wpAny_passesOwn hp (thn (hg _ s5 σ3 H5 x u _ I5' r5 (step x H5 y5)) fun _ s6 zz => ?_)
    obtain ⟨σ6, H6, I6, q6⟩ := zz
    refine wpAny_passesOwn hp (thn (hb _ s6 σ6 H6 _ I6 q6) fun f s7 q7 => ?_)
    have again : ∀ {σ7 : St} {H7 : Hp}, Inv X (pins ++ pinsAt fp s5.heap) σ7 H7 s7 → N σ7 H7 → ∃ m, m < n ∧ ∃ i σ' H', Inv X pins σ' H' s7 ∧ tn i s7.heap ∧ (∀ b ∈ fp, H' b = none) ∧ W i m σ' H' := fun {σ7 H7} I7 n7 => by
      obtain ⟨m', hm, w7⟩ := hN σ7 H7 n7
      refine ⟨m', hm, i + 1, σ7, H7, I7.unpinned, T.keep _ _ _ st5 fun b hb o e => (I7.pin (b, o) (List.mem_append_right _ (List.mem_append_right _ (mem_pinsAt hb e)))).1, fun b hb => ?_, w7⟩
      obtain ⟨o, e, d⟩ := T.obj _ _ st5 b hb
      exact (I7.pin (b, o) (List.mem_append_right _ (List.mem_append_right _ (mem_pinsAt hb e)))).2.1
    cases f with
    | next => obtain ⟨σ7, H7, I7, n7⟩ := q7; exact again I7 n7
    | cont => obtain ⟨σ7, H7, I7, n7⟩ := q7; exact again I7 n7
    | brk => obtain ⟨σ7, H7, I7, q7⟩ := q7; exact ⟨σ7, H7, I7.unpinned, q7⟩
    | ret v => obtain ⟨x7, σ7, H7, I7, r7, q7⟩ := q7; exact ⟨x7, σ7, H7, I7.unpinned, r7, q7⟩
end

theorem for_list {K : PySem.W.Frag} {a : Addr} {xs : List V} {g : TG} {tb : TS} {D : Ends} {σ : St} {H : Hp} (Pv : Nat → St → Hp → Prop) (h0 : Pv 0 σ H) (hl : ∀ i σ H, i ≤ xs.length → Pv i σ H → SqL K H a xs)
    (hs : ∀ i x σ H, xs[i]? = some x → Pv i σ H → g x σ H fun σ2 H2 => tb { D with nx := Pv (i + 1), ct := Pv (i + 1), bk := D.nx } σ2 H2) (hd : ∀ σ H, Pv xs.length σ H → D.nx σ H) :
    ∃ W : Nat → Nat → St → Hp → Prop, (∃ m, W 0 m σ H) ∧ ∀ i m σ H, W i m σ H →
      ((Itl K a).stop i H ∧ D.nx σ H) ∨ ((Itl K a).go i H ∧ ∃ N : St → Hp → Prop, (∀ σ' H', N σ' H' → ∃ m', m' < m ∧ W (i + 1) m' σ' H') ∧ ∀ x H', (Itl K a).yld i H x H' → g x σ H' fun σ2 H2 => tb { D with nx := N, ct := N, bk := D.nx } σ2 H2) := by
  refine ⟨fun i m σ H => m = xs.length - i ∧ i ≤ xs.length ∧ Pv i σ H, ⟨xs.length, by simp, Nat.zero_le _, h0⟩, ?_⟩
  rintro i m σ H ⟨rfl, hi, p⟩
  have q := hl i σ H hi p
  by_cases hlt : i < xs.length
  · refine .inr ⟨⟨xs, xs[i], q, by simp [hlt]⟩, Pv (i + 1), fun σ' H' p' => ⟨xs.length - (i + 1), Nat.sub_succ_lt_self _ _ hlt, rfl, hlt, p'⟩, fun x H' y => ?_⟩
    obtain ⟨e, y⟩ := y
    subst e
    exact hs i x σ _ (y xs q) p
  · have e : i = xs.length := by omega
    subst e
    exact .inl ⟨⟨xs, q, Nat.le_refl _⟩, hd σ H p⟩
theorem for_range {lo : Int} {n : Nat} {g : TG} {tb : TS} {D : Ends} {σ : St} {H : Hp} (Pv : Nat → St → Hp → Prop) (h0 : Pv 0 σ H)
    (hs : ∀ i σ H, i < n → Pv i σ H → g (.int (lo + i)) σ H fun σ2 H2 => tb { D with nx := Pv (i + 1), ct := Pv (i + 1), bk := D.nx } σ2 H2) (hd : ∀ σ H, Pv n σ H → D.nx σ H) :
    ∃ W : Nat → Nat → St → Hp → Prop, (∃ m, W 0 m σ H) ∧ ∀ i m σ H, W i m σ H →
      ((Itr lo n).stop i H ∧ D.nx σ H) ∨ ((Itr lo n).go i H ∧ ∃ N : St → Hp → Prop, (∀ σ' H', N σ' H' → ∃ m', m' < m ∧ W (i + 1) m' σ' H') ∧ ∀ x H', (Itr lo n).yld i H x H' → g x σ H' fun σ2 H2 => tb { D with nx := N, ct := N, bk := D.nx } σ2 H2) := by
  refine ⟨fun i m σ H => m = n - i ∧ i ≤ n ∧ Pv i σ H, ⟨n, by simp, Nat.zero_le _, h0⟩, ?_⟩
  rintro i m σ H ⟨rfl, hi, p⟩
  by_cases hlt : i < n
  · refine .inr ⟨hlt, Pv (i + 1), fun σ' H' p' => ⟨n - (i + 1), Nat.sub_succ_lt_self _ _ hlt, rfl, hlt, p'⟩, fun x H' y => ?_⟩
    obtain ⟨e, y⟩ := y
    subst e y
    exact hs i σ _ hlt p
  · have e : i = n := by omega
    subst e
    exact .inl ⟨Nat.le_refl _, hd σ H p⟩
end L2

namespace L2
open PySem PySem.Spec PyProof.Rows

noncomputable abbrev R2 := V → V → Hp → VK → Prop
noncomputable def OpR (X : Cx) (f : Value → Value → Sem Value) (r : R2) : Prop :=
  ∀ (pins : List (Addr × Obj)) (s : Shared) (σ : St) (H : Hp) (x y : V) (v u : Value) (Q : VK), Inv X pins σ H s → RelV x v → RelV y u → r x y H Q →
    wpAny (model X.prog X.w) X.A (f v u) (EP X pins σ Q) X.xe s
noncomputable def CallR (X : Cx) (f : Value) (r : List V → Hp → VK → Prop) : Prop :=
  ∀ (pins : List (Addr × Obj)) (s : Shared) (σ : St) (H : Hp) (xs : List V) (us : List Value) (Q : VK), Inv X pins σ H s → Vals xs us → r xs H Q →
    wpAny (model X.prog X.w) X.A (call f us) (EP X pins σ Q) X.xe s
noncomputable def tOp (r : R2) (ta tb : TE) : TE := fun σ H Q => ta σ H fun x H1 => tb σ H1 fun y H2 => r x y H2 Q
noncomputable def rI (C : Int → Int → Prop) (g : Int → Int → V) : R2 := fun x y H Q => ∃ i j, x = .int i ∧ y = .int j ∧ C i j ∧ Q (g i j) H
noncomputable def rI0 (g : Int → Int → V) : R2 := fun x y H Q => ∃ i j, x = .int i ∧ y = .int j ∧ Q (g i j) H
section
variable {X : Cx} {a b c : Expr} {ta tb tc : TE} {pos : Pos}

theorem binT (ha : PE X a ta) (hb : PE X b tb) {pins : List (Addr × Obj)} {s : Shared} {σ : St} {H : Hp} {R : V → V → Hp → Prop} (I : Inv X pins σ H s)
    (h : ta σ H fun x H1 => tb σ H1 fun y H2 => R x y H2) {Q : Value → Shared → Prop} {f : Value → Value → Sem Value}
    (hf : ∀ v u s2 x y H2, Inv X pins σ H2 s2 → RelV x v → RelV y u → R x y H2 → wpAny (model X.prog X.w) X.A (f v u) Q X.xe s2) :
    wpAny (model X.prog X.w) X.A (eval a X.env) (fun v s₁ => wpAny (model X.prog X.w) X.A (eval b X.env) (fun u s₂ => wpAny (model X.prog X.w) X.A (f v u) Q X.xe s₂) X.xe s₁) X.xe s := by
  refine thn (ha pins s σ H _ I h) fun v s1 zz => ?_
  obtain ⟨x, H1, I1, r1, q1⟩ := zz
  refine thn (hb pins s1 σ H1 _ I1 q1) fun u s2 zz => ?_
  obtain ⟨y, H2, I2, r2, q2⟩ := zz
  exact hf v u s2 x y H2 I2 r1 r2 q2

theorem pe_op {op : Operator} {r : R2} (ho : OpR X (binaryOp op) r) (ha : PE X a ta) (hb : PE X b tb) : PE X (.BinOp a op b pos) (tOp r ta tb) := by
  intro pins s σ H Q I h
  exact wpAny_BinOp (binT ha hb I h fun v u s2 x y H2 I2 rx ry q => ho pins s2 σ H2 x y v u Q I2 rx ry q)
theorem opI {f : Value → Value → Sem Value} {C : Int → Int → Prop} {g : Int → Int → Int}
    (rule : ∀ (i j : Int) (t u : Tok) (s : Shared) (Q : Value → Shared → Prop) (E : Value → Shared → Prop), C i j → Q (.int (g i j) s.toks) { s with toks := s.toks + 1 } → wpAny (model X.prog X.w) X.A (f (.int i t) (.int j u)) Q E s) :
    OpR X f (rI C fun i j => .int (g i j)) := by
  intro pins s σ H x y v u Q I rx ry h
  obtain ⟨i, j, rfl, rfl, hc, q⟩ := h
  obtain ⟨t, rfl⟩ := rx
  obtain ⟨t', rfl⟩ := ry
  exact rule i j t t' s _ _ hc ⟨.int (g i j), H, I.tok _, ⟨_, rfl⟩, q⟩
theorem opI0 {f : Value → Value → Sem Value} {g : Int → Int → Int}
    (rule : ∀ (i j : Int) (t u : Tok) (s : Shared) (Q : Value → Shared → Prop) (E : Value → Shared → Prop), Q (.int (g i j) s.toks) { s with toks := s.toks + 1 } → wpAny (model X.prog X.w) X.A (f (.int i t) (.int j u)) Q E s) :
    OpR X f (rI0 fun i j => .int (g i j)) := by
  intro pins s σ H x y v u Q I rx ry h
  obtain ⟨i, j, rfl, rfl, q⟩ := h
  obtain ⟨t, rfl⟩ := rx
  obtain ⟨t', rfl⟩ := ry
  exact rule i j t t' s _ _ ⟨.int (g i j), H, I.tok _, ⟨_, rfl⟩, q⟩
noncomputable def CDiv (i j : Int) : Prop := 0 < j ∧ j < 1073741824
noncomputable def CMul (i j : Int) : Prop := (-(2 ^ 64) < i ∧ i < 2 ^ 64) ∨ (-(2 ^ 64) < j ∧ j < 2 ^ 64)
theorem CMul.ok {i j : Int} (h : CMul i j) : IntMulOk i j := by
  rcases h with ⟨h1, h2⟩ | ⟨h1, h2⟩
  · exact .of_left (intBits_le_64 h1 h2)
  · exact .of_right (intBits_le_64 h1 h2)
theorem op_add : OpR X (binaryOp .Add) (rI0 fun i j => .int (i + j)) := opI0 fun _ _ _ _ _ _ _ q => add_int q
theorem op_sub : OpR X (binaryOp .Sub) (rI0 fun i j => .int (i - j)) := opI0 fun _ _ _ _ _ _ _ q => sub_int q
theorem op_mul : OpR X (binaryOp .Mult) (rI CMul fun i j => .int (i * j)) := opI fun _ _ _ _ _ _ _ hc q => mul_int q hc.ok
theorem op_fdiv : OpR X (binaryOp .FloorDiv) (rI CDiv fun i j => .int (i / j)) := opI fun i j _ _ _ _ _ hc q => by
  have h1 : (0 : Int) < j := hc.1
  have h2 : j < 1073741824 := hc.2
  exact floordiv_int (by (clear h2; omega)) (by rw [Int.fdiv_eq_ediv_of_nonneg i (by (clear h2; omega))]; exact q) (.inl (PyProof.noPylong_small (by omega)))
theorem op_mod : OpR X (binaryOp .Mod) (rI (fun _ j => 0 < j) fun i j => .int (i % j)) := opI fun i j _ _ _ _ _ hc q => by
  have h1 : (0 : Int) < j := hc
  exact mod_int' (by omega) (by rw [Int.fmod_eq_emod_of_nonneg i (by omega)]; exact q)
end

noncomputable def scal : V → V → Bool
  | .non, .non => true | .non, .int _ => true | .int _, .non => true | .non, .bl _ => true | .bl _, .non => true | .non, .str _ => true | .str _, .non => true
  | .int _, .int _ => true | .bl _, .bl _ => true | .str _, .str _ => true | .byt _, .byt _ => true
  | .int _, .str _ => true | .str _, .int _ => true | .bl _, .str _ => true | .str _, .bl _ => true
  | _, _ => false
noncomputable def rEq : R2 := fun x y H Q => scal x y = true ∧ Q (.bl (decide (x = y))) H
noncomputable def rNe : R2 := fun x y H Q => scal x y = true ∧ Q (.bl (!decide (x = y))) H

theorem dec_int {i j : Int} : decide (V.int i = V.int j) = (i == j) := by
  rw [Bool.eq_iff_iff]
  simp
theorem dec_bl {i j : Bool} : decide (V.bl i = V.bl j) = (i == j) := by
  rw [Bool.eq_iff_iff]
  simp
theorem dec_str {i j : Str} : decide (V.str i = V.str j) = (i == j) := by
  rw [Bool.eq_iff_iff]
  simp
theorem dec_byt {i j : Array UInt8} : decide (V.byt i = V.byt j) = (i.toList == j.toList) := by
  rw [Bool.eq_iff_iff]
  cases i
  cases j
  simp

section
variable {X : Cx} {a b c : Expr} {ta tb tc : TE} {pos : Pos}
theorem fin_bl {pins : List (Addr × Obj)} {σ : St} {H : Hp} {s : Shared} {Q : VK} {k k' : Bool} (I : Inv X pins σ H s) (q : Q (.bl k) H) (e : k = k') : EP X pins σ Q (.bool k') s := by
  subst e
  exact ⟨.bl k, H, I, rfl, q⟩
theorem op_eq : OpR X (compareOp .Eq) rEq := by
  intro pins s σ H x y v u Q I rx ry h
  obtain ⟨hs, q⟩ := h
  cases x with
  | non =>
    cases rx
    cases y with
    | non => cases ry; exact PySem.EqNone.eq_none_none (fin_bl I q (by simp))
    | bl j => cases ry; exact PySem.EqNone.eq_none_bool (fin_bl I q (by simp))
    | int j => obtain ⟨t', rfl⟩ := ry; exact PySem.EqNone.eq_none_int (fin_bl I q (by simp))
    | str j => obtain ⟨t', rfl⟩ := ry; exact PySem.EqNone.eq_none_str (fin_bl I q (by simp))
    | _ => exact absurd (show false = true from hs) Bool.false_ne_true
  | bl i =>
    cases rx
    cases y with
    | non => cases ry; exact PySem.EqNone.eq_bool_none (fin_bl I q (by simp))
    | bl j => cases ry; exact eq_bool (fin_bl I q dec_bl)
    | str j => obtain ⟨t', rfl⟩ := ry; exact PySem.EqMixed.eq_bool_str (fin_bl I q (by simp))
    | _ => exact absurd (show false = true from hs) Bool.false_ne_true
  | int i =>
    obtain ⟨t, rfl⟩ := rx
    cases y with
    | non => cases ry; exact PySem.EqNone.eq_int_none (fin_bl I q (by simp))
    | int j => obtain ⟨t', rfl⟩ := ry; exact eq_int (fin_bl I q dec_int)
    | str j => obtain ⟨t', rfl⟩ := ry; exact PySem.EqMixed.eq_int_str (fin_bl I q (by simp))
    | _ => exact absurd (show false = true from hs) Bool.false_ne_true
  | str i =>
    obtain ⟨t, rfl⟩ := rx
    cases y with
    | non => cases ry; exact PySem.EqNone.eq_str_none (fin_bl I q (by simp))
    | bl j => cases ry; exact PySem.EqMixed.eq_str_bool (fin_bl I q (by simp))
    | int j => obtain ⟨t', rfl⟩ := ry; exact PySem.EqMixed.eq_str_int (fin_bl I q (by simp))
    | str j => obtain ⟨t', rfl⟩ := ry; exact eq_str (fin_bl I q dec_str)
    | _ => exact absurd (show false = true from hs) Bool.false_ne_true
  | byt i =>
    obtain ⟨t, rfl⟩ := rx
    cases y with
    | byt j => obtain ⟨t', rfl⟩ := ry; exact PySem.W.eq_bytes (fin_bl I q dec_byt)
    | _ => exact absurd (show false = true from hs) Bool.false_ne_true
  | _ => cases y <;> exact absurd (show false = true from hs) Bool.false_ne_true
theorem op_ne : OpR X (compareOp .NotEq) rNe := by
  intro pins s σ H x y v u Q I rx ry h
  obtain ⟨hs, q⟩ := h
  cases x with
  | non =>
    cases rx
    cases y with
    | non => cases ry; exact PySem.EqNone.ne_none_none (fin_bl I q (by simp))
    | bl j => cases ry; exact PySem.EqNone.ne_none_bool (fin_bl I q (by simp))
    | int j => obtain ⟨t', rfl⟩ := ry; exact PySem.EqNone.ne_none_int (fin_bl I q (by simp))
    | str j => obtain ⟨t', rfl⟩ := ry; exact PySem.EqNone.ne_none_str (fin_bl I q (by simp))
    | _ => exact absurd (show false = true from hs) Bool.false_ne_true
  | bl i =>
    cases rx
    cases y with
    | non => cases ry; exact PySem.EqNone.ne_bool_none (fin_bl I q (by simp))
    | bl j => cases ry; exact ne_bool (fin_bl I q (congrArg not dec_bl))
    | str j => obtain ⟨t', rfl⟩ := ry; exact PySem.EqMixed.ne_bool_str (fin_bl I q (by simp))
    | _ => exact absurd (show false = true from hs) Bool.false_ne_true
  | int i =>
    obtain ⟨t, rfl⟩ := rx
    cases y with
    | non => cases ry; exact PySem.EqNone.ne_int_none (fin_bl I q (by simp))
    | int j => obtain ⟨t', rfl⟩ := ry; exact ne_int (fin_bl I q (congrArg not dec_int))
    | str j => obtain ⟨t', rfl⟩ := ry; exact PySem.EqMixed.ne_int_str (fin_bl I q (by simp))
    | _ => exact absurd (show false = true from hs) Bool.false_ne_true
  | str i =>
    obtain ⟨t, rfl⟩ := rx
    cases y with
    | non => cases ry; exact PySem.EqNone.ne_str_none (fin_bl I q (by simp))
    | bl j => cases ry; exact PySem.EqMixed.ne_str_bool (fin_bl I q (by simp))
    | int j => obtain ⟨t', rfl⟩ := ry; exact PySem.EqMixed.ne_str_int (fin_bl I q (by simp))
    | str j => obtain ⟨t', rfl⟩ := ry; exact ne_str (fin_bl I q (congrArg not dec_str))
    | _ => exact absurd (show false = true from hs) Bool.false_ne_true
  | byt i =>
    obtain ⟨t, rfl⟩ := rx
    cases y with
    | byt j => obtain ⟨t', rfl⟩ := ry; exact PySem.W.ne_bytes (fin_bl I q (congrArg not dec_byt))
    | _ => exact absurd (show false = true from hs) Bool.false_ne_true
  | _ => cases y <;> exact absurd (show false = true from hs) Bool.false_ne_true

theorem nomark (b : Expr) {op : CmpOp} (h : op ≠ .In := by decide) (h2 : op ≠ .NotIn := by decide) : behindInMarks op b = false := nobehind b h h2
theorem pe_cmpR {op : CmpOp} {r : R2} (ho : OpR X (compareOp op) r) (ha : PE X a ta) (hb : PE X b tb) (hm : behindInMarks op b = false) : PE X (.Compare a [op] [b] pos) (tOp r ta tb) := by
  intro pins s σ H Q I h
  exact wpAny_Compare1 (binT ha hb I h fun v u s2 x y H2 I2 rx ry q => ho pins s2 σ H2 x y v u Q I2 rx ry q) hm
noncomputable def tTest (t : TE) : TT := fun σ H Q => t σ H fun x H' => ∃ k, x = .bl k ∧ Q k H'
theorem pt_cmpR {op : CmpOp} {r : R2} (ho : OpR X (compareOp op) r) (ha : PE X a ta) (hb : PE X b tb) (hm : behindInMarks op b = false) : PT X (.Compare a [op] [b] pos) (tTest (tOp r ta tb)) := by
  intro pins s σ H Q I h
  refine wpAny_isTrue_Compare1 (thn (ha pins s σ H _ I h) fun v s1 zz1 => ?_) hm
  obtain ⟨x, H1, I1, r1, q1⟩ := zz1
  refine thn (hb pins s1 σ H1 _ I1 q1) fun u s2 zz2 => ?_
  obtain ⟨y, H2, I2, r2, q2⟩ := zz2
  refine thn (ho pins s2 σ H2 x y v u _ I2 r1 r2 q2) fun c s3 zz3 => ?_
  obtain ⟨z, H3, I3, r3, k, e, q3⟩ := zz3
  subst e
  cases r3
  exact wpAny_truthy_bool ⟨H3, I3, q3⟩
theorem line63 : (sizeLine : Nat) < 2 ^ 63 := by rw [sizeLine_eq]; decide
theorem vals1 {x : V} {us : List Value} (r : Vals [x] us) : ∃ u, us = [u] ∧ RelV x u := by
  cases r with
  | cons r1 r2 => cases r2; exact ⟨_, rfl, r1⟩
theorem vals2 {x y : V} {us : List Value} (r : Vals [x, y] us) : ∃ u w', us = [u, w'] ∧ RelV x u ∧ RelV y w' := by
  cases r with
  | cons r1 r2 =>
    cases r2 with
    | cons r3 r4 => cases r4; exact ⟨_, _, rfl, r1, r3⟩
end
end L2

namespace L2
open PySem PySem.Spec PyProof.Rows

structure ObjM (h : Heap) (x dx C : Addr) (mA : Str → Option Value) : Prop where
  obj : h.get? x = some (PySem.W.instObj C dx)
  ns : h.Ns1 dx mA
  ne : dx ≠ x

theorem lookIn_ns {h : Heap} {dx : Addr} {mA : Str → Option Value} (n : h.Ns1 dx mA) : ∃ od, h.get? dx = some od ∧ ∀ name, PySem.W.lookIn name od = some (mA name) := by
  obtain ⟨o, es, ep, ho, hd, hk, _, hm⟩ := n
  refine ⟨o, ho, fun name => ?_⟩
  have e := hm name
  unfold nsFind findBy at e
  rw [← Array.find?_toList] at e
  unfold PySem.W.lookIn
  rw [hd]
  dsimp only
  split
  · rename_i y q
    rw [q] at e
    exact congrArg some e
  · rename_i q
    rw [q] at e
    have a : es.toList.any (·.refKey) = false := by
      rw [List.any_eq_false]
      intro y hy
      obtain ⟨z, t, hkey⟩ := hk y (Array.mem_toList_iff.mp hy)
      simp [DictEntry.refKey, hkey]
    have a' : ¬ es.toList.any (·.refKey) = true := by rw [a]; exact Bool.false_ne_true
    rw [if_neg a']
    exact congrArg some e

theorem ObjM.look {h : Heap} {x dx C : Addr} {mA : Str → Option Value} (I : ObjM h x dx C mA) : ∃ od, PySem.W.InstAt h x (PySem.W.instObj C dx) C (some od) ∧ ∀ name, PySem.W.lookIn name od = some (mA name) :=
  let ⟨od, ho, hl⟩ := lookIn_ns I.ns
  ⟨od, ⟨I.obj, rfl, rfl, ho⟩, hl⟩

section
variable {prog : Program} {w : World} {A : Around} {E : Value → Shared → Prop} {s : Shared} {K : PySem.W.Frag} {x dx C f : Addr} {mA : Str → Option Value} {name : Str} {v : Value}

theorem get_map {expr : Bool} {Q : Value → Shared → Prop} (X : K.In s.heap) (I : ObjM s.heap x dx C mA) (hg : PySem.W.plainGet K C name = true) (hh : PySem.W.hasDictIn K C = true)
    (ha : PySem.W.findIn K (.ref C) name = some none) (hv : mA name = some v) (hv' : PySem.W.handedIn v = true) (h : Q v { s with toks := s.toks + 1 }) :
    wpAny (model prog w) A (getAttr (.ref x) name expr) Q E s := by
  obtain ⟨od, J, hl⟩ := I.look
  exact PySem.W.get_value X J (PySem.W.plainGet_of hg).1 (PySem.W.findObj_own hh ha rfl (by rw [hl, hv])) hv' h

theorem get_meth {pl : Sem Bool} {Q : Value × List Value → Shared → Prop} (X : K.In s.heap) (I : ObjM s.heap x dx C mA) (hg : PySem.W.plainGet K C name = true)
    (hf : PySem.W.findIn K (.ref C) name = some (some (.ref f))) (ht : PySem.W.isFn K (.ref f) = true) (hv : mA name = none) (h : Q (.ref f, [.ref x]) s) :
    wpAny (model prog w) A (getMethod (.ref x) name pl) Q E s := by
  obtain ⟨od, J, hl⟩ := I.look
  exact PySem.W.method_fn X J (PySem.W.plainGet_of hg).1 (PySem.W.plainGet_of hg).2 hf (beq_iff_eq.mp ht) (by show (PySem.W.lookIn name od).map (·.isSome) = some false; rw [hl, hv]; rfl) h

theorem set_map {ns : List Str} {Q : Unit → Shared → Prop} (X : K.In s.heap) (I : ObjM s.heap x dx C mA)
    (hs : PySem.W.findIn K (.ref C) "__setattr__" = some (some (.builtin "object.__setattr__"))) (hp : PySem.W.plainOver K C = true) (ht : PySem.W.takerIn K C name = some none) (hh : PySem.W.hasDictIn K C = true)
    (hw : PySem.Within mA ns) (hsz : ns.length ≤ sizeLine)
    (h : ∀ h', ObjM h' x dx C (fun y => if y = name then some v else mA y) → Heap.SameBut dx s.heap h' → Q () { s with heap := h', toks := s.toks + 2 }) :
    wpAny (model prog w) A (setAttr (.ref x) name v) Q E s := by
  obtain ⟨od, J, hl⟩ := I.look
  refine PySem.W.set_plain X J hs (PySem.W.osa_open (s := { s with toks := s.toks + 1 }) (r := none) X J hp ht fun b => ?_)
  obtain ⟨cd, hc, hd'⟩ := PySem.W.any_some hh
  have hx : s.heap.get? x = some ⟨.ref C, some dx, .plain, #[]⟩ := I.obj
  refine wpAny_bind (wpAny_pure (wpAny_bind (wpAny_bind (wpAny_loadPart hx (wpAny_bind (PySem.W.Looks.here (s := { s with toks := s.toks + 1 }) (PySem.W.looks_clsIn X hc) ?_))))))
  rw [hd']
  refine wpAny_pure (a := some dx) (wpAny_bind (wpAny_pure (wpAny_bind ?_)))
  refine wpAny_nsSet1 (s := { s with toks := s.toks + 1 }) I.ns fun h' hn2 hs2 => ?_
  obtain ⟨oD, esD, epD, hoD, hdD, hcD⟩ := hn2.count (PySem.Within.cons name v hw)
  refine wpAny_bind (wpAny_lookBehind hoD (by rw [hdD]; exact pastItsLine_dict (Nat.le_trans hcD (by rw [List.length_cons]; (clear hp hh hd' hcD; omega)))) ?_)
  exact wpAny_pure (h _ ⟨(hs2.2 _ (Ne.symm I.ne)).trans I.obj, hn2, I.ne⟩ hs2)

theorem make_map {R : Result → Shared → Prop} {vs : List Value} {kw : List (Str × Value)} (X : K.In s.heap) (hm : PySem.W.makesIn K C = true)
    (hi : PySem.W.findIn K (.ref C) "__init__" = some (some (.ref f))) (hf : PySem.W.typeIn K (.ref f) = some (.type "function"))
    (h : codeAny (model prog w) (A.under (.builtin "type.__call__" ⟨.ref C :: vs, kw⟩)) (.call (.ref f) ⟨.ref (s.heap.objs.size + 1) :: vs, kw⟩) (PySem.W.InitBack (s.heap.objs.size + 1) R)
      { s with heap := (s.heap.push PySem.W.emptyDict).push (PySem.W.instObj C s.heap.objs.size) }) :
    codeAny (model prog w) A (.call (.ref C) ⟨vs, kw⟩) R s := by
  obtain ⟨hh, g, d, t, os⟩ := s
  exact PySem.W.make_core (PySem.W.makes_of X hm) (PySem.W.looks_findIn X hi) (fun self => PySem.W.bind_fn X self hf) (.inl rfl) h
end

noncomputable def putF (f : Str) (v : V) : List (Str × V) → List (Str × V)
  | [] => [(f, v)]
  | (g, x) :: r => if g = f then (g, v) :: r else (g, x) :: putF f v r
theorem lookup_putF (f g : Str) (v : V) : ∀ fs : List (Str × V), (putF f v fs).lookup g = if g = f then some v else fs.lookup g
  | [] => by
    show List.lookup g [(f, v)] = _
    by_cases h : g = f
    · have hb : (g == f) = true := beq_iff_eq.mpr h
      simp only [List.lookup, hb, if_pos h]
    · have hb : (g == f) = false := beq_eq_false_iff_ne.mpr h
      simp only [List.lookup, hb, if_neg h]
  | (k, x) :: r => by
    have ih := lookup_putF f g v r
    rw [show putF f v ((k, x) :: r) = (if k = f then (k, v) :: r else (k, x) :: putF f v r) from rfl]
    by_cases hk : k = f
    · rw [if_pos hk]
      by_cases h : g = k
      · have hb : (g == k) = true := beq_iff_eq.mpr h
        simp only [List.lookup, hb, if_pos (h.trans hk)]
      · have hb : (g == k) = false := beq_eq_false_iff_ne.mpr h
        simp only [List.lookup, hb, if_neg (fun e : g = f => h (e.trans hk.symm))]
    · rw [if_neg hk]
      by_cases h : g = k
      · have hb : (g == k) = true := beq_iff_eq.mpr h
        simp only [List.lookup, hb, if_neg (fun e : g = f => hk (h.symm.trans e))]
      · have hb : (g == k) = false := beq_eq_false_iff_ne.mpr h
        simp only [List.lookup, hb]
        exact ih
theorem keys_putF (f : Str) (v : V) : ∀ fs : List (Str × V), f ∈ (putF f v fs).map (·.1) ∧ ∀ g, g ∈ fs.map (·.1) → g ∈ (putF f v fs).map (·.1)
  | [] => ⟨by simp [putF], fun g h => by simp at h⟩
  | (k, x) :: r => by
    obtain ⟨i1, i2⟩ := keys_putF f v r
    rw [show putF f v ((k, x) :: r) = (if k = f then (k, v) :: r else (k, x) :: putF f v r) from rfl]
    by_cases hk : k = f
    · rw [if_pos hk]
      subst hk
      exact ⟨by simp, fun g h => by simpa using h⟩
    · rw [if_neg hk]
      refine ⟨?_, fun g h => ?_⟩
      · rw [List.map_cons]
        exact List.mem_cons_of_mem _ i1
      · rw [List.map_cons] at h ⊢
        rcases List.mem_cons.mp h with e | e
        · exact List.mem_cons.mpr (.inl e)
        · exact List.mem_cons_of_mem _ (i2 g e)
theorem length_putF (f : Str) (v : V) : ∀ fs : List (Str × V), (putF f v fs).length ≤ fs.length + 1
  | [] => by simp [putF]
  | (k, x) :: r => by
    have ih := length_putF f v r
    rw [show putF f v ((k, x) :: r) = (if k = f then (k, v) :: r else (k, x) :: putF f v r) from rfl]
    by_cases hk : k = f
    · rw [if_pos hk, List.length_cons, List.length_cons]; (clear ih; omega)
    · rw [if_neg hk, List.length_cons, List.length_cons]; omega

theorem RelO.some_of {v : V} {o : Option Value} (r : RelO (some v) o) : ∃ u, o = some u ∧ RelV v u := by
  cases o with
  | none => exact (show False from r).elim
  | some u => exact ⟨u, rfl, r⟩
theorem RelO.none_of {o : Option Value} (r : RelO none o) : o = none := by
  cases o with
  | none => rfl
  | some u => exact (show False from r).elim
theorem handed_of {v : V} {u : Value} (r : RelV v u) : PySem.W.handedIn u = true := by
  cases v with
  | non => cases (show u = Value.none from r); rfl
  | bl b => cases (show u = Value.bool b from r); rfl
  | int i => obtain ⟨t, e⟩ := (show ∃ t, u = Value.int i t from r); cases e; rfl
  | str x => obtain ⟨t, e⟩ := (show ∃ t, u = Value.str x t from r); cases e; rfl
  | byt b => obtain ⟨t, e⟩ := (show ∃ t, u = Value.bytes b t from r); cases e; rfl
  | flt b => obtain ⟨t, e⟩ := (show ∃ t, u = Value.float b t from r); cases e; rfl
  | ref a => cases (show u = Value.ref a from r); rfl
  | ty n => cases (show u = Value.type n from r); rfl

section
variable {P : Program} {w : World} {H H' : Hp} {h h' : Heap} {a C dx : Addr} {fs fs' : List (Str × V)}
theorem ins_get (hok : HOk P w H h) (e : H a = some (.ins C dx fs)) : ∃ mA, ObjM h a dx C mA ∧ (∀ f, RelO (fs.lookup f) (mA f)) ∧ PySem.Within mA (fs.map (·.1)) ∧ fs.length ≤ 1000 ∧ H dx = some (.own a) := by
  obtain ⟨d, z, ne, ob, mA, n, r, q⟩ := (show ObjOk P w H h a (.ins C dx fs) from hok a _ e)
  exact ⟨mA, ⟨ob, n, ne⟩, r, q, z, d⟩
end

structure Cls (K : PySem.W.Frag) (C : Addr) : Prop where
  pg : PySem.W.plainGet K C Str.empty = true
  hd : PySem.W.hasDictIn K C = true
  po : PySem.W.plainOver K C = true
  sa : PySem.W.findIn K (.ref C) "__setattr__" = some (some (.builtin "object.__setattr__"))
theorem Cls.get {K : PySem.W.Frag} {C : Addr} (c : Cls K C) (f : Str) : PySem.W.plainGet K C f = true := c.pg
noncomputable def NoAttr (K : PySem.W.Frag) (C : Addr) (f : Str) : Prop := PySem.W.findIn K (.ref C) f = some none
theorem NoAttr.taker {K : PySem.W.Frag} {C : Addr} {f : Str} (n : NoAttr K C f) : PySem.W.takerIn K C f = some none := by
  unfold PySem.W.takerIn
  rw [show PySem.W.findIn K (.ref C) f = some none from n]
  rfl
structure Meth (K : PySem.W.Frag) (C : Addr) (m : Str) (f : Addr) : Prop where
  at_ : PySem.W.findIn K (.ref C) m = some (some (.ref f))
  fn : PySem.W.isFn K (.ref f) = true
  kp : PySem.W.keepIn K (.ref f) = true

section
variable {X : Cx} {pins : List (Addr × Obj)} {σ : St} {H : Hp} {s : Shared} {a C dx : Addr} {fs : List (Str × V)} {f : Str} {v : V} {A : Around} {E : Value → Shared → Prop}

theorem getattr_ok {b : Bool} {Q : Value → Shared → Prop} (I : Inv X pins σ H s) (e : H a = some (.ins C dx fs)) (c : Cls X.K C) (n : NoAttr X.K C f) (l : fs.lookup f = some v)
    (h : ∀ u s', Inv X pins σ H s' → RelV v u → Q u s') : wpAny (model X.prog X.w) A (getAttr (.ref a) f b) Q E s := by
  obtain ⟨mA, O, r, _, _, _⟩ := ins_get I.hok e
  obtain ⟨u, hu, ru⟩ := RelO.some_of (v := v) (o := mA f) (by rw [← l]; exact r f)
  exact get_map I.kIn O (c.get f) c.hd n hu (handed_of ru) (h u _ (I.tok _) ru)

theorem getmeth_ok {m : Str} {g : Addr} {pl : Sem Bool} {Q : Value × List Value → Shared → Prop} (I : Inv X pins σ H s) (e : H a = some (.ins C dx fs)) (c : Cls X.K C) (k : Meth X.K C m g) (l : fs.lookup m = none)
    (h : Q (.ref g, [.ref a]) s) : wpAny (model X.prog X.w) A (getMethod (.ref a) m pl) Q E s := by
  obtain ⟨mA, O, r, _, _, _⟩ := ins_get I.hok e
  have hn : mA m = none := RelO.none_of (by rw [← l]; exact r m)
  exact get_meth I.kIn O (c.get m) k.at_ k.fn hn h

theorem setattr_ok {y : V} {u : Value} {Q : Unit → Shared → Prop} (I : Inv X pins σ H s) (e : H a = some (.ins C dx fs)) (c : Cls X.K C) (n : NoAttr X.K C f) (hl : fs.length < 1000) (ry : RelV y u)
    (h : ∀ s', Inv X pins σ (upd H a (.ins C dx (putF f y fs))) s' → Q () s') : wpAny (model X.prog X.w) A (setAttr (.ref a) f u) Q E s := by
  obtain ⟨mA, O, r, wi, _, ho⟩ := ins_get I.hok e
  have hz : (fs.map (·.1)).length ≤ sizeLine := by rw [List.length_map, sizeLine_eq]; (clear hl; omega)
  refine set_map I.kIn O c.sa c.po n.taker c.hd wi hz fun h' O' sb => h _ ?_
  have hd : ∃ o, h'.get? dx = some o := by
    obtain ⟨o, _, _, e', _⟩ := O'.ns
    exact ⟨o, e'⟩
  refine I.write (x := a) (e := dx) (by rw [e]; exact True.intro) (.inr ho) (fun b q hb z => (sb.2 b hb).trans z) hd ?_
  refine ⟨by rw [upd_ne O.ne]; exact ho, ?_, O.ne, O'.obj, _, O'.ns, fun g => ?_, fun g hg => ?_⟩
  · have := length_putF f y fs; (clear hz; omega)
  · show RelO ((putF f y fs).lookup g) (if g = f then some u else mA g)
    rw [lookup_putF]
    by_cases q : g = f
    · rw [if_pos q, if_pos q]; exact ry
    · rw [if_neg q, if_neg q]; exact r g
  · by_cases q : g = f
    · rw [q]; exact (keys_putF f y fs).1
    · refine (keys_putF f y fs).2 g (wi g fun z => hg ?_)
      show (if g = f then some u else mA g) = none
      rw [if_neg q]; exact z

theorem Inv.made (I : Inv X pins σ H s) : Inv X pins σ (upd (upd H s.heap.objs.size (.own (s.heap.objs.size + 1))) (s.heap.objs.size + 1) (.ins C s.heap.objs.size []))
    { s with heap := (s.heap.push PySem.W.emptyDict).push (PySem.W.instObj C s.heap.objs.size) } := by
  have e1 : (s.heap.push PySem.W.emptyDict).get? s.heap.objs.size = some PySem.W.emptyDict := Heap.get?_push_size s.heap rfl
  have e2 : ((s.heap.push PySem.W.emptyDict).push (PySem.W.instObj C s.heap.objs.size)).get? (s.heap.objs.size + 1) = some (PySem.W.instObj C s.heap.objs.size) := by
    have := Heap.get?_push_size (s.heap.push PySem.W.emptyDict) (o := PySem.W.instObj C s.heap.objs.size) rfl
    rwa [Heap.size_push] at this
  have e3 : (s.heap.push PySem.W.emptyDict).Ns s.heap.objs.size (fun _ => none) := ⟨PySem.W.emptyDict, #[], _, e1, rfl, (fun e he => absurd he (by simp)), fun _ => rfl⟩
  have I1 := I.laid (a := s.heap.objs.size) (o := .own (s.heap.objs.size + 1)) (h' := s.heap.push PySem.W.emptyDict) (t' := s.toks) (fun b u q => Heap.get?_push_of_some _ q) (Nat.le_refl _) ⟨_, e1⟩
  refine I1.laid (a := s.heap.objs.size + 1) (o := .ins C s.heap.objs.size []) (t' := s.toks) (fun b u q => Heap.get?_push_of_some _ q) (Nat.le_of_eq (Heap.size_push _ _)) ?_
  have ne : s.heap.objs.size ≠ s.heap.objs.size + 1 := Nat.ne_of_lt (Nat.lt_succ_self _)
  refine ⟨by rw [upd_ne ne, upd_same], Nat.zero_le _, ne, e2, fun _ => none, (Heap.Ns1.of_empty e3).at fun o q => Heap.get?_push_of_some _ q, fun _ => True.intro, fun y hy => absurd rfl hy⟩

theorem attr_of {prog : Program} {w : World} {env : Env} {e : Expr} {f : Str} {pos : Pos} {s : Shared} {Q : Value → Shared → Prop} (hb : attributeBase e f env (eval e env) = eval e env)
    (h : wpAny (model prog w) A (eval e env) (fun o s₁ => wpAny (model prog w) A (getAttr o f true) Q E s₁) E s) : wpAny (model prog w) A (eval (.Attribute e f pos) env) Q E s :=
  Attribute_any_ h (by rw [arm_eval_Attribute, hb])
end

noncomputable def tFld (K : PySem.W.Frag) (ta : TE) (f : Str) : TE := fun σ H Q => ta σ H fun x H1 => ∃ a C dx fs v, x = .ref a ∧ H1 a = some (.ins C dx fs) ∧ Cls K C ∧ NoAttr K C f ∧ fs.lookup f = some v ∧ Q v H1
noncomputable def sFld (K : PySem.W.Frag) (ta tv : TE) (f : Str) : TS := fun D σ H => tv σ H fun y H1 => ta σ H1 fun x H2 => ∃ a C dx fs, x = .ref a ∧ H2 a = some (.ins C dx fs) ∧ Cls K C ∧ NoAttr K C f ∧ fs.length < 1000 ∧
  D.nx σ (upd H2 a (.ins C dx (putF f y fs)))
section
variable {X : Cx} {o e value : Expr} {f : Str} {pos pos' tpos : Pos} {ta tv : TE}
theorem pe_fld (he : PE X e ta) (hb : attributeBase e f X.env (eval e X.env) = eval e X.env) : PE X (.Attribute e f pos) (tFld X.K ta f) := by
  intro pins s σ H Q I h
  refine attr_of hb (thn (he pins s σ H _ I h) fun u s1 zz => ?_)
  obtain ⟨x, H1, I1, rx, a, C, dx, fs, v, ex, ea, c, n, l, q⟩ := zz
  subst ex
  obtain rfl : u = Value.ref a := rx
  exact getattr_ok I1 ea c n l fun u' s2 I2 ru => ⟨v, H1, I2, ru, q⟩
theorem ps_fld (ha : PE X o ta) (hv : PE X value tv) (hs : swapsWith value (some (.Attribute o f pos')) pos.line X.env = pure false) : PS X (.Assign [.Attribute o f pos'] value pos) (sFld X.K ta tv f) := by
  intro pins s σ H D I h
  refine plainObj_wpAny_Assign_Attribute (thn (hv pins s σ H _ I h) fun u s1 zz1 => ?_) hs
  obtain ⟨y, H1, I1, ry, q⟩ := zz1
  refine thn (ha pins s1 σ H1 _ I1 q) fun ov s2 zz => ?_
  obtain ⟨x, H2, I2, rx, a, C, dx, fs, ex, ea, c, n, l, q2⟩ := zz
  subst ex
  obtain rfl : ov = Value.ref a := rx
  exact setattr_ok I2 ea c n l ry fun s3 I3 => ⟨σ, _, I3, q2⟩
end

section
variable {X : Cx} {pins : List (Addr × Obj)} {σ : St} {H : Hp} {s : Shared} {A : Around} {E : Value → Shared → Prop} {Q : Value → Shared → Prop} {c : Value} {b : Bool}
inductive TyOf (K : PySem.W.Frag) (H : Hp) : V → Value → Prop where
  | non : TyOf K H .non (.type "NoneType")
  | bl (x : Bool) : TyOf K H (.bl x) (.type "bool")
  | int (i : Int) : TyOf K H (.int i) (.type "int")
  | str (x : Str) : TyOf K H (.str x) (.type "str")
  | flt (x : UInt64) : TyOf K H (.flt x) (.type "float")
  | lst {a : Addr} {xs : List V} (e : H a = some (.lst xs)) : TyOf K H (.ref a) (.type "list")
  | frz {a : Addr} {o : Obj} {xs : List V} (e : H a = some (.frz o (.lst xs))) : TyOf K H (.ref a) (.type "list")
  | tup {a : Addr} {xs : List V} (e : H a = some (.tup xs)) : TyOf K H (.ref a) (.type "tuple")
  | dK {a : Addr} {kvs : List (Key × V)} (e : H a = some (.dK kvs)) : TyOf K H (.ref a) (.type "dict")
  | dT {a : Addr} {kvs : List (List Key × V)} (e : H a = some (.dT kvs)) : TyOf K H (.ref a) (.type "dict")
  | ins {a C dx : Addr} {fs : List (Str × V)} (e : H a = some (.ins C dx fs)) (cl : Cls K C) (ha : PySem.W.findIn K (.ref C) "__class__" = some (some (.builtin "object.__class__")))
      (hn : PySem.W.specialIn K (.builtin "object.__class__") "__get__" = some (some (.builtin "getset_descriptor.__get__"))) (htk : PySem.W.takesIn K (.builtin "object.__class__") = some true)
      (hm : PySem.W.mroIn K C (.type "object") = some true) : TyOf K H (.ref a) (.ref C)
theorem isinst_ok {x : V} {u t : Value} (I : Inv X pins σ H s) (rx : RelV x u) (ty : TyOf X.K H x t) (e : PySem.W.kitOne X.K t c = some b) (h : ∀ tk, Q (.bool b) { s with toks := tk }) :
    wpAny (model X.prog X.w) A (call (.builtin "isinstance") [u, c]) Q E s := by
  cases ty with
  | non => cases (show u = Value.none from rx); exact PySem.W.kia_one PySem.W.kitx_none I.kIn True.intro e (fun z => nomatch z) h
  | bl y => cases (show u = Value.bool y from rx); exact PySem.W.kia_one PySem.W.kitx_bool I.kIn True.intro e (fun z => nomatch z) h
  | int i => obtain ⟨t, q⟩ := (show ∃ t, u = Value.int i t from rx); cases q; exact PySem.W.kia_one PySem.W.kitx_int I.kIn True.intro e (fun z => nomatch z) h
  | str y => obtain ⟨t, q⟩ := (show ∃ t, u = Value.str y t from rx); cases q; exact PySem.W.kia_one PySem.W.kitx_str I.kIn True.intro e (fun z => nomatch z) h
  | flt y => obtain ⟨t, q⟩ := (show ∃ t, u = Value.float y t from rx); cases q; exact PySem.W.kia_one PySem.W.kitx_float I.kIn True.intro e (fun z => nomatch z) h
  | @lst a xs ea =>
    cases (show u = Value.ref a from rx)
    obtain ⟨_, _, n, _, h1⟩ := (show ObjOk X.prog X.w H s.heap a (.lst xs) from I.hok a _ ea)
    exact PySem.W.kia_one PySem.W.kitx_list I.kIn ⟨_, h1, rfl⟩ e (fun z => nomatch z) h
  | @frz a ob xs ea =>
    cases (show u = Value.ref a from rx)
    obtain ⟨_, _, _, n, _, h1⟩ := (show ObjOk X.prog X.w H s.heap a (.frz ob (.lst xs)) from I.hok a _ ea)
    exact PySem.W.kia_one PySem.W.kitx_list I.kIn ⟨_, h1, rfl⟩ e (fun z => nomatch z) h
  | @tup a xs ea =>
    cases (show u = Value.ref a from rx)
    obtain ⟨_, _, _, p⟩ := (show ObjOk X.prog X.w H s.heap a (.tup xs) from I.hok a _ ea)
    obtain ⟨o, h1, h2, _⟩ := p
    exact PySem.W.kia_one PySem.W.kitx_tuple I.kIn ⟨o, h1, h2⟩ e (fun z => nomatch z) h
  | @dK a kvs ea =>
    cases (show u = Value.ref a from rx)
    obtain ⟨_, _, vs, _, p⟩ := (show ObjOk X.prog X.w H s.heap a (.dK kvs) from I.hok a _ ea)
    obtain ⟨o, es, ep, h1, h2, _⟩ := p
    exact PySem.W.kia_one PySem.W.kitx_dict I.kIn ⟨o, h1, h2.1⟩ e (fun z => nomatch z) h
  | @dT a kvs ea =>
    cases (show u = Value.ref a from rx)
    obtain ⟨_, _, xs, _, o, es, ep, h1, h2, _⟩ := (show ObjOk X.prog X.w H s.heap a (.dT kvs) from I.hok a _ ea)
    exact PySem.W.kia_one PySem.W.kitx_dict I.kIn ⟨o, h1, h2.1⟩ e (fun z => nomatch z) h
  | @ins a C dx fs ea cl ha hn htk hm =>
    cases (show u = Value.ref a from rx)
    obtain ⟨mA, O, _⟩ := ins_get I.hok ea
    obtain ⟨od, J, _⟩ := O.look
    exact PySem.W.kia_one (PySem.W.kitx_own (cl.get _) cl.hd ha hn htk hm) I.kIn J e (fun z => nomatch z) h
end
end L2

namespace L2
open PySem PySem.Spec PyProof.Rows

structure Room (k : Nat) (A : Around) : Prop where
  hd : A.handled = none
  dp : A.depth + 3 * k + 5 < recursionLimit
  un : A.units + 16 * k + 200 < cLine
theorem Room.mono {j k : Nat} {A : Around} (r : Room k A) (h : j ≤ k) : Room j A := ⟨r.hd, by have := r.dp; omega, by have := r.un; omega⟩
theorem Room.deeper {k : Nat} {A : Around} (r : Room (k + 1) A) (env : Env) : Room k (A.deeper env) :=
  ⟨r.hd, by have := r.dp; show A.depth + 1 + 3 * k + 5 < _; omega, by have := r.un; show A.units + 3 + 16 * k + 200 < _; omega⟩
theorem make_depth {A : Around} {C : Addr} {us : List Value} {kw : List (Str × Value)} : (A.under (.builtin "type.__call__" ⟨.ref C :: us, kw⟩)).depth = A.depth + 1 := by
  first | rfl | simp [Around.under, Code.weight, Code.isCreation, Code.isGuard, Code.isCaller, Code.frames, Code.isFrame, guardIds]
theorem make_units {A : Around} {C : Addr} {us : List Value} {kw : List (Str × Value)} : (A.under (.builtin "type.__call__" ⟨.ref C :: us, kw⟩)).units = A.units + 1 := by
  first | rfl | simp [Around.under, Code.cUnits, Code.frames, Code.isFrame]
theorem Room.make {k : Nat} {A : Around} (r : Room (k + 1) A) (C : Addr) (us : List Value) (kw : List (Str × Value)) : Room k (A.under (.builtin "type.__call__" ⟨.ref C :: us, kw⟩)) :=
  ⟨r.hd, by have := r.dp; rw [make_depth]; omega, by have := r.un; rw [make_units]; omega⟩
theorem Room.depth {k : Nat} {A : Around} (r : Room k A) : A.depth < recursionLimit := by have := r.dp; omega
theorem Room.units {k : Nat} {A : Around} (r : Room k A) : A.units + 64 < cLine := by have := r.un; omega
theorem Room.units0 {k : Nat} {A : Around} (r : Room k A) : A.units < cLine := by have := r.un; omega

noncomputable def tNil : TA := fun _ H Q => Q [] H
noncomputable def tCons (ta : TE) (tr : TA) : TA := fun σ H Q => ta σ H fun x H1 => tr σ H1 fun xs H2 => Q (x :: xs) H2
section
variable {X : Cx} {e : Expr} {es : List Expr} {te : TE} {t : TA} {pos : Pos}
theorem pa_nil : PA X [] tNil := fun _ _ _ _ H Q I h => Calls.spliced_nil ⟨[], H, I, .nil, h⟩
theorem pa_cons (ha : PE X e te) (hr : PA X es t) (hs : starEach (e :: es) X.env = (false, eval e X.env) :: starEach es X.env := by rfl) : PA X (e :: es) (tCons te t) := by
  intro pos pins s σ H Q I h
  rw [hs]
  show wpAny _ _ (spliced ((false, eval e X.env) :: backTo pos (starEach es X.env))) _ _ s
  refine Calls.spliced_cons (thn (ha pins s σ H _ I h) fun u s1 zz => ?_)
  obtain ⟨x, H1, I1, r1, q1⟩ := zz
  refine thn (hr pos pins s1 σ H1 _ I1 q1) fun us s2 zz1 => ?_
  obtain ⟨xs, H2, I2, r2, q2⟩ := zz1
  exact ⟨x :: xs, H2, I2, .cons r1 r2, q2⟩

noncomputable def tTup (t : TA) : TE := fun σ H Q => t σ H fun xs H1 => xs.length ≤ sizeLine ∧ ∀ p, H1 p = none → Q (.ref p) (upd H1 p (.tup xs))
noncomputable def tLst (t : TA) : TE := fun σ H Q => t σ H fun xs H1 => xs.length ≤ sizeLine ∧ ∀ p, H1 p = none → Q (.ref p) (upd H1 p (.lst xs))
theorem pe_tup {x1} (h : PA X es t) : PE X (.Tuple es x1 pos) (tTup t) := by
  intro pins s σ H Q I hq
  refine wpAny_Tuple_spliced (thn (h pos pins s σ H _ I hq) fun us s1 zz1 => ?_)
  obtain ⟨xs, H1, I1, r, z, q⟩ := zz1
  refine ⟨by rw [← r.length]; exact z, ?_⟩
  have hf : H1 s1.heap.objs.size = none := I1.hok.fresh (Nat.le_refl _)
  refine ⟨.ref s1.heap.objs.size, upd H1 s1.heap.objs.size (.tup xs), I1.laid (t' := s1.toks) (fun b u e => Heap.get?_push_of_some _ e) (Nat.le_refl _) ?_, rfl, q _ hf⟩
  exact ⟨z, us, r, ⟨_, Heap.get?_push_size _ rfl, rfl, _, rfl⟩⟩
theorem pe_lst (h : PA X es t) : PE X (.List es pos) (tLst t) := by
  intro pins s σ H Q I hq
  refine wpAny_List_spliced (thn (h pos pins s σ H _ I hq) fun us s1 zz1 => ?_)
  obtain ⟨xs, H1, I1, r, z, q⟩ := zz1
  refine ⟨by rw [← r.length]; exact z, ?_⟩
  have hf : H1 s1.heap.objs.size = none := I1.hok.fresh (Nat.le_refl _)
  refine ⟨.ref s1.heap.objs.size, upd H1 s1.heap.objs.size (.lst xs), I1.laid (t' := s1.toks) (fun b u e => Heap.get?_push_of_some _ e) (Nat.le_refl _) ?_, rfl, q _ hf⟩
  exact ⟨z, us, 0, r, Heap.get?_push_size _ rfl⟩
end

noncomputable abbrev Sp := List V → Hp → VK → XK → Prop
noncomputable abbrev CXT := List Env → Hp → Shared → XK → Value → Shared → Prop

structure Env0 (P : Program) (w : World) (K : PySem.W.Frag) (mg : Str → Option Value) (base : Heap) (A : Around) (outer : List Env) (s : Shared) (H : Hp) : Prop where
  frames : A.frames = some outer
  mod : Mod K mg base
  bs : ∀ b o, base.get? b = some o → s.heap.get? b = some o ∧ H b = none
  bsz : base.objs.size ≤ s.heap.objs.size
  funs : s.heap.FunFrames base outer
  frf : ∀ b ∈ frs outer, H b = none
  hok : HOk P w H s.heap
  bare : AllBare s.gens
noncomputable def CE (outer : List Env) (P : Program) (w : World) (H : Hp) (s : Shared) (Q : VK) (u : Value) (s' : Shared) : Prop :=
  ∃ v H', s'.os = s.os ∧ AllBare s'.gens ∧ Un (frs outer) [] H H' s.heap s'.heap ∧ HOk P w H' s'.heap ∧ RelV v u ∧ Q v H'
noncomputable def CR (CX : CXT) (outer : List Env) (P : Program) (w : World) (H : Hp) (s : Shared) (Q : VK) (E : XK) (r : Result) (s' : Shared) : Prop :=
  match r with
  | .ok (.ret u) => CE outer P w H s Q u s'
  | .ok _ => False
  | .error e => CX outer H s E e s'
structure FnOk (P : Program) (w : World) (K : PySem.W.Frag) (mg : Str → Option Value) (base : Heap) (CX : CXT) (k : Nat) (f : Addr) (fd : FuncData) (ps : List Str) (sp : Sp) : Prop where
  len : ∀ vs H Q E, sp vs H Q E → vs.length = ps.length
  run : ∀ (A : Around) (outer : List Env) (s : Shared) (H : Hp) (args : Args) (us : List Value) (vs : List V) (Q : VK) (E : XK), Room k A → Env0 P w K mg base A outer s H → BindsTo s fd args (ps.zip us) → Vals vs us → sp vs H Q E →
    codeAny (model P w) A (.call (.ref f) args) (CR CX outer P w H s Q E) s
theorem Env0.make {P : Program} {w : World} {K : PySem.W.Frag} {mg : Str → Option Value} {base : Heap} {A : Around} {outer : List Env} {s : Shared} {H : Hp} (e : Env0 P w K mg base A outer s H) (C : Addr) (us : List Value) (kw : List (Str × Value)) :
    Env0 P w K mg base (A.under (.builtin "type.__call__" ⟨.ref C :: us, kw⟩)) outer s H := ⟨by first | exact e.frames | (simpa [Around.under, Code.envs, Code.isFrame, pushEnvs] using e.frames), e.mod, e.bs, e.bsz, e.funs, e.frf, e.hok, e.bare⟩
section
variable {X : Cx} {pins : List (Addr × Obj)} {σ : St} {H : Hp} {s s' : Shared}
theorem Inv.env0 (I : Inv X pins σ H s) : Env0 X.prog X.w X.K X.mg X.base X.A X.stack s H :=
  ⟨I.ok.frames, I.ok.mod, I.bs, Nat.le_trans I.ok.bsz I.sz, I.stack, I.stkFree, I.hok, I.bare⟩
theorem Inv.after {Q : VK} {u : Value} (I : Inv X pins σ H s) (h : CE X.stack X.prog X.w H s Q u s') : EP X pins σ Q u s' := by
  obtain ⟨v, H', os, bare, un, hok, r, q⟩ := h
  obtain ⟨hh, g, d, t, os'⟩ := s'
  obtain rfl : os' = s.os := os
  exact ⟨v, H', I.call (h' := hh) (g' := g) (d' := d) (t' := t) (ch := []) un hok bare (fun b z => absurd z (by simp)), r, q⟩
end

noncomputable def tCall (sp : Sp) (dvs : List V) (E : XK) (t : TA) : TE := fun σ H Q => t σ H fun vs H1 => sp (vs ++ dvs) H1 Q E
noncomputable def tMeth (C : Addr) (m : Str) (sp : Sp) (dvs : List V) (E : XK) (ta : TE) (t : TA) : TE := fun σ H Q => ta σ H fun x H1 => ∃ a dx fs, x = .ref a ∧ H1 a = some (.ins C dx fs) ∧ fs.lookup m = none ∧
  t σ H1 fun vs H2 => sp (x :: (vs ++ dvs)) H2 Q E
noncomputable def tMake (C : Addr) (sp : Sp) (dvs : List V) (E : XK) (t : TA) : TE := fun σ H Q => t σ H fun vs H1 => ∀ x dx, H1 x = none → H1 dx = none → dx ≠ x →
  sp (.ref x :: (vs ++ dvs)) (upd (upd H1 dx (.own x)) x (.ins C dx [])) (fun v H2 => v = .non ∧ Q (.ref x) H2) E

noncomputable def Binds (K : PySem.W.Frag) (fd : FuncData) (ps : List Str) (ds : List Value) : Prop :=
  ∀ (s : Shared) (us : List Value), K.In s.heap → (us ++ ds).length = ps.length → BindsTo s fd ⟨us, []⟩ (ps.zip (us ++ ds))
theorem Binds.all {K : PySem.W.Frag} {fd : FuncData} {ps : List Str} (h : ∀ us : List Value, us.length = ps.length → bindArgs fd ⟨us, []⟩ = pure (ps.zip us)) : Binds K fd ps [] := fun s us _ hl => by
  rw [List.append_nil] at hl ⊢
  exact .of_eq (h us hl)

noncomputable def Passes (CX : CXT) (X : Cx) (E : XK) : Prop := ∀ (pins : List (Addr × Obj)) (σ : St) (H : Hp) (s : Shared) (e : Value) (s' : Shared), Inv X pins σ H s → CX X.stack H s E e s' → X.xe e s'

section
variable {X : Cx} {CX : CXT} {k : Nat} {f C : Addr} {fd : FuncData} {ps : List Str} {sp : Sp} {dvs : List V} {ds : List Value} {E : XK} {x m : Str} {p pos apos : Pos} {e o : Expr} {es : List Expr} {ta : TE} {t : TA}

theorem run_fn {pins : List (Addr × Obj)} {σ : St} {H : Hp} {s : Shared} {Q : VK} {us : List Value} {vs : List V} (F : FnOk X.prog X.w X.K X.mg X.base CX k f fd ps sp) (hr : Room k X.A) (hb : Binds X.K fd ps ds) (hd : Vals dvs ds) (hx : Passes CX X E)
    (I : Inv X pins σ H s) (r : Vals vs us) (h : sp (vs ++ dvs) H Q E) : wpAny (model X.prog X.w) X.A (call (.ref f) us) (EP X pins σ Q) X.xe s := by
  have r2 : Vals (vs ++ dvs) (us ++ ds) := r.append hd
  have hl : (us ++ ds).length = ps.length := by rw [← r2.length]; exact F.len _ _ _ _ h
  refine wpAny_call (codeAny_mono (F.run X.A X.stack s H ⟨us, []⟩ (us ++ ds) (vs ++ dvs) Q E hr I.env0 (hb s us I.kIn hl) r2 h) fun r s' hq => ?_)
  cases r with
  | error e => exact hx pins σ H s e s' I hq
  | ok fl =>
    cases fl with
    | ret u => exact I.after hq
    | next => exact False.elim hq
    | brk => exact False.elim hq
    | cont => exact False.elim hq

theorem pe_call (F : FnOk X.prog X.w X.K X.mg X.base CX k f fd ps sp) (hr : Room k X.A) (hg : Gl X x) (hm : X.mg x = some (.ref f)) (hk : PySem.W.keepIn X.K (.ref f) = true) (hb : Binds X.K fd ps ds) (hd : Vals dvs ds) (hx : Passes CX X E)
    (ha : PA X (e :: es) t) (hdb : (x == ("__debug__" : Str)) = false := by decide) (he : starEach (e :: es) X.env = (false, eval e X.env) :: starEach es X.env := by rfl) (hpl : (backTo pos (starEach es X.env)).any (·.1) = false := by rfl) :
    PE X (.Call (.Name x p) (e :: es) [] pos) (tCall sp dvs E t) := by
  intro pins s σ H Q I h
  refine wpAny_Call_Name_kw (ld_glob I hg hm ?_ hdb)
  refine PySem.W.callWith_K (h₀ := X.base) I.ok.mod.kin hk (thn (ha pos pins s σ H _ I h) fun us s1 zz1 => ?_) he hpl
  obtain ⟨vs, H1, I1, r, q⟩ := zz1
  refine ⟨I1.kIn, ?_⟩
  exact run_fn F hr hb hd hx I1 r q
theorem pe_meth {pl : Sem Bool} (he : PE X o ta) (c : Cls X.K C) (hm : Meth X.K C m f) (F : FnOk X.prog X.w X.K X.mg X.base CX k f fd ps sp) (hr : Room k X.A) (hb : Binds X.K fd ps ds) (hd : Vals dvs ds) (hx : Passes CX X E) (ha : PA X (e :: es) t)
    (hst : starEach (e :: es) X.env = (false, eval e X.env) :: starEach es X.env := by rfl) (hpl : (backTo pos (starEach es X.env)).any (·.1) = false := by rfl)
    (ht : eval (.Call (.Attribute o m apos) (e :: es) [] pos) X.env = (do
      let ov ← eval o X.env
      standAt apos.atName
      let (f, first) ← holding [ov] (getMethod ov m pl)
      callWith pos f first (backTo pos (starEach (e :: es) X.env)) (backToKw pos (keywordEach [] X.env))) := by rfl) :
    PE X (.Call (.Attribute o m apos) (e :: es) [] pos) (tMeth C m sp dvs E ta t) := by
  intro pins s σ H Q I h
  refine PySem.W.methodCall_KW (pl := pl) (thn (he pins s σ H _ I h) fun u s1 zz => ?_) ht
  obtain ⟨x, H1, I1, rx, a, dx, fs, ex, ea, l, q⟩ := zz
  subst ex
  obtain rfl : u = Value.ref a := rx
  refine getmeth_ok I1 ea c hm l ?_
  refine PySem.W.callWith_K (first := [.ref a]) (h₀ := X.base) I.ok.mod.kin hm.kp (thn (ha pos pins s1 σ H1 _ I1 q) fun us s2 zz1 => ?_) hst hpl
  obtain ⟨vs, H2, I2, r, q2⟩ := zz1
  refine ⟨I2.kIn, ?_⟩
  exact run_fn (us := .ref a :: us) (vs := .ref a :: vs) F hr hb hd hx I2 (.cons rfl r) q2
theorem pe_meth0 {pl : Sem Bool} (he : PE X o ta) (c : Cls X.K C) (hm : Meth X.K C m f) (F : FnOk X.prog X.w X.K X.mg X.base CX k f fd ps sp) (hr : Room k X.A) (hb : Binds X.K fd ps ds) (hd : Vals dvs ds) (hx : Passes CX X E)
    (ht : eval (.Call (.Attribute o m apos) [] [] pos) X.env = (do
      let ov ← eval o X.env
      standAt apos.atName
      let (f, first) ← holding [ov] (getMethod ov m pl)
      callWith pos f first (backTo pos (starEach [] X.env)) (backToKw pos (keywordEach [] X.env))) := by rfl) :
    PE X (.Call (.Attribute o m apos) [] [] pos) (tMeth C m sp dvs E ta tNil) := by
  intro pins s σ H Q I h
  refine PySem.W.methodCall_KW (pl := pl) (thn (he pins s σ H _ I h) fun u s1 zz => ?_) ht
  obtain ⟨x, H1, I1, rx, a, dx, fs, ex, ea, l, q⟩ := zz
  subst ex
  obtain rfl : u = Value.ref a := rx
  refine getmeth_ok I1 ea c hm l ?_
  exact PySem.W.callWith_K0 (first := [.ref a]) I1.kIn hm.kp (run_fn (us := [.ref a]) (vs := [.ref a]) F hr hb hd hx I1 (.cons rfl .nil) q)

structure Mk (K : PySem.W.Frag) (C f : Addr) : Prop where
  makes : PySem.W.makesIn K C = true
  init : PySem.W.findIn K (.ref C) "__init__" = some (some (.ref f))
  fn : PySem.W.isFn K (.ref f) = true
  kp : PySem.W.keepIn K (.ref C) = true

theorem run_make {pins : List (Addr × Obj)} {σ : St} {H : Hp} {s : Shared} {Q : VK} {us : List Value} {vs : List V} (M : Mk X.K C f) (F : FnOk X.prog X.w X.K X.mg X.base CX k f fd ps sp) (hr : Room (k + 1) X.A) (hb : Binds X.K fd ps ds) (hd : Vals dvs ds)
    (hx : Passes CX X E) (I : Inv X pins σ H s) (r : Vals vs us)
    (h : ∀ x dx, H x = none → H dx = none → dx ≠ x → sp (.ref x :: (vs ++ dvs)) (upd (upd H dx (.own x)) x (.ins C dx [])) (fun v H2 => v = .non ∧ Q (.ref x) H2) E) :
    wpAny (model X.prog X.w) X.A (call (.ref C) us) (EP X pins σ Q) X.xe s := by
  have hq := h (s.heap.objs.size + 1) s.heap.objs.size (I.hok.fresh (Nat.le_succ _)) (I.hok.fresh (Nat.le_refl _)) (Nat.ne_of_lt (Nat.lt_succ_self _))
  have I2 := Inv.made (C := C) I
  have r2 : Vals (V.ref (s.heap.objs.size + 1) :: (vs ++ dvs)) (Value.ref (s.heap.objs.size + 1) :: (us ++ ds)) := .cons rfl (r.append hd)
  have hl : (Value.ref (s.heap.objs.size + 1) :: us ++ ds).length = ps.length := by
    have e := r2.length
    rw [F.len _ _ _ _ hq] at e
    exact e.symm
  refine wpAny_call (make_map (f := f) I.kIn M.makes M.init (beq_iff_eq.mp M.fn) (codeAny_mono (F.run _ X.stack _ _ ⟨Value.ref (s.heap.objs.size + 1) :: us, []⟩ (Value.ref (s.heap.objs.size + 1) :: (us ++ ds)) _ _ E (hr.make C us [])
    (I2.env0.make C us []) (hb _ (Value.ref (s.heap.objs.size + 1) :: us) I2.kIn hl) r2 hq) fun r s' hq' => ?_))
  cases r with
  | error e => exact hx pins σ _ _ e s' I2 hq'
  | ok fl =>
    cases fl with
    | ret u =>
      obtain ⟨v, H', I3, rv, ev, q3⟩ := I2.after hq'
      subst ev
      exact ⟨rv, ⟨V.ref (s.heap.objs.size + 1), H', I3, rfl, q3⟩⟩
    | next => exact False.elim hq'
    | brk => exact False.elim hq'
    | cont => exact False.elim hq'
theorem pe_make (M : Mk X.K C f) (F : FnOk X.prog X.w X.K X.mg X.base CX k f fd ps sp) (hr : Room (k + 1) X.A) (hg : Gl X x) (hm : X.mg x = some (.ref C)) (hb : Binds X.K fd ps ds) (hd : Vals dvs ds) (hx : Passes CX X E)
    (ha : PA X (e :: es) t) (hdb : (x == ("__debug__" : Str)) = false := by decide) (he : starEach (e :: es) X.env = (false, eval e X.env) :: starEach es X.env := by rfl) (hpl : (backTo pos (starEach es X.env)).any (·.1) = false := by rfl) :
    PE X (.Call (.Name x p) (e :: es) [] pos) (tMake C sp dvs E t) := by
  intro pins s σ H Q I h
  refine wpAny_Call_Name_kw (ld_glob I hg hm ?_ hdb)
  refine PySem.W.callWith_K (h₀ := X.base) I.ok.mod.kin M.kp (thn (ha pos pins s σ H _ I h) fun us s1 zz1 => ?_) he hpl
  obtain ⟨vs, H1, I1, r, q⟩ := zz1
  refine ⟨I1.kIn, ?_⟩
  exact run_make M F hr hb hd hx I1 r q
end

section
variable {X : Cx} {CX : CXT} {k : Nat} {f C : Addr} {fd : FuncData} {ps ks : List Str} {sp : Sp} {E : XK} {x m : Str} {p pos apos kpos : Pos} {e o : Expr} {es : List Expr} {kws : List Keyword} {te ta : TE} {t tk : TA} {nm : Option Str}
variable {g : List Value → List Value → List Value} {gV : List V → List V → List V}
end

structure FnScope (N P : List Str) (sc : Scope) : Prop where
  kind : sc.kind = .function
  co : sc.isCoroutine = false
  gen : sc.isGenerator = false
  nd : N.Nodup
  pre : N.take P.length = P
  par : ∀ x ∈ P, sc.names.lookup x = some .local ∨ sc.names.lookup x = some .cell
  nofree : ∀ y ∈ sc.names, y.2 ≠ .free

theorem bindL_out {kindOf : Str → Option NameKind} {x : Str} : ∀ {binds : List (Str × Value)} {m : Str → Option Value}, (∀ v, (x, v) ∉ binds) → bindL kindOf binds m x = m x
  | [], _, _ => rfl
  | (n, v) :: r, m, h => by
    unfold bindL
    rw [bindL_out fun w hw => h w (List.mem_cons_of_mem _ hw)]
    split
    · have : x ≠ n := by rintro rfl; exact h v List.mem_cons_self
      simp [this]
    · rfl
theorem bindC_out {kindOf : Str → Option NameKind} {x : Str} : ∀ {binds : List (Str × Value)} {m : Str → Option Value}, (∀ v, (x, v) ∉ binds) → bindC kindOf binds m x = m x
  | [], _, _ => rfl
  | (n, v) :: r, m, h => by
    unfold bindC
    rw [bindC_out fun w hw => h w (List.mem_cons_of_mem _ hw)]
    split
    · rfl
    · have : x ≠ n := by rintro rfl; exact h v List.mem_cons_self
      simp [this]
theorem bindL_get {kindOf : Str → Option NameKind} {x : Str} {v : Value} : ∀ {P : List Str} {vs : List Value} {i : Nat} {m : Str → Option Value}, P.Nodup → P[i]? = some x → vs[i]? = some v → kindOf x = some .local →
    bindL kindOf (P.zip vs) m x = some v
  | [], _, _, _, _, h, _, _ => by simp at h
  | _ :: _, [], _, _, _, _, h, _ => by simp at h
  | p :: P, w :: vs, 0, m, nd, h1, h2, hk => by
    simp at h1 h2; subst h1; subst h2
    show bindL kindOf ((p, w) :: P.zip vs) m p = _
    unfold bindL
    rw [bindL_out fun v hv => (List.nodup_cons.mp nd).1 (List.of_mem_zip hv).1, if_pos hk]
    simp
  | p :: P, w :: vs, i + 1, m, nd, h1, h2, hk => by
    show bindL kindOf ((p, w) :: P.zip vs) m x = _
    unfold bindL
    exact bindL_get (i := i) (List.nodup_cons.mp nd).2 (by simpa using h1) (by simpa using h2) hk
theorem bindC_get {kindOf : Str → Option NameKind} {x : Str} {v : Value} : ∀ {P : List Str} {vs : List Value} {i : Nat} {m : Str → Option Value}, P.Nodup → P[i]? = some x → vs[i]? = some v → kindOf x ≠ some .local →
    bindC kindOf (P.zip vs) m x = some v
  | [], _, _, _, _, h, _, _ => by simp at h
  | _ :: _, [], _, _, _, _, h, _ => by simp at h
  | p :: P, w :: vs, 0, m, nd, h1, h2, hk => by
    simp at h1 h2; subst h1; subst h2
    show bindC kindOf ((p, w) :: P.zip vs) m p = _
    unfold bindC
    rw [bindC_out fun v hv => (List.nodup_cons.mp nd).1 (List.of_mem_zip hv).1, if_neg hk]
    simp
  | p :: P, w :: vs, i + 1, m, nd, h1, h2, hk => by
    show bindC kindOf ((p, w) :: P.zip vs) m x = _
    unfold bindC
    exact bindC_get (i := i) (List.nodup_cons.mp nd).2 (by simpa using h1) (by simpa using h2) hk

noncomputable def start (N : List Str) (vs : List V) : St := vs.map some ++ List.replicate (N.length - vs.length) none

noncomputable def cxOf (CX : CXT) (P : Program) (w : World) (K : PySem.W.Frag) (mg : Str → Option Value) (base : Heap) (N : List Str) (qual : Str) (scope : Scope) (f : Addr) (cd : Value) (A : Around) (outer : List Env) (s : Shared) (H : Hp) (E : XK) : Cx where
  prog := P
  w := w
  K := K
  mg := mg
  base := base
  A := A.deeper (envOfC qual scope s.heap.objs.size f cd)
  N := N
  s₀ := s
  H₀ := H
  env := envOfC qual scope s.heap.objs.size f cd
  outer := outer
  stack := envOfC qual scope s.heap.objs.size f cd :: outer
  ex := []
  calm := true
  fn := fun _ => true
  pn := []
  xe := fun e s' => wpAny (model P w) (A.deeper (envOfC qual scope s.heap.objs.size f cd)) (leaving (envOfC qual scope s.heap.objs.size f cd) e) (fun _ s'' => CX outer H s E e s'') (fun e' s'' => CX outer H s E e' s'') s'

theorem cell_has {sc : Scope} {n : Nat} {x : Str} (h : sc.names.lookup x = some .cell) : ∃ c, (cellsFrom n sc.names []).lookup x = some c := by
  have q := PySem.W.cellsFrom_some sc.names n [] (.inl h)
  exact Option.isSome_iff_exists.mp q

theorem inv_start {CX : CXT} {P : Program} {w : World} {K : PySem.W.Frag} {mg : Str → Option Value} {base : Heap} {N ps : List Str} {qual : Str} {scope : Scope} {f : Addr} {cd : Value} {A : Around} {outer : List Env} {s s1 : Shared} {H : Hp} {E : XK} {us : List Value} {vs : List V}
    (S : FnScope N ps scope) (hd : A.handled = none) (e0 : Env0 P w K mg base A outer s H) (hl : vs.length = ps.length) (r : Vals vs us)
    (x : InCallC s s.heap.objs.size (bindL (envOfC qual scope s.heap.objs.size f cd).kindOf (ps.zip us) fun _ => none) (cellsFrom (s.heap.objs.size + 1) scope.names []) (bindC (envOfC qual scope s.heap.objs.size f cd).kindOf (ps.zip us) fun _ => none) s1) :
    Inv (cxOf CX P w K mg base N qual scope f cd A outer s H E) [] (start N vs) H s1 := by
  have hpl : ps.length ≤ N.length := by have := congrArg List.length S.pre; rw [List.length_take] at this; (clear hl; omega)
  obtain ⟨h1, tk, rfl, hk⟩ := x.done
  have noA : ∀ b : Addr, b ∉ (cxOf CX P w K mg base N qual scope f cd A outer s H E).ex := fun b z => absurd (show b ∈ ([] : List Addr) from z) (by simp)
  refine ⟨⟨e0.mod, S.kind, rfl, rfl, Nat.le_refl _, fun y z c h1 h2 => ?_, fun y hy => ?_, fun y c _ h => ?_, fun _ => hd, Around.frames_deeper e0.frames, .inr ⟨rfl, rfl⟩, fun b z => absurd z (noA b), e0.bs, e0.bsz, fun b _ _ => noA b, fun b z => absurd z (noA b), e0.funs, e0.frf⟩,
    rfl, e0.bare, Un.kept hk, ⟨_, x.toInCall.ns, fun i y v h1 h2 h3 => ?_⟩, fun y c h => ⟨_, x.cell y c h⟩, e0.hok.fresh (Nat.le_refl _), fun y c h => ?_, fun p hp => absurd (show p ∈ ([] : List (Addr × Obj)) from hp) (by simp), e0.hok.kept hk, ?_⟩
  · exact name_of_addr x.apart (PySem.mem_of_lookup h1) (PySem.mem_of_lookup h2)
  · have hy : scope.names.lookup y = some .cell ∨ scope.names.lookup y = some .free := hy
    rcases hy with hy | hy
    · exact cell_has hy
    · exact absurd rfl (S.nofree _ (PySem.mem_of_lookup hy))
  · exact Nat.le_of_lt (x.above y c (PySem.mem_of_lookup h))
  · have hi : i < vs.length := by
      unfold start at h2
      by_cases hi : i < vs.length
      · exact hi
      · rw [List.getElem?_append_right (by simpa using hi)] at h2
        rw [List.getElem?_replicate] at h2
        split at h2 <;> cases h2
    have ha : vs[i]? = some v := by
      unfold start at h2
      rw [List.getElem?_append_left (by simpa using hi), List.getElem?_map] at h2
      cases e : vs[i]? with
      | none => rw [e] at h2; cases h2
      | some a => rw [e] at h2; cases h2; rfl
    obtain ⟨u, hu, rv⟩ := r.get ha
    have hp : ps[i]? = some y := by
      rw [← S.pre, List.getElem?_take_of_lt (by (clear hpl; omega))]; exact h1
    have ndP : ps.Nodup := by rw [← S.pre]; exact S.nd.sublist (List.take_sublist _ _)
    refine ⟨u, rv, ?_⟩
    rcases S.par y (List.mem_of_getElem? hp) with k | k
    · exact .inl ⟨k, bindL_get ndP hp hu k⟩
    · obtain ⟨c, e⟩ := cell_has (n := s.heap.objs.size + 1) k
      refine .inr ⟨.inl k, c, e, ?_⟩
      have q := x.cell y c e
      rw [bindC_get ndP hp hu (by show scope.names.lookup y ≠ _; rw [k]; decide)] at q
      exact q
  · exact e0.hok.fresh (Nat.le_of_lt (x.above y c (PySem.mem_of_lookup h)))
  · unfold start
    show _ = N.length
    rw [List.length_append, List.length_map, List.length_replicate]
    omega

theorem fn_of {CX : CXT} {P : Program} {w : World} {K : PySem.W.Frag} {mg : Str → Option Value} {base : Heap} {k : Nat} {f : Addr} {name qual : Str} {params : Arguments} {body : List Stmt} {scope : Scope} {dV kV doc pm cdv ct oc : Value} {an od : Option Addr}
    {osl : Array (Option Value)} {N ps : List Str} {sp : Sp} (lk : K.lookup f = some ⟨oc, od, .func (PySem.W.fnOf name qual params body scope dV kV doc pm an cdv ct), osl⟩) (hcd : PySem.W.codeIn K cdv qual = true) (S : FnScope N ps scope)
    (len : ∀ vs H Q E, sp vs H Q E → vs.length = ps.length)
    (hbody : ∀ (A : Around) (outer : List Env) (s : Shared) (H : Hp) (vs : List V) (Q : VK) (E : XK), Room k (A.deeper (envOfC qual scope s.heap.objs.size f cdv)) → sp vs H Q E →
      ∃ t, PSs (cxOf CX P w K mg base N qual scope f cdv A outer s H E) body t ∧ t { nx := fun _ H' => Q .non H', rt := Q } (start N vs) H) :
    FnOk P w K mg base CX (k + 1) f (PySem.W.fnOf name qual params body scope dV kV doc pm an cdv ct) ps sp := by
  refine ⟨len, fun A outer s H args us vs Q E hr e0 hb r hsp => ?_⟩
  have hl := len _ _ _ _ hsp
  have KX : K.In s.heap := e0.mod.kin.keeps fun b o e => (e0.bs b o e).1
  have lim : s.heap.NoLimit := e0.mod.nolimit.keeps fun b o e => (e0.bs b o e).1
  have hkind : ∀ y ∈ ps.zip us, scope.names.lookup y.1 = some .local ∨ (scope.names.lookup y.1 = some .cell ∧ ((cellsFrom (s.heap.objs.size + 1) scope.names []).lookup y.1).isSome = true) := fun ⟨n, v⟩ hy => by
    rcases S.par n (List.of_mem_zip hy).1 with q | q
    · exact .inl q
    · exact .inr ⟨q, PySem.W.cellsFrom_some _ _ _ (.inl q)⟩
  refine codeAny_call_function hr.depth (KX _ _ lk) rfl S.co S.gen rfl (PySem.W.codeRec_of KX hcd) (hb _ _ _ _ ?_)
  refine wpAny_newFunctionEnv_cells S.kind hkind fun env he s1 x => ?_
  subst he
  refine ⟨lim.keeps x.toInCall.keep, codeAny_func ?_⟩
  obtain ⟨t, ht, hq⟩ := hbody A outer s H vs Q E (hr.deeper _) hsp
  have I : Inv (cxOf CX P w K mg base N qual scope f cdv A outer s H E) [] (start N vs) H s1 := inv_start S hr.hd e0 hl r x
  refine wpAny_mono (ht [] s1 (start N vs) H _ I hq) (fun fl s' hs => ?_) fun e s' hs => hs
  have fin : ∀ {σ' : St} {H' : Hp} {v : V} {u : Value}, Inv (cxOf CX P w K mg base N qual scope f cdv A outer s H E) [] σ' H' s' → RelV v u → Q v H' → CE outer P w H s Q u s' :=
    fun {σ' H' v u} J rv q => ⟨v, H', J.os, J.bare, J.base, J.hok, rv, q⟩
  cases fl with
  | ret u =>
    obtain ⟨v, σ', H', J, rv, q⟩ := hs
    exact fin J rv q
  | next =>
    obtain ⟨σ', H', J, q⟩ := hs
    exact fin (v := V.non) (u := Value.none) J rfl q
  | brk =>
    obtain ⟨_, _, _, q⟩ := hs
    exact False.elim q
  | cont =>
    obtain ⟨_, _, _, q⟩ := hs
    exact False.elim q
end L2

namespace L2
open PySem PySem.Spec PyProof.Rows
section
variable {X : Cx} {x : Str} {p pos : Pos} {e : Expr} {es : List Expr} {t : TA} {id T : String} {r : List V → Hp → VK → Prop}

noncomputable def tCB (r : List V → Hp → VK → Prop) (t : TA) : TE := fun σ H Q => t σ H fun vs H1 => r vs H1 Q
theorem pe_callB (hc : CallR X (.builtin id) r) (hg : Gl X x) (hm : X.mg x = none) (hv : bootBuiltins x = some (.builtin id)) (ha : PA X (e :: es) t) (hn : x ≠ "__name__" := by decide) (hdb : (x == ("__debug__" : Str)) = false := by decide)
    (he : starEach (e :: es) X.env = (false, eval e X.env) :: starEach es X.env := by rfl) (hpl : (backTo pos (starEach es X.env)).any (·.1) = false := by rfl) : PE X (.Call (.Name x p) (e :: es) [] pos) (tCB r t) := by
  intro pins s σ H Q I h
  refine wpAny_Call_Name_kw (ld_blt I hg hm hv ?_ hn hdb)
  refine PyProof.Rows.callWith_builtin1 (thn (ha pos pins s σ H _ I h) fun us s1 zz1 => ?_) he hpl
  obtain ⟨vs, H1, I1, r1, q1⟩ := zz1
  exact hc pins s1 σ H1 vs us Q I1 r1 q1
theorem pe_callTy (hc : CallR X (.type T) r) (hg : Gl X x) (hm : X.mg x = none) (hv : bootBuiltins x = some (.type T)) (ha : PA X (e :: es) t) (hn : x ≠ "__name__" := by decide) (hdb : (x == ("__debug__" : Str)) = false := by decide)
    (he : starEach (e :: es) X.env = (false, eval e X.env) :: starEach es X.env := by rfl) (hpl : (backTo pos (starEach es X.env)).any (·.1) = false := by rfl) : PE X (.Call (.Name x p) (e :: es) [] pos) (tCB r t) := by
  intro pins s σ H Q I h
  refine wpAny_Call_Name_kw (ld_blt I hg hm hv ?_ hn hdb)
  exact PyProof.Rows.callWith_type1 (thn (ha pos pins s σ H _ I h) fun us s1 ⟨vs, H1, I1, r1, q1⟩ => hc pins s1 σ H1 vs us Q I1 r1 q1) he hpl
end
end L2

namespace HT
open PySem PyProof.Rows

section
open PySem.SeqAt
open PySem.AutoSeq1 (wpAny_loadPart')
open PySem.MeetsSeq PySem.MeetsSeq2 PySem.MeetsSeq3

end

section
variable {prog : Program} {w : World} {A : Around} {E : Value → Shared → Prop} {s : Shared}

end
end HT

namespace L2
open PySem PySem.Spec PyProof.Rows

theorem intsAre_of {ns : List Int} : ∀ {us : List Value}, Vals (ns.map V.int) us → IntsAre us ns := by
  induction ns with
  | nil => intro us r; rw [List.map_nil] at r; cases r; exact .nil
  | cons n ns ih =>
    intro us r
    rw [List.map_cons] at r
    cases r with
    | cons r1 r2 =>
      obtain ⟨t, e⟩ := r1
      subst e
      exact .cons n t (ih r2)

section
variable {X : Cx} {e : Expr} {te : TE} {lo hi : Option Expr} {tl th : TO} {pos p2 : Pos}

end
end L2

namespace L2
open PySem PySem.Spec PyProof.Rows

noncomputable def ixN (n : Nat) (i : Int) : Option Nat := if 0 ≤ i then (if i < n then some i.toNat else none) else if -(n : Int) ≤ i then some (i + n).toNat else none
noncomputable def atI {α : Type} (xs : List α) (i : Int) : Option α := (ixN xs.length i).bind fun j => xs[j]?
theorem ixN_seq {n : Nat} {i : Int} {j : Nat} (h : ixN n i = some j) : seqIndex? i n = some j ∧ j < n ∧ -(n : Int) ≤ i ∧ i < n := by
  unfold ixN at h
  by_cases h0 : 0 ≤ i
  · rw [if_pos h0] at h
    by_cases h1 : i < n
    · rw [if_pos h1] at h
      have e : i.toNat = j := Option.some.inj h
      exact ⟨by rw [seqIndex_of h0 h1, e], by omega, by (clear h1 e; omega), h1⟩
    · rw [if_neg h1] at h; cases h
  · rw [if_neg h0] at h
    by_cases h1 : -(n : Int) ≤ i
    · rw [if_pos h1] at h
      have e : (i + n).toNat = j := Option.some.inj h
      exact ⟨by rw [seqIndex_neg (by (clear h1 e; omega)) h1, e], by omega, h1, by (clear e h1; omega)⟩
    · rw [if_neg h1] at h; cases h
theorem atI_get {α : Type} {xs : List α} {i : Int} {v : α} (h : atI xs i = some v) : ∃ j, seqIndex? i xs.length = some j ∧ xs[j]? = some v ∧ j < xs.length ∧ -(xs.length : Int) ≤ i ∧ i < xs.length := by
  unfold atI at h
  cases e : ixN xs.length i with
  | none => rw [e] at h; cases h
  | some j =>
    rw [e] at h
    obtain ⟨h1, h2, h3, h4⟩ := ixN_seq e
    exact ⟨j, h1, h, h2, h3, h4⟩
theorem atI_nat {α : Type} {xs : List α} {j : Nat} {v : α} (h : xs[j]? = some v) : atI xs (j : Int) = some v := by
  have hj : j < xs.length := (List.getElem?_eq_some_iff.mp h).1
  have e : ixN xs.length (j : Int) = some j := by
    unfold ixN
    rw [if_pos (by (clear hj; omega)), if_pos (by omega)]; simp
  unfold atI; rw [e]; exact h
noncomputable def PlainIx (b : Expr) : Prop := ∀ o i, subscripted b false o i = operate [o, i] (getItem o i)
noncomputable def IxR (X : Cx) (r : R2) : Prop :=
  ∀ (value slice : Expr) (pins : List (Addr × Obj)) (s : Shared) (σ : St) (H : Hp) (x y : V) (v u : Value) (Q : VK), Inv X pins σ H s → RelV x v → RelV y u → r x y H Q →
    subscripted slice false v u = operate [v, u] (getItem v u) → wpAny (model X.prog X.w) X.A (subscriptTail value slice v u) (EP X pins σ Q) X.xe s
noncomputable def MtR (X : Cx) (id : String) (r : V → List V → Hp → VK → Prop) : Prop :=
  ∀ (pins : List (Addr × Obj)) (s : Shared) (σ : St) (H : Hp) (x : V) (xs : List V) (v : Value) (us : List Value) (Q : VK), Inv X pins σ H s → RelV x v → Vals xs us → r x xs H Q →
    wpAny (model X.prog X.w) X.A (call (.builtin id) (v :: us)) (EP X pins σ Q) X.xe s
section
variable {X : Cx} {a b : Expr} {ta tb : TE} {pos : Pos}
theorem pe_ix {r : R2} (hr : IxR X r) (ha : PE X a ta) (hb : PE X b tb) (hs : PlainIx b) : PE X (.Subscript a b pos) (tOp r ta tb) := by
  intro pins s σ H Q I h
  exact Subscript_ (binT ha hb I h fun v u s2 x y H2 I2 rx ry q => hr a b pins s2 σ H2 x y v u Q I2 rx ry q (hs _ _))

noncomputable def rIxL (K : PySem.W.Frag) : R2 := fun x y H Q => ∃ p xs i v, x = .ref p ∧ y = .int i ∧ SqL K H p xs ∧ atI xs i = some v ∧ Q v H
noncomputable def rIxT (K : PySem.W.Frag) : R2 := fun x y H Q => ∃ p xs i v, x = .ref p ∧ y = .int i ∧ SqT K H p xs ∧ atI xs i = some v ∧ Q v H
theorem ix_list : IxR X (rIxL X.K) := by
  intro value slice pins s σ H x y v u Q I rx ry h hs
  obtain ⟨p, xs, i, z, rfl, rfl, hq, he, q⟩ := h
  cases rx
  obtain ⟨t, rfl⟩ := ry
  obtain ⟨its, r, pl, hz⟩ := I.list hq
  obtain ⟨j, h1, h2, h3, h4, h5⟩ := atI_get he
  obtain ⟨w, ew, rw'⟩ := r.get h2
  have hl := r.length
  have hn := line63
  have fin : EP X pins σ Q w s := ⟨z, H, I, rw', q⟩
  by_cases h0 : 0 ≤ i
  · have hj : i.toNat = j := by
      rw [seqIndex_of h0 h5] at h1
      exact Option.some.inj h1
    exact item_listR pl.isList h0 (by (clear h3 h4 h0 hj hl; omega)) (by rw [hj]; simpa using ew) fin hs
  · have hj : (i + (its.toArray.size : Int)).toNat = j := by
      rw [seqIndex_neg (by (clear hz h3 h4 h5 hl hn; omega)) h4] at h1
      rw [List.size_toArray, ← hl]
      exact Option.some.inj h1
    exact subscriptTail_builtinR (x := w) pl.isList.typeIs slot_list_getitem.lookup
      (wpAny_getItem_list_neg (Q := fun r s' => r = w ∧ EP X pins σ Q r s') pl.isList (by (clear hz h3 h4 h5 hl hn hj; omega)) (by rw [List.size_toArray] <;> (clear hz h3 h5 hn h0 hj; omega)) (by (clear h3 h5 h0 hj hl; omega)) (by rw [hj]; simpa using ew) ⟨rfl, fin⟩) hs
theorem ix_tup : IxR X (rIxT X.K) := by
  intro value slice pins s σ H x y v u Q I rx ry h hs
  obtain ⟨p, xs, i, z, rfl, rfl, hq, he, q⟩ := h
  cases rx
  obtain ⟨t, rfl⟩ := ry
  obtain ⟨its, r, pl, hz⟩ := I.tuple hq
  obtain ⟨j, h1, h2, h3, h4, h5⟩ := atI_get he
  obtain ⟨w, ew, rw'⟩ := r.get h2
  have hl := r.length
  have hn := line63
  have fin : EP X pins σ Q w s := ⟨z, H, I, rw', q⟩
  exact subscriptTail_builtinR (x := w) pl.typeIs slot_tuple_getitem.lookup
    (getItem_tuple (j := j) (Q := fun r s' => r = w ∧ EP X pins σ Q r s') pl (by (clear h5 h3 hl; omega)) (by (clear h4 h3 hl; omega)) (by rw [List.size_toArray, ← hl]; exact h1) (by simpa using ew) ⟨rfl, fin⟩) hs
theorem mapSeq_set (its : List Value) (n j : Nat) (u : Value) : Obj.mapSeq (·.setIfInBounds j u) { cls := .type "list", data := .seq its.toArray n } = { cls := .type "list", data := .seq (its.set j u).toArray n } := by
  simp [Obj.mapSeq]
theorem Inv.lst {pins : List (Addr × Obj)} {σ : St} {H : Hp} {s : Shared} {p : Addr} {xs : List V} (I : Inv X pins σ H s) (h : H p = some (.lst xs)) :
    ∃ (its : List Value) (n : Nat), Vals xs its ∧ s.heap.get? p = some { cls := .type "list", data := .seq its.toArray n } ∧ xs.length ≤ sizeLine := by
  obtain ⟨z, its, n, r, e⟩ := I.hok p _ h
  exact ⟨its, n, r, e, z⟩
theorem Inv.lstUpd {pins : List (Addr × Obj)} {σ : St} {H : Hp} {s : Shared} {p : Addr} {xs ys : List V} {its its' : List Value} {n n' : Nat} {f : Obj → Obj} (I : Inv X pins σ H s) (h : H p = some (.lst xs))
    (ho : s.heap.get? p = some { cls := .type "list", data := .seq its.toArray n }) (hf : f { cls := .type "list", data := .seq its.toArray n } = { cls := .type "list", data := .seq its'.toArray n' }) (r : Vals ys its') (hz : ys.length ≤ sizeLine) (t : Nat) :
    Inv X pins σ (upd H p (.lst ys)) { s with heap := s.heap.update p f, toks := t } := by
  have e : (s.heap.update p f).get? p = some { cls := .type "list", data := .seq its'.toArray n' } := by
    rw [Heap.get?_update_self f ho (by rw [hf] <;> rfl), hf]
  refine I.write (x := p) (e := p) (by rw [h]; trivial) (.inl rfl) (fun b u hb q => (Heap.get?_update_other _ _ (Ne.symm hb)).trans q) ⟨_, e⟩ ?_
  exact ⟨hz, its', n', r, e⟩
noncomputable def rSetL : V → V → V → Hp → (Hp → Prop) → Prop := fun o i v H Q => ∃ p xs k j, o = .ref p ∧ i = .int k ∧ H p = some (.lst xs) ∧ ixN xs.length k = some j ∧ Q (upd H p (.lst (xs.set j v)))
theorem set_list : PSet X rSetL := by
  intro pins s σ H o i v ov iv u Q I ro ri rv h
  obtain ⟨p, xs, k, j, rfl, rfl, hp, hj, q⟩ := h
  cases ro
  obtain ⟨t, rfl⟩ := ri
  obtain ⟨its, n, r, ho, hz⟩ := I.lst hp
  obtain ⟨h1, h2, h3, h4⟩ := ixN_seq hj
  have hl := r.length
  have hn := line63
  have I' : Inv X pins σ (upd H p (.lst (xs.set j v))) { s with heap := s.heap.update p (Obj.mapSeq (·.setIfInBounds j u)) } :=
    I.lstUpd hp ho (mapSeq_set its n j u) (r.set rv j) (by rw [List.length_set]; exact hz) s.toks
  by_cases h0 : 0 ≤ k
  · have hk : k.toNat = j := by
      rw [seqIndex_of h0 h4] at h1
      exact Option.some.inj h1
    exact PySem.W.ki_setAt ho h0 (by (clear h2 h3 h0 hk hl; omega)) (by rw [List.size_toArray, ← hl]; exact h4) (by rw [hk]; exact ⟨_, I', q⟩)
  · have hk : (k + (its.toArray.size : Int)).toNat = j := by
      rw [seqIndex_neg (by (clear hz h2 h3 h4 hl hn; omega)) h3] at h1
      rw [List.size_toArray, ← hl]
      exact Option.some.inj h1
    exact PySem.W.ki_setBack ho (by (clear hz h2 h3 h4 hl hn hk; omega)) (by rw [List.size_toArray, ← hl]; exact h3) (by (clear h2 h4 h0 hk hl; omega)) (by rw [hk]; exact ⟨_, I', q⟩)

noncomputable def flatV : V → Bool
  | .non => true
  | .bl _ => true
  | .int _ => true
  | .str _ => true
  | _ => false
noncomputable def eqV : V → V → Bool
  | .non, .non => true
  | .bl a, .bl b => a == b
  | .bl a, .int b => (if a then 1 else 0) == b
  | .int a, .bl b => a == (if b then 1 else 0)
  | .int a, .int b => a == b
  | .str a, .str b => a == b
  | _, _ => false
theorem eqAt_V {A : Around} {s : Shared} {y x : V} {u v : Value} (ry : RelV y u) (rx : RelV x v) (fy : flatV y = true) (fx : flatV x = true) : SeqAt.EqAt A s u v (eqV y x) := by
  cases y with
  | non =>
    cases ry
    cases x with
    | non => cases rx; exact SeqAt.EqAt.same _
    | bl b => cases rx; exact SeqAt.EqAt.none_bool b
    | int b => obtain ⟨t, rfl⟩ := rx; exact SeqAt.EqAt.none_int b t
    | str b => obtain ⟨t, rfl⟩ := rx; exact SeqAt.EqAt.none_str b t
    | _ => exact absurd (show false = true from fx) Bool.false_ne_true
  | bl a =>
    cases ry
    cases x with
    | non => cases rx; exact SeqAt.EqAt.bool_none a
    | bl b => cases rx; exact SeqAt.EqAt.bool_bool a b
    | int b => obtain ⟨t, rfl⟩ := rx; exact SeqAt.EqAt.bool_int a b t
    | str b => obtain ⟨t, rfl⟩ := rx; exact SeqAt.EqAt.bool_str a b t
    | _ => exact absurd (show false = true from fx) Bool.false_ne_true
  | int a =>
    obtain ⟨t', rfl⟩ := ry
    cases x with
    | non => cases rx; exact SeqAt.EqAt.int_none a t'
    | bl b => cases rx; exact SeqAt.EqAt.int_bool a t' b
    | int b => obtain ⟨t, rfl⟩ := rx; exact SeqAt.EqAt.int_int a t' b t
    | str b => obtain ⟨t, rfl⟩ := rx; exact SeqAt.EqAt.int_str a t' b t
    | _ => exact absurd (show false = true from fx) Bool.false_ne_true
  | str a =>
    obtain ⟨t', rfl⟩ := ry
    cases x with
    | non => cases rx; exact SeqAt.EqAt.str_none a t'
    | bl b => cases rx; exact SeqAt.EqAt.str_bool a t' b
    | int b => obtain ⟨t, rfl⟩ := rx; exact SeqAt.EqAt.str_int a t' b t
    | str b => obtain ⟨t, rfl⟩ := rx; exact SeqAt.EqAt.str_str a t' b t
    | _ => exact absurd (show false = true from fx) Bool.false_ne_true
  | _ => exact absurd (show false = true from fy) Bool.false_ne_true
noncomputable def eqU (x : V) (u : Value) : Bool := match u with
  | .none => eqV .non x
  | .bool b => eqV (.bl b) x
  | .int i _ => eqV (.int i) x
  | .str z _ => eqV (.str z) x
  | _ => false
theorem eqU_of {x y : V} {u : Value} (r : RelV y u) (f : flatV y = true) : eqU x u = eqV y x := by
  cases y with
  | non => cases r; rfl
  | bl b => cases r; rfl
  | int i => obtain ⟨t, rfl⟩ := r; rfl
  | str z => obtain ⟨t, rfl⟩ := r; rfl
  | _ => exact absurd (show false = true from f) Bool.false_ne_true
theorem any_eqU {x : V} : ∀ {xs : List V} {us : List Value}, Vals xs us → xs.all flatV = true → us.any (eqU x) = xs.any fun y => eqV y x := by
  intro xs us r
  induction r with
  | nil => intro _; rfl
  | cons r t ih =>
    intro f
    rw [List.all_cons, Bool.and_eq_true] at f
    rw [List.any_cons, List.any_cons, eqU_of r f.1, ih f.2]
theorem mem_eqAt {A : Around} {s : Shared} {x : V} {v : Value} (rx : RelV x v) (fx : flatV x = true) : ∀ {xs : List V} {us : List Value}, Vals xs us → xs.all flatV = true → ∀ u ∈ us, SeqAt.EqAt A s u v (eqU x u) := by
  intro xs us t
  induction t with
  | nil => intro _ u hu; cases hu
  | cons r t ih =>
    intro f u' hu
    rw [List.all_cons, Bool.and_eq_true] at f
    rcases List.mem_cons.mp hu with rfl | hu
    · rw [eqU_of r f.1]; exact eqAt_V r rx f.1 fx
    · exact ih f.2 u' hu
noncomputable def inV (x : V) (xs : List V) : Bool := xs.any fun y => eqV y x
noncomputable def rIn (K : PySem.W.Frag) (neg : Bool) : R2 := fun x y H Q => ∃ p xs, y = .ref p ∧ (SqL K H p xs ∨ SqT K H p xs) ∧ flatV x = true ∧ xs.all flatV = true ∧ Q (.bl (if neg then !inV x xs else inV x xs)) H
theorem op_in_seq : OpR X (compareOp .In) (rIn X.K false) := by
  intro pins s σ H x y v u Q I rx ry h
  obtain ⟨p, xs, rfl, hq, fx, fs, q⟩ := h
  cases ry
  rcases hq with hq | hq
  · obtain ⟨its, r, pl, hz⟩ := I.list hq
    refine SeqAt.in_listAt (eqU x) pl.isList (fun w hw => mem_eqAt rx fx r fs w (by simpa using hw)) ⟨.bl _, H, I, rfl, ?_⟩
    rw [show its.toArray.any (eqU x) = its.any (eqU x) by simp, any_eqU r fs]
    exact q
  · obtain ⟨its, r, pl, hz⟩ := I.tuple hq
    refine SeqAt.in_tupleAt (eqU x) pl (fun w hw => mem_eqAt rx fx r fs w (by simpa using hw)) ⟨.bl _, H, I, rfl, ?_⟩
    rw [show its.toArray.any (eqU x) = its.any (eqU x) by simp, any_eqU r fs]
    exact q
theorem op_notIn_seq : OpR X (compareOp .NotIn) (rIn X.K true) := by
  intro pins s σ H x y v u Q I rx ry h
  obtain ⟨p, xs, rfl, hq, fx, fs, q⟩ := h
  cases ry
  rcases hq with hq | hq
  · obtain ⟨its, r, pl, hz⟩ := I.list hq
    refine SeqAt.notIn_listAt (eqU x) pl.isList (fun w hw => mem_eqAt rx fx r fs w (by simpa using hw)) ⟨.bl _, H, I, rfl, ?_⟩
    rw [show its.toArray.any (eqU x) = its.any (eqU x) by simp, any_eqU r fs]
    exact q
  · obtain ⟨its, r, pl, hz⟩ := I.tuple hq
    refine SeqAt.notIn_tupleAt (eqU x) pl (fun w hw => mem_eqAt rx fx r fs w (by simpa using hw)) ⟨.bl _, H, I, rfl, ?_⟩
    rw [show its.toArray.any (eqU x) = its.any (eqU x) by simp, any_eqU r fs]
    exact q
theorem call_len_seq : CallR X (.builtin "len") (fun xs H Q => ∃ p ys, xs = [.ref p] ∧ (SqL X.K H p ys ∨ SqT X.K H p ys) ∧ Q (.int ys.length) H) := by
  intro pins s σ H xs us Q I r h
  obtain ⟨p, ys, rfl, hq, q⟩ := h
  obtain ⟨u, rfl, rx⟩ := vals1 r
  cases rx
  have hn := line63
  rcases hq with hq | hq
  · obtain ⟨its, r', pl, hz⟩ := I.list hq
    have hlen := r'.length
    exact Calls.call_len_list pl.isList (by simp only [List.size_toArray] <;> omega) ⟨.int ys.length, H, I.tok _, ⟨s.toks + 1, by rw [List.size_toArray, hlen]⟩, q⟩
  · obtain ⟨its, r', pl, hz⟩ := I.tuple hq
    have hlen := r'.length
    exact len_tuple pl (by simp only [List.size_toArray] <;> omega) ⟨.int ys.length, H, I.tok _, ⟨s.toks + 1, by rw [List.size_toArray, hlen]⟩, q⟩
theorem call_list_of : CallR X (.type "list") (fun xs H Q => ∃ p ys, xs = [.ref p] ∧ (SqL X.K H p ys ∨ SqT X.K H p ys) ∧ ∀ l, H l = none → Q (.ref l) (upd H l (.lst ys))) := by
  intro pins s σ H xs us Q I r h
  obtain ⟨p, ys, rfl, hq, q⟩ := h
  obtain ⟨u, rfl, rx⟩ := vals1 r
  cases rx
  have fin : ∀ (its : List Value), Vals ys its → ys.length ≤ sizeLine → ∀ (h' : Heap) (c' : Nat), (∀ b o', s.heap.get? b = some o' → h'.get? b = some o') →
      h'.get? s.heap.objs.size = some { cls := .type "list", dict := none, data := .seq its.toArray c', slots := #[] } → EP X pins σ Q (.ref s.heap.objs.size) { s with heap := h' } := fun its r' hz h' c' kp e =>
    ⟨.ref s.heap.objs.size, _, I.laid (t' := s.toks) kp (Nat.le_refl _) (show ObjOk X.prog X.w _ h' _ (.lst ys) from ⟨hz, its, c', r', e⟩), rfl, q _ (I.hok.fresh (Nat.le_refl _))⟩
  rcases hq with hq | hq
  · obtain ⟨its, r', pl, hz⟩ := I.list hq
    have hlen := r'.length
    obtain ⟨o, ho, hc, n, hd⟩ := pl.isList
    exact call_list_seq p (.inl rfl) ho hc hd (fun h' c' kp e => fin its r' hz h' c' kp e) (by simp only [List.size_toArray] <;> omega)
  · obtain ⟨its, r', pl, hz⟩ := I.tuple hq
    have hlen := r'.length
    obtain ⟨o, ho, hc, n, hd⟩ := pl
    exact call_list_seq p (.inr rfl) ho hc hd (fun h' c' kp e => fin its r' hz h' c' kp e) (by simp only [List.size_toArray] <;> omega)
noncomputable def tyV (K : PySem.W.Frag) (T : String) (x : V) (H : Hp) : Prop := match x with
  | .str _ => T = "str"
  | .int _ => T = "int"
  | .ref p => (T = "list" ∧ ∃ xs, SqL K H p xs) ∨ (T = "tuple" ∧ ∃ o, K.lookup p = some o ∧ o.cls = .type "tuple" ∧ o.dict = none) ∨
      (T = "dict" ∧ ((∃ kvs, H p = some (.dK kvs)) ∨ ∃ kvs, H p = some (.dT kvs))) ∨ (T = "set" ∧ ∃ S n, H p = some (.set S n))
  | _ => False
theorem tyV_is {pins : List (Addr × Obj)} {σ : St} {H : Hp} {s : Shared} {T : String} {x : V} {v : Value} (I : Inv X pins σ H s) (r : RelV x v) (ty : tyV X.K T x H) :
    s.TypeIs v T ∧ ∀ a, v = .ref a → ∃ ob, s.heap.get? a = some ob ∧ ob.dict = none := by
  cases x with
  | str z =>
    obtain ⟨t, rfl⟩ := r
    cases (show T = "str" from ty)
    exact ⟨typeIs_str s z t, fun _ e => nomatch e⟩
  | int i =>
    obtain ⟨t, rfl⟩ := r
    cases (show T = "int" from ty)
    exact ⟨typeIs_int s i t, fun _ e => nomatch e⟩
  | ref p =>
    cases r
    rcases ty with ⟨rfl, xs, hq⟩ | ⟨rfl, o, hk, hc, hd⟩ | ⟨rfl, hk⟩ | ⟨rfl, S, n, hk⟩
    · obtain ⟨its, _, pl, _⟩ := I.list hq
      refine ⟨pl.isList.typeIs, fun a e => ?_⟩
      cases e
      obtain ⟨o, n, e, c, hd, _⟩ := pl
      exact ⟨o, e, hd⟩
    · refine ⟨⟨o, I.kIn p o hk, hc⟩, fun a e => ?_⟩
      cases e
      exact ⟨o, I.kIn _ o hk, hd⟩
    · have z : ∃ o, s.heap.get? p = some o ∧ o.ExactDict := by
        rcases hk with ⟨kvs, hk⟩ | ⟨kvs, hk⟩
        · obtain ⟨_, _, _, _, o, _, _, e, ex, _⟩ := I.hok p _ hk
          exact ⟨o, e, ex⟩
        · obtain ⟨_, _, _, _, o, _, _, e, ex, _⟩ := I.hok p _ hk
          exact ⟨o, e, ex⟩
      obtain ⟨o, e, ex⟩ := z
      refine ⟨⟨o, e, ex.1⟩, fun a e2 => ?_⟩
      cases e2
      exact ⟨o, e, ex.2.1⟩
    · obtain ⟨o, _, _, _, e, ex, _⟩ := I.hok p _ hk
      refine ⟨⟨o, e, ex.1⟩, fun a e2 => ?_⟩
      cases e2
      exact ⟨o, e, ex.2.1⟩
  | _ => exact False.elim ty
noncomputable def tBM (K : PySem.W.Frag) (T : String) (r : V → List V → Hp → VK → Prop) (to : TE) (t : TA) : TE := fun σ H Q => to σ H fun x H1 => tyV K T x H1 ∧ t σ H1 fun xs H2 => r x xs H2 Q
variable {o e : Expr} {es : List Expr} {to : TE} {t : TA} {name : Str} {apos cpos : Pos} {T id : String} {r : V → List V → Hp → VK → Prop}
theorem pe_bm (pa : PlainAttrs T) (slot : Slot T name id) (hty : typeOf (.builtin id) = pure (.type "method_descriptor")) (hm : MtR X id r) (ho : PE X o to) (ha : PA X (e :: es) t)
    (hbase : attributeBase o name X.env (eval o X.env) = eval o X.env := by rfl)
    (hfew : ((backTo cpos (starEach (e :: es) X.env)).all (fun x => !x.1) && (backToKw cpos (keywordEach [] X.env)).all (fun x => x.1.isSome)
      && decide ((e :: es).length + ([] : List Keyword).length + (if ([] : List Keyword).isEmpty then 0 else 1) < 30)) = true := by rfl)
    (hline : (apos.endLine == cpos.line) = true := by rfl) (hs : starEach (e :: es) X.env = (false, eval e X.env) :: starEach es X.env := by rfl) (hplain : (backTo cpos (starEach es X.env)).any (·.1) = false := by rfl) :
    PE X (.Call (.Attribute o name apos) (e :: es) [] cpos) (tBM X.K T r to t) := by
  intro pins s σ H Q I h
  refine wpAny_Call_method_late hbase hfew hline rfl (thn (ho pins s σ H _ I h) fun v s1 zz => ?_)
  obtain ⟨x, H1, I1, r1, ty, q1⟩ := zz
  obtain ⟨h1, h2⟩ := tyV_is I1 r1 ty
  refine ⟨T, id, pa, slot, hty, h1, h2, ?_⟩
  have hA := ha cpos pins s1 σ H1 _ I1 q1
  rw [hs] at hA ⊢
  refine Calls.callWith_builtin (by show (false || (backTo cpos (starEach es X.env)).any (·.1)) = false; rw [hplain] <;> rfl) (Calls.evalArgs_plain ?_)
  refine thn hA fun us s2 zz1 => ?_
  obtain ⟨vs, H2, I2, r2, q2⟩ := zz1
  exact hm pins s2 σ H2 x vs v us Q I2 r1 r2 q2
end
end L2

namespace L2
open PySem PySem.Spec PyProof.Rows

noncomputable def MtM (X : Cx) (id : String) (r : V → List V → Hp → VK → Prop) : Prop :=
  ∀ (pins : List (Addr × Obj)) (s : Shared) (σ : St) (H : Hp) (x : V) (xs : List V) (v : Value) (us : List Value) (Q : VK), Inv X pins σ H s → RelV x v → Vals xs us → r x xs H Q →
    wpAny (model X.prog X.w) X.A (call (.builtin id) (v :: us)) (EP X pins σ Q) X.xe s

theorem Vals.one : ∀ {x : V} {us : List Value}, Vals [x] us → ∃ u, us = [u] ∧ RelV x u := by
  intro x us r
  cases r with
  | cons r t => cases t; exact ⟨_, rfl, r⟩
theorem Vals.eraseIdx : ∀ {xs : List V} {us : List Value} (i : Nat), Vals xs us → Vals (xs.eraseIdx i) (us.eraseIdx i)
  | _, _, _, .nil => .nil
  | _, _, 0, .cons _ t => t
  | _, _, i + 1, .cons r t => .cons r (Vals.eraseIdx i t)
theorem len_erase {α : Type} : ∀ (l : List α) (i : Nat), (l.eraseIdx i).length ≤ l.length
  | [], _ => Nat.le_refl _
  | _ :: _, 0 => Nat.le_succ _
  | _ :: r, i + 1 => Nat.succ_le_succ (len_erase r i)
section
variable {X : Cx} {pins : List (Addr × Obj)} {σ : St} {H : Hp} {s : Shared} {l b : Addr} {xs ys zs : List V}

theorem Inv.lset {its its' : List Value} {n : Nat} {f : Array Value → Array Value} {t' : Nat} (I : Inv X pins σ H s) (hH : H l = some (.lst xs))
    (e : s.heap.get? l = some { cls := .type "list", data := .seq its.toArray n }) (hf : f its.toArray = its'.toArray) (hv : Vals ys its') (hz : ys.length ≤ sizeLine) :
    Inv X pins σ (upd H l (.lst ys)) { s with heap := s.heap.update l (Obj.mapSeq f), toks := t' } := by
  have q := PySem.IsL.update e f
  rw [hf] at q
  refine I.write (x := l) (e := l) (by rw [hH]; exact trivial) (.inl rfl) (fun b' u hb hu => (Heap.get?_update_other s.heap (Obj.mapSeq f) (Ne.symm hb)).trans hu) ⟨_, q⟩ ?_
  exact ⟨hz, its', _, hv, q⟩
theorem Inv.lnew {its : List Value} {t' : Nat} (I : Inv X pins σ H s) (hv : Vals ys its) (hz : ys.length ≤ sizeLine) :
    Inv X pins σ (upd H s.heap.objs.size (.lst ys)) { s with heap := s.heap.push { cls := .type "list", data := .seq its.toArray }, toks := t' } :=
  I.laid (fun _ _ q => Heap.get?_push_of_some _ q) (Nat.le_refl _) ⟨hz, its, 0, hv, Heap.get?_push_size _ rfl⟩
theorem Inv.fresh (I : Inv X pins σ H s) : H s.heap.objs.size = none := I.hok.fresh (Nat.le_refl _)
theorem Inv.lstM (I : Inv X pins σ H s) (hH : H l = some (.lst xs)) : xs.length ≤ sizeLine ∧ ∃ (its : List Value) (n : Nat), Vals xs its ∧ xs.length = its.length ∧ s.heap.get? l = some { cls := .type "list", data := .seq its.toArray n } := by
  obtain ⟨z, its, n, r, e⟩ := I.hok l _ hH
  exact ⟨z, its, n, r, r.length, e⟩

end

section
variable {X : Cx}

noncomputable def rAppend : V → List V → Hp → VK → Prop := fun x vs H Q => ∃ l xs y, x = .ref l ∧ vs = [y] ∧ H l = some (.lst xs) ∧ xs.length < sizeLine ∧ Q .non (upd H l (.lst (xs ++ [y])))
theorem mt_append : MtM X "list.append" rAppend := by
  intro pins s σ H x vs v us Q I rx rv h
  obtain ⟨l, xs, y, rfl, rfl, hH, hz, q⟩ := h
  cases rx
  obtain ⟨u, rfl, ru⟩ := rv.one
  obtain ⟨z, its, n, r, hl, e⟩ := I.lstM hH
  refine call_meets F.slot_list_append ⟨_, e, rfl⟩ F.entry_list_append (F.args_list_append_2 _ _) (PySem.list_append l its.toArray n u (by rw [List.size_toArray]; omega)) ⟨e, ?_⟩
  refine ⟨.non, _, I.lset (its' := its ++ [u]) hH e (by simp) (r.append (.cons ru .nil)) ?_, rfl, q⟩
  rw [List.length_append, List.length_singleton]
  (clear z hl; omega)

noncomputable def rPopAt : V → List V → Hp → VK → Prop := fun x vs H Q => ∃ l xs i k y, x = .ref l ∧ vs = [.int i] ∧ H l = some (.lst xs) ∧ -(2 ^ 63) ≤ i ∧ i < 2 ^ 63 ∧ seqIndex? i xs.length = some k ∧ xs[k]? = some y ∧ Q y (upd H l (.lst (xs.eraseIdx k)))
theorem mt_popAt : MtM X "list.pop" rPopAt := by
  intro pins s σ H x vs v us Q I rx rv h
  obtain ⟨l, xs, i, k, y, rfl, rfl, hH, h1, h2, hk, hy, q⟩ := h
  cases rx
  obtain ⟨u, rfl, ru⟩ := rv.one
  obtain ⟨t, rfl⟩ := ru
  obtain ⟨z, its, n, r, hl, e⟩ := I.lstM hH
  obtain ⟨w, hw, rw'⟩ := r.get hy
  refine call_meets F.slot_list_pop ⟨_, e, rfl⟩ F.entry_list_pop (F.args_list_pop_2 _ _)
    (MeetsSeq.list_pop_at l its.toArray n i t k w (fitsIndex_both h1 h2) (by rw [List.size_toArray, ← hl]; exact hk) (by rw [← Array.getElem?_toList]; exact hw) (by rw [List.size_toArray]; (clear h1 h2; omega))) ⟨e, ?_⟩
  refine ⟨y, _, I.lset (its' := its.eraseIdx k) hH e ?_ (r.eraseIdx k) ?_, rw', q⟩
  · show its.toArray.eraseIdxIfInBounds k = (its.eraseIdx k).toArray
    rw [List.eraseIdxIfInBounds_toArray]
  · have := len_erase xs k
    (clear h1 h2 hl; omega)

noncomputable def rCat : R2 := fun x y H Q => ∃ l b xs zs, x = .ref l ∧ y = .ref b ∧ H l = some (.lst xs) ∧ H b = some (.lst zs) ∧ xs.length + zs.length ≤ sizeLine ∧ ∀ p, H p = none → Q (.ref p) (upd H p (.lst (xs ++ zs)))
theorem op_cat : OpR X (binaryOp .Add) rCat := by
  intro pins s σ H x y v u Q I rx ry h
  obtain ⟨l, b, xs, zs, rfl, rfl, hH, hB, hz, q⟩ := h
  cases rx
  cases ry
  obtain ⟨z, its, n, r, hl, e⟩ := I.lstM hH
  obtain ⟨z2, its2, n2, r2, hl2, e2⟩ := I.lstM hB
  refine PySem.P.add_list e e2 ?_ (by rw [List.size_toArray, List.size_toArray]; omega)
  have ea : its.toArray ++ its2.toArray = (its ++ its2).toArray := by simp
  rw [ea]
  exact ⟨.ref _, _, I.lnew (t' := s.toks) (r.append r2) (by rw [List.length_append]; (clear z z2 hl hl2; omega)), rfl, q _ I.fresh⟩
end

section
variable {prog : Program} {w : World} {A : Around} {E : Value → Shared → Prop} {s : Shared}
end

section
variable {X : Cx}
end
end L2

namespace L2
open PySem PySem.Spec PyProof.Rows

section
variable {κ : Type} [DecidableEq κ]
noncomputable def valV (kvs : List (κ × V)) (k : κ) : Option V := (kvs.find? fun kv => decide (kv.1 = k)).map (·.2)
noncomputable def putK (kvs : List (κ × V)) (k : κ) (v : V) : List (κ × V) :=
  if (kvs.any fun kv => decide (kv.1 = k)) = true then kvs.map (fun kv => if kv.1 = k then (kv.1, v) else kv) else kvs ++ [(k, v)]
noncomputable def dropK (kvs : List (κ × V)) (k : κ) : List (κ × V) := kvs.filter fun kv => decide (kv.1 ≠ k)

theorem valV_pos {p : κ × V} {r : List (κ × V)} {k : κ} (e : p.1 = k) : valV (p :: r) k = some p.2 := by simp [valV, List.find?_cons, e]
theorem valV_neg {p : κ × V} {r : List (κ × V)} {k : κ} (e : ¬ p.1 = k) : valV (p :: r) k = valV r k := by simp [valV, List.find?_cons, e]
theorem valV_any (k : κ) : ∀ kvs : List (κ × V), (kvs.any fun kv => decide (kv.1 = k)) = (valV kvs k).isSome
  | [] => rfl
  | p :: r => by
    rw [List.any_cons]
    by_cases e : p.1 = k
    · simp only [valV_pos e, decide_eq_true e, Bool.true_or, Option.isSome_some]
    · rw [valV_neg e, decide_eq_false e, Bool.false_or]; exact valV_any k r
theorem length_putK (kvs : List (κ × V)) (k : κ) (v : V) : (putK kvs k v).length ≤ kvs.length + 1 := by
  unfold putK
  split
  · rw [List.length_map]; omega
  · rw [List.length_append, List.length_cons, List.length_nil]; omega
theorem putK_new {kvs : List (κ × V)} {k : κ} (v : V) (h : valV kvs k = none) : putK kvs k v = kvs ++ [(k, v)] := by
  unfold putK
  rw [valV_any, h]
  exact if_neg (by decide)

theorem RelO.isSome_eq {o : Option V} {u : Option Value} (r : RelO o u) : o.isSome = u.isSome := by
  cases o with
  | none => cases u with
    | none => rfl
    | some _ => exact (show False from r).elim
  | some _ => cases u with
    | none => exact (show False from r).elim
    | some _ => rfl
theorem KV.val {kvs : List (κ × V)} {vs : List (κ × Value)} (r : KV kvs vs) (k : κ) : RelO (valV kvs k) (valueAt vs k) := by
  unfold KV at r
  induction r with
  | nil => exact True.intro
  | @cons p q ps qs h t ih =>
    obtain ⟨h1, h2⟩ := h
    by_cases e : p.1 = k
    · have e' : q.1 = k := h1.symm.trans e
      have b : valueAt (q :: qs) k = some q.2 := by simp [valueAt, List.find?_cons, e']
      rw [valV_pos e, b]; exact h2
    · have e' : ¬ q.1 = k := fun z => e (h1.trans z)
      have b : valueAt (q :: qs) k = valueAt qs k := by simp [valueAt, List.find?_cons, e']
      rw [valV_neg e, b]; exact ih
theorem KV.any {kvs : List (κ × V)} {vs : List (κ × Value)} (r : KV kvs vs) (k : κ) : (kvs.any fun kv => decide (kv.1 = k)) = vs.any fun kv => decide (kv.1 = k) := by
  unfold KV at r
  induction r with
  | nil => rfl
  | cons h t ih => rw [List.any_cons, List.any_cons, ih, h.1]
theorem KV.repl {kvs : List (κ × V)} {vs : List (κ × Value)} (r : KV kvs vs) (k : κ) {y : V} {u : Value} (ry : RelV y u) :
    KV (kvs.map fun kv => if kv.1 = k then (kv.1, y) else kv) (vs.map fun kv => if kv.1 = k then (kv.1, u) else kv) := by
  unfold KV at r ⊢
  induction r with
  | nil => exact .nil
  | @cons p q ps qs h t ih =>
    rw [List.map_cons, List.map_cons]
    refine .cons ?_ ih
    obtain ⟨h1, h2⟩ := h
    by_cases e : p.1 = k
    · rw [if_pos e, if_pos (h1.symm.trans e)]; exact ⟨h1, ry⟩
    · rw [if_neg e, if_neg (fun z => e (h1.trans z))]; exact ⟨h1, h2⟩
theorem KV.put {kvs : List (κ × V)} {vs : List (κ × Value)} (r : KV kvs vs) (k : κ) {y : V} {u : Value} (ry : RelV y u) : KV (putK kvs k y) (stored vs k u) := by
  unfold putK stored
  rw [r.any k]
  by_cases e : (vs.any fun kv => decide (kv.1 = k)) = true
  · rw [if_pos e, if_pos e]; exact r.repl k ry
  · rw [if_neg e, if_neg e]; exact Paired.snoc r ⟨rfl, ry⟩
theorem KV.drop {kvs : List (κ × V)} {vs : List (κ × Value)} (r : KV kvs vs) (k : κ) : KV (dropK kvs k) (without vs k) := by
  unfold KV at r ⊢
  unfold dropK without
  induction r with
  | nil => exact .nil
  | @cons p q ps qs h t ih =>
    obtain ⟨h1, h2⟩ := h
    rw [List.filter_cons, List.filter_cons]
    by_cases e : p.1 = k
    · have a : ¬ decide (p.1 ≠ k) = true := by simp [e]
      have b : ¬ decide (q.1 ≠ k) = true := by simp [h1.symm.trans e]
      rw [if_neg a, if_neg b]; exact ih
    · have e' : ¬ q.1 = k := fun z => e (h1.trans z)
      have a : decide (p.1 ≠ k) = true := by simp [e]
      have b : decide (q.1 ≠ k) = true := by simp [e']
      rw [if_pos a, if_pos b]; exact .cons ⟨h1, h2⟩ ih
theorem KV.length {kvs : List (κ × V)} {vs : List (κ × Value)} (r : KV kvs vs) : kvs.length = vs.length := Paired.length r
theorem dropK_le (kvs : List (κ × V)) (k : κ) : (dropK kvs k).length ≤ kvs.length := List.length_filter_le _ _
end


theorem kV_is {P : Program} {w : World} {k : Key} {u : Value} (r : RelV (kV k) u) : (mixKind P w).is k u = true := by
  cases k with
  | inl i => obtain ⟨t, e⟩ := (show ∃ t, u = Value.int i t from r); subst e; exact mixKind_int P w i t
  | inr x => obtain ⟨t, e⟩ := (show ∃ t, u = Value.str x t from r); subst e; exact mixKind_str P w x t
theorem items_are {P : Program} {w : World} : ∀ {ks : List Key} {us : List Value}, Vals (ks.map kV) us → ItemsAre (mixKind P w) ks us
  | [], _, r => by rw [List.map_nil] at r; cases r; exact .nil
  | k :: ks, _, r => by
    rw [List.map_cons] at r
    cases r with
    | cons h t => exact .cons (kV_is h) (items_are t)

noncomputable abbrev KT (H : Hp) : List (List Key × V) → List (List Key × Addr × Value) → Prop := Paired fun p q => p.1 = q.1 ∧ H q.2.1 = some (.tup (p.1.map kV)) ∧ RelV p.2 q.2.2
theorem KT.val {H : Hp} {kvs : List (List Key × V)} {xs : List (List Key × Addr × Value)} (r : KT H kvs xs) (k : List Key) : RelO (valV kvs k) ((atKey xs k).map (·.2)) := by
  induction r with
  | nil => exact True.intro
  | @cons p q ps qs h t ih =>
    obtain ⟨h1, _, h2⟩ := h
    by_cases e : p.1 = k
    · have e' : q.1 = k := h1.symm.trans e
      have b : atKey (q :: qs) k = some q.2 := by simp [atKey, List.find?_cons, e']
      rw [valV_pos e, b]; exact h2
    · have e' : ¬ q.1 = k := fun z => e (h1.trans z)
      have b : atKey (q :: qs) k = atKey qs k := by simp [atKey, List.find?_cons, e']
      rw [valV_neg e, b]; exact ih
theorem KT.repl {H : Hp} {kvs : List (List Key × V)} {xs : List (List Key × Addr × Value)} (r : KT H kvs xs) (k : List Key) {y : V} {u : Value} (ry : RelV y u) :
    KT H (kvs.map fun kv => if kv.1 = k then (kv.1, y) else kv) (xs.map (putAt k u)) := by
  induction r with
  | nil => exact .nil
  | @cons p q ps qs h t ih =>
    rw [List.map_cons, List.map_cons]
    refine .cons ?_ ih
    obtain ⟨h1, h2, h3⟩ := h
    unfold putAt
    by_cases e : p.1 = k
    · rw [if_pos e, if_pos (h1.symm.trans e)]; exact ⟨h1, h2, ry⟩
    · rw [if_neg e, if_neg (fun z => e (h1.trans z))]; exact ⟨h1, h2, h3⟩
theorem KT.put {H : Hp} {kvs : List (List Key × V)} {xs : List (List Key × Addr × Value)} (r : KT H kvs xs) (k : List Key) {b : Addr} {y : V} {u : Value} (hb : H b = some (.tup (k.map kV))) (ry : RelV y u) :
    KT H (putK kvs k y) (storedH xs k b u) := by
  have e : (kvs.any fun kv => decide (kv.1 = k)) = (atKey xs k).isSome := by
    rw [valV_any, (r.val k).isSome_eq, Option.isSome_map]
  unfold putK storedH
  rw [e]
  by_cases q : (atKey xs k).isSome = true
  · rw [if_pos q, if_pos q]; exact r.repl k ry
  · rw [if_neg q, if_neg q]; exact Paired.snoc r ⟨rfl, hb, ry⟩
theorem KT.keeps {H H' : Hp} {kvs : List (List Key × V)} {xs : List (List Key × Addr × Value)} (r : KT H kvs xs) (ht : ∀ b ys, H b = some (.tup ys) → H' b = some (.tup ys)) : KT H' kvs xs :=
  Paired.mapP r fun _ _ z => ⟨z.1, ht _ _ z.2.1, z.2.2⟩

section
variable {P : Program} {w : World} {H : Hp} {h : Heap} {a : Addr}
theorem rd_of {u : HO} (ok : HOk P w H h) (e : Rd H a u) : ObjOk P w H h a u := e.ok ok
theorem dk_rd {kvs : List (Key × V)} (ok : HOk P w H h) (e : Rd H a (.dK kvs)) : kvs.length ≤ sizeLine ∧ (a == sysModules) = false ∧ ∃ vs, KV kvs vs ∧ h.DictOf (mixKind P w) a vs :=
  show ObjOk P w H h a (.dK kvs) from rd_of ok e
theorem dk_of {kvs : List (Key × V)} (ok : HOk P w H h) (e : H a = some (.dK kvs)) : kvs.length ≤ sizeLine ∧ (a == sysModules) = false ∧ ∃ vs, KV kvs vs ∧ h.DictOf (mixKind P w) a vs := dk_rd ok (.inl e)
theorem key_of {ks : List Key} (ok : HOk P w H h) (e : H a = some (.tup (ks.map kV))) : (tupleKind (mixKind P w)).is h ks a := by
  obtain ⟨_, its, r, o, h1, h2, n, h3⟩ := (show ObjOk P w H h a (.tup (ks.map kV)) from ok a _ e)
  exact ⟨o, its.toArray, n, h1, h2, h3, by simpa using items_are r⟩
theorem dt_rd {kvs : List (List Key × V)} (ok : HOk P w H h) (e : Rd H a (.dT kvs)) : kvs.length ≤ sizeLine ∧ (a == sysModules) = false ∧
    ∃ xs, KT H kvs xs ∧ h.DictOfH (tupleKind (mixKind P w)) a xs := by
  obtain ⟨z, y, xs, r, o, es, ep, h1, h2, h3, h4, h5⟩ := (show ObjOk P w H h a (.dT kvs) from rd_of ok e)
  refine ⟨z, y, xs, r, o, es, ep, h1, h2, h3, h4, fun x hx => ?_, h5⟩
  have all : ∀ {l : List (List Key × V)} {m : List (List Key × Addr × Value)}, KT H l m → ∀ x ∈ m, (tupleKind (mixKind P w)).is h x.1 x.2.1 := by
    intro l m q
    induction q with
    | nil => intro x hx; exact nomatch hx
    | @cons p q ps qs hq t ih =>
      intro x hx
      rcases List.mem_cons.mp hx with e | hx
      · subst e
        exact key_of ok (by rw [← hq.1]; exact hq.2.1)
      · exact ih x hx
  exact all r x hx
theorem dt_of {kvs : List (List Key × V)} (ok : HOk P w H h) (e : H a = some (.dT kvs)) : kvs.length ≤ sizeLine ∧ (a == sysModules) = false ∧
    ∃ xs, KT H kvs xs ∧ h.DictOfH (tupleKind (mixKind P w)) a xs := dt_rd ok (.inl e)
end

noncomputable def DGet (H : Hp) (a : Addr) (y : V) (r : Option V) : Prop :=
  (∃ kvs k, Rd H a (.dK kvs) ∧ y = kV k ∧ r = valV kvs k) ∨ ∃ kvs k b, Rd H a (.dT kvs) ∧ y = .ref b ∧ H b = some (.tup (k.map kV)) ∧ r = valV kvs k
noncomputable def DPut (H : Hp) (a : Addr) (y v : V) (H' : Hp) : Prop :=
  (∃ kvs k, H a = some (.dK kvs) ∧ y = kV k ∧ kvs.length < sizeLine ∧ H' = upd H a (.dK (putK kvs k v))) ∨
  ∃ kvs k b, H a = some (.dT kvs) ∧ y = .ref b ∧ H b = some (.tup (k.map kV)) ∧ kvs.length < sizeLine ∧ H' = upd H a (.dT (putK kvs k v))
theorem DGet.k {H : Hp} {a : Addr} {kvs : List (Key × V)} {k : Key} (e : H a = some (.dK kvs)) : DGet H a (kV k) (valV kvs k) := .inl ⟨kvs, k, .inl e, rfl, rfl⟩
theorem DPut.k {H : Hp} {a : Addr} {kvs : List (Key × V)} {k : Key} {v : V} (e : H a = some (.dK kvs)) (hl : kvs.length < sizeLine) : DPut H a (kV k) v (upd H a (.dK (putK kvs k v))) := .inl ⟨kvs, k, e, rfl, hl, rfl⟩
section
variable {X : Cx} {pins : List (Addr × Obj)} {σ : St} {H : Hp} {s : Shared} {a : Addr} {y v : V} {u r : Value} {o : Option V} {A : Around} {E : Value → Shared → Prop}

theorem Inv.big (I : Inv X pins σ H s) : sysModules < s.heap.objs.size := by
  have h : mainGlobals < s.heap.objs.size := (I.mod.glob.keeps I.bk).lt
  exact Nat.lt_trans (by decide) h

theorem d_getItem {Q : Value → Shared → Prop} (hu : A.units + 1 < cLine) (I : Inv X pins σ H s) (g : DGet H a y (some v)) (ry : RelV y u) (h : ∀ w' s', Inv X pins σ H s' → RelV v w' → Q w' s') :
    wpAny (model X.prog X.w) A (getItem (.ref a) u) Q E s := by
  rcases g with ⟨kvs, k, e, ey, l⟩ | ⟨kvs, k, b, e, ey, eb, l⟩
  · subst ey
    obtain ⟨z, hd, vs, rel, dd⟩ := dk_rd I.hok e
    obtain ⟨w', hw, rw'⟩ := RelO.some_of (v := v) (o := valueAt vs k) (by rw [l]; exact rel.val k)
    exact wpAny_getItem_of (kV_is ry) dd.mapOf hw (h w' _ (I.tok _) rw')
  · subst ey
    cases (show u = Value.ref b from ry)
    obtain ⟨z, hd, xs, rel, dd⟩ := dt_rd I.hok e
    obtain ⟨w', hw, rw'⟩ := RelO.some_of (v := v) (o := (atKey xs k).map (·.2)) (by rw [l]; exact rel.val k)
    obtain ⟨p, hp, hp2⟩ := Option.map_eq_some_iff.mp hw
    refine wpAny_getItem_heap (tupleKind_room_in1 hu) (key_of I.hok eb) dd hp ?_
    rw [hp2]
    exact h w' _ (I.tok _) rw'
theorem d_in {Q : Value → Shared → Prop} (hu : A.units + 1 < cLine) (I : Inv X pins σ H s) (g : DGet H a y o) (ry : RelV y u) (h : ∀ s', Inv X pins σ H s' → Q (.bool o.isSome) s') :
    wpAny (model X.prog X.w) A (compareOp .In u (.ref a)) Q E s := by
  rcases g with ⟨kvs, k, e, ey, l⟩ | ⟨kvs, k, b, e, ey, eb, l⟩
  · subst ey
    obtain ⟨z, hd, vs, rel, dd⟩ := dk_rd I.hok e
    refine wpAny_in_of (kV_is ry) hd dd.mapOf ?_
    rw [← (rel.val k).isSome_eq, ← l]
    exact h _ (I.tok _)
  · subst ey
    cases (show u = Value.ref b from ry)
    obtain ⟨z, hd, xs, rel, dd⟩ := dt_rd I.hok e
    refine wpAny_in_heap (tupleKind_room_in1 hu) (key_of I.hok eb) hd dd ?_
    have q := (rel.val k).isSome_eq
    rw [Option.isSome_map] at q
    rw [← q, ← l]
    exact h _ (I.tok _)
theorem d_notIn {Q : Value → Shared → Prop} (hu : A.units + 1 < cLine) (I : Inv X pins σ H s) (g : DGet H a y o) (ry : RelV y u) (h : ∀ s', Inv X pins σ H s' → Q (.bool (!o.isSome)) s') :
    wpAny (model X.prog X.w) A (compareOp .NotIn u (.ref a)) Q E s := by
  rcases g with ⟨kvs, k, e, ey, l⟩ | ⟨kvs, k, b, e, ey, eb, l⟩
  · subst ey
    obtain ⟨z, hd, vs, rel, dd⟩ := dk_rd I.hok e
    refine wpAny_notIn_of (kV_is ry) hd dd.mapOf ?_
    rw [← (rel.val k).isSome_eq, ← l]
    exact h _ (I.tok _)
  · subst ey
    cases (show u = Value.ref b from ry)
    obtain ⟨z, hd, xs, rel, dd⟩ := dt_rd I.hok e
    refine wpAny_notIn_heap (tupleKind_room_in1 hu) (key_of I.hok eb) hd dd ?_
    have q := (rel.val k).isSome_eq
    rw [Option.isSome_map] at q
    rw [← q, ← l]
    exact h _ (I.tok _)
theorem d_write {h' : Heap} {t' : Nat} {ob : HO} (I : Inv X pins σ H s) (mu : Mut (H a)) (hs : Heap.SameBut a s.heap h') (he : ∃ q, h'.get? a = some q) (new : ObjOk X.prog X.w (upd H a ob) h' a ob) :
    Inv X pins σ (upd H a ob) { s with heap := h', toks := t' } :=
  I.write (x := a) (e := a) mu (.inl rfl) (fun b q hb z => (hs.2 b hb).trans z) he new
theorem dk_new {P : Program} {w : World} {H' : Hp} {h' : Heap} {kvs : List (Key × V)} {vs : List (Key × Value)} (z : kvs.length ≤ sizeLine) (hd : (a == sysModules) = false) (rel : KV kvs vs) (dd : h'.DictOf (mixKind P w) a vs) :
    ObjOk P w H' h' a (.dK kvs) := ⟨z, hd, vs, rel, dd⟩
theorem d_setItem {H' : Hp} {Q : Unit → Shared → Prop} (hu : A.units + 1 < cLine) (I : Inv X pins σ H s) (g : DPut H a y v H') (ry : RelV y u) (rv : RelV v r) (h : ∀ s', Inv X pins σ H' s' → Q () s') :
    wpAny (model X.prog X.w) A (setItem (.ref a) u r) Q E s := by
  rcases g with ⟨kvs, k, e, ey, l, eH⟩ | ⟨kvs, k, b, e, ey, eb, l, eH⟩
  · subst ey eH
    obtain ⟨z, hd, vs, rel, dd⟩ := dk_of I.hok e
    have hz : vs.length ≤ sizeLine := by rw [← rel.length]; exact z
    have hl : (putK kvs k v).length ≤ sizeLine := by have := length_putK kvs k v; (clear hu z hd hz; omega)
    refine wpAny_setItem_pairs (hsz := hz) (kV_is ry) dd fun h' dd' hs => h _ ?_
    have he : ∃ q, h'.get? a = some q := by
      obtain ⟨q, _, _, hq, _⟩ := dd'
      exact ⟨q, hq⟩
    exact d_write I (by rw [e]; exact True.intro) hs he (dk_new hl hd (rel.put k rv) dd')
  · subst ey eH
    cases (show u = Value.ref b from ry)
    obtain ⟨z, hd, xs, rel, dd⟩ := dt_of I.hok e
    have hz : xs.length ≤ sizeLine := by rw [← Paired.length rel]; exact z
    have hl : (putK kvs k v).length ≤ sizeLine := by have := length_putK kvs k v; (clear hu z hd hz; omega)
    refine wpAny_setItem_heap (hsz := hz) (tupleKind_room_in1 hu) (key_of I.hok eb) dd fun h' dd' hs => h _ ?_
    obtain ⟨q, es, ep, hq, h2, h3, h4, _, h5⟩ := dd'
    refine d_write I (by rw [e]; exact True.intro) hs ⟨q, hq⟩ ⟨hl, hd, _, (rel.put k eb rv).keeps fun c ys ec => ?_, q, es, ep, hq, h2, h3, h4, h5⟩
    rw [upd_ne (ne_of ec e (fun z => nomatch z))]
    exact ec
end

section
variable {X : Cx} {pins : List (Addr × Obj)} {σ : St} {H : Hp} {s : Shared} {a : Addr} {kvs : List (Key × V)} {k : Key} {u : Value} {A : Around} {E : Value → Shared → Prop}
theorem d_pop {v : V} {more : List Value} {Q : Value → Shared → Prop} (I : Inv X pins σ H s) (e : H a = some (.dK kvs)) (ry : RelV (kV k) u) (l : valV kvs k = some v) (hm : more = [] ∨ ∃ x, more = [x])
    (h : ∀ w' s', Inv X pins σ (upd H a (.dK (dropK kvs k))) s' → RelV v w' → Q w' s') : wpAny (model X.prog X.w) A (call (.builtin "dict.pop") (.ref a :: u :: more)) Q E s := by
  obtain ⟨z, hd, vs, rel, dd⟩ := dk_of I.hok e
  obtain ⟨w', hw, rw'⟩ := RelO.some_of (v := v) (o := valueAt vs k) (by rw [← l]; exact rel.val k)
  have hp : (keyPart u).isSome = true := by
    cases k with
    | inl i => obtain ⟨t, q⟩ := (show ∃ t, u = Value.int i t from ry); subst q; rfl
    | inr x => obtain ⟨t, q⟩ := (show ∃ t, u = Value.str x t from ry); subst q; rfl
  have ha : argsOk "dict.pop" ⟨.ref a :: u :: more, []⟩ := by
    rcases hm with q | ⟨x, q⟩
    · subst q; exact PySem.F.args_dict_pop_2 _ _
    · subst q; exact PySem.F.args_dict_pop_3 _ _ _
  refine call_meetsIn PySem.F.slot_dict_pop dd.typeIs PySem.F.entry_dict_pop ha (meets_dict_pop_there (mixKind X.prog X.w) a (kV_is ry) more hm hp)
    ⟨vs, w', dd, by rw [← rel.length]; exact z, hw, fun h' dd' hs => h w' _ ?_ rw'⟩
  have he : ∃ q, h'.get? a = some q := by
    obtain ⟨q, _, _, hq, _⟩ := dd'
    exact ⟨q, hq⟩
  exact d_write I (by rw [e]; exact True.intro) hs he (dk_new (Nat.le_trans (dropK_le kvs k) z) hd (rel.drop k) dd')
theorem d_len {Q : Value → Shared → Prop} (I : Inv X pins σ H s) (e : Rd H a (.dK kvs)) (h : ∀ t s', Inv X pins σ H s' → Q (.int kvs.length t) s') : wpAny (model X.prog X.w) A (call (.builtin "len") [.ref a]) Q E s := by
  obtain ⟨z, hd, vs, rel, dd⟩ := dk_rd I.hok e
  refine call_len_dict hd dd (by rw [← rel.length]; rw [sizeLine_eq] at z; omega) ?_
  rw [← rel.length]
  exact h _ _ (I.tok _)
end


noncomputable def NoSl (i : Expr) : Prop := ∀ ov iv, subscripted i false ov iv = operate [ov, iv] (getItem ov iv)
theorem subD_of {prog : Program} {w : World} {A : Around} {E : Value → Shared → Prop} {s : Shared} {env : Env} {value slice : Expr} {pos : Pos} {T id : String} {Q : Value → Shared → Prop}
    (hl : typeLookup (.type T) "__getitem__" = pure (some (.builtin id))) (hs : NoSl slice)
    (h : wpAny (model prog w) A (eval value env) (fun o s₁ => wpAny (model prog w) A (eval slice env) (fun i s₂ => s₂.TypeIs o T ∧ wpAny (model prog w) A (getItem o i) Q E s₂) E s₁) E s) :
    wpAny (model prog w) A (eval (.Subscript value slice pos) env) Q E s := by
  refine Subscript_ (wpAny_mono h (fun o s₁ h₁ => wpAny_mono h₁ (fun i s₂ h₂ => ?_) fun _ _ x => x) fun _ _ x => x)
  obtain ⟨hT, h₂⟩ := h₂
  unfold subscriptTail
  refine wpAny_bind ?_
  rw [getitemInPython_of_ne hT.not_modules]
  refine wpAny_bind (wpAny_specialOf hT hl ?_)
  have fin : wpAny (model prog w) A (subscripted slice false o i) (fun r s₃ => wpAny (model prog w) A (letTemporaryGo value o r >>= fun _ => pure r) Q E s₃) E s₂ := by
    rw [hs o i]
    exact wpAny_operating (wpAny_mono h₂ (fun r s₃ h₃ => wpAny_bind (wpAny_letTemporaryGo (wpAny_pure h₃))) fun _ _ x => x)
  first
    | exact wpAny_pure (wpAny_bind fin)
    | exact wpAny_bind (wpAny_pure (wpAny_bind fin))
    | exact wpAny_bind fin

theorem dict_typeIs {X : Cx} {pins : List (Addr × Obj)} {σ : St} {H : Hp} {s : Shared} {a : Addr} {y : V} {o : Option V} (I : Inv X pins σ H s) (g : DGet H a y o) : s.TypeIs (.ref a) "dict" := by
  rcases g with ⟨kvs, k, e, _, _⟩ | ⟨kvs, k, b, e, _, _, _⟩
  · obtain ⟨_, _, vs, _, dd⟩ := dk_rd I.hok e
    exact dd.typeIs
  · obtain ⟨_, _, xs, _, dd⟩ := dt_rd I.hok e
    exact dd.typeIs
noncomputable def tDGet (td ty : TE) : TE := fun σ H Q => td σ H fun x H1 => ty σ H1 fun y H2 => ∃ a v, x = .ref a ∧ DGet H2 a y (some v) ∧ Q v H2
noncomputable def tDIn (ty td : TE) : TE := fun σ H Q => ty σ H fun y H1 => td σ H1 fun x H2 => ∃ a o, x = .ref a ∧ DGet H2 a y o ∧ Q (.bl o.isSome) H2
noncomputable def tDNotIn (ty td : TE) : TE := fun σ H Q => ty σ H fun y H1 => td σ H1 fun x H2 => ∃ a o, x = .ref a ∧ DGet H2 a y o ∧ Q (.bl (!o.isSome)) H2
noncomputable def sDPut (td ty tv : TE) : TS := fun D σ H => tv σ H fun v H1 => td σ H1 fun x H2 => ty σ H2 fun y H3 => ∃ a H4, x = .ref a ∧ DPut H3 a y v H4 ∧ D.nx σ H4
section
variable {X : Cx} {o i e value : Expr} {pos pos' tpos : Pos} {td ty tv : TE}
theorem pe_dget (hu : X.A.units + 1 < cLine) (ho : PE X o td) (hi : PE X i ty) (hs : NoSl i) : PE X (.Subscript o i pos) (tDGet td ty) := by
  intro pins s σ H Q I h
  refine subD_of PySem.F.slot_dict_getitem.lookup hs (thn (ho pins s σ H _ I h) fun u s1 zz1 => ?_)
  obtain ⟨x, H1, I1, rx, q1⟩ := zz1
  refine thn (hi pins s1 σ H1 _ I1 q1) fun iv s2 zz => ?_
  obtain ⟨y, H2, I2, ry, a, v, ex, g, q2⟩ := zz
  subst ex
  obtain rfl : u = Value.ref a := rx
  exact ⟨dict_typeIs I2 g, d_getItem hu I2 g ry fun w' s3 I3 rw' => ⟨v, H2, I3, rw', q2⟩⟩
theorem pc_din (hu : X.A.units + 1 < cLine) (hi : PE X i ty) (ho : PE X o td) : PC X .In i o (tDIn ty td) := by
  intro pins s σ H Q I h
  refine thn (hi pins s σ H _ I h) fun iv s1 zz1 => ?_
  obtain ⟨y, H1, I1, ry, q1⟩ := zz1
  refine thn (ho pins s1 σ H1 _ I1 q1) fun u s2 zz => ?_
  obtain ⟨x, H2, I2, rx, a, ov, ex, g, q2⟩ := zz
  subst ex
  obtain rfl : u = Value.ref a := rx
  exact d_in hu I2 g ry fun s3 I3 => ⟨.bl ov.isSome, H2, I3, rfl, q2⟩
theorem pc_dnotin (hu : X.A.units + 1 < cLine) (hi : PE X i ty) (ho : PE X o td) : PC X .NotIn i o (tDNotIn ty td) := by
  intro pins s σ H Q I h
  refine thn (hi pins s σ H _ I h) fun iv s1 zz1 => ?_
  obtain ⟨y, H1, I1, ry, q1⟩ := zz1
  refine thn (ho pins s1 σ H1 _ I1 q1) fun u s2 zz => ?_
  obtain ⟨x, H2, I2, rx, a, ov, ex, g, q2⟩ := zz
  subst ex
  obtain rfl : u = Value.ref a := rx
  exact d_notIn hu I2 g ry fun s3 I3 => ⟨.bl (!ov.isSome), H2, I3, rfl, q2⟩
theorem ps_dput (hu : X.A.units + 1 < cLine) (ho : PE X o td) (hi : PE X i ty) (hv : PE X value tv) (hs : swapsWith value (some (.Subscript o i pos')) pos.line X.env = pure false) :
    PS X (.Assign [.Subscript o i pos'] value pos) (sDPut td ty tv) := by
  intro pins s σ H D I h
  refine wpAny_Assign_Subscript (thn (hv pins s σ H _ I h) fun r s1 zz1 => ?_) hs
  obtain ⟨v, H1, I1, rv, q1⟩ := zz1
  refine thn (ho pins s1 σ H1 _ I1 q1) fun u s2 zz2 => ?_
  obtain ⟨x, H2, I2, rx, q2⟩ := zz2
  refine thn (hi pins s2 σ H2 _ I2 q2) fun iv s3 zz => ?_
  obtain ⟨y, H3, I3, ry, a, H4, ex, g, q3⟩ := zz
  subst ex
  obtain rfl : u = Value.ref a := rx
  exact d_setItem hu I3 g ry rv fun s4 I4 => ⟨σ, H4, I4, q3⟩
end


theorem dk_empty {P : Program} {w : World} {H : Hp} (h : Heap) (hb : sysModules < h.objs.size) : ObjOk P w H (h.push { cls := .type "dict", data := .dict #[] }) h.objs.size (.dK []) :=
  ⟨Nat.zero_le _, beq_eq_false_iff_ne.mpr (Ne.symm (Nat.ne_of_lt hb)), [], .nil, Heap.DictOf.new h⟩
noncomputable def tDNewK : TE := fun _ H Q => ∀ p, H p = none → Q (.ref p) (upd H p (.dK []))
section
variable {X : Cx} {pos : Pos}
theorem pe_dnewK : PE X (.Dict [] [] pos) tDNewK := fun pins s σ H Q I h =>
  wpAny_Dict_empty ⟨.ref s.heap.objs.size, _, I.laid (a := s.heap.objs.size) (o := .dK []) (t' := s.toks) (fun _ _ q => Heap.get?_push_of_some _ q) (Nat.le_refl _) (dk_empty s.heap I.big), rfl, h _ (I.hok.fresh (Nat.le_refl _))⟩
end

noncomputable def tPairs : List (TE × TE) → St → Hp → (List (V × V) → Hp → Prop) → Prop
  | [], _, H, Q => Q [] H
  | (tk, tv) :: r, σ, H, Q => tk σ H fun x H1 => tv σ H1 fun y H2 => tPairs r σ H2 fun ps H3 => Q ((x, y) :: ps) H3
noncomputable abbrev VV : List (V × V) → List (Value × Value) → Prop := Paired fun p q => RelV p.1 q.1 ∧ RelV p.2 q.2
noncomputable def PPs (X : Cx) (pos : Pos) (keys : List (Option Expr)) (values : List Expr) (trs : List (TE × TE)) : Prop :=
  ∀ (pins : List (Addr × Obj)) (s : Shared) (σ : St) (H : Hp) (Q : List (V × V) → Hp → Prop), Inv X pins σ H s → tPairs trs σ H Q →
    wpAny (model X.prog X.w) X.A (evalPairs (pairTrees keys values X.env pos)) (fun vs s' => ∃ ps H', Inv X pins σ H' s' ∧ VV ps vs ∧ Q ps H') X.xe s
theorem pps_nil {X : Cx} {pos : Pos} : PPs X pos [] [] [] := fun pins s σ H Q I h => pairTrees_nil_walk ⟨[], H, I, .nil, h⟩
theorem pps_cons {X : Cx} {pos : Pos} {k v : Expr} {ks : List (Option Expr)} {vs : List Expr} {tk tv : TE} {trs : List (TE × TE)} (hk : PE X k tk) (hv : PE X v tv) (hr : PPs X pos ks vs trs) :
    PPs X pos (some k :: ks) (v :: vs) ((tk, tv) :: trs) := by
  intro pins s σ H Q I h
  refine pairTrees_cons_walk (thn (hk pins s σ H _ I h) fun u s1 z => ?_)
  obtain ⟨x, H1, I1, rx, q1⟩ := z
  refine thn (hv pins s1 σ H1 _ I1 q1) fun w2 s2 z => ?_
  obtain ⟨y, H2, I2, ry, q2⟩ := z
  refine thn (hr pins s2 σ H2 _ I2 q2) fun ws s3 z => ?_
  obtain ⟨ps, H3, I3, rel, q3⟩ := z
  exact ⟨(x, y) :: ps, H3, I3, .cons ⟨rx, ry⟩ rel, q3⟩

noncomputable def mergeK (kvs more : List (Key × V)) : List (Key × V) := more.foldl (fun acc kv => putK acc kv.1 kv.2) kvs
theorem KV.merge : ∀ {more : List (Key × V)} {rs : List (Key × Value)} {kvs : List (Key × V)} {vs : List (Key × Value)}, KV more rs → KV kvs vs → KV (mergeK kvs more) (merged vs rs) := by
  intro more rs kvs vs r
  unfold KV at r
  induction r generalizing kvs vs with
  | nil => intro q; exact q
  | @cons p q ps qs h t ih =>
    intro r0
    have e : KV (putK kvs p.1 p.2) (stored vs q.1 q.2) := by
      have := r0.put p.1 h.2
      rw [← h.1]; exact this
    exact ih e
theorem length_mergeK : ∀ (more kvs : List (Key × V)), (mergeK kvs more).length ≤ kvs.length + more.length
  | [], kvs => by show kvs.length ≤ kvs.length + 0; omega
  | p :: r, kvs => by
    have h1 := length_mergeK r (putK kvs p.1 p.2)
    have h2 := length_putK kvs p.1 p.2
    show (mergeK (putK kvs p.1 p.2) r).length ≤ _
    rw [List.length_cons]; omega
theorem carries_of {P : Program} {w : World} : ∀ {kvs : List (Key × V)} {ws : List (Value × Value)}, VV (kvs.map fun kv => (kV kv.1, kv.2)) ws → ∃ rs, Carries (mixKind P w) ws rs ∧ KV kvs rs
  | [], _, r => by rw [List.map_nil] at r; cases r; exact ⟨[], True.intro, .nil⟩
  | p :: kvs, _, r => by
    rw [List.map_cons] at r
    cases r with
    | @cons a b as bs h t =>
      obtain ⟨rs, c, q⟩ := carries_of (P := P) (w := w) t
      obtain ⟨b1, b2⟩ := b
      exact ⟨(p.1, b2) :: rs, ⟨kV_is h.1, rfl, c⟩, .cons ⟨rfl, h.2⟩ q⟩
noncomputable def tDisp (trs : List (TE × TE)) : TE := fun σ H Q => ∀ p, H p = none → tPairs trs σ (upd H p (.dK [])) fun ps H2 => H2 p = some (.dK []) ∧ ∃ kvs : List (Key × V), ps = kvs.map (fun kv => (kV kv.1, kv.2)) ∧ kvs.length ≤ 15 ∧ Q (.ref p) (upd H2 p (.dK (mergeK [] kvs)))
theorem pe_disp {X : Cx} {pos : Pos} {keys : List (Option Expr)} {values : List Expr} {trs : List (TE × TE)} (h : PPs X pos keys values trs) (hall : keys.all (·.isSome) = true) (hl : keys.length = values.length) (h0 : keys ≠ [])
    (h15 : keys.length ≤ 15) : PE X (.Dict keys values pos) (tDisp trs) := by
  intro pins s σ H Q I q
  have hn := I.hok.fresh (Nat.le_refl s.heap.objs.size)
  have I1 := I.laid (a := s.heap.objs.size) (o := .dK []) (h' := s.heap.push { cls := .type "dict", data := .dict #[] }) (t' := s.toks) (fun _ _ q => Heap.get?_push_of_some _ q) (Nat.le_refl _) (dk_empty s.heap I.big)
  refine wpAny_Dict_walk (knd := mixKind X.prog X.w) hall hl h0 h15 (thn (h pins _ σ _ _ I1 (q _ hn)) fun ws s2 zz => ?_)
  obtain ⟨ps, H2, I2, rel, e, kvs, ep, lk, q2⟩ := zz
  subst ep
  obtain ⟨rs, c, rk⟩ := carries_of (P := X.prog) (w := X.w) rel
  obtain ⟨z, hd, vs0, r0, dd⟩ := dk_of I2.hok e
  cases r0
  refine ⟨rs, c, dd, fun h' dd' hs => ⟨.ref s.heap.objs.size, _, ?_, rfl, q2⟩⟩
  have hz : (mergeK [] kvs).length ≤ sizeLine := by
    have h1 := length_mergeK kvs []
    rw [List.length_nil] at h1
    rw [sizeLine_eq]; (clear hall hl h15 z hd; omega)
  have he : ∃ q, h'.get? s.heap.objs.size = some q := by
    obtain ⟨q, _, _, hq, _⟩ := dd'
    exact ⟨q, hq⟩
  exact d_write I2 (by rw [e]; exact True.intro) hs he (dk_new hz hd (rk.merge .nil) dd')


structure M1 (X : Cx) (o : Expr) (m : Str) (apos : Pos) (e : Expr) (cpos : Pos) : Prop where
  base : attributeBase o m X.env (eval o X.env) = eval o X.env
  few : ((backTo cpos (starEach [e] X.env)).all (fun x => !x.1) && (backToKw cpos (keywordEach [] X.env)).all (fun x => x.1.isSome)
    && decide (([e] : List Expr).length + ([] : List Keyword).length + (if ([] : List Keyword).isEmpty then 0 else 1) < 30)) = true
  line : (apos.endLine == cpos.line) = true
  trees : backTo cpos (starEach [e] X.env) = [(false, eval e X.env)]
noncomputable def IsD (H : Hp) (a : Addr) : Prop := (∃ kvs, Rd H a (.dK kvs)) ∨ ∃ kvs, Rd H a (.dT kvs)
theorem isD_at {X : Cx} {pins : List (Addr × Obj)} {σ : St} {H : Hp} {s : Shared} {a : Addr} (I : Inv X pins σ H s) (d : IsD H a) :
    s.TypeIs (.ref a) "dict" ∧ (∀ b, Value.ref a = .ref b → ∃ ob, s.heap.get? b = some ob ∧ ob.dict = none) ∧ (a == sysModules) = false := by
  rcases d with ⟨kvs, e⟩ | ⟨kvs, e⟩
  · obtain ⟨_, hd, vs, _, dd⟩ := dk_rd I.hok e
    refine ⟨dd.typeIs, fun b q => ?_, hd⟩
    cases q
    obtain ⟨ob, _, _, h1, h2, _⟩ := dd
    exact ⟨ob, h1, h2.2.1⟩
  · obtain ⟨_, hd, xs, _, dd⟩ := dt_rd I.hok e
    refine ⟨dd.typeIs, fun b q => ?_, hd⟩
    cases q
    obtain ⟨ob, _, _, h1, h2, _⟩ := dd
    exact ⟨ob, h1, h2.2.1⟩

section
variable {X : Cx} {pins : List (Addr × Obj)} {σ : St} {H : Hp} {s : Shared} {a : Addr} {y d : V} {u r : Value} {o : Option V} {A : Around} {E : Value → Shared → Prop}
end

noncomputable def tDPop1 (td ty : TE) : TE := fun σ H Q => td σ H fun x H1 => ∃ a, x = .ref a ∧ IsD H1 a ∧ ty σ H1 fun y H2 => ∃ kvs k v, H2 a = some (.dK kvs) ∧ y = kV k ∧ valV kvs k = some v ∧ Q v (upd H2 a (.dK (dropK kvs k)))
section
variable {X : Cx} {o e f : Expr} {apos cpos : Pos} {td ty tx : TE}
theorem pe_dpop1 (ho : PE X o td) (he : PE X e ty) (m : M1 X o "pop" apos e cpos) : PE X (.Call (.Attribute o "pop" apos) [e] [] cpos) (tDPop1 td ty) := by
  intro pins s σ H Q I h
  refine wpAny_Call_method m.base m.few m.line PySem.F.plainAttrs_dict PySem.F.slot_dict_pop PySem.F.type_dict_pop (thn (ho pins s σ H _ I h) fun u s1 zz => ?_)
  obtain ⟨x, H1, I1, rx, a, ex, d, q1⟩ := zz
  subst ex
  obtain rfl : u = Value.ref a := rx
  obtain ⟨t1, t2, _⟩ := isD_at I1 d
  refine ⟨t1, t2, ?_⟩
  rw [m.trees]
  refine Calls.callWith_builtin rfl (Calls.evalArgs_plain (Calls.spliced_cons (thn (he pins s1 σ H1 _ I1 q1) fun iv s2 zz1 => ?_)))
  obtain ⟨y, H2, I2, ry, kvs, k, v, ea, ey, l, q2⟩ := zz1
  refine Calls.spliced_nil ?_
  subst ey
  exact d_pop I2 ea ry l (.inl rfl) fun w' s3 I3 rw' => ⟨v, _, I3, rw', q2⟩
end

section
variable {X : Cx} {pins : List (Addr × Obj)} {σ : St} {H : Hp} {s : Shared} {a : Addr} {kvs : List (Key × V)} {A : Around} {E : Value → Shared → Prop}
end


section
variable {X : Cx} {pins : List (Addr × Obj)} {σ : St} {H : Hp} {s : Shared} {a : Addr} {y : V} {u : Value} {A : Around} {E : Value → Shared → Prop}
end
end L2

namespace Att
open PySem PySem.W PySem.Calls PyProof.Rows

theorem ints_of_wellAll {P : Params} {h : Heap} : ∀ (ns : List Int) (vs : List Value), WellAll P h vs (ns.map WData.int) → IntsAre vs ns := by
  intro ns
  induction ns with
  | nil =>
    intro vs w
    rw [List.map_nil] at w
    cases w
    exact .nil
  | cons n ns ih =>
    intro vs w
    rw [List.map_cons] at w
    cases w with
    | cons a b =>
      cases a
      exact .cons _ _ (ih _ b)

theorem script_of {l : OpenLaw} {n : Nat} (hn : l.most = some n) {P : Params} {h : Heap} {args : List WData} {vals : List Value}
    (hpre : l.row.toRowW.claim.pre args = true) (hwl : WellAll P h vals args) :
    ∃ a vs ns, vals = [Value.ref a] ∧ args = [WData.list (ns.map WData.int)] ∧ h.get? a = some { cls := .type "list", data := .seq vs.toArray } ∧ IntsAre vs ns ∧ ns.length ≤ n := by
  have hsh : WShape.hasAll [] args [.list .int] = true := (pre_splitW hpre).1
  have hc : l.pre.holds [] { args := args } = true := (pre_splitW hpre).2
  obtain ⟨d, r, rfl, h1, h2⟩ := hasAllW_cons hsh
  obtain rfl := hasAllW_nil h2
  obtain ⟨xs, rfl, h3⟩ := hasW_list h1
  obtain ⟨ns, rfl⟩ := items_int h3
  have hlen : ns.length ≤ n := by
    unfold OpenLaw.pre at hc
    have h4 : (WTm.not (.lt (.lit (.int (n : Int))) (.len (.arg 0)))).holds [] { args := [.list (ns.map .int)] } = true := by
      have h4 := (holds_andW hc).1
      rw [hn] at h4
      exact h4
    have h5 := condW_of h4 (w_not (w_lt w_lit (w_len_list (w_arg rfl))))
    rw [List.length_map] at h5
    refine Nat.le_of_not_lt fun q => ?_
    have q' : (n : Int) < ((ns.length : Nat) : Int) := by omega
    first
      | (rw [decide_eq_true q'] at h5; exact absurd h5 (by decide))
      | (simp at h5; omega)
  cases hwl with
  | cons w1 w2 =>
    cases w2
    cases w1 with
    | list ho hall => exact ⟨_, _, ns, rfl, rfl, ho, ints_of_wellAll ns _ hall, hlen⟩

theorem post_true (l : OpenLaw) (args : List WData) : l.row.toRowW.claim.post args (.bool true) args = true :=
  postW_of (r := l.row.toRowW) (X := (true == true))
    (show WShape.has [] (.bool true) .bool = true by first | rfl | decide | simp [WShape.has, WShape.arms, WShape.armsAll])
    (show (WTm.eq .res (.lit (.bool true))).value [] { args := args, res := some (.bool true), after := args } = some (.bool (true == true)) from w_eq_bool (w_res rfl) w_lit) rfl

theorem attach_call {l : OpenLaw} {n : Nat} {q : Program} {loose : List Str} {XP : (Str → Option Value) → Heap → Prop} {YP : World → Heap → Prop} {d : DefRec}
    (hn : l.most = some n) (hdf : d.params.defaults = [])
    (call : ∀ (w : World) (s₀ s₁ : Shared) (mg mb : Str → Option Value) (fa : Addr) (o : Obj) (pm cd doc : Value) (a : Addr) (vs : List Value) (ns : List Int),
      Ground q loose [] XP w s₀ mg mb s₁.heap → YP w s₁.heap →
      s₁.heap.get? fa = some o → o.data = .func (docDef d.name d.params d.body d.scope pm cd doc) → s₁.heap.CodeRec cd d.name → mg d.name = some (.ref fa) →
      s₁.heap.get? a = some { cls := .type "list", data := .seq vs.toArray } → IntsAre vs ns → ns.length ≤ n → s₁.gens = #[] →
      codeAny (model l.prog w) callerA (.call (.ref fa) ⟨[.ref a], []⟩) (fun r s' => r = .ok (.ret (.bool true)) ∧ OldK s₁.heap s'.heap ∧ s'.os = s₁.os ∧ AllBare s'.gens) s₁) :
    WalkO q loose XP YP l.row.toRowW d [] (fun f vs => PySem.call f vs) := by
  intro w s₀ s₁ mg mb G Y fa o pm cd doc dV kV ho hd hcd hD hmg hg args vals as hpre hlay hrd hwl hlo
  obtain rfl : dV = .none := Dflts.none hD hdf
  obtain rfl : kV = .none := Dflts.noKw hD
  obtain ⟨a, vs, ns, rfl, rfl, hobj, hints, hlen⟩ := script_of hn hpre hwl
  refine enter_call (codeAny_mono (call w s₀ s₁ mg mb fa o pm cd doc a vs ns G Y ho (fd_plain hd) hcd hmg hobj hints hlen hg) fun r s' hq => ?_)
  obtain ⟨rfl, h2, h3, h4⟩ := hq
  exact ⟨.inl ⟨.bool true, .bool true, [], rfl, fun _ => rfl, .bool true, post_true l _, fun _ => ⟨List.Pairwise.nil, fun _ hm => (nomatch hm)⟩⟩, h2, h3, h4⟩

section
variable {prog : Program} {w : World} {A : Around} {E : Value → Shared → Prop} {s : Shared} {K : Frag}

end
end Att

namespace L2
open PySem PySem.Spec PyProof.Rows

theorem vals_ints : ∀ {vs : List Value} {ns : List Int}, IntsAre vs ns → Vals (ns.map V.int) vs := by
  intro vs ns h
  induction h with
  | nil => exact .nil
  | cons n t _ ih => exact .cons ⟨t, rfl⟩ ih

end L2

namespace L2
open PySem PySem.Spec PyProof.Rows

end L2


namespace L2
open PySem PySem.Spec PyProof.Rows

noncomputable def inClass (s : Stmt) (j : Nat) : Stmt := match s with
  | .ClassDef _ _ _ body _ _ _ _ _ _ _ => body.getD j (.Pass ⟨0, 0, 0, 0⟩)
  | _ => .Pass ⟨0, 0, 0, 0⟩
noncomputable def defArgs (s : Stmt) : Arguments := match s with
  | .FunctionDef _ a _ _ _ _ _ _ _ _ => a
  | _ => { posonlyargs := [], args := [], vararg := none, kwonlyargs := [], kw_defaults := [], kwarg := none, defaults := [] }
noncomputable def defBody (s : Stmt) : List Stmt := match s with
  | .FunctionDef _ _ b _ _ _ _ _ _ _ => b
  | _ => []
noncomputable def defScope (s : Stmt) : Scope := match s with
  | .FunctionDef _ _ _ _ _ _ sc _ _ _ => sc
  | _ => { kind := .function, names := [], isGenerator := false, isCoroutine := false }

noncomputable abbrev E0 : XK := fun _ _ _ => False
structure Fun (K : PySem.W.Frag) (x qual : Str) (st : Stmt) (f : Addr) (fd : FuncData) : Prop where
  ex : ∃ (oc : Value) (od : Option Addr) (kV doc pm : Value) (an : Option Addr) (cdv ct : Value) (osl : Array (Option Value)),
    fd = PySem.W.fnOf x qual (defArgs st) (defBody st) (defScope st) .none kV doc pm an cdv ct ∧ K.lookup f = some ⟨oc, od, .func fd, osl⟩ ∧ PySem.W.codeIn K cdv qual = true
  kp : PySem.W.keepIn K (.ref f) = true
section
variable {P : Program} {w : World} {K : PySem.W.Frag} {mg : Str → Option Value} {base : Heap}
theorem Fun.binds {x qual : Str} {st : Stmt} {f : Addr} {fd : FuncData} {ps : List Str} (F : Fun K x qual st f fd)
    (h : ∀ (kV doc pm : Value) (an : Option Addr) (cdv ct : Value) (us : List Value), us.length = ps.length → bindArgs (PySem.W.fnOf x qual (defArgs st) (defBody st) (defScope st) .none kV doc pm an cdv ct) ⟨us, []⟩ = pure (ps.zip us)) : Binds K fd ps [] := by
  obtain ⟨oc, od, kV, doc, pm, an, cdv, ct, osl, rfl, lk, hcd⟩ := F.ex
  exact .all (h kV doc pm an cdv ct)
theorem fun_mk {x qual : Str} {st : Stmt} {f : Addr} {oc : Value} {od an : Option Addr} {osl : Array (Option Value)} {kV doc pm cdv ct : Value} (l : K.lookup f = some ⟨oc, od, .func (PySem.W.fnOf x qual (defArgs st) (defBody st) (defScope st) .none kV doc pm an cdv ct), osl⟩)
    (c : PySem.W.codeIn K cdv qual = true) (k : PySem.W.keepIn K (.ref f) = true) : Fun K x qual st f (PySem.W.fnOf x qual (defArgs st) (defBody st) (defScope st) .none kV doc pm an cdv ct) := ⟨⟨oc, od, kV, doc, pm, an, cdv, ct, osl, rfl, l, c⟩, k⟩
end
theorem hu_of {A : Around} {k : Nat} (hr : Room k A) : A.units + 1 < cLine := Nat.lt_of_le_of_lt (Nat.add_le_add_left (by decide : 1 ≤ 64) _) hr.units
theorem small1000 {n : Nat} (h : n ≤ 1000) : n < sizeLine := Nat.lt_of_le_of_lt h (by decide)

section
variable {X : Cx}
theorem pv (i : Nat) {x : Str} {pos : Pos} (hN : X.N[i]? = some x := by rfl) (hv : Vis X.env.scope x := by first | exact Or.inl rfl | exact Or.inr (Or.inl rfl) | exact Or.inr (Or.inr rfl)) (hd : (x == ("__debug__" : Str)) = false := by decide)
    (hcd : (x == ("__classdict__" : Str)) = false := by decide) : PE X (.Name x pos) (tVar i) := pe_var hN hv hd hcd
end

theorem iteF {A B : Prop} (h : B) : if false = true then A else B := by
  rw [if_neg Bool.false_ne_true]
  exact h
theorem iteT {A B : Prop} (h : A) : if true = true then A else B := by
  rw [if_pos rfl]
  exact h
theorem ite2 {c A B : Prop} [Decidable c] (h1 : c → A) (h2 : ¬ c → B) : if c then A else B := by
  by_cases h : c
  · rw [if_pos h]
    exact h1 h
  · rw [if_neg h]
    exact h2 h
noncomputable def Same (H H' : Hp) : Prop := ∀ b o, H b = some o → H' b = some o
end L2

namespace L2
open PySem PySem.Spec PyProof.Rows
section
variable {X : Cx}
theorem call_lenD : CallR X (.builtin "len") (fun xs H Q => ∃ a kvs, xs = [V.ref a] ∧ H a = some (.dK kvs) ∧ Q (.int kvs.length) H) := by
  intro pins s σ H xs us Q I r h
  obtain ⟨a, kvs, rfl, ha, q⟩ := h
  obtain ⟨u, rfl, ru⟩ := vals1 r
  cases ru
  exact d_len I (.inl ha) fun t s' I' => ⟨.int kvs.length, H, I', ⟨t, rfl⟩, q⟩
end
section
variable {κ : Type} [DecidableEq κ]
end
end L2

set_option Elab.async false
set_option linter.all false
set_option maxRecDepth 100000

namespace L2
open PySem PySem.Spec PyProof.Rows

noncomputable def XHead (h : Heap) (G : Addr → Prop) (ea : Addr) (vs : Array Value) (F : Value → Prop) : Prop :=
  ∃ T oT ts fl, vs[1]? = some (.ref T) ∧ T ≠ ea ∧ h.get? T = some oT ∧ oT.data = .fields ts ∧ ts[3]? = some fl ∧ F fl ∧ G T
noncomputable def Pln (h : Heap) (G : Addr → Prop) (vs : Array Value) : Prop :=
  ∃ t ot n y k, vs[0]? = some (.ref t) ∧ vs[2]? = some .none ∧ h.get? t = some ot ∧ ot.cls = .type "tuple" ∧ ot.data = .seq #[.str y k] n ∧ G t
noncomputable def XObj (h : Heap) (G : Addr → Prop) (ea : Addr) (C : Value) (o : Option Addr) (P : Array Value → Prop) : Prop :=
  ∃ oe vs, h.get? ea = some oe ∧ (oe.cls = C ∧ oe.dict = none) ∧ oe.data = .fields vs ∧ 1 < vs.size ∧ G ea ∧ (o = none → Pln h G vs) ∧ P vs
noncomputable abbrev XOn (h : Heap) (G : Addr → Prop) (ea : Addr) (C fl : Value) (o : Option Addr) : Prop := XObj h G ea C o fun vs => XHead h G ea vs fun f => f = fl

section
variable {M : Model} {A : Around} {E : Value → Shared → Prop} {s : Shared} {base : Heap} {env : Env} {outer : List Env} {L ea : Addr} {C : Value} {oo : Option Addr} {G : Addr → Prop} {Q : Unit → Shared → Prop}

end

theorem ObjOk.obj {P : Program} {w : World} {H : Hp} {h : Heap} {a : Addr} {o : HO} (x : ObjOk P w H h a o) : ∃ ob, h.get? a = some ob := by
  cases o with
  | lst xs => obtain ⟨_, _, _, _, e⟩ := x; exact ⟨_, e⟩
  | tup xs => obtain ⟨_, _, _, p⟩ := x; obtain ⟨ob, e, _⟩ := p; exact ⟨_, e⟩
  | dK kvs => obtain ⟨_, _, _, _, o, _, _, e, _⟩ := x; exact ⟨_, e⟩
  | dT kvs => obtain ⟨_, _, _, _, o, _, _, e, _⟩ := x; exact ⟨_, e⟩
  | set S n => obtain ⟨o, _, _, _, e, _⟩ := x; exact ⟨_, e⟩
  | ins C dx fs => obtain ⟨_, _, _, e, _⟩ := x; exact ⟨_, e⟩
  | own y => exact x
  | xd fs => obtain ⟨_, ⟨_, _, _, e, _⟩, _⟩ := x; exact ⟨_, e⟩
  | rng lo hi => obtain ⟨_, _, _, e⟩ := x; exact ⟨_, e⟩
  | frz ob u => obtain ⟨e, _⟩ := x; exact ⟨_, e⟩
  | tbl ps => exact ⟨_, show h.get? a = some _ from x⟩
  | met f y => exact ⟨_, show h.get? a = some _ from x⟩
  | ext φ => obtain ⟨_, e, _⟩ := x; exact e
section
variable {X : Cx} {pins : List (Addr × Obj)} {σ : St} {H : Hp} {s : Shared}
end

noncomputable def CX1 (P : Program) (w : World) : CXT := fun outer H s E e s' => ∃ (ea : Addr) (C : Value) (o : Option Addr) (H' : Hp), e = .ref ea ∧ s'.os = s.os ∧ AllBare s'.gens ∧ Un (frs outer) [] H H' s.heap s'.heap ∧ HOk P w H' s'.heap ∧
  XOn s'.heap (fun b => s.heap.get? b = none ∧ H' b = none) ea C .none o ∧ E C o H'
theorem passN {X : Cx} : Passes (CX1 X.prog X.w) X E0 := fun pins σ H s e s' I c => by
  obtain ⟨ea, C, o, H', rfl, _, _, _, _, _, q⟩ := c
  exact q.elim
section
variable {P : Program} {w : World} {K : PySem.W.Frag} {mg : Str → Option Value} {base : Heap}
theorem Fun.okx {x qual : Str} {st : Stmt} {f : Addr} {fd : FuncData} {N ps : List Str} {k : Nat} {sp : Sp} (F : Fun K x qual st f fd) (S : FnScope N ps (defScope st)) (len : ∀ vs H Q E, sp vs H Q E → vs.length = ps.length)
    (hbody : ∀ (cdv : Value) (A : Around) (outer : List Env) (s : Shared) (H : Hp) (vs : List V) (Q : VK) (E : XK), Room k (A.deeper (envOfC qual (defScope st) s.heap.objs.size f cdv)) → sp vs H Q E →
      ∃ t, PSs (cxOf (CX1 P w) P w K mg base N qual (defScope st) f cdv A outer s H E) (defBody st) t ∧ t { nx := fun _ H' => Q .non H', rt := Q } (start N vs) H) : FnOk P w K mg base (CX1 P w) (k + 1) f fd ps sp := by
  obtain ⟨oc, od, kV, doc, pm, an, cdv, ct, osl, rfl, lk, hcd⟩ := F.ex
  exact fn_of lk hcd S len fun A outer s H vs Q E hr h => hbody cdv A outer s H vs Q E hr h
theorem Fun.ok1 {x qual : Str} {st : Stmt} {f : Addr} {fd : FuncData} {N ps : List Str} {k : Nat} {sp : Sp} (F : Fun K x qual st f fd) (S : FnScope N ps (defScope st)) (len : ∀ vs H Q E, sp vs H Q E → vs.length = ps.length)
    (hbody : ∀ (cdv : Value) (A : Around) (outer : List Env) (s : Shared) (H : Hp) (vs : List V) (Q : VK) (E : XK), Room k (A.deeper (envOfC qual (defScope st) s.heap.objs.size f cdv)) → sp vs H Q E →
      ∃ t, PSs (cxOf (CX1 P w) P w K mg base N qual (defScope st) f cdv A outer s H E).nox (defBody st) t ∧ t { nx := fun _ H' => Q .non H', rt := Q } (start N vs) H) : FnOk P w K mg base (CX1 P w) (k + 1) f fd ps sp :=
  F.okx S len fun cdv A outer s H vs Q E hr h => by
    obtain ⟨t, ht, q⟩ := hbody cdv A outer s H vs Q E hr h
    exact ⟨t, ht.nox, q⟩
end
end L2

set_option Elab.async false
set_option linter.all false
set_option maxRecDepth 100000
namespace L2
open PySem PySem.Spec PyProof.Rows

section
variable {X : Cx} {x : Str} {C : Addr} {E : XK} {e : Expr} {es : List Expr} {ta : TA} {np cpos pos : Pos}
end

section
variable {X : Cx} {k : Nat} {f C : Addr} {fd : FuncData} {ps : List Str} {sp : Sp} {x m : Str} {p pos apos : Pos} {e o : Expr} {es : List Expr} {ta te : TE} {t : TA}
end

section
variable {X : Cx} {pins : List (Addr × Obj)} {σ : St} {H : Hp} {s : Shared} {ea : Addr}
end
end L2

set_option Elab.async false
set_option linter.all false
set_option maxRecDepth 100000
namespace L2
open PySem PySem.Spec PyProof.Rows

section
variable {X : Cx} {body : List Stmt} {b0 : Stmt} {suite : List Stmt} {cn n : Str} {Ch : Addr} {np hpos pos : Pos} {tb : TSx} {ts : TS} {j : Nat}
end
end L2

set_option Elab.async false
set_option linter.all false
set_option maxRecDepth 100000
namespace L2
open PySem PySem.Spec PyProof.Rows

noncomputable def PTs (X : Cx) (ifs : List Expr) (t : TT) : Prop :=
  ∀ (pins : List (Addr × Obj)) (s : Shared) (σ : St) (H : Hp) (Q : Bool → Hp → Prop), Inv X pins σ H s → t σ H Q →
    wpAny (model X.prog X.w) X.A (forIn ifs true fun c r => if r = true then do let ok ← isTrue c X.env (eval c X.env); pure (ForInStep.yield ok) else pure (ForInStep.yield r)) (TP X pins σ Q) X.xe s
noncomputable def tYes : TT := fun _ H Q => Q true H
theorem pts_nil {X : Cx} : PTs X [] tYes := fun _ _ _ H _ I h => wpAny_tests_nil ⟨H, I, h⟩
theorem pts_one {X : Cx} {c : Expr} {t : TT} (h : PT X c t) : PTs X [c] t := fun pins s σ H Q I hw => wpAny_tests_one (h pins s σ H Q I hw)

noncomputable def cLoop (D : Addr) (g : TG) (tc : TT) (te : TE) (J : It) (Q : Hp → Prop) (σ0 : St) (H0 : Hp) : Prop :=
  ∃ W : Nat → Nat → St → Hp → Prop, (∃ m, W 0 m σ0 H0) ∧ ∀ i m σ H, W i m σ H →
    (J.stop i H ∧ Q H) ∨ (J.go i H ∧ ∃ N : St → Hp → Prop, (∀ σ' H', N σ' H' → ∃ m', m' < m ∧ W (i + 1) m' σ' H') ∧ ∀ x H', J.yld i H x H' → g x σ H' fun σ2 H2 => tc σ2 H2 fun b H3 =>
      if b = true then te σ2 H3 fun y H4 => ∃ xs, H4 D = some (.lst xs) ∧ xs.length < sizeLine ∧ N σ2 (upd H4 D (.lst (xs ++ [y]))) else N σ2 H3)

section
variable {X : Cx} {elt tg iter : Expr} {ifs : List Expr} {scope : Scope} {pos : Pos} {g : TG} {tc : TT} {te : TE} {J : It} {fp : List Addr} {it D : Addr} {tn : Nat → Heap → Prop}
theorem comp_run (hxe : X.xe = fun _ _ => False) (hcalm : X.calm = true) (hg : PG X tg g) (hc : PTs X ifs tc) (he : PE X elt te) (T : Turn X.prog X.w X.K tg J fp it tn) {Q : Hp → Prop} {σ0 : St} {H0 : Hp} {s : Shared} (I : Inv X [] σ0 H0 s)
    (h0 : tn 0 s.heap) (hf : ∀ b ∈ fp, FpOk X [] H0 b) (hl : cLoop D g tc te J Q σ0 H0) :
    codeAny (model X.prog X.w) X.A (.compLoop (.ListComp elt [⟨tg, iter, ifs, 0⟩] scope pos) 0 (.ref it) (.ref D) X.env) (fun r s' => r = .ok .next ∧ ∃ σ' H', Inv X [] σ' H' s' ∧ Q H') s := by
  obtain ⟨W, ⟨m0, w0⟩, turn⟩ := hl
  have stat : ∀ {H' : Hp}, (∀ b ∈ fp, H' b = none) → ∀ b ∈ fp, FpOk X [] H' b := fun hn b hb => ⟨hn b hb, (hf b hb).2⟩
  have lift : ∀ {α : Type} {t : Sem α} {R : α → Shared → Prop} {E : Value → Shared → Prop} {s : Shared}, wpAny (model X.prog X.w) X.A t R X.xe s → wpAny (model X.prog X.w) X.A t R E s := fun {α t R E s} h => wpAny_mono h (fun _ _ x => x) (fun v s' z => by rw [hxe] at z; exact z.elim)
  refine codeAny_loop rfl (fun n s' => ∃ i σ' H', Inv X [] σ' H' s' ∧ tn i s'.heap ∧ (∀ b ∈ fp, H' b = none) ∧ W i n σ' H') (fun n s3 h3 => ?_) m0 ⟨0, σ0, H0, I, h0, fun b hb => (hf b hb).1, w0⟩
  obtain ⟨i, σ3, H3, I3, st3, fr3, w3⟩ := h3
  show wpAny _ X.A ((compTurn (.ListComp elt [⟨tg, iter, ifs, 0⟩] scope pos) 0 (.ref it) (.ref D) X.env).onRaise (fun x => do noteFrame x X.env; theTreesLotGoes x)) _ _ s3
  refine wpAny_noted ?_
  rw [compTurn_list]
  rcases turn i n σ3 H3 w3 with ⟨stop, qn⟩ | ⟨go, N, hN, step⟩
  · refine wpAny_bind (wpAny_standAt (wpAny_bind (lift (thn (T.done X rfl rfl rfl hcalm i [] s3 σ3 H3 X.xe I3 (stat fr3) st3 stop) fun r s4 ⟨hr, I4⟩ => ?_))))
    subst hr
    exact wpAny_pure ⟨rfl, σ3, H3, I4, qn⟩
  · refine wpAny_bind (wpAny_standAt (wpAny_bind (lift (thn (T.item X rfl rfl rfl hcalm i [] s3 σ3 H3 X.xe I3 (stat fr3) st3 go) fun r s4 zz => ?_))))
    obtain ⟨u, hr, h4⟩ := zz
    subst hr
    refine wpAny_bind (lift (thn h4 fun _ s5 zz => ?_))
    obtain ⟨x, H5, I5, r5, y5, st5, fr5⟩ := zz
    have I5' := I5.pinned (stat fr5) (T.obj _ _ st5)
    refine wpAny_bind (lift (thn (hg _ s5 σ3 H5 x u _ I5' r5 (step x H5 y5)) fun _ s6 zz => ?_))
    obtain ⟨σ6, H6, I6, q6⟩ := zz
    have again : ∀ {σ7 : St} {H7 : Hp} {s7 : Shared}, Inv X ([] ++ pinsAt fp s5.heap) σ7 H7 s7 → N σ7 H7 → ∃ m, m < n ∧ ∃ i σ' H', Inv X [] σ' H' s7 ∧ tn i s7.heap ∧ (∀ b ∈ fp, H' b = none) ∧ W i m σ' H' := fun {σ7 H7 s7} I7 n7 => by
      obtain ⟨m', hm, w7⟩ := hN σ7 H7 n7
      refine ⟨m', hm, i + 1, σ7, H7, I7.unpinned, T.keep _ _ _ st5 fun b hb o e => (I7.pin (b, o) (List.mem_append_right _ (List.mem_append_right _ (mem_pinsAt hb e)))).1, fun b hb => ?_, w7⟩
      obtain ⟨o, e, d⟩ := T.obj _ _ st5 b hb
      exact (I7.pin (b, o) (List.mem_append_right _ (List.mem_append_right _ (mem_pinsAt hb e)))).2.1
    refine wpAny_bind (lift (thn (hc _ s6 σ6 H6 _ I6 q6) fun ok s7 zz => ?_))
    obtain ⟨H7, I7, q7⟩ := zz
    cases ok with
    | false =>
      simp only [Bool.false_eq_true, if_false] at q7 ⊢
      first
        | exact wpAny_pure ⟨rfl, again I7 q7⟩
        | exact wpAny_bind (wpAny_pure (wpAny_pure ⟨rfl, again I7 q7⟩))
    | true =>
      simp only [if_true] at q7 ⊢
      have app : wpAny (model X.prog X.w) X.A (do let _ ← call (.builtin "list.append") [.ref D, ← eval elt X.env]) (fun _ s9 => ∃ m, m < n ∧ ∃ i σ' H', Inv X [] σ' H' s9 ∧ tn i s9.heap ∧ (∀ b ∈ fp, H' b = none) ∧ W i m σ' H') X.xe s7 := by
        refine wpAny_bind (thn (he _ s7 σ6 H7 _ I7 q7) fun y s8 zz => ?_)
        obtain ⟨yv, H8, I8, r8, xs, hD, hz, nn⟩ := zz
        refine wpAny_bind (thn (mt_append _ s8 σ6 H8 (.ref D) [yv] (.ref D) [y] (fun v H9 => N σ6 H9) I8 rfl (.cons r8 .nil) ⟨D, xs, yv, rfl, rfl, hD, hz, nn⟩) fun v s9 zz => ?_)
        obtain ⟨vv, H9, I9, _, n9⟩ := zz
        exact wpAny_pure (again I9 n9)
      first
        | exact wpAny_bind (lift (thn app fun _ s9 h9 => wpAny_pure ⟨rfl, h9⟩))
        | exact lift (thn app fun _ s9 h9 => wpAny_bind (wpAny_pure ⟨rfl, h9⟩))
end

noncomputable abbrev Cx.comp (X : Cx) (scope : Scope) (cl : List (Str × Addr)) (N : List Str) (fp : List Addr) (s3 : Shared) (H3 : Hp) : Cx :=
  { X with N := N, s₀ := s3, H₀ := H3, env := compEnvC scope cl s3.heap.objs.size X.env, outer := X.stack, stack := X.stack, ex := fp, fn := fun _ => false, pn := [], xe := fun _ _ => False }
noncomputable def cellsIn (cells : List (Str × Addr)) : List (Str × Addr) → Prop
  | [] => True
  | y :: r => cells.lookup y.1 = some y.2 ∧ cellsIn cells r
theorem cellsIn.get {cells : List (Str × Addr)} : ∀ {cl : List (Str × Addr)}, cellsIn cells cl → ∀ x c, cl.lookup x = some c → cells.lookup x = some c
  | [], _, x, c, h => by simp at h
  | y :: r, s, x, c, h => by
    obtain ⟨k, v⟩ := y
    rw [List.lookup_cons] at h
    cases e : (x == k) with
    | true =>
      rw [e] at h
      have := eq_of_beq e
      subst this
      cases h
      exact s.1
    | false =>
      rw [e] at h
      exact cellsIn.get s.2 x c h
noncomputable def isOut : Option NameKind → Bool
  | some .cell => true
  | some .free => true
  | _ => false
theorem isOut_of {o : Option NameKind} (h : isOut o = true) : o = some .cell ∨ o = some .free := by
  cases o with
  | none => cases h
  | some k => cases k <;> first | exact .inl rfl | exact .inr rfl | cases h
structure CompOk (X : Cx) (scope : Scope) (cl : List (Str × Addr)) (locs : List Str) (caps : List Nat) : Prop where
  clos : closureFor scope X.env = pure cl
  nocell : ∀ y ∈ scope.names, y.2 ≠ .cell
  kind : scope.kind = .function
  names : ∀ y ∈ scope.names, y.2 = .local → scope.names.lookup y.1 = some .local
  cin : cellsIn X.env.cells cl
  all : ((relabel scope X.env).names.all fun y => !isOut (some y.2) || (cl.lookup y.1).isSome) = true
  capt : (caps.all fun i => match X.N[i]? with | some x => isOut (X.env.kindOf x) && isOut ((relabel scope X.env).names.lookup x) | none => false) = true
theorem CompOk.sub {X : Cx} {scope : Scope} {cl : List (Str × Addr)} {locs : List Str} {caps : List Nat} (c : CompOk X scope cl locs caps) : ∀ x k, cl.lookup x = some k → X.env.cells.lookup x = some k := c.cin.get
theorem CompOk.has {X : Cx} {scope : Scope} {cl : List (Str × Addr)} {locs : List Str} {caps : List Nat} (c : CompOk X scope cl locs caps) (x : Str)
    (h : (relabel scope X.env).names.lookup x = some .cell ∨ (relabel scope X.env).names.lookup x = some .free) : ∃ k, cl.lookup x = some k := by
  have q : ∀ k, isOut (some k) = true → (relabel scope X.env).names.lookup x = some k → ∃ k, cl.lookup x = some k := fun k hk e => by
    have m := List.all_eq_true.mp c.all _ (PySem.mem_of_lookup e)
    simp only [hk, Bool.not_true, Bool.false_or] at m
    exact Option.isSome_iff_exists.mp m
  rcases h with e | e
  · exact q _ rfl e
  · exact q _ rfl e
theorem CompOk.cap {X : Cx} {scope : Scope} {cl : List (Str × Addr)} {locs : List Str} {caps : List Nat} (c : CompOk X scope cl locs caps) : ∀ i ∈ caps, ∃ x, X.N[i]? = some x ∧ (X.env.kindOf x = some .cell ∨ X.env.kindOf x = some .free) ∧ ((relabel scope X.env).names.lookup x = some .cell ∨ (relabel scope X.env).names.lookup x = some .free) := fun i hi => by
  have m := List.all_eq_true.mp c.capt i hi
  cases e : X.N[i]? with
  | none => rw [e] at m; cases m
  | some x =>
    rw [e] at m
    simp only [Bool.and_eq_true] at m
    exact ⟨x, rfl, isOut_of m.1, isOut_of m.2⟩
noncomputable def capN (N locs : List Str) (caps : List Nat) : List Str := locs ++ caps.map fun i => N.getD i ""
noncomputable def capS (locs : List Str) (caps : List Nat) (σ : St) : St := locs.map (fun _ => none) ++ caps.map fun i => σ.getD i none

section
variable {X : Cx} {scope : Scope} {cl : List (Str × Addr)} {locs : List Str} {caps : List Nat} {pins : List (Addr × Obj)} {σ : St} {H : Hp} {s s4 : Shared} {fp : List Addr}
theorem inv_comp (c : CompOk X scope cl locs caps) (I : Inv X pins σ H s) (hf : ∀ b ∈ fp, FpOk X pins H b) (hfo : ∀ b ∈ fp, b < s.heap.objs.size) (hk : ∀ b o, s.heap.get? b = some o → s4.heap.get? b = some o) (ho : s4.os = s.os) (hg : s4.gens = s.gens)
    {m : Str → Option Value} (hn : s4.heap.Ns s.heap.objs.size m) : Inv (X.comp scope cl (capN X.N locs caps) fp s H) [] (capS locs caps σ) H s4 := by
  have fresh : H s.heap.objs.size = none := I.hok.fresh (Nat.le_refl _)
  have fpst : ∀ b ∈ fp, b ∉ frs X.stack := fun b hb z => by
    rcases List.mem_cons.mp (I.stkSub b z) with e | e
    · exact (hf b hb).2.1 e
    · exact (hf b hb).2.2.1 e
  refine ⟨⟨I.ok.mod, c.kind, I.ok.glob, I.ok.blt, Nat.le_refl _, fun x y c1 h1 h2 => I.ok.inj x y c1 (c.sub _ _ h1) (c.sub _ _ h2), fun x hx => c.has x hx, (fun x c1 h1 _ => nomatch h1), I.ok.hd, I.ok.frames, .inl rfl, fun b hb => ⟨?_, fun x c1 h1 => (hf b hb).2.2.2.2.1 x c1 (c.sub _ _ h1)⟩,
      I.bs, Nat.le_trans I.ok.bsz I.sz, fun b o e hb => ?_, fpst, I.stack, I.stkFree⟩, ho, by rw [hg]; exact I.bare, Un.kept hk, ⟨m, hn, fun i x v e1 e2 e3 => ?_⟩, fun x c1 h1 => ?_, fresh, fun x c1 h1 => I.freeC x c1 (c.sub _ _ h1), fun p hp => absurd hp (by simp), I.hok.kept hk, ?_⟩
  · exact Nat.ne_of_lt (hfo b hb)
  · rcases (hf b hb).2.2.2.1 with z | z
    · exact I.ok.noex b o e z
    · exact absurd (Nat.lt_of_lt_of_le (Heap.lt_size (I.ok.bs b o e).1) z) (Nat.lt_irrefl _)
  · have e1 : (capN X.N locs caps)[i]? = some x := e1
    unfold capN at e1
    unfold capS at e2
    by_cases hi : i < locs.length
    · rw [List.getElem?_append_left (by simpa using hi), List.getElem?_map] at e2
      cases q : locs[i]? with
      | none => rw [q] at e2; cases e2
      | some y => rw [q] at e2; cases e2
    · have hi : locs.length ≤ i := Nat.le_of_not_lt hi
      rw [List.getElem?_append_right (by simpa using hi), List.getElem?_map] at e2
      rw [List.getElem?_append_right hi, List.getElem?_map] at e1
      rw [List.length_map] at e2
      cases q : caps[i - locs.length]? with
      | none => rw [q] at e2; cases e2
      | some k =>
        rw [q] at e1 e2
        obtain ⟨x', hx', k1, k2⟩ := c.cap k (List.mem_of_getElem? q)
        have ex : x' = x := by
          have := Option.some.inj e1
          dsimp only at this
          rw [List.getD_eq_getElem?_getD, hx'] at this
          exact this
        subst ex
        have ev : σ[k]? = some (some v) := by
          have := Option.some.inj e2
          dsimp only at this
          rw [List.getD_eq_getElem?_getD] at this
          cases z : σ[k]? with
          | none => rw [z] at this; cases this
          | some o => rw [z] at this; rw [show o = some v from this]
        obtain ⟨m0, hn0, hl⟩ := id I.loc
        have hv : Vis X.env.scope x' := by
          rcases k1 with k1 | k1
          · exact .inr (.inl k1)
          · exact .inr (.inr k1)
        obtain ⟨u, r, l⟩ := hl k x' v hx' ev hv
        refine ⟨u, r, .inr ⟨k2, ?_⟩⟩
        obtain ⟨c1, hc1⟩ := c.has x' k2
        rcases l with ⟨kk, _⟩ | ⟨_, c2, hc2, ic⟩
        · rcases k1 with k1 | k1 <;> (rw [k1] at kk; cases kk)
        · have e := hc2.symm.trans (c.sub _ _ hc1)
          obtain ⟨o, ho', hd⟩ := ic
          rw [Option.some.inj e] at ho'
          exact ⟨c1, hc1, o, hk _ _ ho', hd⟩
  · obtain ⟨v, o, ho', hd⟩ := I.cell x c1 (c.sub _ _ h1)
    exact ⟨v, o, hk _ _ ho', hd⟩
  · show (capS locs caps σ).length = (capN X.N locs caps).length
    unfold capS capN
    simp
end
end L2

set_option Elab.async false
set_option linter.all false
set_option maxRecDepth 100000
namespace L2
open PySem PySem.Spec PyProof.Rows

noncomputable def tComp (wi : TI) (locs : List Str) (caps : List Nat) (g : TG) (tc : TT) (te : TE) : TE := fun σ H Q => wi σ H fun J H1 => ∀ D, H1 D = none → cLoop D g tc te J (fun H2 => Q (.ref D) H2) (capS locs caps σ) (upd H1 D (.lst []))
section
variable {X : Cx} {elt tg iter : Expr} {ifs : List Expr} {scope : Scope} {cl : List (Str × Addr)} {locs : List Str} {caps : List Nat} {pos : Pos} {wi : TI} {g : TG} {tc : TT} {te : TE}
theorem comp_block {M : Model} {E : Value → Shared → Prop} {pins : List (Addr × Obj)} {σ : St} {H2 : Hp} {s2 : Shared} {it : Addr} {fp : List Addr} {tn : Nat → Heap → Prop} {J : It} {Q : VK} {RR : Value → Addr → Result → Shared → Prop} (hcalm : X.calm = true) (c : CompOk X scope cl locs caps)
    (hg : ∀ fp s3 H3, PG (X.comp scope cl (capN X.N locs caps) fp s3 H3) tg g) (hc : ∀ fp s3 H3, PTs (X.comp scope cl (capN X.N locs caps) fp s3 H3) ifs tc) (he : ∀ fp s3 H3, PE (X.comp scope cl (capN X.N locs caps) fp s3 H3) elt te)
    (I2 : Inv X pins σ H2 s2) (T : Turn X.prog X.w X.K tg J fp it tn) (st2 : tn 0 s2.heap) (f2 : ∀ b ∈ fp, FpOk X pins H2 b) (hl : ∀ D, H2 D = none → cLoop D g tc te J (fun H' => Q (.ref D) H') (capS locs caps σ) (upd H2 D (.lst [])))
    (hRR : ∀ D C m s' H', s'.heap.Ns C m → H' C = none → C ≠ X.env.locals → X.s₀.heap.objs.size ≤ C → (∀ x k, X.env.cells.lookup x = some k → k ≠ C) → (∀ p ∈ X.pn ++ pins, p.1 ≠ C) → Inv X pins σ H' s' → Q (.ref D) H' → RR (.ref D) C (.ok .next) s') :
    wpAny (model X.prog X.w) X.A (newList []) (fun acc s₃ => wpAny (model X.prog X.w) X.A (newFunctionEnv scope X.env.globals cl [] X.env.qual none .none (some X.env)) (fun cenv s₄ =>
      codeAny (model X.prog X.w) X.A (.compStart (.ListComp elt [⟨tg, iter, ifs, 0⟩] scope pos) 0 (.ref it) acc { cenv with scope := relabel scope X.env }) (RR acc cenv.locals) s₄) E s₃) E s2 := by
  have I3 : Inv X pins σ (upd H2 s2.heap.objs.size (.lst [])) { s2 with heap := s2.heap.push { cls := .type "list", dict := none, data := .seq ([] : List Value).toArray }, toks := s2.toks } :=
    I2.laid (t' := s2.toks) (fun b u e => Heap.get?_push_of_some _ e) (Nat.le_refl _) ⟨Nat.zero_le _, [], 0, .nil, Heap.get?_push_size _ rfl⟩
  refine wpAny_newObj_type (wpAny_newFunctionEnv c.nocell (by intro y hy; simp at hy) (fun h₁ hns₁ hsb₁ => ?_) c.kind)
  dsimp only at hns₁ hsb₁ ⊢
  have fpo : ∀ b ∈ fp, b < s2.heap.objs.size := fun b hb => by
    obtain ⟨o, e, _⟩ := T.obj 0 _ st2 b hb
    exact Heap.lt_size e
  have hD : H2 s2.heap.objs.size = none := I2.hok.fresh (Nat.le_refl _)
  have keep : ∀ b o, (s2.heap.push { cls := .type "list", dict := none, data := .seq ([] : List Value).toArray }).get? b = some o → h₁.get? b = some o := fun b o e =>
    hsb₁.extBut b o (Nat.ne_of_lt (Heap.lt_size e)) (Heap.get?_push_of_some _ e)
  have f3 : ∀ b ∈ fp, FpOk X pins (upd H2 s2.heap.objs.size (.lst [])) b := fun b hb => ⟨by rw [upd_ne (Nat.ne_of_lt (fpo b hb))]; exact (f2 b hb).1, (f2 b hb).2⟩
  have loop : ∀ s4 : Shared, s4.heap = h₁ → s4.os = s2.os → s4.gens = s2.gens →
      codeAny (model X.prog X.w) X.A (.compLoop (.ListComp elt [⟨tg, iter, ifs, 0⟩] scope pos) 0 (.ref it) (.ref s2.heap.objs.size) (compEnvC scope cl (s2.heap.push { cls := .type "list", dict := none, data := .seq ([] : List Value).toArray }).objs.size X.env))
        (RR (.ref s2.heap.objs.size) (s2.heap.push { cls := .type "list", dict := none, data := .seq ([] : List Value).toArray }).objs.size) s4 := by
    intro s4 e1 e2 e3
    have I4 := inv_comp (s4 := s4) c I3 f3 (fun b hb => by rw [Heap.size_push]; exact Nat.lt_succ_of_lt (fpo b hb)) (fun b o e => by rw [e1]; exact keep b o e) e2 e3 (m := _) (by rw [e1]; exact hns₁)
    have f4 : ∀ b ∈ fp, FpOk (X.comp scope cl (capN X.N locs caps) fp { s2 with heap := s2.heap.push { cls := .type "list", dict := none, data := .seq ([] : List Value).toArray }, toks := s2.toks } (upd H2 s2.heap.objs.size (.lst []))) [] (upd H2 s2.heap.objs.size (.lst [])) b := fun b hb =>
      ⟨(f3 b hb).1, (I4.ok.exf b hb).1, I4.ok.exfs b hb, .inl hb, (I4.ok.exf b hb).2, fun p hp => absurd hp (by simp)⟩
    refine codeAny_mono (comp_run (X := X.comp scope cl (capN X.N locs caps) fp _ _) (D := s2.heap.objs.size) rfl hcalm (hg fp _ _) (hc fp _ _) (he fp _ _) T I4 (by rw [e1]; exact T.keep 0 _ _ st2 fun b hb o e => keep b o (Heap.get?_push_of_some _ e)) f4 (hl _ hD)) fun r s' ⟨hr, σ', H', I', q⟩ => ?_
    subst hr
    have IX : Inv X pins σ H' s' := I3.call' (ch := fp) I'.os I'.base I'.hok I'.bare fun b hb => ⟨(f3 b hb).2.2.2.1, (f3 b hb).2.1, (f3 b hb).2.2.2.2.1, (f3 b hb).2.2.2.2.2⟩
    obtain ⟨m, hn, _⟩ := I'.loc
    refine hRR _ _ m s' H' hn I'.free ?_ (Nat.le_trans I3.sz (Nat.le_refl _)) (fun x k e => ?_) (fun p hp => ?_) IX q
    · exact Nat.ne_of_gt I3.lt
    · obtain ⟨v, o, ho, _⟩ := I3.cell x k e
      exact Nat.ne_of_lt (Heap.lt_size ho)
    · exact Nat.ne_of_lt (Heap.lt_size (I3.pin p hp).1)
  exact codeAny_compStart_list (loop _ rfl rfl rfl) (T.self _ 0 _ _ _ (T.keep 0 _ _ st2 fun b hb o e => keep b o (Heap.get?_push_of_some _ e)) (loop _ rfl rfl rfl))
theorem same_turned {pins : List (Addr × Obj)} {σ : St} {H : Hp} {s : Shared} {h' : Heap} {C : Addr} (I : Inv X pins σ H s) (hs : Heap.SameBut C s.heap h') (n : H C = none) (nL : C ≠ X.env.locals) (lo : X.s₀.heap.objs.size ≤ C) (nC : ∀ x k, X.env.cells.lookup x = some k → k ≠ C)
    (nP : ∀ p ∈ X.pn ++ pins, p.1 ≠ C) : Inv X pins σ H { s with heap := h' } := I.turned (t' := s.toks) (it := C) (fun b o hb e => (hs.2 b hb).trans e) n nL (.inr lo) nC nP
theorem pe_comp (hcalm : X.calm = true) (c : CompOk X scope cl locs caps) (hi : PI X tg iter wi) (hg : ∀ fp s3 H3, PG (X.comp scope cl (capN X.N locs caps) fp s3 H3) tg g) (hc : ∀ fp s3 H3, PTs (X.comp scope cl (capN X.N locs caps) fp s3 H3) ifs tc)
    (he : ∀ fp s3 H3, PE (X.comp scope cl (capN X.N locs caps) fp s3 H3) elt te) (hs : ∀ x, foldedSetIterable iter X.env x = pure x := by intro _; rfl) : PE X (.ListComp elt [⟨tg, iter, ifs, 0⟩] scope pos) (tComp wi locs caps g tc te) := by
  intro pins s σ H Q I h
  rw [eval_ListComp]
  refine wpAny_comprehension_free (use := none) rfl hs c.clos c.kind c.names (thn (hi pins s σ H _ I h) fun x s1 h1 => thn h1 fun itv s2 h2 => ?_)
  obtain ⟨it, fp, tn, J, H2, e, I2, T, st2, f2, hl⟩ := h2
  subst e
  refine comp_block (M := model X.prog X.w) (RR := fun acc C => compPost (model X.prog X.w) X.A X.xe none (EP X pins σ Q) acc C) hcalm c hg hc he I2 T st2 f2 hl ?_
  intro D C m s' H' hn n nL lo nC nP IX q
  exact ⟨m, hn, fun h' hs' => ⟨.ref D, H', same_turned IX hs' n nL lo nC nP, rfl, q⟩⟩
theorem ps_setc {i : Nat} {y : Str} {py spos : Pos} (hcalm : X.calm = true) (c : CompOk X scope cl locs caps) (hi : PI X tg iter wi) (hg : ∀ fp s3 H3, PG (X.comp scope cl (capN X.N locs caps) fp s3 H3) tg g)
    (hc : ∀ fp s3 H3, PTs (X.comp scope cl (capN X.N locs caps) fp s3 H3) ifs tc) (he : ∀ fp s3 H3, PE (X.comp scope cl (capN X.N locs caps) fp s3 H3) elt te) (hN : X.N.Nodup) (hy : X.N[i]? = some y) (hx : Loc X.env.scope y)
    (hsw : swapsWith (.ListComp elt [⟨tg, iter, ifs, 0⟩] scope pos) (some (.Name y py)) spos.line X.env = pure true := by rfl) (hf : X.fn y = true ∨ X.env.scope.names.lookup y = some .local := by first | exact .inl rfl | exact .inr rfl | assumption)
    (hs : ∀ x, foldedSetIterable iter X.env x = pure x := by intro _; rfl) : PS X (.Assign [.Name y py] (.ListComp elt [⟨tg, iter, ifs, 0⟩] scope pos) spos) (tAsg (tComp wi locs caps g tc te) (gName i)) := by
  intro pins s σ H D I h
  rw [exec_Assign_Name_used _ _ _ _ hsw]
  refine wpAny_bind (wpAny_standAt (wpAny_bind ?_))
  show wpAny _ X.A (do let _ ← comprehension (.ListComp elt [⟨tg, iter, ifs, 0⟩] scope pos) scope X.env _ (newList []) false (eval iter X.env) (some (assign (.Name y py) X.env))) _ _ s
  refine wpAny_bind (wpAny_mono (wpAny_comprehension_free (use := some (assign (.Name y py) X.env)) (Q := fun _ s' => SP X pins D .next s') rfl hs c.clos c.kind c.names (thn (hi pins s σ H _ I h) fun x s1 h1 => thn h1 fun itv s2 h2 => ?_)) (fun _ s' hq => wpAny_pure (wpAny_pure hq)) fun _ _ e => e)
  obtain ⟨it, fp, tn, J, H2, e, I2, T, st2, f2, hl⟩ := h2
  subst e
  refine comp_block (M := model X.prog X.w) (Q := fun v H' => D.nx (σ.set i (some v)) H') (RR := fun acc C => compPost (model X.prog X.w) X.A X.xe (some (assign (.Name y py) X.env)) (fun _ s' => SP X pins D .next s') acc C) hcalm c hg hc he I2 T st2 f2 hl ?_
  intro D' C m s' H' hn n nL lo nC nP IX q
  show wpAny _ X.A (assign (.Name y py) X.env (.ref D')) _ _ s'
  refine wpAny_assign_Name (store_ok2 IX hN hy hx (v := .ref D') rfl (fun s5 I5 ⟨a, hsb, ha⟩ => ⟨m, hn.sameBut hsb ?_, fun h' hs' => ⟨_, H', same_turned I5 hs' n nL lo nC nP, q⟩⟩) hf)
  rcases ha with rfl | ha
  · exact nL
  · exact (nC _ _ ha).symm
end
end L2

set_option Elab.async false
set_option linter.all false
set_option maxRecDepth 100000
namespace L2
open PySem PySem.Spec PyProof.Rows

noncomputable def eqVs : List V → List V → Bool
  | [], [] => true
  | x :: xs, y :: ys => eqV x y && eqVs xs ys
  | _, _ => false
noncomputable def flatVs (xs : List V) : Prop := ∀ x ∈ xs, flatV x = true
theorem flat_ints (ns : List Int) : flatVs (ns.map V.int) := fun x hx => by
  obtain ⟨n, _, rfl⟩ := List.mem_map.mp hx
  rfl
theorem eqVs_len : ∀ {xs ys : List V}, xs.length ≠ ys.length → eqVs xs ys = false
  | [], [], h => absurd rfl h
  | [], _ :: _, _ => rfl
  | _ :: _, [], _ => rfl
  | x :: xs, y :: ys, h => by
    show (eqV x y && eqVs xs ys) = false
    rw [eqVs_len (xs := xs) (ys := ys) (by simpa using h), Bool.and_false]
theorem eqVs_ints : ∀ (ns ms : List Int), eqVs (ns.map V.int) (ms.map V.int) = decide (ns = ms)
  | [], [] => rfl
  | [], _ :: _ => rfl
  | _ :: _, [] => rfl
  | n :: ns, m :: ms => by
    show ((n == m) && eqVs (ns.map V.int) (ms.map V.int)) = decide (n :: ns = m :: ms)
    rw [eqVs_ints ns ms]
    by_cases h : n = m
    · subst h
      by_cases h2 : ns = ms
      · subst h2; simp
      · simp [h2]
    · simp [h]
theorem eqVs_all : ∀ (xs ys : List V), xs.length = ys.length → (List.range xs.length).all (fun j => eqV (xs.getD j .non) (ys.getD j .non)) = eqVs xs ys
  | [], [], _ => rfl
  | [], _ :: _, h => by simp at h
  | _ :: _, [], h => by simp at h
  | x :: xs, y :: ys, h => by
    have ih := eqVs_all xs ys (by simpa using h)
    show (List.range (xs.length + 1)).all _ = (eqV x y && eqVs xs ys)
    rw [← ih, List.range_succ_eq_map, List.all_cons, List.all_map]
    congr 1
theorem Vals.getD {xs : List V} {us : List Value} (r : Vals xs us) {j : Nat} (h : j < us.length) : RelV (xs.getD j .non) us[j] := by
  have hx : j < xs.length := by rw [r.length]; exact h
  obtain ⟨u, e, q⟩ := r.get (i := j) (x := xs[j]) (by simp [hx])
  rw [List.getElem?_eq_getElem h] at e
  cases e
  rw [List.getD_eq_getElem?_getD, List.getElem?_eq_getElem hx]
  exact q
theorem flat_getD {xs : List V} (h : flatVs xs) (j : Nat) : flatV (xs.getD j .non) = true := by
  rw [List.getD_eq_getElem?_getD]
  cases e : xs[j]? with
  | none => rfl
  | some x => exact h x (List.mem_of_getElem? e)
section
variable {X : Cx}
noncomputable def rEqL (K : PySem.W.Frag) : R2 := fun x y H Q => ∃ a b xs ys, x = .ref a ∧ y = .ref b ∧ SqL K H a xs ∧ SqL K H b ys ∧ flatVs xs ∧ flatVs ys ∧ Q (.bl (eqVs xs ys)) H
theorem op_eqL (hu : X.A.units < cLine) : OpR X (compareOp .Eq) (rEqL X.K) := by
  intro pins s σ H x y v u Q I rx ry h
  obtain ⟨a, b, xs, ys, rfl, rfl, ha, hb, fx, fy, q⟩ := h
  cases rx; cases ry
  obtain ⟨its, ra, pa, _⟩ := I.list ha
  obtain ⟨jts, rb, pb, _⟩ := I.list hb
  have l1 : s.heap.IsList a its.toArray := by
    obtain ⟨o, n, e, c, _, d⟩ := pa
    exact ⟨o, e, c, n, d⟩
  have l2 : s.heap.IsList b jts.toArray := by
    obtain ⟨o, n, e, c, _, d⟩ := pb
    exact ⟨o, e, c, n, d⟩
  by_cases hz : xs.length = ys.length
  · have hz' : its.toArray.size = jts.toArray.size := by
      simp only [List.size_toArray]; rw [← ra.length, ← rb.length]; exact hz
    refine SeqAt.eq_listAt l1 l2 hz' hu (e := fun j => eqV (xs.getD j .non) (ys.getD j .non)) (fun j h1 h2 => ?_) ?_
    · exact eqAt_V (ra.getD (by simpa using h1)) (rb.getD (by simpa using h2)) (flat_getD fx j) (flat_getD fy j)
    · refine ⟨.bl _, H, I, ?_, q⟩
      show _ = _
      rw [List.size_toArray, ← ra.length, eqVs_all xs ys hz]
  · refine SeqAt.eq_list_lengthsAt l1 l2 ?_ hu ⟨.bl _, H, I, ?_, q⟩
    · simp only [List.size_toArray, bne_iff_ne]; rw [← ra.length, ← rb.length]; exact hz
    · show _ = _
      rw [eqVs_len hz]
theorem call_sortedL : CallR X (.builtin "sorted") (fun xs H Q => ∃ (a : Addr) (ns : List Int), xs = [.ref a] ∧ SqL X.K H a (ns.map V.int) ∧ ns.length < 64 ∧ ∀ (p : Addr) (ns' : List Int), H p = none → ns'.Perm ns → ns'.Pairwise (· ≤ ·) → Q (.ref p) (upd H p (.lst (ns'.map V.int)))) := by
  intro pins s σ H xs us Q I r h
  obtain ⟨a, ns, rfl, ha, hz, q⟩ := h
  obtain ⟨u, rfl, ru⟩ := vals1 r
  cases ru
  obtain ⟨its, ra, pa, _⟩ := I.list ha
  have l1 : s.heap.IsList a its.toArray := by
    obtain ⟨o, n, e, c, _, d⟩ := pa
    exact ⟨o, e, c, n, d⟩
  have hl : its.length < 64 := by rw [← ra.length, List.length_map]; exact hz
  refine sorted_ints l1 (intsAre_of ra) hl fun out ns' hi hp hs => ?_
  have fr : H (s.heap.objs.size + 1) = none := I.hok.fresh (Nat.le_succ _)
  obtain ⟨e, he⟩ := sortedAll_at s.heap its out
  have hz' : ns'.length ≤ sizeLine := by rw [hp.length_eq]; exact Nat.le_trans (Nat.le_of_lt hz) (by decide)
  refine ⟨.ref (s.heap.objs.size + 1), upd H (s.heap.objs.size + 1) (.lst (ns'.map V.int)), I.laid (t' := s.toks) (fun b o e => sortedAll_old e) (Nat.le_succ _) ?_, rfl, q _ ns' fr hp hs⟩
  exact ⟨by rw [List.length_map]; exact hz', out.toList, e, vals_ints hi, he⟩
end
end L2

set_option Elab.async false
set_option linter.all false
set_option maxRecDepth 100000
namespace L2
open PySem PySem.Spec PyProof.Rows

section
variable {X : Cx} {e v1 v2 : Expr} {es : List Expr} {te : TE} {t : TJ} {pos : Pos}
end
end L2

set_option Elab.async false
set_option linter.all false
set_option maxRecDepth 100000
namespace L2
open PySem PySem.Spec PyProof.Rows
section
variable {prog : Program} {w : World} {A : Around} {E : Value → Shared → Prop} {K : PySem.W.Frag} {a C : Addr}
end
noncomputable def ClsV : V → Value → Prop
  | .ref c, v => v = .ref c
  | .ty n, v => v = .type n
  | _, _ => False
section
variable {X : Cx}
end
end L2
namespace L2
open PySem PySem.Spec PyProof.Rows
theorem kit_same (K : PySem.W.Frag) (t : Value) : PySem.W.kitOne K t t = some true := by unfold PySem.W.kitOne; rw [if_pos (beq_self_eq_true t)]
theorem kit_int_bool (K : PySem.W.Frag) : PySem.W.kitOne K (.type "int") (.type "bool") = some false := by
  unfold PySem.W.kitOne
  rw [if_neg (by decide +kernel)]
  kernel_rfl
end L2

set_option Elab.async false
set_option linter.all false
set_option maxRecDepth 100000
namespace L2
open PySem PySem.Spec PyProof.Rows
theorem cl_range {D : Addr} {lo : Int} {n : Nat} {g : TG} {tc : TT} {te : TE} {Q : Hp → Prop} {σ0 : St} {H0 : Hp} (Pv : Nat → St → Hp → Prop) (h0 : Pv 0 σ0 H0)
    (hs : ∀ i σ H, i < n → Pv i σ H → g (.int (lo + i)) σ H fun σ2 H2 => tc σ2 H2 fun b H3 => if b = true then te σ2 H3 fun y H4 => ∃ xs, H4 D = some (.lst xs) ∧ xs.length < sizeLine ∧ Pv (i + 1) σ2 (upd H4 D (.lst (xs ++ [y]))) else Pv (i + 1) σ2 H3)
    (hd : ∀ σ H, Pv n σ H → Q H) : cLoop D g tc te (Itr lo n) Q σ0 H0 := by
  refine ⟨fun i m σ H => m = n - i ∧ i ≤ n ∧ Pv i σ H, ⟨n, by simp, Nat.zero_le _, h0⟩, ?_⟩
  rintro i m σ H ⟨rfl, hi, p⟩
  by_cases hlt : i < n
  · refine .inr ⟨hlt, Pv (i + 1), fun σ' H' p' => ⟨n - (i + 1), Nat.sub_succ_lt_self _ _ hlt, rfl, hlt, p'⟩, fun x H' y => ?_⟩
    obtain ⟨e, y⟩ := y
    subst e y
    exact hs i σ _ hlt p
  · have e : i = n := by omega
    subst e
    exact .inl ⟨Nat.le_refl _, hd σ H p⟩
theorem cl_list {K : PySem.W.Frag} {D a : Addr} {xs : List V} {g : TG} {tc : TT} {te : TE} {Q : Hp → Prop} {σ0 : St} {H0 : Hp} (Pv : Nat → St → Hp → Prop) (h0 : Pv 0 σ0 H0) (hl : ∀ i σ H, i ≤ xs.length → Pv i σ H → SqL K H a xs)
    (hs : ∀ i x σ H, xs[i]? = some x → Pv i σ H → g x σ H fun σ2 H2 => tc σ2 H2 fun b H3 => if b = true then te σ2 H3 fun y H4 => ∃ xs, H4 D = some (.lst xs) ∧ xs.length < sizeLine ∧ Pv (i + 1) σ2 (upd H4 D (.lst (xs ++ [y]))) else Pv (i + 1) σ2 H3)
    (hd : ∀ σ H, Pv xs.length σ H → Q H) : cLoop D g tc te (Itl K a) Q σ0 H0 := by
  refine ⟨fun i m σ H => m = xs.length - i ∧ i ≤ xs.length ∧ Pv i σ H, ⟨xs.length, by simp, Nat.zero_le _, h0⟩, ?_⟩
  rintro i m σ H ⟨rfl, hi, p⟩
  have q := hl i σ H hi p
  by_cases hlt : i < xs.length
  · refine .inr ⟨⟨xs, xs[i], q, by simp [hlt]⟩, Pv (i + 1), fun σ' H' p' => ⟨xs.length - (i + 1), Nat.sub_succ_lt_self _ _ hlt, rfl, hlt, p'⟩, fun x H' y => ?_⟩
    obtain ⟨e, y⟩ := y
    subst e
    exact hs i x σ _ (y xs q) p
  · have e : i = xs.length := by omega
    subst e
    exact .inl ⟨⟨xs, q, Nat.le_refl _⟩, hd σ H p⟩
theorem bt_list : bootBuiltins "list" = some (.type "list") := by decide +kernel
theorem bt_int : bootBuiltins "int" = some (.type "int") := by decide +kernel
theorem bt_bool : bootBuiltins "bool" = some (.type "bool") := by decide +kernel
theorem bt_tuple : bootBuiltins "tuple" = some (.type "tuple") := by decide +kernel
theorem bt_set : bootBuiltins "set" = some (.type "set") := by decide +kernel
theorem bt_len : bootBuiltins "len" = some (.builtin "len") := by decide +kernel
theorem bt_min : bootBuiltins "min" = some (.builtin "min") := by decide +kernel
theorem bt_sorted : bootBuiltins "sorted" = some (.builtin "sorted") := by decide +kernel
theorem bt_isinstance : bootBuiltins "isinstance" = some (.builtin "isinstance") := by decide +kernel
theorem bt_enumerate : bootBuiltins "enumerate" = some (.type "enumerate") := by decide +kernel
end L2

set_option Elab.async false
set_option linter.all false
set_option maxRecDepth 100000
namespace L2
open PySem PySem.Spec PyProof.Rows
section
variable {X : Cx} (K : PySem.W.Frag)
theorem ixL (h : X.K = K := by rfl) : IxR X (rIxL K) := by subst h; exact ix_list
theorem ixT (h : X.K = K := by rfl) : IxR X (rIxT K) := by subst h; exact ix_tup
theorem lenK (h : X.K = K := by rfl) : CallR X (.builtin "len") (fun xs H Q => ∃ p ys, xs = [.ref p] ∧ (SqL K H p ys ∨ SqT K H p ys) ∧ Q (.int ys.length) H) := by subst h; exact call_len_seq
theorem inK (h : X.K = K := by rfl) : OpR X (compareOp .In) (rIn K false) := by subst h; exact op_in_seq
theorem notinK (h : X.K = K := by rfl) : OpR X (compareOp .NotIn) (rIn K true) := by subst h; exact op_notIn_seq
theorem sortedK (h : X.K = K := by rfl) : CallR X (.builtin "sorted") (fun xs H Q => ∃ (a : Addr) (ns : List Int), xs = [.ref a] ∧ SqL K H a (ns.map V.int) ∧ ns.length < 64 ∧ ∀ (p : Addr) (ns' : List Int), H p = none → ns'.Perm ns → ns'.Pairwise (· ≤ ·) → Q (.ref p) (upd H p (.lst (ns'.map V.int)))) := by subst h; exact call_sortedL
theorem eqLK (hu : X.A.units < cLine) (h : X.K = K := by rfl) : OpR X (compareOp .Eq) (rEqL K) := by subst h; exact op_eqL hu
theorem fldK {e : Expr} {f : Str} {pos : Pos} {ta : TE} (he : PE X e ta) (hb : attributeBase e f X.env (eval e X.env) = eval e X.env := by rfl) (h : X.K = K := by rfl) : PE X (.Attribute e f pos) (tFld K ta f) := by subst h; exact pe_fld he hb
end
end L2

set_option Elab.async false
set_option linter.all false
set_option maxRecDepth 100000
namespace L2
open PySem PySem.Spec PyProof.Rows

section
variable {X : Cx} {pins : List (Addr × Obj)} {σ : St} {H : Hp} {s : Shared}
theorem Inv.turned_laid {h' : Heap} {t' : Nat} {ch : List Addr} {a : Addr} {o : HO} (I : Inv X pins σ H s) (hch : ∀ b ∈ ch, FpOk X pins H b) (k : ∀ b u, b ∉ ch → s.heap.get? b = some u → h'.get? b = some u)
    (hp : ∀ b u, s.heap.get? b = some u → b ≠ a) (new : ObjOk X.prog X.w (upd H a o) h' a o) : Inv X pins σ (upd H a o) { s with heap := h', toks := t' } := by
  have hn : H a = none := by
    cases e : H a with
    | none => rfl
    | some u =>
      obtain ⟨ob, q⟩ := (I.hok a u e).obj
      exact absurd rfl (hp a ob q)
  have nch : ∀ b u, H b = some u → b ∉ ch := fun b u e z => by rw [(hch b z).1] at e; cases e
  refine I.step (g' := s.gens) (d' := s.drawn) (ch := ch) (fun b hb => ?_) (fun b u _ _ hc e _ => k b u hc e) (fun b u _ _ hc e _ => ⟨u.slots, k b u hc e⟩) (fun b u hc e n => ?_)
    (fun b u hc e => ⟨u, k b u hc e⟩) (fun b xs e => by rw [upd_ne (ne_of_none e hn)]; exact e) (fun b u v e => by rw [upd_ne (ne_of_none e hn)]; exact e) (fun b ps e => ⟨#[], by rw [upd_ne (ne_of_none e hn), e]; simp⟩) (fun m hm => ?_) (fun b u e => ?_) I.bare
  · obtain ⟨_, f1, _, f3, f4, f5⟩ := hch b hb
    exact ⟨f3, f1, f4, f5⟩
  · rw [upd_ne (hp b u e)]; exact n
  · obtain ⟨ob, es, ep, ho, r⟩ := hm
    exact ⟨ob, es, ep, k _ ob (fun z => (hch _ z).2.1 rfl) ho, r⟩
  · by_cases hb : b = a
    · subst hb; rw [upd_same] at e; cases e; exact new
    · rw [upd_ne hb] at e
      refine (I.hok b u e).stay (fun c v hc q => k c v ?_ q) (fun c q => by rw [upd_ne (ne_of_none q hn)]; exact q) fun c xs q => by rw [upd_ne (ne_of_none q hn)]; exact q
      rcases hc with z | z
      · rw [z]; exact nch b u e
      · exact nch c _ z
end
noncomputable def Ite (K : PySem.W.Frag) (a : Addr) : It :=
  ⟨fun i H => ∃ xs x, SqL K H a xs ∧ xs[i]? = some x,
   fun i H x H' => ∃ t y, H t = none ∧ x = .ref t ∧ (∀ xs, SqL K H a xs → xs[i]? = some y) ∧ H' = upd H t (.tup [.int (i : Nat), y]),
   fun i H => ∃ xs, SqL K H a xs ∧ xs.length ≤ i⟩
theorem turn_enum {P : Program} {w : World} {K : PySem.W.Frag} {elts : List Expr} {x1} {tp : Pos} (a e it : Addr) (hei : e ≠ it) :
    Turn P w K (.Tuple elts x1 tp) (Ite K a) [e, it] e (fun i h => (∃ old, IsEnum h e it (i : Nat) old) ∧ h.IsListIter it a i) where
  mem := by simp
  obj := fun i h st b hb => by
    obtain ⟨⟨old, he⟩, o, ho, hc, hd⟩ := st
    rcases List.mem_cons.mp hb with rfl | hb
    · exact ⟨_, he, fun v z => by cases z⟩
    · have q : b = it := by simpa using hb
      subst q
      exact ⟨o, ho, fun v z => by rw [hd] at z; cases z⟩
  keep := fun i h h' st k => by
    obtain ⟨⟨old, he⟩, hit⟩ := st
    exact ⟨⟨old, k e (by simp) _ he⟩, hit.at fun o q => k it (by simp) o q⟩
  item := by
    intro X hP hw hK hc i pins s σ H E I hf st hg
    subst hP hw hK
    obtain ⟨xs, x, hq, hx⟩ := hg
    obtain ⟨its, rv, p, hz⟩ := I.list hq
    obtain ⟨u, hu, ru⟩ := rv.get hx
    obtain ⟨⟨old, he⟩, hit⟩ := st
    have helt : e < s.heap.objs.size := Heap.lt_size he
    have hilt : it < s.heap.objs.size := by obtain ⟨_, q, _⟩ := hit; exact Heap.lt_size q
    refine wpAny_pyNext_enum_item he hit p.isList (x := u) (by simpa using hu) hei fun h' ho hit' hT hsz hk => ?_
    refine ⟨_, rfl, wpAny_letOwnedTupleGo_enum (s := { s with heap := h', toks := s.toks + 1 }) ho fun h2 he2 hs2 => ?_⟩
    have hs2 : Heap.SameBut e h' h2 := hs2
    have kk : ∀ b o, b ∉ [e, it] → s.heap.get? b = some o → h2.get? b = some o := fun b o hb q => by
      have hbe : b ≠ e := fun z => hb (by simp [z])
      have hbi : b ≠ it := fun z => hb (by simp [z])
      exact (hs2.2 b hbe).trans (hk b o hbe hbi q)
    have I1 := I.turned_laid (a := s.heap.objs.size) (o := .tup [.int (i : Nat), x]) (h' := h2) (t' := s.toks + 1) hf kk (fun b u q => Nat.ne_of_lt (Heap.lt_size q))
      ⟨by show 2 ≤ sizeLine; decide, [.int (i : Nat) s.toks, u], .cons ⟨_, rfl⟩ (.cons ru .nil), _, (hs2.2 _ (Nat.ne_of_gt helt)).trans hT, rfl, _, rfl⟩
    refine ⟨.ref s.heap.objs.size, _, I1, rfl, ⟨_, x, I.hok.fresh (Nat.le_refl _), rfl, fun ys hy => by rw [I.list_inj hy hq]; exact hx, rfl⟩, ⟨⟨_, by simpa using he2⟩, hit'.extBut hs2.extBut hei.symm⟩, fun b hb => ?_⟩
    have hbl : b < s.heap.objs.size := by
      rcases List.mem_cons.mp hb with rfl | hb
      · exact helt
      · rw [show b = it by simpa using hb]; exact hilt
    rw [upd_ne (Nat.ne_of_lt hbl)]
    exact (hf b hb).1
  done := by
    intro X hP hw hK hc i pins s σ H E I hf st hg
    subst hP hw hK
    obtain ⟨xs, hq, hx⟩ := hg
    obtain ⟨its, rv, p, hz⟩ := I.list hq
    obtain ⟨⟨old, he⟩, hit⟩ := st
    obtain ⟨f0, f1, f2, f3, f4, f5⟩ := hf it (by simp)
    have hl := rv.length
    exact wpAny_pyNext_enum_end (I.ok.hd hc) he hit p.isList (by simp; omega) fun h' eb => ⟨rfl, I.turned (t' := s.toks) (fun b o hb e => eb b o hb e) f0 f1 f3 f4 f5⟩
  self := fun _ _ _ _ _ st h => by
    obtain ⟨⟨old, he⟩, _⟩ := st
    exact wpAny_pyIter_enum he h
noncomputable def iEnum (K : PySem.W.Frag) (ta : TA) : TI := fun σ H R => ta σ H fun vs H1 => ∃ a, vs = [.ref a] ∧ (∃ xs, SqL K H1 a xs) ∧ R (Ite K a) H1
theorem pi_enum {X : Cx} {elts : List Expr} {x1} {tp : Pos} {l : Expr} {ta : TA} {p pos : Pos} (hg : Gl X "enumerate") (hm : X.mg "enumerate" = none) (ha : PA X [l] ta) (hs : starEach [l] X.env = [(false, eval l X.env)] := by rfl) :
    PI X (.Tuple elts x1 tp) (.Call (.Name "enumerate" p) [l] [] pos) (iEnum X.K ta) := by
  intro pins s σ H R I h
  refine Call_ (ld_blt I hg hm bt_enumerate (PyProof.Rows.callWith_type1 (thn (ha pos pins s σ H _ I h) fun us s1 zz => ?_) hs rfl))
  obtain ⟨vs, H1, I1, r1, q1⟩ := zz
  obtain ⟨a, e, ⟨xs, hq⟩, q⟩ := q1
  subst e
  obtain ⟨u, rfl, ru⟩ := vals1 r1
  cases ru
  obtain ⟨its, rv, pl, hz⟩ := I1.list hq
  refine call_enumerate_list pl.isList fun h' he hit hsz hk => ?_
  have I2 : Inv X pins σ H1 { s1 with heap := h' } := I1.kept (t' := s1.toks) hk
  refine wpAny_pyIter_enum (s := { s1 with heap := h' }) he ?_
  refine ⟨s1.heap.objs.size + 1, [s1.heap.objs.size + 1, s1.heap.objs.size], _, _, H1, rfl, I2, turn_enum a _ _ (Nat.ne_of_gt (Nat.lt_succ_self _)), ⟨⟨_, he⟩, hit⟩, fun b hb => ?_, q⟩
  have hb' : s1.heap.objs.size ≤ b := by
    rcases List.mem_cons.mp hb with rfl | hb
    · exact Nat.le_succ _
    · rw [show b = s1.heap.objs.size by simpa using hb]; exact Nat.le_refl _
  exact I1.fpOk hb' (I1.hok.fresh hb')
theorem cl_enum {K : PySem.W.Frag} {D a : Addr} {xs : List V} {g : TG} {tc : TT} {te : TE} {Q : Hp → Prop} {σ0 : St} {H0 : Hp} (Pv : Nat → St → Hp → Prop) (h0 : Pv 0 σ0 H0) (hl : ∀ i σ H, i ≤ xs.length → Pv i σ H → SqL K H a xs)
    (hs : ∀ i y σ H t, xs[i]? = some y → Pv i σ H → H t = none → g (.ref t) σ (upd H t (.tup [.int (i : Nat), y])) fun σ2 H2 => tc σ2 H2 fun b H3 => if b = true then te σ2 H3 fun y H4 => ∃ xs, H4 D = some (.lst xs) ∧ xs.length < sizeLine ∧ Pv (i + 1) σ2 (upd H4 D (.lst (xs ++ [y]))) else Pv (i + 1) σ2 H3)
    (hd : ∀ σ H, Pv xs.length σ H → Q H) : cLoop D g tc te (Ite K a) Q σ0 H0 := by
  refine ⟨fun i m σ H => m = xs.length - i ∧ i ≤ xs.length ∧ Pv i σ H, ⟨xs.length, by simp, Nat.zero_le _, h0⟩, ?_⟩
  rintro i m σ H ⟨rfl, hi, p⟩
  have q := hl i σ H hi p
  by_cases hlt : i < xs.length
  · refine .inr ⟨⟨xs, xs[i], q, by simp [hlt]⟩, Pv (i + 1), fun σ' H' p' => ⟨xs.length - (i + 1), Nat.sub_succ_lt_self _ _ hlt, rfl, hlt, p'⟩, fun x H' y => ?_⟩
    obtain ⟨t, y, ht, rfl, hy, rfl⟩ := y
    exact hs i y σ H t (hy xs q) p ht
  · have e : i = xs.length := by omega
    subst e
    exact .inl ⟨⟨xs, q, Nat.le_refl _⟩, hd σ H p⟩
noncomputable def manyOf (ns : List Int) : Nat := (firstMet (fun i => ns.getD i 0) ns.length).length
theorem manyOf_nodup {ns : List Int} (h : ns.Nodup) : manyOf ns = ns.length := by
  have f : ∀ m, m ≤ ns.length → firstMet (fun i => ns.getD i 0) m = ns.take m := by
    intro m
    induction m with
    | zero => intro _; simp [firstMet_zero]
    | succ m ih =>
      intro hm
      rw [firstMet_succ, ih (by omega)]
      unfold step_dedup
      have e : ns.getD m 0 = ns[m] := by simp [show m < ns.length by omega]
      rw [if_neg, e]
      · rw [List.take_succ, List.getElem?_eq_getElem (by omega)]; rfl
      · rw [e]
        intro z
        obtain ⟨x, hx, q⟩ := List.any_eq_true.mp z
        have q : x = ns[m] := by simpa using q
        subst q
        obtain ⟨j, hj, ej⟩ := List.mem_take_iff_getElem.mp hx
        have := (List.getElem_inj h).mp ej
        (clear ih e z q ej; omega)
  unfold manyOf
  rw [f ns.length (Nat.le_refl _), List.take_length]
section
variable {X : Cx}
theorem call_setL (hc : X.calm = true) : CallR X (.type "set") (fun xs H Q => ∃ (a : Addr) (ns : List Int), xs = [.ref a] ∧ SqL X.K H a (ns.map V.int) ∧ ns.length < 1000 ∧ ∀ (p : Addr) (S : Int → Bool), H p = none → Q (.ref p) (upd H p (.set S (manyOf ns)))) := by
  intro pins s σ H xs us Q I r h
  obtain ⟨a, ns, rfl, ha, hz, q⟩ := h
  obtain ⟨u, rfl, ru⟩ := vals1 r
  cases ru
  obtain ⟨its, ra, pa, _⟩ := I.list ha
  have hl : its.length = ns.length := by rw [← ra.length, List.length_map]
  refine PySem.call_set_list (items := its.toArray) (ns := ns) (I.ok.hd hc) pa.isList (by simpa using intsAre_of ra) (by rw [List.size_toArray, hl]; unfold scanBound; (clear hc hl; omega)) fun h' tk hS hk => ?_
  have fr : H s.heap.objs.size = none := I.hok.fresh (Nat.le_refl _)
  have e : its.toArray.size = ns.length := by rw [List.size_toArray, hl]
  rw [e] at hS
  exact ⟨.ref s.heap.objs.size, _, I.laid (t' := tk) (o := .set (fun k' => (firstMet (fun i => ns.getD i 0) ns.length).any fun x => x == k') (manyOf ns)) (fun b o e => hk b o (Heap.lt_size e) e) (Nat.le_refl _) hS, rfl, q _ _ fr⟩
theorem call_lenS : CallR X (.builtin "len") (fun xs H Q => ∃ (a : Addr) (S : Int → Bool) (n : Nat), xs = [.ref a] ∧ H a = some (.set S n) ∧ Q (.int n) H) := by
  intro pins s σ H xs us Q I r h
  obtain ⟨a, S, n, rfl, ha, q⟩ := h
  obtain ⟨u, rfl, ru⟩ := vals1 r
  cases ru
  obtain ⟨o, es, ep, t, ho, hex, hd, _, _, hb, hf, hn⟩ := (show s.heap.SetOf (intKind X.prog X.w) a S n from I.hok a _ ha)
  refine PySem.call_len_set ho hex hd hf (by unfold scanBound at hb; (clear hf hn; omega)) ⟨.int n, H, I.tok _, ⟨_, by rw [hn]⟩, q⟩
end

section
variable {X : Cx}
theorem keys_ints {P : Program} {w : World} {kvs : List (Int × V)} {vs : List (Key × Value)} (r : KV (kvs.map fun e => ((Sum.inl e.1 : Key), e.2)) vs) {us : List Value} (hl : us.length = vs.length)
    (h : ∀ (j : Nat) (v : Value), us[j]? = some v → ∃ k x, vs[j]? = some (k, x) ∧ (mixKind P w).is k v = true) : IntsAre us (kvs.map (·.1)) := by
  induction kvs generalizing vs us with
  | nil =>
    rw [List.map_nil] at r
    cases r
    cases us with
    | nil => exact .nil
    | cons _ _ => simp at hl
  | cons e kvs ih =>
    rw [List.map_cons] at r
    cases r with
    | @cons a b as bs h1 h2 =>
      cases us with
      | nil => simp at hl
      | cons u us =>
        obtain ⟨k, x, e1, e2⟩ := h 0 u rfl
        have e1 : b = (k, x) := by simpa using e1
        subst e1
        have hk : k = Sum.inl e.1 := h1.1.symm
        subst hk
        have e3 : keyIs (Sum.inl e.1) u = true := e2
        rcases keyIs_shape e3 with ⟨i, t, q1, q2⟩ | ⟨_, _, q1, _⟩
        · cases q1
          subst q2
          exact .cons _ _ (ih h2 (by simpa using hl) fun j v hv => h (j + 1) v (by simpa using hv))
        · cases q1
theorem call_sortedD (hc : X.calm = true) : CallR X (.builtin "sorted") (fun xs H Q => ∃ (a : Addr) (kvs : List (Int × V)), xs = [.ref a] ∧ H a = some (.dK (kvs.map fun e => ((Sum.inl e.1 : Key), e.2))) ∧ kvs.length < 64 ∧
    ∀ (p : Addr) (ns' : List Int), H p = none → ns'.Perm (kvs.map (·.1)) → ns'.Pairwise (· ≤ ·) → Q (.ref p) (upd H p (.lst (ns'.map V.int)))) := by
  intro pins s σ H xs us Q I r h
  obtain ⟨a, kvs, rfl, ha, hz, q⟩ := h
  obtain ⟨u, rfl, ru⟩ := vals1 r
  cases ru
  obtain ⟨_, hd, vs, rel, dd⟩ := dk_of I.hok ha
  obtain ⟨ep, hat⟩ := dd.dictAt
  have hvl : vs.length = kvs.length := by rw [← Paired.length rel, List.length_map]
  refine Calls.call_function_entry kind_sorted plain_sorted entry_sorted (args_sorted1 _) ?_
  unfold Builtin.«sorted»
  refine wpAny_bind (m := checkCount "sorted" 1 1 _) (wpAny_pure ?_)
  refine wpAny_bind (PySem.W.kdu_collect (A := X.A.in1) (PySem.W.kdl_dict (knd := mixKind X.prog X.w) (kvs := vs) (ep := ep) hd) (by simp [I.ok.hd hc]) hat (by rw [hvl, sizeLine_eq]; (clear hc hd hvl; omega)) fun h1 tk acc hk hacc => ?_)
  have hal : acc.toList.length = vs.length := by rw [Array.length_toList]; exact hacc.1
  have hI : IntsAre acc.toList (kvs.map (·.1)) := keys_ints (P := X.prog) (w := X.w) rel hal fun j v hv => hacc.2 j v (by rw [← Array.getElem?_toList]; exact hv)
  refine wpAny_bind (wpAny_newList ?_ (by rw [hal, hvl, sizeLine_eq]; (clear hc hd hvl hal; omega)))
  have hoL : (h1.push (seqObj "list" acc.toList.toArray 0)).get? h1.objs.size = some (seqObj "list" acc.toList.toArray 0) := Heap.get?_push_size _ rfl
  show wpAny _ _ _ _ _ { s with heap := h1.push (seqObj "list" acc.toList.toArray 0), toks := tk }
  refine wpAny_bind (wpAny_holding (wpAny_call_entry slot_list_sort ⟨_, hoL, rfl⟩ entry_list_sort (list_sort_tree hoL hI (by rw [hal, hvl]; exact hz) fun out ns' a1 a2 a3 => ⟨_, rfl, ?_⟩) (args_list_sort _)))
  refine wpAny_pure ⟨_, rfl, ?_⟩
  have hle : ∀ b u, s.heap.get? b = some u → b ≠ h1.objs.size := fun b u e => Nat.ne_of_lt (Heap.lt_size (hk b u e))
  have fr : H h1.objs.size = none := by
    cases e : H h1.objs.size with
    | none => rfl
    | some u =>
      obtain ⟨ob, q⟩ := (I.hok _ u e).obj
      exact absurd rfl (hle _ ob q)
  obtain ⟨e, he⟩ := sortedHeap_at (out := out) hoL
  have hz' : ns'.length ≤ sizeLine := by rw [a2.length_eq, List.length_map, sizeLine_eq]; (clear hc hd hvl hal; omega)
  refine ⟨.ref h1.objs.size, upd H h1.objs.size (.lst (ns'.map V.int)), I.turned_laid (ch := []) (t' := tk) (fun b hb => absurd hb (by simp)) (fun b o _ e => ?_) hle ?_, rfl, q _ ns' fr a2 a3⟩
  · have hb := hk b o e
    have hlt := Heap.lt_size hb
    rw [sortedHeap_old (Nat.ne_of_lt hlt) (by rw [size_push']; exact Nat.lt_succ_of_lt hlt), Heap.get?_push_ne _ _ _ (Nat.ne_of_lt hlt)]
    exact hb
  · exact ⟨by rw [List.length_map]; exact hz', out.toList, e, vals_ints a1, by simpa using he⟩
end
theorem sortedDK {X : Cx} (K : PySem.W.Frag) (hc : X.calm = true) : CallR X (.builtin "sorted") (fun xs H Q => ∃ (a : Addr) (kvs : List (Int × V)), xs = [.ref a] ∧ H a = some (.dK (kvs.map fun e => ((Sum.inl e.1 : Key), e.2))) ∧ kvs.length < 64 ∧
    ∀ (p : Addr) (ns' : List Int), H p = none → ns'.Perm (kvs.map (·.1)) → ns'.Pairwise (· ≤ ·) → Q (.ref p) (upd H p (.lst (ns'.map V.int)))) := call_sortedD hc
theorem setLK {X : Cx} (K : PySem.W.Frag) (hc : X.calm = true) (h : X.K = K := by rfl) : CallR X (.type "set") (fun xs H Q => ∃ (a : Addr) (ns : List Int), xs = [.ref a] ∧ SqL K H a (ns.map V.int) ∧ ns.length < 1000 ∧ ∀ (p : Addr) (S : Int → Bool), H p = none → Q (.ref p) (upd H p (.set S (manyOf ns)))) := by subst h; exact call_setL hc
theorem enumK {X : Cx} (K : PySem.W.Frag) {elts : List Expr} {x1} {tp : Pos} {l : Expr} {ta : TA} {p pos : Pos} (hg : Gl X "enumerate") (hm : X.mg "enumerate" = none) (ha : PA X [l] ta) (hs : starEach [l] X.env = [(false, eval l X.env)] := by rfl) (h : X.K = K := by rfl) :
    PI X (.Tuple elts x1 tp) (.Call (.Name "enumerate" p) [l] [] pos) (iEnum K ta) := by subst h; exact pi_enum hg hm ha hs
theorem tupK {X : Cx} (K : PySem.W.Frag) {es : List Expr} {k : Nat} {t : TGs} {n : Nat} {pos : Pos} (hc : X.calm = true) (h : PGs X es t) (hn : (assignEach es X.env).length = n := by rfl) (hst : (assignEach es X.env).findIdx? (·.1) = none := by rfl) (hK : X.K = K := by rfl) :
    PG X (.Tuple es k pos) (gTup K n t) := by subst hK; exact pg_tup hc h hn hst
end L2

set_option Elab.async false
set_option linter.all false
set_option maxRecDepth 100000
namespace L2
open PySem PySem.Spec PyProof.Rows
inductive Ty0 (K : PySem.W.Frag) (H : Hp) : V → Value → Prop where
  | ty {x : V} {t : Value} (h : TyOf K H x t) : Ty0 K H x t
section
variable {X : Cx}
noncomputable def rIs0 (K : PySem.W.Frag) : List V → Hp → VK → Prop := fun xs H Q => ∃ x c cv t b, xs = [x, c] ∧ ClsV c cv ∧ Ty0 K H x t ∧ PySem.W.kitOne K t cv = some b ∧ Q (.bl b) H
theorem call_isi0 : CallR X (.builtin "isinstance") (rIs0 X.K) := by
  intro pins s σ H xs us Q I r h
  obtain ⟨x, c, cv, t, b, rfl, hc, ⟨ty⟩, hk, q⟩ := h
  obtain ⟨u, v, rfl, rx, rc⟩ := vals2 r
  have ev : v = cv := by
    cases c with
    | ref a => exact (show v = .ref a from rc).trans (show cv = .ref a from hc).symm
    | ty n => exact (show v = .type n from rc).trans (show cv = .type n from hc).symm
    | _ => exact hc.elim
  subst ev
  exact isinst_ok I rx ty hk fun tk => ⟨.bl b, H, I.tok tk, rfl, q⟩
end
theorem isi0K {X : Cx} (K : PySem.W.Frag) (h : X.K = K := by rfl) : CallR X (.builtin "isinstance") (rIs0 K) := by subst h; exact call_isi0
end L2

set_option Elab.async false
set_option linter.all false
set_option maxRecDepth 100000
namespace L2
open PySem PySem.Spec PyProof.Rows
section
variable {X : Cx}
end
section
variable {X : Cx}
end
end L2

set_option Elab.async false
set_option linter.all false
set_option maxRecDepth 100000
namespace L2
open PySem PySem.Spec PyProof.Rows
section
variable {X : Cx}
end
end L2

set_option Elab.async false
set_option linter.all false
set_option maxRecDepth 100000
namespace L2
open PySem PySem.Spec PyProof.Rows
section
variable {prog : Program} {w : World} {A : Around} {E : Value → Shared → Prop} {s : Shared}
theorem lam_call {f c' t : Addr} {name qual x : Str} {params : Arguments} {scope : Scope} {p1 p2 p3 : Pos} {j : Nat} {pm ctv : Value} {its : List Value} {k : Int} {u : Tok} {Q : Value → Shared → Prop} (hroom : A.depth < recursionLimit) (hlim : s.heap.NoLimit)
    (ho : s.heap.get? f = some (PySem.W.kla_obj name qual params (.Subscript (.Name x p1) (.Constant (.int 0) j p2) p3) scope [] pm c' ctv)) (hcd : s.heap.CodeRec (.ref c') qual) (ht : IsTup s.heap t its.toArray) (h0 : its[0]? = some (.int k u))
    (hbind : bindArgs (PySem.W.kla_fn name qual params (.Subscript (.Name x p1) (.Constant (.int 0) j p2) p3) scope [] pm (.ref c') ctv) ⟨[.ref t], []⟩ = pure [(x, .ref t)]) (hloc : scope.names.lookup x = some .local) (hcell : ∀ y ∈ scope.names, y.2 ≠ .cell)
    (hco : scope.isCoroutine = false) (hgen : scope.isGenerator = false) (hk : scope.kind = .function) (hdb : (x == ("__debug__" : Str)) = false)
    (hq : ∀ h' tk, (∀ b o, s.heap.get? b = some o → h'.get? b = some o) → Q (.int k u) { s with heap := h', toks := tk }) : wpAny (model prog w) A (call (.ref f) [.ref t]) Q E s := by
  refine wpAny_call (PySem.W.kla_callFunE hroom ho rfl hco hgen rfl hcd ?_)
  rw [hbind]
  refine wpAny_pure (wpAny_newFunctionEnv hcell (fun y hy => by rw [List.mem_singleton.mp hy]; exact hloc) (fun h₁ hns hsb => ⟨hlim.fresh _ hsb, ?_⟩) hk)
  have kp : ∀ b o, s.heap.get? b = some o → h₁.get? b = some o := fun b o e => hsb.extBut b o (Nat.ne_of_lt (Heap.lt_size e)) (Heap.get?_push_of_some _ e)
  refine PySem.W.kla_codeExpr ?_
  refine Subscript_ (wpAny_Name (wpAny_loadName_local hk hloc hns (v := .ref t) (by simp [List.lookup]) ?_) hdb)
  refine wpAny_Constant_int ?_
  have ht1 : IsTup h₁ t its.toArray := by
    obtain ⟨o, e, r⟩ := ht
    exact ⟨o, kp _ _ e, r⟩
  have l0 : 0 < its.length := (List.getElem?_eq_some_iff.mp h0).1
  exact subscriptTail_builtinR (x := .int k u) ht1.typeIs slot_tuple_getitem.lookup
    (getItem_tuple (j := 0) (Q := fun r s' => r = .int k u ∧ Q r s') ht1 (by (clear hroom hco hgen hdb l0; omega)) (by (clear hroom hco hgen hdb l0; omega)) (by rw [List.size_toArray]; exact PySem.StrLaws.seqIndex_nonneg (i := 0) (by (clear hroom hco hgen hdb l0; omega)) (by (clear hroom hco hgen hdb; omega))) (by simpa using h0) ⟨rfl, hq _ _ kp⟩) (by rfl)
end
section
variable {X : Cx} {pins : List (Addr × Obj)} {σ : St} {H : Hp} {a f c' IT S : Addr} {ob : Obj} {qual : Str} {ts : List Addr} {kf : Nat → Int} {d : Value} {R : Result → Shared → Prop}
noncomputable def LamAt (f c' : Addr) (ob : Obj) (qual : Str) (h : Heap) : Prop := h.get? f = some ob ∧ h.CodeRec (.ref c') qual
noncomputable def LamFn (X : Cx) (f c' : Addr) (ob : Obj) (qual : Str) : Prop := ∀ (s : Shared) (t : Addr) (its : List Value) (k : Int) (u : Tok) (Q : Value → Shared → Prop) (E : Value → Shared → Prop), LamAt f c' ob qual s.heap → s.heap.NoLimit → IsTup s.heap t its.toArray → its[0]? = some (.int k u) →
  (∀ h' tk, (∀ b o, s.heap.get? b = some o → h'.get? b = some o) → Q (.int k u) { s with heap := h', toks := tk }) → wpAny (model X.prog X.w) X.A.in1 (call (.ref f) [.ref t]) Q E s
structure LamOk (name qual x : Str) (params : Arguments) (scope : Scope) (p1 p2 p3 : Pos) (jj : Nat) : Prop where
  bind : ∀ (pm cv ctv : Value) (t : Addr), bindArgs (PySem.W.kla_fn name qual params (.Subscript (.Name x p1) (.Constant (.int 0) jj p2) p3) scope [] pm cv ctv) ⟨[.ref t], []⟩ = pure [(x, .ref t)]
  loc : scope.names.lookup x = some .local
  cell : ∀ y ∈ scope.names, y.2 ≠ .cell
  co : scope.isCoroutine = false
  gen : scope.isGenerator = false
  kind : scope.kind = .function
  db : (x == ("__debug__" : Str)) = false
theorem LamOk.fn {name x : Str} {params : Arguments} {scope : Scope} {p1 p2 p3 : Pos} {jj : Nat} {pm ctv : Value} (hroom : X.A.depth < recursionLimit) (L : LamOk name qual x params scope p1 p2 p3 jj) :
    LamFn X f c' (PySem.W.kla_obj name qual params (.Subscript (.Name x p1) (.Constant (.int 0) jj p2) p3) scope [] pm c' ctv) qual :=
  fun s t its k u Q E l hl ht h0 hq => lam_call (A := X.A.in1) hroom hl l.1 l.2 ht h0 (L.bind _ _ _ _) L.loc L.cell L.co L.gen L.kind L.db hq
theorem LamAt.keep {h h' : Heap} {W : List Addr} (l : LamAt f c' ob qual h) (k : ∀ b o, b ∉ W → h.get? b = some o → h'.get? b = some o) (n1 : f ∉ W) (n2 : c' ∉ W) : LamAt f c' ob qual h' := by
  obtain ⟨h1, c, o, vs, t, e, h2, r⟩ := l
  cases e
  exact ⟨k _ _ n1 h1, c', o, vs, t, rfl, k _ _ n2 h2, r⟩
theorem Inv.turned1 {s : Shared} {h' : Heap} {t' : Nat} {b : Addr} (I : Inv X pins σ H s) (k : ∀ c o, c ≠ b → s.heap.get? c = some o → h'.get? c = some o) (hf : FpOk X pins H b) : Inv X pins σ H { s with heap := h', toks := t' } :=
  I.turned k hf.1 hf.2.1 hf.2.2.2.1 hf.2.2.2.2.1 hf.2.2.2.2.2
theorem min_loop (hc : X.calm = true) (L : LamFn X f c' ob qual) (hA : SqL X.K H a (ts.map V.ref)) (hts : ∀ (i : Nat) (t : Addr), ts[i]? = some t → ∃ rest, H t = some (.tup (.int (kf i) :: rest)))
    (FI : FpOk X pins H IT) (FS : FpOk X pins H S) (nIS : IT ≠ S) (aS : a ≠ S) (aI : a ≠ IT) (n1 : f ∉ [IT, S]) (n2 : c' ∉ [IT, S])
    (hR : ∀ (i : Nat) (t : Addr) (s' : Shared), ts[i]? = some t → (∀ j, j < ts.length → kf i ≤ kf j ∧ (j < i → kf i < kf j)) → Inv X pins σ H s' → R (.ok (.ret (.ref t))) s') :
    ∀ (r j i : Nat) (s : Shared) (tb : Addr) (u : Tok) (n : Nat), ts.length - (j + 1) = r → j + 1 ≤ ts.length → Inv X pins σ H s → s.heap.IsListIter IT a (j + 1) → s.heap.get? S = some (seqObj "list" #[.ref tb, .int (kf i) u] n) → ts[i]? = some tb → i ≤ j →
      (∀ j', j' ≤ j → kf i ≤ kf j' ∧ (j' < i → kf i < kf j')) → LamAt f c' ob qual s.heap →
      codeAny (model X.prog X.w) X.A (.builtin "min.loop" ⟨[.ref IT, .ref f, .ref S], [(Str.ofString "default", d)]⟩) R s := by
  have hname : (toString "min" ++ toString ".loop" : String) = "min.loop" := by decide
  intro r
  induction r with
  | zero =>
    intro j i s tb u n hr hj I hit hS htb hij hbest lam
    have hin : j + 1 = ts.length := Nat.le_antisymm hj (Nat.sub_eq_zero_iff_le.mp hr)
    obtain ⟨its, rv, pl, hz⟩ := I.list hA
    have hl := rv.length
    rw [List.length_map] at hl
    refine codeAny_builtin PySem.F.entry_min_loop ?_
    rw [Around.under_plainId PySem.F.plain_min_loop _]
    show wpAny _ X.A.in1 (seqItems? (.ref S) >>= _) _ _ _
    refine wpAny_bind (wpAny_seqItems hS rfl ?_)
    show wpAny _ X.A.in1 (tryCatch (pyNext (.ref IT)) _ >>= _) _ _ _
    refine wpAny_bind (wpAny_tryCatch (wpAny_pyNext_list_end (A := X.A.in1) (I.ok.hd hc) hit pl.isList (by simp; omega) fun h' eb => ?_))
    have I1 : Inv X pins σ H { s with heap := h' } := I.turned1 (t' := s.toks) (fun b o hb e => eb b o hb e) FI
    have hS1 := eb S _ (Ne.symm nIS) hS
    have s1 := Heap.SameBut.update h' S (Obj.mapSeq fun _ => (#[] : Array Value))
    show wpAny _ X.A.in1 (updateSeq S (fun _ => #[]) >>= _) _ _ _
    refine wpAny_bind ?_
    refine wpAny_updateSeq hS1 rfl (wpAny_bind (wpAny_letGo (wpAny_pure ?_)))
    exact hR i tb _ htb (fun j' hj' => hbest j' (Nat.le_of_lt_succ (Nat.lt_of_lt_of_eq hj' hin.symm))) (I1.turned1 (t' := s.toks) (fun b o hb e => (s1.2 b hb).trans e) FS)
  | succ r ih =>
    intro j i s tb u n hr hj I hit hS htb hij hbest lam
    have hlt : j + 1 < ts.length := Nat.lt_of_sub_eq_succ hr
    obtain ⟨its, rv, pl, hz⟩ := I.list hA
    have hl := rv.length
    rw [List.length_map] at hl
    obtain ⟨v, hv, rv1⟩ := rv.get (i := j + 1) (x := .ref ts[j + 1]) (by rw [List.getElem?_map, List.getElem?_eq_getElem hlt]; rfl)
    cases rv1
    obtain ⟨rest, ht⟩ := hts (j + 1) ts[j + 1] (List.getElem?_eq_getElem hlt)
    refine codeAny_builtin PySem.F.entry_min_loop ?_
    rw [Around.under_plainId PySem.F.plain_min_loop _]
    show wpAny _ X.A.in1 (seqItems? (.ref S) >>= _) _ _ _
    refine wpAny_bind (wpAny_seqItems hS rfl ?_)
    show wpAny _ X.A.in1 (tryCatch (pyNext (.ref IT)) _ >>= _) _ _ _
    refine wpAny_bind (wpAny_tryCatch (wpAny_pyNext_list_item (A := X.A.in1) hit pl.isList (x := .ref ts[j + 1]) (by simpa using hv) fun h' hit' sb => ?_))
    have I1 : Inv X pins σ H { s with heap := h' } := I.turned1 (t' := s.toks) (fun b o hb e => (sb.2 b hb).trans e) FI
    have hS1 := (sb.2 S (Ne.symm nIS)).trans hS
    have lam1 := lam.keep (W := [IT, S]) (fun b o hb e => (sb.2 b (fun z => hb (by simp [z]))).trans e) n1 n2
    show wpAny _ X.A.in1 (tryCatch (holding [.ref ts[j + 1]] (call (.ref f) [.ref ts[j + 1]])) _ >>= _) _ _ _
    obtain ⟨_, its2, rv2, tu⟩ := I1.hok _ _ ht
    obtain ⟨v0, hv0, k2, rfl⟩ := rv2.get (i := 0) (x := .int (kf (j + 1))) rfl
    refine wpAny_bind (wpAny_tryCatch (wpAny_holding (L { s with heap := h' } _ _ _ _ _ _ lam1 I1.nolimit tu hv0 fun h2 tk2 kp => ?_)))
    have I2 : Inv X pins σ H { s with heap := h2, toks := tk2 } := I1.kept (t' := tk2) kp
    have hS2 := kp _ _ hS1
    have lam2 := lam1.keep (W := [IT, S]) (fun b o _ e => kp b o e) n1 n2
    obtain ⟨oI, hoI, hoc, hod⟩ := id hit'
    have hit2 : h2.IsListIter IT a (j + 1 + 1) := ⟨oI, kp _ _ hoI, hoc, hod⟩
    show wpAny _ X.A.in1 (tryCatch (holding [.ref ts[j + 1], .int (kf (j + 1)) k2] (richCompare .Lt (.int (kf (j + 1)) k2) (.int (kf i) u) >>= _)) _ >>= _) _ _ _
    refine wpAny_bind (wpAny_tryCatch (wpAny_holding (wpAny_bind (CmpOf.ints_lt (prog := X.prog) (w := X.w) (A := X.A.in1) (P := fun i v => ∃ t, v = .int (kf i) t) kf (fun i v h => h) (j + 1) i _ _ _ _ _ ⟨k2, rfl⟩ ⟨u, rfl⟩ ?_))))
    refine wpAny_bind (wpAny_holding (wpAny_truthy_bool ?_))
    refine wpAny_bind (wpAny_letGo (wpAny_pure ?_))
    have htj : ts[j + 1]? = some ts[j + 1] := List.getElem?_eq_getElem hlt
    by_cases hb' : kf (j + 1) < kf i
    · have s1 := Heap.SameBut.update h2 S (Obj.mapSeq fun _ => #[.ref ts[j + 1], .int (kf (j + 1)) k2])
      obtain ⟨n2', hc2⟩ : ∃ n2', (h2.update S (Obj.mapSeq fun _ => #[.ref ts[j + 1], .int (kf (j + 1)) k2])).get? S = some (seqObj "list" #[.ref ts[j + 1], .int (kf (j + 1)) k2] n2') := ⟨_, get?_update_seq hS2 fun _ => #[.ref ts[j + 1], .int (kf (j + 1)) k2]⟩
      simp only [hb', decide_true, if_true]
      refine wpAny_bind ?_
      refine wpAny_updateSeq hS2 rfl (wpAny_bind (wpAny_letGo ?_))
      rw [hname]
      refine wpAny_pure ⟨plainId_quiet PySem.F.plain_min_loop _, ih (j + 1) (j + 1) _ _ k2 n2' (by rw [← Nat.sub_sub, hr]; rfl) hlt (I2.turned1 (t' := tk2) (fun b o hb e => (s1.2 b hb).trans e) FS) ⟨oI, (s1.2 IT nIS).trans (kp _ _ hoI), hoc, hod⟩ hc2 htj (Nat.le_refl _) (fun j' hj' => ?_) (lam2.keep (W := [IT, S]) (fun b o hb e => (s1.2 b (fun z => hb (by simp [z]))).trans e) n1 n2)⟩
      by_cases e : j' = j + 1
      · subst e
        exact ⟨Int.le_refl _, fun h => absurd h (Nat.lt_irrefl _)⟩
      · have hb1 := (hbest j' (Nat.le_of_lt_succ (Nat.lt_of_le_of_ne hj' e))).1
        exact ⟨Int.le_of_lt (Int.lt_of_lt_of_le hb' hb1), fun _ => Int.lt_of_lt_of_le hb' hb1⟩
    · simp only [hb', decide_false, Bool.false_eq_true, if_false]
      refine wpAny_bind (wpAny_letGo ?_)
      rw [hname]
      refine wpAny_pure ⟨plainId_quiet PySem.F.plain_min_loop _, ih (j + 1) i _ tb u n (by rw [← Nat.sub_sub, hr]; rfl) hlt I2 hit2 hS2 htb (Nat.le_succ_of_le hij) (fun j' hj' => ?_) lam2⟩
      by_cases e : j' = j + 1
      · subst e
        exact ⟨Int.not_lt.mp hb', fun h => absurd h (Nat.not_lt.mpr (Nat.le_succ_of_le hij))⟩
      · exact hbest j' (Nat.le_of_lt_succ (Nat.lt_of_le_of_ne hj' e))
theorem min_args (a v d : Value) : argsOk "min" ⟨[a], [(Str.ofString "key", v), (Str.ofString "default", d)]⟩ := by unfold argsOk; kernel_rfl
theorem two_push (h : Heap) (o1 o2 : Obj) (n1 : o1.isFreed = false) (n2 : o2.isFreed = false) : (∀ b o, h.get? b = some o → ((h.push o1).push o2).get? b = some o ∧ b ∉ [h.objs.size, (h.push o1).objs.size]) ∧ ((h.push o1).push o2).get? h.objs.size = some o1 ∧ ((h.push o1).push o2).get? (h.push o1).objs.size = some o2 ∧
    h.objs.size ≠ (h.push o1).objs.size ∧ h.objs.size ≤ (h.push o1).objs.size := by
  have e : (h.push o1).objs.size = h.objs.size + 1 := by simp [Heap.push]
  refine ⟨fun b o q => ⟨Heap.get?_push_of_some _ (Heap.get?_push_of_some _ q), fun z => ?_⟩, Heap.get?_push_of_some _ (Heap.get?_push_size _ n1), Heap.get?_push_size _ n2, e ▸ Nat.ne_of_lt (Nat.lt_succ_self _), e ▸ Nat.le_succ _⟩
  have l := Heap.lt_size q
  rw [e] at z
  rcases List.mem_cons.mp z with z | z
  · exact absurd z (Nat.ne_of_lt l)
  · exact absurd (List.mem_singleton.mp z) (Nat.ne_of_lt (Nat.lt_succ_of_lt l))
theorem ne_of_two {b i j : Addr} (h : b ∉ [i, j]) : b ≠ i ∧ b ≠ j := ⟨fun z => h (by simp [z]), fun z => h (by simp [z])⟩
theorem min_first {s : Shared} (hc : X.calm = true) (L : LamFn X f c' ob qual) (hA : SqL X.K H a (ts.map V.ref)) (hts : ∀ (i : Nat) (t : Addr), ts[i]? = some t → ∃ rest, H t = some (.tup (.int (kf i) :: rest))) (ne : 0 < ts.length)
    (FI : FpOk X pins H IT) (FS : FpOk X pins H S) (nIS : IT ≠ S) (aS : a ≠ S) (aI : a ≠ IT) (m1 : f ∉ [IT, S]) (m2 : c' ∉ [IT, S])
    (hR : ∀ (i : Nat) (t : Addr) (s' : Shared), ts[i]? = some t → (∀ j, j < ts.length → kf i ≤ kf j ∧ (j < i → kf i < kf j)) → Inv X pins σ H s' → R (.ok (.ret (.ref t))) s')
    (I0 : Inv X pins σ H s) (gI : s.heap.IsListIter IT a 0) (gS : s.heap.get? S = some (seqObj "list" #[] 0)) (lam0 : LamAt f c' ob qual s.heap) :
    codeAny (model X.prog X.w) X.A (.builtin "min.loop" ⟨[.ref IT, .ref f, .ref S], [(Str.ofString "default", d)]⟩) R s := by
  have hname : (toString "min" ++ toString ".loop" : String) = "min.loop" := by decide
  obtain ⟨its, rv, pl, hz⟩ := I0.list hA
  obtain ⟨v, hv, rv1⟩ := rv.get (i := 0) (x := .ref ts[0]) (by rw [List.getElem?_map, List.getElem?_eq_getElem ne]; rfl)
  cases rv1
  clear hz rv
  obtain ⟨rest, ht⟩ := hts 0 ts[0] (List.getElem?_eq_getElem ne)
  have e0 : ts[0]? = some ts[0] := List.getElem?_eq_getElem ne
  generalize ts[0] = t0 at *
  refine codeAny_builtin PySem.F.entry_min_loop ?_
  rw [Around.under_plainId PySem.F.plain_min_loop _]
  show wpAny _ X.A.in1 (seqItems? (.ref S) >>= _) _ _ _
  refine wpAny_bind (wpAny_seqItems gS rfl ?_)
  show wpAny _ X.A.in1 (tryCatch (pyNext (.ref IT)) _ >>= _) _ _ _
  refine wpAny_bind (wpAny_tryCatch (wpAny_pyNext_list_item (A := X.A.in1) (i := 0) gI pl.isList (x := .ref t0) (by simpa using hv) fun h' hit' sb => ?_))
  have I1 : Inv X pins σ H { s with heap := h' } := I0.turned1 (t' := s.toks) (fun b o hb e => (sb.2 b hb).trans e) FI
  have hS1 := (sb.2 S (Ne.symm nIS)).trans gS
  have lam1 := lam0.keep (h' := h') (W := [IT, S]) (fun b o hb e => (sb.2 b (fun z => hb (by simp [z]))).trans e) m1 m2
  show wpAny _ X.A.in1 (tryCatch (holding [.ref t0] (call (.ref f) [.ref t0])) _ >>= _) _ _ _
  obtain ⟨_, its2, rv2, tu⟩ := I1.hok _ _ ht
  obtain ⟨v0, hv0, k2, rfl⟩ := rv2.get (i := 0) (x := .int (kf 0)) rfl
  refine wpAny_bind (wpAny_tryCatch (wpAny_holding (L { s with heap := h' } _ _ _ _ _ _ lam1 I1.nolimit tu hv0 fun h2 tk2 kp => ?_)))
  have I2 : Inv X pins σ H { s with heap := h2, toks := tk2 } := I1.kept (t' := tk2) kp
  have hS2 := kp _ _ hS1
  have lam2 := lam1.keep (W := [IT, S]) (fun b o _ e => kp b o e) m1 m2
  obtain ⟨oI, hoI, hoc, hod⟩ := id hit'
  have s1 := Heap.SameBut.update h2 S (Obj.mapSeq fun _ => #[.ref t0, .int (kf 0) k2])
  obtain ⟨n2', hc2⟩ : ∃ n2', (h2.update S (Obj.mapSeq fun _ => #[.ref t0, .int (kf 0) k2])).get? S = some (seqObj "list" #[.ref t0, .int (kf 0) k2] n2') := ⟨_, get?_update_seq hS2 fun _ => #[.ref t0, .int (kf 0) k2]⟩
  show wpAny _ X.A.in1 (updateSeq S (fun _ => #[.ref t0, .int (kf 0) k2]) >>= _) _ _ _
  refine wpAny_bind ?_
  refine wpAny_updateSeq hS2 rfl ?_
  rw [hname]
  refine wpAny_pure ⟨plainId_quiet PySem.F.plain_min_loop _, min_loop hc L hA hts FI FS nIS aS aI m1 m2 hR _ 0 0 _ t0 k2 n2' rfl ne (I2.turned1 (t' := tk2) (fun b o hb e => (s1.2 b hb).trans e) FS) ⟨oI, (s1.2 IT nIS).trans (kp _ _ hoI), hoc, hod⟩ hc2 e0 (Nat.le_refl _) (fun j' hj' => ?_) (lam2.keep (W := [IT, S]) (fun b o hb e => (s1.2 b (fun z => hb (by simp [z]))).trans e) m1 m2)⟩
  cases Nat.le_zero.mp hj'
  exact ⟨Int.le_refl _, fun h => absurd h (Nat.lt_irrefl _)⟩
theorem min_call {s : Shared} {Q : Value → Shared → Prop} {E : Value → Shared → Prop} (hc : X.calm = true) (L : LamFn X f c' ob qual) (I : Inv X pins σ H s) (hA : SqL X.K H a (ts.map V.ref)) (hts : ∀ (i : Nat) (t : Addr), ts[i]? = some t → ∃ rest, H t = some (.tup (.int (kf i) :: rest)))
    (ne : 0 < ts.length) (lam : LamAt f c' ob qual s.heap)
    (hQ : ∀ (i : Nat) (t : Addr) (s' : Shared), ts[i]? = some t → (∀ j, j < ts.length → kf i ≤ kf j ∧ (j < i → kf i < kf j)) → Inv X pins σ H s' → Q (.ref t) s') :
    wpAny (model X.prog X.w) X.A (call (.builtin "min") [.ref a] [(Str.ofString "key", .ref f), (Str.ofString "default", d)]) Q E s := by
  have hname : (toString "min" ++ toString ".loop" : String) = "min.loop" := by decide
  obtain ⟨its, rv, pl, hz⟩ := I.list hA
  obtain ⟨oa, hoa, _⟩ := id pl.isList
  have lc : ∃ o, s.heap.get? c' = some o := by
    obtain ⟨_, c, o, vs, t, e, h2, r⟩ := lam
    cases e
    exact ⟨o, h2⟩
  refine kmk_tree PySem.F.kind_min PySem.F.plain_min PySem.F.entry_min (min_args _ _ _) ?_
  refine wpAny_bind (wpAny_of_eq (show Builtin.Builtins.bindParams "min" ["key", "default"] 0 ⟨[], [(Str.ofString "key", .ref f), (Str.ofString "default", d)]⟩ = pure [some (.ref f), some d] from rfl) ?_)
  refine wpAny_bind (wpAny_pure ?_)
  refine wpAny_bind (wpAny_pyIter_list pl.isList ?_)
  refine wpAny_bind (wpAny_newList ?_ (Nat.zero_le _))
  rw [hname]
  refine wpAny_pure ⟨plainId_quiet PySem.F.plain_min_loop _, ?_⟩
  have z := two_push s.heap { cls := .type "list_iterator", data := .fields #[.ref a, .int 0 0] } (seqObj "list" #[] 0) rfl rfl
  generalize (s.heap.push { cls := .type "list_iterator", data := .fields #[.ref a, .int 0 0] }).push (seqObj "list" #[] 0) = h0 at z ⊢
  generalize (s.heap.push { cls := .type "list_iterator", data := .fields #[.ref a, .int 0 0] }).objs.size = S at z ⊢
  obtain ⟨k, gI, gS, nIS, le⟩ := z
  obtain ⟨oc, hoc⟩ := lc
  have na := ne_of_two (k _ _ hoa).2
  exact min_first hc L hA hts ne (I.fpOk (Nat.le_refl _) (I.hok.fresh (Nat.le_refl _))) (I.fpOk le (I.hok.fresh le)) nIS na.2 na.1 (k _ _ lam.1).2 (k _ _ hoc).2 (fun i t s' a b c => hQ i t s' a b c) (I.kept (t' := s.toks) fun b o e => (k b o e).1) ⟨_, gI, rfl, rfl⟩ gS
    (lam.keep (W := []) (fun b o _ e => (k b o e).1) (by simp) (by simp))
theorem Inv.table {s : Shared} {h' : Heap} {t' : Nat} {P : Addr} {ps more : Array Value} (I : Inv X pins σ H s) (hP : H P = some (.tbl ps)) (k : ∀ b o, b ≠ P → s.heap.get? b = some o → h'.get? b = some o) (hp : h'.get? P = some { cls := .none, data := .fields (ps ++ more) }) :
    Inv X pins σ (upd H P (.tbl (ps ++ more))) { s with heap := h', toks := t' } := by
  have nP : ∀ b, H b = none → b ≠ P := fun b n z => by rw [z, hP] at n; cases n
  have oP : ∀ b u, H b = some u → (∀ qs, u ≠ .tbl qs) → b ≠ P := fun b u e n z => by rw [z, hP] at e; cases e; exact n _ rfl
  refine I.un (H' := upd H P (.tbl (ps ++ more))) ⟨fun b o e n _ _ => k b o (nP b n) e, fun b o e n _ _ => ⟨o.slots, k b o (nP b n) e⟩, fun b o e n _ => by rw [upd_ne (nP b n)]; exact n, fun b o e _ => ?_, fun b xs e => by rw [upd_ne (oP b _ e (by intro _ z; cases z))]; exact e,
    fun b o u e => by rw [upd_ne (oP b _ e (by intro _ z; cases z))]; exact e, fun b qs e => ?_⟩ fun b u e => ?_
  · by_cases z : b = P
    · rw [z]; exact ⟨_, hp⟩
    · exact ⟨o, k b o z e⟩
  · by_cases z : b = P
    · rw [z, hP] at e
      cases e
      exact ⟨more, by rw [z, upd_same]⟩
    · exact ⟨#[], by rw [upd_ne z, e]; simp⟩
  · by_cases z : b = P
    · subst z
      rw [upd_same] at e
      cases e
      exact hp
    · rw [upd_ne z] at e
      refine (I.hok b u e).stay (fun c v hc q => k c v ?_ q) (fun c q => by rw [upd_ne (oP c _ q (by intro _ y; cases y))]; exact q) fun c xs q => by rw [upd_ne (oP c _ q (by intro _ y; cases y))]; exact q
      rcases hc with rfl | hc
      · exact z
      · exact oP c _ hc (by intro _ y; cases y)
noncomputable def BltAt (mg : Str → Option Value) (h : Heap) : Prop := ∃ bm ob, mg "__builtins__" = some (.ref bm) ∧ bm ≠ builtinsNs ∧ h.get? bm = some ob ∧ ob.cls = .type "module" ∧ ob.dict = some builtinsNs ∧ ob.data = .plain
noncomputable def tMinK (K : PySem.W.Frag) (P : Addr) (t0 td : TE) : TE := fun σ H Q => t0 σ H fun v H1 => H1 P = some (.tbl #[]) ∧ ∀ more : Array Value, td σ (upd H1 P (.tbl (#[] ++ more))) fun _ H2 => ∃ (a : Addr) (ts : List Addr) (kf : Nat → Int), v = .ref a ∧ SqL K H2 a (ts.map V.ref) ∧
  (∀ (i : Nat) (t : Addr), ts[i]? = some t → ∃ rest, H2 t = some (.tup (.int (kf i) :: rest))) ∧ 0 < ts.length ∧ ∀ (i : Nat) (t : Addr), ts[i]? = some t → (∀ j, j < ts.length → kf i ≤ kf j ∧ (j < i → kf i < kf j)) → Q (.ref t) H2
theorem kw2_call {pos : Pos} {m0 m1 m2 : Sem Value} {k1 k2 : Str} {Q : Value → Shared → Prop} {s : Shared} {M : Model} {A : Around} {E : Value → Shared → Prop} {b : String}
    (h : wpAny M A m0 (fun v s1 => wpAny M A m1 (fun v1 s2 => wpAny M A m2 (fun v2 s3 => wpAny M A (call (.builtin b) [v] [(k1, v1), (k2, v2)]) Q E s3) E s2) E s1) E s) :
    wpAny M A (callWith pos (.builtin b) [] [(false, m0)] [(some k1, do let v ← m1; standAt pos; pure v), (some k2, do let v ← m2; standAt pos; pure v)]) Q E s := by
  unfold callWith
  refine wpAny_bind (wpAny_holding ?_)
  refine evalArgs_kw rfl ?_
  refine Calls.spliced_cons (thn h fun v s1 z => ?_)
  refine Calls.spliced_nil ?_
  refine wpAny_evalAll_cons (wpAny_bind (thn z fun v1 s2 z => wpAny_bind (wpAny_standAt (wpAny_pure ?_))))
  refine wpAny_evalAll_cons (wpAny_bind (thn z fun v2 s3 z => wpAny_bind (wpAny_standAt (wpAny_pure (wpAny_evalAll_nil ?_)))))
  refine wpAny_bind (wpAny_standAt ?_)
  refine wpAny_bind (wpAny_pure ?_)
  exact wpAny_bind (thn z fun r s' q => wpAny_bind (wpAny_holding (wpAny_point (wpAny_pure q))))
theorem lam_made {params : Arguments} {scope : Scope} {body : Expr} {s : Shared} {c P : Addr} {lpos : Pos} {Q : Value → Shared → Prop} {E : Value → Shared → Prop} (I : Inv X pins σ H s) (hP : H P = some (.tbl #[])) (hB : BltAt X.mg X.base) (hcode : X.env.code = .ref c) (hC : PySem.W.codeHdIn X.K c P = true) (hcl : closureFor scope X.env = pure []) (hdef : defaultsOf params X.env = ([], []))
    (hq : ∀ (f c' : Addr) (ctv : Value) (more : Array Value) (pl : List (Addr × Obj)) (s2 : Shared), Inv X (pins ++ pl) σ (upd H P (.tbl (#[] ++ more))) s2 →
      (∀ σ' H' s', Inv X (pins ++ pl) σ' H' s' → LamAt f c' (PySem.W.kla_obj "<lambda>" (X.env.qual ++ "<lambda>") params body scope [] ((X.mg "__name__").getD .none) c' ctv) (X.env.qual ++ "<lambda>") s'.heap) → Q (.ref f) s2) :
    wpAny (model X.prog X.w) X.A (eval (.Lambda params body scope lpos) X.env) Q E s := by
  have hPs : s.heap.get? P = some (PySem.W.tabObj #[]) := I.hok P _ hP
  have gl := I.mod.glob.keeps I.bk
  obtain ⟨bm, ob, b1, b2, b3, b4, b5, b6⟩ := hB
  have b3' := I.bk _ _ b3
  have hgP : mainGlobals ≠ P := fun z => by
    obtain ⟨o, es, ep, e, hd, _⟩ := gl
    rw [z, hPs] at e; cases e; cases hd
  have hbP : bm ≠ P := fun z => by rw [z, hPs] at b3'; cases b3'; cases b4
  have hbG : bm ≠ mainGlobals := fun z => by
    obtain ⟨o, es, ep, e, hd, _⟩ := gl
    rw [z, e] at b3'; cases b3'; rw [hd] at b6; cases b6
  refine PySem.W.kla_eval hdef (PySem.W.kla_makeFunction (mg := X.mg) hcl I.ok.glob gl hcode (PySem.W.codeHd_of_K I.kIn hC) hPs trivial rfl hgP ⟨bm, ob, b1, b2, hbG, hbP, b3', b4, b5, b6⟩ fun c' ctv h' tk hx hge hlt hrec htb => ?_)
  clear hbG hbP hgP b1 b2 b3 b4 b5 b6 b3' gl
  have hq := hq h'.objs.size c' ctv #[rawInt lpos.line, rawInt lpos.col, .ref c']
  have nf : (PySem.W.kla_obj "<lambda>" (X.env.qual ++ "<lambda>") params body scope [] ((X.mg "__name__").getD .none) c' ctv).isFreed = false := rfl
  have nc : ∃ fd, (PySem.W.kla_obj "<lambda>" (X.env.qual ++ "<lambda>") params body scope [] ((X.mg "__name__").getD .none) c' ctv).data = .func fd := ⟨_, rfl⟩
  generalize PySem.W.kla_obj "<lambda>" (X.env.qual ++ "<lambda>") params body scope [] ((X.mg "__name__").getD .none) c' ctv = fo at hq nc nf ⊢
  generalize X.env.qual ++ "<lambda>" = qual at hrec hq
  generalize #[rawInt lpos.line, rawInt lpos.col, .ref c'] = more at htb hq
  obtain ⟨fd, nc⟩ := nc
  obtain ⟨c2, oc, vs, tq, e2, hoc, hdc, hqc⟩ := hrec
  cases e2
  have I2 := I.table (t' := tk) (h' := h'.push fo) (more := more) hP (fun b o n e => Heap.get?_push_of_some _ (hx b o n e)) (Heap.get?_push_of_some _ htb)
  have gf : (h'.push fo).get? h'.objs.size = some fo := Heap.get?_push_size _ nf
  have gc := Heap.get?_push_of_some fo hoc
  have lf : s.heap.objs.size ≤ h'.objs.size := Nat.le_trans hge (Nat.le_of_lt hlt)
  have lP := Heap.lt_size hPs
  generalize h'.push fo = h2 at I2 gf gc ⊢
  generalize h'.objs.size = f at gf lf hq ⊢
  have fp : ∀ {b : Addr}, s.heap.objs.size ≤ b → FpOk X pins (upd H P (.tbl (#[] ++ more))) b := fun {b} l => I.fpOk l ((upd_ne (show b ≠ P from fun z => absurd lP (Nat.not_lt.mpr (z ▸ l)))).trans (I.hok.fresh l))
  have I3 := I2.pinned (fp := [f, c']) (fun b hb => by
    rcases List.mem_cons.mp hb with rfl | hb
    · exact fp lf
    · rw [List.mem_singleton.mp hb]; exact fp hge) (fun b hb => by
    rcases List.mem_cons.mp hb with rfl | hb
    · exact ⟨_, gf, fun v z => by rw [nc] at z; cases z⟩
    · rw [List.mem_singleton.mp hb]; exact ⟨_, gc, fun v z => by rw [hdc] at z; cases z⟩)
  have P1 := mem_pinsAt (fp := [f, c']) (b := f) (by simp) gf
  have P2 := mem_pinsAt (fp := [f, c']) (b := c') (by simp) gc
  exact hq _ _ I3 fun σ' H' s' I4 => ⟨(I4.pin _ (List.mem_append_right _ (List.mem_append_right _ P1))).1, c', oc, vs, tq, rfl, (I4.pin _ (List.mem_append_right _ (List.mem_append_right _ P2))).1, hdc, hqc⟩
theorem pe_minkey {x : Str} {params : Arguments} {scope : Scope} {p1 p2 p3 : Pos} {jj : Nat} {e0 d : Expr} {t0 td : TE} {k : Nat} {c P : Addr} {pb pos lpos k1 k2 : Pos} (hcalm : X.calm = true) (hr : Room k X.A) (hg : Gl X "min") (hm : X.mg "min" = none) (hB : BltAt X.mg X.base) (hcode : X.env.code = .ref c) (hC : PySem.W.codeHdIn X.K c P = true) (hcl : closureFor scope X.env = pure [])
    (L : LamOk "<lambda>" (X.env.qual ++ "<lambda>") x params scope p1 p2 p3 jj) (hdef : defaultsOf params X.env = ([], [])) (h0 : PE X e0 t0) (hd : PE X d td) (hs : starEach [e0] X.env = [(false, eval e0 X.env)] := by rfl) :
    PE X (.Call (.Name "min" pb) [e0] [⟨some "key", .Lambda params (.Subscript (.Name x p1) (.Constant (.int 0) jj p2) p3) scope lpos, k1⟩, ⟨some "default", d, k2⟩] pos) (tMinK X.K P t0 td) := by
  intro pins s σ H Q I h
  have LF : ∀ f c' ctv, LamFn X f c' (PySem.W.kla_obj "<lambda>" (X.env.qual ++ "<lambda>") params (.Subscript (.Name x p1) (.Constant (.int 0) jj p2) p3) scope [] ((X.mg "__name__").getD .none) c' ctv) (X.env.qual ++ "<lambda>") := fun _ _ _ => LamOk.fn hr.depth L
  clear L
  generalize Expr.Subscript (.Name x p1) (.Constant (.int 0) jj p2) p3 = body at LF ⊢
  refine wpAny_Call_Name_kw (ld_blt I hg hm (u := .builtin "min") (by decide +kernel) ?_ (by decide) (by decide))
  rw [hs]
  refine kw2_call (thn (h0 pins s σ H _ I h) fun v s1 z => ?_)
  obtain ⟨v', H1, I1, rv, hP, q⟩ := z
  refine lam_made I1 hP hB hcode hC hcl hdef fun f c' ctv more pl s2 I3 lam => ?_
  refine thn (hd _ _ σ _ _ I3 (q _)) fun dv s4 z => ?_
  obtain ⟨dw, H4, I4, rd, a, ts, kf, ev, hA, hts, ne, fin⟩ := z
  subst ev
  cases rv
  exact min_call hcalm (LF f c' ctv) I4.unpinned hA hts ne (lam _ _ _ I4) fun i t s' e b I' => ⟨.ref t, H4, I', rfl, fin i t e b⟩
end
noncomputable def rMinL (K : PySem.W.Frag) : List V → Hp → VK → Prop := fun xs H Q => ∃ (a : Addr) (ns : List Int), xs = [.ref a] ∧ SqL K H a (ns.map V.int) ∧ ns ≠ [] ∧ ∀ m, m ∈ ns → (∀ y ∈ ns, m ≤ y) → Q (.int m) H
theorem call_minL {X : Cx} (hc : X.calm = true) : CallR X (.builtin "min") (rMinL X.K) := by
  intro pins s σ H xs us Q I r h
  obtain ⟨a, ns, rfl, ha, ne, q⟩ := h
  obtain ⟨u, rfl, ru⟩ := vals1 r
  cases ru
  obtain ⟨its, ra, pa, _⟩ := I.list ha
  have hl : its.length = ns.length := by rw [← ra.length, List.length_map]
  have l0 : 0 < ns.length := List.length_pos_iff.mpr ne
  have hne : a ≠ s.heap.objs.size := by
    obtain ⟨o, ho, _⟩ := pa.isList
    exact Nat.ne_of_lt (Heap.lt_size ho)
  have vals : ∀ (i : Nat) (v : Value), its.toArray[i]? = some v → ∃ t, v = .int (ns.getD i 0) t := fun i v hP => by
    have hP : its[i]? = some v := by simpa using hP
    have hi := (List.getElem?_eq_some_iff.mp hP).1
    obtain ⟨w', e1, e2⟩ := ra.get (i := i) (x := V.int (ns.getD i 0)) (by
      rw [List.getElem?_map]
      simp [show i < ns.length by omega])
    rw [hP] at e1
    cases e1
    exact e2
  refine PySem.call_min_walk (wpAny_pyIter_list pa.isList ?_)
  refine ⟨s.heap.objs.size, _, _, _, _, _, fun i j => decide (ns.getD i 0 < ns.getD j 0), rfl, Walks.list (by simp [I.ok.hd hc]) s.heap.objs.size a hne its.toArray, ⟨⟨_, Heap.get?_push_size _ rfl, rfl, rfl⟩, pa.isList.at fun o e => Heap.get?_push_of_some _ e⟩, fun b hb => ?_, ?_, CmpOf.ints_lt (fun i => ns.getD i 0) vals, fun v h' tk hP hk => ?_⟩
  · have e : b = s.heap.objs.size ∨ b = a := by simpa using hb
    have la : a < s.heap.objs.size := by
      obtain ⟨o, ho, _⟩ := pa.isList
      exact Heap.lt_size ho
    show b < (s.heap.push _).objs.size
    rw [show ((s.heap.push { cls := .type "list_iterator", data := .fields #[.ref a, .int 0 0] }).objs.size) = s.heap.objs.size + 1 by simp [Heap.push]]
    rcases e with e | e
    · rw [e]; exact Nat.lt_succ_self _
    · rw [e]; exact Nat.lt_succ_of_lt la
  · rw [List.size_toArray, hl]; exact l0
  · obtain ⟨t, rfl⟩ := vals _ _ hP
    have ab := argBest_lt (fun i => ns.getD i 0) (its.toArray.size - 1)
    rw [List.size_toArray, hl] at ab
    have hb : argBest (fun i j => decide (ns.getD i 0 < ns.getD j 0)) (its.toArray.size - 1) < ns.length := by
      rw [List.size_toArray, hl]
      have := ab.1
      (clear hc hl this; omega)
    refine ⟨.int _, H, I.kept (t' := tk) fun b o e => hk b o (by simp; exact Nat.ne_of_lt (Heap.lt_size e)) (Heap.get?_push_of_some _ e), ⟨t, rfl⟩, q _ ?_ fun y hy => ?_⟩
    · rw [List.getD_eq_getElem?_getD, List.getElem?_eq_getElem hb]
      exact List.getElem_mem hb
    · obtain ⟨j, hj, rfl⟩ := List.mem_iff_getElem.mp hy
      have := ab.2 j (by (clear hc hl ab hb; omega))
      rw [List.size_toArray, hl]
      rw [List.getD_eq_getElem?_getD, List.getD_eq_getElem?_getD, List.getElem?_eq_getElem hj] at this
      rw [List.getD_eq_getElem?_getD]
      exact this
theorem minLK {X : Cx} (K : PySem.W.Frag) (hc : X.calm = true) (h : X.K = K := by rfl) : CallR X (.builtin "min") (rMinL K) := by subst h; exact call_minL hc
theorem minkeyK {X : Cx} {x : Str} {params : Arguments} {scope : Scope} {p1 p2 p3 : Pos} {jj : Nat} (K : PySem.W.Frag) {e0 d : Expr} {t0 td : TE} {k : Nat} {c P : Addr} {pb pos lpos k1 k2 : Pos} (hcalm : X.calm = true) (hr : Room k X.A) (hg : Gl X "min") (hm : X.mg "min" = none) (hB : BltAt X.mg X.base) (hcode : X.env.code = .ref c) (hC : PySem.W.codeHdIn K c P = true) (hcl : closureFor scope X.env = pure [])
    (L : LamOk "<lambda>" (X.env.qual ++ "<lambda>") x params scope p1 p2 p3 jj) (hdef : defaultsOf params X.env = ([], [])) (h0 : PE X e0 t0) (hd : PE X d td) (hs : starEach [e0] X.env = [(false, eval e0 X.env)] := by rfl) (h : X.K = K := by rfl) :
    PE X (.Call (.Name "min" pb) [e0] [⟨some "key", .Lambda params (.Subscript (.Name x p1) (.Constant (.int 0) jj p2) p3) scope lpos, k1⟩, ⟨some "default", d, k2⟩] pos) (tMinK K P t0 td) := by subst h; exact pe_minkey hcalm hr hg hm hB hcode hC hcl L hdef h0 hd hs
end L2

namespace Sw
noncomputable abbrev P := Int × Int × Bool

inductive Reach (E : List (Int × Int)) : Int → Prop
  | base : Reach E 0
  | step {u v : Int} : Reach E u → (u, v) ∈ E → Reach E v

theorem Reach.mono {E F : List (Int × Int)} (h : ∀ e ∈ E, e ∈ F) {v : Int} (r : Reach E v) : Reach F v := by
  induction r with
  | base => exact .base
  | step _ m ih => exact .step ih (h _ m)

theorem Reach.closed {E : List (Int × Int)} {S : Int → Prop} (h0 : S 0) (hc : ∀ e ∈ E, S e.1 → S e.2) {v : Int} (r : Reach E v) : S v := by
  induction r with
  | base => exact h0
  | step _ m ih => exact hc _ m ih

theorem length_erase_ge {α : Type} [BEq α] [LawfulBEq α] (l : List α) (a : α) : l.length ≤ (l.erase a).length + 1 := by
  rw [List.length_erase]
  split <;> omega

theorem nodup_bound : ∀ (n : Nat) (l : List Int), l.Nodup → (∀ x ∈ l, 0 ≤ x ∧ x < (n : Int)) → l.length ≤ n
  | 0, l, _, h => by
    cases l with
    | nil => simp
    | cons a r => have := h a (by simp); omega
  | n + 1, l, nd, h => by
    have h1 : (l.erase (n : Int)).Nodup := nd.erase _
    have h2 := nodup_bound n (l.erase (n : Int)) h1 fun x hx => by
      have hm : x ∈ l := List.mem_of_mem_erase hx
      have hne : x ≠ (n : Int) := fun e => by
        subst e
        exact (List.Nodup.not_mem_erase nd) hx
      have := h x hm
      omega
    have := length_erase_ge l (n : Int)
    omega

noncomputable def wetStep (h : List Int) (e : Int × Int) : List Int := if e.1 ∈ h ∧ e.2 ∉ h then h ++ [e.2] else h
noncomputable def wetTurn (E : List (Int × Int)) (h : List Int) : List Int := E.foldl wetStep h
noncomputable def wetN (E : List (Int × Int)) : Nat → List Int
  | 0 => [0]
  | n + 1 => wetTurn E (wetN E n)

theorem wetStep_sub (h : List Int) (e : Int × Int) {x : Int} (hx : x ∈ h) : x ∈ wetStep h e := by
  unfold wetStep; split
  · simp [hx]
  · exact hx
theorem wetTurn_sub : ∀ (E : List (Int × Int)) (h : List Int) {x : Int}, x ∈ h → x ∈ wetTurn E h
  | [], _, _, hx => hx
  | e :: E, h, _, hx => wetTurn_sub E (wetStep h e) (wetStep_sub h e hx)
theorem wetStep_len (h : List Int) (e : Int × Int) : h.length ≤ (wetStep h e).length := by
  unfold wetStep; split <;> simp
theorem wetTurn_len : ∀ (E : List (Int × Int)) (h : List Int), h.length ≤ (wetTurn E h).length
  | [], _ => Nat.le_refl _
  | e :: E, h => Nat.le_trans (wetStep_len h e) (wetTurn_len E (wetStep h e))
theorem nodup_snoc {α : Type} {l : List α} {a : α} (h : l.Nodup) (ha : a ∉ l) : (l ++ [a]).Nodup := by
  rw [List.nodup_append]
  refine ⟨h, by simp, ?_⟩
  intro x hx y hy e
  simp at hy
  subst hy; subst e
  exact ha hx
theorem wetStep_nodup {h : List Int} (e : Int × Int) (nd : h.Nodup) : (wetStep h e).Nodup := by
  unfold wetStep; split
  · rename_i q; exact nodup_snoc nd q.2
  · exact nd
theorem wetTurn_nodup : ∀ (E : List (Int × Int)) {h : List Int}, h.Nodup → (wetTurn E h).Nodup
  | [], _, nd => nd
  | e :: E, h, nd => wetTurn_nodup E (wetStep_nodup e nd)
theorem wetTurn_same : ∀ (E : List (Int × Int)) (h : List Int), (wetTurn E h).length = h.length → wetTurn E h = h ∧ ∀ e ∈ E, e.1 ∈ h → e.2 ∈ h
  | [], h, _ => ⟨rfl, fun e he => by simp at he⟩
  | e :: E, h, hl => by
    have hl : (wetTurn E (wetStep h e)).length = h.length := hl
    have h1 := wetTurn_len E (wetStep h e)
    by_cases q : e.1 ∈ h ∧ e.2 ∉ h
    · have : wetStep h e = h ++ [e.2] := if_pos q
      rw [this] at h1
      simp at h1
      rw [this] at hl
      omega
    · have hs : wetStep h e = h := if_neg q
      have hl' : (wetTurn E h).length = h.length := by rw [hs] at hl; exact hl
      obtain ⟨a, b⟩ := wetTurn_same E h hl'
      refine ⟨?_, fun e' he' => ?_⟩
      · show wetTurn E (wetStep h e) = h
        rw [hs]; exact a
      · rcases List.mem_cons.mp he' with rfl | m
        · intro m1
          exact Classical.byContradiction fun m2 => q ⟨m1, m2⟩
        · exact b e' m
theorem wetStep_sound {E : List (Int × Int)} {h : List Int} {e : Int × Int} (he : e ∈ E) (hr : ∀ x ∈ h, Reach E x) : ∀ x ∈ wetStep h e, Reach E x := by
  intro x hx
  unfold wetStep at hx
  split at hx
  · rename_i q
    rcases List.mem_append.mp hx with m | m
    · exact hr x m
    · simp at m; subst m
      exact .step (hr _ q.1) (show (e.1, e.2) ∈ E from he)
  · exact hr x hx
theorem wetTurn_sound {E : List (Int × Int)} : ∀ (F : List (Int × Int)) {h : List Int}, (∀ e ∈ F, e ∈ E) → (∀ x ∈ h, Reach E x) → ∀ x ∈ wetTurn F h, Reach E x
  | [], _, _, hr => hr
  | e :: F, h, hs, hr => wetTurn_sound F (h := wetStep h e) (fun e' m => hs e' (by simp [m])) (wetStep_sound (hs e (by simp)) hr)
theorem wetN_nodup (E : List (Int × Int)) : ∀ n, (wetN E n).Nodup
  | 0 => by simp [wetN]
  | n + 1 => wetTurn_nodup E (wetN_nodup E n)
theorem wetN_sound (E : List (Int × Int)) : ∀ n, ∀ x ∈ wetN E n, Reach E x
  | 0 => fun x hx => by simp [wetN] at hx; subst hx; exact .base
  | n + 1 => wetTurn_sound E (fun _ m => m) (wetN_sound E n)
theorem wetN_zero (E : List (Int × Int)) : ∀ n, (0 : Int) ∈ wetN E n
  | 0 => by simp [wetN]
  | n + 1 => wetTurn_sub E _ (wetN_zero E n)
theorem wetN_grow (E : List (Int × Int)) : ∀ n, (∀ e ∈ E, e.1 ∈ wetN E n → e.2 ∈ wetN E n) ∨ n + 1 ≤ (wetN E n).length
  | 0 => .inr (by simp [wetN])
  | n + 1 => by
    rcases wetN_grow E n with h | h
    · left
      have fix : ∀ (F : List (Int × Int)), (∀ e ∈ F, e ∈ E) → wetTurn F (wetN E n) = wetN E n := by
        intro F
        induction F with
        | nil => intro _; rfl
        | cons e F ih =>
          intro hs
          show wetTurn F (wetStep (wetN E n) e) = _
          have : wetStep (wetN E n) e = wetN E n := if_neg fun q => q.2 (h e (hs e (by simp)) q.1)
          rw [this]
          exact ih fun e' m => hs e' (by simp [m])
      show ∀ e ∈ E, e.1 ∈ wetTurn E (wetN E n) → e.2 ∈ wetTurn E (wetN E n)
      rw [fix E fun _ m => m]
      exact h
    · by_cases q : (wetTurn E (wetN E n)).length = (wetN E n).length
      · left
        obtain ⟨a, b⟩ := wetTurn_same E (wetN E n) q
        show ∀ e ∈ E, e.1 ∈ wetTurn E (wetN E n) → e.2 ∈ wetTurn E (wetN E n)
        rw [a]; exact b
      · right
        have := wetTurn_len E (wetN E n)
        show n + 1 + 1 ≤ (wetTurn E (wetN E n)).length
        omega
theorem reach_range {E : List (Int × Int)} {size : Nat} (hs : 1 ≤ size) (hE : ∀ e ∈ E, 0 ≤ e.2 ∧ e.2 < (size : Int)) {v : Int} (r : Reach E v) : 0 ≤ v ∧ v < (size : Int) := by
  cases r with
  | base => omega
  | step _ m => exact hE _ m
theorem wet_mem {E : List (Int × Int)} {size : Nat} (hs : 1 ≤ size) (hE : ∀ e ∈ E, 0 ≤ e.2 ∧ e.2 < (size : Int)) (v : Int) : v ∈ wetN E size ↔ Reach E v := by
  refine ⟨wetN_sound E size v, fun r => ?_⟩
  have hl : (wetN E size).length ≤ size := nodup_bound size _ (wetN_nodup E size) fun x hx => reach_range hs hE (wetN_sound E size x hx)
  rcases wetN_grow E size with h | h
  · exact r.closed (S := fun x => x ∈ wetN E size) (wetN_zero E size) h
  · omega

theorem rise_eq : ∀ {l m : List Int}, l.Pairwise (· ≤ ·) → m.Pairwise (· ≤ ·) → l.Nodup → m.Nodup → (∀ x, x ∈ l ↔ x ∈ m) → l = m
  | [], [], _, _, _, _, _ => rfl
  | [], b :: m, _, _, _, _, h => by have := (h b).mpr (by simp); simp at this
  | a :: l, [], _, _, _, _, h => by have := (h a).mp (by simp); simp at this
  | a :: l, b :: m, pl, pm, nl, nm, h => by
    obtain ⟨pa, pl'⟩ := List.pairwise_cons.mp pl
    obtain ⟨pb, pm'⟩ := List.pairwise_cons.mp pm
    obtain ⟨na, nl'⟩ := List.nodup_cons.mp nl
    obtain ⟨nb, nm'⟩ := List.nodup_cons.mp nm
    have hab : a = b := by
      have h1 : a ∈ b :: m := (h a).mp (by simp)
      have h2 : b ∈ a :: l := (h b).mpr (by simp)
      rcases List.mem_cons.mp h1 with e | e
      · exact e
      · rcases List.mem_cons.mp h2 with e2 | e2
        · exact e2.symm
        · have := pb a e; have := pa b e2; omega
    subst hab
    congr 1
    refine rise_eq pl' pm' nl' nm' fun x => ?_
    constructor
    · intro hx
      rcases List.mem_cons.mp ((h x).mp (by simp [hx])) with e | e
      · subst e; exact absurd hx na
      · exact e
    · intro hx
      rcases List.mem_cons.mp ((h x).mpr (by simp [hx])) with e | e
      · subst e; exact absurd hx nb
      · exact e
end Sw

namespace Sw
noncomputable def st (ps : List P) (k : Nat) : Int := (ps.getD k (0, 0, false)).1
noncomputable def gl (ps : List P) (k : Nat) : Int := (ps.getD k (0, 0, false)).2.1
noncomputable def op (ps : List P) (k : Nat) : Bool := (ps.getD k (0, 0, false)).2.2
noncomputable def opens (ps : List P) : List Nat := (List.range ps.length).filter (op ps)
noncomputable def prs (ps : List P) (us : List Nat) : List (Int × Int) := us.map fun k => (st ps k, gl ps k)

noncomputable abbrev Found := List (Int × List Nat)
noncomputable def keys (f : Found) : List Int := f.map (·.1)
noncomputable def look (f : Found) (v : Int) : Option (List Nat) := (f.find? fun e => decide (e.1 = v)).map (·.2)

noncomputable def chain (ps : List P) : Int → List Nat → Int → Prop
  | u, [], v => u = v
  | u, k :: w, v => st ps k = u ∧ chain ps (gl ps k) w v
theorem chain_snoc (ps : List P) : ∀ (w : List Nat) (u : Int) (k : Nat), chain ps u w (st ps k) → chain ps u (w ++ [k]) (gl ps k)
  | [], u, k, h => ⟨h.symm, rfl⟩
  | j :: w, u, k, h => ⟨h.1, chain_snoc ps w _ k h.2⟩
theorem chain_reach {ps : List P} {us : List Nat} : ∀ (w : List Nat) (u v : Int), (∀ k ∈ w, k ∈ us) → Reach (prs ps us) u → chain ps u w v → Reach (prs ps us) v
  | [], u, v, _, r, h => by rw [← h]; exact r
  | k :: w, u, v, hs, r, h => by
    refine chain_reach w _ v (fun j m => hs j (by simp [m])) (.step (u := u) r ?_) h.2
    rw [← h.1]
    exact List.mem_map.mpr ⟨k, hs k (by simp), rfl⟩
structure IsWay (ps : List P) (us : List Nat) (w : List Nat) (v : Int) : Prop where
  ch : chain ps 0 w v
  nd : w.Nodup
  us : ∀ k ∈ w, k ∈ us

theorem look_mem {f : Found} {v : Int} {w : List Nat} (h : look f v = some w) : (v, w) ∈ f := by
  unfold look at h
  cases e : f.find? (fun e => decide (e.1 = v)) with
  | none => rw [e] at h; cases h
  | some x =>
    rw [e] at h
    have h1 := List.find?_some e
    have h2 := List.mem_of_find?_eq_some e
    obtain ⟨a, b⟩ := x
    simp at h h1
    subst h h1
    exact h2
theorem look_of_mem {f : Found} {v : Int} (h : v ∈ keys f) : ∃ w, look f v = some w := by
  unfold look
  cases e : f.find? (fun e => decide (e.1 = v)) with
  | none =>
    obtain ⟨x, hx, rfl⟩ := List.mem_map.mp h
    have := List.find?_eq_none.mp e x hx
    simp at this
  | some x => exact ⟨x.2, rfl⟩
theorem look_none {f : Found} {v : Int} (h : look f v = none) : v ∉ keys f := fun m => by
  obtain ⟨w, e⟩ := look_of_mem m
  rw [h] at e; cases e
theorem mem_keys {f : Found} {v : Int} {w : List Nat} (h : (v, w) ∈ f) : v ∈ keys f := List.mem_map.mpr ⟨_, h, rfl⟩

structure BInv (ps : List P) (us : List Nat) (size : Nat) (f : Found) (q : List Int) : Prop where
  nd : (keys f).Nodup
  z : (0 : Int) ∈ keys f
  rng : ∀ v ∈ keys f, 0 ≤ v ∧ v < (size : Int)
  way : ∀ e ∈ f, IsWay ps us e.2 e.1
  gls : ∀ e ∈ f, ∀ k ∈ e.2, gl ps k ∈ keys f
  wait : ∀ v ∈ q, v ∈ keys f
  done : ∀ u ∈ keys f, u ∉ q → ∀ k ∈ us, st ps k = u → gl ps k ∈ keys f
structure BIn (ps : List P) (us : List Nat) (size : Nat) (place : Int) (pre : List Nat) (f : Found) (q : List Int) : Prop where
  nd : (keys f).Nodup
  z : (0 : Int) ∈ keys f
  rng : ∀ v ∈ keys f, 0 ≤ v ∧ v < (size : Int)
  way : ∀ e ∈ f, IsWay ps us e.2 e.1
  gls : ∀ e ∈ f, ∀ k ∈ e.2, gl ps k ∈ keys f
  wait : ∀ v ∈ q, v ∈ keys f
  here : place ∈ keys f
  done : ∀ u ∈ keys f, u ∉ q → u ≠ place → ∀ k ∈ us, st ps k = u → gl ps k ∈ keys f
  pre : ∀ k ∈ pre, st ps k = place → gl ps k ∈ keys f
theorem BIn.len {ps : List P} {us : List Nat} {size : Nat} {place : Int} {pre : List Nat} {f : Found} {q : List Int} (h : BIn ps us size place pre f q) : f.length ≤ size := by
  have := nodup_bound size (keys f) h.nd h.rng
  simpa [keys] using this
theorem BInv.start {ps : List P} {us : List Nat} {size : Nat} (hs : 1 ≤ size) : BInv ps us size [(0, [])] [0] :=
  ⟨by simp [keys], by simp [keys], fun v hv => by simp [keys] at hv; subst hv; omega, fun e he => by simp at he; subst he; exact ⟨rfl, List.nodup_nil, fun k hk => by simp at hk⟩,
    fun e he k hk => by simp at he; subst he; simp at hk, fun v hv => by simp at hv; subst hv; simp [keys], fun u hu hn => by simp [keys] at hu; subst hu; simp at hn⟩
theorem BInv.take {ps : List P} {us : List Nat} {size : Nat} {f : Found} {q : List Int} {place : Int} (h : BInv ps us size f (place :: q)) : BIn ps us size place [] f q :=
  ⟨h.nd, h.z, h.rng, h.way, h.gls, fun v hv => h.wait v (by simp [hv]), h.wait place (by simp), fun u hu hn hne => h.done u hu fun m => by
    rcases List.mem_cons.mp m with e | e
    · exact hne e
    · exact hn e, fun k hk => by simp at hk⟩
theorem BIn.skip {ps : List P} {us : List Nat} {size : Nat} {place : Int} {pre : List Nat} {f : Found} {q : List Int} {k : Nat} (h : BIn ps us size place pre f q) (hk : st ps k = place → gl ps k ∈ keys f) :
    BIn ps us size place (pre ++ [k]) f q :=
  ⟨h.nd, h.z, h.rng, h.way, h.gls, h.wait, h.here, h.done, fun j hj => by
    rcases List.mem_append.mp hj with m | m
    · exact h.pre j m
    · simp at m; subst m; exact hk⟩
theorem keys_snoc (f : Found) (v : Int) (w : List Nat) : keys (f ++ [(v, w)]) = keys f ++ [v] := by simp [keys]
theorem BIn.put {ps : List P} {us : List Nat} {size : Nat} {place : Int} {pre : List Nat} {f : Found} {q : List Int} {k : Nat} {w : List Nat} (h : BIn ps us size place pre f q) (hku : k ∈ us) (hg : 0 ≤ gl ps k ∧ gl ps k < (size : Int))
    (hs : st ps k = place) (hn : gl ps k ∉ keys f) (hw : look f place = some w) : BIn ps us size place (pre ++ [k]) (f ++ [(gl ps k, w ++ [k])]) (q ++ [gl ps k]) := by
  have hm := look_mem hw
  have W := h.way _ hm
  have mono : ∀ v, v ∈ keys f → v ∈ keys (f ++ [(gl ps k, w ++ [k])]) := fun v hv => by rw [keys_snoc]; simp [hv]
  have new : gl ps k ∈ keys (f ++ [(gl ps k, w ++ [k])]) := by rw [keys_snoc]; simp
  refine ⟨by rw [keys_snoc]; exact nodup_snoc h.nd hn, mono _ h.z, fun v hv => ?_, fun e he => ?_, fun e he j hj => ?_, fun v hv => ?_, mono _ h.here, fun u hu hq hne j hj hsj => ?_, fun j hj hsj => ?_⟩
  · rw [keys_snoc] at hv
    rcases List.mem_append.mp hv with m | m
    · exact h.rng v m
    · simp at m; subst m; exact hg
  · rcases List.mem_append.mp he with m | m
    · exact h.way e m
    · simp at m; subst m
      refine ⟨?_, nodup_snoc W.nd fun m => hn (h.gls _ hm k m), fun j hj => ?_⟩
      · exact chain_snoc ps w 0 k (by rw [hs]; exact W.ch)
      · rcases List.mem_append.mp hj with m | m
        · exact W.us j m
        · simp at m; subst m; exact hku
  · rcases List.mem_append.mp he with m | m
    · exact mono _ (h.gls e m j hj)
    · simp at m; subst m
      rcases List.mem_append.mp hj with m | m
      · exact mono _ (h.gls _ hm j m)
      · simp at m; subst m; exact new
  · rcases List.mem_append.mp hv with m | m
    · exact mono _ (h.wait v m)
    · simp at m; subst m; exact new
  · rw [keys_snoc] at hu
    rcases List.mem_append.mp hu with m | m
    · exact mono _ (h.done u m (fun z => hq (by simp [z])) hne j hj hsj)
    · simp at m; subst m; exact absurd (by simp) hq
  · rcases List.mem_append.mp hj with m | m
    · exact mono _ (h.pre j m hsj)
    · simp at m; subst m; exact new
theorem BIn.leave {ps : List P} {us : List Nat} {size : Nat} {place : Int} {f : Found} {q : List Int} (h : BIn ps us size place us f q) : BInv ps us size f q :=
  ⟨h.nd, h.z, h.rng, h.way, h.gls, h.wait, fun u hu hn k hk hs => by
    by_cases e : u = place
    · subst e; exact h.pre k hk hs
    · exact h.done u hu hn e k hk hs⟩
theorem BInv.reach {ps : List P} {us : List Nat} {size : Nat} {f : Found} (h : BInv ps us size f []) (v : Int) : v ∈ keys f ↔ Reach (prs ps us) v := by
  constructor
  · intro m
    obtain ⟨w, hw⟩ := look_of_mem m
    have W := h.way _ (look_mem hw)
    exact chain_reach w 0 v W.us .base W.ch
  · intro r
    refine r.closed (S := fun x => x ∈ keys f) h.z fun e he => ?_
    obtain ⟨k, hk, rfl⟩ := List.mem_map.mp he
    exact fun m => h.done _ m (by simp) k hk rfl
theorem BInv.row {ps : List P} {us : List Nat} {size : Nat} {f : Found} {v : Int} {w : List Nat} (h : BInv ps us size f []) (hw : look f v = some w) : IsWay ps us w v := h.way _ (look_mem hw)

noncomputable def less (us : List Nat) (j : Nat) : List Nat := us.filter fun k => k ≠ j
theorem opens_nodup (ps : List P) : (opens ps).Nodup := (List.nodup_range).filter _
theorem opens_lt {ps : List P} {k : Nat} (h : k ∈ opens ps) : k < ps.length ∧ op ps k = true := by
  unfold opens at h
  rw [List.mem_filter] at h
  exact ⟨List.mem_range.mp h.1, h.2⟩
end Sw

namespace Sw
noncomputable def nI (us : List Nat) : List Int := us.map fun k : Nat => (k : Int)
theorem nI_mem {us : List Nat} {x : Int} : x ∈ nI us ↔ ∃ k ∈ us, (k : Int) = x := by unfold nI; rw [List.mem_map]
theorem nI_len (us : List Nat) : (nI us).length = us.length := by unfold nI; rw [List.length_map]
theorem nI_snoc (us : List Nat) (k : Nat) : nI (us ++ [k]) = nI us ++ [(k : Int)] := by unfold nI; rw [List.map_append]; rfl
theorem nI_rise {us : List Nat} (h : us.Pairwise (· < ·)) : (nI us).Pairwise (· ≤ ·) := by
  unfold nI
  rw [List.pairwise_map]
  exact h.imp fun hab => by omega
theorem nI_nodup {us : List Nat} (h : us.Nodup) : (nI us).Nodup := by
  unfold nI List.Nodup
  rw [List.pairwise_map]
  exact List.Pairwise.imp (fun hab z => hab (by omega)) h
theorem rise_nodup {us : List Nat} (h : us.Pairwise (· < ·)) : us.Nodup := h.imp fun hab => by omega
noncomputable def reachL (size : Nat) (E : List (Int × Int)) : List Int := (nI (List.range size)).filter fun v => decide (v ∈ wetN E size)
theorem reachL_mem {E : List (Int × Int)} {size : Nat} (hs : 1 ≤ size) (hE : ∀ e ∈ E, 0 ≤ e.2 ∧ e.2 < (size : Int)) (v : Int) : v ∈ reachL size E ↔ Reach E v := by
  unfold reachL
  rw [List.mem_filter, decide_eq_true_iff, wet_mem hs hE]
  refine ⟨fun h => h.2, fun h => ⟨?_, h⟩⟩
  have := reach_range hs hE h
  exact nI_mem.mpr ⟨v.toNat, List.mem_range.mpr (by omega), by omega⟩
theorem reachL_rise (size : Nat) (E : List (Int × Int)) : (reachL size E).Pairwise (· ≤ ·) := List.Pairwise.filter _ (nI_rise List.pairwise_lt_range)
theorem reachL_nodup (size : Nat) (E : List (Int × Int)) : (reachL size E).Nodup := List.Pairwise.filter _ (nI_nodup List.nodup_range)
theorem reachL_len (size : Nat) (E : List (Int × Int)) : (reachL size E).length ≤ size := by
  refine Nat.le_trans (List.length_filter_le _ _) ?_
  rw [nI_len, List.length_range]
  exact Nat.le_refl _
theorem reachL_rng {size : Nat} {E : List (Int × Int)} : ∀ x ∈ reachL size E, 0 ≤ x ∧ x < (size : Int) := fun x hx => by
  obtain ⟨k, hk, rfl⟩ := nI_mem.mp (List.mem_filter.mp hx).1
  have := List.mem_range.mp hk
  omega
theorem reach_is {E : List (Int × Int)} {size : Nat} {l : List Int} (hs : 1 ≤ size) (hE : ∀ e ∈ E, 0 ≤ e.2 ∧ e.2 < (size : Int)) (p : l.Pairwise (· ≤ ·)) (nd : l.Nodup) (h : ∀ v, v ∈ l ↔ Reach E v) : l = reachL size E :=
  rise_eq p (reachL_rise _ _) nd (reachL_nodup _ _) fun x => (h x).trans (reachL_mem hs hE x).symm
theorem opens_len (ps : List P) : (opens ps).length ≤ ps.length := by
  unfold opens
  exact Nat.le_trans (List.length_filter_le _ _) (by rw [List.length_range]; exact Nat.le_refl _)
noncomputable def intoL (ps : List P) (ss : List Int) : List Nat := (opens ps).filter fun k => !decide (st ps k ∈ ss) && decide (gl ps k ∈ ss)
noncomputable def Ok (n : Int) (x : P) : Prop := ((0 ≤ x.1 ∧ x.1 < n) ∧ 0 ≤ x.2.1 ∧ x.2.1 < n) ∧ x.1 ≠ x.2.1
theorem st_of {ps : List P} {k : Nat} (h : k < ps.length) : st ps k = ps[k].1 := by unfold st; simp [h]
theorem gl_of {ps : List P} {k : Nat} (h : k < ps.length) : gl ps k = ps[k].2.1 := by unfold gl; simp [h]
theorem op_of {ps : List P} {k : Nat} (h : k < ps.length) : op ps k = ps[k].2.2 := by unfold op; simp [h]
theorem prs_rng {ps : List P} {us : List Nat} {n : Int} (h : ∀ x ∈ ps, Ok n x) (hu : ∀ k ∈ us, k < ps.length) : ∀ e ∈ prs ps us, 0 ≤ e.2 ∧ e.2 < n := fun e he => by
  obtain ⟨k, hk, rfl⟩ := List.mem_map.mp he
  have := hu k hk
  show 0 ≤ gl ps k ∧ gl ps k < n
  rw [gl_of this]
  exact (h _ (List.getElem_mem this)).1.2
theorem filter_take_succ {α : Type} (p : α → Bool) (l : List α) (i : Nat) (x : α) (h : l[i]? = some x) : (l.take (i + 1)).filter p = (l.take i).filter p ++ (if p x = true then [x] else []) := by
  rw [List.take_succ, h, List.filter_append]
  congr 1
  show List.filter p [x] = _
  rw [List.filter_cons]
  split <;> rfl
theorem filter_range_succ (p : Nat → Bool) (i : Nat) : (List.range (i + 1)).filter p = (List.range i).filter p ++ (if p i = true then [i] else []) := by
  rw [List.range_succ, List.filter_append]
  congr 1
  rw [List.filter_cons]
  split <;> rfl
end Sw

namespace Sw
theorem less_mem {us : List Nat} {j k : Nat} : k ∈ less us j ↔ k ∈ us ∧ k ≠ j := by
  unfold less
  rw [List.mem_filter]
  simp
theorem less_sub {us : List Nat} {j k : Nat} (h : k ∈ less us j) : k ∈ us := (less_mem.mp h).1
end Sw

namespace Sw
noncomputable def b2z (b : Bool) : Int := if b then 1 else 0
noncomputable def exc (ps : List P) (U : List Nat) (v : Int) : Int := (U.map fun k => b2z (decide (gl ps k = v)) - b2z (decide (st ps k = v))).sum
noncomputable def inn (ps : List P) (U : List Nat) (X : Int → Bool) : Nat := (U.filter fun k => !X (st ps k) && X (gl ps k)).length
noncomputable def outt (ps : List P) (U : List Nat) (X : Int → Bool) : Nat := (U.filter fun k => X (st ps k) && !X (gl ps k)).length
theorem exc_nil (ps : List P) (v : Int) : exc ps [] v = 0 := rfl
theorem exc_cons (ps : List P) (k : Nat) (U : List Nat) (v : Int) : exc ps (k :: U) v = b2z (decide (gl ps k = v)) - b2z (decide (st ps k = v)) + exc ps U v := by unfold exc; simp
theorem exc_append (ps : List P) (U W : List Nat) (v : Int) : exc ps (U ++ W) v = exc ps U v + exc ps W v := by unfold exc; simp
theorem exc_perm {ps : List P} {U W : List Nat} (h : U.Perm W) (v : Int) : exc ps U v = exc ps W v := by
  induction h with
  | nil => rfl
  | cons x _ ih => rw [exc_cons, exc_cons, ih]
  | swap x y l => rw [exc_cons, exc_cons, exc_cons, exc_cons]; omega
  | trans _ _ h1 h2 => exact h1.trans h2
theorem sum_sub' (f g : Int → Int) : ∀ vs : List Int, (vs.map fun v => f v + g v).sum = (vs.map f).sum + (vs.map g).sum
  | [] => rfl
  | v :: vs => by
    simp only [List.map_cons, List.sum_cons, sum_sub' f g vs]
    omega
theorem sum_one (x : Int) : ∀ (vs : List Int), vs.Nodup → (vs.map fun v => b2z (decide (x = v))).sum = b2z (decide (x ∈ vs))
  | [], _ => rfl
  | v :: vs, nd => by
    obtain ⟨h1, h2⟩ := List.nodup_cons.mp nd
    rw [List.map_cons, List.sum_cons, sum_one x vs h2]
    by_cases e : x = v
    · subst e
      simp [b2z, h1]
    · simp [b2z, e]
theorem sum_neg (f : Int → Int) : ∀ vs : List Int, (vs.map fun v => - f v).sum = - (vs.map f).sum
  | [] => rfl
  | v :: vs => by simp only [List.map_cons, List.sum_cons, sum_neg f vs]; omega
theorem exc_sum (ps : List P) (vs : List Int) (nd : vs.Nodup) : ∀ U : List Nat, (vs.map (exc ps U)).sum = (inn ps U (fun v => decide (v ∈ vs)) : Int) - (outt ps U (fun v => decide (v ∈ vs)) : Int)
  | [] => by
    have : vs.map (exc ps []) = vs.map fun _ => (0 : Int) := List.map_congr_left fun v _ => rfl
    rw [this]
    clear this nd
    show _ = ((0 : Nat) : Int) - ((0 : Nat) : Int)
    induction vs with
    | nil => rfl
    | cons v vs ih => simp only [List.map_cons, List.sum_cons, ih]; (clear ih; omega)
  | k :: U => by
    have ih := exc_sum ps vs nd U
    have e : vs.map (exc ps (k :: U)) = vs.map fun v => (b2z (decide (gl ps k = v)) + - b2z (decide (st ps k = v))) + exc ps U v := List.map_congr_left fun v _ => by rw [exc_cons]; (clear ih; omega)
    rw [e, sum_sub', sum_sub', sum_one _ vs nd, sum_neg, sum_one _ vs nd, ih]
    unfold inn outt
    rw [List.filter_cons, List.filter_cons]
    by_cases a : st ps k ∈ vs <;> by_cases b : gl ps k ∈ vs <;> simp [a, b, b2z] <;> (clear ih; omega)
theorem inn_le (ps : List P) (U : List Nat) (X : Int → Bool) : inn ps U X ≤ U.length := List.length_filter_le _ _
theorem exc_chain (ps : List P) : ∀ (w : List Nat) (u v : Int), chain ps u w v → ∀ x, exc ps w x = b2z (decide (v = x)) - b2z (decide (u = x))
  | [], u, v, h, x => by
    have h : u = v := h
    subst h
    rw [exc_nil]; omega
  | k :: w, u, v, h, x => by
    rw [exc_cons, exc_chain ps w (gl ps k) v h.2 x, h.1]
    omega
end Sw

namespace Sw
noncomputable def turnL (ps : List P) (U : List Nat) : List P := (List.range ps.length).map fun k => if k ∈ U then (gl ps k, st ps k, op ps k) else (st ps k, gl ps k, op ps k)
theorem turnL_len (ps : List P) (U : List Nat) : (turnL ps U).length = ps.length := by unfold turnL; rw [List.length_map, List.length_range]
theorem turnL_get {ps : List P} {U : List Nat} {k : Nat} (h : k < ps.length) : (turnL ps U)[k]? = some (if k ∈ U then (gl ps k, st ps k, op ps k) else (st ps k, gl ps k, op ps k)) := by
  unfold turnL
  rw [List.getElem?_map, List.getElem?_range h]
  rfl
theorem st_turn {ps : List P} {U : List Nat} {k : Nat} (h : k < ps.length) : st (turnL ps U) k = if k ∈ U then gl ps k else st ps k := by
  show ((turnL ps U).getD k _).1 = _
  rw [List.getD_eq_getElem?_getD, turnL_get h]
  show (if k ∈ U then (gl ps k, st ps k, op ps k) else (st ps k, gl ps k, op ps k)).1 = _
  split <;> rfl
theorem gl_turn {ps : List P} {U : List Nat} {k : Nat} (h : k < ps.length) : gl (turnL ps U) k = if k ∈ U then st ps k else gl ps k := by
  show ((turnL ps U).getD k _).2.1 = _
  rw [List.getD_eq_getElem?_getD, turnL_get h]
  show (if k ∈ U then (gl ps k, st ps k, op ps k) else (st ps k, gl ps k, op ps k)).2.1 = _
  split <;> rfl
theorem ok_k {ps : List P} {n : Int} (ok : ∀ x ∈ ps, Ok n x) {k : Nat} (h : k < ps.length) : ((0 ≤ st ps k ∧ st ps k < n) ∧ 0 ≤ gl ps k ∧ gl ps k < n) ∧ st ps k ≠ gl ps k := by
  rw [st_of h, gl_of h]
  exact ok _ (List.getElem_mem h)
theorem turnL_ok {ps : List P} {n : Int} (ok : ∀ x ∈ ps, Ok n x) (U : List Nat) : ∀ x ∈ turnL ps U, Ok n x := fun x hx => by
  unfold turnL at hx
  obtain ⟨k, hk, rfl⟩ := List.mem_map.mp hx
  have h := ok_k ok (List.mem_range.mp hk)
  split
  · exact ⟨⟨h.1.2, h.1.1⟩, fun z => h.2 z.symm⟩
  · exact h
noncomputable def tog1 (U : List Nat) (k : Nat) : List Nat := if k ∈ U then U.filter (fun j => decide (j ≠ k)) else U ++ [k]
noncomputable def togs (U w : List Nat) : List Nat := w.foldl tog1 U
theorem mem_tog1 {U : List Nat} {k j : Nat} : j ∈ tog1 U k ↔ (j = k ∧ j ∉ U) ∨ (j ≠ k ∧ j ∈ U) := by
  unfold tog1
  split
  · rename_i h
    rw [List.mem_filter, decide_eq_true_iff]
    constructor
    · exact fun z => .inr ⟨z.2, z.1⟩
    · rintro (⟨rfl, z⟩ | ⟨z, m⟩)
      · exact absurd h z
      · exact ⟨m, z⟩
  · rename_i h
    rw [List.mem_append, List.mem_singleton]
    constructor
    · rintro (m | rfl)
      · exact .inr ⟨fun z => h (z ▸ m), m⟩
      · exact .inl ⟨rfl, h⟩
    · rintro (⟨rfl, _⟩ | ⟨_, m⟩)
      · exact .inr rfl
      · exact .inl m
theorem tog1_nodup {U : List Nat} (k : Nat) (h : U.Nodup) : (tog1 U k).Nodup := by
  unfold tog1
  split
  · exact List.Pairwise.filter _ h
  · rename_i m; exact nodup_snoc h m
theorem togs_nodup : ∀ (w : List Nat) {U : List Nat}, U.Nodup → (togs U w).Nodup
  | [], _, h => h
  | k :: w, _, h => togs_nodup w (tog1_nodup k h)
theorem mem_togs : ∀ (w : List Nat) {U : List Nat} {j : Nat}, j ∈ togs U w → j ∈ U ∨ j ∈ w
  | [], _, _, h => .inl h
  | k :: w, U, j, h => by
    rcases mem_togs w (U := tog1 U k) h with m | m
    · rcases mem_tog1.mp m with ⟨rfl, _⟩ | ⟨_, z⟩
      · exact .inr (by simp)
      · exact .inl z
    · exact .inr (by simp [m])
theorem togs_append (U w w' : List Nat) : togs U (w ++ w') = togs (togs U w) w' := List.foldl_append
theorem togs_new : ∀ (w : List Nat) {U : List Nat}, (U ++ w).Nodup → togs U w = U ++ w
  | [], U, _ => by simp [togs]
  | k :: w, U, h => by
    have hk : k ∉ U := fun m => by
      rw [List.nodup_append] at h
      exact h.2.2 k m k (by simp) rfl
    show togs (tog1 U k) w = _
    rw [show tog1 U k = U ++ [k] from if_neg hk]
    have e : U ++ k :: w = (U ++ [k]) ++ w := by simp
    rw [e] at h ⊢
    exact togs_new w h
theorem exc_congr {ps ps' : List P} : ∀ {w : List Nat} {x : Int}, (∀ j ∈ w, st ps j = st ps' j ∧ gl ps j = gl ps' j) → exc ps w x = exc ps' w x
  | [], _, _ => rfl
  | k :: w, x, h => by
    rw [exc_cons, exc_cons, (h k (by simp)).1, (h k (by simp)).2, exc_congr fun j hj => h j (by simp [hj])]
theorem filter_ne_perm {U : List Nat} {k : Nat} (nd : U.Nodup) (h : k ∈ U) : U.Perm (k :: U.filter (fun j => decide (j ≠ k))) := by
  have e : U.filter (fun j => decide (j ≠ k)) = U.erase k := by
    rw [nd.erase_eq_filter]
    apply List.filter_congr
    intro j _
    by_cases z : j = k <;> simp [z]
  rw [e]
  exact List.perm_cons_erase h
theorem exc_tog1 {ps : List P} {U : List Nat} {k : Nat} (hk : k < ps.length) (nd : U.Nodup) (x : Int) : exc ps (tog1 U k) x = exc ps U x + exc (turnL ps U) [k] x := by
  rw [exc_cons, exc_nil, st_turn hk, gl_turn hk]
  unfold tog1
  by_cases h : k ∈ U
  · rw [if_pos h, if_pos h, if_pos h]
    have p := exc_perm (ps := ps) (filter_ne_perm nd h) x
    rw [exc_cons] at p
    (clear hk; omega)
  · rw [if_neg h, if_neg h, if_neg h, exc_append, exc_cons, exc_nil]
theorem exc_togs {ps : List P} : ∀ (w : List Nat) {U : List Nat}, (∀ k ∈ w, k < ps.length) → U.Nodup → w.Nodup → ∀ x, exc ps (togs U w) x = exc ps U x + exc (turnL ps U) w x
  | [], U, _, _, _, x => by
    rw [exc_nil]
    show exc ps U x = _
    omega
  | k :: w, U, hw, nd, nw, x => by
    obtain ⟨h1, h2⟩ := List.nodup_cons.mp nw
    show exc ps (togs (tog1 U k) w) x = _
    rw [exc_togs w (fun j hj => hw j (by simp [hj])) (tog1_nodup k nd) h2 x, exc_tog1 (hw k (by simp)) nd x]
    have e : exc (turnL ps (tog1 U k)) w x = exc (turnL ps U) w x := by
      refine exc_congr fun j hj => ?_
      have hjl := hw j (by simp [hj])
      have m : (j ∈ tog1 U k) = (j ∈ U) := by
        have ne : j ≠ k := fun z => h1 (z ▸ hj)
        rw [eq_iff_iff, mem_tog1]
        simp [ne]
      rw [st_turn hjl, gl_turn hjl, st_turn hjl, gl_turn hjl]
      simp only [m, and_self]
    rw [e, exc_cons (turnL ps U) k w, exc_cons, exc_nil]
    (clear h1 e; omega)
structure Flow (ps : List P) (us : List Nat) (v : Int) (c : Nat) (U : List Nat) : Prop where
  nd : U.Nodup
  sub : ∀ k ∈ U, k ∈ us
  ex : ∀ x, exc ps U x = (c : Int) * (b2z (decide (v = x)) - b2z (decide (0 = x)))
theorem Flow.zero {ps : List P} {us : List Nat} {v : Int} : Flow ps us v 0 [] := ⟨List.nodup_nil, fun k h => by simp at h, fun x => by rw [exc_nil]; simp⟩
theorem Flow.perm {ps : List P} {us : List Nat} {v : Int} {c : Nat} {U W : List Nat} (h : Flow ps us v c U) (p : U.Perm W) : Flow ps us v c W :=
  ⟨p.nodup h.nd, fun k m => h.sub k (p.mem_iff.mpr m), fun x => by rw [← exc_perm p]; exact h.ex x⟩
theorem Flow.aug {ps : List P} {us : List Nat} {v : Int} {c : Nat} {U w : List Nat} (h : Flow ps us v c U) (hu : ∀ k ∈ us, k < ps.length) (W : IsWay (turnL ps U) us w v) : Flow ps us v (c + 1) (togs U w) := by
  refine ⟨togs_nodup w h.nd, fun k m => ?_, fun x => ?_⟩
  · rcases mem_togs w m with z | z
    · exact h.sub k z
    · exact W.us k z
  · rw [exc_togs w (fun k hk => hu k (W.us k hk)) h.nd W.nd x, h.ex x, exc_chain _ w 0 v W.ch x, Int.natCast_add, Int.add_mul]
    simp
theorem filter_notin_perm {L w : List Nat} (nl : L.Nodup) (nw : w.Nodup) (hs : ∀ k ∈ w, k ∈ L) : L.Perm (w ++ L.filter fun k => !decide (k ∈ w)) := by
  induction w generalizing L with
  | nil =>
    rw [List.nil_append, List.filter_eq_self.mpr (by simp)]
  | cons k w ih =>
    obtain ⟨h1, h2⟩ := List.nodup_cons.mp nw
    have p := filter_ne_perm nl (hs k (by simp))
    refine p.trans ?_
    rw [List.cons_append]
    refine List.Perm.cons k ?_
    have nd2 : (L.filter fun j => decide (j ≠ k)).Nodup := List.Pairwise.filter _ nl
    have q := ih nd2 h2 fun j hj => List.mem_filter.mpr ⟨hs j (by simp [hj]), by simp; rintro rfl; exact h1 hj⟩
    rw [List.filter_filter] at q
    have e : (L.filter fun a => (!decide (a ∈ w)) && decide (a ≠ k)) = L.filter fun a => !decide (a ∈ k :: w) := by
      apply List.filter_congr
      intro a _
      by_cases z : a = k <;> by_cases y : a ∈ w <;> simp [z, y]
    rw [e] at q
    exact q
theorem Flow.minus {ps : List P} {us : List Nat} {v : Int} {c : Nat} {L w : List Nat} (h : Flow ps us v (c + 1) L) (W : IsWay ps L w v) : Flow ps us v c (L.filter fun k => !decide (k ∈ w)) := by
  refine ⟨List.Pairwise.filter _ h.nd, fun k m => h.sub k (List.mem_filter.mp m).1, fun x => ?_⟩
  have p := exc_perm (ps := ps) (filter_notin_perm h.nd W.nd W.us) x
  rw [exc_append, h.ex x, exc_chain _ w 0 v W.ch x, Int.natCast_add, Int.add_mul] at p
  simp at p ⊢
  omega
theorem Flow.rows {ps : List P} {us : List Nat} {v : Int} : ∀ {ws : List (List Nat)}, (∀ w ∈ ws, IsWay ps us w v) → ws.flatten.Nodup → Flow ps us v ws.length ws.flatten
  | [], _, _ => Flow.zero
  | w :: ws, h, nd => by
    rw [List.flatten_cons] at nd ⊢
    have nd2 := (List.nodup_append.mp nd).2.1
    have F := Flow.rows (fun w' m => h w' (by simp [m])) nd2
    have W := h w (by simp)
    refine ⟨nd, fun k m => ?_, fun x => ?_⟩
    · rcases List.mem_append.mp m with z | z
      · exact W.us k z
      · exact F.sub k z
    · rw [exc_append, F.ex x, exc_chain _ w 0 v W.ch x, List.length_cons, Int.natCast_add, Int.add_mul]
      simp
      omega
theorem sum_mul (c : Int) (f : Int → Int) : ∀ vs : List Int, (vs.map fun x => c * f x).sum = c * (vs.map f).sum
  | [] => by simp
  | v :: vs => by simp only [List.map_cons, List.sum_cons, sum_mul c f vs, Int.mul_add]
theorem Flow.cut {ps : List P} {us : List Nat} {v : Int} {c : Nat} {U : List Nat} (h : Flow ps us v c U) {S : List Int} (nd : S.Nodup) (hv : v ∈ S) (h0 : (0 : Int) ∉ S) : (c : Int) = (inn ps U (fun x => decide (x ∈ S)) : Int) - (outt ps U (fun x => decide (x ∈ S)) : Int) := by
  rw [← exc_sum ps S nd U]
  have e : S.map (exc ps U) = S.map fun x => (c : Int) * (b2z (decide (v = x)) + - b2z (decide (0 = x))) := List.map_congr_left fun x _ => by rw [h.ex x]; rfl
  rw [e, sum_mul, sum_sub', sum_neg, sum_one v S nd, sum_one 0 S nd]
  simp [hv, h0, b2z]
theorem nodup_sub_len {α : Type} [DecidableEq α] : ∀ {l m : List α}, l.Nodup → (∀ x ∈ l, x ∈ m) → l.length ≤ m.length
  | [], _, _, _ => Nat.zero_le _
  | a :: l, m, nd, h => by
    obtain ⟨h1, h2⟩ := List.nodup_cons.mp nd
    have := nodup_sub_len (l := l) (m := m.erase a) h2 fun x hx => by
      have ne : x ≠ a := fun z => h1 (z ▸ hx)
      exact (List.mem_erase_of_ne ne).mpr (h x (by simp [hx]))
    have ha := h a (by simp)
    rw [List.length_erase_of_mem ha] at this
    have := List.length_pos_of_mem ha
    rw [List.length_cons]
    omega
theorem inn_sub {ps : List P} {U us : List Nat} (X : Int → Bool) (nd : U.Nodup) (h : ∀ k ∈ U, k ∈ us) : inn ps U X ≤ inn ps us X := by
  unfold inn
  refine nodup_sub_len (List.Pairwise.filter _ nd) fun k hk => ?_
  rw [List.mem_filter] at hk ⊢
  exact ⟨h k hk.1, hk.2⟩
theorem Flow.le {ps : List P} {us : List Nat} {v : Int} {c : Nat} {U : List Nat} (h : Flow ps us v c U) {S : List Int} (nd : S.Nodup) (hv : v ∈ S) (h0 : (0 : Int) ∉ S) : c ≤ inn ps us (fun x => decide (x ∈ S)) := by
  have a := h.cut nd hv h0
  have b := inn_sub (ps := ps) (fun x => decide (x ∈ S)) h.nd h.sub
  omega
noncomputable def dryL (size : Nat) (E : List (Int × Int)) : List Int := (nI (List.range size)).filter fun v => !decide (v ∈ reachL size E)
theorem dryL_mem {E : List (Int × Int)} {size : Nat} (hs : 1 ≤ size) (hE : ∀ e ∈ E, 0 ≤ e.2 ∧ e.2 < (size : Int)) (v : Int) : v ∈ dryL size E ↔ (0 ≤ v ∧ v < (size : Int)) ∧ ¬ Reach E v := by
  unfold dryL
  rw [List.mem_filter, Bool.not_eq_true', decide_eq_false_iff_not, reachL_mem hs hE]
  constructor
  · rintro ⟨h, r⟩
    obtain ⟨k, hk, rfl⟩ := nI_mem.mp h
    have := List.mem_range.mp hk
    exact ⟨by omega, r⟩
  · rintro ⟨h, r⟩
    exact ⟨nI_mem.mpr ⟨v.toNat, List.mem_range.mpr (by omega), by omega⟩, r⟩
theorem dryL_rise (size : Nat) (E : List (Int × Int)) : (dryL size E).Pairwise (· ≤ ·) := List.Pairwise.filter _ (nI_rise List.pairwise_lt_range)
theorem dryL_nodup (size : Nat) (E : List (Int × Int)) : (dryL size E).Nodup := List.Pairwise.filter _ (nI_nodup List.nodup_range)
theorem dryL_rng {size : Nat} {E : List (Int × Int)} : ∀ x ∈ dryL size E, 0 ≤ x ∧ x < (size : Int) := fun x hx => by
  obtain ⟨k, hk, rfl⟩ := nI_mem.mp (List.mem_filter.mp hx).1
  have := List.mem_range.mp hk
  omega
theorem filter_nil' {α : Type} {l : List α} {p : α → Bool} (h : ∀ x ∈ l, ¬ p x = true) : (l.filter p).length = 0 := by
  rw [List.filter_eq_nil_iff.mpr h]
  rfl
theorem Flow.comes {ps : List P} {us : List Nat} {v : Int} {c : Nat} {L : List Nat} {n : Nat} (h : Flow ps us v (c + 1) L) (lo : 1 ≤ n) (ok : ∀ x ∈ ps, Ok n x) (hu : ∀ k ∈ us, k < ps.length) (v0 : 0 ≤ v) (v1 : v < (n : Int)) : Reach (prs ps L) v := by
  have hL : ∀ k ∈ L, k < ps.length := fun k hk => hu k (h.sub k hk)
  have rg := prs_rng (n := (n : Int)) ok hL
  refine Classical.byContradiction fun hn => ?_
  have a := h.cut (S := dryL n (prs ps L)) (dryL_nodup _ _) ((dryL_mem lo rg v).mpr ⟨⟨v0, v1⟩, hn⟩) fun z => ((dryL_mem lo rg 0).mp z).2 .base
  have b : inn ps L (fun x => decide (x ∈ dryL n (prs ps L))) = 0 := by
    refine filter_nil' fun k hk => ?_
    have o := ok_k ok (hL k hk)
    intro z
    simp at z
    obtain ⟨z1, z2⟩ := z
    have r1 : Reach (prs ps L) (st ps k) := Classical.byContradiction fun y => z1 ((dryL_mem lo rg _).mpr ⟨o.1.1, y⟩)
    exact ((dryL_mem lo rg _).mp z2).2 (.step r1 (List.mem_map.mpr ⟨k, hk, rfl⟩))
  rw [b] at a
  (clear lo v0 v1 hn b; omega)
theorem Flow.bound {ps : List P} {us : List Nat} {v : Int} {c : Nat} {U : List Nat} {n : Nat} (h : Flow ps us v c U) (lo : 1 ≤ n) (ok : ∀ x ∈ ps, Ok n x) (nu : us.Nodup) (hu : ∀ k ∈ us, k < ps.length) (v0 : 0 ≤ v) (v1 : v < (n : Int)) (hn : ¬ Reach (prs (turnL ps U) us) v) :
    v ∈ dryL n (prs (turnL ps U) us) ∧ (0 : Int) ∉ dryL n (prs (turnL ps U) us) ∧ inn ps us (fun x => decide (x ∈ dryL n (prs (turnL ps U) us))) = c := by
  have rg := prs_rng (n := (n : Int)) (turnL_ok ok U) (us := us) (by rw [turnL_len]; exact hu)
  have mem := dryL_mem lo rg
  have m1 := (mem v).mpr ⟨⟨v0, v1⟩, hn⟩
  have m0 : (0 : Int) ∉ dryL n (prs (turnL ps U) us) := fun z => ((mem 0).mp z).2 .base
  refine ⟨m1, m0, ?_⟩
  have a := h.cut (S := dryL n (prs (turnL ps U) us)) (dryL_nodup _ _) m1 m0
  have edge : ∀ k ∈ us, Reach (prs (turnL ps U) us) (st (turnL ps U) k) → Reach (prs (turnL ps U) us) (gl (turnL ps U) k) := fun k hk r => .step r (List.mem_map.mpr ⟨k, hk, rfl⟩)
  have b : outt ps U (fun x => decide (x ∈ dryL n (prs (turnL ps U) us))) = 0 := by
    refine filter_nil' fun k hk => ?_
    have hl := hu k (h.sub k hk)
    have o := ok_k ok hl
    intro z
    simp at z
    obtain ⟨z1, z2⟩ := z
    have r1 : Reach (prs (turnL ps U) us) (gl ps k) := Classical.byContradiction fun y => z2 ((mem _).mpr ⟨o.1.2, y⟩)
    have e := edge k (h.sub k hk)
    rw [st_turn hl, gl_turn hl, if_pos hk, if_pos hk] at e
    exact ((mem _).mp z1).2 (e r1)
  have d := inn_sub (ps := ps) (fun x => decide (x ∈ dryL n (prs (turnL ps U) us))) h.nd h.sub
  have e : inn ps us (fun x => decide (x ∈ dryL n (prs (turnL ps U) us))) ≤ inn ps U (fun x => decide (x ∈ dryL n (prs (turnL ps U) us))) := by
    unfold inn
    refine nodup_sub_len (List.Pairwise.filter _ nu) fun k hk => ?_
    rw [List.mem_filter] at hk ⊢
    refine ⟨Classical.byContradiction fun hkU => ?_, hk.2⟩
    have hl := hu k hk.1
    have o := ok_k ok hl
    have z := hk.2
    simp at z
    obtain ⟨z1, z2⟩ := z
    have r1 : Reach (prs (turnL ps U) us) (st ps k) := Classical.byContradiction fun y => z1 ((mem _).mpr ⟨o.1.1, y⟩)
    have e := edge k hk.1
    rw [st_turn hl, gl_turn hl, if_neg hkU, if_neg hkU] at e
    exact ((mem _).mp z2).2 (e r1)
  (clear lo v0 v1 hn m0; omega)
noncomputable def CutOf (ps : List P) (us : List Nat) (v : Int) (c : Nat) : Prop := ∃ S : List Int, S.Nodup ∧ v ∈ S ∧ (0 : Int) ∉ S ∧ inn ps us (fun x => decide (x ∈ S)) = c
theorem CutOf.none {ps : List P} {us : List Nat} {v : Int} {c : Nat} {U w : List Nat} (h : CutOf ps us v c) (F : Flow ps us v c U) (hu : ∀ k ∈ us, k < ps.length) (W : IsWay (turnL ps U) us w v) : False := by
  obtain ⟨S, nd, hv, h0, e⟩ := h
  have := (F.aug hu W).le nd hv h0
  omega
theorem inn_into (ps : List P) (ss : List Int) : inn ps (opens ps) (fun x => decide (x ∈ ss)) = (intoL ps ss).length := rfl
end Sw

namespace Sw
theorem Flow.full {ps : List P} {v : Int} {c : Nat} {U : List Nat} (h : Flow ps (opens ps) v c U) (hv : v ≠ 0) (hc : ps.length ≤ c) : CutOf ps (opens ps) v c := by
  refine ⟨[v], by simp, by simp, by simp; exact fun z => hv z.symm, ?_⟩
  have a := h.le (S := [v]) (by simp) (by simp) (by simp; exact fun z => hv z.symm)
  have b := inn_le ps (opens ps) (fun x => decide (x ∈ [v]))
  have d := opens_len ps
  omega
end Sw

namespace Sw
noncomputable def rngL (i j : Int) : List Int := (List.range (j - i).toNat).map fun k : Nat => i + (k : Int)
theorem rngL_mem {i j x : Int} : x ∈ rngL i j ↔ i ≤ x ∧ x < j := by
  unfold rngL
  rw [List.mem_map]
  constructor
  · rintro ⟨k, hk, rfl⟩
    have := List.mem_range.mp hk
    omega
  · rintro ⟨h1, h2⟩
    exact ⟨(x - i).toNat, List.mem_range.mpr (by omega), by (clear h2; omega)⟩
theorem rngL_len (i j : Int) : (rngL i j).length = (j - i).toNat := by unfold rngL; rw [List.length_map, List.length_range]
theorem rngL_lt (i j : Int) : (rngL i j).Pairwise (· < ·) := by
  unfold rngL
  rw [List.pairwise_map]
  exact List.pairwise_lt_range.imp fun h => by omega
theorem rngL_nodup (i j : Int) : (rngL i j).Nodup := (rngL_lt i j).imp fun h => by omega
theorem sub_perm {α : Type} [DecidableEq α] : ∀ {a b : List α}, a.Nodup → (∀ x ∈ a, x ∈ b) → b.length ≤ a.length → a.Perm b
  | [], b, _, _, h => by
    have : b = [] := List.eq_nil_of_length_eq_zero (by simpa using h)
    subst this
    exact .nil
  | x :: a, b, nd, hs, h => by
    obtain ⟨h1, h2⟩ := List.nodup_cons.mp nd
    have hx := hs x (by simp)
    have p := List.perm_cons_erase hx
    refine (List.Perm.cons x (sub_perm h2 (fun y hy => ?_) ?_)).trans p.symm
    · have ne : y ≠ x := fun z => h1 (z ▸ hy)
      exact (List.mem_erase_of_ne ne).mpr (hs y (by simp [hy]))
    · rw [List.length_erase_of_mem hx]
      rw [List.length_cons] at h
      omega
structure TreeP (n : Nat) (ps : List P) (ch : List Nat) : Prop where
  op : ∀ k ∈ ch, Sw.op ps k = true
  gl : (ch.map (Sw.gl ps)).Perm (rngL 1 n)
  all : ∀ x : Int, 0 ≤ x → x < (n : Int) → Reach (prs ps ch) x
theorem TreeP.len {n : Nat} {ps : List P} {ch : List Nat} (h : TreeP n ps ch) (lo : 1 ≤ n) : ch.length + 1 = n := by
  have := h.gl.length_eq
  rw [List.length_map, rngL_len] at this
  omega
theorem tree_of {n : Nat} {ps : List P} {ch : List Nat} (hl : ch.length + 1 ≤ n) (ho : ∀ k ∈ ch, Sw.op ps k = true) (ha : ∀ x : Int, 0 ≤ x → x < (n : Int) → Reach (prs ps ch) x) : TreeP n ps ch := by
  refine ⟨ho, ?_, ha⟩
  refine (sub_perm (rngL_nodup 1 n) (fun x hx => ?_) ?_).symm
  · obtain ⟨h1, h2⟩ := rngL_mem.mp hx
    cases ha x (by (clear hl h2; omega)) h2 with
    | base => (clear hl h2; omega)
    | step _ m =>
      obtain ⟨k, hk, e⟩ := List.mem_map.mp m
      exact List.mem_map.mpr ⟨k, hk, (Prod.mk.inj e).2⟩
  · rw [List.length_map, rngL_len]
    omega
theorem prs_perm {ps : List P} {a b : List Nat} (h : a.Perm b) {v : Int} : Reach (prs ps a) v ↔ Reach (prs ps b) v := by
  have q : (prs ps a).Perm (prs ps b) := h.map _
  exact ⟨fun r => r.mono fun e he => q.mem_iff.mp he, fun r => r.mono fun e he => q.mem_iff.mpr he⟩
theorem TreeP.perm {n : Nat} {ps : List P} {a b : List Nat} (h : TreeP n ps a) (p : a.Perm b) : TreeP n ps b :=
  ⟨fun k hk => h.op k (p.mem_iff.mpr hk), (p.map _).symm.trans h.gl, fun x h0 h1 => (prs_perm p).mp (h.all x h0 h1)⟩
theorem reach_all {n : Nat} {E : List (Int × Int)} (lo : 1 ≤ n) (hE : ∀ e ∈ E, 0 ≤ e.2 ∧ e.2 < (n : Int)) : (reachL n E).length = n ↔ ∀ x : Int, 0 ≤ x → x < (n : Int) → Reach E x := by
  constructor
  · intro h x h0 h1
    have nd := reachL_nodup n E
    refine Classical.byContradiction fun hr => ?_
    have hx : x ∉ reachL n E := fun z => hr ((reachL_mem lo hE x).mp z)
    have := nodup_bound n (x :: reachL n E) (List.nodup_cons.mpr ⟨hx, nd⟩) fun y hy => by
      rcases List.mem_cons.mp hy with rfl | hy
      · exact ⟨h0, h1⟩
      · exact reachL_rng y hy
    rw [List.length_cons] at this
    (clear lo h0 h1 hr hx; omega)
  · intro h
    have h1 := reachL_len n E
    have h2 := nodup_sub_len (l := rngL 0 n) (m := reachL n E) (rngL_nodup 0 n) fun x hx => by
      obtain ⟨a, b⟩ := rngL_mem.mp hx
      exact (reachL_mem lo hE x).mpr (h x a b)
    rw [rngL_len] at h2
    (clear lo; omega)
end Sw

namespace Sw
noncomputable def Enough (n : Nat) (ps : List P) (L : List Nat) (k : Nat) : Prop := ∀ X : Int → Bool, X 0 = false → (∃ v : Int, 0 ≤ v ∧ v < (n : Int) ∧ X v = true) → k ≤ inn ps L X
theorem inn_cons (ps : List P) (k : Nat) (L : List Nat) (X : Int → Bool) : inn ps (k :: L) X = (if (!X (st ps k) && X (gl ps k)) = true then 1 else 0) + inn ps L X := by
  unfold inn
  rw [List.filter_cons]
  split
  · rw [List.length_cons, Nat.add_comm]
  · rw [Nat.zero_add]
theorem sub2 : ∀ a b x y : Bool, (if (!(a && x) && (b && y)) = true then 1 else 0) + (if (!(a || x) && (b || y)) = true then 1 else 0) ≤ (if (!a && b) = true then 1 else 0) + (if (!x && y) = true then 1 else 0) := by decide
theorem add4 {a b c d e f g h : Nat} (h1 : a + b ≤ c + d) (h2 : e + f ≤ g + h) : (a + e) + (b + f) ≤ (c + g) + (d + h) := by omega
theorem inn_sub2 (ps : List P) (A X : Int → Bool) (L : List Nat) : inn ps L (fun v => A v && X v) + inn ps L (fun v => A v || X v) ≤ inn ps L A + inn ps L X := by
  induction L with
  | nil => exact Nat.le_refl _
  | cons k L ih =>
    rw [inn_cons, inn_cons, inn_cons, inn_cons]
    exact add4 (sub2 _ _ _ _) ih
noncomputable def card (n : Nat) (A : Int → Bool) : Nat := ((nI (List.range n)).filter A).length
theorem card_lt {n : Nat} {A B : Int → Bool} (h : ∀ v, B v = true → A v = true) {u : Int} (u0 : 0 ≤ u) (u1 : u < (n : Int)) (hA : A u = true) (hB : B u = false) : card n B < card n A := by
  unfold card
  have nd : (u :: (nI (List.range n)).filter B).Nodup := by
    refine List.nodup_cons.mpr ⟨fun z => ?_, List.Pairwise.filter _ (nI_nodup List.nodup_range)⟩
    have := (List.mem_filter.mp z).2
    rw [hB] at this
    cases this
  have := nodup_sub_len (m := (nI (List.range n)).filter A) nd fun x hx => by
    rcases List.mem_cons.mp hx with rfl | hx
    · exact List.mem_filter.mpr ⟨nI_mem.mpr ⟨x.toNat, List.mem_range.mpr (by omega), by (clear u1 hA hB; omega)⟩, hA⟩
    · have := List.mem_filter.mp hx
      exact List.mem_filter.mpr ⟨this.1, h x this.2⟩
  rw [List.length_cons] at this
  (clear u0 u1 hA hB; omega)
theorem less_inn {ps : List P} {L : List Nat} {e : Nat} (nd : L.Nodup) (he : e ∈ L) (X : Int → Bool) : inn ps L X = (if (!X (st ps e) && X (gl ps e)) = true then 1 else 0) + inn ps (less L e) X := by
  have p := filter_ne_perm nd he
  have q : inn ps L X = inn ps (e :: L.filter fun j => decide (j ≠ e)) X := by
    unfold inn
    exact (p.filter _).length_eq
  rw [q, inn_cons]
  rfl
theorem filter_pos {α : Type} {l : List α} {p : α → Bool} (h : 0 < (l.filter p).length) : ∃ x ∈ l, p x = true := by
  obtain ⟨x, hx⟩ := List.exists_mem_of_length_pos h
  exact ⟨x, (List.mem_filter.mp hx).1, (List.mem_filter.mp hx).2⟩
theorem min_of (p : Nat → Prop) (h : ∃ c, p c) : ∃ c, p c ∧ ∀ d, d < c → ¬ p d := by
  obtain ⟨c, hc⟩ := h
  induction c using Nat.strongRecOn with
  | _ c ih =>
    by_cases z : ∃ d, d < c ∧ p d
    · obtain ⟨d, hd, pd⟩ := z
      exact ih d hd pd
    · exact ⟨c, hc, fun d hd pd => z ⟨d, hd, pd⟩⟩
theorem enters_one {ps : List P} {A B : Int → Bool} : ∀ {L : List Nat}, inn ps L A < inn ps L B → ∃ e ∈ L, (!B (st ps e) && B (gl ps e)) = true ∧ ¬ (!A (st ps e) && A (gl ps e)) = true
  | [], h => absurd h (Nat.lt_irrefl _)
  | k :: L, h => by
    rw [inn_cons, inn_cons] at h
    by_cases b : (!B (st ps k) && B (gl ps k)) = true
    · by_cases a : (!A (st ps k) && A (gl ps k)) = true
      · rw [if_pos a, if_pos b] at h
        obtain ⟨e, he, q⟩ := enters_one (ps := ps) (L := L) (A := A) (B := B) (by omega)
        exact ⟨e, by simp [he], q⟩
      · exact ⟨k, by simp, b, a⟩
    · rw [if_neg b] at h
      obtain ⟨e, he, q⟩ := enters_one (ps := ps) (L := L) (A := A) (B := B) (by omega)
      exact ⟨e, by simp [he], q⟩
theorem spare {n : Nat} {ps : List P} {R : List Nat} {m : Nat} {W : Int → Bool} (ok : ∀ x ∈ ps, Ok n x) (nd : R.Nodup) (rg : ∀ k ∈ R, k < ps.length) (w0 : W 0 = true) (I1 : Enough n ps R m)
    (I2 : ∀ X : Int → Bool, (∀ v, X v = true → W v = false) → (∃ v : Int, 0 ≤ v ∧ v < (n : Int) ∧ X v = true) → m + 1 ≤ inn ps R X) (hv : ∃ v : Int, 0 ≤ v ∧ v < (n : Int) ∧ W v = false) :
    ∃ e ∈ R, W (st ps e) = true ∧ W (gl ps e) = false ∧ Enough n ps (less R e) m := by
  -- it is enough that no set which the pipe enters is tight
  have done : ∀ e ∈ R, (∀ X : Int → Bool, X 0 = false → (!X (st ps e) && X (gl ps e)) = true → m + 1 ≤ inn ps R X) → Enough n ps (less R e) m := fun e he h X h0 hX => by
    have q := less_inn (ps := ps) nd he X
    by_cases c : (!X (st ps e) && X (gl ps e)) = true
    · have := h X h0 c
      rw [if_pos c] at q
      omega
    · have := I1 X h0 hX
      rw [if_neg c] at q
      omega
  by_cases ex : ∃ c, ∃ A : Int → Bool, card n A = c ∧ A 0 = false ∧ inn ps R A = m ∧ ∃ v : Int, 0 ≤ v ∧ v < (n : Int) ∧ A v = true ∧ W v = false
  · obtain ⟨c, ⟨A, hc, a0, ha, v, v0, v1, av, wv⟩, mn⟩ := min_of _ ex
    have big := I2 (fun x => A x && !W x) (fun x hx => by simp at hx; exact hx.2) ⟨v, v0, v1, by simp [av, wv]⟩
    obtain ⟨e, he, e1, e2⟩ := enters_one (ps := ps) (A := A) (B := fun x => A x && !W x) (L := R) (by (clear w0 hc a0 v0 v1 av wv; omega))
    have o := ok_k ok (rg e he)
    have c1 : A (gl ps e) = true ∧ W (gl ps e) = false := by
      simp at e1
      exact e1.2
    have c2 : A (st ps e) = true := by
      cases z : A (st ps e) with
      | true => rfl
      | false => exact absurd (by simp [z, c1.1]) e2
    have c3 : W (st ps e) = true := by
      simp [c2] at e1
      exact e1.1
    refine ⟨e, he, c3, c1.2, done e he fun X x0 hX => ?_⟩
    have hX' : X (st ps e) = false ∧ X (gl ps e) = true := by simpa using hX
    refine Classical.byContradiction fun lt => ?_
    have sm := inn_sub2 ps A X R
    have l1 := I1 (fun x => A x && X x) (by simp [a0]) ⟨gl ps e, o.1.2.1, o.1.2.2, by simp [c1.1, hX'.2]⟩
    have l2 := I1 (fun x => A x || X x) (by simp [a0, x0]) ⟨gl ps e, o.1.2.1, o.1.2.2, by simp [c1.1]⟩
    have lx := I1 X x0 ⟨gl ps e, o.1.2.1, o.1.2.2, hX'.2⟩
    have t : inn ps R (fun x => A x && X x) = m := by (clear w0 hc a0 v0 v1 av wv big e1 e2 o c1 c2 c3 x0 hX hX' lx; omega)
    refine mn (card n fun x => A x && X x) ?_ ⟨fun x => A x && X x, rfl, by simp [a0], t, gl ps e, o.1.2.1, o.1.2.2, by simp [c1.1, hX'.2], c1.2⟩
    rw [← hc]
    exact card_lt (fun x hx => by simp at hx; exact hx.1) o.1.1.1 o.1.1.2 c2 (by simp [hX'.1])
  · obtain ⟨v, v0, v1, wv⟩ := hv
    have big := I2 (fun x => !W x) (fun x hx => by simpa using hx) ⟨v, v0, v1, by simp [wv]⟩
    obtain ⟨e, he, q⟩ := filter_pos (l := R) (p := fun k => !(!W (st ps k)) && !W (gl ps k)) (by
      have : inn ps R (fun x => !W x) = (R.filter fun k => !(!W (st ps k)) && !W (gl ps k)).length := rfl
      (clear w0 ex v0 v1 wv; omega))
    have o := ok_k ok (rg e he)
    have q' : W (st ps e) = true ∧ W (gl ps e) = false := by simpa using q
    refine ⟨e, he, q'.1, q'.2, done e he fun X x0 hX => ?_⟩
    have hX' : X (st ps e) = false ∧ X (gl ps e) = true := by simpa using hX
    have lx := I1 X x0 ⟨gl ps e, o.1.2.1, o.1.2.2, hX'.2⟩
    refine Classical.byContradiction fun lt => ex ⟨_, X, rfl, x0, by (clear w0 ex v0 v1 wv big q o q' x0 hX hX'; omega), gl ps e, o.1.2.1, o.1.2.2, hX'.2, q'.2⟩
theorem inn_list {n : Nat} {ps : List P} {L : List Nat} (ok : ∀ x ∈ ps, Ok n x) (rg : ∀ k ∈ L, k < ps.length) (X : Int → Bool) : inn ps L X = inn ps L (fun v => decide (v ∈ (nI (List.range n)).filter X)) := by
  have e : ∀ v : Int, 0 ≤ v → v < (n : Int) → decide (v ∈ (nI (List.range n)).filter X) = X v := fun v h0 h1 => by
    have m : v ∈ nI (List.range n) := nI_mem.mpr ⟨v.toNat, List.mem_range.mpr (by omega), by (clear h1; omega)⟩
    rw [Bool.eq_iff_iff, decide_eq_true_iff, List.mem_filter]
    exact ⟨fun h => h.2, fun h => ⟨m, h⟩⟩
  unfold inn
  congr 1
  apply List.filter_congr
  intro k hk
  have o := ok_k ok (rg k hk)
  show _ = (!decide (st ps k ∈ (nI (List.range n)).filter X) && decide (gl ps k ∈ (nI (List.range n)).filter X))
  rw [e _ o.1.1.1 o.1.1.2, e _ o.1.2.1 o.1.2.2]
theorem Flow.enters {n : Nat} {ps : List P} {us : List Nat} {v : Int} {c : Nat} {U : List Nat} (F : Flow ps us v c U) (ok : ∀ x ∈ ps, Ok n x) (rg : ∀ k ∈ us, k < ps.length) (X : Int → Bool) (h0 : X 0 = false) (v0 : 0 ≤ v) (v1 : v < (n : Int)) (hv : X v = true) : c ≤ inn ps us X := by
  rw [inn_list ok rg X]
  refine F.le (List.Pairwise.filter _ (nI_nodup List.nodup_range)) (List.mem_filter.mpr ⟨nI_mem.mpr ⟨v.toNat, List.mem_range.mpr (by omega), by (clear h0 v1 hv; omega)⟩, hv⟩) fun z => ?_
  have := (List.mem_filter.mp z).2
  rw [h0] at this
  cases this
theorem enough_of {n : Nat} {ps : List P} {us : List Nat} {k : Nat} (ok : ∀ x ∈ ps, Ok n x) (rg : ∀ k ∈ us, k < ps.length) (h : ∀ v : Int, 1 ≤ v → v < (n : Int) → ∃ c U, k ≤ c ∧ Flow ps us v c U) : Enough n ps us k := fun X h0 ⟨v, v0, v1, hv⟩ => by
  have : v ≠ 0 := fun z => by subst z; rw [h0] at hv; cases hv
  obtain ⟨c, U, hc, F⟩ := h v (by omega) v1
  have := F.enters ok rg X h0 v0 v1 hv
  (clear h0 v0 v1 hv; omega)
theorem Enough.cut {n : Nat} {ps : List P} {us : List Nat} {k c : Nat} {v : Int} (h : Enough n ps us k) (v0 : 0 ≤ v) (v1 : v < (n : Int)) (C : CutOf ps us v c) : k ≤ c := by
  obtain ⟨S, nd, hv, h0, e⟩ := C
  rw [← e]
  exact h _ (by simp [h0]) ⟨v, v0, v1, by simp [hv]⟩
theorem enough_less {n : Nat} {ps : List P} {R : List Nat} {m e : Nat} {U : List Nat} (ok : ∀ x ∈ ps, Ok n x) (nd : R.Nodup) (rg : ∀ k ∈ R, k < ps.length) (he : e ∈ R) (I1 : Enough n ps R m) (F : Flow ps (less R e) (gl ps e) m U) : Enough n ps (less R e) m := fun X h0 hX => by
  have o := ok_k ok (rg e he)
  by_cases c : X (gl ps e) = true
  · exact F.enters ok (fun k hk => rg k (less_sub hk)) X h0 o.1.2.1 o.1.2.2 c
  · have q := less_inn (ps := ps) nd he X
    rw [if_neg (by simp [c])] at q
    have := I1 X h0 hX
    (clear h0 o c; omega)
structure Grow (n : Nat) (ps : List P) (us : List Nat) (m : Nat) (T : List Nat) (W : List Int) : Prop where
  nd : T.Nodup
  sub : ∀ k ∈ T, k ∈ us
  gls : ∀ k ∈ T, gl ps k ∈ W
  wn : W.Nodup
  w0 : (0 : Int) ∈ W
  wr : ∀ x ∈ W, 0 ≤ x ∧ x < (n : Int)
  len : T.length + 1 = W.length
  rch : ∀ x ∈ W, Reach (prs ps T) x
  en : Enough n ps (us.filter fun k => !decide (k ∈ T)) m
theorem Grow.start {n : Nat} {ps : List P} {us : List Nat} {m : Nat} (lo : 1 ≤ n) (h : Enough n ps us (m + 1)) : Grow n ps us m [] [0] := by
  refine ⟨List.nodup_nil, by simp, by simp, by simp, by simp, fun x hx => ?_, rfl, fun x hx => ?_, ?_⟩
  · have : x = 0 := by simpa using hx
    omega
  · have : x = 0 := by simpa using hx
    subst this
    exact .base
  · rw [List.filter_eq_self.mpr (by simp)]
    exact fun X a b => Nat.le_trans (Nat.le_succ m) (h X a b)
theorem filter_less (us T : List Nat) (e : Nat) : less (us.filter fun k => !decide (k ∈ T)) e = us.filter fun k => !decide (k ∈ T ++ [e]) := by
  unfold less
  rw [List.filter_filter]
  apply List.filter_congr
  intro k _
  by_cases a : k ∈ T <;> by_cases b : k = e <;> simp [a, b]
theorem Grow.step {n : Nat} {ps : List P} {us : List Nat} {m : Nat} {T : List Nat} {W : List Int} {e : Nat} (g : Grow n ps us m T W) (ok : ∀ x ∈ ps, Ok n x) (rg : ∀ k ∈ us, k < ps.length) (he : e ∈ us.filter fun k => !decide (k ∈ T)) (hs : st ps e ∈ W) (hg : gl ps e ∉ W)
    (en : Enough n ps (less (us.filter fun k => !decide (k ∈ T)) e) m) : Grow n ps us m (T ++ [e]) (W ++ [gl ps e]) := by
  have heu := (List.mem_filter.mp he).1
  have heT : e ∉ T := by simpa using (List.mem_filter.mp he).2
  have o := ok_k ok (rg e heu)
  refine ⟨nodup_snoc g.nd heT, fun k hk => ?_, fun k hk => ?_, nodup_snoc g.wn hg, by simp [g.w0], fun x hx => ?_, by rw [List.length_append, List.length_append]; have := g.len; simp; (clear hg heT o; omega), fun x hx => ?_, by rw [← filter_less]; exact en⟩
  · rcases List.mem_append.mp hk with z | z
    · exact g.sub k z
    · rw [List.mem_singleton.mp z]; exact heu
  · rcases List.mem_append.mp hk with z | z
    · exact List.mem_append.mpr (.inl (g.gls k z))
    · rw [List.mem_singleton.mp z]; simp
  · rcases List.mem_append.mp hx with z | z
    · exact g.wr x z
    · rw [List.mem_singleton.mp z]; exact o.1.2
  · have mono : ∀ p ∈ prs ps T, p ∈ prs ps (T ++ [e]) := fun p hp => by unfold prs at hp ⊢; rw [List.map_append]; exact List.mem_append.mpr (.inl hp)
    rcases List.mem_append.mp hx with z | z
    · exact (g.rch x z).mono mono
    · rw [List.mem_singleton.mp z]
      refine .step ((g.rch _ hs).mono mono) ?_
      unfold prs
      rw [List.map_append]
      simp
theorem Grow.next {n : Nat} {ps : List P} {us : List Nat} {m : Nat} {T : List Nat} {W : List Int} (g : Grow n ps us m T W) (h : Enough n ps us (m + 1)) (ok : ∀ x ∈ ps, Ok n x) (nd : us.Nodup) (rg : ∀ k ∈ us, k < ps.length) (hl : W.length < n) :
    ∃ e ∈ us.filter (fun k => !decide (k ∈ T)), st ps e ∈ W ∧ gl ps e ∉ W ∧ Enough n ps (less (us.filter fun k => !decide (k ∈ T)) e) m := by
  obtain ⟨e, he, a, b, c⟩ := spare (n := n) (ps := ps) (R := us.filter fun k => !decide (k ∈ T)) (m := m) (W := fun v => decide (v ∈ W)) ok (List.Pairwise.filter _ nd) (fun k hk => rg k (List.mem_filter.mp hk).1) (by simp [g.w0]) g.en
    (fun X hX ⟨v, v0, v1, hv⟩ => by
      have x0 : X 0 = false := by
        cases z : X 0 with
        | false => rfl
        | true => have := hX 0 z; simp [g.w0] at this
      refine Nat.le_trans (h X x0 ⟨v, v0, v1, hv⟩) ?_
      unfold inn
      refine nodup_sub_len (List.Pairwise.filter _ nd) fun k hk => ?_
      rw [List.mem_filter] at hk ⊢
      refine ⟨List.mem_filter.mpr ⟨hk.1, ?_⟩, hk.2⟩
      have q : X (gl ps k) = true := by have := hk.2; simp at this; exact this.2
      have w := hX _ q
      simp at w
      have : k ∉ T := fun z => w (g.gls k z)
      simp [this])
    (Classical.byContradiction fun z => by
      have all : ∀ x ∈ rngL 0 n, x ∈ W := fun x hx => Classical.byContradiction fun y => by
        obtain ⟨h0, h1⟩ := rngL_mem.mp hx
        exact z ⟨x, h0, h1, by simp [y]⟩
      have := nodup_sub_len (rngL_nodup 0 n) all
      rw [rngL_len] at this
      omega)
  exact ⟨e, he, by simpa using a, by simpa using b, c⟩
theorem Grow.tree {n : Nat} {ps : List P} {us : List Nat} {m : Nat} {T : List Nat} {W : List Int} (g : Grow n ps us m T W) (hl : n ≤ W.length) (ho : ∀ k ∈ us, op ps k = true) : TreeP n ps T := by
  have hw : W.length ≤ n := nodup_bound n W g.wn g.wr
  have all : ∀ x : Int, 0 ≤ x → x < (n : Int) → x ∈ W := fun x h0 h1 => Classical.byContradiction fun z => by
    have := nodup_bound n (x :: W) (List.nodup_cons.mpr ⟨z, g.wn⟩) fun y hy => by
      rcases List.mem_cons.mp hy with rfl | hy
      · exact ⟨h0, h1⟩
      · exact g.wr y hy
    rw [List.length_cons] at this
    (clear h0 h1 z hw; omega)
  refine tree_of (by have := g.len; (clear hl; omega)) (fun k hk => ho k (g.sub k hk)) fun x h0 h1 => g.rch x (all x h0 h1)
end Sw

namespace Sw
end Sw

set_option linter.all false
namespace Sw
theorem reach_enters {ps : List P} {us : List Nat} {X : Int → Bool} {v : Int} (r : Reach (prs ps us) v) (x0 : X 0 = false) (xv : X v = true) : 1 ≤ inn ps us X := by
  induction r with
  | base => rw [x0] at xv; cases xv
  | @step u v r m ih =>
    cases hu : X u with
    | true => exact ih hu
    | false =>
      obtain ⟨k, hk, e⟩ := List.mem_map.mp m
      obtain ⟨e1, e2⟩ := Prod.mk.inj e
      refine List.length_pos_of_mem (a := k) (List.mem_filter.mpr ⟨hk, ?_⟩)
      rw [e1, e2, hu, xv]
      rfl
theorem inn_app (ps : List P) (a b : List Nat) (X : Int → Bool) : inn ps (a ++ b) X = inn ps a X + inn ps b X := by
  unfold inn
  rw [List.filter_append, List.length_append]
theorem inn_flat {ps : List P} {X : Int → Bool} : ∀ {ts : List (List Nat)}, (∀ t ∈ ts, 1 ≤ inn ps t X) → ts.length ≤ inn ps ts.flatten X
  | [], _ => Nat.zero_le _
  | t :: ts, h => by
    have a := h t (by simp)
    have b := inn_flat (ts := ts) fun u hu => h u (by simp [hu])
    rw [List.flatten_cons, inn_app, List.length_cons]
    omega
theorem trees_enough {n : Nat} {ps : List P} {ts : List (List Nat)} (ht : ∀ t ∈ ts, TreeP n ps t) (nd : ts.flatten.Nodup) (op : ∀ t ∈ ts, ∀ k ∈ t, k ∈ opens ps) : Enough n ps (opens ps) ts.length := fun X x0 hX => by
  obtain ⟨v, v0, v1, xv⟩ := hX
  refine Nat.le_trans (inn_flat fun t h => reach_enters ((ht t h).all v v0 v1) x0 xv) (inn_sub X nd fun k hk => ?_)
  obtain ⟨t, h1, h2⟩ := List.mem_flatten.mp hk
  exact op t h1 k h2
end Sw

set_option Elab.async false
set_option linter.all false
set_option maxRecDepth 100000
namespace Sp
open PySem L2

structure Ext (S : List Addr) (H H' : Hp) : Prop where
  keep : ∀ b o, H b = some o → b ∉ S → H' b = some o
  tups : ∀ b xs, H b = some (.tup xs) → H' b = some (.tup xs)
  frzs : ∀ b o u, H b = some (.frz o u) → H' b = some (.frz o u)
theorem Ext.refl {S : List Addr} {H : Hp} : Ext S H H := ⟨fun _ _ e _ => e, fun _ _ e => e, fun _ _ _ e => e⟩
theorem Ext.trans {S : List Addr} {H H1 H2 : Hp} (a : Ext S H H1) (b : Ext S H1 H2) : Ext S H H2 := ⟨fun c o e n => b.keep c o (a.keep c o e n) n, fun c xs e => b.tups c xs (a.tups c xs e), fun c o u e => b.frzs c o u (a.frzs c o u e)⟩
theorem Ext.mono {S S' : List Addr} {H H' : Hp} (a : Ext S H H') (h : ∀ b, b ∈ S → b ∈ S') : Ext S' H H' := ⟨fun c o e n => a.keep c o e fun z => n (h c z), a.tups, a.frzs⟩
theorem Ext.of_same {S : List Addr} {H H' : Hp} (a : Same H H') : Ext S H H' := ⟨fun b o e _ => a b o e, fun b xs e => a b _ e, fun b o u e => a b _ e⟩
theorem Ext.new {S : List Addr} {H : Hp} {p : Addr} {o : HO} (h : H p = none) : Ext S H (upd H p o) :=
  Ext.of_same fun b u e => by rw [upd_ne (ne_of_none e h)]; exact e
theorem Ext.put {S : List Addr} {H : Hp} {p : Addr} {o u : HO} (h : H p = some u) (hS : p ∈ S) (hu : ∀ xs, u ≠ .tup xs) (hf : ∀ o' u', u ≠ .frz o' u') : Ext S H (upd H p o) :=
  ⟨fun b v e n => by rw [upd_ne (fun (z : b = p) => n (by rw [z]; exact hS))]; exact e, fun b xs e => by
    rw [upd_ne (fun z => by subst z; rw [h] at e; exact hu xs (Option.some.inj e))]; exact e, fun b o' u' e => by
    rw [upd_ne (fun z => by subst z; rw [h] at e; exact hf o' u' (Option.some.inj e))]; exact e⟩
theorem Ext.putL {S : List Addr} {H : Hp} {p : Addr} {xs : List V} {o : HO} (h : H p = some (.lst xs)) (hS : p ∈ S) : Ext S H (upd H p o) := Ext.put h hS (by intro xs z; cases z) (by intro a b z; cases z)
noncomputable def ScrAt (K : PySem.W.Frag) (H : Hp) (a : Addr) (xs : List V) : Prop := (∃ o, H a = some (.frz o (.lst xs))) ∨
  ∃ (o : Obj) (its : Array Value) (n : Nat), K.lookup a = some o ∧ o.cls = .type "list" ∧ o.dict = none ∧ o.data = .seq its n ∧ its.size ≤ sizeLine ∧ Vals xs its.toList
theorem ScrAt.sq {K : PySem.W.Frag} {H : Hp} {a : Addr} {xs : List V} (h : ScrAt K H a xs) : SqL K H a xs := by
  rcases h with ⟨o, e⟩ | h
  · exact .inl (.inr ⟨o, e⟩)
  · exact .inr h
theorem ScrAt.ext {K : PySem.W.Frag} {S : List Addr} {H H' : Hp} {a : Addr} {xs : List V} (h : ScrAt K H a xs) (e : Ext S H H') : ScrAt K H' a xs := by
  rcases h with ⟨o, q⟩ | h
  · exact .inl ⟨o, e.frzs _ _ _ q⟩
  · exact .inr h
theorem Ext.over {S S' : List Addr} {H H' H'' : Hp} (a : Ext S H H') (b : Ext S' H' H'') (n : ∀ c ∈ S', H c = none) : Ext S H H'' :=
  ⟨fun c o e z => b.keep c o (a.keep c o e z) (fun y => by rw [n c y] at e; cases e), fun c xs e => b.tups c xs (a.tups c xs e), fun c o u e => b.frzs c o u (a.frzs c o u e)⟩
theorem Ext.over1 {S : List Addr} {H H' H'' : Hp} {d : Addr} (a : Ext S H H') (b : Ext [d] H' H'') (n : H d = none) : Ext S H H'' := a.over b (by intro c hc; simp at hc; rw [hc]; exact n)
theorem Ext.free {H H' : Hp} {S : List Addr} (a : Ext S H H') {b : Addr} (h : H' b = none) (n : b ∉ S) : H b = none := by
  cases e : H b with
  | none => rfl
  | some o => rw [a.keep b o e n] at h; cases h
theorem fresh_ne {H : Hp} {a b : Addr} {o : HO} (h : H a = some o) (n : H b = none) : b ≠ a := fun z => by subst z; rw [h] at n; cases n

theorem ne_el : ¬ (("extent" : Str) = "laid") := by decide +kernel
noncomputable def flds (n : Int) (l : Addr) : List (Str × V) := putF "laid" (.ref l) (putF "extent" (.int n) [])
theorem flds_laid (n : Int) (l : Addr) : (flds n l).lookup ("laid" : Str) = some (.ref l) := by
  unfold flds
  rw [lookup_putF, if_pos rfl]
theorem flds_extent (n : Int) (l : Addr) : (flds n l).lookup ("extent" : Str) = some (.int n) := by
  unfold flds
  rw [lookup_putF, if_neg ne_el, lookup_putF, if_pos rfl]
theorem flds_no (n : Int) (l : Addr) {m : Str} (h1 : ¬ m = "laid") (h2 : ¬ m = "extent") : (flds n l).lookup m = none := by
  unfold flds
  rw [lookup_putF, if_neg h1, lookup_putF, if_neg h2]
  all_goals rfl

noncomputable abbrev Pt := Int × Int × Bool
noncomputable def tupOf (p : Pt) : HO := .tup [.int p.1, .int p.2.1, .bl p.2.2]
noncomputable abbrev Tups (H : Hp) : List Addr → List Pt → Prop := Paired fun t p => H t = some (tupOf p)
theorem Tups.mono {H H' : Hp} (h : ∀ b xs, H b = some (.tup xs) → H' b = some (.tup xs)) : ∀ {ts : List Addr} {ps : List Pt}, Tups H ts ps → Tups H' ts ps := fun {_ _} t => Paired.mapP t fun _ _ r => h _ _ r
theorem Tups.get {H : Hp} : ∀ {ts : List Addr} {ps : List Pt} {i : Nat} {p : Pt}, Tups H ts ps → ps[i]? = some p → ∃ t, ts[i]? = some t ∧ H t = some (tupOf p) := fun {_ _ _ _} t e => by
  have z := pr_getR t e
  exact z
theorem Tups.len {H : Hp} {ts : List Addr} {ps : List Pt} (h : Tups H ts ps) : ts.length = ps.length := Paired.length h
theorem Tups.snoc {H : Hp} {t : Addr} {p : Pt} (r : H t = some (tupOf p)) : ∀ {ts : List Addr} {ps : List Pt}, Tups H ts ps → Tups H (ts ++ [t]) (ps ++ [p]) := fun {_ _} t => pr_snoc t r
theorem Tups.set {H : Hp} {t : Addr} {p : Pt} (r : H t = some (tupOf p)) : ∀ {ts : List Addr} {ps : List Pt} (i : Nat), Tups H ts ps → Tups H (ts.set i t) (ps.set i p) := fun {_ _} i t => pr_set (F := fun (t : Addr) (p : Pt) => H t = some (tupOf p)) r i t
noncomputable def PipesAt (H : Hp) (l : Addr) (ps : List Pt) : Prop := ∃ ts : List Addr, H l = some (.lst (ts.map V.ref)) ∧ Tups H ts ps
theorem PipesAt.ext {S : List Addr} {H H' : Hp} {l : Addr} {ps : List Pt} (h : PipesAt H l ps) (e : Ext S H H') (n : l ∉ S) : PipesAt H' l ps := by
  obtain ⟨ts, a, b⟩ := h
  exact ⟨ts, e.keep _ _ a n, b.mono e.tups⟩
structure NetAt (C : Addr) (H : Hp) (p l : Addr) (n : Int) (ps : List Pt) : Prop where
  ob : ∃ dx, H p = some (.ins C dx (flds n l))
  li : PipesAt H l ps
theorem NetAt.ext {C : Addr} {S : List Addr} {H H' : Hp} {p l : Addr} {n : Int} {ps : List Pt} (h : NetAt C H p l n ps) (e : Ext S H H') (np : p ∉ S) (nl : l ∉ S) : NetAt C H' p l n ps := by
  obtain ⟨⟨dx, a⟩, b⟩ := h
  exact ⟨⟨dx, e.keep _ _ a np⟩, b.ext e nl⟩
theorem seq_mid {t u : TS} {D : Ends} {σ : St} {H : Hp} (M : St → Hp → Prop) (h1 : ∀ R : St → Hp → Prop, (∀ σ' H', M σ' H' → R σ' H') → t { D with nx := R } σ H) (h2 : ∀ σ' H', M σ' H' → u D σ' H') : tSeq t u D σ H := h1 _ h2
theorem pipes_push {H : Hp} {d t : Addr} {ts : List Addr} {ps : List Pt} (x : Pt) (hd : H d = some (.lst (ts.map V.ref))) (tt : Tups H ts ps) (ht : H t = none) :
    PipesAt (upd (upd H t (tupOf x)) d (.lst (ts.map V.ref ++ [.ref t]))) d (ps ++ [x]) ∧ Ext [d] H (upd (upd H t (tupOf x)) d (.lst (ts.map V.ref ++ [.ref t]))) := by
  have ndt : d ≠ t := (fresh_ne hd ht).symm
  have x1 : Ext [d] H (upd H t (tupOf x)) := Ext.new ht
  have x2 := x1.trans (Ext.putL (o := .lst (ts.map V.ref ++ [.ref t])) (p := d) (xs := ts.map V.ref) (by rw [upd_ne ndt]; exact hd) (by simp))
  refine ⟨⟨ts ++ [t], by rw [upd_same, List.map_append]; rfl, Tups.snoc ?_ (tt.mono x2.tups)⟩, x2⟩
  rw [upd_ne ndt.symm, upd_same]
theorem pe_gi {X : Cx} {x : Str} {i : Int} {t : Tok} {pos : Pos} (hg : Gl X x) (hm : X.mg x = some (.int i t)) (hd : (x == ("__debug__" : Str)) = false := by decide) : PE X (.Name x pos) (tC (.int i)) := pe_glob (v := .int i) hg hm ⟨t, rfl⟩ hd
end Sp

set_option Elab.async false
set_option linter.all false
set_option maxRecDepth 100000
namespace Sp
open PySem L2 Sw
noncomputable abbrev IntsAt (H : Hp) (a : Addr) (ns : List Int) : Prop := H a = some (.lst (ns.map V.int))
theorem keepN {H : Hp} {t c : Addr} {o x : HO} (ht : H t = none) (hc : H c = some o) : upd H t x c = some o := by rw [upd_ne (ne_of_none hc ht)]; exact hc
theorem keepU {H : Hp} {t c : Addr} {o x : HO} (h : c ≠ t) (hc : H c = some o) : upd H t x c = some o := by rw [upd_ne h]; exact hc
theorem neN {H : Hp} {t c : Addr} {o : HO} (ht : H t = none) (hc : H c = some o) : c ≠ t := ne_of_none hc ht
theorem PipesAt.list {H : Hp} {a : Addr} {ps : List Pt} (h : PipesAt H a ps) : ∃ xs, H a = some (.lst xs) ∧ xs.length = ps.length := by
  obtain ⟨ts, e, t⟩ := h
  exact ⟨_, e, by rw [List.length_map, t.len]⟩
theorem PipesAt.row {H : Hp} {a : Addr} {ps : List Pt} {k : Nat} (h : PipesAt H a ps) (hk : k < ps.length) : ∃ xs t, H a = some (.lst xs) ∧ xs.length = ps.length ∧ atI xs (k : Int) = some (.ref t) ∧ xs[k]? = some (.ref t) ∧ H t = some (tupOf ps[k]) := by
  obtain ⟨ts, e, tt⟩ := h
  obtain ⟨t, ht, et⟩ := tt.get (i := k) (p := ps[k]) (by simp [hk])
  exact ⟨_, t, e, by rw [List.length_map, tt.len], atI_nat (by rw [List.getElem?_map, ht]; rfl), by rw [List.getElem?_map, ht]; rfl, et⟩
theorem rd_pipe {K : PySem.W.Frag} {H : Hp} {a : Addr} {ps : List Pt} {k : Nat} {j : Int} {v : V} {Q : VK} (h : PipesAt H a ps) (hk : k < ps.length) (hj : atI [V.int ps[k].1, V.int ps[k].2.1, V.bl ps[k].2.2] j = some v) (q : Q v H) :
    rIxL K (.ref a) (.int (k : Int)) H (fun x H1 => rIxT K x (.int j) H1 Q) := by
  obtain ⟨xs, t, e, _, ea, _, et⟩ := h.row hk
  exact ⟨a, _, _, _, rfl, rfl, SqL.of e, ea, t, _, _, _, rfl, rfl, SqT.of et, hj, q⟩
theorem rd_st {K : PySem.W.Frag} {H : Hp} {a : Addr} {ps : List Pt} {k : Nat} {Q : VK} (h : PipesAt H a ps) (hk : k < ps.length) (q : Q (.int (st ps k)) H) : rIxL K (.ref a) (.int (k : Int)) H (fun x H1 => rIxT K x (.int 0) H1 Q) :=
  rd_pipe h hk rfl (by rw [st_of hk] at q; exact q)
theorem rd_gl {K : PySem.W.Frag} {H : Hp} {a : Addr} {ps : List Pt} {k : Nat} {Q : VK} (h : PipesAt H a ps) (hk : k < ps.length) (q : Q (.int (gl ps k)) H) : rIxL K (.ref a) (.int (k : Int)) H (fun x H1 => rIxT K x (.int 1) H1 Q) :=
  rd_pipe h hk rfl (by rw [gl_of hk] at q; exact q)
theorem rd_op {K : PySem.W.Frag} {H : Hp} {a : Addr} {ps : List Pt} {k : Nat} {Q : VK} (h : PipesAt H a ps) (hk : k < ps.length) (q : Q (.bl (op ps k)) H) : rIxL K (.ref a) (.int (k : Int)) H (fun x H1 => rIxT K x (.int 2) H1 Q) :=
  rd_pipe h hk rfl (by rw [op_of hk] at q; exact q)
theorem all_flat (ns : List Int) : (ns.map V.int).all flatV = true := List.all_eq_true.mpr (flat_ints ns)
theorem inV_ints (x : Int) (ns : List Int) : inV (.int x) (ns.map V.int) = decide (x ∈ ns) := by
  unfold inV
  rw [List.any_map, Bool.eq_iff_iff, List.any_eq_true, decide_eq_true_iff]
  constructor
  · rintro ⟨y, hy, e⟩
    have e : y = x := eq_of_beq (show (y == x) = true from e)
    rw [← e]; exact hy
  · intro h
    exact ⟨x, h, show (x == x) = true from beq_self_eq_true x⟩
theorem rd_in {K : PySem.W.Frag} {H : Hp} {a : Addr} {ns : List Int} {x : Int} {Q : VK} (h : SqL K H a (ns.map V.int)) (q : Q (.bl (decide (x ∈ ns))) H) : rIn K false (.int x) (.ref a) H Q :=
  ⟨a, _, rfl, .inl h, rfl, all_flat ns, by rw [inV_ints]; exact q⟩
theorem rd_notin {K : PySem.W.Frag} {H : Hp} {a : Addr} {ns : List Int} {x : Int} {Q : VK} (h : SqL K H a (ns.map V.int)) (q : Q (.bl (!decide (x ∈ ns))) H) : rIn K true (.int x) (.ref a) H Q :=
  ⟨a, _, rfl, .inl h, rfl, all_flat ns, by rw [inV_ints]; exact q⟩
theorem rd_eqL {K : PySem.W.Frag} {H : Hp} {a b : Addr} {ns ms : List Int} {Q : VK} (ha : SqL K H a (ns.map V.int)) (hb : SqL K H b (ms.map V.int)) (q : Q (.bl (decide (ns = ms))) H) : rEqL K (.ref a) (.ref b) H Q :=
  ⟨a, b, _, _, rfl, rfl, ha, hb, flat_ints ns, flat_ints ms, by rw [eqVs_ints]; exact q⟩
noncomputable abbrev kI (e : Int × V) : Key × V := ((Sum.inl e.1 : Key), e.2)
noncomputable abbrev Rows (H : Hp) (F : Addr → Prop) : List (Int × V) → Found → Prop := Paired fun (e : Int × V) (g : Int × List Nat) => e.1 = g.1 ∧ ∃ a, e.2 = .ref a ∧ F a ∧ IntsAt H a (nI g.2)
theorem Rows.mono {H H' : Hp} {F F' : Addr → Prop} (h : ∀ a ns, F a → IntsAt H a ns → F' a ∧ IntsAt H' a ns) : ∀ {kvs : List (Int × V)} {f : Found}, Rows H F kvs f → Rows H' F' kvs f := fun {_ _} t => Paired.mapP t fun _ _ z => by
  obtain ⟨r, a, e, hf, i⟩ := z
  exact ⟨r, a, e, h _ _ hf i⟩
theorem Rows.snoc {H : Hp} {F : Addr → Prop} {e : Int × V} {g : Int × List Nat} (r : e.1 = g.1 ∧ ∃ a, e.2 = .ref a ∧ F a ∧ IntsAt H a (nI g.2)) : ∀ {kvs : List (Int × V)} {f : Found}, Rows H F kvs f → Rows H F (kvs ++ [e]) (f ++ [g]) := fun {_ _} t => pr_snoc t r
theorem Rows.len {H : Hp} {F : Addr → Prop} {kvs : List (Int × V)} {f : Found} (r : Rows H F kvs f) : kvs.length = f.length := Paired.length r
theorem Rows.val {H : Hp} {F : Addr → Prop} (v : Int) : ∀ {kvs : List (Int × V)} {f : Found}, Rows H F kvs f → (look f v = none ∧ valV (kvs.map kI) (Sum.inl v : Key) = none) ∨ ∃ w a, look f v = some w ∧ valV (kvs.map kI) (Sum.inl v : Key) = some (.ref a) ∧ F a ∧ IntsAt H a (nI w) := by
  intro kvs f t
  induction t with
  | nil => exact .inl ⟨rfl, rfl⟩
  | @cons e g _ _ z t ih =>
    obtain ⟨q, a, ea, hf, i⟩ := z
    by_cases h : g.1 = v
    · refine .inr ⟨g.2, a, ?_, ?_, hf, i⟩
      · simp [look, List.find?_cons, h]
      · rw [List.map_cons, valV_pos (by show Sum.inl e.1 = Sum.inl v; rw [q, h])]
        exact congrArg some ea
    · have l1 : ∀ r : Found, look (g :: r) v = look r v := fun r => by simp [look, List.find?_cons, h]
      rw [List.map_cons, valV_neg (by show ¬ Sum.inl e.1 = Sum.inl v; rw [q]; intro z; exact h (Sum.inl.inj z)), l1]
      exact ih
noncomputable def FoundS (H : Hp) (F : Addr → Prop) (d : Addr) (f : Found) : Prop := ∃ kvs : List (Int × V), H d = some (.dK (kvs.map kI)) ∧ Rows H F kvs f
noncomputable abbrev FoundAt (H : Hp) (d : Addr) (f : Found) : Prop := FoundS H (fun _ => True) d f
theorem FoundS.any {H : Hp} {F : Addr → Prop} {d : Addr} {f : Found} (h : FoundS H F d f) : FoundAt H d f := by
  obtain ⟨kvs, a, r⟩ := h
  exact ⟨kvs, a, r.mono fun a ns hf i => ⟨trivial, i⟩⟩
theorem FoundS.queue {H : Hp} {w d : Addr} {f : Found} {o : HO} (h : FoundS H (· ≠ w) d f) (n : d ≠ w) : FoundS (upd H w o) (· ≠ w) d f := by
  obtain ⟨kvs, a, r⟩ := h
  exact ⟨kvs, keepU n a, r.mono fun a ns hf i => ⟨hf, keepU hf i⟩⟩
theorem found_push {H : Hp} {w d s0 p : Addr} {f : Found} {kvs : List (Int × V)} {q : List Int} {g : Int} {row : List Nat} {k : Nat} (hd : H d = some (.dK (kvs.map kI))) (r : Rows H (· ≠ w) kvs f) (hw : IntsAt H w q) (hs : H s0 = none)
    (hp : upd H s0 (.lst [.int (k : Int)]) p = none) (hv : valV (kvs.map kI) (Sum.inl g : Key) = none) {H4 : Hp}
    (e : H4 = upd (upd (upd (upd H s0 (.lst [.int (k : Int)])) p (.lst ((nI row).map V.int ++ [.int (k : Int)]))) d (.dK (putK (kvs.map kI) (Sum.inl g) (.ref p)))) w (.lst (q.map V.int ++ [.int g]))) :
    FoundS H4 (· ≠ w) d (f ++ [(g, row ++ [k])]) ∧ IntsAt H4 w (q ++ [g]) ∧ Ext [d, w] H H4 := by
  have ndw : d ≠ w := ne_of hd hw (by intro z; cases z)
  have nds : d ≠ s0 := neN hs hd
  have nws : w ≠ s0 := neN hs hw
  have hp0 : H p = none := (Ext.new (S := []) (o := .lst [.int (k : Int)]) hs).free hp (by simp)
  have nps : p ≠ s0 := fun z => by subst z; rw [upd_same] at hp; cases hp
  have ndp : d ≠ p := neN hp0 hd
  have nwp : w ≠ p := neN hp0 hw
  have x1 : Ext [d, w] H (upd H s0 (.lst [.int (k : Int)])) := Ext.new hs
  have x2 := x1.trans (Ext.new (o := .lst ((nI row).map V.int ++ [.int (k : Int)])) hp)
  have hd2 : upd (upd H s0 (.lst [.int (k : Int)])) p (.lst ((nI row).map V.int ++ [.int (k : Int)])) d = some (.dK (kvs.map kI)) := keepU ndp (keepU nds hd)
  have x3 := x2.trans (Ext.put (o := .dK (putK (kvs.map kI) (Sum.inl g) (.ref p))) hd2 (by simp) (by intro xs z; cases z) (by intro a b z; cases z))
  have hw3 : upd (upd (upd H s0 (.lst [.int (k : Int)])) p (.lst ((nI row).map V.int ++ [.int (k : Int)]))) d (.dK (putK (kvs.map kI) (Sum.inl g) (.ref p))) w = some (.lst (q.map V.int)) := keepU ndw.symm (keepU nwp (keepU nws hw))
  have x4 := x3.trans (Ext.putL (o := .lst (q.map V.int ++ [.int g])) hw3 (by simp))
  subst e
  refine ⟨⟨kvs ++ [(g, .ref p)], ?_, Rows.snoc ⟨rfl, p, rfl, nwp.symm, ?_⟩ (r.mono fun a ns hf i => ⟨hf, ?_⟩)⟩, ?_, x4⟩
  · rw [upd_ne ndw, upd_same, putK_new _ hv, List.map_append]; rfl
  · show _ = some (HO.lst ((nI (row ++ [k])).map V.int))
    rw [upd_ne nwp.symm, upd_ne ndp.symm, upd_same, nI_snoc, List.map_append]; rfl
  · have nad : a ≠ d := ne_of i hd (by intro z; cases z)
    exact keepU hf (keepU nad (keepN hp (keepN hs i)))
  · show _ = some (HO.lst ((q ++ [g]).map V.int))
    rw [upd_same, List.map_append]; rfl
theorem ifT {p : Prop} [Decidable p] (h : p) {A B : Prop} (a : A) : if decide p = true then A else B := by rw [decide_eq_true h]; exact iteT a
theorem ifF {p : Prop} [Decidable p] (h : ¬ p) {A B : Prop} (b : B) : if decide p = true then A else B := by rw [decide_eq_false h]; exact iteF b
theorem ifNT {p : Prop} [Decidable p] (h : ¬ p) {A B : Prop} (a : A) : if (!decide p) = true then A else B := by rw [decide_eq_false h]; exact iteT a
theorem ifNF {p : Prop} [Decidable p] (h : p) {A B : Prop} (b : B) : if (!decide p) = true then A else B := by rw [decide_eq_true h]; exact iteF b
theorem ifS_dec {c : TT} {t u : TS} {D : Ends} {σ : St} {H : Hp} (p : Prop) [Decidable p] (hc : ∀ R : Bool → Hp → Prop, R (decide p) H → c σ H R) (h1 : p → t D σ H) (h2 : ¬ p → u D σ H) : tIfS c t u D σ H := by
  refine hc _ ?_
  by_cases h : p
  · rw [decide_eq_true h]; exact iteT (h1 h)
  · rw [decide_eq_false h]; exact iteF (h2 h)
theorem ifS_decH {c : TT} {t u : TS} {D : Ends} {σ : St} {H : Hp} (p : Prop) [Decidable p] (F : Hp → Prop) (hc : ∀ R : Bool → Hp → Prop, (∀ H', F H' → R (decide p) H') → c σ H R) (h1 : p → ∀ H', F H' → t D σ H') (h2 : ¬ p → ∀ H', F H' → u D σ H') : tIfS c t u D σ H := by
  refine hc _ fun H' f => ?_
  by_cases h : p
  · rw [decide_eq_true h]; exact iteT (h1 h H' f)
  · rw [decide_eq_false h]; exact iteF (h2 h H' f)
noncomputable abbrev PairsAt (H : Hp) (l : Addr) (E : List (Int × Int)) : Prop := ∃ ts : List Addr, H l = some (.lst (ts.map V.ref)) ∧ Paired (fun (t : Addr) (e : Int × Int) => H t = some (.tup [.int e.1, .int e.2])) ts E
theorem pairs_mono {H H' : Hp} (h : ∀ b xs, H b = some (.tup xs) → H' b = some (.tup xs)) : ∀ {ts : List Addr} {E : List (Int × Int)}, Paired (fun (t : Addr) (e : Int × Int) => H t = some (.tup [.int e.1, .int e.2])) ts E → Paired (fun (t : Addr) (e : Int × Int) => H' t = some (.tup [.int e.1, .int e.2])) ts E := fun {_ _} t => Paired.mapP t fun _ _ r => h _ _ r
theorem pairs_snoc {H : Hp} {t : Addr} {e : Int × Int} (r : H t = some (.tup [.int e.1, .int e.2])) : ∀ {ts : List Addr} {E : List (Int × Int)}, Paired (fun (t : Addr) (e : Int × Int) => H t = some (.tup [.int e.1, .int e.2])) ts E → Paired (fun (t : Addr) (e : Int × Int) => H t = some (.tup [.int e.1, .int e.2])) (ts ++ [t]) (E ++ [e]) := fun {_ _} t => pr_snoc t r
theorem pairs_get {H : Hp} : ∀ {ts : List Addr} {E : List (Int × Int)} {i : Nat} {t : Addr}, Paired (fun (t : Addr) (e : Int × Int) => H t = some (.tup [.int e.1, .int e.2])) ts E → ts[i]? = some t → ∃ e, E[i]? = some e ∧ H t = some (.tup [.int e.1, .int e.2]) := fun {_ _ _ _} t e => by
  have z := pr_getL t e
  exact z
theorem PairsAt.ext {S : List Addr} {H H' : Hp} {l : Addr} {E : List (Int × Int)} (h : PairsAt H l E) (e : Ext S H H') (n : l ∉ S) : PairsAt H' l E := by
  obtain ⟨ts, a, b⟩ := h
  exact ⟨ts, e.keep _ _ a n, pairs_mono e.tups b⟩
theorem getD_map_int {ns : List Int} {i : Nat} {x : V} (h : (ns.map V.int)[i]? = some x) : ∃ z, ns[i]? = some z ∧ x = .int z := by
  rw [List.getElem?_map] at h
  cases e : ns[i]? with
  | none => rw [e] at h; cases h
  | some z => rw [e] at h; exact ⟨z, rfl, (Option.some.inj h).symm⟩
theorem getD_nI {us : List Nat} {i : Nat} {x : V} (h : ((nI us).map V.int)[i]? = some x) : ∃ k, us[i]? = some k ∧ x = .int (k : Int) := by
  obtain ⟨z, e, rfl⟩ := getD_map_int h
  unfold nI at e
  rw [List.getElem?_map] at e
  cases e2 : us[i]? with
  | none => rw [e2] at e; cases e
  | some k => rw [e2] at e; exact ⟨k, rfl, by rw [← Option.some.inj e]⟩
end Sp

set_option Elab.async false
set_option linter.all false
set_option maxRecDepth 100000
namespace Sp
open PySem PySem.Spec PyProof.Rows L2
theorem law_callT {P : Program} {w : World} {K : PySem.W.Frag} {mg mb : Str → Option Value} {CX : CXT} {k : Nat} {fa a c T : Addr} {fd : FuncData} {x : Str} {sp : Sp} {s₁ : Shared} {vs : List Value} {ns : List Int}
    (KX : K.In s₁.heap) (hns : s₁.heap.Ns mainGlobals mg) (hb : s₁.heap.Ns builtinsNs mb) (hbb : ∀ x : Str, x ≠ "__name__" → mb x = bootBuiltins x) (hlim : s₁.heap.NoLimit) (hB : BltAt mg s₁.heap) (hg : s₁.gens = #[])
    (ha : s₁.heap.get? a = some { cls := .type "list", data := .seq vs.toArray }) (hi : IntsAre vs ns) (hl : ns.length ≤ sizeLine) (hr : Room k callerA)
    (hT : s₁.heap.get? T = some (PySem.W.tabObj #[])) (hC : PySem.W.codeHdIn K c T = true) (nT : K.lookup T = none)
    (F : ∀ base : Heap, K.In base → base.Ns mainGlobals mg → BltAt mg base → FnOk P w K mg base CX k fa fd [x] sp) (hbind : ∀ (s : Shared) (u : Value), BindsTo s fd ⟨[u], []⟩ [(x, u)])
    (hsp : ∀ H : Hp, H T = some (.tbl #[]) → ScrAt K H a (ns.map V.int) → sp [.ref a] H (fun v _ => v = .bl true) fun _ _ _ => False)
    (hCX : ∀ H e s', CX [] H s₁ (fun _ _ _ => False) e s' → False) :
    codeAny (model P w) callerA (.call (.ref fa) ⟨[.ref a], []⟩) (fun r s' => r = .ok (.ret (.bool true)) ∧ OldK s₁.heap s'.heap ∧ s'.os = s₁.os ∧ AllBare s'.gens) s₁ := by
  have rv := vals_ints hi
  have nat : a ≠ T := fun z => by rw [z, hT] at ha; cases ha
  have key : ∀ H : Hp, H T = some (.tbl #[]) → ScrAt K H a (ns.map V.int) → HOk P w H s₁.heap → (∀ b u, H b = some u → (b = T ∧ u = .tbl #[]) ∨ (b = a ∧ K.lookup a = none ∧ ∃ ob xs, u = .frz ob (.lst xs))) →
      codeAny (model P w) callerA (.call (.ref fa) ⟨[.ref a], []⟩) (fun r s' => r = .ok (.ret (.bool true)) ∧ OldK s₁.heap s'.heap ∧ s'.os = s₁.os ∧ AllBare s'.gens) s₁ := by
    intro H hHT hS hok dom
    have free : ∀ {b : Addr} {o : Obj}, s₁.heap.get? b = some o → (∀ ps, o.data ≠ .fields ps) → (∀ xs n, o.data ≠ .seq xs n) → H b = none := fun {b o} e n1 n2 => by
      cases q : H b with
      | none => rfl
      | some u =>
        rcases dom b u q with ⟨rfl, _⟩ | ⟨rfl, _⟩
        · rw [hT] at e; cases e; exact absurd rfl (n1 _)
        · rw [ha] at e; cases e; exact absurd rfl (n2 _ _)
    have nsK : ∀ {b : Addr} {m : Str → Option Value}, s₁.heap.Ns b m → (hidT s₁.heap H).Ns b m := fun {b m} h => by
      obtain ⟨o, es, ep, e, d, r⟩ := h
      exact ⟨o, es, ep, hidT_get e (free e (fun ps z => by rw [d] at z; cases z) fun xs n z => by rw [d] at z; cases z), d, r⟩
    have hKb : K.In (hidT s₁.heap H) := fun b o e => hidT_get (KX b o e) (by
      cases q : H b with
      | none => rfl
      | some u =>
        rcases dom b u q with ⟨rfl, _⟩ | ⟨rfl, z, _⟩
        · rw [nT] at e; cases e
        · rw [z] at e; cases e)
    have hBb : BltAt mg (hidT s₁.heap H) := by
      obtain ⟨bm, ob, b1, b2, b3, b4, b5, b6⟩ := hB
      exact ⟨bm, ob, b1, b2, hidT_get b3 (free b3 (fun ps z => by rw [b6] at z; cases z) fun xs n z => by rw [b6] at z; cases z), b4, b5, b6⟩
    have hM : Mod K mg (hidT s₁.heap H) := by
      obtain ⟨mc, h1, h2⟩ := hlim
      exact ⟨hKb, nsK hns, ⟨mb, nsK hb, hbb⟩, ⟨mc, nsK h1, h2⟩⟩
    have e0 : Env0 P w K mg (hidT s₁.heap H) callerA [] s₁ H := ⟨rfl, hM, fun b o e => of_hidT e, Nat.le_of_eq (hidT_size _ _), trivial, fun b hb => absurd (show b ∈ ([] : List Addr) from hb) (by simp), hok, .of_eq hg⟩
    refine codeAny_mono ((F _ hKb (nsK hns) hBb).run callerA [] s₁ H ⟨[.ref a], []⟩ [.ref a] [.ref a] _ _ hr e0 (hbind s₁ (.ref a)) (.cons rfl .nil) (hsp H hHT hS)) fun r s' h => ?_
    cases r with
    | error e => exact (hCX H e s' h).elim
    | ok fl =>
      cases fl with
      | next => exact False.elim h
      | brk => exact False.elim h
      | cont => exact False.elim h
      | ret u =>
        obtain ⟨v, H', os, bare, un, hok', r', q⟩ := h
        have q' : v = .bl true := q
        subst q'
        obtain rfl : u = Value.bool true := r'
        have all : ∀ b o, s₁.heap.get? b = some o → b ≠ T → s'.heap.get? b = some o := fun b o e nb => by
          cases z : H b with
          | none => exact un.keep b o e z (fun y => absurd (show b ∈ ([] : List Addr) from y) (by simp)) (by simp)
          | some u =>
            rcases dom b u z with ⟨y, _⟩ | ⟨_, _, ob, xs, rfl⟩
            · exact absurd y nb
            · obtain ⟨e1, _⟩ := hok b _ z
              obtain ⟨e2, _⟩ := hok' b _ (un.frzs b ob _ z)
              rw [e] at e1; cases e1
              exact e2
        obtain ⟨more, hT'⟩ := un.tbls T _ hHT
        have gT : s'.heap.get? T = some { cls := .none, data := .fields (#[] ++ more) } := hok' T _ hT'
        refine ⟨rfl, ⟨fun b o e => ?_, fun b o e => ?_⟩, os, bare⟩
        · by_cases z : b = T
          · subst z
            rw [hT] at e
            cases e
            obtain ⟨oc, cvs, _, _, _, _, _, _, _, h1, h2, h3, h4, _⟩ := PySem.W.codeHd_of_K KX hC
            exact .inr (.inl ⟨⟨c, oc, cvs, h1, h2, h3, h4⟩, rfl, #[], more, rfl, gT⟩)
          · exact .inl (all b o e z)
        · by_cases z : b = T
          · rw [z]; exact ⟨_, gT⟩
          · exact ⟨o, all b o e z⟩
  cases hk : K.lookup a with
  | some o =>
    have e := KX a o hk
    rw [ha] at e
    cases e
    refine key (fun b => if b = T then some (.tbl #[]) else none) (if_pos rfl) (.inr ⟨_, vs.toArray, _, hk, rfl, rfl, rfl, by rw [List.size_toArray, hi.length]; exact hl, by simpa using rv⟩) (fun b u z => ?_) fun b u z => ?_
    · by_cases y : b = T
      · subst y
        have z' := (if_pos rfl).symm.trans z
        cases z'
        exact hT
      · have z' := (if_neg y).symm.trans z
        cases z'
    · by_cases y : b = T
      · have z' := (if_pos y).symm.trans z
        cases z'
        exact .inl ⟨y, rfl⟩
      · have z' := (if_neg y).symm.trans z
        cases z'
  | none =>
    refine key (fun b => if b = T then some (.tbl #[]) else if b = a then some (.frz { cls := .type "list", data := .seq vs.toArray } (.lst (ns.map V.int))) else none) (if_pos rfl) (.inl ⟨{ cls := .type "list", data := .seq vs.toArray }, (if_neg nat).trans (if_pos rfl)⟩) (fun b u z => ?_) fun b u z => ?_
    · by_cases y : b = T
      · subst y
        have z' := (if_pos rfl).symm.trans z
        cases z'
        exact hT
      · have z := (if_neg y).symm.trans z
        by_cases y2 : b = a
        · have z' := (if_pos y2).symm.trans z
          cases z'
          subst y2
          exact ⟨ha, by rw [List.length_map]; exact hl, vs, _, rv, ha⟩
        · have z' := (if_neg y2).symm.trans z
          cases z'
    · by_cases y : b = T
      · have z' := (if_pos y).symm.trans z
        cases z'
        exact .inl ⟨y, rfl⟩
      · have z := (if_neg y).symm.trans z
        by_cases y2 : b = a
        · have z' := (if_pos y2).symm.trans z
          cases z'
          exact .inr ⟨y2, hk, _, _, rfl⟩
        · have z' := (if_neg y2).symm.trans z
          cases z'
theorem walk_ofT {l : PySem.W.OpenLaw} {n k : Nat} {q : Program} {loose : List Str} {XP : (Str → Option Value) → Heap → Prop} {YP : World → Heap → Prop} {d : DefRec} {K : Params → PySem.W.Frag} {CX : World → CXT} {sp : World → Sp} {x : Str} {T : Addr}
    (hn : l.most = some n) (hn2 : n ≤ sizeLine) (hdf : d.params.defaults = []) (hr : Room k callerA)
    (hY : ∀ (w : World) (h : Heap), YP w h → (K w.params).In h) (hYT : ∀ (w : World) (h : Heap), YP w h → h.get? T = some (PySem.W.tabObj #[]))
    (F : ∀ (w : World) (mg : Str → Option Value) (fa : Addr) (h : Heap), (K w.params).In h → h.Ns mainGlobals mg → mg d.name = some (.ref fa) →
      ∃ (fd : FuncData) (c : Addr), PySem.W.codeHdIn (K w.params) c T = true ∧ (K w.params).lookup T = none ∧ (∀ (s : Shared) (u : Value), BindsTo s fd ⟨[u], []⟩ [(x, u)]) ∧
        ∀ base : Heap, (K w.params).In base → base.Ns mainGlobals mg → BltAt mg base → FnOk l.prog w (K w.params) mg base (CX w) k fa fd [x] (sp w))
    (hsp : ∀ (w : World) (H : Hp) (a : Addr) (ns : List Int), ns.length ≤ n → H T = some (.tbl #[]) → ScrAt (K w.params) H a (ns.map V.int) → sp w [.ref a] H (fun v _ => v = .bl true) fun _ _ _ => False)
    (hCX : ∀ (w : World) (H : Hp) (s : Shared) (e : Value) (s' : Shared), CX w [] H s (fun _ _ _ => False) e s' → False) :
    PySem.W.WalkO q loose XP YP l.row.toRowW d [] (fun f vs => PySem.call f vs) := by
  refine Att.attach_call hn hdf fun w s₀ s₁ mg mb fa o pm cd doc a vs ns G Y ho hd hcd hmg hobj hints hlen hg => ?_
  have KX := hY w _ Y
  obtain ⟨fd, c, hC, nT, hb, hF⟩ := F w mg fa _ KX G.T.g hmg
  exact law_callT KX G.T.g G.T.b G.T.builtins G.T.nolimit G.T.bmain hg hobj hints (Nat.le_trans hlen hn2) hr (hYT w _ Y) hC nT hF hb (fun H hO hS => hsp w H a ns hlen hO hS) fun H e s' => hCX w H s₁ e s'
theorem ok1c {P : Program} {w : World} {K : PySem.W.Frag} {mg : Str → Option Value} {base : Heap} {x qual : Str} {st : Stmt} {f : Addr} {fd : FuncData} {N ps : List Str} {k : Nat} {sp : Sp} (F : Fun K x qual st f fd) (S : FnScope N ps (defScope st)) (len : ∀ vs H Q E, sp vs H Q E → vs.length = ps.length)
    (hbody : ∀ (cdv : Value) (A : Around) (outer : List Env) (s : Shared) (H : Hp) (vs : List V) (Q : VK) (E : XK), fd.code = cdv → Room k (A.deeper (envOfC qual (defScope st) s.heap.objs.size f cdv)) → sp vs H Q E →
      ∃ t, PSs (cxOf (CX1 P w) P w K mg base N qual (defScope st) f cdv A outer s H E).nox (defBody st) t ∧ t { nx := fun _ H' => Q .non H', rt := Q } (start N vs) H) : FnOk P w K mg base (CX1 P w) (k + 1) f fd ps sp := by
  obtain ⟨oc, od, kV, doc, pm, an, cdv, ct, osl, rfl, lk, hcd⟩ := F.ex
  refine fn_of lk hcd S len fun A outer s H vs Q E hr h => ?_
  obtain ⟨t, ht, q⟩ := hbody cdv A outer s H vs Q E rfl hr h
  exact ⟨t, ht.nox, q⟩
end Sp

set_option Elab.async false
set_option linter.all false
set_option maxRecDepth 100000
namespace Sp
open PySem L2 Sw
noncomputable abbrev Rws (H : Hp) : List Addr → List Pt → Prop := Paired fun (t : Addr) (p : Pt) => ∃ rest, H t = some (.tup (.int p.1 :: .int p.2.1 :: rest))
theorem Rws.mono {H H' : Hp} (h : ∀ b xs, H b = some (.tup xs) → H' b = some (.tup xs)) : ∀ {ts : List Addr} {ps : List Pt}, Rws H ts ps → Rws H' ts ps := fun {_ _} t => Paired.mapP t fun _ _ z => by
  obtain ⟨r, e⟩ := z
  exact ⟨r, h _ _ e⟩
theorem Rws.get {H : Hp} : ∀ {ts : List Addr} {ps : List Pt} {i : Nat} {p : Pt}, Rws H ts ps → ps[i]? = some p → ∃ t rest, ts[i]? = some t ∧ H t = some (.tup (.int p.1 :: .int p.2.1 :: rest)) := fun {_ _ _ _} t e => by
  obtain ⟨a, b, r, q⟩ := pr_getR t e
  exact ⟨a, r, b, q⟩
theorem Rws.snoc {H : Hp} {t : Addr} {p : Pt} (r : ∃ rest, H t = some (.tup (.int p.1 :: .int p.2.1 :: rest))) : ∀ {ts : List Addr} {ps : List Pt}, Rws H ts ps → Rws H (ts ++ [t]) (ps ++ [p]) := fun {_ _} t => pr_snoc t r
theorem Tups.rws {H : Hp} : ∀ {ts : List Addr} {ps : List Pt}, Tups H ts ps → Rws H ts ps := fun {_ _} t => Paired.mapP t fun _ _ r => ⟨_, r⟩
noncomputable def RwsAt (H : Hp) (l : Addr) (ps : List Pt) : Prop := ∃ ts : List Addr, H l = some (.lst (ts.map V.ref)) ∧ Rws H ts ps
theorem PipesAt.rws {H : Hp} {l : Addr} {ps : List Pt} (h : PipesAt H l ps) : RwsAt H l ps := by
  obtain ⟨ts, a, b⟩ := h
  exact ⟨ts, a, b.rws⟩
theorem RwsAt.ext {S : List Addr} {H H' : Hp} {l : Addr} {ps : List Pt} (h : RwsAt H l ps) (e : Ext S H H') (n : l ∉ S) : RwsAt H' l ps := by
  obtain ⟨ts, a, b⟩ := h
  exact ⟨ts, e.keep _ _ a n, b.mono e.tups⟩
theorem rw_pipe {K : PySem.W.Frag} {H : Hp} {a : Addr} {ps : List Pt} {k : Nat} {j : Int} {v : V} {Q : VK} (h : RwsAt H a ps) (hk : k < ps.length) (hj : ∀ rest, atI (V.int ps[k].1 :: V.int ps[k].2.1 :: rest) j = some v) (q : Q v H) :
    rIxL K (.ref a) (.int (k : Int)) H (fun x H1 => rIxT K x (.int j) H1 Q) := by
  obtain ⟨ts, e, tt⟩ := h
  obtain ⟨t, rest, ht, et⟩ := tt.get (i := k) (p := ps[k]) (by simp [hk])
  exact ⟨a, _, _, _, rfl, rfl, SqL.of e, atI_nat (by rw [List.getElem?_map, ht]; rfl), t, _, _, _, rfl, rfl, SqT.of et, hj rest, q⟩
theorem rw_st {K : PySem.W.Frag} {H : Hp} {a : Addr} {ps : List Pt} {k : Nat} {Q : VK} (h : RwsAt H a ps) (hk : k < ps.length) (q : Q (.int (st ps k)) H) : rIxL K (.ref a) (.int (k : Int)) H (fun x H1 => rIxT K x (.int 0) H1 Q) :=
  rw_pipe h hk (fun rest => atI_nat (j := 0) (v := V.int ps[k].1) rfl) (by rw [st_of hk] at q; exact q)
theorem rw_gl {K : PySem.W.Frag} {H : Hp} {a : Addr} {ps : List Pt} {k : Nat} {Q : VK} (h : RwsAt H a ps) (hk : k < ps.length) (q : Q (.int (gl ps k)) H) : rIxL K (.ref a) (.int (k : Int)) H (fun x H1 => rIxT K x (.int 1) H1 Q) :=
  rw_pipe h hk (fun rest => atI_nat (j := 1) (v := V.int ps[k].2.1) rfl) (by rw [gl_of hk] at q; exact q)
end Sp

set_option Elab.async false
set_option linter.all false
set_option maxRecDepth 100000
namespace Sp
open PySem L2 Sw
noncomputable abbrev uI (k : Nat) : Int × V := ((k : Int), V.bl true)
noncomputable def UsedAt (H : Hp) (d : Addr) (U : List Nat) : Prop := H d = some (.dK ((U.map uI).map kI))
theorem val_used (U : List Nat) (k : Nat) : valV ((U.map uI).map kI) (Sum.inl (k : Int) : Key) = if k ∈ U then some (.bl true) else none := by
  induction U with
  | nil => rfl
  | cons j U ih =>
    rw [List.map_cons, List.map_cons]
    by_cases h : j = k
    · subst h
      rw [valV_pos rfl, if_pos (by simp)]
    · rw [valV_neg (by show ¬ (Sum.inl (j : Int) : Key) = Sum.inl (k : Int); intro z; exact h (by have := Sum.inl.inj z; omega)), ih]
      by_cases m : k ∈ U
      · rw [if_pos m, if_pos (by simp [m])]
      · rw [if_neg m, if_neg (by simp [m]; exact fun z => h z.symm)]
theorem some_used (U : List Nat) (k : Nat) : (valV ((U.map uI).map kI) (Sum.inl (k : Int) : Key)).isSome = decide (k ∈ U) := by
  rw [val_used]
  by_cases m : k ∈ U
  · rw [if_pos m, decide_eq_true m]; rfl
  · rw [if_neg m, decide_eq_false m]; rfl
theorem drop_used (U : List Nat) (k : Nat) : dropK ((U.map uI).map kI) (Sum.inl (k : Int) : Key) = ((U.filter fun j => decide (j ≠ k)).map uI).map kI := by
  unfold dropK
  induction U with
  | nil => rfl
  | cons j U ih =>
    rw [List.map_cons, List.map_cons, List.filter_cons, List.filter_cons, ih]
    by_cases h : j = k
    · subst h
      rw [if_neg (by simp), if_neg (by simp)]
    · rw [if_pos (by simp; intro z; exact h (by omega)), if_pos (by simp [h])]
      rfl
theorem put_used {U : List Nat} {k : Nat} (h : k ∉ U) : putK ((U.map uI).map kI) (Sum.inl (k : Int) : Key) (.bl true) = ((U ++ [k]).map uI).map kI := by
  rw [putK_new _ (by rw [val_used, if_neg h]), List.map_append, List.map_append]
  rfl
theorem DGet.used {H : Hp} {d : Addr} {U : List Nat} {k : Nat} (h : UsedAt H d U) : DGet H d (.int (k : Int)) (valV ((U.map uI).map kI) (Sum.inl (k : Int) : Key)) := DGet.k (k := Sum.inl (k : Int)) h
theorem UsedAt.len (U : List Nat) : ((U.map uI).map kI).length = U.length := by rw [List.length_map, List.length_map]
theorem perm_nI {ns : List Int} {U : List Nat} (p : ns.Perm (nI U)) : ∃ L : List Nat, ns = nI L ∧ U.Perm L := by
  refine ⟨ns.map Int.toNat, ?_, ?_⟩
  · unfold nI
    rw [List.map_map]
    have : ∀ x ∈ ns, ((fun k : Nat => (k : Int)) ∘ Int.toNat) x = id x := fun x hx => by
      obtain ⟨k, _, rfl⟩ := nI_mem.mp (p.mem_iff.mp hx)
      simp
    rw [List.map_congr_left this, List.map_id]
  · have q := p.map Int.toNat
    have e : (nI U).map Int.toNat = U := by
      unfold nI
      rw [List.map_map]
      have : ∀ x ∈ U, (Int.toNat ∘ fun k : Nat => (k : Int)) x = id x := fun x _ => by simp
      rw [List.map_congr_left this, List.map_id]
    rw [e] at q
    exact q.symm
theorem nI_in {w : List Nat} {k : Nat} : (k : Int) ∈ nI w ↔ k ∈ w := by
  rw [nI_mem]
  constructor
  · rintro ⟨j, hj, e⟩
    have : j = k := by omega
    rw [← this]
    exact hj
  · exact fun h => ⟨k, h, rfl⟩
noncomputable abbrev WaysP (H : Hp) : List Addr → List (List Nat) → Prop := Paired fun (r : Addr) (w : List Nat) => IntsAt H r (nI w)
theorem WaysP.mono {H H' : Hp} : ∀ {rs : List Addr} {ws : List (List Nat)}, (∀ r ∈ rs, ∀ o, H r = some o → H' r = some o) → WaysP H rs ws → WaysP H' rs ws := by
  intro rs ws h p
  induction p with
  | nil => exact .nil
  | cons r t ih => exact .cons (h _ (by simp) _ r) (ih fun r m => h r (by simp [m]))
theorem WaysP.snoc {H : Hp} {r : Addr} {w : List Nat} (q : IntsAt H r (nI w)) : ∀ {rs : List Addr} {ws : List (List Nat)}, WaysP H rs ws → WaysP H (rs ++ [r]) (ws ++ [w]) := fun {_ _} t => pr_snoc t q
theorem WaysP.get {H : Hp} : ∀ {rs : List Addr} {ws : List (List Nat)} {i : Nat} {r : Addr}, WaysP H rs ws → rs[i]? = some r → ∃ w, ws[i]? = some w ∧ IntsAt H r (nI w) := fun {_ _ _ _} t e => by
  have z := pr_getL t e
  exact z
noncomputable def WaysAt (H : Hp) (R : Addr) (ws : List (List Nat)) : Prop := ∃ rs : List Addr, H R = some (.lst (rs.map V.ref)) ∧ WaysP H rs ws
theorem WaysAt.ext {H H' : Hp} {R : Addr} {ws : List (List Nat)} (h : WaysAt H R ws) (e : Ext [] H H') : WaysAt H' R ws := by
  obtain ⟨rs, a, b⟩ := h
  exact ⟨rs, e.keep _ _ a (by simp), b.mono fun r _ o q => e.keep _ _ q (by simp)⟩
theorem way_ne {ps : List Pt} {us w : List Nat} {v : Int} (W : IsWay ps us w v) (hv : v ≠ 0) : w ≠ [] := fun z => by
  subst z
  exact hv (show (0 : Int) = v from W.ch).symm
theorem row_ne {H : Hp} {r R : Addr} {rs : List Addr} {w : List Nat} (h : IntsAt H r (nI w)) (hw : w ≠ []) (hR : H R = some (.lst (rs.map V.ref))) : r ≠ R := fun z => by
  subst z
  have e := Option.some.inj (hR.symm.trans h)
  have e : rs.map V.ref = (nI w).map V.int := by injection e
  cases w with
  | nil => exact hw rfl
  | cons k w =>
    cases rs with
    | nil => cases e
    | cons a rs =>
      have := List.head_eq_of_cons_eq e
      cases this
theorem flat_take {ws : List (List Nat)} {i : Nat} {w : List Nat} (h : ws[i]? = some w) : (ws.take (i + 1)).flatten = (ws.take i).flatten ++ w := by
  rw [List.take_add_one, h]
  simp
theorem flat_sub {ws : List (List Nat)} {i : Nat} : ∀ k ∈ (ws.take i).flatten, k ∈ ws.flatten := fun k hk => by
  obtain ⟨w, hw, h⟩ := List.mem_flatten.mp hk
  exact List.mem_flatten.mpr ⟨w, List.mem_of_mem_take hw, h⟩
theorem flat_nodup {ws : List (List Nat)} (i : Nat) (h : ws.flatten.Nodup) : (ws.take i).flatten.Nodup := by
  have : ws.flatten = (ws.take i).flatten ++ (ws.drop i).flatten := by rw [← List.flatten_append, List.take_append_drop]
  rw [this] at h
  exact (List.nodup_append.mp h).1
end Sp

set_option Elab.async false
set_option linter.all false
set_option maxRecDepth 100000
namespace Sp
open PySem L2 Sw
theorem map_take_succ {α β : Type} (g : α → β) (l : List α) (i : Nat) (x : α) (h : l[i]? = some x) : (l.take (i + 1)).map g = (l.take i).map g ++ [g x] := by
  rw [List.take_add_one, h, List.map_append]
  rfl
theorem seqIx {k n : Nat} (h : k < n) : seqIndex? (k : Int) n = some k := (PySem.StrLaws.seqIndex_nonneg (i := (k : Int)) (Int.natCast_nonneg k) (Int.ofNat_lt.mpr h)).trans (by rw [Int.toNat_natCast])
theorem pop_perm {α : Type} : ∀ {l : List α} {k : Nat} {x : α}, l[k]? = some x → (x :: l.eraseIdx k).Perm l
  | [], k, x, h => by simp at h
  | y :: l, 0, x, h => by
    have : y = x := by simpa using h
    subst this
    exact List.Perm.refl _
  | y :: l, k + 1, x, h => by
    have h : l[k]? = some x := by simpa using h
    exact (List.Perm.swap y x _).trans (List.Perm.cons y (pop_perm h))
theorem erase_map {α β : Type} (g : α → β) : ∀ (l : List α) (k : Nat), (l.map g).eraseIdx k = (l.eraseIdx k).map g
  | [], _ => rfl
  | _ :: _, 0 => rfl
  | x :: l, k + 1 => congrArg (List.cons (g x)) (erase_map g l k)
theorem nI_append (us vs : List Nat) : nI (us ++ vs) = nI us ++ nI vs := by unfold nI; rw [List.map_append]
end Sp

set_option Elab.async false
set_option linter.all false
set_option maxRecDepth 100000
namespace Sp
open PySem L2 Sw
theorem Tups.append {H : Hp} : ∀ {ts us : List Addr} {ps qs : List Pt}, Tups H ts ps → Tups H us qs → Tups H (ts ++ us) (ps ++ qs) := fun {_ _ _ _} a b => pr_cat a b
theorem pipes_cat {H : Hp} {a b : Addr} {ps qs : List Pt} (h1 : PipesAt H a ps) (h2 : PipesAt H b qs) : ∃ xs ys, H a = some (.lst xs) ∧ H b = some (.lst ys) ∧ xs.length = ps.length ∧ ys.length = qs.length ∧ ∀ c, H c = none → PipesAt (upd H c (.lst (xs ++ ys))) c (ps ++ qs) := by
  obtain ⟨ts, e1, t1⟩ := h1
  obtain ⟨us, e2, t2⟩ := h2
  refine ⟨_, _, e1, e2, by rw [List.length_map, t1.len], by rw [List.length_map, t2.len], fun c hc => ⟨ts ++ us, by rw [upd_same, List.map_append], ?_⟩⟩
  have x : Ext [] H (upd H c (.lst (ts.map V.ref ++ us.map V.ref))) := Ext.new hc
  exact (t1.mono x.tups).append (t2.mono x.tups)
structure OrdL (n : Nat) (od : List Int) : Prop where
  len : od.length = n
  nd : od.Nodup
  rg : ∀ x ∈ od, 0 ≤ x ∧ x < (n : Int)
theorem ord_of {n : Nat} {os : List Int} (lo : 1 ≤ n) (pm : os.Perm (rngL 1 n)) : OrdL n (0 :: os) := by
  have nd := pm.symm.nodup (rngL_nodup 1 n)
  have mem : ∀ x, x ∈ os ↔ 1 ≤ x ∧ x < (n : Int) := fun x => pm.mem_iff.trans rngL_mem
  refine ⟨?_, List.nodup_cons.mpr ⟨fun z => ?_, nd⟩, fun x hx => ?_⟩
  · rw [List.length_cons, pm.length_eq, rngL_len]
    omega
  · have := (mem 0).mp z
    omega
  · rcases List.mem_cons.mp hx with rfl | hx
    · omega
    · have := (mem x).mp hx
      omega
theorem OrdL.pt {n : Nat} {od : List Int} (h : OrdL n od) {i j : Nat} {x y : Int} (hx : od[i]? = some x) (hy : od[j]? = some y) (ne : i ≠ j) (b : Bool) : Sw.Ok n (x, y, b) := by
  refine ⟨⟨h.rg x (List.mem_of_getElem? hx), h.rg y (List.mem_of_getElem? hy)⟩, fun z => ?_⟩
  have z : x = y := z
  subst z
  obtain ⟨hi, e1⟩ := List.getElem?_eq_some_iff.mp hx
  obtain ⟨hj, e2⟩ := List.getElem?_eq_some_iff.mp hy
  exact ne ((List.getElem_inj h.nd).mp (e1.trans e2.symm))
end Sp

set_option Elab.async false
set_option linter.all false
set_option maxRecDepth 100000
namespace Sp
open PySem L2 Sw
noncomputable abbrev wI (x : Int) : Int × V := (x, V.bl true)
noncomputable def WetAt (H : Hp) (d : Addr) (W : List Int) : Prop := H d = some (.dK ((W.map wI).map kI))
theorem val_wet (W : List Int) (x : Int) : valV ((W.map wI).map kI) (Sum.inl x : Key) = if x ∈ W then some (.bl true) else none := by
  induction W with
  | nil => rfl
  | cons y W ih =>
    rw [List.map_cons, List.map_cons]
    by_cases h : y = x
    · subst h
      rw [valV_pos rfl, if_pos (by simp)]
    · rw [valV_neg (by show ¬ (Sum.inl y : Key) = Sum.inl x; intro z; exact h (Sum.inl.inj z)), ih]
      by_cases m : x ∈ W
      · rw [if_pos m, if_pos (by simp [m])]
      · rw [if_neg m, if_neg (by simp [m]; exact fun z => h z.symm)]
theorem some_wet (W : List Int) (x : Int) : (valV ((W.map wI).map kI) (Sum.inl x : Key)).isSome = decide (x ∈ W) := by
  rw [val_wet]
  by_cases m : x ∈ W
  · rw [if_pos m, decide_eq_true m]; rfl
  · rw [if_neg m, decide_eq_false m]; rfl
theorem put_wet {W : List Int} {x : Int} (h : x ∉ W) : putK ((W.map wI).map kI) (Sum.inl x : Key) (.bl true) = ((W ++ [x]).map wI).map kI := by
  rw [putK_new _ (by rw [val_wet, if_neg h]), List.map_append, List.map_append]
  rfl
theorem DGet.wet {H : Hp} {d : Addr} {W : List Int} {x : Int} (h : WetAt H d W) : DGet H d (.int x) (valV ((W.map wI).map kI) (Sum.inl x : Key)) := DGet.k (k := Sum.inl x) h
theorem less_is (R : List Nat) (e : Nat) : (R.filter fun k => !decide (k ∈ [e])) = less R e := by
  unfold less
  apply List.filter_congr
  intro k _
  by_cases z : k = e <;> simp [z]
theorem lt_of_sorted {L : List Nat} (pw : (nI L).Pairwise (· ≤ ·)) (nd : L.Nodup) : L.Pairwise (· < ·) := by
  have h2 : L.Pairwise (· ≤ ·) := by
    unfold nI at pw
    rw [List.pairwise_map] at pw
    exact pw.imp fun h => by omega
  exact (h2.and nd).imp fun h => by have := h.1; have := h.2; (clear h; omega)
end Sp

set_option Elab.async false
set_option linter.all false
set_option maxRecDepth 100000
namespace Sp
open PySem L2 Sw
end Sp

set_option linter.all false
namespace Sp
open PySem L2 Sw
theorem seq_op {t u : TS} {D : Ends} {σ : L2.St} {H : Hp} (h : ∀ R : L2.St → Hp → Prop, (∀ σ' H', u D σ' H' → R σ' H') → t { nx := R, rt := D.rt, bk := D.bk, ct := D.ct } σ H) : tSeq t u D σ H := h _ fun _ _ z => z
end Sp

set_option Elab.async false
set_option linter.all false
set_option maxRecDepth 100000
namespace Sp
open PySem L2
noncomputable def top (i : Nat) : Stmt := PySem.Challenge.pw_springways_k11_whole_the_most_trees.main.body.getD i (.Pass ⟨0, 0, 0, 0⟩)
noncomputable abbrev s_check_place : Stmt := top 11
noncomputable abbrev s_check_pipe : Stmt := top 12
noncomputable abbrev s_Net_init : Stmt := inClass (top 13) 0
noncomputable abbrev s_Net_size : Stmt := inClass (top 13) 1
noncomputable abbrev s_Net_lay : Stmt := inClass (top 13) 2
noncomputable abbrev s_Net_shut : Stmt := inClass (top 13) 3
noncomputable abbrev s_Net_turn : Stmt := inClass (top 13) 5
noncomputable abbrev s_Net_pipes : Stmt := inClass (top 13) 6
noncomputable abbrev s_open_pipes : Stmt := top 15
noncomputable abbrev s_ways_through : Stmt := top 16
noncomputable abbrev s_turned : Stmt := top 18
noncomputable abbrev s_switch : Stmt := top 19
noncomputable abbrev s_parted : Stmt := top 20
noncomputable abbrev s_ways_apart : Stmt := top 21
noncomputable abbrev s_bounding : Stmt := top 22
noncomputable abbrev s_ways : Stmt := top 23
noncomputable abbrev s_widest : Stmt := top 24
noncomputable abbrev s_without : Stmt := top 26
noncomputable abbrev s_can_spare : Stmt := top 27
noncomputable abbrev s_next_pipe : Stmt := top 28
noncomputable abbrev s_grown : Stmt := top 29
noncomputable abbrev s_trees_apart : Stmt := top 30
noncomputable abbrev s_apart : Stmt := top 31
noncomputable abbrev s_most_apart : Stmt := top 32
noncomputable abbrev s__law_cell_at : Stmt := top 34
noncomputable abbrev s__law_whole : Stmt := top 35
noncomputable abbrev s__law_pipe_by : Stmt := top 36
noncomputable abbrev s__law_pipes_by : Stmt := top 37
noncomputable abbrev s__law_net_by : Stmt := top 38
noncomputable abbrev s__law_open : Stmt := top 39
noncomputable abbrev s__law_wet : Stmt := top 40
noncomputable abbrev s__law_into : Stmt := top 42
noncomputable abbrev s__law_numbers : Stmt := top 43
noncomputable abbrev s__law_rising : Stmt := top 44
noncomputable abbrev s__law_is_tree : Stmt := top 45
noncomputable abbrev s__law_narrow : Stmt := top 46
noncomputable abbrev s__law_trees_apart : Stmt := top 47
noncomputable abbrev s__law_order : Stmt := top 48
noncomputable abbrev s_law : Stmt := top 49
theorem sc_check_place : FnScope ["net", "place"] ["net", "place"] (defScope s_check_place) := ⟨rfl, rfl, rfl, by decide +kernel, rfl, by decide +kernel, by decide +kernel⟩
theorem sc_check_pipe : FnScope ["net", "pipe"] ["net", "pipe"] (defScope s_check_pipe) := ⟨rfl, rfl, rfl, by decide +kernel, rfl, by decide +kernel, by decide +kernel⟩
theorem sc_Net_init : FnScope ["self", "size"] ["self", "size"] (defScope s_Net_init) := ⟨rfl, rfl, rfl, by decide +kernel, rfl, by decide +kernel, by decide +kernel⟩
theorem sc_Net_size : FnScope ["self"] ["self"] (defScope s_Net_size) := ⟨rfl, rfl, rfl, by decide +kernel, rfl, by decide +kernel, by decide +kernel⟩
theorem sc_Net_lay : FnScope ["self", "start", "goal"] ["self", "start", "goal"] (defScope s_Net_lay) := ⟨rfl, rfl, rfl, by decide +kernel, rfl, by decide +kernel, by decide +kernel⟩
theorem sc_Net_shut : FnScope ["self", "pipe"] ["self", "pipe"] (defScope s_Net_shut) := ⟨rfl, rfl, rfl, by decide +kernel, rfl, by decide +kernel, by decide +kernel⟩
theorem sc_Net_turn : FnScope ["self", "pipe", "opened", "row"] ["self", "pipe", "opened"] (defScope s_Net_turn) := ⟨rfl, rfl, rfl, by decide +kernel, rfl, by decide +kernel, by decide +kernel⟩
theorem sc_Net_pipes : FnScope ["self"] ["self"] (defScope s_Net_pipes) := ⟨rfl, rfl, rfl, by decide +kernel, rfl, by decide +kernel, by decide +kernel⟩
theorem sc_open_pipes : FnScope ["pipes"] ["pipes"] (defScope s_open_pipes) := ⟨rfl, rfl, rfl, by decide +kernel, rfl, by decide +kernel, by decide +kernel⟩
theorem sc_ways_through : FnScope ["pipes", "usable", "found", "waiting", "place", "pipe", "goal"] ["pipes", "usable"] (defScope s_ways_through) := ⟨rfl, rfl, rfl, by decide +kernel, rfl, by decide +kernel, by decide +kernel⟩
theorem sc_turned : FnScope ["pipes", "used"] ["pipes", "used"] (defScope s_turned) := ⟨rfl, rfl, rfl, by decide +kernel, rfl, by decide +kernel, by decide +kernel⟩
theorem sc_switch : FnScope ["used", "row", "pipe"] ["used", "row"] (defScope s_switch) := ⟨rfl, rfl, rfl, by decide +kernel, rfl, by decide +kernel, by decide +kernel⟩
theorem sc_parted : FnScope ["pipes", "used", "place", "count", "rows", "left", "step", "row"] ["pipes", "used", "place", "count"] (defScope s_parted) := ⟨rfl, rfl, rfl, by decide +kernel, rfl, by decide +kernel, by decide +kernel⟩
theorem sc_ways_apart : FnScope ["pipes", "usable", "place", "many", "used", "count", "found"] ["pipes", "usable", "place", "many"] (defScope s_ways_apart) := ⟨rfl, rfl, rfl, by decide +kernel, rfl, by decide +kernel, by decide +kernel⟩
theorem sc_bounding : FnScope ["net", "rows", "pipes", "used", "row", "found"] ["net", "rows"] (defScope s_bounding) := ⟨rfl, rfl, rfl, by decide +kernel, rfl, by decide +kernel, by decide +kernel⟩
theorem sc_ways : FnScope ["net", "place", "many", "pipes", "rows"] ["net", "place", "many"] (defScope s_ways) := ⟨rfl, rfl, rfl, by decide +kernel, rfl, by decide +kernel, by decide +kernel⟩
theorem sc_widest : FnScope ["net", "place", "pipes", "rows"] ["net", "place"] (defScope s_widest) := ⟨rfl, rfl, rfl, by decide +kernel, rfl, by decide +kernel, by decide +kernel⟩
theorem sc_without : FnScope ["pipes", "taken"] ["pipes", "taken"] (defScope s_without) := ⟨rfl, rfl, rfl, by decide +kernel, rfl, by decide +kernel, by decide +kernel⟩
theorem sc_can_spare : FnScope ["laid", "left", "pipe", "many"] ["laid", "left", "pipe", "many"] (defScope s_can_spare) := ⟨rfl, rfl, rfl, by decide +kernel, rfl, by decide +kernel, by decide +kernel⟩
theorem sc_next_pipe : FnScope ["laid", "left", "wet", "many", "pipe"] ["laid", "left", "wet", "many"] (defScope s_next_pipe) := ⟨rfl, rfl, rfl, by decide +kernel, rfl, by decide +kernel, by decide +kernel⟩
theorem sc_grown : FnScope ["net", "left", "many", "laid", "tree", "wet", "pipe"] ["net", "left", "many"] (defScope s_grown) := ⟨rfl, rfl, rfl, by decide +kernel, rfl, by decide +kernel, by decide +kernel⟩
theorem sc_trees_apart : FnScope ["net", "many", "left", "trees", "count", "tree"] ["net", "many"] (defScope s_trees_apart) := ⟨rfl, rfl, rfl, by decide +kernel, rfl, by decide +kernel, by decide +kernel⟩
theorem sc_apart : FnScope ["net", "many", "place", "told"] ["net", "many"] (defScope s_apart) := ⟨rfl, rfl, rfl, by decide +kernel, rfl, by decide +kernel, by decide +kernel⟩
theorem sc_most_apart : FnScope ["net", "told", "least"] ["net"] (defScope s_most_apart) := ⟨rfl, rfl, rfl, by decide +kernel, rfl, by decide +kernel, by decide +kernel⟩
theorem sc__law_cell_at : FnScope ["script", "k"] ["script", "k"] (defScope s__law_cell_at) := ⟨rfl, rfl, rfl, by decide +kernel, rfl, by decide +kernel, by decide +kernel⟩
theorem sc__law_whole : FnScope ["found"] ["found"] (defScope s__law_whole) := ⟨rfl, rfl, rfl, by decide +kernel, rfl, by decide +kernel, by decide +kernel⟩
theorem sc__law_pipe_by : FnScope ["cell", "size", "start", "goal"] ["cell", "size"] (defScope s__law_pipe_by) := ⟨rfl, rfl, rfl, by decide +kernel, rfl, by decide +kernel, by decide +kernel⟩
theorem sc__law_pipes_by : FnScope ["script", "first", "many", "size"] ["script", "first", "many", "size"] (defScope s__law_pipes_by) := ⟨rfl, rfl, rfl, by decide +kernel, rfl, by decide +kernel, by decide +kernel⟩
theorem sc__law_net_by : FnScope ["size", "pipes", "net", "start", "goal", "opened", "number"] ["size", "pipes"] (defScope s__law_net_by) := ⟨rfl, rfl, rfl, by decide +kernel, rfl, by decide +kernel, by decide +kernel⟩
theorem sc__law_open : FnScope ["pipes"] ["pipes"] (defScope s__law_open) := ⟨rfl, rfl, rfl, by decide +kernel, rfl, by decide +kernel, by decide +kernel⟩
theorem sc__law_wet : FnScope ["size", "pairs", "here", "turn", "start", "goal"] ["size", "pairs"] (defScope s__law_wet) := ⟨rfl, rfl, rfl, by decide +kernel, rfl, by decide +kernel, by decide +kernel⟩
theorem sc__law_into : FnScope ["pipes", "places"] ["pipes", "places"] (defScope s__law_into) := ⟨rfl, rfl, rfl, by decide +kernel, rfl, by decide +kernel, by decide +kernel⟩
theorem sc__law_numbers : FnScope ["found", "bound", "number"] ["found", "bound"] (defScope s__law_numbers) := ⟨rfl, rfl, rfl, by decide +kernel, rfl, by decide +kernel, by decide +kernel⟩
theorem sc__law_rising : FnScope ["found", "bound"] ["found", "bound"] (defScope s__law_rising) := ⟨rfl, rfl, rfl, by decide +kernel, rfl, by decide +kernel, by decide +kernel⟩
theorem sc__law_is_tree : FnScope ["found", "size", "pipes", "number"] ["found", "size", "pipes"] (defScope s__law_is_tree) := ⟨rfl, rfl, rfl, by decide +kernel, rfl, by decide +kernel, by decide +kernel⟩
theorem sc__law_narrow : FnScope ["found", "size", "pipes", "many"] ["found", "size", "pipes", "many"] (defScope s__law_narrow) := ⟨rfl, rfl, rfl, by decide +kernel, rfl, by decide +kernel, by decide +kernel⟩
theorem sc__law_trees_apart : FnScope ["found", "size", "pipes", "many", "used", "tree"] ["found", "size", "pipes", "many"] (defScope s__law_trees_apart) := ⟨rfl, rfl, rfl, by decide +kernel, rfl, by decide +kernel, by decide +kernel⟩
theorem sc__law_order : FnScope ["cell", "size", "rest", "order"] ["cell", "size"] (defScope s__law_order) := ⟨rfl, rfl, rfl, by decide +kernel, rfl, by decide +kernel, by decide +kernel⟩
theorem sc_law : FnScope ["script", "size", "pipes", "turn", "order", "k", "net", "found", "least"] ["script"] (defScope s_law) := ⟨rfl, rfl, rfl, by decide +kernel, rfl, by decide +kernel, by decide +kernel⟩
set_option genInjectivity false in
set_option genSizeOf false in
structure TXd where
  a_Net : Addr
  t_SPRING : Tok
  t_MOST_PLACES : Tok
  t_MOST_PIPES : Tok
  tb_c : Addr
  tb_P : Addr
  f_check_place : Addr
  fd_check_place : FuncData
  f_check_pipe : Addr
  fd_check_pipe : FuncData
  f_Net_init : Addr
  fd_Net_init : FuncData
  f_Net_size : Addr
  fd_Net_size : FuncData
  f_Net_lay : Addr
  fd_Net_lay : FuncData
  f_Net_shut : Addr
  fd_Net_shut : FuncData
  f_Net_turn : Addr
  fd_Net_turn : FuncData
  f_Net_pipes : Addr
  fd_Net_pipes : FuncData
  f_open_pipes : Addr
  fd_open_pipes : FuncData
  f_ways_through : Addr
  fd_ways_through : FuncData
  f_turned : Addr
  fd_turned : FuncData
  f_switch : Addr
  fd_switch : FuncData
  f_parted : Addr
  fd_parted : FuncData
  f_ways_apart : Addr
  fd_ways_apart : FuncData
  f_bounding : Addr
  fd_bounding : FuncData
  f_ways : Addr
  fd_ways : FuncData
  f_widest : Addr
  fd_widest : FuncData
  f_without : Addr
  fd_without : FuncData
  f_can_spare : Addr
  fd_can_spare : FuncData
  f_next_pipe : Addr
  fd_next_pipe : FuncData
  f_grown : Addr
  fd_grown : FuncData
  f_trees_apart : Addr
  fd_trees_apart : FuncData
  f_apart : Addr
  fd_apart : FuncData
  f_most_apart : Addr
  fd_most_apart : FuncData
  f__law_cell_at : Addr
  fd__law_cell_at : FuncData
  f__law_whole : Addr
  fd__law_whole : FuncData
  f__law_pipe_by : Addr
  fd__law_pipe_by : FuncData
  f__law_pipes_by : Addr
  fd__law_pipes_by : FuncData
  f__law_net_by : Addr
  fd__law_net_by : FuncData
  f__law_open : Addr
  fd__law_open : FuncData
  f__law_wet : Addr
  fd__law_wet : FuncData
  f__law_into : Addr
  fd__law_into : FuncData
  f__law_numbers : Addr
  fd__law_numbers : FuncData
  f__law_rising : Addr
  fd__law_rising : FuncData
  f__law_is_tree : Addr
  fd__law_is_tree : FuncData
  f__law_narrow : Addr
  fd__law_narrow : FuncData
  f__law_trees_apart : Addr
  fd__law_trees_apart : FuncData
  f__law_order : Addr
  fd__law_order : FuncData
  f_law : Addr
  fd_law : FuncData
structure TXp (K : PySem.W.Frag) (mg : Str → Option Value) (d : TXd) : Prop where
  mg_Net : mg "Net" = some (.ref d.a_Net)
  cl_Net : Cls K d.a_Net
  na_Net_extent : NoAttr K d.a_Net "extent"
  na_Net_laid : NoAttr K d.a_Net "laid"
  mg_SPRING : mg "SPRING" = some (.int 0 d.t_SPRING)
  mg_MOST_PLACES : mg "MOST_PLACES" = some (.int 12 d.t_MOST_PLACES)
  mg_MOST_PIPES : mg "MOST_PIPES" = some (.int 60 d.t_MOST_PIPES)
  no_bool : mg "bool" = none
  no_enumerate : mg "enumerate" = none
  no_int : mg "int" = none
  no_isinstance : mg "isinstance" = none
  no_len : mg "len" = none
  no_list : mg "list" = none
  no_min : mg "min" = none
  no_range : mg "range" = none
  no_set : mg "set" = none
  no_sorted : mg "sorted" = none
  no_tuple : mg "tuple" = none
  F_check_place : Fun K "check_place" "check_place" s_check_place d.f_check_place d.fd_check_place
  b_check_place : Binds K d.fd_check_place ["net", "place"] []
  mg_check_place : mg "check_place" = some (.ref d.f_check_place)
  F_check_pipe : Fun K "check_pipe" "check_pipe" s_check_pipe d.f_check_pipe d.fd_check_pipe
  b_check_pipe : Binds K d.fd_check_pipe ["net", "pipe"] []
  mg_check_pipe : mg "check_pipe" = some (.ref d.f_check_pipe)
  F_Net_init : Fun K "__init__" "Net.__init__" s_Net_init d.f_Net_init d.fd_Net_init
  b_Net_init : Binds K d.fd_Net_init ["self", "size"] []
  mk_Net : Mk K d.a_Net d.f_Net_init
  F_Net_size : Fun K "size" "Net.size" s_Net_size d.f_Net_size d.fd_Net_size
  b_Net_size : Binds K d.fd_Net_size ["self"] []
  m_Net_size : Meth K d.a_Net "size" d.f_Net_size
  F_Net_lay : Fun K "lay" "Net.lay" s_Net_lay d.f_Net_lay d.fd_Net_lay
  b_Net_lay : Binds K d.fd_Net_lay ["self", "start", "goal"] []
  m_Net_lay : Meth K d.a_Net "lay" d.f_Net_lay
  F_Net_shut : Fun K "shut" "Net.shut" s_Net_shut d.f_Net_shut d.fd_Net_shut
  b_Net_shut : Binds K d.fd_Net_shut ["self", "pipe"] []
  m_Net_shut : Meth K d.a_Net "shut" d.f_Net_shut
  F_Net_turn : Fun K "turn" "Net.turn" s_Net_turn d.f_Net_turn d.fd_Net_turn
  b_Net_turn : Binds K d.fd_Net_turn ["self", "pipe", "opened"] []
  m_Net_turn : Meth K d.a_Net "turn" d.f_Net_turn
  F_Net_pipes : Fun K "pipes" "Net.pipes" s_Net_pipes d.f_Net_pipes d.fd_Net_pipes
  b_Net_pipes : Binds K d.fd_Net_pipes ["self"] []
  m_Net_pipes : Meth K d.a_Net "pipes" d.f_Net_pipes
  F_open_pipes : Fun K "open_pipes" "open_pipes" s_open_pipes d.f_open_pipes d.fd_open_pipes
  b_open_pipes : Binds K d.fd_open_pipes ["pipes"] []
  mg_open_pipes : mg "open_pipes" = some (.ref d.f_open_pipes)
  F_ways_through : Fun K "ways_through" "ways_through" s_ways_through d.f_ways_through d.fd_ways_through
  b_ways_through : Binds K d.fd_ways_through ["pipes", "usable"] []
  mg_ways_through : mg "ways_through" = some (.ref d.f_ways_through)
  F_turned : Fun K "turned" "turned" s_turned d.f_turned d.fd_turned
  b_turned : Binds K d.fd_turned ["pipes", "used"] []
  mg_turned : mg "turned" = some (.ref d.f_turned)
  F_switch : Fun K "switch" "switch" s_switch d.f_switch d.fd_switch
  b_switch : Binds K d.fd_switch ["used", "row"] []
  mg_switch : mg "switch" = some (.ref d.f_switch)
  F_parted : Fun K "parted" "parted" s_parted d.f_parted d.fd_parted
  b_parted : Binds K d.fd_parted ["pipes", "used", "place", "count"] []
  mg_parted : mg "parted" = some (.ref d.f_parted)
  F_ways_apart : Fun K "ways_apart" "ways_apart" s_ways_apart d.f_ways_apart d.fd_ways_apart
  b_ways_apart : Binds K d.fd_ways_apart ["pipes", "usable", "place", "many"] []
  mg_ways_apart : mg "ways_apart" = some (.ref d.f_ways_apart)
  F_bounding : Fun K "bounding" "bounding" s_bounding d.f_bounding d.fd_bounding
  b_bounding : Binds K d.fd_bounding ["net", "rows"] []
  mg_bounding : mg "bounding" = some (.ref d.f_bounding)
  F_ways : Fun K "ways" "ways" s_ways d.f_ways d.fd_ways
  b_ways : Binds K d.fd_ways ["net", "place", "many"] []
  mg_ways : mg "ways" = some (.ref d.f_ways)
  F_widest : Fun K "widest" "widest" s_widest d.f_widest d.fd_widest
  b_widest : Binds K d.fd_widest ["net", "place"] []
  mg_widest : mg "widest" = some (.ref d.f_widest)
  F_without : Fun K "without" "without" s_without d.f_without d.fd_without
  b_without : Binds K d.fd_without ["pipes", "taken"] []
  mg_without : mg "without" = some (.ref d.f_without)
  F_can_spare : Fun K "can_spare" "can_spare" s_can_spare d.f_can_spare d.fd_can_spare
  b_can_spare : Binds K d.fd_can_spare ["laid", "left", "pipe", "many"] []
  mg_can_spare : mg "can_spare" = some (.ref d.f_can_spare)
  F_next_pipe : Fun K "next_pipe" "next_pipe" s_next_pipe d.f_next_pipe d.fd_next_pipe
  b_next_pipe : Binds K d.fd_next_pipe ["laid", "left", "wet", "many"] []
  mg_next_pipe : mg "next_pipe" = some (.ref d.f_next_pipe)
  F_grown : Fun K "grown" "grown" s_grown d.f_grown d.fd_grown
  b_grown : Binds K d.fd_grown ["net", "left", "many"] []
  mg_grown : mg "grown" = some (.ref d.f_grown)
  F_trees_apart : Fun K "trees_apart" "trees_apart" s_trees_apart d.f_trees_apart d.fd_trees_apart
  b_trees_apart : Binds K d.fd_trees_apart ["net", "many"] []
  mg_trees_apart : mg "trees_apart" = some (.ref d.f_trees_apart)
  F_apart : Fun K "apart" "apart" s_apart d.f_apart d.fd_apart
  b_apart : Binds K d.fd_apart ["net", "many"] []
  mg_apart : mg "apart" = some (.ref d.f_apart)
  F_most_apart : Fun K "most_apart" "most_apart" s_most_apart d.f_most_apart d.fd_most_apart
  b_most_apart : Binds K d.fd_most_apart ["net"] []
  mg_most_apart : mg "most_apart" = some (.ref d.f_most_apart)
  F__law_cell_at : Fun K "_law_cell_at" "_law_cell_at" s__law_cell_at d.f__law_cell_at d.fd__law_cell_at
  b__law_cell_at : Binds K d.fd__law_cell_at ["script", "k"] []
  mg__law_cell_at : mg "_law_cell_at" = some (.ref d.f__law_cell_at)
  F__law_whole : Fun K "_law_whole" "_law_whole" s__law_whole d.f__law_whole d.fd__law_whole
  b__law_whole : Binds K d.fd__law_whole ["found"] []
  mg__law_whole : mg "_law_whole" = some (.ref d.f__law_whole)
  F__law_pipe_by : Fun K "_law_pipe_by" "_law_pipe_by" s__law_pipe_by d.f__law_pipe_by d.fd__law_pipe_by
  b__law_pipe_by : Binds K d.fd__law_pipe_by ["cell", "size"] []
  mg__law_pipe_by : mg "_law_pipe_by" = some (.ref d.f__law_pipe_by)
  F__law_pipes_by : Fun K "_law_pipes_by" "_law_pipes_by" s__law_pipes_by d.f__law_pipes_by d.fd__law_pipes_by
  b__law_pipes_by : Binds K d.fd__law_pipes_by ["script", "first", "many", "size"] []
  mg__law_pipes_by : mg "_law_pipes_by" = some (.ref d.f__law_pipes_by)
  F__law_net_by : Fun K "_law_net_by" "_law_net_by" s__law_net_by d.f__law_net_by d.fd__law_net_by
  b__law_net_by : Binds K d.fd__law_net_by ["size", "pipes"] []
  mg__law_net_by : mg "_law_net_by" = some (.ref d.f__law_net_by)
  F__law_open : Fun K "_law_open" "_law_open" s__law_open d.f__law_open d.fd__law_open
  b__law_open : Binds K d.fd__law_open ["pipes"] []
  mg__law_open : mg "_law_open" = some (.ref d.f__law_open)
  F__law_wet : Fun K "_law_wet" "_law_wet" s__law_wet d.f__law_wet d.fd__law_wet
  b__law_wet : Binds K d.fd__law_wet ["size", "pairs"] []
  mg__law_wet : mg "_law_wet" = some (.ref d.f__law_wet)
  F__law_into : Fun K "_law_into" "_law_into" s__law_into d.f__law_into d.fd__law_into
  b__law_into : Binds K d.fd__law_into ["pipes", "places"] []
  mg__law_into : mg "_law_into" = some (.ref d.f__law_into)
  F__law_numbers : Fun K "_law_numbers" "_law_numbers" s__law_numbers d.f__law_numbers d.fd__law_numbers
  b__law_numbers : Binds K d.fd__law_numbers ["found", "bound"] []
  mg__law_numbers : mg "_law_numbers" = some (.ref d.f__law_numbers)
  F__law_rising : Fun K "_law_rising" "_law_rising" s__law_rising d.f__law_rising d.fd__law_rising
  b__law_rising : Binds K d.fd__law_rising ["found", "bound"] []
  mg__law_rising : mg "_law_rising" = some (.ref d.f__law_rising)
  F__law_is_tree : Fun K "_law_is_tree" "_law_is_tree" s__law_is_tree d.f__law_is_tree d.fd__law_is_tree
  b__law_is_tree : Binds K d.fd__law_is_tree ["found", "size", "pipes"] []
  mg__law_is_tree : mg "_law_is_tree" = some (.ref d.f__law_is_tree)
  F__law_narrow : Fun K "_law_narrow" "_law_narrow" s__law_narrow d.f__law_narrow d.fd__law_narrow
  b__law_narrow : Binds K d.fd__law_narrow ["found", "size", "pipes", "many"] []
  mg__law_narrow : mg "_law_narrow" = some (.ref d.f__law_narrow)
  F__law_trees_apart : Fun K "_law_trees_apart" "_law_trees_apart" s__law_trees_apart d.f__law_trees_apart d.fd__law_trees_apart
  b__law_trees_apart : Binds K d.fd__law_trees_apart ["found", "size", "pipes", "many"] []
  mg__law_trees_apart : mg "_law_trees_apart" = some (.ref d.f__law_trees_apart)
  F__law_order : Fun K "_law_order" "_law_order" s__law_order d.f__law_order d.fd__law_order
  b__law_order : Binds K d.fd__law_order ["cell", "size"] []
  mg__law_order : mg "_law_order" = some (.ref d.f__law_order)
  F_law : Fun K "law" "law" s_law d.f_law d.fd_law
  b_law : Binds K d.fd_law ["script"] []
  mg_law : mg "law" = some (.ref d.f_law)
  cd_lam : d.fd_most_apart.code = .ref d.tb_c
  hd_lam : PySem.W.codeHdIn K d.tb_c d.tb_P = true
  nt_lam : K.lookup d.tb_P = none
set_option genInjectivity false in
set_option genSizeOf false in
structure TX (K : PySem.W.Frag) (mg : Str → Option Value) where
  toTXd : TXd
  toTXp : TXp K mg toTXd
end Sp
namespace Sp
open PySem L2 Sw PyProof.Rows
section
variable {P : Program} {w : World} {K : PySem.W.Frag} {mg : Str → Option Value} {base : Heap}
noncomputable def sp_size (C : Addr) : Sp := fun vs H Q _ => ∃ p l dx n, vs = [.ref p] ∧ H p = some (.ins C dx (flds n l)) ∧ Q (.int n) H
theorem ok_size (T : TX K mg) : FnOk P w K mg base (CX1 P w) 1 T.toTXd.f_Net_size T.toTXd.fd_Net_size ["self"] (sp_size T.toTXd.a_Net) := by
  refine T.toTXp.F_Net_size.ok1 sc_Net_size (fun vs H Q E h => ?_) (fun cdv A outer s H vs Q E hr h => ?_)
  · obtain ⟨p, l, dx, n, rfl, _⟩ := h
    rfl
  · obtain ⟨p, l, dx, n, rfl, hp, k⟩ := h
    refine ⟨_, pss_one (ps_ret (pe_fld (pv 0) rfl)), ?_⟩
    exact ⟨_, rfl, p, T.toTXd.a_Net, dx, _, _, rfl, hp, T.toTXp.cl_Net, T.toTXp.na_Net_extent, flds_extent _ _, k⟩
end
end Sp
namespace Sp
open PySem L2 Sw PyProof.Rows
section
variable {P : Program} {w : World} {K : PySem.W.Frag} {mg : Str → Option Value} {base : Heap}
noncomputable def sp_check (C : Addr) : Sp := fun vs H Q _ => ∃ (p l dx : Addr) (n i : Int), vs = [.ref p, .int i] ∧ H p = some (.ins C dx (flds n l)) ∧ 0 ≤ i ∧ i < n ∧ Q .non H
theorem ok_check (T : TX K mg) : FnOk P w K mg base (CX1 P w) 2 T.toTXd.f_check_place T.toTXd.fd_check_place ["net", "place"] (sp_check T.toTXd.a_Net) := by
  have G_Net_size : FnOk P w K mg base (CX1 P w) 1 T.toTXd.f_Net_size T.toTXd.fd_Net_size ["self"] (sp_size T.toTXd.a_Net) := ok_size T
  refine T.toTXp.F_check_place.ok1 sc_check_place (fun vs H Q E h => ?_) (fun cdv A outer s H vs Q E hr h => ?_)
  · obtain ⟨p, l, dx, n, i, rfl, _⟩ := h
    rfl
  · obtain ⟨p, l, dx, n, i, rfl, hp, i0, i1, q⟩ := h
    refine ⟨_, (pss_one (ps_if (PW.pt (pw_or (pt_cmp (pc_lt (pv 1) pe_int)) (pw_or1 (pt_cmp (pc_ge (pv 1) (pe_meth0 (pv 0) T.toTXp.cl_Net T.toTXp.m_Net_size G_Net_size (hr.mono (by decide)) T.toTXp.b_Net_size .nil passN)))))) (pss_one ps_never) pss_nil)), ?_⟩
    refine ⟨_, rfl, i, 0, rfl, rfl, _, rfl, ?_⟩
    refine ifF (by omega) ⟨_, rfl, _, rfl, p, dx, _, rfl, hp, flds_no _ _ (by decide +kernel) (by decide +kernel), p, l, dx, n, rfl, hp, i, n, rfl, rfl, _, rfl, ?_⟩
    exact ifF (by omega) q
end
end Sp
namespace Sp
open PySem L2 Sw PyProof.Rows
section
variable {P : Program} {w : World} {K : PySem.W.Frag} {mg : Str → Option Value} {base : Heap}
noncomputable def sp_init (C : Addr) : Sp := fun vs H Q _ => ∃ (p dx : Addr) (n : Int), vs = [.ref p, .int n] ∧ H p = some (.ins C dx []) ∧ 1 ≤ n ∧ n ≤ 12 ∧ ∀ l H', H l = none → NetAt C H' p l n [] → Ext [p] H H' → Q .non H'
theorem ok_init (T : TX K mg) : FnOk P w K mg base (CX1 P w) 1 T.toTXd.f_Net_init T.toTXd.fd_Net_init ["self", "size"] (sp_init T.toTXd.a_Net) := by
  refine T.toTXp.F_Net_init.ok1 sc_Net_init (fun vs H Q E h => ?_) (fun cdv A outer s H vs Q E hr h => ?_)
  · obtain ⟨p, dx, n, rfl, _⟩ := h
    rfl
  · obtain ⟨p, dx, n, rfl, hp, n0, n1, k1⟩ := h
    refine ⟨_, (pss_cons (ps_if (PW.pt (pw_or (pt_cmp (pc_lt (pv 1) pe_int)) (pw_or1 (pt_cmp (pc_gt (pv 1) (pe_gi rfl T.toTXp.mg_MOST_PLACES)))))) (pss_one ps_never) pss_nil)
      (pss_cons (ps_fld (pv 0) (pv 1) rfl)
      (pss_one (ps_fld (pv 0) (pe_lst pa_nil) rfl)))), ?_⟩
    refine ⟨_, rfl, n, 1, rfl, rfl, _, rfl, ?_⟩
    refine ifF (by (clear n1; omega)) ⟨_, rfl, n, 12, rfl, rfl, _, rfl, ?_⟩
    refine ifF (by (clear n0; omega)) ?_
    dsimp only [tNext]
    refine ⟨_, rfl, _, rfl, p, T.toTXd.a_Net, dx, [], rfl, hp, T.toTXp.cl_Net, T.toTXp.na_Net_extent, (by show 0 < 1000; decide), ?_⟩
    refine ⟨Nat.zero_le _, fun l hl => ?_⟩
    have hl0 : H l = none := by
      by_cases z : l = p
      · subst z; rw [upd_same] at hl; cases hl
      · rw [upd_ne z] at hl; exact hl
    have npl : p ≠ l := fresh_ne hp hl0 |>.symm
    refine ⟨_, rfl, p, T.toTXd.a_Net, dx, _, rfl, (by rw [upd_ne npl, upd_same]), T.toTXp.cl_Net, T.toTXp.na_Net_laid, (by show 1 < 1000; decide), ?_⟩
    refine k1 l _ hl0 ⟨⟨dx, upd_same⟩, [], by rw [upd_ne npl.symm, upd_same]; rfl, .nil⟩ ?_
    refine ⟨fun b o e n => ?_, fun b xs e => ?_, fun b o u e => ?_⟩
    · have nb : b ≠ p := fun z => n (by simp [z])
      rw [upd_ne nb, upd_ne (ne_of_none e hl0), upd_ne nb]; exact e
    · have nb : b ≠ p := fun z => by subst z; rw [hp] at e; cases e
      rw [upd_ne nb, upd_ne (ne_of_none e hl0), upd_ne nb]; exact e
    · have nb : b ≠ p := fun z => by subst z; rw [hp] at e; cases e
      rw [upd_ne nb, upd_ne (ne_of_none e hl0), upd_ne nb]; exact e
end
end Sp
namespace Sp
open PySem L2 Sw PyProof.Rows
section
variable {P : Program} {w : World} {K : PySem.W.Frag} {mg : Str → Option Value} {base : Heap}
noncomputable def sp_lay (C : Addr) : Sp := fun vs H Q _ => ∃ (p l : Addr) (n : Int) (ps : List Pt) (a b : Int), vs = [.ref p, .int a, .int b] ∧ NetAt C H p l n ps ∧ ((0 ≤ a ∧ a < n) ∧ 0 ≤ b ∧ b < n) ∧ a ≠ b ∧ ps.length < 60 ∧ ∀ H', NetAt C H' p l n (ps ++ [(a, b, true)]) → Ext [l] H H' → Q (.int ps.length) H'
theorem ok_lay (T : TX K mg) : FnOk P w K mg base (CX1 P w) 3 T.toTXd.f_Net_lay T.toTXd.fd_Net_lay ["self", "start", "goal"] (sp_lay T.toTXd.a_Net) := by
  have G_check_place : FnOk P w K mg base (CX1 P w) 2 T.toTXd.f_check_place T.toTXd.fd_check_place ["net", "place"] (sp_check T.toTXd.a_Net) := ok_check T
  refine T.toTXp.F_Net_lay.ok1 sc_Net_lay (fun vs H Q E h => ?_) (fun cdv A outer s H vs Q E hr h => ?_)
  · obtain ⟨p, l, n, ps, a, b, rfl, _⟩ := h
    rfl
  · obtain ⟨p, l, n, ps, a, b, rfl, N, rg, c0, hz, k⟩ := h
    refine ⟨_, (pss_cons (ps_expr (pe_call G_check_place (hr.mono (by decide)) rfl T.toTXp.mg_check_place T.toTXp.F_check_place.kp T.toTXp.b_check_place .nil passN (pa_cons (pv 0) (pa_cons (pv 1) pa_nil))))
      (pss_cons (ps_expr (pe_call G_check_place (hr.mono (by decide)) rfl T.toTXp.mg_check_place T.toTXp.F_check_place.kp T.toTXp.b_check_place .nil passN (pa_cons (pv 0) (pa_cons (pv 2) pa_nil))))
      (pss_cons (ps_if (pt_cmp (pc_eqI (pv 1) (pv 2))) (pss_one ps_never) pss_nil)
      (pss_cons (ps_if (pt_cmp (pc_ge (pe_callB (lenK K) (by rfl) T.toTXp.no_len bt_len (pa_cons (fldK K (pv 0)) pa_nil)) (pe_gi rfl T.toTXp.mg_MOST_PIPES))) (pss_one ps_never) pss_nil)
      (pss_cons (ps_expr (pe_bm PySem.F.plainAttrs_list PySem.F.slot_list_append PySem.F.type_list_append mt_append (fldK K (pv 0)) (pa_cons (pe_tup (pa_cons (pv 1) (pa_cons (pv 2) (pa_cons pe_bl pa_nil)))) pa_nil)))
      (pss_one (ps_ret (pe_op op_sub (pe_callB (lenK K) (by rfl) T.toTXp.no_len bt_len (pa_cons (fldK K (pv 0)) pa_nil)) pe_int)))))))), ?_⟩
    obtain ⟨⟨dx, hp⟩, ts, hl, tt⟩ := N
    have hts : ts.length = ps.length := tt.len
    refine ⟨_, rfl, _, rfl, p, l, dx, n, a, rfl, hp, rg.1.1, rg.1.2, ?_⟩
    refine ⟨_, rfl, _, rfl, p, l, dx, n, b, rfl, hp, rg.2.1, rg.2.2, ?_⟩
    refine ⟨_, rfl, _, rfl, a, b, rfl, rfl, _, rfl, ?_⟩
    refine ifF c0 ?_
    refine ⟨_, rfl, p, T.toTXd.a_Net, dx, _, _, rfl, hp, T.toTXp.cl_Net, T.toTXp.na_Net_laid, flds_laid _ _, l, _, rfl, .inl (SqL.of hl), _, 60, rfl, rfl, _, rfl, ?_⟩
    refine ifF (by rw [List.length_map, hts]; (clear rg c0 hts; omega)) ?_
    refine ⟨_, rfl, p, T.toTXd.a_Net, dx, _, _, rfl, hp, T.toTXp.cl_Net, T.toTXp.na_Net_laid, flds_laid _ _, .inl ⟨rfl, _, SqL.of hl⟩, _, rfl, _, rfl, (by show 3 ≤ sizeLine; decide), fun t ht => ?_⟩
    have nlt : l ≠ t := (fresh_ne hl ht).symm
    have npt : p ≠ t := (fresh_ne hp ht).symm
    have npl : p ≠ l := ne_of hp hl (by intro z; cases z)
    refine ⟨l, _, _, rfl, rfl, (by rw [upd_ne nlt]; exact hl), small1000 (by rw [List.length_map]; (clear rg c0; omega)), ?_⟩
    refine ⟨_, rfl, p, T.toTXd.a_Net, dx, _, _, rfl, (by rw [upd_ne npl, upd_ne npt]; exact hp), T.toTXp.cl_Net, T.toTXp.na_Net_laid, flds_laid _ _, l, _, rfl, .inl (SqL.of upd_same), _, 1, rfl, rfl, ?_⟩
    have eq1 : (((ts.map V.ref ++ [V.ref t]).length : Int) - 1) = (ps.length : Int) := by
      rw [List.length_append, List.length_map, hts]; simp
    show Q (V.int (((ts.map V.ref ++ [V.ref t]).length : Int) - 1)) _
    rw [eq1]
    have x1 : Ext [l] H (upd H t (.tup [.int a, .int b, .bl true])) := Ext.new ht
    have x2 : Ext [l] H (upd (upd H t (.tup [.int a, .int b, .bl true])) l (.lst (ts.map V.ref ++ [V.ref t]))) := x1.trans (Ext.putL (xs := ts.map V.ref) (by rw [upd_ne nlt]; exact hl) (by simp))
    refine k _ ⟨⟨dx, by rw [upd_ne npl, upd_ne npt]; exact hp⟩, ts ++ [t], by rw [upd_same, List.map_append]; rfl, ?_⟩ x2
    refine Tups.snoc ?_ (tt.mono x2.tups)
    rw [upd_ne nlt.symm, upd_same]
    rfl
end
end Sp
namespace Sp
open PySem L2 Sw PyProof.Rows
section
variable {P : Program} {w : World} {K : PySem.W.Frag} {mg : Str → Option Value} {base : Heap}
noncomputable def sp_pipes (C : Addr) : Sp := fun vs H Q _ => ∃ p l n ps, vs = [.ref p] ∧ NetAt C H p l n ps ∧ ∀ a H', H a = none → PipesAt H' a ps → Ext [] H H' → Q (.ref a) H'
theorem ok_pipes (T : TX K mg) : FnOk P w K mg base (CX1 P w) 1 T.toTXd.f_Net_pipes T.toTXd.fd_Net_pipes ["self"] (sp_pipes T.toTXd.a_Net) := by
  refine T.toTXp.F_Net_pipes.ok1 sc_Net_pipes (fun vs H Q E h => ?_) (fun cdv A outer s H vs Q E hr h => ?_)
  · obtain ⟨p, l, n, ps, rfl, _⟩ := h
    rfl
  · obtain ⟨p, l, n, ps, rfl, N, k⟩ := h
    refine ⟨_, pss_one (ps_ret (pe_callTy call_list_of (by rfl) T.toTXp.no_list (by decide +kernel) (pa_cons (pe_fld (pv 0) rfl) pa_nil))), ?_⟩
    obtain ⟨⟨dx, hp⟩, ts, hl, tt⟩ := N
    refine ⟨_, rfl, p, T.toTXd.a_Net, dx, _, _, rfl, hp, T.toTXp.cl_Net, T.toTXp.na_Net_laid, flds_laid _ _, l, _, rfl, .inl (SqL.of hl), fun a ha => ?_⟩
    exact k a _ ha ⟨ts, upd_same, tt.mono (Ext.new (S := []) ha).tups⟩ (Ext.new ha)
end
end Sp
namespace Sp
open PySem L2 Sw PyProof.Rows
section
variable {P : Program} {w : World} {K : PySem.W.Frag} {mg : Str → Option Value} {base : Heap}
noncomputable def sp_chpipe (C : Addr) : Sp := fun vs H Q _ => ∃ (p l : Addr) (n : Int) (ps : List Pt) (k : Int), vs = [.ref p, .int k] ∧ NetAt C H p l n ps ∧ 0 ≤ k ∧ k < ps.length ∧ ∀ H', Ext [] H H' → Q .non H'
theorem ok_chpipe (T : TX K mg) : FnOk P w K mg base (CX1 P w) 2 T.toTXd.f_check_pipe T.toTXd.fd_check_pipe ["net", "pipe"] (sp_chpipe T.toTXd.a_Net) := by
  have G_Net_pipes : FnOk P w K mg base (CX1 P w) 1 T.toTXd.f_Net_pipes T.toTXd.fd_Net_pipes ["self"] (sp_pipes T.toTXd.a_Net) := ok_pipes T
  refine T.toTXp.F_check_pipe.ok1 sc_check_pipe (fun vs H Q E h => ?_) (fun cdv A outer s H vs Q E hr h => ?_)
  · obtain ⟨p, l, n, ps, k, rfl, _⟩ := h
    rfl
  · obtain ⟨p, l, n, ps, k, rfl, N, k0, k1, q⟩ := h
    refine ⟨_, (pss_one (ps_if (PW.pt (pw_or (pt_cmp (pc_lt (pv 1) pe_int)) (pw_or1 (pt_cmp (pc_ge (pv 1) (pe_callB (lenK K) (by rfl) T.toTXp.no_len bt_len (pa_cons (pe_meth0 (pv 0) T.toTXp.cl_Net T.toTXp.m_Net_pipes G_Net_pipes (hr.mono (by decide)) T.toTXp.b_Net_pipes .nil passN) pa_nil))))))) (pss_one ps_never) pss_nil)), ?_⟩
    obtain ⟨⟨dx, hp⟩, _⟩ := id N
    refine ⟨_, rfl, k, 0, rfl, rfl, _, rfl, ?_⟩
    refine ifF (by (clear k1; omega)) ⟨_, rfl, _, rfl, p, dx, _, rfl, hp, flds_no _ _ (by decide +kernel) (by decide +kernel), p, l, n, ps, rfl, N, fun a H1 ha P1 x1 => ?_⟩
    obtain ⟨us, hl1, tt1⟩ := P1
    exact ⟨a, _, rfl, .inl (SqL.of hl1), _, _, rfl, rfl, _, rfl, ifF (by rw [List.length_map, tt1.len]; omega) (q H1 x1)⟩
noncomputable def sp_turn (C : Addr) : Sp := fun vs H Q _ => ∃ (p l : Addr) (n : Int) (ps : List Pt) (k : Int) (o : Bool), vs = [.ref p, .int k, .bl o] ∧ NetAt C H p l n ps ∧ 0 ≤ k ∧ k < ps.length ∧
  (∀ (j : Nat) (x : Pt), k = j → ps[j]? = some x → ∀ H', NetAt C H' p l n (ps.set j (x.1, x.2.1, o)) → Ext [l] H H' → Q .non H')
theorem ok_turn (T : TX K mg) : FnOk P w K mg base (CX1 P w) 3 T.toTXd.f_Net_turn T.toTXd.fd_Net_turn ["self", "pipe", "opened"] (sp_turn T.toTXd.a_Net) := by
  have G_check_pipe : FnOk P w K mg base (CX1 P w) 2 T.toTXd.f_check_pipe T.toTXd.fd_check_pipe ["net", "pipe"] (sp_chpipe T.toTXd.a_Net) := ok_chpipe T
  refine T.toTXp.F_Net_turn.ok1 sc_Net_turn (fun vs H Q E h => ?_) (fun cdv A outer s H vs Q E hr h => ?_)
  · obtain ⟨p, l, n, ps, k, o, rfl, _⟩ := h
    rfl
  · obtain ⟨p, l, n, ps, k, o, rfl, N0, k0, k1, q0⟩ := h
    refine ⟨_, (pss_cons (ps_expr (pe_call G_check_pipe (hr.mono (by decide)) rfl T.toTXp.mg_check_pipe T.toTXp.F_check_pipe.kp T.toTXp.b_check_pipe .nil passN (pa_cons (pv 0) (pa_cons (pv 1) pa_nil))))
      (pss_cons (ps_set (i := 3) sc_Net_turn.nd rfl (Or.inl rfl) (pe_ix (ixL K) (fldK K (pv 0)) (pv 1) (fun _ _ => rfl)))
      (pss_one (ps_asg (pe_tup (pa_cons (pe_ix (ixT K) (pv 3) pe_int (fun _ _ => rfl)) (pa_cons (pe_ix (ixT K) (pv 3) pe_int (fun _ _ => rfl)) (pa_cons (pv 2) pa_nil)))) (pg_sub (fldK K (pv 0)) (pv 1) set_list))))), ?_⟩
    refine ⟨_, rfl, _, rfl, p, l, n, ps, k, rfl, N0, k0, k1, fun H1 x0 => ?_⟩
    have N := N0.ext x0 (by simp) (by simp)
    have q : ∀ (j : Nat) (x : Pt), k = j → ps[j]? = some x → ∀ H', NetAt T.toTXd.a_Net H' p l n (ps.set j (x.1, x.2.1, o)) → Ext [l] H1 H' → Q .non H' := fun j x a b H' c d => q0 j x a b H' c ((x0.mono (by simp)).trans d)
    obtain ⟨⟨dx, hp⟩, ts, hl, tt⟩ := id N
    have hts : ts.length = ps.length := tt.len
    clear N0 q0 x0
    obtain ⟨j, rfl⟩ : ∃ j : Nat, k = j := ⟨k.toNat, by (clear k1 hts; omega)⟩
    have hj : j < ps.length := by (clear hts k0; omega)
    obtain ⟨t, ht, et⟩ := tt.get (i := j) (p := ps[j]) (by simp [hj])
    have a1 : atI (ts.map V.ref) (j : Int) = some (.ref t) := atI_nat (by rw [List.getElem?_map, ht]; rfl)
    refine ⟨_, rfl, p, T.toTXd.a_Net, dx, _, _, rfl, hp, T.toTXp.cl_Net, T.toTXp.na_Net_laid, flds_laid _ _, _, rfl, l, _, _, _, rfl, rfl, SqL.of hl, a1, ?_⟩
    refine ⟨_, rfl, t, _, 0, _, rfl, rfl, SqT.of et, rfl, _, rfl, t, _, 1, _, rfl, rfl, SqT.of et, rfl, _, rfl, (by show 3 ≤ sizeLine; decide), fun u hu => ?_⟩
    have nlu : l ≠ u := (fresh_ne hl hu).symm
    have npu : p ≠ u := (fresh_ne hp hu).symm
    have npl : p ≠ l := ne_of hp hl (by intro z; cases z)
    have ix : ixN (ts.map V.ref).length (j : Int) = some j := by
      unfold ixN
      rw [if_pos (by (clear hts k1 k0; omega)), if_pos (by rw [List.length_map]; omega)]
      simp
    refine ⟨_, rfl, p, T.toTXd.a_Net, dx, _, _, rfl, (by rw [upd_ne npu]; exact hp), T.toTXp.cl_Net, T.toTXp.na_Net_laid, flds_laid _ _, _, rfl, l, _, _, _, rfl, rfl, (by rw [upd_ne nlu]; exact hl), ix, ?_⟩
    have x1 : Ext [l] H1 (upd H1 u (.tup [.int ps[j].1, .int ps[j].2.1, .bl o])) := Ext.new hu
    have x2 := x1.trans (Ext.putL (o := .lst ((ts.map V.ref).set j (.ref u))) (p := l) (xs := ts.map V.ref) (by rw [upd_ne nlu]; exact hl) (by simp))
    refine q j ps[j] rfl (by simp [hj]) _ ⟨⟨dx, by rw [upd_ne npl, upd_ne npu]; exact hp⟩, ts.set j u, ?_, ?_⟩ x2
    · rw [upd_same, ← List.map_set]
    · refine Tups.set ?_ j (tt.mono x2.tups)
      rw [upd_ne nlu.symm, upd_same]
      rfl
noncomputable def sp_turn2 (C : Addr) (o : Bool) : Sp := fun vs H Q _ => ∃ (p l : Addr) (n : Int) (ps : List Pt) (k : Int), vs = [.ref p, .int k] ∧ NetAt C H p l n ps ∧ 0 ≤ k ∧ k < ps.length ∧
  (∀ (j : Nat) (x : Pt), k = j → ps[j]? = some x → ∀ H', NetAt C H' p l n (ps.set j (x.1, x.2.1, o)) → Ext [l] H H' → Q .non H')
theorem ok_shut (T : TX K mg) : FnOk P w K mg base (CX1 P w) 4 T.toTXd.f_Net_shut T.toTXd.fd_Net_shut ["self", "pipe"] (sp_turn2 T.toTXd.a_Net false) := by
  have G_Net_turn : FnOk P w K mg base (CX1 P w) 3 T.toTXd.f_Net_turn T.toTXd.fd_Net_turn ["self", "pipe", "opened"] (sp_turn T.toTXd.a_Net) := ok_turn T
  refine T.toTXp.F_Net_shut.ok1 sc_Net_shut (fun vs H Q E h => ?_) (fun cdv A outer s H vs Q E hr h => ?_)
  · obtain ⟨p, l, n, ps, k, rfl, _⟩ := h
    rfl
  · obtain ⟨p, l, n, ps, k, rfl, N, k0, k1, q⟩ := h
    refine ⟨_, (pss_one (ps_expr (pe_meth (pv 0) T.toTXp.cl_Net T.toTXp.m_Net_turn G_Net_turn (hr.mono (by decide)) T.toTXp.b_Net_turn .nil passN (pa_cons (pv 1) (pa_cons pe_bl pa_nil))))), ?_⟩
    obtain ⟨⟨dx, hp⟩, _⟩ := id N
    exact ⟨_, rfl, p, dx, _, rfl, hp, flds_no _ _ (by decide +kernel) (by decide +kernel), _, rfl, p, l, n, ps, k, false, rfl, N, k0, k1, q⟩
end
end Sp
namespace Sp
open PySem L2 Sw PyProof.Rows
section
variable {P : Program} {w : World} {K : PySem.W.Frag} {mg : Str → Option Value} {base : Heap}
noncomputable def cell (ns : List Int) (k : Int) : Int := ns.getD k.toNat 0
noncomputable def sp_cell (K : PySem.W.Frag) : Sp := fun vs H Q _ => ∃ (a : Addr) (ns : List Int) (k : Int), vs = [.ref a, .int k] ∧ SqL K H a (ns.map V.int) ∧ 0 ≤ k ∧ Q (.int (cell ns k)) H
theorem ok_cell (T : TX K mg) : FnOk P w K mg base (CX1 P w) 1 T.toTXd.f__law_cell_at T.toTXd.fd__law_cell_at ["script", "k"] (sp_cell K) := by
  refine T.toTXp.F__law_cell_at.ok1 sc__law_cell_at (fun vs H Q E h => ?_) (fun cdv A outer s H vs Q E hr h => ?_)
  · obtain ⟨a, ns, k, rfl, _⟩ := h
    rfl
  · obtain ⟨a, ns, k, rfl, hS, hk, q⟩ := h
    refine ⟨_, pss_cons (ps_if (pt_cmp (pc_lt (pv 1) (pe_callB call_len_seq (by rfl) T.toTXp.no_len bt_len (pa_cons (pv 0) pa_nil)))) (pss_one (ps_ret (pe_ix ix_list (pv 0) (pv 1) (fun _ _ => rfl)))) pss_nil) (pss_one (ps_ret pe_int)), ?_⟩
    refine ⟨_, rfl, _, rfl, a, _, rfl, .inl hS, k, _, rfl, rfl, _, rfl, ?_⟩
    refine ite2 (fun c => ?_) (fun c => ?_)
    · have c0 : k < ((ns.map V.int).length : Int) := of_decide_eq_true c
      rw [List.length_map] at c0
      have hlt : k.toNat < ns.length := by omega
      refine ⟨_, rfl, _, rfl, a, _, k, .int (ns[k.toNat]), rfl, rfl, hS, ?_, ?_⟩
      · have e : (ns.map V.int)[k.toNat]? = some (.int ns[k.toNat]) := by rw [List.getElem?_map, List.getElem?_eq_getElem hlt]; rfl
        have := atI_nat e
        rwa [Int.toNat_of_nonneg hk] at this
      · have e : cell ns k = ns[k.toNat] := by unfold cell; rw [List.getD_eq_getElem?_getD, List.getElem?_eq_getElem hlt]; rfl
        rw [e] at q
        exact q
    · have c0 : ¬ k < ((ns.map V.int).length : Int) := fun z => c (decide_eq_true z)
      rw [List.length_map] at c0
      have e : cell ns k = 0 := by unfold cell; rw [List.getD_eq_getElem?_getD, List.getElem?_eq_none (by (clear c hk; omega))]; rfl
      rw [e] at q
      exact q
end
end Sp
namespace Sp
open PySem L2 Sw PyProof.Rows
section
variable {P : Program} {w : World} {K : PySem.W.Frag} {mg : Str → Option Value} {base : Heap}
noncomputable def sp_whole : Sp := fun vs H Q _ => ∃ (i : Int), vs = [.int i] ∧ Q (.bl true) H
theorem ok_whole (T : TX K mg) : FnOk P w K mg base (CX1 P w) 1 T.toTXd.f__law_whole T.toTXd.fd__law_whole ["found"] sp_whole := by
  refine T.toTXp.F__law_whole.ok1 sc__law_whole (fun vs H Q E h => ?_) (fun cdv A outer s H vs Q E hr h => ?_)
  · obtain ⟨i, rfl, _⟩ := h
    rfl
  · obtain ⟨i, rfl, q⟩ := h
    refine ⟨_, pss_one (ps_ret (pe_and (pe_callB call_isi0 (by rfl) T.toTXp.no_isinstance bt_isinstance (pa_cons (pv 0) (pa_cons (pe_bltn (v := .ty "int") rfl T.toTXp.no_int bt_int rfl) pa_nil)))
      (pe_one (pe_not (pe_callB call_isi0 (by rfl) T.toTXp.no_isinstance bt_isinstance (pa_cons (pv 0) (pa_cons (pe_bltn (v := .ty "bool") rfl T.toTXp.no_bool bt_bool rfl) pa_nil))))))), ?_⟩
    refine ⟨_, rfl, _, _, _, _, _, rfl, rfl, .ty (.int i), kit_same K _, _, rfl, ?_⟩
    refine iteT ?_
    exact ⟨_, rfl, _, _, _, _, _, rfl, rfl, .ty (.int i), kit_int_bool K, _, rfl, q⟩
end
end Sp
namespace Sp
open PySem L2 Sw PyProof.Rows
section
variable {P : Program} {w : World} {K : PySem.W.Frag} {mg : Str → Option Value} {base : Heap}
noncomputable def pipeBy (c n : Int) : Pt := (c % n, (c % n + 1 + c / n % (n - 1)) % n, !decide (c / 11 % 8 = 1))
theorem pipeBy_ok {c n : Int} (h : 2 ≤ n) : (0 ≤ (pipeBy c n).1 ∧ (pipeBy c n).1 < n) ∧ (0 ≤ (pipeBy c n).2.1 ∧ (pipeBy c n).2.1 < n) ∧ (pipeBy c n).1 ≠ (pipeBy c n).2.1 := by
  unfold pipeBy
  dsimp only
  have a0 := Int.emod_nonneg c (show n ≠ 0 by omega)
  have a1 := Int.emod_lt_of_pos c (show 0 < n by (clear a0; omega))
  have b0 := Int.emod_nonneg (c / n) (show n - 1 ≠ 0 by (clear a0 a1; omega))
  have b1 := Int.emod_lt_of_pos (c / n) (show 0 < n - 1 by (clear a0 a1 b0; omega))
  generalize c % n = s at a0 a1 ⊢
  generalize c / n % (n - 1) = r at b0 b1 ⊢
  refine ⟨⟨a0, a1⟩, ⟨Int.emod_nonneg _ (by (clear a0 a1 b0 b1; omega)), Int.emod_lt_of_pos _ (by (clear a0 a1 b0 b1; omega))⟩, ?_⟩
  by_cases z : s + 1 + r < n
  · rw [Int.emod_eq_of_lt (by (clear h a1 b1 z; omega)) z]; omega
  · have e : (s + 1 + r) % n = s + 1 + r - n := by
      rw [← Int.sub_emod_right (s + 1 + r) n]
      exact Int.emod_eq_of_lt (by omega) (by omega)
    rw [e]; (clear h a0 a1 b0 z e; omega)
noncomputable def sp_pipe_by : Sp := fun vs H Q _ => ∃ (c n : Int), vs = [.int c, .int n] ∧ 2 ≤ n ∧ n ≤ 12 ∧ ∀ t, H t = none → Q (.ref t) (upd H t (tupOf (pipeBy c n)))
theorem ok_pipe_by (T : TX K mg) : FnOk P w K mg base (CX1 P w) 1 T.toTXd.f__law_pipe_by T.toTXd.fd__law_pipe_by ["cell", "size"] sp_pipe_by := by
  refine T.toTXp.F__law_pipe_by.ok1 sc__law_pipe_by (fun vs H Q E h => ?_) (fun cdv A outer s H vs Q E hr h => ?_)
  · obtain ⟨c, n, rfl, _⟩ := h
    rfl
  · obtain ⟨c, n, rfl, n0, n1, q⟩ := h
    refine ⟨_, (pss_cons (ps_set (i := 2) sc__law_pipe_by.nd rfl (Or.inl rfl) (pe_op op_mod (pv 0) (pv 1)))
      (pss_cons (ps_set (i := 3) sc__law_pipe_by.nd rfl (Or.inl rfl) (pe_op op_mod (pe_op op_add (pe_op op_add (pv 2) pe_int) (pe_op op_mod (pe_op op_fdiv (pv 0) (pv 1)) (pe_op op_sub (pv 1) pe_int))) (pv 1)))
      (pss_one (ps_ret (pe_tup (pa_cons (pv 2) (pa_cons (pv 3) (pa_cons (pe_cmp (pc_neI (pe_op op_mod (pe_op op_fdiv (pv 0) pe_int) pe_int) pe_int)) pa_nil)))))))), ?_⟩
    refine ⟨_, rfl, _, rfl, c, n, rfl, rfl, (by show (0 : Int) < n; (clear n1; omega)), ?_⟩
    refine ⟨_, rfl, _, _, rfl, rfl, _, rfl, _, rfl, c, n, rfl, rfl, ⟨by (clear n1; omega), by (clear n0; omega)⟩, _, rfl, _, _, rfl, rfl, _, _, rfl, rfl, (by show (0 : Int) < n - 1; (clear n1; omega)), _, _, rfl, rfl, _, rfl, _, n, rfl, rfl, (by show (0 : Int) < n; (clear n1; omega)), ?_⟩
    exact ⟨_, rfl, _, rfl, _, rfl, _, _, rfl, rfl, ⟨by decide, by decide⟩, _, _, rfl, rfl, (by show (0 : Int) < 8; decide), _, _, rfl, rfl, (by show 3 ≤ sizeLine; decide), q⟩
end
end Sp
namespace Sp
open PySem L2 Sw PyProof.Rows
section
variable {P : Program} {w : World} {K : PySem.W.Frag} {mg : Str → Option Value} {base : Heap}
noncomputable def pipesBy (ns : List Int) (f : Int) (m : Nat) (n : Int) : List Pt := if n < 2 then [] else (List.range m).map fun k : Nat => pipeBy (cell ns (f + k)) n
noncomputable def sp_pipes_by (K : PySem.W.Frag) : Sp := fun vs H Q _ => ∃ (a : Addr) (ns : List Int) (f : Int) (m : Nat) (n : Int), vs = [.ref a, .int f, .int m, .int n] ∧ ScrAt K H a (ns.map V.int) ∧ 0 ≤ f ∧ m ≤ 60 ∧ n ≤ 12 ∧
  ∀ b H', H b = none → PipesAt H' b (pipesBy ns f m n) → Ext [] H H' → Q (.ref b) H'
theorem ok_pipes_by (T : TX K mg) : FnOk P w K mg base (CX1 P w) 2 T.toTXd.f__law_pipes_by T.toTXd.fd__law_pipes_by ["script", "first", "many", "size"] (sp_pipes_by K) := by
  have Gp : FnOk P w K mg base (CX1 P w) 1 T.toTXd.f__law_pipe_by T.toTXd.fd__law_pipe_by ["cell", "size"] sp_pipe_by := ok_pipe_by T
  have Gc : FnOk P w K mg base (CX1 P w) 1 T.toTXd.f__law_cell_at T.toTXd.fd__law_cell_at ["script", "k"] (sp_cell K) := ok_cell T
  refine T.toTXp.F__law_pipes_by.ok1 sc__law_pipes_by (fun vs H Q E h => ?_) (fun cdv A outer s H vs Q E hr h => ?_)
  · obtain ⟨a, ns, f, m, n, rfl, _⟩ := h
    rfl
  · obtain ⟨a, ns, f, m, n, rfl, hS, hf, hm, hn, q⟩ := h
    refine ⟨_, (pss_cons (ps_if (pt_cmp (pc_lt (pv 3) pe_int)) (pss_one (ps_ret (pe_lst pa_nil))) pss_nil)
      (pss_one (ps_ret (pe_comp (locs := ["k"]) (caps := [0, 1, 3]) rfl ⟨by rfl, by decide +kernel, rfl, by decide +kernel, by exact ⟨rfl, rfl, rfl, trivial⟩, by rfl, by rfl⟩ (pi_range1 rfl T.toTXp.no_range (pa_cons (pv 2) pa_nil)) (fun fp s3 H3 => pg_name (i := 0) (show (["k", "script", "first", "size"] : List Str).Nodup by decide +kernel) rfl (Or.inl rfl)) (fun fp s3 H3 => pts_nil)
          (fun fp s3 H3 => (pe_call Gp hr rfl T.toTXp.mg__law_pipe_by T.toTXp.F__law_pipe_by.kp T.toTXp.b__law_pipe_by .nil passN (pa_cons (pe_call Gc hr rfl T.toTXp.mg__law_cell_at T.toTXp.F__law_cell_at.kp T.toTXp.b__law_cell_at .nil passN (pa_cons (pv 1) (pa_cons (pe_op op_add (pv 2) (pv 0)) pa_nil))) (pa_cons (pv 3) pa_nil)))))))), ?_⟩
    refine ⟨_, rfl, n, 2, rfl, rfl, _, rfl, ?_⟩
    refine ite2 (fun c => ?_) (fun c => ?_)
    · have c0 := of_decide_eq_true c
      refine ⟨Nat.zero_le _, fun b hb => q b _ hb ?_ (Ext.new hb)⟩
      unfold pipesBy
      rw [if_pos c0]
      exact ⟨[], upd_same, .nil⟩
    · have c0 : ¬ n < 2 := fun z => c (decide_eq_true z)
      refine ⟨_, rfl, _, rfl, by (clear hf hn c c0 hm; omega), by (clear hf hn c c0; omega), fun D hD => ?_⟩
      rw [Int.toNat_natCast]
      refine cl_range (n := m) (fun i σ' H' => ∃ (x : Option V) (ts : List Addr), σ' = [x, some (.ref a), some (.int f), some (.int n)] ∧ H' D = some (.lst (ts.map V.ref)) ∧ Tups H' ts ((List.range i).map fun k : Nat => pipeBy (cell ns (f + k)) n) ∧ Ext [] H H') ⟨none, [], rfl, upd_same, .nil, Ext.new hD⟩ ?_ ?_
      · rintro i σ' H' hi ⟨x, ts, rfl, hD', tt, ex⟩
        refine ⟨_, rfl, _, rfl, _, rfl, _, _, rfl, rfl, a, ns, _, rfl, (hS.ext ex).sq, (by (clear hm hn c c0 hi; omega)), _, rfl, _, n, rfl, by (clear hf hm c hi hn; omega), by (clear hf hm c hi c0; omega), fun t ht => ?_⟩
        have nDt : D ≠ t := (fresh_ne hD' ht).symm
        have hlen : ts.length = i := by rw [tt.len, List.length_map, List.length_range]
        refine ⟨_, by rw [upd_ne nDt]; exact hD', small1000 (by rw [List.length_map]; (clear hf hn c c0; omega)), ?_⟩
        obtain ⟨P6, x6⟩ := pipes_push (pipeBy (cell ns (f + i)) n) hD' tt ht
        have e : (List.range (i + 1)).map (fun k : Nat => pipeBy (cell ns (f + k)) n) = ((List.range i).map fun k : Nat => pipeBy (cell ns (f + k)) n) ++ [pipeBy (cell ns (f + i)) n] := by rw [List.range_succ, List.map_append]; rfl
        rw [Int.zero_add]
        refine ⟨_, ts ++ [t], rfl, by rw [upd_same, List.map_append]; rfl, ?_, ex.over1 x6 hD⟩
        rw [e]
        refine Tups.snoc ?_ (tt.mono x6.tups)
        rw [upd_ne nDt.symm, upd_same]
      · rintro σ' H' ⟨x, ts, rfl, hD', tt, ex⟩
        refine q D H' hD ?_ ex
        unfold pipesBy
        rw [if_neg c0]
        exact ⟨ts, hD', tt⟩
end
end Sp
namespace Sp
open PySem L2 Sw PyProof.Rows
section
variable {P : Program} {w : World} {K : PySem.W.Frag} {mg : Str → Option Value} {base : Heap}
noncomputable def PtOk (n : Int) (x : Pt) : Prop := ((0 ≤ x.1 ∧ x.1 < n) ∧ 0 ≤ x.2.1 ∧ x.2.1 < n) ∧ x.1 ≠ x.2.1
noncomputable def sp_net_by (C : Addr) : Sp := fun vs H Q _ => ∃ (n : Int) (a : Addr) (ps : List Pt), vs = [.int n, .ref a] ∧ 1 ≤ n ∧ n ≤ 12 ∧ PipesAt H a ps ∧ (∀ x ∈ ps, PtOk n x) ∧ ps.length ≤ 60 ∧
  ∀ p l H', H p = none → H l = none → NetAt C H' p l n ps → Ext [] H H' → Q (.ref p) H'
theorem set_last {α : Type} (l : List α) (x y : α) : (l ++ [x]).set l.length y = l ++ [y] := by
  rw [List.set_append_right _ _ (Nat.le_refl _), Nat.sub_self]
  rfl
theorem ok_net_by (T : TX K mg) : FnOk P w K mg base (CX1 P w) 5 T.toTXd.f__law_net_by T.toTXd.fd__law_net_by ["size", "pipes"] (sp_net_by T.toTXd.a_Net) := by
  have Gi : FnOk P w K mg base (CX1 P w) 1 T.toTXd.f_Net_init T.toTXd.fd_Net_init ["self", "size"] (sp_init T.toTXd.a_Net) := ok_init T
  have Gy : FnOk P w K mg base (CX1 P w) 3 T.toTXd.f_Net_lay T.toTXd.fd_Net_lay ["self", "start", "goal"] (sp_lay T.toTXd.a_Net) := ok_lay T
  have Gh : FnOk P w K mg base (CX1 P w) 4 T.toTXd.f_Net_shut T.toTXd.fd_Net_shut ["self", "pipe"] (sp_turn2 T.toTXd.a_Net false) := ok_shut T
  refine T.toTXp.F__law_net_by.ok1 sc__law_net_by (fun vs H Q E h => ?_) (fun cdv A outer s H vs Q E hr h => ?_)
  · obtain ⟨n, a, ps, rfl, _⟩ := h
    rfl
  · obtain ⟨n, a, ps, rfl, n0, n1, hP, hok, hz, q⟩ := h
    have h2 := hr.mono (j := 2) (by decide)
    have h3 := hr.mono (j := 3) (by decide)
    refine ⟨_, (pss_cons (ps_set (i := 2) sc__law_net_by.nd rfl (Or.inl rfl) (pe_make T.toTXp.mk_Net Gi (hr.mono (by decide)) rfl T.toTXp.mg_Net T.toTXp.b_Net_init .nil passN (pa_cons (pv 0) pa_nil)))
      (pss_cons (ps_for PassesOwn.never rfl (pi_list (pv 1)) (pg_tup rfl (pgs_cons (pg_name (i := 3) sc__law_net_by.nd rfl (Or.inl rfl)) (pgs_cons (pg_name (i := 4) sc__law_net_by.nd rfl (Or.inl rfl)) (pgs_cons (pg_name (i := 5) sc__law_net_by.nd rfl (Or.inl rfl)) pgs_nil))))
      (pss_cons (ps_set (i := 6) sc__law_net_by.nd rfl (Or.inl rfl) (pe_meth (pv 2) T.toTXp.cl_Net T.toTXp.m_Net_lay Gy (hr.mono (by decide)) T.toTXp.b_Net_lay .nil passN (pa_cons (pv 3) (pa_cons (pv 4) pa_nil))))
      (pss_one (ps_if (pt_not (pt_val (pv 5))) (pss_one (ps_expr (pe_meth (pv 2) T.toTXp.cl_Net T.toTXp.m_Net_shut Gh (hr.mono (by decide)) T.toTXp.b_Net_shut .nil passN (pa_cons (pv 6) pa_nil)))) pss_nil))))
      (pss_one (ps_ret (pv 2))))), ?_⟩
    refine ⟨_, rfl, fun p dx np ndx nex => ?_⟩
    refine ⟨p, dx, n, rfl, upd_same, n0, n1, fun l H5 hl N5 x5 => ⟨rfl, ?_⟩⟩
    have y1 : Ext [] H (upd (upd H dx (.own p)) p (.ins T.toTXd.a_Net dx [])) := (Ext.new ndx).trans (Ext.new (by rw [upd_ne (Ne.symm nex)]; exact np))
    have y5 : Ext [] H H5 := y1.over1 x5 np
    have hl0 : H l = none := y1.free hl (by simp)
    have P5 := hP.ext y5 (by simp)
    obtain ⟨ts, ha, tt⟩ := id hP
    have nla : a ≠ l := (fresh_ne ha hl0).symm
    have npa : a ≠ p := (fresh_ne ha np).symm
    refine ⟨_, rfl, a, rfl, ⟨_, SqL.of (y5.keep _ _ ha (by simp))⟩, for_list (K := K) (a := a) (xs := ts.map V.ref) (fun i σ H2 => ∃ (y3 y4 y5 y6 : Option V), σ = [some (.int n), some (.ref a), some (.ref p), y3, y4, y5, y6] ∧ NetAt T.toTXd.a_Net H2 p l n (ps.take i) ∧ Ext [] H H2)
      ⟨_, _, _, _, rfl, by rw [List.take_zero]; exact N5, y5⟩ (fun i σ H2 _ h => ?_) ?_ ?_⟩
    · obtain ⟨_, _, _, _, _, _, ex⟩ := h
      exact SqL.of (ex.keep _ _ ha (by simp))
    · rintro i y σ H2 hy ⟨y3, y4, y5', y6, rfl, N, ex⟩
      have hi : i < ps.length := by
        have := (List.getElem?_eq_some_iff.mp hy).1
        rw [List.length_map, tt.len] at this
        exact this
      obtain ⟨t, ht, et⟩ := tt.get (i := i) (p := ps[i]) (by simp [hi])
      obtain rfl : y = .ref t := by
        rw [List.getElem?_map, ht] at hy
        exact (Option.some.inj hy).symm
      have okx := hok ps[i] (List.getElem_mem hi)
      obtain ⟨⟨dy, hp⟩, _⟩ := id N
      have el : (ps.take i).length = i := by rw [List.length_take]; (clear n0 n1 hz; omega)
      refine ⟨t, _, rfl, SqT.of (ex.tups _ _ et), rfl, _, _, rfl, _, _, rfl, _, _, rfl, rfl, ?_⟩
      refine ⟨_, rfl, p, dy, _, rfl, hp, flds_no _ _ (by decide +kernel) (by decide +kernel), _, rfl, _, rfl, p, l, n, ps.take i, _, _, rfl, N, okx.1, okx.2, by (clear n0 n1; omega), fun H3 N3 x3 => ?_⟩
      have ex3 := ex.over1 x3 hl0
      have tk : ps.take (i + 1) = ps.take i ++ [ps[i]] := by rw [List.take_succ, List.getElem?_eq_getElem hi]; rfl
      refine ⟨_, rfl, _, rfl, ?_⟩
      refine ite2 (fun c => ?_) (fun c => ?_)
      · have c0 : ps[i].2.2 = false := by simpa using c
        obtain ⟨⟨dz, hp3⟩, _⟩ := id N3
        refine ⟨_, rfl, p, dz, _, rfl, hp3, flds_no _ _ (by decide +kernel) (by decide +kernel), _, rfl, p, l, n, _, _, rfl, N3, by (clear n0 n1 hz c c0 el; omega), by rw [List.length_append, el]; simp; (clear n0 n1 hz el c c0; omega), fun j x ej hj H4 N4 x4 => ?_⟩
        have ej' : j = i := by (clear n0 n1 hz c c0; omega)
        subst ej'
        have ex' : x = (ps[j].1, ps[j].2.1, true) := by
          rw [List.getElem?_append_right (by (clear n0 n1 hz c c0 ej; omega)), el, Nat.sub_self] at hj
          exact (Option.some.inj hj).symm
        subst ex'
        refine ⟨_, _, _, _, rfl, ?_, ex3.over1 x4 hl0⟩
        rw [tk]
        have e1 : ((ps.take j ++ [(ps[j].1, ps[j].2.1, true)]).set j (ps[j].1, ps[j].2.1, false)) = ps.take j ++ [ps[j]] := by
          have := set_last (ps.take j) (ps[j].1, ps[j].2.1, true) (ps[j].1, ps[j].2.1, false)
          rw [el] at this
          rw [this, ← c0]
        rw [← e1]
        exact N4
      · have c0 : ps[i].2.2 = true := by simpa using c
        refine ⟨_, _, _, _, rfl, ?_, ex3⟩
        rw [tk]
        have e1 : ps[i] = (ps[i].1, ps[i].2.1, true) := by rw [← c0]
        rw [e1]
        exact N3
    · rintro σ H2 ⟨y3, y4, y5', y6, rfl, N, ex⟩
      rw [List.length_map, tt.len, List.take_length] at N
      exact ⟨_, rfl, q p l H2 np hl0 N ex⟩
end
end Sp
namespace Sp
open PySem L2 Sw PyProof.Rows
section
variable {P : Program} {w : World} {K : PySem.W.Frag} {mg : Str → Option Value} {base : Heap}
structure NetOk (n : Nat) (ps : List Pt) : Prop where
  ok : ∀ x ∈ ps, PtOk n x
  lo : 1 ≤ n
  hi : n ≤ 12
  len : ps.length ≤ 60
theorem NetOk.prs {n : Nat} {ps : List Pt} (h : NetOk n ps) {us : List Nat} (hu : ∀ k ∈ us, k < ps.length) : ∀ e ∈ Sw.prs ps us, 0 ≤ e.2 ∧ e.2 < (n : Int) := prs_rng (n := (n : Int)) h.ok hu
theorem opens_all (ps : List Pt) : ∀ k ∈ opens ps, k < ps.length := fun k hk => (opens_lt hk).1
theorem take_all {α : Type} {l : List α} {i : Nat} {x : α} (h : l[i]? = some x) : x ∈ l := List.mem_of_getElem? h
theorem len_nI {us : List Nat} {m : Nat} (h : us.length ≤ m) (hm : m ≤ 1000) : ((nI us).map V.int).length < sizeLine := small1000 (by rw [List.length_map, nI_len]; omega)
end
end Sp
namespace Sp
open PySem L2 Sw PyProof.Rows
section
variable {P : Program} {w : World} {K : PySem.W.Frag} {mg : Str → Option Value} {base : Heap}
noncomputable def sp_open : Sp := fun vs H Q _ => ∃ (a : Addr) (ps : List Pt), vs = [.ref a] ∧ PipesAt H a ps ∧ ps.length ≤ 60 ∧ ∀ b H', H b = none → IntsAt H' b (nI (opens ps)) → Ext [] H H' → Q (.ref b) H'
theorem ok_open (T : TX K mg) : FnOk P w K mg base (CX1 P w) 1 T.toTXd.f_open_pipes T.toTXd.fd_open_pipes ["pipes"] sp_open := by
  refine T.toTXp.F_open_pipes.ok1 sc_open_pipes (fun vs H Q E h => ?_) (fun cdv A outer s H vs Q E hr h => ?_)
  · obtain ⟨a, ps, rfl, _⟩ := h
    rfl
  · obtain ⟨a, ps, rfl, P1, hz, q⟩ := h
    refine ⟨_, (pss_one (ps_ret (pe_comp (locs := ["pipe", "row"]) (caps := []) rfl ⟨by rfl, by decide +kernel, rfl, by decide +kernel, by exact trivial, by rfl, by rfl⟩ (enumK K rfl T.toTXp.no_enumerate (pa_cons (pv 0) pa_nil)) (fun fp s3 H3 => (tupK K (n := 2) rfl (pgs_cons (pg_name (i := 0) (show (["pipe", "row"] : List Str).Nodup by decide +kernel) rfl (Or.inl rfl)) (pgs_cons (pg_name (i := 1) (show (["pipe", "row"] : List Str).Nodup by decide +kernel) rfl (Or.inl rfl)) pgs_nil)))) (fun fp s3 H3 => (pts_one (pt_val (pe_ix (ixT K) (pv 1) pe_int (fun _ _ => rfl)))))
          (fun fp s3 H3 => (pv 0))))), ?_⟩
    obtain ⟨ts, hl, tt⟩ := id P1
    refine ⟨_, rfl, a, rfl, ⟨_, SqL.of hl⟩, fun D hD => ?_⟩
    refine cl_enum (K := K) (a := a) (xs := ts.map V.ref) (fun i σ' H' => ∃ x y, σ' = [x, y] ∧ IntsAt H' D (nI ((List.range i).filter (Sw.op ps))) ∧ Ext [] H H') ⟨none, none, rfl, upd_same, Ext.new hD⟩ ?_ ?_ ?_
    · rintro i σ' H' _ ⟨x, y, rfl, hD', ex⟩
      exact SqL.of (ex.keep _ _ hl (by simp))
    · rintro i y0 σ' H' t hy ⟨x, y, rfl, hD', ex⟩ ht
      have hi : i < ps.length := by
        have := (List.getElem?_eq_some_iff.mp hy).1
        rw [List.length_map, tt.len] at this
        exact this
      obtain ⟨u, hu, eu⟩ := tt.get (i := i) (p := ps[i]) (by simp [hi])
      obtain rfl : y0 = .ref u := by
        rw [List.getElem?_map, hu] at hy
        exact (Option.some.inj hy).symm
      have x1 : Ext [] H' (upd H' t (.tup [.int (i : Nat), .ref u])) := Ext.new ht
      refine ⟨t, _, rfl, SqT.of upd_same, rfl, _, _, rfl, _, _, rfl, rfl, ?_⟩
      refine ⟨_, rfl, u, _, 2, _, rfl, rfl, SqT.of (x1.tups _ _ (ex.tups _ _ eu)), rfl, _, rfl, ?_⟩
      rw [← op_of hi]
      refine ite2 (fun c => ?_) (fun c => ?_)
      · refine ⟨_, rfl, _, keepN ht hD', len_nI (m := i) (Nat.le_trans (List.length_filter_le _ _) (by rw [List.length_range]; omega)) (by omega), _, _, rfl, ?_, (ex.trans x1).over1 (Ext.putL (keepN ht hD') (by simp)) hD⟩
        show _ = some (HO.lst ((nI ((List.range (i + 1)).filter (Sw.op ps))).map V.int))
        rw [upd_same, filter_range_succ, if_pos c, nI_snoc, List.map_append]; rfl
      · refine ⟨_, _, rfl, ?_, ex.trans x1⟩
        rw [filter_range_succ, if_neg c, List.append_nil]
        exact keepN ht hD'
    · rintro σ' H' ⟨x, y, rfl, hD', ex⟩
      rw [List.length_map, tt.len] at hD'
      exact q D H' hD hD' ex
end
end Sp
namespace Sp
open PySem L2 Sw PyProof.Rows
section
variable {P : Program} {w : World} {K : PySem.W.Frag} {mg : Str → Option Value} {base : Heap}
noncomputable def sp_ways : Sp := fun vs H Q _ => ∃ (a b : Addr) (ps : List Pt) (us : List Nat) (n : Nat), vs = [.ref a, .ref b] ∧ RwsAt H a ps ∧ IntsAt H b (nI us) ∧ (∀ k ∈ us, k < ps.length) ∧ (∀ x ∈ ps, PtOk n x) ∧ 1 ≤ n ∧ n ≤ 12 ∧ ps.length ≤ 60 ∧
  ∀ d H' f, H d = none → FoundAt H' d f → BInv ps us n f [] → Ext [] H H' → Q (.ref d) H'
theorem ok_ways (T : TX K mg) : FnOk P w K mg base (CX1 P w) 1 T.toTXd.f_ways_through T.toTXd.fd_ways_through ["pipes", "usable"] sp_ways := by
  refine T.toTXp.F_ways_through.ok1 sc_ways_through (fun vs H Q E h => ?_) (fun cdv A outer s H vs Q E hr h => ?_)
  · obtain ⟨a, b, ps, us, n, rfl, _⟩ := h
    rfl
  · obtain ⟨a, b, ps, us, n, rfl, P1, hb, hu, ok, lo, hi, hz, q⟩ := h
    refine ⟨_, (pss_cons (ps_set (i := 2) sc_ways_through.nd rfl (Or.inl rfl) (pe_disp (pps_cons (pe_gi rfl T.toTXp.mg_SPRING) (pe_lst pa_nil) pps_nil) rfl rfl (by simp) (by decide)))
      (pss_cons (ps_set (i := 3) sc_ways_through.nd rfl (Or.inl rfl) (pe_lst (pa_cons (pe_gi rfl T.toTXp.mg_SPRING) pa_nil)))
      (pss_cons (ps_while PassesOwn.never (pt_cmp (pc_gt (pe_callB (lenK K) (by rfl) T.toTXp.no_len bt_len (pa_cons (pv 3) pa_nil)) pe_int))
      (pss_cons (ps_set (i := 4) sc_ways_through.nd rfl (Or.inl rfl) (pe_bm PySem.F.plainAttrs_list PySem.F.slot_list_pop PySem.F.type_list_pop mt_popAt (pv 3) (pa_cons pe_int pa_nil)))
      (pss_one (ps_for PassesOwn.never rfl (pi_list (pv 1)) (pg_name (i := 5) sc_ways_through.nd rfl (Or.inl rfl))
      (pss_cons (ps_set (i := 6) sc_ways_through.nd rfl (Or.inl rfl) (pe_ix (ixT K) (pe_ix (ixL K) (pv 0) (pv 5) (fun _ _ => rfl)) pe_int (fun _ _ => rfl)))
      (pss_one (ps_if (PW.pt (pw_and (pt_cmp (pc_eqI (pe_ix (ixT K) (pe_ix (ixL K) (pv 0) (pv 5) (fun _ _ => rfl)) pe_int (fun _ _ => rfl)) (pv 4))) (pw_and1 (pt_cmp (pc_dnotin (hu_of hr) (pv 6) (pv 2)))))) (pss_cons (ps_dput (hu_of hr) (pv 2) (pv 6) (pe_op op_cat (pe_dget (hu_of hr) (pv 2) (pv 4) (fun _ _ => rfl)) (pe_lst (pa_cons (pv 5) pa_nil))) rfl)
      (pss_one (ps_expr (pe_bm PySem.F.plainAttrs_list PySem.F.slot_list_append PySem.F.type_list_append mt_append (pv 3) (pa_cons (pv 6) pa_nil))))) pss_nil)))))))
      (pss_one (ps_ret (pv 2)))))), ?_⟩
    refine fun d hd => ⟨Nat.zero_le _, fun r0 hr0 => ⟨keepN hr0 upd_same, [(Sum.inl 0, .ref r0)], rfl, by show 1 ≤ 15; decide, ?_⟩⟩
    have ndr : d ≠ r0 := neN hr0 upd_same
    have hr00 : H r0 = none := (Ext.new (S := []) (o := HO.dK []) hd).free hr0 (by simp)
    have x0 : Ext [] H (upd (upd (upd H d (.dK [])) r0 (.lst [])) d (.dK (mergeK [] [(Sum.inl 0, .ref r0)]))) :=
      ((Ext.new (S := []) (o := HO.dK []) hd).trans (Ext.new (o := HO.lst []) hr0)).over1 (Ext.put (keepN hr0 upd_same) (by simp) (by intro xs z; cases z) (by intro a b z; cases z)) hd
    have F0 : ∀ w, r0 ≠ w → FoundS (upd (upd (upd H d (.dK [])) r0 (.lst [])) d (.dK (mergeK [] [(Sum.inl 0, .ref r0)]))) (· ≠ w) d [(0, [])] := fun w hw =>
      ⟨[(0, .ref r0)], by rw [upd_same]; rfl, .cons ⟨rfl, r0, rfl, hw, by show _ = some (HO.lst []); rw [upd_ne ndr.symm, upd_same]⟩ .nil⟩
    have hdd : upd (upd (upd H d (.dK [])) r0 (.lst [])) d (.dK (mergeK [] [(Sum.inl 0, .ref r0)])) d = some (.dK (mergeK [] [(Sum.inl 0, .ref r0)])) := upd_same
    have hr1 : upd (upd (upd H d (.dK [])) r0 (.lst [])) d (.dK (mergeK [] [(Sum.inl 0, .ref r0)])) r0 = some (.lst []) := by rw [upd_ne ndr.symm, upd_same]
    generalize upd (upd (upd H d (.dK [])) r0 (.lst [])) d (.dK (mergeK [] [(Sum.inl 0, .ref r0)])) = H0 at x0 F0 hdd hr1 ⊢
    refine ⟨by show 1 ≤ sizeLine; decide, fun w0 hw0 => ?_⟩
    have ndw : d ≠ w0 := neN hw0 hdd
    have hw00 : H w0 = none := x0.free hw0 (by simp)
    have F1 := (F0 w0 (neN hw0 hr1)).queue (o := .lst [.int 0]) ndw
    have x1 := x0.trans (Ext.new (S := []) (o := HO.lst [.int 0]) hw0)
    have hw1 : IntsAt (upd H0 w0 (.lst [.int 0])) w0 [0] := upd_same
    generalize upd H0 w0 (.lst [.int 0]) = H1 at x1 F1 hw1 ⊢
    clear x0 F0 hdd hr1 hw0 hr0 hr00 ndr
    dsimp only [gName]
    obtain ⟨W, hW⟩ : ∃ W : Nat → L2.St → Hp → Prop, W = fun m σ' H' => ∃ (f : Found) (wq : List Int) (x4 x5 x6 : Option V), σ' = [some (.ref a), some (.ref b), some (.ref d), some (.ref w0), x4, x5, x6] ∧ m = (n - f.length) + wq.length ∧ (n - f.length) + wq.length ≤ n ∧ FoundS H' (· ≠ w0) d f ∧ IntsAt H' w0 wq ∧ BInv ps us n f wq ∧ Ext [] H H' := ⟨_, rfl⟩
    refine ⟨W, ⟨(n - 1) + 1, by rw [hW]; exact ⟨[(0, [])], [0], none, none, none, rfl, rfl, by simp; (clear hz hi; omega), F1, hw1, BInv.start lo, x1⟩⟩, fun m σ' H' hm => ?_⟩
    rw [hW] at hm
    obtain ⟨f, wq, x4, x5, x6, rfl, rfl, hn, F, hw, B, ex⟩ := hm
    refine ⟨_, rfl, w0, _, rfl, .inl (SqL.of hw), _, _, rfl, rfl, _, rfl, ?_⟩
    refine ite2 (fun c => ?_) (fun c => ?_)
    · cases wq with
      | nil => exact absurd (of_decide_eq_true c) (by simp)
      | cons place wq =>
        refine ⟨fun σ2 H2 => ∃ m', m' < (n - f.length) + (place :: wq).length ∧ W m' σ2 H2, fun _ _ h => h, ?_⟩
        refine ⟨_, rfl, .inl ⟨rfl, _, SqL.of hw⟩, w0, _, 0, 0, .int place, rfl, rfl, hw, by decide, by decide, by simp [seqIndex?], rfl, ?_⟩
        have hq2 : IntsAt (upd H' w0 (.lst (((place :: wq).map V.int).eraseIdx 0))) w0 wq := upd_same
        have F2 := F.queue (o := .lst (((place :: wq).map V.int).eraseIdx 0)) ndw
        have x2 := ex.over1 (Ext.putL (o := .lst (((place :: wq).map V.int).eraseIdx 0)) hw (by simp)) hw00
        generalize upd H' w0 (.lst (((place :: wq).map V.int).eraseIdx 0)) = H2 at hq2 F2 x2 ⊢
        have B2 := B.take
        dsimp only [gName]
        refine ⟨_, rfl, b, rfl, ⟨_, SqL.of (x2.keep _ _ hb (by simp))⟩, ?_⟩
        refine for_list (K := K) (a := b) (xs := (nI us).map V.int) (fun i σ' H' => ∃ (f' : Found) (q' : List Int) (x5 x6 : Option V), σ' = [some (.ref a), some (.ref b), some (.ref d), some (.ref w0), some (.int place), x5, x6] ∧ FoundS H' (· ≠ w0) d f' ∧ IntsAt H' w0 q' ∧ BIn ps us n place (us.take i) f' q' ∧ Ext [] H H' ∧ (n - f'.length) + q'.length < (n - f.length) + (place :: wq).length)
          ⟨f, wq, x5, x6, rfl, F2, hq2, B2, x2, by rw [List.length_cons]; (clear lo hi hz hn c; omega)⟩ ?_ ?_ ?_
        · rintro i σ' H' _ ⟨f', q', x5, x6, rfl, F', hq', B', ex', hm⟩
          exact SqL.of (ex'.keep _ _ hb (by simp))
        · rintro i y σ' H' hy ⟨f', q', x5, x6, rfl, F', hq', B', ex', hm⟩
          obtain ⟨k, hk, rfl⟩ := getD_nI hy
          have hku : k ∈ us := take_all hk
          have hkl := hu k hku
          have Pp := P1.ext ex' (by simp)
          have tk : us.take (i + 1) = us.take i ++ [k] := by rw [List.take_add_one, hk]; rfl
          have rg : 0 ≤ gl ps k ∧ gl ps k < (n : Int) := by rw [gl_of hkl]; exact (ok _ (List.getElem_mem hkl)).1.2
          obtain ⟨kvs, hd', rr⟩ := id F'
          refine ⟨_, rfl, _, rfl, rw_gl Pp hkl ?_⟩
          dsimp only [gName]
          refine ifS_dec (st ps k = place ∧ look f' (gl ps k) = none) (fun R hR => ?_) (fun c => ?_) (fun c => ?_)
          · refine ⟨_, rfl, _, rfl, rw_st Pp hkl ⟨_, rfl, _, _, rfl, rfl, _, rfl, ?_⟩⟩
            refine ite2 (fun c1 => ?_) (fun c1 => ?_)
            · have c1 := of_decide_eq_true c1
              refine ⟨_, rfl, _, rfl, d, _, rfl, DGet.k (k := Sum.inl (gl ps k)) hd', _, rfl, ?_⟩
              rcases rr.val (gl ps k) with ⟨l1, v1⟩ | ⟨w, r1, l1, v1, _⟩
              · rw [v1]; rw [decide_eq_true ⟨c1, l1⟩] at hR; exact hR
              · rw [v1]; rw [decide_eq_false (fun z => by rw [l1] at z; cases z.2)] at hR; exact hR
            · rw [decide_eq_false (fun z => c1 (decide_eq_true z.1))] at hR; exact hR
          · obtain ⟨c1, c2⟩ := c
            have v1 : valV (kvs.map kI) (Sum.inl (gl ps k) : Key) = none := by
              rcases rr.val (gl ps k) with ⟨l1, v1⟩ | ⟨w, r1, l1, v1, _⟩
              · exact v1
              · rw [c2] at l1; cases l1
            obtain ⟨row, hrow⟩ := look_of_mem B'.here
            rcases rr.val place with ⟨l2, v2⟩ | ⟨w, r1, l2, v2, hf, hr1⟩
            · rw [hrow] at l2; cases l2
            rw [hrow] at l2
            cases l2
            have len1 := B'.len
            have len2 := rr.len
            refine ⟨_, rfl, _, rfl, d, .ref r1, rfl, by rw [← v2]; exact DGet.k (k := Sum.inl place) hd', _, rfl, by show 1 ≤ sizeLine; decide, fun s0 hs0 => ?_⟩
            have rlen : row.length ≤ 60 := by
              have W1 := B'.way _ (look_mem hrow)
              exact Nat.le_trans (nodup_bound ps.length (nI row) (nI_nodup W1.nd) (fun x hx => by
                obtain ⟨j, hj, rfl⟩ := nI_mem.mp hx
                have := hu j (W1.us j hj)
                (clear lo hi hz hn c hm hkl rg c1 len1 len2; omega)) |> fun z => by rw [nI_len] at z; exact z) hz
            refine ⟨r1, s0, _, _, rfl, rfl, keepN hs0 hr1, upd_same, by rw [List.length_map, nI_len]; show row.length + 1 ≤ sizeLine; exact Nat.le_of_lt (small1000 (by (clear lo hi hz hn c hm hkl rg c1 len1 len2; omega))), fun p hp => ?_⟩
            have hp0 : H' p = none := (Ext.new (S := []) (o := .lst [.int (k : Int)]) hs0).free hp (by simp)
            refine ⟨_, rfl, _, rfl, d, _, rfl, DPut.k (k := Sum.inl (gl ps k)) (keepN hp (keepN hs0 hd')) (small1000 (by rw [List.length_map, len2]; (clear hz hn c hm hkl rg c1 rlen lo len2; omega))), ?_⟩
            refine ⟨_, rfl, .inl ⟨rfl, _, SqL.of (keepU ndw.symm (keepN hp (keepN hs0 hq')))⟩, _, rfl, w0, _, _, rfl, rfl, keepU ndw.symm (keepN hp (keepN hs0 hq')), ?_, ?_⟩
            · refine small1000 ?_
              rw [List.length_map]
              rw [List.length_cons] at hm hn
              (clear hz c hkl rg c1 len1 len2 rlen lo; omega)
            obtain ⟨F3, hq3, x3⟩ := found_push (row := row) hd' rr hq' hs0 hp v1 rfl
            refine ⟨_, _, _, _, rfl, F3, hq3, ?_, ex'.over x3 (by intro c hc; simp at hc; rcases hc with rfl | rfl; exact hd; exact hw00), ?_⟩
            · rw [tk]
              exact B'.put hku rg c1 (look_none c2) hrow
            · rw [List.length_append, List.length_append]
              have l3 : (f' ++ [(gl ps k, row ++ [k])]).length ≤ n := (B'.put hku rg c1 (look_none c2) hrow).len
              rw [List.length_append] at l3
              simp only [List.length_cons, List.length_nil] at l3 hm ⊢
              (clear lo hi hz hn c hkl rg c1 len1 rlen len2; omega)
          · refine ⟨f', q', _, _, rfl, F', hq', ?_, ex', hm⟩
            rw [tk]
            refine B'.skip fun z => ?_
            cases e : look f' (gl ps k) with
            | none => exact absurd ⟨z, e⟩ c
            | some w => exact mem_keys (look_mem e)
        · rintro σ' H' ⟨f', q', x5, x6, rfl, F', hq', B', ex', hm⟩
          rw [List.length_map, nI_len, List.take_length] at B'
          exact ⟨_, hm, by rw [hW]; exact ⟨f', q', _, _, _, rfl, rfl, by (clear lo hi hz c; omega), F', hq', B'.leave, ex'⟩⟩
    · cases wq with
      | nil => exact ⟨_, rfl, q d H' f hd F.any B ex⟩
      | cons place wq => exact absurd (decide_eq_true (by simp <;> omega)) c
end
end Sp

set_option Elab.async false
set_option linter.all false
set_option maxRecDepth 100000
namespace Sp
open PySem L2 Sw PyProof.Rows
section
variable {P : Program} {w : World} {K : PySem.W.Frag} {mg : Str → Option Value} {base : Heap}
noncomputable def sp_turnd : Sp := fun vs H Q _ => ∃ (a d : Addr) (ps : List Pt) (U : List Nat), vs = [.ref a, .ref d] ∧ PipesAt H a ps ∧ UsedAt H d U ∧ ps.length ≤ 60 ∧ ∀ b H', H b = none → RwsAt H' b (turnL ps U) → Ext [] H H' → Q (.ref b) H'
theorem ok_turnd (T : TX K mg) : FnOk P w K mg base (CX1 P w) 1 T.toTXd.f_turned T.toTXd.fd_turned ["pipes", "used"] sp_turnd := by
  refine T.toTXp.F_turned.ok1 sc_turned (fun vs H Q E h => ?_) (fun cdv A outer s H vs Q E hr h => ?_)
  · obtain ⟨a, d, ps, U, rfl, _⟩ := h
    rfl
  · obtain ⟨a, d, ps, U, rfl, P1, hU, hz, q⟩ := h
    refine ⟨_, (pss_one (ps_ret (pe_comp (locs := ["pipe", "row"]) (caps := [1]) rfl ⟨by rfl, by decide +kernel, rfl, by decide +kernel, by exact ⟨rfl, trivial⟩, by rfl, by rfl⟩ (enumK K rfl T.toTXp.no_enumerate (pa_cons (pv 0) pa_nil)) (fun fp s3 H3 => (tupK K (n := 2) rfl (pgs_cons (pg_name (i := 0) (show (["pipe", "row", "used"] : List Str).Nodup by decide +kernel) rfl (Or.inl rfl)) (pgs_cons (pg_name (i := 1) (show (["pipe", "row", "used"] : List Str).Nodup by decide +kernel) rfl (Or.inl rfl)) pgs_nil)))) (fun fp s3 H3 => pts_nil)
          (fun fp s3 H3 => (pe_ifExp (pt_cmp (pc_din (hu_of hr) (pv 0) (pv 2))) (pe_tup (pa_cons (pe_ix (ixT K) (pv 1) pe_int (fun _ _ => rfl)) (pa_cons (pe_ix (ixT K) (pv 1) pe_int (fun _ _ => rfl)) pa_nil))) (pe_tup (pa_cons (pe_ix (ixT K) (pv 1) pe_int (fun _ _ => rfl)) (pa_cons (pe_ix (ixT K) (pv 1) pe_int (fun _ _ => rfl)) pa_nil)))))))), ?_⟩
    obtain ⟨ts, hl, tt⟩ := id P1
    refine ⟨_, rfl, a, rfl, ⟨_, SqL.of hl⟩, fun D hD => ?_⟩
    refine cl_enum (K := K) (a := a) (xs := ts.map V.ref) (fun i σ' H' => ∃ x y us, σ' = [x, y, some (.ref d)] ∧ H' D = some (.lst (us.map V.ref)) ∧ Rws H' us ((List.range i).map fun k => if k ∈ U then (gl ps k, st ps k, Sw.op ps k) else (st ps k, gl ps k, Sw.op ps k)) ∧ Ext [] H H') ⟨none, none, [], rfl, upd_same, .nil, Ext.new hD⟩ ?_ ?_ ?_
    · rintro i σ' H' _ ⟨x, y, us, rfl, hD', _, ex⟩
      exact SqL.of (ex.keep _ _ hl (by simp))
    · rintro i y0 σ' H' t hy ⟨x, y, us, rfl, hD', rr, ex⟩ ht
      have hi : i < ps.length := by
        have := (List.getElem?_eq_some_iff.mp hy).1
        rw [List.length_map, tt.len] at this
        exact this
      obtain ⟨u, hu, eu⟩ := tt.get (i := i) (p := ps[i]) (by simp [hi])
      obtain rfl : y0 = .ref u := by
        rw [List.getElem?_map, hu] at hy
        exact (Option.some.inj hy).symm
      have x1 : Ext [] H' (upd H' t (.tup [.int (i : Nat), .ref u])) := Ext.new ht
      have lu : us.length ≤ 60 := by
        have := Paired.length rr
        rw [List.length_map, List.length_range] at this
        omega
      have e2 := x1.tups _ _ (ex.tups _ _ eu)
      have hD2 := x1.keep _ _ hD' (by simp)
      have rr2 := rr.mono x1.tups
      have y2 := ex.trans x1
      have U2 := y2.keep _ _ hU (by simp)
      refine ⟨t, _, rfl, SqT.of upd_same, rfl, _, _, rfl, _, _, rfl, rfl, ?_⟩
      generalize upd H' t (.tup [.int (i : Nat), .ref u]) = H2 at e2 hD2 rr2 y2 U2 ⊢
      refine ⟨_, rfl, _, rfl, d, _, rfl, DGet.used U2, _, rfl, ?_⟩
      rw [some_used]
      have fin : ∀ (p : Pt), p = (if i ∈ U then (gl ps i, st ps i, Sw.op ps i) else (st ps i, gl ps i, Sw.op ps i)) → ∀ t2, H2 t2 = none → ∃ xs, upd H2 t2 (.tup [.int p.1, .int p.2.1]) D = some (.lst xs) ∧ xs.length < sizeLine ∧ ∃ x y us', [some (V.int (i : Nat)), some (.ref u), some (.ref d)] = [x, y, some (.ref d)] ∧ upd (upd H2 t2 (.tup [.int p.1, .int p.2.1])) D (.lst (xs ++ [.ref t2])) D = some (.lst (us'.map V.ref)) ∧ Rws (upd (upd H2 t2 (.tup [.int p.1, .int p.2.1])) D (.lst (xs ++ [.ref t2]))) us' ((List.range (i + 1)).map fun k => if k ∈ U then (gl ps k, st ps k, Sw.op ps k) else (st ps k, gl ps k, Sw.op ps k)) ∧ Ext [] H (upd (upd H2 t2 (.tup [.int p.1, .int p.2.1])) D (.lst (xs ++ [.ref t2]))) := fun p hp t2 ht2 => by
        have hD3 : upd H2 t2 (.tup [.int p.1, .int p.2.1]) D = some (.lst (us.map V.ref)) := keepN ht2 hD2
        have nDt : D ≠ t2 := neN ht2 hD2
        have y3 := (y2.trans (Ext.new (o := .tup [.int p.1, .int p.2.1]) ht2)).over1 (Ext.putL (o := .lst (us.map V.ref ++ [.ref t2])) hD3 (by simp)) hD
        refine ⟨_, hD3, small1000 (by rw [List.length_map]; omega), _, _, us ++ [t2], rfl, by rw [upd_same, List.map_append]; rfl, ?_, y3⟩
        rw [List.range_succ, List.map_append, List.map_cons, List.map_nil, ← hp]
        refine Rws.snoc ⟨[], ?_⟩ (rr2.mono fun c xs h => ?_)
        · rw [upd_ne nDt.symm, upd_same]
        · exact keepU (ne_of h hD2 (by intro z; cases z)) (keepN ht2 h)
      by_cases m : i ∈ U
      · refine ifT m ⟨_, rfl, u, _, 1, _, rfl, rfl, SqT.of e2, rfl, _, rfl, u, _, 0, _, rfl, rfl, SqT.of e2, rfl, by show 2 ≤ sizeLine; decide, fun t2 ht2 => ?_⟩
        have f := fin (ps[i].2.1, ps[i].1, ps[i].2.2) (by rw [if_pos m, gl_of hi, st_of hi, op_of hi]) t2 ht2
        exact f
      · refine ifF m ⟨_, rfl, u, _, 0, _, rfl, rfl, SqT.of e2, rfl, _, rfl, u, _, 1, _, rfl, rfl, SqT.of e2, rfl, by show 2 ≤ sizeLine; decide, fun t2 ht2 => ?_⟩
        have f := fin ps[i] (by rw [if_neg m, gl_of hi, st_of hi, op_of hi]) t2 ht2
        exact f
    · rintro σ' H' ⟨x, y, us, rfl, hD', rr, ex⟩
      rw [List.length_map, tt.len] at rr
      exact q D H' hD ⟨us, hD', rr⟩ ex
end
end Sp
namespace Sp
open PySem L2 Sw PyProof.Rows
section
variable {P : Program} {w : World} {K : PySem.W.Frag} {mg : Str → Option Value} {base : Heap}
theorem togs_len : ∀ (w U : List Nat), (togs U w).length ≤ U.length + w.length
  | [], U => Nat.le_refl _
  | k :: w, U => by
    have h := togs_len w (tog1 U k)
    have e : (tog1 U k).length ≤ U.length + 1 := by
      unfold tog1
      split
      · exact Nat.le_trans (List.length_filter_le _ _) (Nat.le_succ _)
      · rw [List.length_append]; exact Nat.le_refl _
    show (togs (tog1 U k) w).length ≤ _
    rw [List.length_cons]
    omega
noncomputable def sp_switch : Sp := fun vs H Q _ => ∃ (d r : Addr) (U w : List Nat), vs = [.ref d, .ref r] ∧ UsedAt H d U ∧ IntsAt H r (nI w) ∧ U.length + w.length ≤ 900 ∧ ∀ H', UsedAt H' d (togs U w) → Ext [d] H H' → Q .non H'
theorem ok_switch (T : TX K mg) : FnOk P w K mg base (CX1 P w) 1 T.toTXd.f_switch T.toTXd.fd_switch ["used", "row"] sp_switch := by
  refine T.toTXp.F_switch.ok1 sc_switch (fun vs H Q E h => ?_) (fun cdv A outer s H vs Q E hr h => ?_)
  · obtain ⟨d, r, U, w, rfl, _⟩ := h
    rfl
  · obtain ⟨d, r, U, w, rfl, hU, hr1, hz, q⟩ := h
    refine ⟨_, (pss_one (ps_for PassesOwn.never rfl (pi_list (pv 1)) (pg_name (i := 2) sc_switch.nd rfl (Or.inl rfl))
      (pss_one (ps_if (pt_cmp (pc_din (hu_of hr) (pv 2) (pv 0))) (pss_one (ps_expr (pe_dpop1 (pv 0) (pv 2) ⟨by rfl, by rfl, by rfl, by rfl⟩))) (pss_one (ps_dput (hu_of hr) (pv 0) (pv 2) pe_bl rfl)))))), ?_⟩
    refine ⟨_, rfl, r, rfl, ⟨_, SqL.of hr1⟩, ?_⟩
    have ndr : r ≠ d := ne_of hr1 hU (by intro z; cases z)
    refine for_list (K := K) (a := r) (xs := (nI w).map V.int) (fun i σ' H' => ∃ (x : Option V), σ' = [some (.ref d), some (.ref r), x] ∧ UsedAt H' d (togs U (w.take i)) ∧ Ext [d] H H') ⟨none, rfl, hU, Ext.refl⟩ ?_ ?_ ?_
    · rintro i σ' H' _ ⟨x, rfl, _, ex⟩
      exact SqL.of (ex.keep _ _ hr1 (by simp [ndr]))
    · rintro i y σ' H' hy ⟨x, rfl, hU', ex⟩
      obtain ⟨k, hk, rfl⟩ := getD_nI hy
      have tk : togs U (w.take (i + 1)) = tog1 (togs U (w.take i)) k := by
        rw [List.take_add_one, hk, togs_append]
        rfl
      have len := togs_len (w.take i) U
      rw [List.length_take] at len
      generalize togs U (w.take i) = U' at hU' tk len
      refine ifS_dec (k ∈ U') (fun R hR => ?_) (fun c => ?_) (fun c => ?_)
      · refine ⟨_, rfl, _, rfl, d, _, rfl, DGet.used hU', _, rfl, ?_⟩
        rw [some_used]
        exact hR
      · refine ⟨_, rfl, d, rfl, .inl ⟨_, .inl hU'⟩, _, rfl, _, Sum.inl (k : Int), .bl true, hU', rfl, by rw [val_used, if_pos c], _, rfl, ?_, ex.trans (Ext.put hU' (by simp) (by intro xs z; cases z) (by intro a b z; cases z))⟩
        show upd H' d _ d = some (.dK (((togs U (w.take (i + 1))).map uI).map kI))
        rw [upd_same, tk, drop_used]
        unfold tog1
        rw [if_pos c]
      · refine ⟨_, rfl, _, rfl, d, _, rfl, DPut.k (k := Sum.inl (k : Int)) hU' (small1000 (by rw [UsedAt.len]; omega)), _, rfl, ?_, ex.trans (Ext.put hU' (by simp) (by intro xs z; cases z) (by intro a b z; cases z))⟩
        show upd H' d _ d = some (.dK (((togs U (w.take (i + 1))).map uI).map kI))
        rw [upd_same, tk, put_used c]
        unfold tog1
        rw [if_neg c]
    · rintro σ' H' ⟨x, rfl, hU', ex⟩
      rw [List.length_map, nI_len, List.take_length] at hU'
      exact q H' hU' ex
end
end Sp
namespace Sp
open PySem L2 Sw PyProof.Rows
section
variable {P : Program} {w : World} {K : PySem.W.Frag} {mg : Str → Option Value} {base : Heap}
noncomputable def sp_parted : Sp := fun vs H Q _ => ∃ (a d : Addr) (ps : List Pt) (us U : List Nat) (v : Int) (c n : Nat), vs = [.ref a, .ref d, .int v, .int c] ∧ PipesAt H a ps ∧ UsedAt H d U ∧ Flow ps us v c U ∧ (∀ k ∈ us, k < ps.length) ∧ (∀ x ∈ ps, PtOk n x) ∧ 1 ≤ n ∧ n ≤ 12 ∧ ps.length ≤ 60 ∧ 0 ≤ v ∧ v < (n : Int) ∧ v ≠ 0 ∧
  ∀ R H' ws, H R = none → WaysAt H' R ws → ws.length = c → (∀ w ∈ ws, IsWay ps us w v) → ws.flatten.Nodup → Ext [] H H' → Q (.ref R) H'
theorem ok_parted (T : TX K mg) : FnOk P w K mg base (CX1 P w) 2 T.toTXd.f_parted T.toTXd.fd_parted ["pipes", "used", "place", "count"] sp_parted := by
  have G_ways_through : FnOk P w K mg base (CX1 P w) 1 T.toTXd.f_ways_through T.toTXd.fd_ways_through ["pipes", "usable"] sp_ways := ok_ways T
  refine T.toTXp.F_parted.ok1 sc_parted (fun vs H Q E h => ?_) (fun cdv A outer s H vs Q E hr h => ?_)
  · obtain ⟨a, d, ps, us, U, v, c, n, rfl, _⟩ := h
    rfl
  · obtain ⟨a, d, ps, us, U, v, c, n, rfl, P1, hU, F, hu, ok, lo, hi12, hz, v0, v1, hv, q⟩ := h
    refine ⟨_, (pss_cons (ps_set (i := 4) sc_parted.nd rfl (Or.inl rfl) (pe_lst pa_nil))
      (pss_cons (ps_set (i := 5) sc_parted.nd rfl (Or.inl rfl) (pe_callB (sortedDK K rfl) (by rfl) T.toTXp.no_sorted bt_sorted (pa_cons (pv 1) pa_nil)))
      (pss_cons (ps_for PassesOwn.never rfl (pi_range1 rfl T.toTXp.no_range (pa_cons (pv 3) pa_nil)) (pg_name (i := 6) sc_parted.nd rfl (Or.inl rfl))
      (pss_cons (ps_set (i := 7) sc_parted.nd rfl (Or.inr rfl) (pe_dget (hu_of hr) (pe_call G_ways_through (hr.mono (by decide)) rfl T.toTXp.mg_ways_through T.toTXp.F_ways_through.kp T.toTXp.b_ways_through .nil passN (pa_cons (pv 0) (pa_cons (pv 5) pa_nil))) (pv 2) (fun _ _ => rfl)))
      (pss_cons (ps_expr (pe_bm PySem.F.plainAttrs_list PySem.F.slot_list_append PySem.F.type_list_append mt_append (pv 4) (pa_cons (pv 7) pa_nil)))
      (pss_one (ps_setc (i := 5) (locs := ["pipe"]) (caps := [7]) rfl ⟨by rfl, by decide +kernel, rfl, by decide +kernel, by exact ⟨rfl, trivial⟩, by rfl, by rfl⟩ (pi_list (pv 5)) (fun fp s3 H3 => (pg_name (i := 0) (show (["pipe", "row"] : List Str).Nodup by decide +kernel) rfl (Or.inl rfl))) (fun fp s3 H3 => (pts_one (pt_cmpR (notinK K) (pv 0) (pv 1) (by with_unfolding_all rfl))))
          (fun fp s3 H3 => (pv 0)) sc_parted.nd rfl (Or.inl rfl))))))
      (pss_one (ps_ret (pv 4)))))), ?_⟩
    have len60 : ∀ {L : List Nat}, L.Nodup → (∀ k ∈ L, k ∈ us) → L.length ≤ 60 := fun nd hs => Nat.le_trans (nodup_sub_len (m := List.range ps.length) nd fun k hk => List.mem_range.mpr (hu k (hs k hk))) (by rw [List.length_range]; exact hz)
    have c60 : c ≤ 60 := by
      have a := F.cut (S := [v]) (by simp) (by simp) (by simp; exact fun z => hv z.symm)
      have b := inn_le ps U (fun x => decide (x ∈ [v]))
      have d := len60 F.nd F.sub
      (clear lo hi12 hz v0 v1 hv; omega)
    refine ⟨Nat.zero_le _, fun R hR => ?_⟩
    have x0 : Ext [] H (upd H R (.lst [])) := Ext.new hR
    have U0 := x0.keep _ _ hU (by simp)
    have R0 : upd H R (.lst []) R = some (.lst (([] : List Addr).map V.ref)) := upd_same
    generalize upd H R (.lst []) = H0 at x0 U0 R0 ⊢
    dsimp only [gName]
    refine ⟨_, rfl, d, U.map uI, rfl, U0, by rw [List.length_map]; have := len60 F.nd F.sub; (clear lo hi12 hz v0 v1 hv c60; omega), fun s ns' hs pm pw => ?_⟩
    have pm : ns'.Perm (nI U) := by
      rw [List.map_map] at pm
      exact pm
    obtain ⟨L, rfl, pL⟩ := perm_nI pm
    have F0 := F.perm pL
    have x1 := x0.trans (Ext.new (S := []) (o := .lst ((nI L).map V.int)) hs)
    have L1 : IntsAt (upd H0 s (.lst ((nI L).map V.int))) s (nI L) := upd_same
    have R1 := (Ext.new (S := []) (o := .lst ((nI L).map V.int)) hs).keep _ _ R0 (by simp)
    generalize upd H0 s (.lst ((nI L).map V.int)) = H1 at x1 L1 R1 ⊢
    clear x0 U0 R0 hs pm pw pL
    dsimp only [gName]
    refine seq_mid (t := tFor _ _ _) (fun σ' H' => ∃ (x5 x6 x7 : Option V) (rs : List Addr) (ws : List (List Nat)), σ' = [some (.ref a), some (.ref d), some (.int v), some (.int c), some (.ref R), x5, x6, x7] ∧ H' R = some (.lst (rs.map V.ref)) ∧ WaysP H' rs ws ∧ ws.length = c ∧ (∀ w ∈ ws, IsWay ps us w v) ∧ ws.flatten.Nodup ∧ Ext [] H H') (fun Z hZ => ?_) ?_
    · refine ⟨_, rfl, _, rfl, by (clear lo hi12 hz v0 v1 hv c60; omega), by (clear lo hi12 hz v0 v1 hv; omega), ?_⟩
      rw [Int.toNat_natCast]
      refine for_range (n := c) (fun i σ' H' => ∃ (s : Addr) (L : List Nat) (x6 x7 : Option V) (rs : List Addr) (ws : List (List Nat)), σ' = [some (.ref a), some (.ref d), some (.int v), some (.int c), some (.ref R), some (.ref s), x6, x7] ∧ IntsAt H' s (nI L) ∧ Flow ps us v (c - i) L ∧ H' R = some (.lst (rs.map V.ref)) ∧ WaysP H' rs ws ∧ ws.length = i ∧ (∀ w ∈ ws, IsWay ps us w v) ∧ ws.flatten.Nodup ∧ (∀ k ∈ ws.flatten, k ∉ L) ∧ Ext [] H H') ⟨s, L, none, none, [], [], rfl, L1, F0, R1, .nil, rfl, by simp, by simp, by simp, x1⟩ ?_ ?_
      · rintro i σ' H' hi ⟨s, L, x6, x7, rs, ws, rfl, hs, Fi, hRi, wp, wl, wa, wn, wd, ex⟩
        have hL : ∀ k ∈ L, k < ps.length := fun k hk => hu k (Fi.sub k hk)
        have ci : c - i = (c - (i + 1)) + 1 := by (clear lo hi12 hz v0 v1 hv c60 wl; omega)
        rw [ci] at Fi
        have rch := Fi.comes lo ok hu v0 v1
        refine ⟨_, rfl, _, rfl, a, s, ps, L, n, rfl, (P1.ext ex (by simp)).rws, hs, hL, ok, lo, hi12, hz, fun e H2 f he FF B x2 => ?_⟩
        obtain ⟨kvs, he2, rr⟩ := FF
        refine ⟨_, rfl, e, ?_⟩
        rcases rr.val v with ⟨l1, v1'⟩ | ⟨w, r1, l1, v1', _, hr1⟩
        · exact absurd ((B.reach v).mpr rch) (look_none l1)
        have W := B.row l1
        refine ⟨.ref r1, rfl, by rw [← v1']; exact DGet.k (k := Sum.inl v) he2, ?_⟩
        have hR2 := x2.keep _ _ hRi (by simp)
        have nrR : r1 ≠ R := row_ne hr1 (way_ne W hv) hR2
        dsimp only [gName]
        have y3 : Ext [R] H2 (upd H2 R (.lst (rs.map V.ref ++ [.ref r1]))) := Ext.putL hR2 (by simp)
        have rl : rs.length = i := by rw [Paired.length wp]; exact wl
        refine ⟨_, rfl, .inl ⟨rfl, _, SqL.of hR2⟩, _, rfl, R, _, _, rfl, rfl, hR2, small1000 (by rw [List.length_map]; (clear lo hi12 hz v0 v1 hv ci wl; omega)), ?_⟩
        have hR3 : upd H2 R (.lst (rs.map V.ref ++ [.ref r1])) R = some (.lst ((rs ++ [r1]).map V.ref)) := by rw [upd_same, List.map_append]; rfl
        have hr3 : IntsAt (upd H2 R (.lst (rs.map V.ref ++ [.ref r1]))) r1 (nI w) := keepU nrR hr1
        have nsR : s ≠ R := fun z => by
          subst z
          have q1 := Option.some.inj (hRi.symm.trans hs)
          have q1 : rs.map V.ref = (nI L).map V.int := by injection q1
          cases L with
          | nil =>
            have : W.us = W.us := rfl
            cases w with
            | nil => exact way_ne W hv rfl
            | cons k w => exact absurd (W.us k (by simp)) (by simp)
          | cons k L =>
            cases rs with
            | nil => cases q1
            | cons r0 rs =>
              have := List.head_eq_of_cons_eq q1
              cases this
        have hs3 : IntsAt (upd H2 R (.lst (rs.map V.ref ++ [.ref r1]))) s (nI L) := keepU nsR (x2.keep _ _ hs (by simp))
        have wneR : ∀ r ∈ rs, r ≠ R := fun r m => by
          obtain ⟨j, hj⟩ := List.getElem?_of_mem m
          obtain ⟨w', h1, h2⟩ := wp.get hj
          exact row_ne h2 (way_ne (wa _ (List.mem_of_getElem? h1)) hv) hRi
        have wp3 : WaysP (upd H2 R (.lst (rs.map V.ref ++ [.ref r1]))) (rs ++ [r1]) (ws ++ [w]) := WaysP.snoc hr3 (wp.mono fun r m o h => keepU (wneR r m) (x2.keep _ _ h (by simp)))
        have ex3 := (ex.trans x2).over1 y3 hR
        generalize upd H2 R (.lst (rs.map V.ref ++ [.ref r1])) = H3 at hR3 hr3 hs3 wp3 ex3 ⊢
        have L60 := len60 Fi.nd Fi.sub
        refine ⟨_, rfl, s, rfl, ⟨_, SqL.of hs3⟩, fun D hD => ?_⟩
        refine cl_list (K := K) (a := s) (xs := (nI L).map V.int) (fun i σ' H' => ∃ x, σ' = [x, some (.ref r1)] ∧ IntsAt H' D (nI ((L.take i).filter fun k => !decide (k ∈ w))) ∧ Ext [] H3 H') ⟨none, rfl, upd_same, Ext.new hD⟩ ?_ ?_ ?_
        · rintro i σ' H' _ ⟨x, rfl, hD', ex⟩
          exact SqL.of (ex.keep _ _ hs3 (by simp))
        · rintro i y σ' H' hy ⟨x, rfl, hD', ex⟩
          obtain ⟨k, hk, rfl⟩ := getD_nI hy
          have lim : ((L.take i).filter fun k => !decide (k ∈ w)).length ≤ 60 := Nat.le_trans (List.length_filter_le _ _) (by rw [List.length_take]; (clear lo hi12 hz v0 v1 hv c60 hi wl ci rl; omega))
          refine ⟨_, rfl, _, rfl, rd_notin (SqL.of (ex.keep _ _ hr3 (by simp))) ⟨_, rfl, ?_⟩⟩
          by_cases cc : k ∈ w
          · refine ifNF (nI_in.mpr cc) ⟨_, rfl, ?_, ex⟩
            rw [filter_take_succ _ _ _ _ hk, if_neg (by simp [cc]), List.append_nil]
            exact hD'
          · refine ifNT (fun z => cc (nI_in.mp z)) ⟨_, rfl, _, hD', len_nI lim (by (clear lo hi12 hz v0 v1 hv c60 hi wl ci rl L60 lim cc; omega)), _, rfl, ?_, ex.over1 (Ext.putL hD' (by simp)) hD⟩
            show _ = some (HO.lst ((nI _).map V.int))
            rw [upd_same, filter_take_succ _ _ _ _ hk, if_pos (by simp [cc]), nI_snoc, List.map_append]; rfl
        rintro σ' H4 ⟨x, rfl, hD', ex4⟩
        rw [List.length_map, nI_len, List.take_length] at hD'
        dsimp only [gName]
        refine ⟨D, _, _, _, rs ++ [r1], ws ++ [w], rfl, hD', Fi.minus W, ex4.keep _ _ hR3 (by simp), wp3.mono fun r _ o h => ex4.keep _ _ h (by simp), by rw [List.length_append, wl]; rfl, fun w' m => ?_, ?_, fun k hk => ?_, ex3.trans ex4⟩
        · rcases List.mem_append.mp m with z | z
          · exact wa w' z
          · rw [List.mem_singleton.mp z]
            exact ⟨W.ch, W.nd, fun k hk => Fi.sub k (W.us k hk)⟩
        · rw [List.flatten_append, List.nodup_append]
          refine ⟨wn, by simpa using W.nd, fun k hk j hj e => ?_⟩
          subst e
          exact wd k hk (W.us k (by simpa using hj))
        · rw [List.mem_filter]
          rintro ⟨m1, m2⟩
          rw [List.flatten_append] at hk
          rcases List.mem_append.mp hk with z | z
          · exact wd k z m1
          · have : k ∈ w := by simpa using z
            simp [this] at m2
      · rintro σ' H' ⟨s, L, x6, x7, rs, ws, rfl, hs, Fi, hRi, wp, wl, wa, wn, wd, ex⟩
        exact hZ _ _ ⟨_, _, _, rs, ws, rfl, hRi, wp, wl, wa, wn, ex⟩
    rintro σ' H' ⟨x5, x6, x7, rs, ws, rfl, hR', wp, wl, wa, wn, ex⟩
    exact ⟨_, rfl, q R H' ws hR ⟨rs, hR', wp⟩ wl wa wn ex⟩
end
end Sp
namespace Sp
open PySem L2 Sw PyProof.Rows
section
variable {P : Program} {w : World} {K : PySem.W.Frag} {mg : Str → Option Value} {base : Heap}
noncomputable def sp_wapart : Sp := fun vs H Q _ => ∃ (a b : Addr) (ps : List Pt) (us : List Nat) (v m : Int) (n : Nat), vs = [.ref a, .ref b, .int v, .int m] ∧ PipesAt H a ps ∧ IntsAt H b (nI us) ∧ us.Nodup ∧ (∀ k ∈ us, k < ps.length) ∧ (∀ x ∈ ps, PtOk n x) ∧ 1 ≤ n ∧ n ≤ 12 ∧ ps.length ≤ 60 ∧ 0 ≤ v ∧ v < (n : Int) ∧ v ≠ 0 ∧
  ∀ R H' ws, H R = none → WaysAt H' R ws → (∀ w ∈ ws, IsWay ps us w v) → ws.flatten.Nodup → (ws.length : Int) ≤ max 0 m → ((ws.length : Int) < m → CutOf ps us v ws.length) → Ext [] H H' → Q (.ref R) H'
theorem ok_wapart (T : TX K mg) : FnOk P w K mg base (CX1 P w) 3 T.toTXd.f_ways_apart T.toTXd.fd_ways_apart ["pipes", "usable", "place", "many"] sp_wapart := by
  have G_parted : FnOk P w K mg base (CX1 P w) 2 T.toTXd.f_parted T.toTXd.fd_parted ["pipes", "used", "place", "count"] sp_parted := ok_parted T
  have G_ways_through : FnOk P w K mg base (CX1 P w) 1 T.toTXd.f_ways_through T.toTXd.fd_ways_through ["pipes", "usable"] sp_ways := ok_ways T
  have G_switch : FnOk P w K mg base (CX1 P w) 1 T.toTXd.f_switch T.toTXd.fd_switch ["used", "row"] sp_switch := ok_switch T
  have G_turned : FnOk P w K mg base (CX1 P w) 1 T.toTXd.f_turned T.toTXd.fd_turned ["pipes", "used"] sp_turnd := ok_turnd T
  refine T.toTXp.F_ways_apart.ok1 sc_ways_apart (fun vs H Q E h => ?_) (fun cdv A outer s H vs Q E hr h => ?_)
  · obtain ⟨a, b, ps, us, v, m, n, rfl, _⟩ := h
    rfl
  · obtain ⟨a, b, ps, us, v, m, n, rfl, P1, hb, nu, hu, ok, lo, hi12, hz, v0, v1, hv, q⟩ := h
    refine ⟨_, (pss_cons (ps_set (i := 4) sc_ways_apart.nd rfl (Or.inl rfl) pe_dnewK)
      (pss_cons (ps_set (i := 5) sc_ways_apart.nd rfl (Or.inl rfl) pe_int)
      (pss_cons (ps_while PassesOwn.never (pt_cmp (pc_lt (pv 5) (pv 3)))
      (pss_cons (ps_set (i := 6) sc_ways_apart.nd rfl (Or.inl rfl) (pe_call G_ways_through (hr.mono (by decide)) rfl T.toTXp.mg_ways_through T.toTXp.F_ways_through.kp T.toTXp.b_ways_through .nil passN (pa_cons (pe_call G_turned (hr.mono (by decide)) rfl T.toTXp.mg_turned T.toTXp.F_turned.kp T.toTXp.b_turned .nil passN (pa_cons (pv 0) (pa_cons (pv 4) pa_nil))) (pa_cons (pv 1) pa_nil))))
      (pss_cons (ps_if (pt_cmp (pc_dnotin (hu_of hr) (pv 2) (pv 6))) (pss_one ps_break) pss_nil)
      (pss_cons (ps_expr (pe_call G_switch (hr.mono (by decide)) rfl T.toTXp.mg_switch T.toTXp.F_switch.kp T.toTXp.b_switch .nil passN (pa_cons (pv 4) (pa_cons (pe_dget (hu_of hr) (pv 6) (pv 2) (fun _ _ => rfl)) pa_nil))))
      (pss_one (ps_aug (i := 5) sc_ways_apart.nd rfl (Or.inl rfl) pe_int ip_add))))))
      (pss_one (ps_ret (pe_call G_parted (hr.mono (by decide)) rfl T.toTXp.mg_parted T.toTXp.F_parted.kp T.toTXp.b_parted .nil passN (pa_cons (pv 0) (pa_cons (pv 4) (pa_cons (pv 2) (pa_cons (pv 5) pa_nil)))))))))), ?_⟩
    have len60 : ∀ {L : List Nat}, L.Nodup → (∀ k ∈ L, k ∈ us) → L.length ≤ 60 := fun nd hs => Nat.le_trans (nodup_sub_len (m := List.range ps.length) nd fun k hk => List.mem_range.mpr (hu k (hs k hk))) (by rw [List.length_range]; exact hz)
    refine fun d hd => ?_
    have x0 : Ext [] H (upd H d (.dK [])) := Ext.new hd
    have U0 : UsedAt (upd H d (.dK [])) d [] := upd_same
    generalize upd H d (.dK []) = H0 at x0 U0 ⊢
    dsimp only [gName]
    refine seq_mid (t := tWhile _ _) (fun σ' H' => ∃ (c : Nat) (U : List Nat) (x6 : Option V), σ' = [some (.ref a), some (.ref b), some (.int v), some (.int m), some (.ref d), some (.int c), x6] ∧ UsedAt H' d U ∧ Flow ps us v c U ∧ (c : Int) ≤ max 0 m ∧ ((c : Int) < m → CutOf ps us v c) ∧ Ext [] H H') (fun Z hZ => ?_) ?_
    · refine ⟨fun k σ' H' => ∃ (c : Nat) (U : List Nat) (x6 : Option V), σ' = [some (.ref a), some (.ref b), some (.int v), some (.int m), some (.ref d), some (.int c), x6] ∧ k = (m - c).toNat ∧ UsedAt H' d U ∧ Flow ps us v c U ∧ (c : Int) ≤ max 0 m ∧ Ext [] H H', ⟨_, 0, [], none, rfl, rfl, U0, Flow.zero, by (clear lo hi12 hz v0 v1 hv; omega), x0⟩, ?_⟩
      rintro k σ' H' ⟨c, U, x6, rfl, rfl, hU, F, hc, ex⟩
      refine ⟨_, rfl, _, rfl, _, _, rfl, rfl, _, rfl, ?_⟩
      refine ite2 (fun c1 => ?_) (fun c1 => ?_)
      · have c1 := of_decide_eq_true c1
        refine ⟨_, fun σ2 H2 h => h, ?_⟩
        refine ⟨_, rfl, _, rfl, a, d, ps, U, rfl, P1.ext ex (by simp), hU, hz, fun e H2 he R2 x2 => ?_⟩
        have hb2 := (ex.trans x2).keep _ _ hb (by simp)
        refine ⟨_, rfl, e, b, turnL ps U, us, n, rfl, R2, hb2, by rw [turnL_len]; exact hu, turnL_ok ok U, lo, hi12, by rw [turnL_len]; exact hz, fun f H3 ff hf FF B x3 => ?_⟩
        obtain ⟨kvs, hf3, rr⟩ := FF
        have y3 := (ex.trans x2).trans x3
        have U3 := (x2.trans x3).keep _ _ hU (by simp)
        dsimp only [gName]
        rcases rr.val v with ⟨l1, v1'⟩ | ⟨w, r1, l1, v1', _, hr1⟩
        · refine ⟨_, rfl, _, rfl, f, _, rfl, DGet.k (k := Sum.inl v) hf3, _, rfl, ?_⟩
          rw [v1']
          refine iteT ?_
          have nr : ¬ Reach (prs (turnL ps U) us) v := fun z => look_none l1 ((B.reach v).mpr z)
          obtain ⟨m1, m0, e1⟩ := F.bound lo ok nu hu v0 v1 nr
          exact hZ _ _ ⟨c, U, _, rfl, U3, F, hc, fun _ => ⟨_, dryL_nodup _ _, m1, m0, e1⟩, y3⟩
        · refine ⟨_, rfl, _, rfl, f, _, rfl, DGet.k (k := Sum.inl v) hf3, _, rfl, ?_⟩
          rw [v1']
          refine iteF ?_
          have W := B.row l1
          dsimp only [tNext]
          have wl : w.length ≤ 60 := len60 W.nd W.us
          have Ul : U.length ≤ 60 := len60 F.nd F.sub
          refine ⟨_, rfl, _, rfl, _, rfl, f, .ref r1, rfl, by rw [← v1']; exact DGet.k (k := Sum.inl v) hf3, d, r1, U, w, rfl, U3, hr1, by (clear lo hi12 hz v0 v1 hv hc c1; omega), fun H4 U4 x4 => ?_⟩
          refine ⟨_, rfl, _, _, rfl, rfl, ?_⟩
          refine ⟨_, ?_, c + 1, togs U w, _, rfl, rfl, U4, F.aug hu W, by (clear lo hi12 hz v0 v1 hv wl Ul hc; omega), y3.over1 x4 hd⟩
          show (m - ((c + 1 : Nat) : Int)).toNat < (m - (c : Int)).toNat
          (clear lo hi12 hz v0 v1 hv hc wl Ul; omega)
      · have c1 : ¬ (c : Int) < m := fun z => c1 (decide_eq_true z)
        exact hZ _ _ ⟨c, U, x6, rfl, hU, F, hc, fun z => absurd z c1, ex⟩
    rintro σ' H1 ⟨c, U, x6, rfl, hU, F, hc, cut, ex⟩
    refine ⟨_, rfl, _, rfl, _, rfl, _, rfl, a, d, ps, us, U, v, c, n, rfl, P1.ext ex (by simp), hU, F, hu, ok, lo, hi12, hz, v0, v1, hv, fun R H2 ws hR W2 wl wa wn x2 => ?_⟩
    subst wl
    exact q R H2 ws (ex.free hR (by simp)) W2 wa wn hc cut (ex.trans x2)
end
end Sp
namespace Sp
open PySem L2 Sw PyProof.Rows
section
variable {P : Program} {w : World} {K : PySem.W.Frag} {mg : Str → Option Value} {base : Heap}
structure Bnd (n : Nat) (ps : List Pt) (v : Int) (c : Nat) (ss : List Int) : Prop where
  rise : ss.Pairwise (· ≤ ·)
  nd : ss.Nodup
  rg : ∀ x ∈ ss, 0 ≤ x ∧ x < (n : Int)
  at_ : v ∈ ss
  no0 : (0 : Int) ∉ ss
  len : (intoL ps ss).length = c
noncomputable def sp_bounding (C : Addr) : Sp := fun vs H Q _ => ∃ (p l R : Addr) (n : Nat) (ps : List Pt) (ws : List (List Nat)) (v : Int), vs = [.ref p, .ref R] ∧ NetAt C H p l n ps ∧ NetOk n ps ∧ WaysAt H R ws ∧ (∀ w ∈ ws, IsWay ps (opens ps) w v) ∧ ws.flatten.Nodup ∧ 0 ≤ v ∧ v < (n : Int) ∧ CutOf ps (opens ps) v ws.length ∧
  ∀ b H' ss, H b = none → IntsAt H' b ss → Bnd n ps v ws.length ss → Ext [] H H' → Q (.ref b) H'
theorem ok_bounding (T : TX K mg) : FnOk P w K mg base (CX1 P w) 2 T.toTXd.f_bounding T.toTXd.fd_bounding ["net", "rows"] (sp_bounding T.toTXd.a_Net) := by
  have G_Net_pipes : FnOk P w K mg base (CX1 P w) 1 T.toTXd.f_Net_pipes T.toTXd.fd_Net_pipes ["self"] (sp_pipes T.toTXd.a_Net) := ok_pipes T
  have G_ways_through : FnOk P w K mg base (CX1 P w) 1 T.toTXd.f_ways_through T.toTXd.fd_ways_through ["pipes", "usable"] sp_ways := ok_ways T
  have G_switch : FnOk P w K mg base (CX1 P w) 1 T.toTXd.f_switch T.toTXd.fd_switch ["used", "row"] sp_switch := ok_switch T
  have G_turned : FnOk P w K mg base (CX1 P w) 1 T.toTXd.f_turned T.toTXd.fd_turned ["pipes", "used"] sp_turnd := ok_turnd T
  have G_open_pipes : FnOk P w K mg base (CX1 P w) 1 T.toTXd.f_open_pipes T.toTXd.fd_open_pipes ["pipes"] sp_open := ok_open T
  have G_Net_size : FnOk P w K mg base (CX1 P w) 1 T.toTXd.f_Net_size T.toTXd.fd_Net_size ["self"] (sp_size T.toTXd.a_Net) := ok_size T
  refine T.toTXp.F_bounding.ok1 sc_bounding (fun vs H Q E h => ?_) (fun cdv A outer s H vs Q E hr h => ?_)
  · obtain ⟨p, l, R, n, ps, ws, v, rfl, _⟩ := h
    rfl
  · obtain ⟨p, l, R, n, ps, ws, v, rfl, N, ok, W0, wa, wn, v0, v1, cut, q⟩ := h
    refine ⟨_, (pss_cons (ps_set (i := 2) sc_bounding.nd rfl (Or.inl rfl) (pe_meth0 (pv 0) T.toTXp.cl_Net T.toTXp.m_Net_pipes G_Net_pipes (hr.mono (by decide)) T.toTXp.b_Net_pipes .nil passN))
      (pss_cons (ps_set (i := 3) sc_bounding.nd rfl (Or.inl rfl) pe_dnewK)
      (pss_cons (ps_for PassesOwn.never rfl (pi_list (pv 1)) (pg_name (i := 4) sc_bounding.nd rfl (Or.inl rfl))
      (pss_one (ps_expr (pe_call G_switch (hr.mono (by decide)) rfl T.toTXp.mg_switch T.toTXp.F_switch.kp T.toTXp.b_switch .nil passN (pa_cons (pv 3) (pa_cons (pv 4) pa_nil))))))
      (pss_cons (ps_set (i := 5) sc_bounding.nd rfl (Or.inr rfl) (pe_call G_ways_through (hr.mono (by decide)) rfl T.toTXp.mg_ways_through T.toTXp.F_ways_through.kp T.toTXp.b_ways_through .nil passN (pa_cons (pe_call G_turned (hr.mono (by decide)) rfl T.toTXp.mg_turned T.toTXp.F_turned.kp T.toTXp.b_turned .nil passN (pa_cons (pv 2) (pa_cons (pv 3) pa_nil))) (pa_cons (pe_call G_open_pipes (hr.mono (by decide)) rfl T.toTXp.mg_open_pipes T.toTXp.F_open_pipes.kp T.toTXp.b_open_pipes .nil passN (pa_cons (pv 2) pa_nil)) pa_nil))))
      (pss_one (ps_ret (pe_comp (locs := ["place"]) (caps := [5]) rfl ⟨by rfl, by decide +kernel, rfl, by decide +kernel, by exact ⟨rfl, trivial⟩, by rfl, by rfl⟩ (pi_range1 rfl T.toTXp.no_range (pa_cons (pe_meth0 (pv 0) T.toTXp.cl_Net T.toTXp.m_Net_size G_Net_size (hr.mono (by decide)) T.toTXp.b_Net_size .nil passN) pa_nil)) (fun fp s3 H3 => (pg_name (i := 0) (show (["place", "found"] : List Str).Nodup by decide +kernel) rfl (Or.inl rfl))) (fun fp s3 H3 => (pts_one (pt_cmp (pc_dnotin (hu_of hr) (pv 0) (pv 1)))))
          (fun fp s3 H3 => (pv 0))))))))), ?_⟩
    obtain ⟨⟨dx, hp⟩, _⟩ := id N
    have len60 : ∀ {L : List Nat}, L.Nodup → (∀ k ∈ L, k ∈ opens ps) → L.length ≤ 60 := fun nd hs => Nat.le_trans (nodup_sub_len (m := List.range ps.length) nd fun k hk => List.mem_range.mpr (opens_all ps k (hs k hk))) (by rw [List.length_range]; exact ok.len)
    have F := Flow.rows wa wn
    have fl : ∀ i, ((ws.take i).flatten).length ≤ 60 := fun i => len60 (flat_nodup i wn) fun k hk => F.sub k (flat_sub k hk)
    have wlen : ∀ w ∈ ws, w.length ≤ 60 := fun w hw => len60 (wa w hw).nd (wa w hw).us
    have N12 := ok.hi
    refine ⟨_, rfl, p, dx, _, rfl, hp, flds_no _ _ (by decide +kernel) (by decide +kernel), p, l, n, ps, rfl, N, fun a H1 ha P1 x1 => ?_⟩
    dsimp only [gName]
    refine fun d hd => ?_
    have x2 := x1.trans (Ext.new (S := []) (o := .dK []) hd)
    have U2 : UsedAt (upd H1 d (.dK [])) d [] := upd_same
    have P2 := P1.ext (Ext.new (S := []) (o := .dK []) hd) (by simp)
    have hd0 : H d = none := x1.free hd (by simp)
    have nad : a ≠ d := by
      obtain ⟨xs, e, _⟩ := P1.list
      exact neN hd e
    generalize upd H1 d (.dK []) = H2 at x2 U2 P2 ⊢
    clear x1 P1 hd
    obtain ⟨rs, hR, wp⟩ := id W0
    have hRd : R ≠ d := neN hd0 hR
    have rne : ∀ r ∈ rs, r ≠ d := fun r m => by
      obtain ⟨j, hj⟩ := List.getElem?_of_mem m
      obtain ⟨w', _, h2⟩ := wp.get hj
      exact neN hd0 h2
    dsimp only [gName]
    refine seq_mid (t := tFor _ _ _) (fun σ' H' => ∃ (x4 : Option V), σ' = [some (.ref p), some (.ref R), some (.ref a), some (.ref d), x4, none] ∧ UsedAt H' d ws.flatten ∧ PipesAt H' a ps ∧ Ext [] H H') (fun Z hZ => ?_) ?_
    · refine ⟨_, rfl, R, rfl, ⟨_, SqL.of (x2.keep _ _ hR (by simp))⟩, ?_⟩
      refine for_list (K := K) (a := R) (xs := rs.map V.ref) (fun i σ' H' => ∃ (x4 : Option V), σ' = [some (.ref p), some (.ref R), some (.ref a), some (.ref d), x4, none] ∧ UsedAt H' d (ws.take i).flatten ∧ PipesAt H' a ps ∧ Ext [] H H') ⟨none, rfl, U2, P2, x2⟩ ?_ ?_ ?_
      · rintro i σ' H' _ ⟨_, rfl, _, _, ex⟩
        exact SqL.of (ex.keep _ _ hR (by simp))
      · rintro i y σ' H' hy ⟨x4, rfl, hU, Pp, ex⟩
        rw [List.getElem?_map] at hy
        cases hr : rs[i]? with
        | none => rw [hr] at hy; cases hy
        | some r =>
          rw [hr] at hy
          obtain rfl : y = .ref r := (Option.some.inj hy).symm
          obtain ⟨w, hw, hi⟩ := wp.get hr
          have f1 := fl i
          have f2 := wlen w (List.mem_of_getElem? hw)
          refine ⟨_, rfl, _, rfl, d, r, _, w, rfl, hU, ex.keep _ _ hi (by simp), by (clear v0 v1 N12; omega), fun H4 U4 x4' => ⟨_, rfl, ?_, Pp.ext x4' (by simp [nad]), ex.over1 x4' hd0⟩⟩
          rw [flat_take hw]
          rw [togs_new w (by rw [← flat_take hw]; exact flat_nodup (i + 1) wn)] at U4
          exact U4
      · rintro σ' H' ⟨x4, rfl, hU, Pp, ex⟩
        rw [List.length_map, Paired.length wp, List.take_length] at hU
        exact hZ _ _ ⟨x4, rfl, hU, Pp, ex⟩
    rintro σ' H3 ⟨x4, rfl, U3, P3, x3⟩
    refine ⟨_, rfl, _, rfl, a, d, ps, _, rfl, P3, U3, ok.len, fun e H4 he R4 x4' => ?_⟩
    refine ⟨_, rfl, a, ps, rfl, P3.ext x4' (by simp), ok.len, fun b H5 hb I5 x5 => ?_⟩
    refine ⟨e, b, turnL ps ws.flatten, opens ps, n, rfl, R4.ext x5 (by simp), I5, by rw [turnL_len]; exact opens_all ps, turnL_ok ok.ok _, ok.lo, ok.hi, by rw [turnL_len]; exact ok.len, fun f H6 ff hf FF B x6 => ?_⟩
    obtain ⟨kvs, hf6, rr⟩ := FF
    have y6 := ((x3.trans x4').trans x5).trans x6
    have nr : ¬ Reach (prs (turnL ps ws.flatten) (opens ps)) v := fun z => by
      obtain ⟨w, hw⟩ := look_of_mem ((B.reach v).mpr z)
      exact cut.none F (opens_all ps) (B.row hw)
    obtain ⟨m1, m0, e1⟩ := F.bound ok.lo ok.ok (opens_nodup ps) (opens_all ps) v0 v1 nr
    have rg := prs_rng (n := (n : Int)) (turnL_ok ok.ok ws.flatten) (us := opens ps) (by rw [turnL_len]; exact opens_all ps)
    have N6 := N.ext y6 (by simp) (by simp)
    obtain ⟨⟨dy, hp6⟩, _⟩ := id N6
    dsimp only [gName]
    refine ⟨_, rfl, p, dy, _, rfl, hp6, flds_no _ _ (by decide +kernel) (by decide +kernel), p, l, dy, n, rfl, hp6, _, rfl, by (clear v0 v1 nr m0 e1 N12; omega), by (clear v0 v1 nr m0 e1; omega), fun D hD => ?_⟩
    rw [Int.toNat_natCast]
    refine cl_range (n := n) (fun i σ' H' => ∃ x, σ' = [x, some (.ref f)] ∧ IntsAt H' D ((nI (List.range i)).filter fun x => !decide (x ∈ reachL n (prs (turnL ps ws.flatten) (opens ps)))) ∧ Ext [] H6 H') ⟨none, rfl, upd_same, Ext.new hD⟩ ?_ ?_
    · rintro i σ' H' hi ⟨x, rfl, hD', ex⟩
      rw [Int.zero_add]
      have hf' := ex.keep _ _ hf6 (by simp)
      have lim : ((nI (List.range i)).filter fun x => !decide (x ∈ reachL n (prs (turnL ps ws.flatten) (opens ps)))).length ≤ 12 := Nat.le_trans (List.length_filter_le _ _) (by rw [nI_len, List.length_range]; (clear nr m0 e1 v0 v1; omega))
      have mem := (reachL_mem ok.lo rg (i : Int)).trans (B.reach (i : Int)).symm
      have sn : ∀ g : Int → Bool, (nI (List.range (i + 1))).filter g = (nI (List.range i)).filter g ++ if g (i : Int) = true then [(i : Int)] else [] := fun g => by
        rw [List.range_succ, nI_snoc, List.filter_append, List.filter_cons]
        split <;> rfl
      refine ⟨_, rfl, _, rfl, f, _, rfl, DGet.k (k := Sum.inl (i : Int)) hf', _, rfl, ?_⟩
      rcases rr.val (i : Int) with ⟨l1, v1'⟩ | ⟨w, r1, l1, v1', _⟩
      · rw [v1']
        have nm : (i : Int) ∉ reachL n (prs (turnL ps ws.flatten) (opens ps)) := fun z => look_none l1 (mem.mp z)
        refine iteT ⟨_, rfl, _, hD', small1000 (by rw [List.length_map]; (clear v0 v1 N12 nr m0 e1 hi mem nm; omega)), _, rfl, ?_, ex.over1 (Ext.putL hD' (by simp)) hD⟩
        show _ = some (HO.lst (_ : List V))
        rw [upd_same, sn, if_pos (by rw [decide_eq_false nm]; rfl), List.map_append]; rfl
      · rw [v1']
        have nm : (i : Int) ∈ reachL n (prs (turnL ps ws.flatten) (opens ps)) := mem.mpr (mem_keys (look_mem l1))
        refine iteF ⟨_, rfl, ?_, ex⟩
        rw [sn, if_neg (by rw [decide_eq_true nm]; simp), List.append_nil]
        exact hD'
    · rintro σ' H' ⟨x, rfl, hD', ex⟩
      exact q D H' _ (y6.free hD (by simp)) hD' ⟨dryL_rise _ _, dryL_nodup _ _, dryL_rng, m1, m0, e1⟩ (y6.trans ex)
end
end Sp
namespace Sp
open PySem L2 Sw PyProof.Rows
section
variable {P : Program} {w : World} {K : PySem.W.Frag} {mg : Str → Option Value} {base : Heap}
noncomputable def sp_wways (C : Addr) : Sp := fun vs H Q E => ∃ (p l : Addr) (n : Nat) (ps : List Pt) (v m : Int), vs = [.ref p, .int v, .int m] ∧ NetAt C H p l n ps ∧ NetOk n ps ∧ v ≠ 0 ∧ 0 ≤ v ∧ v < (n : Int) ∧
  ((∀ t R H' ws, H' t = some (.tup [.str "ways", .ref R]) → WaysAt H' R ws → (∀ w ∈ ws, IsWay ps (opens ps) w v) → ws.flatten.Nodup → (ws.length : Int) ≤ max 0 m → m ≤ (ws.length : Int) → Ext [] H H' → Q (.ref t) H') ∧
    ∀ t b H' ss c, H' t = some (.tup [.str "narrow", .ref b]) → IntsAt H' b ss → Bnd n ps v c ss → (c : Int) < m → Ext [] H H' → Q (.ref t) H')
theorem ok_wways (T : TX K mg) : FnOk P w K mg base (CX1 P w) 4 T.toTXd.f_ways T.toTXd.fd_ways ["net", "place", "many"] (sp_wways T.toTXd.a_Net) := by
  have G_check_place : FnOk P w K mg base (CX1 P w) 2 T.toTXd.f_check_place T.toTXd.fd_check_place ["net", "place"] (sp_check T.toTXd.a_Net) := ok_check T
  have G_Net_pipes : FnOk P w K mg base (CX1 P w) 1 T.toTXd.f_Net_pipes T.toTXd.fd_Net_pipes ["self"] (sp_pipes T.toTXd.a_Net) := ok_pipes T
  have G_ways_apart : FnOk P w K mg base (CX1 P w) 3 T.toTXd.f_ways_apart T.toTXd.fd_ways_apart ["pipes", "usable", "place", "many"] sp_wapart := ok_wapart T
  have G_open_pipes : FnOk P w K mg base (CX1 P w) 1 T.toTXd.f_open_pipes T.toTXd.fd_open_pipes ["pipes"] sp_open := ok_open T
  have G_bounding : FnOk P w K mg base (CX1 P w) 2 T.toTXd.f_bounding T.toTXd.fd_bounding ["net", "rows"] (sp_bounding T.toTXd.a_Net) := ok_bounding T
  refine T.toTXp.F_ways.ok1 sc_ways (fun vs H Q E h => ?_) (fun cdv A outer s H vs Q E hr h => ?_)
  · obtain ⟨p, l, n, ps, v, m, rfl, _⟩ := h
    rfl
  · obtain ⟨p, l, n, ps, v, m, rfl, N, ok, hv, v0, v1, q⟩ := h
    refine ⟨_, (pss_cons (ps_expr (pe_call G_check_place (hr.mono (by decide)) rfl T.toTXp.mg_check_place T.toTXp.F_check_place.kp T.toTXp.b_check_place .nil passN (pa_cons (pv 0) (pa_cons (pv 1) pa_nil))))
      (pss_cons (ps_set (i := 3) sc_ways.nd rfl (Or.inl rfl) (pe_meth0 (pv 0) T.toTXp.cl_Net T.toTXp.m_Net_pipes G_Net_pipes (hr.mono (by decide)) T.toTXp.b_Net_pipes .nil passN))
      (pss_cons (ps_set (i := 4) sc_ways.nd rfl (Or.inl rfl) (pe_call G_ways_apart (hr.mono (by decide)) rfl T.toTXp.mg_ways_apart T.toTXp.F_ways_apart.kp T.toTXp.b_ways_apart .nil passN (pa_cons (pv 3) (pa_cons (pe_call G_open_pipes (hr.mono (by decide)) rfl T.toTXp.mg_open_pipes T.toTXp.F_open_pipes.kp T.toTXp.b_open_pipes .nil passN (pa_cons (pv 3) pa_nil)) (pa_cons (pv 1) (pa_cons (pv 2) pa_nil))))))
      (pss_cons (ps_if (pt_cmp (pc_lt (pe_callB (lenK K) (by rfl) T.toTXp.no_len bt_len (pa_cons (pv 4) pa_nil)) (pv 2))) (pss_one (ps_ret (pe_tup (pa_cons pe_str (pa_cons (pe_call G_bounding (hr.mono (by decide)) rfl T.toTXp.mg_bounding T.toTXp.F_bounding.kp T.toTXp.b_bounding .nil passN (pa_cons (pv 0) (pa_cons (pv 4) pa_nil))) pa_nil))))) pss_nil)
      (pss_one (ps_ret (pe_tup (pa_cons pe_str (pa_cons (pv 4) pa_nil))))))))), ?_⟩
    obtain ⟨⟨dx, hp⟩, _⟩ := id N
    refine ⟨_, rfl, _, rfl, p, l, dx, n, v, rfl, hp, v0, v1, ?_⟩
    refine ⟨_, rfl, p, dx, _, rfl, hp, flds_no _ _ (by decide +kernel) (by decide +kernel), p, l, n, ps, rfl, N, fun a H1 ha P1 x1 => ?_⟩
    refine ⟨_, rfl, _, rfl, a, ps, rfl, P1, ok.len, fun b H2 hb I2 x2 => ?_⟩
    refine ⟨_, rfl, _, rfl, a, b, ps, opens ps, v, m, n, rfl, P1.ext x2 (by simp), I2, opens_nodup ps, opens_all ps, ok.ok, ok.lo, ok.hi, ok.len, v0, v1, hv, fun R H3 ws hR W3 wa wn hc cut x3 => ?_⟩
    have y3 := (x1.trans x2).trans x3
    obtain ⟨rs, hR3, wp⟩ := id W3
    dsimp only [gName]
    refine ⟨_, rfl, R, _, rfl, .inl (SqL.of hR3), _, rfl, _, _, rfl, rfl, _, rfl, ?_⟩
    have rl : ((rs.map V.ref).length : Int) = (ws.length : Int) := by rw [List.length_map, Paired.length wp]
    rw [rl]
    refine ite2 (fun c1 => ?_) (fun c1 => ?_)
    · have c1 := of_decide_eq_true c1
      refine ⟨_, rfl, _, rfl, p, l, R, n, ps, ws, v, rfl, N.ext y3 (by simp) (by simp), ok, W3, wa, wn, v0, v1, cut c1, fun e H4 ss he I4 B x4 => ⟨by show 2 ≤ sizeLine; decide, fun t ht => ?_⟩⟩
      have y4 := y3.trans x4
      have x5 : Ext [] H4 (upd H4 t (.tup [.str "narrow", .ref e])) := Ext.new ht
      exact q.2 t e _ ss _ upd_same (x5.keep _ _ I4 (by simp)) B c1 (y4.trans x5)
    · have c1 : ¬ (ws.length : Int) < m := fun z => c1 (decide_eq_true z)
      refine ⟨_, rfl, by show 2 ≤ sizeLine; decide, fun t ht => ?_⟩
      have x5 : Ext [] H3 (upd H3 t (.tup [.str "ways", .ref R])) := Ext.new ht
      exact q.1 t R _ ws upd_same (W3.ext x5) wa wn (by (clear hv v0 v1 q cut c1 rl; omega)) (by (clear hv v0 v1 q hc cut rl; omega)) (y3.trans x5)
end
end Sp
namespace Sp
open PySem L2 Sw PyProof.Rows
section
variable {P : Program} {w : World} {K : PySem.W.Frag} {mg : Str → Option Value} {base : Heap}
noncomputable def sp_widest (C : Addr) : Sp := fun vs H Q E => ∃ (p l : Addr) (n : Nat) (ps : List Pt) (v : Int), vs = [.ref p, .int v] ∧ NetAt C H p l n ps ∧ NetOk n ps ∧ v ≠ 0 ∧ 0 ≤ v ∧ v < (n : Int) ∧
  (∀ t R b H' ws ss, H' t = some (.tup [.int (ws.length : Nat), .ref R, .ref b]) → WaysAt H' R ws → IntsAt H' b ss → (∀ w ∈ ws, IsWay ps (opens ps) w v) → ws.flatten.Nodup → Bnd n ps v ws.length ss → CutOf ps (opens ps) v ws.length → Ext [] H H' → Q (.ref t) H')
theorem ok_widest (T : TX K mg) : FnOk P w K mg base (CX1 P w) 4 T.toTXd.f_widest T.toTXd.fd_widest ["net", "place"] (sp_widest T.toTXd.a_Net) := by
  have G_check_place : FnOk P w K mg base (CX1 P w) 2 T.toTXd.f_check_place T.toTXd.fd_check_place ["net", "place"] (sp_check T.toTXd.a_Net) := ok_check T
  have G_Net_pipes : FnOk P w K mg base (CX1 P w) 1 T.toTXd.f_Net_pipes T.toTXd.fd_Net_pipes ["self"] (sp_pipes T.toTXd.a_Net) := ok_pipes T
  have G_ways_apart : FnOk P w K mg base (CX1 P w) 3 T.toTXd.f_ways_apart T.toTXd.fd_ways_apart ["pipes", "usable", "place", "many"] sp_wapart := ok_wapart T
  have G_open_pipes : FnOk P w K mg base (CX1 P w) 1 T.toTXd.f_open_pipes T.toTXd.fd_open_pipes ["pipes"] sp_open := ok_open T
  have G_bounding : FnOk P w K mg base (CX1 P w) 2 T.toTXd.f_bounding T.toTXd.fd_bounding ["net", "rows"] (sp_bounding T.toTXd.a_Net) := ok_bounding T
  refine T.toTXp.F_widest.ok1 sc_widest (fun vs H Q E h => ?_) (fun cdv A outer s H vs Q E hr h => ?_)
  · obtain ⟨p, l, n, ps, v, rfl, _⟩ := h
    rfl
  · obtain ⟨p, l, n, ps, v, rfl, N, ok, hv, v0, v1, q⟩ := h
    refine ⟨_, (pss_cons (ps_expr (pe_call G_check_place (hr.mono (by decide)) rfl T.toTXp.mg_check_place T.toTXp.F_check_place.kp T.toTXp.b_check_place .nil passN (pa_cons (pv 0) (pa_cons (pv 1) pa_nil))))
      (pss_cons (ps_set (i := 2) sc_widest.nd rfl (Or.inl rfl) (pe_meth0 (pv 0) T.toTXp.cl_Net T.toTXp.m_Net_pipes G_Net_pipes (hr.mono (by decide)) T.toTXp.b_Net_pipes .nil passN))
      (pss_cons (ps_set (i := 3) sc_widest.nd rfl (Or.inl rfl) (pe_call G_ways_apart (hr.mono (by decide)) rfl T.toTXp.mg_ways_apart T.toTXp.F_ways_apart.kp T.toTXp.b_ways_apart .nil passN (pa_cons (pv 2) (pa_cons (pe_call G_open_pipes (hr.mono (by decide)) rfl T.toTXp.mg_open_pipes T.toTXp.F_open_pipes.kp T.toTXp.b_open_pipes .nil passN (pa_cons (pv 2) pa_nil)) (pa_cons (pv 1) (pa_cons (pe_callB (lenK K) (by rfl) T.toTXp.no_len bt_len (pa_cons (pv 2) pa_nil)) pa_nil))))))
      (pss_one (ps_ret (pe_tup (pa_cons (pe_callB (lenK K) (by rfl) T.toTXp.no_len bt_len (pa_cons (pv 3) pa_nil)) (pa_cons (pv 3) (pa_cons (pe_call G_bounding (hr.mono (by decide)) rfl T.toTXp.mg_bounding T.toTXp.F_bounding.kp T.toTXp.b_bounding .nil passN (pa_cons (pv 0) (pa_cons (pv 3) pa_nil))) pa_nil))))))))), ?_⟩
    obtain ⟨⟨dx, hp⟩, _⟩ := id N
    refine ⟨_, rfl, _, rfl, p, l, dx, n, v, rfl, hp, v0, v1, ?_⟩
    refine ⟨_, rfl, p, dx, _, rfl, hp, flds_no _ _ (by decide +kernel) (by decide +kernel), p, l, n, ps, rfl, N, fun a H1 ha P1 x1 => ?_⟩
    refine ⟨_, rfl, _, rfl, a, ps, rfl, P1, ok.len, fun b H2 hb I2 x2 => ?_⟩
    have P2 := P1.ext x2 (by simp)
    obtain ⟨xs, ha2, la2⟩ := P2.list
    refine ⟨_, rfl, _, rfl, a, _, rfl, .inl (SqL.of ha2), a, b, ps, opens ps, v, (ps.length : Int), n, by rw [la2]; rfl, P2, I2, opens_nodup ps, opens_all ps, ok.ok, ok.lo, ok.hi, ok.len, v0, v1, hv, fun R H3 ws hR W3 wa wn hc cut x3 => ?_⟩
    have y3 := (x1.trans x2).trans x3
    have F := Flow.rows wa wn
    have cut : CutOf ps (opens ps) v ws.length := by
      by_cases z : (ws.length : Int) < (ps.length : Int)
      · exact cut z
      · exact F.full hv (by (clear hv v0 v1 la2 hc cut; omega))
    obtain ⟨rs, hR3, wp⟩ := id W3
    dsimp only [gName]
    refine ⟨_, rfl, R, _, rfl, .inl (SqL.of hR3), _, rfl, _, rfl, _, rfl, p, l, R, n, ps, ws, v, rfl, N.ext y3 (by simp) (by simp), ok, W3, wa, wn, v0, v1, cut, fun e H4 ss he I4 B x4 => ⟨by show 3 ≤ sizeLine; decide, fun t ht => ?_⟩⟩
    have y4 := y3.trans x4
    have x5 : Ext [] H4 (upd H4 t (.tup [.int ((rs.map V.ref).length : Nat), .ref R, .ref e])) := Ext.new ht
    have rl : (rs.map V.ref).length = ws.length := by rw [List.length_map, Paired.length wp]
    refine q t R e _ ws ss ?_ (W3.ext (x4.trans x5)) (x5.keep _ _ I4 (by simp)) wa wn B cut (y4.trans x5)
    rw [upd_same, rl]
end
end Sp
namespace Sp
open PySem L2 Sw PyProof.Rows
section
variable {P : Program} {w : World} {K : PySem.W.Frag} {mg : Str → Option Value} {base : Heap}
noncomputable def sp_wout : Sp := fun vs H Q _ => ∃ (a b : Addr) (us T0 : List Nat), vs = [.ref a, .ref b] ∧ IntsAt H a (nI us) ∧ IntsAt H b (nI T0) ∧ us.length ≤ 60 ∧ ∀ c H', H c = none → IntsAt H' c (nI (us.filter fun k => !decide (k ∈ T0))) → Ext [] H H' → Q (.ref c) H'
theorem ok_wout (T : TX K mg) : FnOk P w K mg base (CX1 P w) 1 T.toTXd.f_without T.toTXd.fd_without ["pipes", "taken"] sp_wout := by
  refine T.toTXp.F_without.ok1 sc_without (fun vs H Q E h => ?_) (fun cdv A outer s H vs Q E hr h => ?_)
  · obtain ⟨a, b, us, T0, rfl, _⟩ := h
    rfl
  · obtain ⟨a, b, us, T0, rfl, hA, hB, hz, q⟩ := h
    refine ⟨_, (pss_one (ps_ret (pe_comp (locs := ["pipe"]) (caps := [1]) rfl ⟨by rfl, by decide +kernel, rfl, by decide +kernel, by exact ⟨rfl, trivial⟩, by rfl, by rfl⟩ (pi_list (pv 0)) (fun fp s3 H3 => (pg_name (i := 0) (show (["pipe", "taken"] : List Str).Nodup by decide +kernel) rfl (Or.inl rfl))) (fun fp s3 H3 => (pts_one (pt_cmpR (notinK K) (pv 0) (pv 1) (by with_unfolding_all rfl))))
          (fun fp s3 H3 => (pv 0))))), ?_⟩
    refine ⟨_, rfl, a, rfl, ⟨_, SqL.of hA⟩, fun D hD => ?_⟩
    refine cl_list (K := K) (a := a) (xs := (nI us).map V.int) (fun i σ' H' => ∃ x, σ' = [x, some (.ref b)] ∧ IntsAt H' D (nI ((us.take i).filter fun k => !decide (k ∈ T0))) ∧ Ext [] H H') ⟨none, rfl, upd_same, Ext.new hD⟩ ?_ ?_ ?_
    · rintro i σ' H' _ ⟨x, rfl, hD', ex⟩
      exact SqL.of (ex.keep _ _ hA (by simp))
    · rintro i y σ' H' hy ⟨x, rfl, hD', ex⟩
      obtain ⟨k, hk, rfl⟩ := getD_nI hy
      have lim : ((us.take i).filter fun k => !decide (k ∈ T0)).length ≤ 60 := Nat.le_trans (List.length_filter_le _ _) (by rw [List.length_take]; omega)
      refine ⟨_, rfl, _, rfl, rd_notin (SqL.of (ex.keep _ _ hB (by simp))) ⟨_, rfl, ?_⟩⟩
      by_cases cc : k ∈ T0
      · refine ifNF (nI_in.mpr cc) ⟨_, rfl, ?_, ex⟩
        rw [filter_take_succ _ _ _ _ hk, if_neg (by simp [cc]), List.append_nil]
        exact hD'
      · refine ifNT (fun z => cc (nI_in.mp z)) ⟨_, rfl, _, hD', len_nI lim (by (clear hz lim cc; omega)), _, rfl, ?_, ex.over1 (Ext.putL hD' (by simp)) hD⟩
        show _ = some (HO.lst ((nI _).map V.int))
        rw [upd_same, filter_take_succ _ _ _ _ hk, if_pos (by simp [cc]), nI_snoc, List.map_append]; rfl
    rintro σ' H' ⟨x, rfl, hD', ex⟩
    rw [List.length_map, nI_len, List.take_length] at hD'
    exact q D H' hD hD' ex
end
end Sp
namespace Sp
open PySem L2 Sw PyProof.Rows
section
variable {P : Program} {w : World} {K : PySem.W.Frag} {mg : Str → Option Value} {base : Heap}
noncomputable def sp_spare : Sp := fun vs H Q _ => ∃ (a b : Addr) (n : Nat) (ps : List Pt) (R : List Nat) (e m : Nat), vs = [.ref a, .ref b, .int (e : Nat), .int (m : Nat)] ∧ PipesAt H a ps ∧ NetOk n ps ∧ IntsAt H b (nI R) ∧ R.Nodup ∧ (∀ k ∈ R, k < ps.length) ∧ e ∈ R ∧ gl ps e ≠ 0 ∧
  ∀ bb H', (bb = true → ∃ U, Flow ps (less R e) (gl ps e) m U) → (Enough n ps (less R e) m → bb = true) → Ext [] H H' → Q (.bl bb) H'
theorem ok_spare (T : TX K mg) : FnOk P w K mg base (CX1 P w) 4 T.toTXd.f_can_spare T.toTXd.fd_can_spare ["laid", "left", "pipe", "many"] sp_spare := by
  have G_ways_apart : FnOk P w K mg base (CX1 P w) 3 T.toTXd.f_ways_apart T.toTXd.fd_ways_apart ["pipes", "usable", "place", "many"] sp_wapart := ok_wapart T
  have G_without : FnOk P w K mg base (CX1 P w) 1 T.toTXd.f_without T.toTXd.fd_without ["pipes", "taken"] sp_wout := ok_wout T
  refine T.toTXp.F_can_spare.ok1 sc_can_spare (fun vs H Q E h => ?_) (fun cdv A outer s H vs Q E hr h => ?_)
  · obtain ⟨a, b, n, ps, R, e, m, rfl, _⟩ := h
    rfl
  · obtain ⟨a, b, n, ps, R, e, m, rfl, P1, ok, hB, nd, rg, he, hg, q⟩ := h
    refine ⟨_, (pss_one (ps_ret (pe_cmp (pc_eqI (pe_callB (lenK K) (by rfl) T.toTXp.no_len bt_len (pa_cons (pe_call G_ways_apart (hr.mono (by decide)) rfl T.toTXp.mg_ways_apart T.toTXp.F_ways_apart.kp T.toTXp.b_ways_apart .nil passN (pa_cons (pv 0) (pa_cons (pe_call G_without (hr.mono (by decide)) rfl T.toTXp.mg_without T.toTXp.F_without.kp T.toTXp.b_without .nil passN (pa_cons (pv 1) (pa_cons (pe_lst (pa_cons (pv 2) pa_nil)) pa_nil))) (pa_cons (pe_ix (ixT K) (pe_ix (ixL K) (pv 0) (pv 2) (fun _ _ => rfl)) pe_int (fun _ _ => rfl)) (pa_cons (pv 3) pa_nil))))) pa_nil)) (pv 3))))), ?_⟩
    have lR : R.length ≤ 60 := Nat.le_trans (nodup_sub_len (m := List.range ps.length) nd fun k hk => List.mem_range.mpr (rg k hk)) (by rw [List.length_range]; exact ok.len)
    refine ⟨_, rfl, _, rfl, _, rfl, by show 1 ≤ sizeLine; decide, fun s hs => ?_⟩
    have x1 : Ext [] H (upd H s (.lst [.int (e : Int)])) := Ext.new hs
    have I1 : IntsAt (upd H s (.lst [.int (e : Int)])) s (nI [e]) := upd_same
    generalize upd H s (.lst [.int (e : Int)]) = H1 at x1 I1 ⊢
    refine ⟨b, s, R, [e], rfl, x1.keep _ _ hB (by simp), I1, lR, fun c H2 hc I2 x2 => ?_⟩
    rw [less_is] at I2
    have y2 := x1.trans x2
    have P2 := P1.ext y2 (by simp)
    refine ⟨_, rfl, _, rfl, rw_gl P2.rws (rg e he) ⟨_, rfl, a, c, ps, less R e, gl ps e, (m : Int), n, rfl, P2, I2, List.Pairwise.filter _ nd, fun k hk => rg k (less_sub hk), ok.ok, ok.lo, ok.hi, ok.len, (ok_k ok.ok (rg e he)).1.2.1, (ok_k ok.ok (rg e he)).1.2.2, hg, fun W H3 ws hW W3 wa wn hc cut x3 => ?_⟩⟩
    obtain ⟨rs, hW3, wp⟩ := id W3
    refine ⟨W, _, rfl, .inl (SqL.of hW3), _, rfl, _, _, rfl, rfl, ?_⟩
    show Q (V.bl (decide (((rs.map V.ref).length : Int) = (m : Int)))) _
    have rl : (rs.map V.ref).length = ws.length := by rw [List.length_map, Paired.length wp]
    rw [rl]
    refine q _ _ (fun z => ?_) (fun z => ?_) (y2.trans x3)
    · have z := of_decide_eq_true z
      have z : ws.length = m := by (clear hg lR hc cut rl; omega)
      rw [← z]
      exact ⟨_, Flow.rows wa wn⟩
    · refine decide_eq_true (Classical.byContradiction fun y => ?_)
      have := z.cut (ok_k ok.ok (rg e he)).1.2.1 (ok_k ok.ok (rg e he)).1.2.2 (cut (by (clear hg lR cut rl; omega)))
      (clear hg lR cut rl; omega)
end
end Sp
namespace Sp
open PySem L2 Sw PyProof.Rows
section
variable {P : Program} {w : World} {K : PySem.W.Frag} {mg : Str → Option Value} {base : Heap}
noncomputable def sp_next : Sp := fun vs H Q _ => ∃ (a b d : Addr) (n : Nat) (ps : List Pt) (R : List Nat) (W : List Int) (m : Nat), vs = [.ref a, .ref b, .ref d, .int (m : Nat)] ∧ PipesAt H a ps ∧ NetOk n ps ∧ IntsAt H b (nI R) ∧ R.Nodup ∧ (∀ k ∈ R, k < ps.length) ∧ WetAt H d W ∧ (0 : Int) ∈ W ∧ (∃ e ∈ R, st ps e ∈ W ∧ gl ps e ∉ W ∧ Enough n ps (less R e) m) ∧
  ∀ (e : Nat) H', e ∈ R → st ps e ∈ W → gl ps e ∉ W → (∃ U, Flow ps (less R e) (gl ps e) m U) → Ext [] H H' → Q (.int (e : Nat)) H'
theorem ok_next (T : TX K mg) : FnOk P w K mg base (CX1 P w) 5 T.toTXd.f_next_pipe T.toTXd.fd_next_pipe ["laid", "left", "wet", "many"] sp_next := by
  have G_can_spare : FnOk P w K mg base (CX1 P w) 4 T.toTXd.f_can_spare T.toTXd.fd_can_spare ["laid", "left", "pipe", "many"] sp_spare := ok_spare T
  refine T.toTXp.F_next_pipe.ok1 sc_next_pipe (fun vs H Q E h => ?_) (fun cdv A outer s H vs Q E hr h => ?_)
  · obtain ⟨a, b, d, n, ps, R, W, m, rfl, _⟩ := h
    rfl
  · obtain ⟨a, b, d, n, ps, R, W, m, rfl, P1, ok, hB, nd, rg, hW, w0, some_e, q⟩ := h
    refine ⟨_, (pss_cons (ps_for PassesOwn.never rfl (pi_list (pv 1)) (pg_name (i := 4) sc_next_pipe.nd rfl (Or.inl rfl))
      (pss_one (ps_if (PW.pt (pw_and (pt_cmp (pc_din (hu_of hr) (pe_ix (ixT K) (pe_ix (ixL K) (pv 0) (pv 4) (fun _ _ => rfl)) pe_int (fun _ _ => rfl)) (pv 2))) (pw_and (pt_cmp (pc_dnotin (hu_of hr) (pe_ix (ixT K) (pe_ix (ixL K) (pv 0) (pv 4) (fun _ _ => rfl)) pe_int (fun _ _ => rfl)) (pv 2))) (pw_and1 (pt_val (pe_call G_can_spare (hr.mono (by decide)) rfl T.toTXp.mg_can_spare T.toTXp.F_can_spare.kp T.toTXp.b_can_spare .nil passN (pa_cons (pv 0) (pa_cons (pv 1) (pa_cons (pv 4) (pa_cons (pv 3) pa_nil)))))))))) (pss_one (ps_ret (pv 4))) pss_nil)))
      (pss_one (ps_ret pe_non))), ?_⟩
    have lR : R.length ≤ 60 := Nat.le_trans (nodup_sub_len (m := List.range ps.length) nd fun k hk => List.mem_range.mpr (rg k hk)) (by rw [List.length_range]; exact ok.len)
    refine seq_mid (t := tFor _ _ _) (fun σ' H' => False) (fun Z hZ => ?_) (fun _ _ z => z.elim)
    refine ⟨_, rfl, b, rfl, ⟨_, SqL.of hB⟩, ?_⟩
    refine for_list (K := K) (a := b) (xs := (nI R).map V.int) (fun i σ' H' => ∃ (x4 : Option V), σ' = [some (.ref a), some (.ref b), some (.ref d), some (.int m), x4] ∧ (∀ e ∈ R.take i, ¬ (st ps e ∈ W ∧ gl ps e ∉ W ∧ Enough n ps (less R e) m)) ∧ Ext [] H H') ⟨none, rfl, by simp, Ext.refl⟩ ?_ ?_ ?_
    · rintro i σ' H' _ ⟨x4, rfl, _, ex⟩
      exact SqL.of (ex.keep _ _ hB (by simp))
    · rintro i y σ' H' hy ⟨x4, rfl, no, ex⟩
      obtain ⟨k, hk, rfl⟩ := getD_nI hy
      have hkR := take_all hk
      have hkl := rg k hkR
      have Pp := P1.ext ex (by simp)
      have Wp := ex.keep _ _ hW (by simp)
      have tk : ∀ H2, Ext [] H' H2 → ¬ (st ps k ∈ W ∧ gl ps k ∉ W ∧ Enough n ps (less R k) m) → ∃ (x4 : Option V), [some (V.ref a), some (.ref b), some (.ref d), some (.int m), some (.int (k : Int))] = [some (.ref a), some (.ref b), some (.ref d), some (.int m), x4] ∧ (∀ e ∈ R.take (i + 1), ¬ (st ps e ∈ W ∧ gl ps e ∉ W ∧ Enough n ps (less R e) m)) ∧ Ext [] H H2 := fun H2 x2 hn => ⟨_, rfl, fun e he => by
        rw [List.take_add_one, hk] at he
        rcases List.mem_append.mp he with z | z
        · exact no e z
        · have : e = k := by simpa using z
          rw [this]; exact hn, ex.trans x2⟩
      refine ⟨_, rfl, _, rfl, rw_st Pp.rws hkl ⟨_, rfl, d, _, rfl, DGet.wet Wp, _, rfl, ?_⟩⟩
      rw [some_wet]
      by_cases h1 : st ps k ∈ W
      case neg => exact ifF h1 (tk H' Ext.refl fun z => h1 z.1)
      refine ifT h1 ⟨_, rfl, _, rfl, rw_gl Pp.rws hkl ⟨_, rfl, d, _, rfl, DGet.wet Wp, _, rfl, ?_⟩⟩
      rw [some_wet]
      by_cases h2 : gl ps k ∈ W
      case pos => exact ifNF h2 (tk H' Ext.refl fun z => z.2.1 h2)
      refine ifNT h2 ⟨_, rfl, _, rfl, _, rfl, _, rfl, a, b, n, ps, R, k, m, rfl, Pp, ok, ex.keep _ _ hB (by simp), nd, rg, hkR, fun z => h2 (by rw [z]; exact w0), fun bb H2 b1 b2 x2 => ⟨_, rfl, ?_⟩⟩
      cases bb with
      | true => exact iteT ⟨_, rfl, q k H2 hkR h1 h2 (b1 rfl) (ex.trans x2)⟩
      | false => exact iteF (tk H2 x2 fun z => by have := b2 z.2.2; cases this)
    · rintro σ' H' ⟨x4, rfl, no, ex⟩
      rw [List.length_map, nI_len, List.take_length] at no
      obtain ⟨e, he, z⟩ := some_e
      exact (no e he z).elim
end
end Sp

set_option Elab.async false
set_option linter.all false
set_option maxRecDepth 100000
namespace Sp
open PySem L2 Sw PyProof.Rows
section
variable {P : Program} {w : World} {K : PySem.W.Frag} {mg : Str → Option Value} {base : Heap}
noncomputable def sp_grown (C : Addr) : Sp := fun vs H Q _ => ∃ (p l b : Addr) (n : Nat) (ps : List Pt) (us : List Nat) (m : Nat), vs = [.ref p, .ref b, .int (m : Nat)] ∧ NetAt C H p l n ps ∧ NetOk n ps ∧ IntsAt H b (nI us) ∧ us.Nodup ∧ (∀ k ∈ us, k ∈ opens ps) ∧ Enough n ps us (m + 1) ∧
  ∀ r H' L, H r = none → IntsAt H' r (nI L) → L.Pairwise (· < ·) → TreeP n ps L → (∀ k ∈ L, k ∈ us) → Enough n ps (us.filter fun k => !decide (k ∈ L)) m → Ext [] H H' → Q (.ref r) H'
theorem ok_grown (T : TX K mg) : FnOk P w K mg base (CX1 P w) 6 T.toTXd.f_grown T.toTXd.fd_grown ["net", "left", "many"] (sp_grown T.toTXd.a_Net) := by
  have G_Net_pipes : FnOk P w K mg base (CX1 P w) 1 T.toTXd.f_Net_pipes T.toTXd.fd_Net_pipes ["self"] (sp_pipes T.toTXd.a_Net) := ok_pipes T
  have G_Net_size : FnOk P w K mg base (CX1 P w) 1 T.toTXd.f_Net_size T.toTXd.fd_Net_size ["self"] (sp_size T.toTXd.a_Net) := ok_size T
  have G_next_pipe : FnOk P w K mg base (CX1 P w) 5 T.toTXd.f_next_pipe T.toTXd.fd_next_pipe ["laid", "left", "wet", "many"] sp_next := ok_next T
  have G_without : FnOk P w K mg base (CX1 P w) 1 T.toTXd.f_without T.toTXd.fd_without ["pipes", "taken"] sp_wout := ok_wout T
  refine T.toTXp.F_grown.ok1 sc_grown (fun vs H Q E h => ?_) (fun cdv A outer s H vs Q E hr h => ?_)
  · obtain ⟨p, l, b, n, ps, us, m, rfl, _⟩ := h
    rfl
  · obtain ⟨p, l, b, n, ps, us, m, rfl, N, ok, hB, nd, sub, en, q⟩ := h
    refine ⟨_, (pss_cons (ps_set (i := 3) sc_grown.nd rfl (Or.inl rfl) (pe_meth0 (pv 0) T.toTXp.cl_Net T.toTXp.m_Net_pipes G_Net_pipes (hr.mono (by decide)) T.toTXp.b_Net_pipes .nil passN))
      (pss_cons (ps_set (i := 4) sc_grown.nd rfl (Or.inl rfl) (pe_lst pa_nil))
      (pss_cons (ps_set (i := 5) sc_grown.nd rfl (Or.inl rfl) (pe_disp (pps_cons (pe_gi rfl T.toTXp.mg_SPRING) pe_bl pps_nil) rfl rfl (by simp) (by decide)))
      (pss_cons (ps_while PassesOwn.never (pt_cmp (pc_lt (pe_callB call_lenD (by rfl) T.toTXp.no_len bt_len (pa_cons (pv 5) pa_nil)) (pe_meth0 (pv 0) T.toTXp.cl_Net T.toTXp.m_Net_size G_Net_size (hr.mono (by decide)) T.toTXp.b_Net_size .nil passN)))
      (pss_cons (ps_set (i := 6) sc_grown.nd rfl (Or.inl rfl) (pe_call G_next_pipe (hr.mono (by decide)) rfl T.toTXp.mg_next_pipe T.toTXp.F_next_pipe.kp T.toTXp.b_next_pipe .nil passN (pa_cons (pv 3) (pa_cons (pe_call G_without (hr.mono (by decide)) rfl T.toTXp.mg_without T.toTXp.F_without.kp T.toTXp.b_without .nil passN (pa_cons (pv 1) (pa_cons (pv 4) pa_nil))) (pa_cons (pv 5) (pa_cons (pv 2) pa_nil))))))
      (pss_cons (ps_expr (pe_bm PySem.F.plainAttrs_list PySem.F.slot_list_append PySem.F.type_list_append mt_append (pv 4) (pa_cons (pv 6) pa_nil)))
      (pss_one (ps_dput (hu_of hr) (pv 5) (pe_ix (ixT K) (pe_ix (ixL K) (pv 3) (pv 6) (fun _ _ => rfl)) pe_int (fun _ _ => rfl)) pe_bl rfl)))))
      (pss_one (ps_ret (pe_callB (sortedK K) (by rfl) T.toTXp.no_sorted bt_sorted (pa_cons (pv 4) pa_nil)))))))), ?_⟩
    obtain ⟨⟨dx, hp⟩, _⟩ := id N
    have rg : ∀ k ∈ us, k < ps.length := fun k hk => opens_all ps k (sub k hk)
    have lus : us.length ≤ 60 := Nat.le_trans (nodup_sub_len (m := List.range ps.length) nd fun k hk => List.mem_range.mpr (rg k hk)) (by rw [List.length_range]; exact ok.len)
    have okh := ok.hi
    refine ⟨_, rfl, p, dx, _, rfl, hp, flds_no _ _ (by decide +kernel) (by decide +kernel), p, l, n, ps, rfl, N, fun a H1 ha P1 x1 => ?_⟩
    dsimp only [gName]
    refine ⟨Nat.zero_le _, fun t ht => ?_⟩
    have x2 := x1.trans (Ext.new (S := []) (o := .lst []) ht)
    have T2 : IntsAt (upd H1 t (.lst [])) t (nI []) := upd_same
    have P2 := P1.ext (Ext.new (S := []) (o := .lst []) ht) (by simp)
    have ht0 : H t = none := x1.free ht (by simp)
    generalize upd H1 t (.lst []) = H2 at x2 T2 P2 ⊢
    dsimp only [gName]
    refine fun d hd => ⟨upd_same, [(Sum.inl 0, .bl true)], rfl, by show 1 ≤ 15; decide, ?_⟩
    have hd0 : H d = none := x2.free hd (by simp)
    have x3 := x2.over1 ((Ext.new (S := [d]) (o := .dK []) hd).trans (Ext.put (S := [d]) (o := .dK (mergeK [] [(Sum.inl 0, .bl true)])) (upd_same (o := HO.dK [])) (by simp) (by intro xs z; cases z) (by intro a b z; cases z))) hd0
    have W3 : WetAt (upd (upd H2 d (.dK [])) d (.dK (mergeK [] [(Sum.inl 0, .bl true)]))) d [0] := by
      show upd (upd H2 d (.dK [])) d _ d = _
      rw [upd_same]
      rfl
    have xd : Ext [d] H2 (upd (upd H2 d (.dK [])) d (.dK (mergeK [] [(Sum.inl 0, .bl true)]))) := (Ext.new (S := [d]) (o := .dK []) hd).trans (Ext.put (S := [d]) (o := .dK (mergeK [] [(Sum.inl 0, .bl true)])) (upd_same (o := HO.dK [])) (by simp) (by intro xs z; cases z) (by intro a b z; cases z))
    have ntd : t ≠ d := neN hd T2
    have nad : a ≠ d := by
      obtain ⟨xs, e, _⟩ := P2.list
      exact neN hd e
    have T3 := xd.keep _ _ T2 (by simp [ntd])
    have P3 := P2.ext xd (by simp [nad])
    have nat : a ≠ t := by
      obtain ⟨xs, e, _⟩ := P1.list
      exact neN ht e
    generalize upd (upd H2 d (.dK [])) d (.dK (mergeK [] [(Sum.inl 0, .bl true)])) = H3 at x3 W3 T3 P3 ⊢
    clear xd x2 T2 P2 P1 x1 ht hd ha
    dsimp only [gName]
    refine seq_mid (t := tWhile _ _) (fun σ' H' => ∃ (T0 : List Nat) (W : List Int) (x6 : Option V), σ' = [some (.ref p), some (.ref b), some (.int m), some (.ref a), some (.ref t), some (.ref d), x6] ∧ IntsAt H' t (nI T0) ∧ Grow n ps us m T0 W ∧ n ≤ W.length ∧ Ext [] H H') (fun Z hZ => ?_) ?_
    · refine ⟨fun k σ' H' => ∃ (T0 : List Nat) (W : List Int) (x6 : Option V), σ' = [some (.ref p), some (.ref b), some (.int m), some (.ref a), some (.ref t), some (.ref d), x6] ∧ k = n - W.length ∧ IntsAt H' t (nI T0) ∧ WetAt H' d W ∧ PipesAt H' a ps ∧ Grow n ps us m T0 W ∧ Ext [] H H', ⟨_, [], [0], none, rfl, rfl, T3, W3, P3, Grow.start ok.lo en, x3⟩, ?_⟩
      rintro k σ' H' ⟨T0, W, x6, rfl, rfl, hT, hW, Pp, g, ex⟩
      have Np := N.ext ex (by simp) (by simp)
      obtain ⟨⟨dy, hp'⟩, _⟩ := id Np
      refine ⟨_, rfl, d, _, rfl, hW, _, rfl, p, dy, _, rfl, hp', flds_no _ _ (by decide +kernel) (by decide +kernel), p, l, dy, n, rfl, hp', _, _, rfl, rfl, _, rfl, ?_⟩
      have wl : (((W.map wI).map kI).length : Int) = (W.length : Int) := by rw [List.length_map, List.length_map]
      rw [wl]
      refine ite2 (fun c1 => ?_) (fun c1 => ?_)
      · have c1 := of_decide_eq_true c1
        refine ⟨_, fun _ _ h => h, ?_⟩
        refine ⟨_, rfl, _, rfl, _, rfl, b, t, us, T0, rfl, ex.keep _ _ hB (by simp), hT, lus, fun c H4 hc I4 x4 => ?_⟩
        have P4 := Pp.ext x4 (by simp)
        have W4 := x4.keep _ _ hW (by simp)
        have T4 := x4.keep _ _ hT (by simp)
        have rg' : ∀ k ∈ us.filter (fun k => !decide (k ∈ T0)), k < ps.length := fun k hk => rg k (List.mem_filter.mp hk).1
        have nd' : (us.filter fun k => !decide (k ∈ T0)).Nodup := List.Pairwise.filter _ nd
        refine ⟨_, rfl, _, rfl, a, c, d, n, ps, _, W, m, rfl, P4, ok, I4, nd', rg', W4, g.w0, g.next en ok.ok nd rg (by (clear lus okh wl; omega)), fun e H5 he hs hg ⟨U, F⟩ x5 => ?_⟩
        have T5 := x5.keep _ _ T4 (by simp)
        have W5 := x5.keep _ _ W4 (by simp)
        have P5 := P4.ext x5 (by simp)
        have y5 := (ex.trans x4).trans x5
        have g' := g.step ok.ok rg he hs hg (enough_less ok.ok nd' rg' he g.en F)
        have tl : T0.length ≤ 60 := Nat.le_trans (nodup_sub_len (m := us) g.nd g.sub) lus
        have Wl := nodup_bound n W g.wn g.wr
        dsimp only [gName]
        refine ⟨_, rfl, .inl ⟨rfl, _, SqL.of T5⟩, _, rfl, t, _, _, rfl, rfl, T5, len_nI tl (by (clear lus okh wl c1 hg tl Wl; omega)), ?_⟩
        have T6 : IntsAt (upd H5 t (.lst ((nI T0).map V.int ++ [.int (e : Int)]))) t (nI (T0 ++ [e])) := by
          show _ = some (HO.lst ((nI _).map V.int))
          rw [upd_same, nI_snoc, List.map_append]; rfl
        have x6' : Ext [t] H5 (upd H5 t (.lst ((nI T0).map V.int ++ [.int (e : Int)]))) := Ext.putL T5 (by simp)
        have W6 := x6'.keep _ _ W5 (by simp; exact ntd.symm)
        have P6 := P5.ext x6' (by simp [nat])
        generalize upd H5 t (.lst ((nI T0).map V.int ++ [.int (e : Int)])) = H6 at T6 x6' W6 P6 ⊢
        have hel := rg' e he
        refine ⟨_, rfl, _, rfl, _, rfl, rw_gl P6.rws hel ⟨d, _, rfl, DPut.k (k := Sum.inl (gl ps e)) W6 (small1000 (by rw [List.length_map, List.length_map]; (clear lus wl hg tl Wl hel; omega))), ?_⟩⟩
        have x7 : Ext [d] H6 (upd H6 d (.dK (putK ((W.map wI).map kI) (Sum.inl (gl ps e)) (.bl true)))) := Ext.put W6 (by simp) (by intro xs z; cases z) (by intro a b z; cases z)
        refine ⟨_, ?_, T0 ++ [e], W ++ [gl ps e], _, rfl, rfl, x7.keep _ _ T6 (by simp [ntd]), ?_, P6.ext x7 (by simp [nad]), g', (y5.over1 x6' ht0).over1 x7 hd0⟩
        · rw [List.length_append]
          show n - (W.length + 1) < n - W.length
          (clear lus okh wl hg tl Wl hel; omega)
        · show upd H6 d _ d = _
          rw [upd_same, put_wet hg]
      · have c1 : ¬ (W.length : Int) < (n : Int) := fun z => c1 (decide_eq_true z)
        exact hZ _ _ ⟨T0, W, x6, rfl, hT, g, by (clear lus okh wl; omega), ex⟩
    rintro σ' H4 ⟨T0, W, x6, rfl, hT, g, wl, ex⟩
    have tl : T0.length ≤ 60 := Nat.le_trans (nodup_sub_len (m := us) g.nd g.sub) lus
    refine ⟨_, rfl, t, nI T0, rfl, SqL.of hT, by rw [nI_len]; (clear lus okh wl; omega), fun s ns' hs pm pw => ?_⟩
    obtain ⟨L, rfl, pL⟩ := perm_nI pm
    refine q s _ L (ex.free hs (by simp)) upd_same (lt_of_sorted pw (pL.nodup g.nd)) ((g.tree wl fun k hk => (opens_lt (sub k hk)).2).perm pL) (fun k hk => g.sub k (pL.mem_iff.mpr hk)) ?_ (ex.trans (Ext.new hs))
    have e : (us.filter fun k => !decide (k ∈ L)) = us.filter fun k => !decide (k ∈ T0) := List.filter_congr fun k _ => by rw [decide_eq_decide.mpr pL.symm.mem_iff]
    rw [e]
    exact g.en
end
end Sp
namespace Sp
open PySem L2 Sw PyProof.Rows
section
variable {P : Program} {w : World} {K : PySem.W.Frag} {mg : Str → Option Value} {base : Heap}
noncomputable def sp_treesa (C : Addr) : Sp := fun vs H Q _ => ∃ (p l : Addr) (n : Nat) (ps : List Pt) (m : Nat), vs = [.ref p, .int (m : Nat)] ∧ NetAt C H p l n ps ∧ NetOk n ps ∧ Enough n ps (opens ps) m ∧ m ≤ 100 ∧
  ∀ R H' ts, H R = none → WaysAt H' R ts → ts.length = m → (∀ t ∈ ts, TreeP n ps t ∧ t.Pairwise (· < ·) ∧ ∀ k ∈ t, k ∈ opens ps) → ts.flatten.Nodup → Ext [] H H' → Q (.ref R) H'
theorem ok_treesa (T : TX K mg) : FnOk P w K mg base (CX1 P w) 7 T.toTXd.f_trees_apart T.toTXd.fd_trees_apart ["net", "many"] (sp_treesa T.toTXd.a_Net) := by
  have G_open_pipes : FnOk P w K mg base (CX1 P w) 1 T.toTXd.f_open_pipes T.toTXd.fd_open_pipes ["pipes"] sp_open := ok_open T
  have G_Net_pipes : FnOk P w K mg base (CX1 P w) 1 T.toTXd.f_Net_pipes T.toTXd.fd_Net_pipes ["self"] (sp_pipes T.toTXd.a_Net) := ok_pipes T
  have G_grown : FnOk P w K mg base (CX1 P w) 6 T.toTXd.f_grown T.toTXd.fd_grown ["net", "left", "many"] (sp_grown T.toTXd.a_Net) := ok_grown T
  have G_without : FnOk P w K mg base (CX1 P w) 1 T.toTXd.f_without T.toTXd.fd_without ["pipes", "taken"] sp_wout := ok_wout T
  refine T.toTXp.F_trees_apart.ok1 sc_trees_apart (fun vs H Q E h => ?_) (fun cdv A outer s H vs Q E hr h => ?_)
  · obtain ⟨p, l, n, ps, m, rfl, _⟩ := h
    rfl
  · obtain ⟨p, l, n, ps, m, rfl, N, ok, en, hm, q⟩ := h
    refine ⟨_, (pss_cons (ps_set (i := 2) sc_trees_apart.nd rfl (Or.inl rfl) (pe_call G_open_pipes (hr.mono (by decide)) rfl T.toTXp.mg_open_pipes T.toTXp.F_open_pipes.kp T.toTXp.b_open_pipes .nil passN (pa_cons (pe_meth0 (pv 0) T.toTXp.cl_Net T.toTXp.m_Net_pipes G_Net_pipes (hr.mono (by decide)) T.toTXp.b_Net_pipes .nil passN) pa_nil)))
      (pss_cons (ps_set (i := 3) sc_trees_apart.nd rfl (Or.inl rfl) (pe_lst pa_nil))
      (pss_cons (ps_for PassesOwn.never rfl (pi_range1 rfl T.toTXp.no_range (pa_cons (pv 1) pa_nil)) (pg_name (i := 4) sc_trees_apart.nd rfl (Or.inl rfl))
      (pss_cons (ps_set (i := 5) sc_trees_apart.nd rfl (Or.inl rfl) (pe_call G_grown (hr.mono (by decide)) rfl T.toTXp.mg_grown T.toTXp.F_grown.kp T.toTXp.b_grown .nil passN (pa_cons (pv 0) (pa_cons (pv 2) (pa_cons (pe_op op_sub (pe_op op_sub (pv 1) (pv 4)) pe_int) pa_nil)))))
      (pss_cons (ps_expr (pe_bm PySem.F.plainAttrs_list PySem.F.slot_list_append PySem.F.type_list_append mt_append (pv 3) (pa_cons (pv 5) pa_nil)))
      (pss_one (ps_set (i := 2) sc_trees_apart.nd rfl (Or.inl rfl) (pe_call G_without (hr.mono (by decide)) rfl T.toTXp.mg_without T.toTXp.F_without.kp T.toTXp.b_without .nil passN (pa_cons (pv 2) (pa_cons (pv 5) pa_nil))))))))
      (pss_one (ps_ret (pv 3)))))), ?_⟩
    obtain ⟨⟨dx, hp⟩, _⟩ := id N
    refine ⟨_, rfl, p, dx, _, rfl, hp, flds_no _ _ (by decide +kernel) (by decide +kernel), p, l, n, ps, rfl, N, fun a H1 ha P1 x1 => ?_⟩
    refine ⟨a, ps, rfl, P1, ok.len, fun b H2 hb I2 x2 => ?_⟩
    dsimp only [gName]
    refine ⟨Nat.zero_le _, fun R hR => ?_⟩
    have y2 := x1.trans x2
    have hR0 : H R = none := y2.free hR (by simp)
    have x3 := y2.trans (Ext.new (S := []) (o := .lst []) hR)
    have I3 := (Ext.new (S := []) (o := .lst []) hR).keep _ _ I2 (by simp)
    have R3 : upd H2 R (.lst []) R = some (.lst (([] : List Addr).map V.ref)) := upd_same
    generalize upd H2 R (.lst []) = H3 at x3 I3 R3 ⊢
    dsimp only [gName]
    refine seq_mid (t := tFor _ _ _) (fun σ' H' => ∃ (x2 x4 x5 : Option V) (rs : List Addr) (ts : List (List Nat)), σ' = [some (.ref p), some (.int m), x2, some (.ref R), x4, x5] ∧ H' R = some (.lst (rs.map V.ref)) ∧ WaysP H' rs ts ∧ ts.length = m ∧ (∀ t ∈ ts, TreeP n ps t ∧ t.Pairwise (· < ·) ∧ ∀ k ∈ t, k ∈ opens ps) ∧ ts.flatten.Nodup ∧ Ext [] H H') (fun Z hZ => ?_) ?_
    · refine ⟨_, rfl, _, rfl, by (clear hm; omega), by omega, ?_⟩
      rw [Int.toNat_natCast]
      refine for_range (n := m) (fun i σ' H' => ∃ (b : Addr) (us : List Nat) (x4 x5 : Option V) (rs : List Addr) (ts : List (List Nat)), σ' = [some (.ref p), some (.int m), some (.ref b), some (.ref R), x4, x5] ∧ IntsAt H' b (nI us) ∧ b ≠ R ∧ us.Nodup ∧ (∀ k ∈ us, k ∈ opens ps) ∧ Enough n ps us (m - i) ∧ H' R = some (.lst (rs.map V.ref)) ∧ WaysP H' rs ts ∧ (∀ r ∈ rs, r ≠ R) ∧ ts.length = i ∧ (∀ t ∈ ts, TreeP n ps t ∧ t.Pairwise (· < ·) ∧ ∀ k ∈ t, k ∈ opens ps) ∧ ts.flatten.Nodup ∧ (∀ k ∈ ts.flatten, k ∉ us) ∧ Ext [] H H') ⟨b, opens ps, none, none, [], [], rfl, I3, neN hR I2, opens_nodup ps, fun _ h => h, en, R3, .nil, by simp, rfl, by simp, by simp, by simp, x3⟩ ?_ ?_
      · rintro i σ' H' hi ⟨b, us, x4, x5, rs, ts, rfl, hB, nbR0, nd, sub, en, hRi, wp, rne, tl, ta, tn, td, ex⟩
        have e1 : ((m : Int) - (0 + (i : Int)) - 1) = ((m - i - 1 : Nat) : Int) := by (clear hm tl; omega)
        have e2 : m - i = (m - i - 1) + 1 := by (clear hm hi tl; omega)
        rw [e2] at en
        have lus : us.length ≤ 60 := Nat.le_trans (nodup_sub_len (m := List.range ps.length) nd fun k hk => List.mem_range.mpr (opens_all ps k (sub k hk))) (by rw [List.length_range]; exact ok.len)
        refine ⟨_, rfl, _, rfl, _, rfl, _, rfl, _, _, rfl, rfl, _, _, rfl, rfl, ?_⟩
        dsimp only
        rw [e1]
        refine ⟨p, l, b, n, ps, us, m - i - 1, rfl, N.ext ex (by simp) (by simp), ok, hB, nd, sub, en, fun r H4 L hr I4 pw tr Ls en' x4' => ?_⟩
        have R4 := x4'.keep _ _ hRi (by simp)
        have nrR : R ≠ r := neN hr hRi
        have B4 := x4'.keep _ _ hB (by simp)
        have rl : rs.length = i := by rw [Paired.length wp]; exact tl
        dsimp only [gName]
        refine ⟨_, rfl, .inl ⟨rfl, _, SqL.of R4⟩, _, rfl, R, _, _, rfl, rfl, R4, small1000 (by rw [List.length_map]; (clear lus hi tl e2; omega)), ?_⟩
        have x5' : Ext [R] H4 (upd H4 R (.lst (rs.map V.ref ++ [.ref r]))) := Ext.putL R4 (by simp)
        have R5 : upd H4 R (.lst (rs.map V.ref ++ [.ref r])) R = some (.lst ((rs ++ [r]).map V.ref)) := by rw [upd_same, List.map_append]; rfl
        have I5 : IntsAt (upd H4 R (.lst (rs.map V.ref ++ [.ref r]))) r (nI L) := keepU nrR.symm I4
        have nbR : b ≠ R := nbR0
        have B5 := x5'.keep _ _ B4 (by simp [nbR])
        have wp5 : WaysP (upd H4 R (.lst (rs.map V.ref ++ [.ref r]))) (rs ++ [r]) (ts ++ [L]) := WaysP.snoc I5 (wp.mono fun r' hm o h => keepU (rne r' hm) (x4'.keep _ _ h (by simp)))
        have ex5 := (ex.trans x4').over1 x5' hR0
        generalize upd H4 R (.lst (rs.map V.ref ++ [.ref r])) = H5 at x5' R5 I5 B5 wp5 ex5 ⊢
        refine ⟨_, rfl, _, rfl, b, r, us, L, rfl, B5, I5, lus, fun c H6 hc I6 x6 => ?_⟩
        dsimp only [gName]
        refine ⟨c, _, _, _, rs ++ [r], ts ++ [L], rfl, I6, (neN hc R5).symm, List.Pairwise.filter _ nd, fun k hk => sub k (List.mem_filter.mp hk).1, (show m - i - 1 = m - (i + 1) by (clear hm hi tl e1 e2 lus rl; omega)) ▸ en', x6.keep _ _ R5 (by simp), wp5.mono fun _ _ _ h => x6.keep _ _ h (by simp), fun r' hm => ?_, by rw [List.length_append, tl]; rfl, fun t hm => ?_, ?_, fun k hk => ?_, ex5.trans x6⟩
        · rcases List.mem_append.mp hm with z | z
          · exact rne r' z
          · rw [List.mem_singleton.mp z]; exact nrR.symm
        · rcases List.mem_append.mp hm with z | z
          · exact ta t z
          · rw [List.mem_singleton.mp z]; exact ⟨tr, pw, fun k hk => sub k (Ls k hk)⟩
        · rw [List.flatten_append, List.nodup_append]
          refine ⟨tn, by simpa using rise_nodup pw, fun k hk j hj e => ?_⟩
          subst e
          exact td k hk (Ls k (by simpa using hj))
        · rw [List.mem_filter]
          rintro ⟨m1, m2⟩
          rw [List.flatten_append] at hk
          rcases List.mem_append.mp hk with z | z
          · exact td k z m1
          · have : k ∈ L := by simpa using z
            simp [this] at m2
      · rintro σ' H' ⟨b, us, x4, x5, rs, ts, rfl, hB, nbR0, nd, sub, en, hRi, wp, rne, tl, ta, tn, td, ex⟩
        exact hZ _ _ ⟨_, _, _, rs, ts, rfl, hRi, wp, tl, ta, tn, ex⟩
    rintro σ' H' ⟨x2', x4, x5, rs, ts, rfl, hR', wp, tl, ta, tn, ex⟩
    exact ⟨_, rfl, q R H' ts hR0 ⟨rs, hR', wp⟩ tl ta tn ex⟩
end
end Sp
namespace Sp
open PySem L2 Sw PyProof.Rows
section
variable {P : Program} {w : World} {K : PySem.W.Frag} {mg : Str → Option Value} {base : Heap}
noncomputable def sp_apart (C : Addr) : Sp := fun vs H Q _ => ∃ (p l : Addr) (n : Nat) (ps : List Pt) (m : Nat), vs = [.ref p, .int (m : Nat)] ∧ NetAt C H p l n ps ∧ NetOk n ps ∧ m ≤ 100 ∧
  (∀ t R H' ts, H' t = some (.tup [.str "trees", .ref R]) → WaysAt H' R ts → ts.length = m → (∀ t ∈ ts, TreeP n ps t ∧ t.Pairwise (· < ·) ∧ ∀ k ∈ t, k ∈ opens ps) → ts.flatten.Nodup → Ext [] H H' → Q (.ref t) H') ∧
    ∀ t b H' ss v c, H' t = some (.tup [.str "narrow", .ref b]) → IntsAt H' b ss → Bnd n ps v c ss → (c : Int) < (m : Int) → Ext [] H H' → Q (.ref t) H'
theorem ok_tapart (T : TX K mg) : FnOk P w K mg base (CX1 P w) 8 T.toTXd.f_apart T.toTXd.fd_apart ["net", "many"] (sp_apart T.toTXd.a_Net) := by
  have G_Net_size : FnOk P w K mg base (CX1 P w) 1 T.toTXd.f_Net_size T.toTXd.fd_Net_size ["self"] (sp_size T.toTXd.a_Net) := ok_size T
  have G_ways : FnOk P w K mg base (CX1 P w) 4 T.toTXd.f_ways T.toTXd.fd_ways ["net", "place", "many"] (sp_wways T.toTXd.a_Net) := ok_wways T
  have G_trees_apart : FnOk P w K mg base (CX1 P w) 7 T.toTXd.f_trees_apart T.toTXd.fd_trees_apart ["net", "many"] (sp_treesa T.toTXd.a_Net) := ok_treesa T
  refine T.toTXp.F_apart.ok1 sc_apart (fun vs H Q E h => ?_) (fun cdv A outer s H vs Q E hr h => ?_)
  · obtain ⟨p, l, n, ps, m, rfl, _⟩ := h
    rfl
  · obtain ⟨p, l, n, ps, m, rfl, N, ok, hm, q⟩ := h
    refine ⟨_, (pss_cons (ps_for PassesOwn.never rfl (pi_range2 rfl T.toTXp.no_range (pa_cons pe_int (pa_cons (pe_meth0 (pv 0) T.toTXp.cl_Net T.toTXp.m_Net_size G_Net_size (hr.mono (by decide)) T.toTXp.b_Net_size .nil passN) pa_nil))) (pg_name (i := 2) sc_apart.nd rfl (Or.inl rfl))
      (pss_cons (ps_set (i := 3) sc_apart.nd rfl (Or.inl rfl) (pe_call G_ways (hr.mono (by decide)) rfl T.toTXp.mg_ways T.toTXp.F_ways.kp T.toTXp.b_ways .nil passN (pa_cons (pv 0) (pa_cons (pv 2) (pa_cons (pv 1) pa_nil)))))
      (pss_one (ps_if (pt_cmpR op_eq (pe_ix (ixT K) (pv 3) pe_int (fun _ _ => rfl)) pe_str (nomark _)) (pss_one (ps_ret (pv 3))) pss_nil))))
      (pss_one (ps_ret (pe_tup (pa_cons pe_str (pa_cons (pe_call G_trees_apart (hr.mono (by decide)) rfl T.toTXp.mg_trees_apart T.toTXp.F_trees_apart.kp T.toTXp.b_trees_apart .nil passN (pa_cons (pv 0) (pa_cons (pv 1) pa_nil))) pa_nil)))))), ?_⟩
    obtain ⟨⟨dx, hp⟩, _⟩ := id N
    have okh := ok.hi
    have oklo := ok.lo
    refine seq_mid (t := tFor _ _ _) (fun σ' H' => ∃ (x2 x3 : Option V), σ' = [some (.ref p), some (.int m), x2, x3] ∧ Enough n ps (opens ps) m ∧ Ext [] H H') (fun Z hZ => ?_) ?_
    · refine ⟨_, rfl, p, dx, _, rfl, hp, flds_no _ _ (by decide +kernel) (by decide +kernel), p, l, dx, n, rfl, hp, _, _, rfl, ⟨by (clear hm q okh oklo; omega), by (clear hm q okh oklo; omega), by (clear hm q okh oklo; omega), by (clear hm q oklo; omega)⟩, ?_⟩
      refine for_range (n := ((n : Int) - 1).toNat) (fun i σ' H' => ∃ (x2 x3 : Option V), σ' = [some (.ref p), some (.int m), x2, x3] ∧ (∀ v : Int, 1 ≤ v → v < 1 + (i : Int) → ∃ c U, m ≤ c ∧ Flow ps (opens ps) v c U) ∧ Ext [] H H') ⟨none, none, rfl, fun v h1 h2 => by (clear hm q okh oklo; omega), Ext.refl⟩ ?_ ?_
      · rintro i σ' H' hi ⟨x2, x3, rfl, fl, ex⟩
        refine ⟨_, rfl, _, rfl, _, rfl, p, l, n, ps, 1 + (i : Int), (m : Int), rfl, N.ext ex (by simp) (by simp), ok, by (clear hm q okh oklo hi; omega), by (clear hm q okh oklo hi; omega), by (clear hm q okh oklo; omega), ⟨fun t R H2 ws ht W2 wa wn h1 h2 x2' => ?_, fun t b H2 ss k ht I2 B hk x2' => ?_⟩⟩
        · refine ⟨_, rfl, t, _, 0, _, rfl, rfl, SqT.of ht, rfl, rfl, _, rfl, ?_⟩
          refine ifF (fun z => absurd (V.str.inj z) (by decide +kernel)) ⟨_, _, rfl, fun v h3 h4 => ?_, ex.trans x2'⟩
          by_cases z : v = 1 + (i : Int)
          · subst z
            exact ⟨ws.length, _, by (clear hm q okh oklo hi h1 h3 h4; omega), Flow.rows wa wn⟩
          · exact fl v h3 (by (clear hm q okh oklo hi h1 h2 h3; omega))
        · refine ⟨_, rfl, t, _, 0, _, rfl, rfl, SqT.of ht, rfl, rfl, _, rfl, ?_⟩
          refine ifT rfl ⟨_, rfl, ?_⟩
          exact q.2 t b H2 ss _ k ht I2 B hk (ex.trans x2')
      · rintro σ' H' ⟨x2, x3, rfl, fl, ex⟩
        exact hZ _ _ ⟨_, _, rfl, enough_of ok.ok (opens_all ps) fun v h1 h2 => fl v h1 (by (clear hm q okh oklo h1; omega)), ex⟩
    rintro σ' H1 ⟨x2, x3, rfl, en, ex⟩
    refine ⟨_, rfl, _, rfl, p, l, n, ps, m, rfl, N.ext ex (by simp) (by simp), ok, en, hm, fun R H2 ts hR W2 tl ta tn x2' => ⟨by show 2 ≤ sizeLine; decide, fun t ht => ?_⟩⟩
    have x5 : Ext [] H2 (upd H2 t (.tup [.str "trees", .ref R])) := Ext.new ht
    exact q.1 t R _ ts upd_same (W2.ext x5) tl ta tn ((ex.trans x2').trans x5)
end
end Sp

set_option Elab.async false
set_option linter.all false
set_option maxRecDepth 100000
namespace Sp
open PySem L2 Sw PyProof.Rows
section
variable {P : Program} {w : World} {K : PySem.W.Frag} {mg : Str → Option Value} {base : Heap}
noncomputable def WdAt (n : Nat) (ps : List Pt) (H : Hp) (v : Int) (t : Addr) : Prop := ∃ (c : Nat) (R b : Addr) (ss : List Int) (U : List Nat), H t = some (.tup [.int (c : Nat), .ref R, .ref b]) ∧ IntsAt H b ss ∧ Bnd n ps v c ss ∧ Flow ps (opens ps) v c U
theorem WdAt.ext {n : Nat} {ps : List Pt} {H H' : Hp} {v : Int} {t : Addr} {S : List Addr} (h : WdAt n ps H v t) (ns : ∀ {b : Addr} {ss : List Int}, IntsAt H b ss → b ∉ S) (x : Ext S H H') : WdAt n ps H' v t := by
  obtain ⟨c, R, b, ss, U, h1, h2, r⟩ := h
  exact ⟨c, R, b, ss, U, x.tups _ _ h1, x.keep _ _ h2 (ns h2), r⟩
theorem WdAt.push {n : Nat} {ps : List Pt} {H H' : Hp} {v : Int} {t D : Addr} {ts : List Addr} (h : WdAt n ps H v t) (hD : H D = some (.lst (ts.map V.ref))) (x : Ext [D] H H') : WdAt n ps H' v t := by
  obtain ⟨c, R, b, ss, U, h1, h2, B, r⟩ := h
  refine ⟨c, R, b, ss, U, x.tups _ _ h1, x.keep _ _ h2 fun z => ?_, B, r⟩
  have h2 : H b = some (.lst (ss.map V.int)) := h2
  rw [List.mem_singleton.mp z, hD] at h2
  have e : ts.map V.ref = ss.map V.int := HO.lst.inj (Option.some.inj h2)
  have m : V.int v ∈ ts.map V.ref := by rw [e]; exact List.mem_map_of_mem B.at_
  obtain ⟨_, _, y⟩ := List.mem_map.mp m
  cases y
noncomputable def headI (H : Hp) (t : Addr) : Int := match H t with
  | some (.tup (.int k :: _)) => k
  | _ => 0
noncomputable def keyI (H : Hp) (ts : List Addr) (i : Nat) : Int := match ts[i]? with
  | some t => headI H t
  | none => 0
theorem bnd_len {n : Nat} {ps : List Pt} {v : Int} {c : Nat} {ss : List Int} (B : Bnd n ps v c ss) : c ≤ ps.length := by
  rw [← B.len, ← inn_into]
  refine Nat.le_trans (inn_le _ _ _) ?_
  unfold opens
  exact Nat.le_trans (List.length_filter_le _ _) (by rw [List.length_range]; exact Nat.le_refl _)
noncomputable def sp_most (C tP : Addr) : Sp := fun vs H Q _ => ∃ (p l : Addr) (n : Nat) (ps : List Pt), vs = [.ref p] ∧ NetAt C H p l n ps ∧ NetOk n ps ∧ 2 ≤ n ∧ H tP = some (.tbl #[]) ∧
  ∀ t R b H' (m : Nat) ts ss v, H' t = some (.tup [.int (m : Nat), .ref R, .ref b]) → WaysAt H' R ts → ts.length = m → (∀ t ∈ ts, TreeP n ps t ∧ t.Pairwise (· < ·) ∧ ∀ k ∈ t, k ∈ opens ps) → ts.flatten.Nodup → IntsAt H' b ss → Bnd n ps v m ss → Enough n ps (opens ps) m → Ext [tP] H H' → Q (.ref t) H'
set_option maxHeartbeats 0 in
theorem ok_most (T : TX K mg) (hB : BltAt mg base) : FnOk P w K mg base (CX1 P w) 8 T.toTXd.f_most_apart T.toTXd.fd_most_apart ["net"] (sp_most T.toTXd.a_Net T.toTXd.tb_P) := by
  have G_widest : FnOk P w K mg base (CX1 P w) 4 T.toTXd.f_widest T.toTXd.fd_widest ["net", "place"] (sp_widest T.toTXd.a_Net) := ok_widest T
  have G_trees_apart : FnOk P w K mg base (CX1 P w) 7 T.toTXd.f_trees_apart T.toTXd.fd_trees_apart ["net", "many"] (sp_treesa T.toTXd.a_Net) := ok_treesa T
  have G_Net_size : FnOk P w K mg base (CX1 P w) 1 T.toTXd.f_Net_size T.toTXd.fd_Net_size ["self"] (sp_size T.toTXd.a_Net) := ok_size T
  refine ok1c T.toTXp.F_most_apart sc_most_apart (fun vs H Q E h => ?_) (fun cdv A outer s H vs Q E hcd hr h => ?_)
  · obtain ⟨p, l, n, ps, rfl, _⟩ := h
    rfl
  · obtain ⟨p, l, n, ps, rfl, N, ok, n2, hT, q⟩ := h
    obtain rfl : cdv = .ref T.toTXd.tb_c := hcd.symm.trans T.toTXp.cd_lam
    refine ⟨_, (pss_cons (ps_setc (i := 1) (locs := ["place"]) (caps := [0]) rfl ⟨by rfl, by decide +kernel, rfl, by decide +kernel, by exact ⟨rfl, trivial⟩, by rfl, by rfl⟩ (pi_range2 rfl T.toTXp.no_range (pa_cons pe_int (pa_cons (pe_meth0 (pv 0) T.toTXp.cl_Net T.toTXp.m_Net_size G_Net_size (hr.mono (by decide)) T.toTXp.b_Net_size .nil passN) pa_nil))) (fun fp s3 H3 => (pg_name (i := 0) (show (["place", "net"] : List Str).Nodup by decide +kernel) rfl (Or.inl rfl))) (fun fp s3 H3 => pts_nil)
          (fun fp s3 H3 => (pe_call G_widest (hr.mono (by decide)) rfl T.toTXp.mg_widest T.toTXp.F_widest.kp T.toTXp.b_widest .nil passN (pa_cons (pv 1) (pa_cons (pv 0) pa_nil)))) sc_most_apart.nd rfl (Or.inl rfl))
      (pss_cons (ps_set (i := 2) sc_most_apart.nd rfl (Or.inl rfl) (minkeyK K rfl hr rfl T.toTXp.no_min hB rfl T.toTXp.hd_lam rfl ⟨fun _ _ _ _ => rfl, rfl, by decide +kernel, rfl, rfl, rfl, by decide +kernel⟩ rfl (pv 1) (pe_tup (pa_cons pe_int (pa_cons (pe_lst pa_nil) (pa_cons (pe_lst pa_nil) pa_nil))))))
      (pss_one (ps_ret (pe_tup (pa_cons (pe_ix (ixT K) (pv 2) pe_int (fun _ _ => rfl)) (pa_cons (pe_call G_trees_apart (hr.mono (by decide)) rfl T.toTXp.mg_trees_apart T.toTXp.F_trees_apart.kp T.toTXp.b_trees_apart .nil passN (pa_cons (pv 0) (pa_cons (pe_ix (ixT K) (pv 2) pe_int (fun _ _ => rfl)) pa_nil))) (pa_cons (pe_ix (ixT K) (pv 2) pe_int (fun _ _ => rfl)) pa_nil)))))))), ?_⟩
    obtain ⟨⟨dx, hp⟩, _⟩ := id N
    have okh := ok.hi
    refine ⟨_, rfl, p, dx, _, rfl, hp, flds_no _ _ (by decide +kernel) (by decide +kernel), p, l, dx, n, rfl, hp, _, _, rfl, ⟨by (clear n2 okh; omega), by (clear n2 okh; omega), by (clear n2 okh; omega), by (clear n2; omega)⟩, fun D hD => ?_⟩
    refine cl_range (n := ((n : Int) - 1).toNat) (fun i σ' H' => ∃ (x : Option V) (ts : List Addr), σ' = [x, some (.ref p)] ∧ H' D = some (.lst (ts.map V.ref)) ∧ ts.length = i ∧ (∀ (j : Nat) (t : Addr), ts[j]? = some t → WdAt n ps H' (1 + (j : Int)) t) ∧ Ext [] H H') ⟨none, [], rfl, upd_same, rfl, fun j t z => by simp at z, Ext.new hD⟩ ?_ ?_
    · rintro i σ' H' hi ⟨x, ts, rfl, hD', tl, wd, ex⟩
      refine ⟨_, rfl, _, rfl, p, l, n, ps, 1 + (i : Int), rfl, N.ext ex (by simp) (by simp), ok, by (clear n2 okh hi tl; omega), by (clear n2 okh hi tl; omega), by (clear n2 okh tl; omega), fun t R b H2 ws ss ht W2 I2 wa wn B cut x2 => ⟨_, x2.keep _ _ hD' (by simp), small1000 (by rw [List.length_map]; (clear n2; omega)), ?_⟩⟩
      have hD2 := x2.keep _ _ hD' (by simp)
      have x3 : Ext [D] H2 (upd H2 D (.lst (ts.map V.ref ++ [.ref t]))) := Ext.putL hD2 (by simp)
      refine ⟨_, ts ++ [t], rfl, by rw [upd_same, List.map_append]; rfl, by rw [List.length_append, tl]; rfl, fun j u hj => ?_, (ex.trans x2).over1 x3 hD⟩
      by_cases hjl : j < ts.length
      · rw [List.getElem?_append_left hjl] at hj
        exact ((wd j u hj).ext (by simp) x2).push hD2 x3
      · have ej : j = ts.length := by
          have := (List.getElem?_eq_some_iff.mp hj).1
          rw [List.length_append] at this
          simp at this
          (clear n2 okh hi tl; omega)
        subst ej
        rw [List.getElem?_append_right (Nat.le_refl _), Nat.sub_self] at hj
        cases hj
        rw [tl]
        exact WdAt.push (ts := ts) ⟨ws.length, R, b, ss, ws.flatten, ht, I2, B, Flow.rows wa wn⟩ hD2 x3
    · rintro σ' H' ⟨x, ts, rfl, hD', tl, wd, ex⟩
      have tl1 : ts.length + 1 = n := by (clear okh; omega)
      have hT1 := ex.keep _ _ hT (by simp)
      have N1 := N.ext ex (by simp) (by simp)
      clear hT N hp hD tl
      dsimp only [gName]
      refine ⟨_, rfl, hT1, fun more => ?_⟩
      have x2 : Ext [T.toTXd.tb_P] H' (upd H' T.toTXd.tb_P (.tbl (#[] ++ more))) := Ext.put hT1 (by simp) (by intro _ z; cases z) (by intro _ _ z; cases z)
      generalize upd H' T.toTXd.tb_P (.tbl (#[] ++ more)) = H2 at x2 ⊢
      refine ⟨Nat.zero_le _, fun e1 he1 => ⟨Nat.zero_le _, fun e2 he2 => ⟨by show 3 ≤ sizeLine; decide, fun e3 he3 => ?_⟩⟩⟩
      have x3 := ((x2.trans (Ext.new (o := .lst []) he1)).trans (Ext.new (o := .lst []) he2)).trans (Ext.new (o := .tup [.int 0, .ref e1, .ref e2]) he3)
      generalize upd (upd (upd H2 e1 (.lst [])) e2 (.lst [])) e3 (.tup [.int 0, .ref e1, .ref e2]) = H3 at x3 ⊢
      clear x2 he1 he2 he3
      have nt : ∀ {b : Addr} {u : HO}, H' b = some u → (∀ qs, u ≠ .tbl qs) → b ∉ [T.toTXd.tb_P] := fun {b u} e nq z => by
        rw [List.mem_singleton.mp z, hT1] at e
        cases e
        exact nq _ rfl
      have hD3 := x3.keep _ _ hD' (nt hD' (by intro _ z; cases z))
      have wd3 : ∀ (j : Nat) (t : Addr), ts[j]? = some t → WdAt n ps H3 (1 + (j : Int)) t := fun j t hj => (wd j t hj).ext (fun {b ss} hb => nt (u := .lst (ss.map V.int)) hb (by intro _ z; cases z)) x3
      have N3 := N1.ext x3 (by obtain ⟨⟨d, z⟩, _⟩ := id N1; exact nt z (by intro _ y; cases y)) (by obtain ⟨_, _, z, _⟩ := id N1; exact nt z (by intro _ y; cases y))
      have y3 : Ext [T.toTXd.tb_P] H H3 := (ex.mono (by simp)).trans x3
      clear x3 ex wd hD' hT1 N1 nt
      have kfOk : ∀ (j : Nat) (t : Addr), ts[j]? = some t → ∀ {c : Nat} {R b : Addr}, H3 t = some (.tup [.int (c : Nat), .ref R, .ref b]) → keyI H3 ts j = c := fun j t hj {c R b} ht => by
        unfold keyI
        rw [hj]
        show headI H3 t = c
        unfold headI
        rw [ht]
      refine ⟨D, ts, keyI H3 ts, rfl, SqL.of hD3, fun j t hj => ?_, by (clear okh; omega), fun i t hi best => ?_⟩
      · obtain ⟨c, R, b, ss, U, ht, _⟩ := wd3 j t hj
        exact ⟨_, by rw [kfOk j t hj ht]; exact ht⟩
      obtain ⟨c, R, b, ss, U, ht, Ib, B, F⟩ := wd3 i t hi
      have ki := kfOk i t hi ht
      have en : Enough n ps (opens ps) c := enough_of ok.ok (opens_all ps) fun v h1 h2 => by
        have hj : (v - 1).toNat < ts.length := by (clear ki h1 okh; omega)
        obtain ⟨c2, R2, b2, ss2, U2, ht2, _, _, F2⟩ := wd3 (v - 1).toNat ts[(v - 1).toNat] (List.getElem?_eq_getElem hj)
        have kj := kfOk _ _ (List.getElem?_eq_getElem hj) ht2
        have := (best (v - 1).toNat hj).1
        rw [ki, kj] at this
        rw [show 1 + (((v - 1).toNat : Nat) : Int) = v by (clear n2 okh tl1 ki h2 kj this; omega)] at F2
        exact ⟨c2, U2, by (clear n2 okh tl1 ki h1 h2 kj; omega), F2⟩
      have c60 := bnd_len B
      have okl := ok.len
      dsimp only [gName]
      refine ⟨_, rfl, t, _, 0, _, rfl, rfl, SqT.of ht, rfl, _, rfl, _, rfl, t, _, 0, _, rfl, rfl, SqT.of ht, rfl, p, l, n, ps, c, rfl, N3, ok, en, by (clear n2 okh tl1 ki; omega), fun R4 H4 tts hR4 W4 tl4 ta tn x4 => ⟨_, rfl, t, _, 2, _, rfl, rfl, SqT.of (x4.tups _ _ ht), rfl, by show 3 ≤ sizeLine; decide, fun u hu => ?_⟩⟩
      have x5 : Ext [] H4 (upd H4 u (.tup [.int (c : Nat), .ref R4, .ref b])) := Ext.new hu
      exact q u R4 b _ c tts ss _ upd_same (W4.ext x5) tl4 ta tn ((x4.trans x5).keep _ _ Ib (by simp)) B en ((y3.trans (x4.mono (by simp))).trans (x5.mono (by simp)))
end
end Sp

set_option Elab.async false
set_option linter.all false
set_option maxRecDepth 100000
namespace Sp
open PySem L2 Sw PyProof.Rows
section
variable {P : Program} {w : World} {K : PySem.W.Frag} {mg : Str → Option Value} {base : Heap}
theorem ok_lopen (T : TX K mg) : FnOk P w K mg base (CX1 P w) 1 T.toTXd.f__law_open T.toTXd.fd__law_open ["pipes"] sp_open := by
  refine T.toTXp.F__law_open.ok1 sc__law_open (fun vs H Q E h => ?_) (fun cdv A outer s H vs Q E hr h => ?_)
  · obtain ⟨a, ps, rfl, _⟩ := h
    rfl
  · obtain ⟨a, ps, rfl, P1, hz, q⟩ := h
    refine ⟨_, (pss_one (ps_ret (pe_comp (locs := ["number"]) (caps := [0]) rfl ⟨by rfl, by decide +kernel, rfl, by decide +kernel, by exact ⟨rfl, trivial⟩, by rfl, by rfl⟩ (pi_range1 rfl T.toTXp.no_range (pa_cons (pe_callB (lenK K) (by rfl) T.toTXp.no_len bt_len (pa_cons (pv 0) pa_nil)) pa_nil)) (fun fp s3 H3 => (pg_name (i := 0) (show (["number", "pipes"] : List Str).Nodup by decide +kernel) rfl (Or.inl rfl))) (fun fp s3 H3 => (pts_one (pt_val (pe_ix (ixT K) (pe_ix (ixL K) (pv 1) (pv 0) (fun _ _ => rfl)) pe_int (fun _ _ => rfl)))))
          (fun fp s3 H3 => (pv 0))))), ?_⟩
    obtain ⟨ts, hl, tt⟩ := id P1
    refine ⟨_, rfl, a, _, rfl, .inl (SqL.of hl), _, rfl, by (clear hz; omega), by rw [List.length_map, tt.len]; omega, fun D hD => ?_⟩
    rw [List.length_map, tt.len, Int.toNat_natCast]
    refine cl_range (n := ps.length) (fun i σ' H' => ∃ x, σ' = [x, some (.ref a)] ∧ IntsAt H' D (nI ((List.range i).filter (Sw.op ps))) ∧ Ext [] H H') ⟨none, rfl, upd_same, Ext.new hD⟩ ?_ ?_
    · rintro i σ' H' hi ⟨x, rfl, hD', ex⟩
      rw [Int.zero_add]
      refine ⟨_, rfl, _, rfl, rd_op (P1.ext ex (by simp)) hi ⟨_, rfl, ?_⟩⟩
      refine ite2 (fun c => ?_) (fun c => ?_)
      · refine ⟨_, rfl, _, hD', len_nI (m := i) (Nat.le_trans (List.length_filter_le _ _) (by rw [List.length_range]; (clear hz hi c; omega))) (by omega), _, rfl, ?_, ex.over1 (Ext.putL hD' (by simp)) hD⟩
        show _ = some (HO.lst ((nI ((List.range (i + 1)).filter (Sw.op ps))).map V.int))
        rw [upd_same, filter_range_succ, if_pos c, nI_snoc, List.map_append]; rfl
      · refine ⟨_, rfl, ?_, ex⟩
        rw [filter_range_succ, if_neg c, List.append_nil]
        exact hD'
    · rintro σ' H' ⟨x, rfl, hD', ex⟩
      exact q D H' hD hD' ex
end
end Sp
namespace Sp
open PySem L2 Sw PyProof.Rows
section
variable {P : Program} {w : World} {K : PySem.W.Frag} {mg : Str → Option Value} {base : Heap}
noncomputable def sp_numbers : Sp := fun vs H Q _ => ∃ (a : Addr) (ns : List Int) (m : Int), vs = [.ref a, .int m] ∧ IntsAt H a ns ∧ (∀ x ∈ ns, 0 ≤ x ∧ x < m) ∧ Q (.bl true) H
theorem ok_numbers (T : TX K mg) : FnOk P w K mg base (CX1 P w) 2 T.toTXd.f__law_numbers T.toTXd.fd__law_numbers ["found", "bound"] sp_numbers := by
  have G__law_whole : FnOk P w K mg base (CX1 P w) 1 T.toTXd.f__law_whole T.toTXd.fd__law_whole ["found"] sp_whole := ok_whole T
  refine T.toTXp.F__law_numbers.ok1 sc__law_numbers (fun vs H Q E h => ?_) (fun cdv A outer s H vs Q E hr h => ?_)
  · obtain ⟨a, ns, m, rfl, _⟩ := h
    rfl
  · obtain ⟨a, ns, m, rfl, hA, rg, q⟩ := h
    refine ⟨_, (pss_cons (ps_if (pt_not (pt_val (pe_callB (isi0K K) (by rfl) T.toTXp.no_isinstance bt_isinstance (pa_cons (pv 0) (pa_cons (pe_bltn (v := .ty "list") rfl T.toTXp.no_list bt_list rfl) pa_nil))))) (pss_one (ps_ret pe_bl)) pss_nil)
      (pss_cons (ps_for PassesOwn.never rfl (pi_list (pv 0)) (pg_name (i := 2) sc__law_numbers.nd rfl (Or.inl rfl))
      (pss_one (ps_if (PW.pt (pw_or (pt_not (pt_val (pe_call G__law_whole (hr.mono (by decide)) rfl T.toTXp.mg__law_whole T.toTXp.F__law_whole.kp T.toTXp.b__law_whole .nil passN (pa_cons (pv 2) pa_nil)))) (pw_or (pt_cmp (pc_lt (pv 2) pe_int)) (pw_or1 (pt_cmp (pc_ge (pv 2) (pv 1))))))) (pss_one (ps_ret pe_bl)) pss_nil)))
      (pss_one (ps_ret pe_bl)))), ?_⟩
    refine ⟨_, rfl, _, _, _, _, _, rfl, rfl, .ty (.lst hA), kit_same K _, _, rfl, ?_⟩
    refine iteF ?_
    refine ⟨_, rfl, a, rfl, ⟨_, SqL.of hA⟩, ?_⟩
    refine for_list (K := K) (a := a) (xs := ns.map V.int) (fun i σ' H' => ∃ x, σ' = [some (.ref a), some (.int m), x] ∧ H' = H) ⟨none, rfl, rfl⟩ ?_ ?_ ?_
    · rintro i σ' H' _ ⟨x, rfl, rfl⟩
      exact SqL.of hA
    · rintro i y σ' H' hy ⟨x, rfl, rfl⟩
      obtain ⟨z, hz, rfl⟩ := getD_map_int hy
      have rz := rg z (take_all hz)
      refine ⟨_, rfl, z, rfl, _, rfl, ?_⟩
      refine iteF ⟨_, rfl, _, _, rfl, rfl, _, rfl, ?_⟩
      refine ifF (show ¬ z < 0 by omega) ⟨_, rfl, _, rfl, _, _, rfl, rfl, _, rfl, ?_⟩
      exact ifF (show ¬ m ≤ z by omega) ⟨_, rfl, rfl⟩
    · rintro σ' H' ⟨x, rfl, rfl⟩
      exact q
end
end Sp
namespace Sp
open PySem L2 Sw PyProof.Rows
section
variable {P : Program} {w : World} {K : PySem.W.Frag} {mg : Str → Option Value} {base : Heap}
noncomputable def sp_rising : Sp := fun vs H Q _ => ∃ (a : Addr) (ns : List Int) (m : Int), vs = [.ref a, .int m] ∧ IntsAt H a ns ∧ (∀ x ∈ ns, 0 ≤ x ∧ x < m) ∧ ns.length < 64 ∧ ns.Pairwise (· ≤ ·) ∧ ns.Nodup ∧ ∀ H', Ext [] H H' → Q (.bl true) H'
theorem ok_rising (T : TX K mg) : FnOk P w K mg base (CX1 P w) 3 T.toTXd.f__law_rising T.toTXd.fd__law_rising ["found", "bound"] sp_rising := by
  have G__law_numbers : FnOk P w K mg base (CX1 P w) 2 T.toTXd.f__law_numbers T.toTXd.fd__law_numbers ["found", "bound"] sp_numbers := ok_numbers T
  refine T.toTXp.F__law_rising.ok1 sc__law_rising (fun vs H Q E h => ?_) (fun cdv A outer s H vs Q E hr h => ?_)
  · obtain ⟨a, ns, m, rfl, _⟩ := h
    rfl
  · obtain ⟨a, ns, m, rfl, hA, rg, hz, pw, nd, q⟩ := h
    refine ⟨_, (pss_cons (ps_if (pt_not (pt_val (pe_call G__law_numbers (hr.mono (by decide)) rfl T.toTXp.mg__law_numbers T.toTXp.F__law_numbers.kp T.toTXp.b__law_numbers .nil passN (pa_cons (pv 0) (pa_cons (pv 1) pa_nil))))) (pss_one (ps_ret pe_bl)) pss_nil)
      (pss_one (ps_ret (pe_and (pe_cmpR (eqLK K hr.units0) (pv 0) (pe_callB (sortedK K) (by rfl) T.toTXp.no_sorted bt_sorted (pa_cons (pv 0) pa_nil)) (nomark _)) (pe_one (pe_cmp (pc_eqI (pe_callB call_lenS (by rfl) T.toTXp.no_len bt_len (pa_cons (pe_callTy (setLK K rfl) (by rfl) T.toTXp.no_set bt_set (pa_cons (pv 0) pa_nil)) pa_nil)) (pe_callB (lenK K) (by rfl) T.toTXp.no_len bt_len (pa_cons (pv 0) pa_nil))))))))), ?_⟩
    refine ⟨_, rfl, _, rfl, a, ns, m, rfl, hA, rg, _, rfl, ?_⟩
    refine iteF ?_
    refine ⟨_, rfl, _, rfl, a, ns, rfl, SqL.of hA, hz, fun r ns' hr pm pw' => ?_⟩
    have e : ns' = ns := PySem.W.ksm_same pm pw' pw
    subst e
    refine rd_eqL (SqL.of (keepN hr hA)) (SqL.of upd_same) ⟨_, rfl, ?_⟩
    refine ifT rfl ?_
    refine ⟨_, rfl, a, ns', rfl, SqL.of (keepN hr hA), by omega, fun s0 S hs0 => ⟨s0, S, _, rfl, upd_same, _, rfl, a, _, rfl, .inl (SqL.of (keepN hs0 (keepN hr hA))), _, _, rfl, rfl, ?_⟩⟩
    show Q (V.bl (decide ((manyOf ns' : Int) = ((ns'.map V.int).length : Int)))) _
    rw [decide_eq_true (show (manyOf ns' : Int) = ((ns'.map V.int).length : Int) by rw [manyOf_nodup nd, List.length_map])]
    exact q _ ((Ext.new hr).trans (Ext.new hs0))
end
end Sp
namespace Sp
open PySem L2 Sw PyProof.Rows
section
variable {P : Program} {w : World} {K : PySem.W.Frag} {mg : Str → Option Value} {base : Heap}
noncomputable def sp_wet : Sp := fun vs H Q _ => ∃ (n : Nat) (b : Addr) (E : List (Int × Int)), vs = [.int n, .ref b] ∧ PairsAt H b E ∧ (∀ e ∈ E, 0 ≤ e.2 ∧ e.2 < (n : Int)) ∧ 1 ≤ n ∧ n ≤ 12 ∧ ∀ r H', H r = none → IntsAt H' r (reachL n E) → Ext [] H H' → Q (.ref r) H'
theorem ok_wet (T : TX K mg) : FnOk P w K mg base (CX1 P w) 1 T.toTXd.f__law_wet T.toTXd.fd__law_wet ["size", "pairs"] sp_wet := by
  refine T.toTXp.F__law_wet.ok1 sc__law_wet (fun vs H Q E h => ?_) (fun cdv A outer s H vs Q E hr h => ?_)
  · obtain ⟨n, b, E, rfl, _⟩ := h
    rfl
  · obtain ⟨n, b, E, rfl, Pe, rg, lo, hi, q⟩ := h
    refine ⟨_, (pss_cons (ps_set (i := 2) sc__law_wet.nd rfl (Or.inl rfl) (pe_lst (pa_cons pe_int pa_nil)))
      (pss_cons (ps_for PassesOwn.never rfl (pi_range1 rfl T.toTXp.no_range (pa_cons (pv 0) pa_nil)) (pg_name (i := 3) sc__law_wet.nd rfl (Or.inl rfl))
      (pss_one (ps_for PassesOwn.never rfl (pi_list (pv 1)) (tupK K (n := 2) rfl (pgs_cons (pg_name (i := 4) sc__law_wet.nd rfl (Or.inl rfl)) (pgs_cons (pg_name (i := 5) sc__law_wet.nd rfl (Or.inl rfl)) pgs_nil)))
      (pss_one (ps_if (PW.pt (pw_and (pt_cmpR (inK K) (pv 4) (pv 2) (by with_unfolding_all rfl)) (pw_and1 (pt_cmpR (notinK K) (pv 5) (pv 2) (by with_unfolding_all rfl))))) (pss_one (ps_expr (pe_bm PySem.F.plainAttrs_list PySem.F.slot_list_append PySem.F.type_list_append mt_append (pv 2) (pa_cons (pv 5) pa_nil)))) pss_nil)))))
      (pss_one (ps_ret (pe_callB (sortedK K) (by rfl) T.toTXp.no_sorted bt_sorted (pa_cons (pv 2) pa_nil)))))), ?_⟩
    refine ⟨by show 1 ≤ sizeLine; decide, fun h0 hh0 => ?_⟩
    dsimp only [gName]
    have x1 : Ext [] H (upd H h0 (.lst [.int 0])) := Ext.new hh0
    have i1 : IntsAt (upd H h0 (.lst [.int 0])) h0 [0] := upd_same
    have P1 := Pe.ext x1 (by simp)
    generalize upd H h0 (.lst [.int 0]) = H1 at x1 i1 P1 ⊢
    refine seq_mid (t := tFor _ _ _) (fun σ' H' => ∃ (x3 x4 x5 : Option V), σ' = [some (.int n), some (.ref b), some (.ref h0), x3, x4, x5] ∧ IntsAt H' h0 (wetN E n) ∧ Ext [] H H') (fun R hR => ?_) ?_
    · refine ⟨_, rfl, _, rfl, by (clear lo hi; omega), by (clear lo; omega), ?_⟩
      rw [Int.toNat_natCast]
      refine for_range (n := n) (fun i σ' H' => ∃ (x3 x4 x5 : Option V), σ' = [some (.int n), some (.ref b), some (.ref h0), x3, x4, x5] ∧ IntsAt H' h0 (wetN E i) ∧ Ext [] H H') ⟨none, none, none, rfl, i1, x1⟩ ?_ ?_
      · rintro i σ' H' hi ⟨x3, x4, x5, rfl, hh, ex⟩
        obtain ⟨ts, hl, tt⟩ := Pe.ext ex (by simp)
        refine ⟨_, rfl, b, rfl, ⟨_, SqL.of hl⟩, ?_⟩
        have tl : ts.length = E.length := Paired.length tt
        refine for_list (K := K) (a := b) (xs := ts.map V.ref) (fun j σ' H' => ∃ (x3 x4 x5 : Option V), σ' = [some (.int n), some (.ref b), some (.ref h0), x3, x4, x5] ∧ IntsAt H' h0 (wetTurn (E.take j) (wetN E i)) ∧ Ext [] H H' ∧ H' b = some (.lst (ts.map V.ref)) ∧ Paired (fun (t : Addr) (e : Int × Int) => H' t = some (.tup [.int e.1, .int e.2])) ts E) ⟨_, _, _, rfl, hh, ex, hl, tt⟩ ?_ ?_ ?_
        · rintro j σ' H' _ ⟨_, _, _, _, _, _, hl', _⟩
          exact SqL.of hl'
        · rintro j y σ' H' hy ⟨x3, x4, x5, rfl, hh', ex', hl', tt'⟩
          rw [List.getElem?_map] at hy
          cases et : ts[j]? with
          | none => rw [et] at hy; cases hy
          | some t =>
            rw [et] at hy
            cases hy
            obtain ⟨e, he, ht⟩ := pairs_get tt' et
            have tk : wetTurn (E.take (j + 1)) (wetN E i) = wetStep (wetTurn (E.take j) (wetN E i)) e := by
              unfold wetTurn
              rw [List.take_add_one, he, List.foldl_append]
              rfl
            have hlen : (wetTurn (E.take j) (wetN E i)).length ≤ n := nodup_bound n _ (wetTurn_nodup _ (wetN_nodup E i)) fun x hx => reach_range lo rg (wetTurn_sound (E.take j) (fun e he => List.mem_of_mem_take he) (wetN_sound E i) x hx)
            refine ⟨t, _, rfl, SqT.of ht, rfl, _, _, rfl, _, _, rfl, rfl, ?_⟩
            refine ifS_dec (e.1 ∈ wetTurn (E.take j) (wetN E i) ∧ e.2 ∉ wetTurn (E.take j) (wetN E i)) (fun R hR => ?_) (fun c => ?_) (fun c => ?_)
            · refine ⟨_, rfl, _, rfl, rd_in (SqL.of hh') ⟨_, rfl, ?_⟩⟩
              refine ite2 (fun c1 => ?_) (fun c1 => ?_)
              · have c1 := of_decide_eq_true c1
                refine ⟨_, rfl, _, rfl, rd_notin (SqL.of hh') ⟨_, rfl, ?_⟩⟩
                have : (!decide (e.2 ∈ wetTurn (E.take j) (wetN E i))) = decide (e.1 ∈ wetTurn (E.take j) (wetN E i) ∧ e.2 ∉ wetTurn (E.take j) (wetN E i)) := by simp [c1]
                rw [this]
                exact hR
              · rw [decide_eq_false (fun z => c1 (decide_eq_true z.1))] at hR
                exact hR
            · have nbh : b ≠ h0 := fun z => by
                subst z
                have z := hl'.symm.trans hh'
                have z := HO.lst.inj (Option.some.inj z)
                have z2 := congrArg List.head? z
                have : 0 ∈ wetTurn (E.take j) (wetN E i) := wetTurn_sub _ _ (wetN_zero E i)
                cases ts with
                | nil => simp at et
                | cons t0 tr =>
                  cases hw : wetTurn (E.take j) (wetN E i) with
                  | nil => rw [hw] at this; simp at this
                  | cons v vs => rw [hw] at z2; simp at z2
              refine ⟨_, rfl, .inl ⟨rfl, _, SqL.of hh'⟩, _, rfl, h0, _, _, rfl, rfl, hh', small1000 (by rw [List.length_map]; (clear hi tl c lo; omega)), ?_⟩
              have x2 : Ext [h0] H' (upd H' h0 (.lst ((wetTurn (E.take j) (wetN E i)).map V.int ++ [.int e.2]))) := Ext.putL hh' (by simp)
              refine ⟨_, _, _, rfl, ?_, ex'.over1 x2 hh0, keepU nbh hl', pairs_mono x2.tups tt'⟩
              rw [tk]
              show _ = some (HO.lst ((wetStep _ e).map V.int))
              unfold wetStep
              rw [if_pos c, upd_same, List.map_append]; rfl
            · refine ⟨_, _, _, rfl, ?_, ex', hl', tt'⟩
              rw [tk]
              unfold wetStep
              rw [if_neg c]
              exact hh'
        · rintro σ' H' ⟨x3, x4, x5, rfl, hh', ex', hl', tt'⟩
          rw [List.length_map, tl, List.take_length] at hh'
          exact ⟨_, _, _, rfl, hh', ex'⟩
      · rintro σ' H' ⟨x3, x4, x5, rfl, hh', ex'⟩
        exact hR _ _ ⟨_, _, _, rfl, hh', ex'⟩
    rintro σ' H' ⟨x3, x4, x5, rfl, hh, ex⟩
    have hlen : (wetN E n).length ≤ n := nodup_bound n _ (wetN_nodup E n) fun x hx => reach_range lo rg (wetN_sound E n x hx)
    refine ⟨_, rfl, h0, _, rfl, SqL.of hh, by (clear lo; omega), fun r ns' hr pm pw => ?_⟩
    have e : ns' = reachL n E := reach_is lo rg pw (pm.symm.nodup (wetN_nodup E n)) fun v => by rw [pm.mem_iff]; exact wet_mem lo rg v
    rw [e]
    exact q r _ (ex.free hr (by simp)) upd_same (ex.trans (Ext.new hr))
end
end Sp
namespace Sp
open PySem L2 Sw PyProof.Rows
section
variable {P : Program} {w : World} {K : PySem.W.Frag} {mg : Str → Option Value} {base : Heap}
noncomputable def sp_ltree : Sp := fun vs H Q _ => ∃ (r c : Addr) (n : Nat) (ps : List Pt) (L : List Nat), vs = [.ref r, .int n, .ref c] ∧ IntsAt H r (nI L) ∧ L.Pairwise (· < ·) ∧ (∀ k ∈ L, k < ps.length) ∧ PipesAt H c ps ∧ NetOk n ps ∧ ∀ b H', (b = true ↔ TreeP n ps L) → Ext [] H H' → Q (.bl b) H'
theorem ok_ltree (T : TX K mg) : FnOk P w K mg base (CX1 P w) 4 T.toTXd.f__law_is_tree T.toTXd.fd__law_is_tree ["found", "size", "pipes"] sp_ltree := by
  have G__law_rising : FnOk P w K mg base (CX1 P w) 3 T.toTXd.f__law_rising T.toTXd.fd__law_rising ["found", "bound"] sp_rising := ok_rising T
  have G__law_wet : FnOk P w K mg base (CX1 P w) 1 T.toTXd.f__law_wet T.toTXd.fd__law_wet ["size", "pairs"] sp_wet := ok_wet T
  refine T.toTXp.F__law_is_tree.ok1 sc__law_is_tree (fun vs H Q E h => ?_) (fun cdv A outer s H vs Q E hr h => ?_)
  · obtain ⟨r, c, n, ps, L, rfl, _⟩ := h
    rfl
  · obtain ⟨r, c, n, ps, L, rfl, hr1, pw, rg, P1, ok, q⟩ := h
    refine ⟨_, (pss_cons (ps_if (PW.pt (pw_or (pt_not (pt_val (pe_call G__law_rising (hr.mono (by decide)) rfl T.toTXp.mg__law_rising T.toTXp.F__law_rising.kp T.toTXp.b__law_rising .nil passN (pa_cons (pv 0) (pa_cons (pe_callB (lenK K) (by rfl) T.toTXp.no_len bt_len (pa_cons (pv 2) pa_nil)) pa_nil))))) (pw_or1 (pt_cmp (pc_neI (pe_callB (lenK K) (by rfl) T.toTXp.no_len bt_len (pa_cons (pv 0) pa_nil)) (pe_op op_sub (pv 1) pe_int)))))) (pss_one (ps_ret pe_bl)) pss_nil)
      (pss_cons (ps_for PassesOwn.never rfl (pi_list (pv 0)) (pg_name (i := 3) sc__law_is_tree.nd rfl (Or.inl rfl))
      (pss_one (ps_if (pt_not (pt_val (pe_ix (ixT K) (pe_ix (ixL K) (pv 2) (pv 3) (fun _ _ => rfl)) pe_int (fun _ _ => rfl)))) (pss_one (ps_ret pe_bl)) pss_nil)))
      (pss_cons (ps_if (pt_cmp (pc_neI (pe_callB call_lenS (by rfl) T.toTXp.no_len bt_len (pa_cons (pe_callTy (setLK K rfl) (by rfl) T.toTXp.no_set bt_set (pa_cons (pe_comp (locs := ["number"]) (caps := [2]) rfl ⟨by rfl, by decide +kernel, rfl, by decide +kernel, by exact ⟨rfl, trivial⟩, by rfl, by rfl⟩ (pi_list (pv 0)) (fun fp s3 H3 => (pg_name (i := 0) (show (["number", "pipes"] : List Str).Nodup by decide +kernel) rfl (Or.inl rfl))) (fun fp s3 H3 => pts_nil)
          (fun fp s3 H3 => (pe_ix (ixT K) (pe_ix (ixL K) (pv 1) (pv 0) (fun _ _ => rfl)) pe_int (fun _ _ => rfl)))) pa_nil)) pa_nil)) (pe_op op_sub (pv 1) pe_int))) (pss_one (ps_ret pe_bl)) pss_nil)
      (pss_one (ps_ret (pe_cmp (pc_eqI (pe_callB (lenK K) (by rfl) T.toTXp.no_len bt_len (pa_cons (pe_call G__law_wet (hr.mono (by decide)) rfl T.toTXp.mg__law_wet T.toTXp.F__law_wet.kp T.toTXp.b__law_wet .nil passN (pa_cons (pv 1) (pa_cons (pe_comp (locs := ["number"]) (caps := [2]) rfl ⟨by rfl, by decide +kernel, rfl, by decide +kernel, by exact ⟨rfl, trivial⟩, by rfl, by rfl⟩ (pi_list (pv 0)) (fun fp s3 H3 => (pg_name (i := 0) (show (["number", "pipes"] : List Str).Nodup by decide +kernel) rfl (Or.inl rfl))) (fun fp s3 H3 => pts_nil)
          (fun fp s3 H3 => (pe_tup (pa_cons (pe_ix (ixT K) (pe_ix (ixL K) (pv 1) (pv 0) (fun _ _ => rfl)) pe_int (fun _ _ => rfl)) (pa_cons (pe_ix (ixT K) (pe_ix (ixL K) (pv 1) (pv 0) (fun _ _ => rfl)) pe_int (fun _ _ => rfl)) pa_nil))))) pa_nil))) pa_nil)) (pv 1)))))))), ?_⟩
    obtain ⟨xs, hc, lc⟩ := P1.list
    have lenL : L.length ≤ 60 := Nat.le_trans (nodup_sub_len (m := List.range ps.length) (rise_nodup pw) fun k hk => List.mem_range.mpr (rg k hk)) (by rw [List.length_range]; exact ok.len)
    have okl := ok.len
    have oklo := ok.lo
    have prg := ok.prs rg
    refine ⟨_, rfl, _, rfl, c, _, rfl, .inl (SqL.of hc), r, nI L, (ps.length : Int), by rw [lc]; rfl, hr1, fun x hx => ?_, by rw [nI_len]; (clear lc okl oklo; omega), nI_rise pw, nI_nodup (rise_nodup pw), fun H1 x1 => ⟨_, rfl, ?_⟩⟩
    · obtain ⟨k, hk, rfl⟩ := nI_mem.mp hx
      have := rg k hk
      (clear lc lenL okl oklo; omega)
    have hr2 := x1.keep _ _ hr1 (by simp)
    have P2 := P1.ext x1 (by simp)
    refine iteF ⟨_, rfl, r, _, rfl, .inl (SqL.of hr2), _, rfl, _, _, rfl, rfl, _, _, rfl, rfl, _, rfl, ?_⟩
    by_cases hl : (((nI L).map V.int).length : Int) = (n : Int) - 1
    case neg =>
      refine ifNT hl ?_
      refine q false _ ⟨fun z => (by cases z), fun z => ?_⟩ x1
      refine (hl ?_).elim
      have := z.len oklo
      rw [List.length_map, nI_len]
      (clear lc lenL okl oklo hl; omega)
    refine ifNF hl ?_
    rw [List.length_map, nI_len] at hl
    dsimp only [tNext]
    refine seq_mid (t := tFor _ _ _) (fun σ' H' => ∃ (x3 : Option V), σ' = [some (.ref r), some (.int n), some (.ref c), x3] ∧ (∀ k ∈ L, Sw.op ps k = true) ∧ H' = H1) (fun Z hZ => ?_) ?_
    · refine ⟨_, rfl, r, rfl, ⟨_, SqL.of hr2⟩, ?_⟩
      refine for_list (K := K) (a := r) (xs := (nI L).map V.int) (fun i σ' H' => ∃ (x3 : Option V), σ' = [some (.ref r), some (.int n), some (.ref c), x3] ∧ (∀ k ∈ L.take i, Sw.op ps k = true) ∧ H' = H1) ⟨none, rfl, by simp, rfl⟩ ?_ ?_ ?_
      · rintro i σ' H' _ ⟨_, rfl, _, rfl⟩
        exact SqL.of hr2
      · rintro i y σ' H' hy ⟨x3, rfl, ho, rfl⟩
        obtain ⟨k, hk, rfl⟩ := getD_nI hy
        have hkl := rg k (take_all hk)
        refine ⟨_, rfl, _, rfl, rd_op P2 hkl ⟨_, rfl, ?_⟩⟩
        cases oz : Sw.op ps k with
        | true =>
          refine iteF ⟨_, rfl, fun j hj => ?_, rfl⟩
          rw [List.take_add_one, hk] at hj
          rcases List.mem_append.mp hj with m | m
          · exact ho j m
          · have : j = k := by simpa using m
            rw [this]; exact oz
        | false =>
          refine iteT ?_
          refine q false _ ⟨fun z => (by cases z), fun z => ?_⟩ x1
          have := z.op k (take_all hk)
          rw [oz] at this
          cases this
      · rintro σ' H' ⟨x3, rfl, ho, rfl⟩
        rw [List.length_map, nI_len, List.take_length] at ho
        exact hZ _ _ ⟨x3, rfl, ho, rfl⟩
    rintro σ' H' ⟨x3, rfl, ho, rfl⟩
    have main : ∀ H3 D, H3 D = some (.lst ((L.map (gl ps)).map V.int)) → Ext [] H' H3 → ∀ Z : Bool → Hp → Prop, (∀ b H4, (¬ b = true → TreeP n ps L → False) → Ext [] H' H4 → Z (!b) H4) → ∀ s0 S, H3 s0 = none → Z (!decide ((manyOf (L.map (gl ps)) : Int) = (n : Int) - 1)) (upd H3 s0 (.set S (manyOf (L.map (gl ps))))) := fun H3 D hD x3 Z hZ s0 S hs0 => by
      refine hZ (decide ((manyOf (L.map (gl ps)) : Int) = (n : Int) - 1)) _ (fun z t => z (decide_eq_true ?_)) (x3.trans (Ext.new hs0))
      rw [manyOf_nodup (t.gl.symm.nodup (rngL_nodup 1 n)), List.length_map]
      have := t.len oklo
      (clear lc lenL okl oklo z this; omega)
    have tD : ∀ {R : Hp → Prop} (D : Addr), H' D = none → (∀ H3, IntsAt H3 D (L.map (gl ps)) → Ext [] H' H3 → R H3) → True := fun _ _ _ => trivial
    refine ifS_decH (¬ (manyOf (L.map (gl ps)) : Int) = (n : Int) - 1) (fun H3 => Ext [] H' H3) (fun Z hZ => ?_) (fun cc H3 x3 => ?_) (fun cc H3 x3 => ?_)
    · refine ⟨_, rfl, r, rfl, ⟨_, SqL.of hr2⟩, fun D hD => ?_⟩
      refine cl_list (K := K) (a := r) (xs := (nI L).map V.int) (fun i σ' H3 => ∃ x, σ' = [x, some (.ref c)] ∧ IntsAt H3 D ((L.take i).map (gl ps)) ∧ Ext [] H' H3) ⟨none, rfl, upd_same, Ext.new hD⟩ ?_ ?_ ?_
      · rintro i σ' H3 _ ⟨x, rfl, hD', ex⟩
        exact SqL.of (ex.keep _ _ hr2 (by simp))
      · rintro i y σ' H3 hy ⟨x, rfl, hD', ex⟩
        obtain ⟨k, hk, rfl⟩ := getD_nI hy
        have hkl := rg k (take_all hk)
        refine ⟨_, rfl, _, rfl, rw_gl (P2.ext ex (by simp)).rws hkl ⟨_, hD', small1000 (by rw [List.length_map, List.length_map, List.length_take]; (clear lc okl oklo hkl hl; omega)), _, rfl, ?_, ex.over1 (Ext.putL hD' (by simp)) hD⟩⟩
        show _ = some (HO.lst (_ : List V))
        rw [upd_same, map_take_succ _ _ _ _ hk, List.map_append]; rfl
      rintro σ' H3 ⟨x, rfl, hD', ex⟩
      rw [List.length_map, nI_len, List.take_length] at hD'
      refine ⟨D, L.map (gl ps), rfl, SqL.of hD', by rw [List.length_map]; (clear lc okl oklo hl; omega), fun s0 S hs0 => ⟨s0, S, _, rfl, upd_same, _, rfl, _, _, rfl, rfl, _, _, rfl, rfl, _, rfl, ?_⟩⟩
      have := hZ _ (ex.trans (Ext.new (o := .set S (manyOf (L.map (gl ps)))) hs0))
      rw [decide_not] at this
      exact this
    · refine q false _ ⟨fun z => (by cases z), fun z => ?_⟩ (x1.trans x3)
      refine (cc ?_).elim
      rw [manyOf_nodup (z.gl.symm.nodup (rngL_nodup 1 n)), List.length_map]
      have := z.len oklo
      (clear lc lenL okl oklo cc this; omega)
    clear main tD
    have hr3 := x3.keep _ _ hr2 (by simp)
    have P3 := P2.ext x3 (by simp)
    refine ⟨_, rfl, _, rfl, r, rfl, ⟨_, SqL.of hr3⟩, fun D hD => ?_⟩
    refine cl_list (K := K) (a := r) (xs := (nI L).map V.int) (fun i σ' H4 => ∃ x ts, σ' = [x, some (.ref c)] ∧ H4 D = some (.lst (ts.map V.ref)) ∧ Paired (fun (t : Addr) (e : Int × Int) => H4 t = some (.tup [.int e.1, .int e.2])) ts (prs ps (L.take i)) ∧ Ext [] H3 H4) ⟨none, [], rfl, upd_same, .nil, Ext.new hD⟩ ?_ ?_ ?_
    · rintro i σ' H4 _ ⟨x, ts, rfl, _, tt, ex⟩
      exact SqL.of (ex.keep _ _ hr3 (by simp))
    · rintro i y σ' H4 hy ⟨x, ts, rfl, hD', tt, ex⟩
      obtain ⟨k, hk, rfl⟩ := getD_nI hy
      have hkl := rg k (take_all hk)
      have Pq := (P3.ext ex (by simp)).rws
      have tl : ts.length ≤ 60 := by
        rw [Paired.length tt]
        unfold prs
        rw [List.length_map, List.length_take]
        (clear lc okl oklo hkl hl cc; omega)
      refine ⟨_, rfl, _, rfl, rw_st Pq hkl ⟨_, rfl, _, rfl, rw_gl Pq hkl ⟨by show 2 ≤ sizeLine; decide, fun t ht => ?_⟩⟩⟩
      have nDt : D ≠ t := neN ht hD'
      refine ⟨_, keepN ht hD', small1000 (by rw [List.length_map]; (clear lc lenL okl oklo hl cc hkl; omega)), _, ts ++ [t], rfl, by rw [upd_same, List.map_append]; rfl, ?_, ?_⟩
      · have tk : prs ps (L.take (i + 1)) = prs ps (L.take i) ++ [(st ps k, gl ps k)] := map_take_succ _ _ _ _ hk
        rw [tk]
        refine pairs_snoc ?_ (pairs_mono (fun c xs h => ?_) tt)
        · rw [upd_ne nDt.symm, upd_same]
        · exact keepU (ne_of h hD' (by intro z; cases z)) (keepN ht h)
      · exact (ex.trans (Ext.new ht)).over1 (Ext.putL (keepN ht hD') (by simp)) hD
    rintro σ' H4 ⟨x, ts, rfl, hD', tt, ex⟩
    rw [List.length_map, nI_len, List.take_length] at tt
    refine ⟨n, D, _, rfl, ⟨ts, hD', tt⟩, prg, ok.lo, ok.hi, fun e H5 he I5 x5 => ⟨e, _, rfl, .inl (SqL.of I5), _, rfl, _, _, rfl, rfl, ?_⟩⟩
    show Q (V.bl (decide ((((reachL n (prs ps L)).map V.int).length : Int) = (n : Int)))) _
    refine q _ _ ?_ (((x1.trans x3).trans ex).trans x5)
    rw [decide_eq_true_iff, List.length_map]
    constructor
    · intro z
      exact tree_of (by (clear lc lenL okl oklo cc z; omega)) ho ((reach_all ok.lo prg).mp (by (clear lc lenL okl oklo hl cc; omega)))
    · intro z
      have := (reach_all ok.lo prg).mpr z.all
      (clear lc lenL okl oklo hl cc; omega)
end
end Sp

set_option Elab.async false
set_option linter.all false
set_option maxRecDepth 100000
namespace Sp
open PySem L2 Sw PyProof.Rows
section
variable {P : Program} {w : World} {K : PySem.W.Frag} {mg : Str → Option Value} {base : Heap}
noncomputable def sp_ltrees : Sp := fun vs H Q _ => ∃ (R c : Addr) (n : Nat) (ws : List (List Nat)) (ps : List Pt) (m : Int), vs = [.ref R, .int n, .ref c, .int m] ∧ WaysAt H R ws ∧ PipesAt H c ps ∧ NetOk n ps ∧ (∀ t ∈ ws, TreeP n ps t ∧ t.Pairwise (· < ·) ∧ ∀ k ∈ t, k ∈ opens ps) ∧ ws.flatten.Nodup ∧ (ws.length : Int) = m ∧ ∀ H', Ext [] H H' → Q (.bl true) H'
theorem ok_ltrees (T : TX K mg) : FnOk P w K mg base (CX1 P w) 5 T.toTXd.f__law_trees_apart T.toTXd.fd__law_trees_apart ["found", "size", "pipes", "many"] sp_ltrees := by
  have G__law_is_tree : FnOk P w K mg base (CX1 P w) 4 T.toTXd.f__law_is_tree T.toTXd.fd__law_is_tree ["found", "size", "pipes"] sp_ltree := ok_ltree T
  refine T.toTXp.F__law_trees_apart.ok1 sc__law_trees_apart (fun vs H Q E h => ?_) (fun cdv A outer s H vs Q E hr h => ?_)
  · obtain ⟨R, c, n, ws, ps, m, rfl, _⟩ := h
    rfl
  · obtain ⟨R, c, n, ws, ps, m, rfl, W0, P1, ok, wa, wn, hm, q⟩ := h
    refine ⟨_, (pss_cons (ps_if (PW.pt (pw_or (pt_not (pt_val (pe_callB (isi0K K) (by rfl) T.toTXp.no_isinstance bt_isinstance (pa_cons (pv 0) (pa_cons (pe_bltn (v := .ty "list") rfl T.toTXp.no_list bt_list rfl) pa_nil))))) (pw_or1 (pt_cmp (pc_neI (pe_callB (lenK K) (by rfl) T.toTXp.no_len bt_len (pa_cons (pv 0) pa_nil)) (pv 3)))))) (pss_one (ps_ret pe_bl)) pss_nil)
      (pss_cons (ps_set (i := 4) sc__law_trees_apart.nd rfl (Or.inl rfl) (pe_lst pa_nil))
      (pss_cons (ps_for PassesOwn.never rfl (pi_list (pv 0)) (pg_name (i := 5) sc__law_trees_apart.nd rfl (Or.inl rfl))
      (pss_cons (ps_if (pt_not (pt_val (pe_call G__law_is_tree (hr.mono (by decide)) rfl T.toTXp.mg__law_is_tree T.toTXp.F__law_is_tree.kp T.toTXp.b__law_is_tree .nil passN (pa_cons (pv 5) (pa_cons (pv 1) (pa_cons (pv 2) pa_nil)))))) (pss_one (ps_ret pe_bl)) pss_nil)
      (pss_one (ps_set (i := 4) sc__law_trees_apart.nd rfl (Or.inl rfl) (pe_op op_cat (pv 4) (pv 5))))))
      (pss_one (ps_ret (pe_cmp (pc_eqI (pe_callB call_lenS (by rfl) T.toTXp.no_len bt_len (pa_cons (pe_callTy (setLK K rfl) (by rfl) T.toTXp.no_set bt_set (pa_cons (pv 4) pa_nil)) pa_nil)) (pe_callB (lenK K) (by rfl) T.toTXp.no_len bt_len (pa_cons (pv 4) pa_nil))))))))), ?_⟩
    obtain ⟨rs, hR, wp⟩ := id W0
    have sub : ∀ k ∈ ws.flatten, k ∈ opens ps := fun k hk => by
      obtain ⟨w, hw, h⟩ := List.mem_flatten.mp hk
      exact (wa w hw).2.2 k h
    have len60 : ∀ i, (ws.take i).flatten.length ≤ 60 := fun i => Nat.le_trans (nodup_sub_len (m := List.range ps.length) (flat_nodup i wn) fun k hk => List.mem_range.mpr (opens_all ps k (sub k (flat_sub k hk)))) (by rw [List.length_range]; exact ok.len)
    refine ⟨_, rfl, _, _, _, _, _, rfl, rfl, .ty (.lst hR), kit_same K _, _, rfl, ?_⟩
    refine iteF ⟨_, rfl, R, _, rfl, .inl (SqL.of hR), _, rfl, _, _, rfl, rfl, _, rfl, ?_⟩
    refine ifNF (show ((rs.map V.ref).length : Int) = m by rw [List.length_map, Paired.length wp]; exact hm) ?_
    refine ⟨Nat.zero_le _, fun u hu => ?_⟩
    dsimp only [gName]
    have x0 : Ext [] H (upd H u (.lst [])) := Ext.new hu
    have u0 : IntsAt (upd H u (.lst [])) u [] := upd_same
    generalize upd H u (.lst []) = H0 at x0 u0 ⊢
    refine seq_mid (t := tFor _ _ _) (fun σ' H' => ∃ (u : Addr) (x5 : Option V), σ' = [some (.ref R), some (.int n), some (.ref c), some (.int m), some (.ref u), x5] ∧ IntsAt H' u (nI ws.flatten) ∧ Ext [] H H') (fun Z hZ => ?_) ?_
    · refine ⟨_, rfl, R, rfl, ⟨_, SqL.of (x0.keep _ _ hR (by simp))⟩, ?_⟩
      refine for_list (K := K) (a := R) (xs := rs.map V.ref) (fun i σ' H' => ∃ (u : Addr) (x5 : Option V), σ' = [some (.ref R), some (.int n), some (.ref c), some (.int m), some (.ref u), x5] ∧ IntsAt H' u (nI (ws.take i).flatten) ∧ Ext [] H H') ⟨u, none, rfl, u0, x0⟩ ?_ ?_ ?_
      · rintro i σ' H' _ ⟨_, _, rfl, _, ex⟩
        exact SqL.of (ex.keep _ _ hR (by simp))
      · rintro i y σ' H' hy ⟨u, x5, rfl, hu, ex⟩
        rw [List.getElem?_map] at hy
        cases hr : rs[i]? with
        | none => rw [hr] at hy; cases hy
        | some r =>
          rw [hr] at hy
          obtain rfl : y = .ref r := (Option.some.inj hy).symm
          obtain ⟨w, hw, hi⟩ := wp.get hr
          have f1 := len60 (i + 1)
          rw [flat_take hw, List.length_append] at f1
          have hi' := ex.keep _ _ hi (by simp)
          obtain ⟨t1, t2, t3⟩ := wa w (List.mem_of_getElem? hw)
          refine ⟨_, rfl, _, rfl, _, rfl, r, c, n, ps, w, rfl, hi', t2, fun k hk => opens_all ps k (t3 k hk), P1.ext ex (by simp), ok, fun bb H2 hbb x2 => ⟨_, rfl, ?_⟩⟩
          rw [hbb.mpr t1]
          refine iteF ?_
          refine ⟨_, rfl, _, rfl, u, r, _, _, rfl, rfl, x2.keep _ _ hu (by simp), x2.keep _ _ hi' (by simp), by rw [List.length_map, nI_len, List.length_map, nI_len]; exact Nat.le_of_lt (small1000 (by (clear hm hbb; omega))), fun p hp => ?_⟩
          refine ⟨p, _, rfl, ?_, (ex.trans x2).trans (Ext.new hp)⟩
          show _ = some (HO.lst ((nI _).map V.int))
          rw [upd_same, flat_take hw, nI_append, List.map_append]
      · rintro σ' H' ⟨u, x5, rfl, hu, ex⟩
        rw [List.length_map, Paired.length wp, List.take_length] at hu
        exact hZ _ _ ⟨u, x5, rfl, hu, ex⟩
    rintro σ' H1 ⟨u, x5, rfl, hu, ex⟩
    have fl := len60 ws.length
    rw [List.take_length] at fl
    refine ⟨_, rfl, u, nI ws.flatten, rfl, SqL.of hu, by rw [nI_len]; (clear hm; omega), fun s0 S hs0 => ⟨s0, S, _, rfl, upd_same, _, rfl, u, _, rfl, .inl (SqL.of (keepN hs0 hu)), _, _, rfl, rfl, ?_⟩⟩
    show Q (V.bl (decide ((manyOf (nI ws.flatten) : Int) = (((nI ws.flatten).map V.int).length : Int)))) _
    rw [decide_eq_true (show (manyOf (nI ws.flatten) : Int) = (((nI ws.flatten).map V.int).length : Int) by rw [manyOf_nodup (nI_nodup wn), List.length_map])]
    exact q _ (ex.trans (Ext.new hs0))
end
end Sp
namespace Sp
open PySem L2 Sw PyProof.Rows
section
variable {P : Program} {w : World} {K : PySem.W.Frag} {mg : Str → Option Value} {base : Heap}
noncomputable def sp_order : Sp := fun vs H Q _ => ∃ (c : Int) (n : Nat), vs = [.int c, .int n] ∧ 1 ≤ n ∧ n ≤ 12 ∧ ∀ b H' os, H b = none → IntsAt H' b (0 :: os) → os.Perm (rngL 1 n) → Ext [] H H' → Q (.ref b) H'
theorem ok_order (T : TX K mg) : FnOk P w K mg base (CX1 P w) 1 T.toTXd.f__law_order T.toTXd.fd__law_order ["cell", "size"] sp_order := by
  refine T.toTXp.F__law_order.ok1 sc__law_order (fun vs H Q E h => ?_) (fun cdv A outer s H vs Q E hr h => ?_)
  · obtain ⟨c, n, rfl, _⟩ := h
    rfl
  · obtain ⟨c, n, rfl, lo, hi, q⟩ := h
    refine ⟨_, (pss_cons (ps_setc (i := 2) (locs := ["place"]) (caps := []) rfl ⟨by rfl, by decide +kernel, rfl, by decide +kernel, by exact trivial, by rfl, by rfl⟩ (pi_range2 rfl T.toTXp.no_range (pa_cons pe_int (pa_cons (pv 1) pa_nil))) (fun fp s3 H3 => (pg_name (i := 0) (show (["place"] : List Str).Nodup by decide +kernel) rfl (Or.inl rfl))) (fun fp s3 H3 => pts_nil)
          (fun fp s3 H3 => (pv 0)) sc__law_order.nd rfl (Or.inl rfl))
      (pss_cons (ps_set (i := 3) sc__law_order.nd rfl (Or.inl rfl) (pe_lst (pa_cons pe_int pa_nil)))
      (pss_cons (ps_while PassesOwn.never (pt_cmp (pc_gt (pe_callB (lenK K) (by rfl) T.toTXp.no_len bt_len (pa_cons (pv 2) pa_nil)) pe_int))
      (pss_cons (ps_set (i := 0) sc__law_order.nd rfl (Or.inl rfl) (pe_op op_mod (pe_op op_add (pe_op op_mul (pv 0) pe_int) pe_int) pe_int))
      (pss_one (ps_expr (pe_bm PySem.F.plainAttrs_list PySem.F.slot_list_append PySem.F.type_list_append mt_append (pv 3) (pa_cons (pe_bm PySem.F.plainAttrs_list PySem.F.slot_list_pop PySem.F.type_list_pop mt_popAt (pv 2) (pa_cons (pe_op op_mod (pe_op op_fdiv (pv 0) pe_int) (pe_callB (lenK K) (by rfl) T.toTXp.no_len bt_len (pa_cons (pv 2) pa_nil))) pa_nil)) pa_nil))))))
      (pss_one (ps_ret (pv 3)))))), ?_⟩
    refine ⟨_, rfl, _, _, rfl, ⟨by (clear lo hi; omega), by (clear lo hi; omega), by (clear lo hi; omega), by (clear lo; omega)⟩, fun D hD => ?_⟩
    refine cl_range (n := (((n : Int) - 1)).toNat) (fun i σ' H' => ∃ x, σ' = [x] ∧ IntsAt H' D ((List.range i).map fun k : Nat => 1 + (k : Int)) ∧ Ext [] H H') ⟨none, rfl, upd_same, Ext.new hD⟩ ?_ ?_
    · rintro i σ' H' hi ⟨x, rfl, hD', ex⟩
      refine ⟨_, rfl, _, hD', small1000 (by rw [List.length_map, List.length_map, List.length_range]; (clear lo; omega)), _, rfl, ?_, ex.over1 (Ext.putL hD' (by simp)) hD⟩
      show _ = some (HO.lst (_ : List V))
      rw [upd_same, List.range_succ, List.map_append, List.map_append]; rfl
    rintro σ' H1 ⟨x, rfl, hD', x1⟩
    have hD' : IntsAt H1 D (rngL 1 n) := hD'
    dsimp only [gName]
    refine ⟨by show 1 ≤ sizeLine; decide, fun o ho => ?_⟩
    have x2 := x1.trans (Ext.new (S := []) (o := .lst [.int 0]) ho)
    have hD2 := (Ext.new (S := []) (o := .lst [.int 0]) ho).keep _ _ hD' (by simp)
    have ho2 : IntsAt (upd H1 o (.lst [.int 0])) o [0] := upd_same
    have noD : D ≠ o := neN ho hD'
    have ho0 : H o = none := x1.free ho (by simp)
    generalize upd H1 o (.lst [.int 0]) = H2 at x2 hD2 ho2 ⊢
    clear x1 hD' ho
    dsimp only [gName]
    refine seq_mid (t := tWhile _ _) (fun σ' H' => ∃ (x0 : Option V) (os : List Int), σ' = [x0, some (.int n), some (.ref D), some (.ref o)] ∧ IntsAt H' o (0 :: os) ∧ os.Perm (rngL 1 n) ∧ Ext [] H H') (fun Z hZ => ?_) ?_
    · refine ⟨fun m σ' H' => ∃ (c : Int) (rs os : List Int), σ' = [some (.int c), some (.int n), some (.ref D), some (.ref o)] ∧ m = rs.length ∧ IntsAt H' D rs ∧ IntsAt H' o (0 :: os) ∧ (os ++ rs).Perm (rngL 1 n) ∧ Ext [] H H', ⟨_, c, rngL 1 n, [], rfl, rfl, hD2, ho2, by simp, x2⟩, ?_⟩
      rintro m σ' H' ⟨c, rs, os, rfl, rfl, hD3, ho3, pm, ex⟩
      have pl := pm.length_eq
      rw [List.length_append, rngL_len] at pl
      refine ⟨_, rfl, D, _, rfl, .inl (SqL.of hD3), _, _, rfl, rfl, _, rfl, ?_⟩
      rw [List.length_map]
      refine ite2 (fun c1 => ?_) (fun c1 => ?_)
      · have c1 := of_decide_eq_true c1
        refine ⟨_, fun _ _ h => h, ?_⟩
        refine ⟨_, rfl, _, _, rfl, rfl, Or.inr ⟨by decide, by decide⟩, _, _, rfl, rfl, _, _, rfl, rfl, (by show (0 : Int) < 2147483647; decide), ?_⟩
        dsimp only [gName]
        generalize (c * 48271 + 29) % 2147483647 = c'
        refine ⟨_, rfl, .inl ⟨rfl, _, SqL.of ho3⟩, _, rfl, .inl ⟨rfl, _, SqL.of hD3⟩, _, rfl, _, _, rfl, rfl, ⟨by decide, by decide⟩, _, rfl, D, _, rfl, .inl (SqL.of hD3), _, _, rfl, rfl, by rw [List.length_map]; show (0 : Int) < (rs.length : Int); (clear lo hi pl; omega), ?_⟩
        rw [List.length_map]
        have j0 := Int.emod_nonneg (c' / 3) (show (rs.length : Int) ≠ 0 by (clear lo hi pl; omega))
        have j1 := Int.emod_lt_of_pos (c' / 3) (show 0 < (rs.length : Int) by (clear lo hi pl j0; omega))
        obtain ⟨j, hj⟩ : ∃ j : Nat, c' / 3 % (rs.length : Int) = j := ⟨(c' / 3 % (rs.length : Int)).toNat, by (clear lo hi pl c1 j1; omega)⟩
        have jl : j < rs.length := by (clear lo hi pl c1 j0; omega)
        dsimp only
        rw [hj]
        refine ⟨D, _, (j : Int), j, .int rs[j], rfl, rfl, hD3, by (clear lo hi pl c1 j1 jl j0 hj; omega), by (clear c1 j0 jl lo; omega), by rw [List.length_map]; exact seqIx jl, by rw [List.getElem?_map, List.getElem?_eq_getElem jl]; rfl, ?_⟩
        have e4 : (rs.map V.int).eraseIdx j = (rs.eraseIdx j).map V.int := erase_map _ _ _
        rw [e4]
        have x4 : Ext [D] H' (upd H' D (.lst ((rs.eraseIdx j).map V.int))) := Ext.putL hD3 (by simp)
        have ho4 : IntsAt (upd H' D (.lst ((rs.eraseIdx j).map V.int))) o (0 :: os) := keepU noD.symm ho3
        have hD4 : IntsAt (upd H' D (.lst ((rs.eraseIdx j).map V.int))) D (rs.eraseIdx j) := upd_same
        generalize upd H' D (.lst ((rs.eraseIdx j).map V.int)) = H4 at x4 ho4 hD4 ⊢
        refine ⟨o, _, _, rfl, rfl, ho4, small1000 (by rw [List.length_map, List.length_cons]; (clear jl lo c1 j0 j1 hj; omega)), ?_⟩
        have x5 : Ext [o] H4 (upd H4 o (.lst (((0 : Int) :: os).map V.int ++ [.int rs[j]]))) := Ext.putL ho4 (by simp)
        have pp := pop_perm (List.getElem?_eq_getElem jl)
        refine ⟨_, ?_, c', rs.eraseIdx j, os ++ [rs[j]], rfl, rfl, keepU noD hD4, ?_, ?_, (ex.over1 x4 hD).over1 x5 ho0⟩
        · have := pp.length_eq
          rw [List.length_cons] at this
          (clear lo hi pl c1 j0 j1 hj; omega)
        · show _ = some (HO.lst (_ : List V))
          rw [upd_same]
          simp
        · refine List.Perm.trans ?_ pm
          rw [List.append_assoc]
          exact List.Perm.append_left os pp
      · have c1 : ¬ (0 : Int) < (rs.length : Int) := fun z => c1 (decide_eq_true z)
        have : rs = [] := List.eq_nil_of_length_eq_zero (by (clear lo hi pl; omega))
        subst this
        rw [List.append_nil] at pm
        exact hZ _ _ ⟨_, os, rfl, ho3, pm, ex⟩
    rintro σ' H' ⟨x0, os, rfl, ho3, pm, ex⟩
    exact ⟨_, rfl, q o H' os ho0 ho3 pm ex⟩
end
end Sp
namespace Sp
open PySem L2 Sw PyProof.Rows
section
variable {P : Program} {w : World} {K : PySem.W.Frag} {mg : Str → Option Value} {base : Heap}
noncomputable def sp_into : Sp := fun vs H Q _ => ∃ (a c : Addr) (ps : List Pt) (ss : List Int), vs = [.ref a, .ref c] ∧ PipesAt H a ps ∧ ps.length ≤ 60 ∧ IntsAt H c ss ∧ ∀ b H', H b = none → IntsAt H' b (nI (intoL ps ss)) → Ext [] H H' → Q (.ref b) H'
theorem ok_into (T : TX K mg) : FnOk P w K mg base (CX1 P w) 2 T.toTXd.f__law_into T.toTXd.fd__law_into ["pipes", "places"] sp_into := by
  have G__law_open : FnOk P w K mg base (CX1 P w) 1 T.toTXd.f__law_open T.toTXd.fd__law_open ["pipes"] sp_open := ok_lopen T
  refine T.toTXp.F__law_into.ok1 sc__law_into (fun vs H Q E h => ?_) (fun cdv A outer s H vs Q E hr h => ?_)
  · obtain ⟨a, c, ps, ss, rfl, _⟩ := h
    rfl
  · obtain ⟨a, c, ps, ss, rfl, P1, ok60, hc, q⟩ := h
    refine ⟨_, (pss_one (ps_ret (pe_comp (locs := ["k"]) (caps := [0, 1]) rfl ⟨by rfl, by decide +kernel, rfl, by decide +kernel, by exact ⟨rfl, rfl, trivial⟩, by rfl, by rfl⟩ (pi_list (pe_call G__law_open (hr.mono (by decide)) rfl T.toTXp.mg__law_open T.toTXp.F__law_open.kp T.toTXp.b__law_open .nil passN (pa_cons (pv 0) pa_nil))) (fun fp s3 H3 => (pg_name (i := 0) (show (["k", "pipes", "places"] : List Str).Nodup by decide +kernel) rfl (Or.inl rfl))) (fun fp s3 H3 => (pts_one (PW.pt (pw_and (pt_cmpR (notinK K) (pe_ix (ixT K) (pe_ix (ixL K) (pv 1) (pv 0) (fun _ _ => rfl)) pe_int (fun _ _ => rfl)) (pv 2) (by with_unfolding_all rfl)) (pw_and1 (pt_cmpR (inK K) (pe_ix (ixT K) (pe_ix (ixL K) (pv 1) (pv 0) (fun _ _ => rfl)) pe_int (fun _ _ => rfl)) (pv 2) (by with_unfolding_all rfl)))))))
          (fun fp s3 H3 => (pv 0))))), ?_⟩
    refine ⟨_, rfl, a, ps, rfl, P1, ok60, fun b H2 hb I2 x2 => ⟨b, rfl, ⟨_, SqL.of I2⟩, fun D hD => ?_⟩⟩
    have P2 := P1.ext x2 (by simp)
    have hc2 := x2.keep _ _ hc (by simp)

    refine cl_list (K := K) (a := b) (xs := (nI (opens ps)).map V.int) (fun i σ' H' => ∃ x, σ' = [x, some (V.ref a), some (V.ref c)] ∧ IntsAt H' D (nI (((opens ps).take i).filter fun k => !decide (st ps k ∈ ss) && decide (gl ps k ∈ ss))) ∧ Ext [] H2 H') ⟨none, rfl, upd_same, Ext.new hD⟩ ?_ ?_ ?_
    · rintro i σ' H' _ ⟨x, rfl, hD', ex⟩
      exact SqL.of (ex.keep _ _ I2 (by simp))
    · rintro i y σ' H' hy ⟨x, rfl, hD', ex⟩
      obtain ⟨k, hk, rfl⟩ := getD_nI hy
      have hkl := opens_all ps k (take_all hk)
      have Pp := P2.ext ex (by simp)
      have hc' : SqL K H' c (ss.map V.int) := SqL.of (ex.keep _ _ hc2 (by simp))
      have hil : i < (opens ps).length := (List.getElem?_eq_some_iff.mp hk).1
      have lim : (((opens ps).take i).filter fun k => !decide (st ps k ∈ ss) && decide (gl ps k ∈ ss)).length ≤ 60 := Nat.le_trans (List.length_filter_le _ _) (by rw [List.length_take]; have := opens_len ps; have := ok60; (clear hkl this hil; omega))
      have fin : ∀ (b : Bool), (!decide (st ps k ∈ ss) && decide (gl ps k ∈ ss)) = b → if b = true then tVar 0 ([some (V.int (k : Int)), some (V.ref a), some (V.ref c)] : L2.St) H' (fun y H4 => ∃ xs, H4 D = some (.lst xs) ∧ xs.length < sizeLine ∧ ∃ x, ([some (V.int (k : Int)), some (V.ref a), some (V.ref c)] : L2.St) = [x, some (V.ref a), some (V.ref c)] ∧ IntsAt (upd H4 D (.lst (xs ++ [y]))) D (nI (((opens ps).take (i + 1)).filter fun k => !decide (st ps k ∈ ss) && decide (gl ps k ∈ ss))) ∧ Ext [] H2 (upd H4 D (.lst (xs ++ [y])))) else ∃ x, ([some (V.int (k : Int)), some (V.ref a), some (V.ref c)] : L2.St) = [x, some (V.ref a), some (V.ref c)] ∧ IntsAt H' D (nI (((opens ps).take (i + 1)).filter fun k => !decide (st ps k ∈ ss) && decide (gl ps k ∈ ss))) ∧ Ext [] H2 H' := fun b hb => by
        cases b with
        | true =>
          refine iteT ⟨_, rfl, _, hD', len_nI lim (by (clear ok60 hkl hil lim hb; omega)), _, rfl, ?_, ex.over1 (Ext.putL hD' (by simp)) hD⟩
          show _ = some (HO.lst ((nI _).map V.int))
          rw [upd_same, filter_take_succ _ _ _ _ hk, if_pos hb, nI_snoc, List.map_append]; rfl
        | false =>
          refine iteF ⟨_, rfl, ?_, ex⟩
          rw [filter_take_succ _ _ _ _ hk, if_neg (by rw [hb]; simp), List.append_nil]
          exact hD'
      refine ⟨_, rfl, _, rfl, rd_st Pp hkl ⟨_, rfl, rd_notin hc' ⟨_, rfl, ?_⟩⟩⟩
      by_cases c1 : st ps k ∈ ss
      · refine ifNF (c1) ?_
        exact fin false (by rw [decide_eq_true c1]; rfl)
      · refine ifNT (c1) ?_
        refine ⟨_, rfl, _, rfl, rd_gl Pp hkl ⟨_, rfl, rd_in hc' ⟨_, rfl, ?_⟩⟩⟩
        exact fin _ (by rw [decide_eq_false c1]; rfl)
    · rintro σ' H' ⟨x, rfl, hD', ex⟩
      rw [List.length_map, nI_len, List.take_length] at hD'
      exact q D H' (x2.free hD (by simp)) hD' (x2.trans ex)
end
end Sp
namespace Sp
open PySem L2 Sw PyProof.Rows
section
variable {P : Program} {w : World} {K : PySem.W.Frag} {mg : Str → Option Value} {base : Heap}
noncomputable def sp_lnarrow : Sp := fun vs H Q _ => ∃ (b c : Addr) (n : Nat) (ps : List Pt) (ss : List Int) (v m : Int) (k : Nat), vs = [.ref b, .int n, .ref c, .int m] ∧ IntsAt H b ss ∧ PipesAt H c ps ∧ NetOk n ps ∧ Bnd n ps v k ss ∧ (k : Int) < m ∧ ∀ H', Ext [] H H' → Q (.bl true) H'
theorem ok_lnarrow (T : TX K mg) : FnOk P w K mg base (CX1 P w) 4 T.toTXd.f__law_narrow T.toTXd.fd__law_narrow ["found", "size", "pipes", "many"] sp_lnarrow := by
  have G__law_rising : FnOk P w K mg base (CX1 P w) 3 T.toTXd.f__law_rising T.toTXd.fd__law_rising ["found", "bound"] sp_rising := ok_rising T
  have G__law_into : FnOk P w K mg base (CX1 P w) 2 T.toTXd.f__law_into T.toTXd.fd__law_into ["pipes", "places"] sp_into := ok_into T
  refine T.toTXp.F__law_narrow.ok1 sc__law_narrow (fun vs H Q E h => ?_) (fun cdv A outer s H vs Q E hr h => ?_)
  · obtain ⟨b, c, n, ps, ss, v, m, k, rfl, _⟩ := h
    rfl
  · obtain ⟨b, c, n, ps, ss, v, m, k, rfl, I, P1, ok, B, hk, q⟩ := h
    refine ⟨_, (pss_cons (ps_if (PW.pt (pw_or (pt_not (pt_val (pe_call G__law_rising (hr.mono (by decide)) rfl T.toTXp.mg__law_rising T.toTXp.F__law_rising.kp T.toTXp.b__law_rising .nil passN (pa_cons (pv 0) (pa_cons (pv 1) pa_nil))))) (pw_or (pt_cmp (pc_eqI (pe_callB (lenK K) (by rfl) T.toTXp.no_len bt_len (pa_cons (pv 0) pa_nil)) pe_int)) (pw_or1 (pt_cmpR (inK K) pe_int (pv 0) (by with_unfolding_all rfl)))))) (pss_one (ps_ret pe_bl)) pss_nil)
      (pss_one (ps_ret (pe_cmp (pc_lt (pe_callB (lenK K) (by rfl) T.toTXp.no_len bt_len (pa_cons (pe_call G__law_into (hr.mono (by decide)) rfl T.toTXp.mg__law_into T.toTXp.F__law_into.kp T.toTXp.b__law_into .nil passN (pa_cons (pv 2) (pa_cons (pv 0) pa_nil))) pa_nil)) (pv 3)))))), ?_⟩
    have nl : ss.length < 64 := by
      have := nodup_bound n ss B.nd B.rg
      have := ok.hi
      (clear hk; omega)
    refine ⟨_, rfl, _, rfl, b, ss, (n : Int), rfl, I, B.rg, nl, B.rise, B.nd, fun H1 x1 => ⟨_, rfl, ?_⟩⟩
    have I1 := x1.keep _ _ I (by simp)
    refine iteF ⟨_, rfl, b, _, rfl, .inl (SqL.of I1), _, _, rfl, rfl, _, rfl, ?_⟩
    have ne : ¬ ((ss.map V.int).length : Int) = 0 := fun z => by
      have := List.length_pos_of_mem B.at_
      rw [List.length_map] at z
      (clear hk nl; omega)
    refine ifF ne ⟨_, rfl, rd_in (SqL.of I1) ⟨_, rfl, ?_⟩⟩
    refine ifF B.no0 ?_
    refine ⟨_, rfl, _, rfl, c, b, ps, ss, rfl, P1.ext x1 (by simp), ok.len, I1, fun e H2 he I2 x2 => ⟨e, _, rfl, .inl (SqL.of I2), _, rfl, _, _, rfl, rfl, ?_⟩⟩
    show Q (V.bl (decide ((((nI (intoL ps ss)).map V.int).length : Int) < m))) _
    rw [decide_eq_true (show (((nI (intoL ps ss)).map V.int).length : Int) < m by rw [List.length_map, nI_len, B.len]; exact hk)]
    exact q _ (x1.trans x2)
end
end Sp

set_option Elab.async false
set_option linter.all false
set_option maxRecDepth 100000
namespace Sp
open PySem L2 Sw PyProof.Rows
section
variable {P : Program} {w : World} {K : PySem.W.Frag} {mg : Str → Option Value} {base : Heap}
noncomputable abbrev lawDeep : Nat := 10
noncomputable def sp_law (K : PySem.W.Frag) (tP : Addr) : Sp := fun vs H Q _ => ∃ (a : Addr) (ns : List Int), vs = [.ref a] ∧ ScrAt K H a (ns.map V.int) ∧ ns.length ≤ 63 ∧ H tP = some (.tbl #[]) ∧ ∀ H', Q (.bl true) H'
theorem pipesBy_ok {ns : List Int} {f n : Int} {m : Nat} : ∀ x ∈ pipesBy ns f m n, PtOk n x := fun x hx => by
  unfold pipesBy at hx
  split at hx
  · simp at hx
  · obtain ⟨k, _, rfl⟩ := List.mem_map.mp hx
    have h := pipeBy_ok (c := cell ns (f + k)) (n := n) (by omega)
    exact ⟨⟨h.1, h.2.1⟩, h.2.2⟩
theorem pipesBy_len {ns : List Int} {f n : Int} {m : Nat} : (pipesBy ns f m n).length ≤ m := by
  unfold pipesBy
  split
  · simp
  · rw [List.length_map, List.length_range]
    exact Nat.le_refl _
set_option maxHeartbeats 0 in
theorem ok_law (T : TX K mg) (hB : BltAt mg base) : FnOk P w K mg base (CX1 P w) lawDeep T.toTXd.f_law T.toTXd.fd_law ["script"] (sp_law K T.toTXd.tb_P) := by
  have G__law_net_by : FnOk P w K mg base (CX1 P w) 5 T.toTXd.f__law_net_by T.toTXd.fd__law_net_by ["size", "pipes"] (sp_net_by T.toTXd.a_Net) := ok_net_by T
  have G_most_apart : FnOk P w K mg base (CX1 P w) 8 T.toTXd.f_most_apart T.toTXd.fd_most_apart ["net"] (sp_most T.toTXd.a_Net T.toTXd.tb_P) := ok_most T hB
  have G__law_order : FnOk P w K mg base (CX1 P w) 1 T.toTXd.f__law_order T.toTXd.fd__law_order ["cell", "size"] sp_order := ok_order T
  have G__law_pipes_by : FnOk P w K mg base (CX1 P w) 2 T.toTXd.f__law_pipes_by T.toTXd.fd__law_pipes_by ["script", "first", "many", "size"] (sp_pipes_by K) := ok_pipes_by T
  have G__law_trees_apart : FnOk P w K mg base (CX1 P w) 5 T.toTXd.f__law_trees_apart T.toTXd.fd__law_trees_apart ["found", "size", "pipes", "many"] sp_ltrees := ok_ltrees T
  have G__law_whole : FnOk P w K mg base (CX1 P w) 1 T.toTXd.f__law_whole T.toTXd.fd__law_whole ["found"] sp_whole := ok_whole T
  have G__law_cell_at : FnOk P w K mg base (CX1 P w) 1 T.toTXd.f__law_cell_at T.toTXd.fd__law_cell_at ["script", "k"] (sp_cell K) := ok_cell T
  have G__law_narrow : FnOk P w K mg base (CX1 P w) 4 T.toTXd.f__law_narrow T.toTXd.fd__law_narrow ["found", "size", "pipes", "many"] sp_lnarrow := ok_lnarrow T
  have G__law_into : FnOk P w K mg base (CX1 P w) 2 T.toTXd.f__law_into T.toTXd.fd__law_into ["pipes", "places"] sp_into := ok_into T
  have G_apart : FnOk P w K mg base (CX1 P w) 8 T.toTXd.f_apart T.toTXd.fd_apart ["net", "many"] (sp_apart T.toTXd.a_Net) := ok_tapart T
  have G_widest : FnOk P w K mg base (CX1 P w) 4 T.toTXd.f_widest T.toTXd.fd_widest ["net", "place"] (sp_widest T.toTXd.a_Net) := ok_widest T
  refine T.toTXp.F_law.ok1 sc_law (fun vs H Q E h => ?_) (fun cdv A outer s H vs Q E hr h => ?_)
  · obtain ⟨a, ns, rfl, _⟩ := h
    rfl
  · obtain ⟨a, ns, rfl, hS, hlen, hT, q⟩ := h
    refine ⟨_, (pss_cons (ps_set (i := 1) sc_law.nd rfl (Or.inl rfl) (pe_op op_add pe_int (pe_op op_mod (pe_call G__law_cell_at (hr.mono (by decide)) rfl T.toTXp.mg__law_cell_at T.toTXp.F__law_cell_at.kp T.toTXp.b__law_cell_at .nil passN (pa_cons (pv 0) (pa_cons pe_int pa_nil))) pe_int)))
      (pss_cons (ps_if (pt_cmp (pc_eqI (pe_op op_mod (pe_op op_fdiv (pe_call G__law_cell_at (hr.mono (by decide)) rfl T.toTXp.mg__law_cell_at T.toTXp.F__law_cell_at.kp T.toTXp.b__law_cell_at .nil passN (pa_cons (pv 0) (pa_cons pe_int pa_nil))) pe_int) pe_int) pe_int)) (pss_one (ps_set (i := 1) sc_law.nd rfl (Or.inl rfl) pe_int)) pss_nil)
      (pss_cons (ps_set (i := 2) sc_law.nd rfl (Or.inl rfl) (pe_lst pa_nil))
      (pss_cons (ps_for PassesOwn.never rfl (pi_range1 rfl T.toTXp.no_range (pa_cons (pe_op op_mod (pe_op op_mod (pe_op op_fdiv (pe_call G__law_cell_at (hr.mono (by decide)) rfl T.toTXp.mg__law_cell_at T.toTXp.F__law_cell_at.kp T.toTXp.b__law_cell_at .nil passN (pa_cons (pv 0) (pa_cons pe_int pa_nil))) pe_int) pe_int) pe_int) pa_nil)) (pg_name (i := 3) sc_law.nd rfl (Or.inl rfl))
      (pss_cons (ps_set (i := 4) sc_law.nd rfl (Or.inl rfl) (pe_call G__law_order (hr.mono (by decide)) rfl T.toTXp.mg__law_order T.toTXp.F__law_order.kp T.toTXp.b__law_order .nil passN (pa_cons (pe_call G__law_cell_at (hr.mono (by decide)) rfl T.toTXp.mg__law_cell_at T.toTXp.F__law_cell_at.kp T.toTXp.b__law_cell_at .nil passN (pa_cons (pv 0) (pa_cons (pe_op op_add pe_int (pv 3)) pa_nil))) (pa_cons (pv 1) pa_nil))))
      (pss_one (ps_for PassesOwn.never rfl (pi_range2 rfl T.toTXp.no_range (pa_cons pe_int (pa_cons (pv 1) pa_nil))) (pg_name (i := 5) sc_law.nd rfl (Or.inl rfl))
      (pss_one (ps_expr (pe_bm PySem.F.plainAttrs_list PySem.F.slot_list_append PySem.F.type_list_append mt_append (pv 2) (pa_cons (pe_tup (pa_cons (pe_ix (ixL K) (pv 4) (pe_op op_mod (pe_call G__law_cell_at (hr.mono (by decide)) rfl T.toTXp.mg__law_cell_at T.toTXp.F__law_cell_at.kp T.toTXp.b__law_cell_at .nil passN (pa_cons (pv 0) (pa_cons (pe_op op_add (pe_op op_add pe_int (pe_op op_mul pe_int (pv 3))) (pv 5)) pa_nil))) (pv 5)) (fun _ _ => rfl)) (pa_cons (pe_ix (ixL K) (pv 4) (pv 5) (fun _ _ => rfl)) (pa_cons pe_bl pa_nil)))) pa_nil))))))))
      (pss_cons (ps_set (i := 2) sc_law.nd rfl (Or.inl rfl) (pe_op op_cat (pv 2) (pe_call G__law_pipes_by (hr.mono (by decide)) rfl T.toTXp.mg__law_pipes_by T.toTXp.F__law_pipes_by.kp T.toTXp.b__law_pipes_by .nil passN (pa_cons (pv 0) (pa_cons pe_int (pa_cons (pe_op op_mod (pe_call G__law_cell_at (hr.mono (by decide)) rfl T.toTXp.mg__law_cell_at T.toTXp.F__law_cell_at.kp T.toTXp.b__law_cell_at .nil passN (pa_cons (pv 0) (pa_cons pe_int pa_nil))) pe_int) (pa_cons (pv 1) pa_nil)))))))
      (pss_cons (ps_set (i := 6) sc_law.nd rfl (Or.inr rfl) (pe_call G__law_net_by (hr.mono (by decide)) rfl T.toTXp.mg__law_net_by T.toTXp.F__law_net_by.kp T.toTXp.b__law_net_by .nil passN (pa_cons (pv 1) (pa_cons (pv 2) pa_nil))))
      (pss_cons (ps_set (i := 7) sc_law.nd rfl (Or.inl rfl) (pe_call G_most_apart (hr.mono (by decide)) rfl T.toTXp.mg_most_apart T.toTXp.F_most_apart.kp T.toTXp.b_most_apart .nil passN (pa_cons (pv 6) pa_nil)))
      (pss_cons (ps_if (PW.pt (pw_or (pt_not (pt_val (pe_callB (isi0K K) (by rfl) T.toTXp.no_isinstance bt_isinstance (pa_cons (pv 7) (pa_cons (pe_bltn (v := .ty "tuple") rfl T.toTXp.no_tuple bt_tuple rfl) pa_nil))))) (pw_or (pt_cmp (pc_neI (pe_callB (lenK K) (by rfl) T.toTXp.no_len bt_len (pa_cons (pv 7) pa_nil)) pe_int)) (pw_or (pt_not (pt_val (pe_call G__law_whole (hr.mono (by decide)) rfl T.toTXp.mg__law_whole T.toTXp.F__law_whole.kp T.toTXp.b__law_whole .nil passN (pa_cons (pe_ix (ixT K) (pv 7) pe_int (fun _ _ => rfl)) pa_nil)))) (pw_or1 (pt_cmp (pc_lt (pe_ix (ixT K) (pv 7) pe_int (fun _ _ => rfl)) pe_int))))))) (pss_one (ps_ret pe_bl)) pss_nil)
      (pss_cons (ps_if (pt_not (pt_val (pe_call G__law_trees_apart (hr.mono (by decide)) rfl T.toTXp.mg__law_trees_apart T.toTXp.F__law_trees_apart.kp T.toTXp.b__law_trees_apart .nil passN (pa_cons (pe_ix (ixT K) (pv 7) pe_int (fun _ _ => rfl)) (pa_cons (pv 1) (pa_cons (pv 2) (pa_cons (pe_ix (ixT K) (pv 7) pe_int (fun _ _ => rfl)) pa_nil))))))) (pss_one (ps_ret pe_bl)) pss_nil)
      (pss_cons (ps_if (PW.pt (pw_or (pt_not (pt_val (pe_call G__law_narrow (hr.mono (by decide)) rfl T.toTXp.mg__law_narrow T.toTXp.F__law_narrow.kp T.toTXp.b__law_narrow .nil passN (pa_cons (pe_ix (ixT K) (pv 7) pe_int (fun _ _ => rfl)) (pa_cons (pv 1) (pa_cons (pv 2) (pa_cons (pe_op op_add (pe_ix (ixT K) (pv 7) pe_int (fun _ _ => rfl)) pe_int) pa_nil))))))) (pw_or1 (pt_cmp (pc_neI (pe_callB (lenK K) (by rfl) T.toTXp.no_len bt_len (pa_cons (pe_call G__law_into (hr.mono (by decide)) rfl T.toTXp.mg__law_into T.toTXp.F__law_into.kp T.toTXp.b__law_into .nil passN (pa_cons (pv 2) (pa_cons (pe_ix (ixT K) (pv 7) pe_int (fun _ _ => rfl)) pa_nil))) pa_nil)) (pe_ix (ixT K) (pv 7) pe_int (fun _ _ => rfl))))))) (pss_one (ps_ret pe_bl)) pss_nil)
      (pss_cons (ps_if (PW.pt (pw_and (pt_cmp (pc_lt (pe_ix (ixT K) (pv 7) pe_int (fun _ _ => rfl)) pe_int)) (pw_and1 (pt_cmpR op_ne (pe_ix (ixT K) (pe_call G_apart (hr.mono (by decide)) rfl T.toTXp.mg_apart T.toTXp.F_apart.kp T.toTXp.b_apart .nil passN (pa_cons (pv 6) (pa_cons (pe_op op_add (pe_ix (ixT K) (pv 7) pe_int (fun _ _ => rfl)) pe_int) pa_nil))) pe_int (fun _ _ => rfl)) pe_str (nomark _))))) (pss_one (ps_ret pe_bl)) pss_nil)
      (pss_cons (ps_set (i := 8) sc_law.nd rfl (Or.inl rfl) (pe_callB (minLK K rfl) (by rfl) T.toTXp.no_min bt_min (pa_cons (pe_comp (locs := ["place"]) (caps := [6]) rfl ⟨by rfl, by decide +kernel, rfl, by decide +kernel, by exact ⟨rfl, trivial⟩, by rfl, by rfl⟩ (pi_list (pe_ix (ixT K) (pv 7) pe_int (fun _ _ => rfl))) (fun fp s3 H3 => (pg_name (i := 0) (show (["place", "net"] : List Str).Nodup by decide +kernel) rfl (Or.inl rfl))) (fun fp s3 H3 => pts_nil)
          (fun fp s3 H3 => (pe_ix (ixT K) (pe_call G_widest (hr.mono (by decide)) rfl T.toTXp.mg_widest T.toTXp.F_widest.kp T.toTXp.b_widest .nil passN (pa_cons (pv 1) (pa_cons (pv 0) pa_nil))) pe_int (fun _ _ => rfl)))) pa_nil)))
      (pss_one (ps_ret (pe_and (pe_call G__law_whole (hr.mono (by decide)) rfl T.toTXp.mg__law_whole T.toTXp.F__law_whole.kp T.toTXp.b__law_whole .nil passN (pa_cons (pv 8) pa_nil)) (pe_one (pe_cmp (pc_eqI (pv 8) (pe_ix (ixT K) (pv 7) pe_int (fun _ _ => rfl)))))))))))))))))))), ?_⟩
    refine seq_op fun R hR => ?_
    refine ⟨_, rfl, a, ns, 0, rfl, hS.sq, by decide, _, _, rfl, rfl, (by show (0 : Int) < 4; decide), _, _, rfl, rfl, ?_⟩
    have s0 := Int.emod_nonneg (cell ns 0) (show (4 : Int) ≠ 0 by decide)
    have s1 := Int.emod_lt_of_pos (cell ns 0) (show 0 < (4 : Int) by decide)
    obtain ⟨n0, hn⟩ : ∃ n : Nat, 2 + cell ns 0 % 4 = n := ⟨(2 + cell ns 0 % 4).toNat, by (clear hlen s1; omega)⟩
    dsimp only [gName]
    rw [hn]
    refine hR _ _ ?_
    clear hR
    refine seq_mid (t := tIfS _ _ _) (fun σ' H' => ∃ n : Nat, σ' = [some (.ref a), some (.int n), none, none, none, none, none, none, none] ∧ 2 ≤ n ∧ n ≤ 12 ∧ H' = H) (fun Z hZ => ?_) ?_
    · refine ifS_dec (cell ns 0 / 4 % 64 = 1) (fun R hR => ?_) (fun c1 => hZ _ _ ⟨12, rfl, by (clear hlen s0 s1 hn c1; omega), by (clear hlen s0 s1 hn c1; omega), rfl⟩) (fun c1 => hZ _ _ ⟨n0, rfl, by (clear hlen s1 c1; omega), by (clear hlen s1 c1; omega), rfl⟩)
      exact ⟨_, rfl, a, ns, 0, rfl, hS.sq, by decide, _, _, rfl, rfl, ⟨by decide, by decide⟩, _, _, rfl, rfl, (by show (0 : Int) < 64; decide), _, _, rfl, rfl, _, rfl, hR⟩
    clear hn s0 s1 n0
    rintro σ' H' ⟨n, rfl, n2, n12, rfl⟩
    refine seq_op fun R hR => ?_
    refine ⟨Nat.zero_le _, fun d hd => ?_⟩
    have x2 : Ext [] H' (upd H' d (.lst [])) := Ext.new hd
    have hS2 := hS.ext x2
    have B2 := x2.keep _ _ hT (by simp)
    have D2 : PipesAt (upd H' d (.lst [])) d [] := ⟨[], upd_same, .nil⟩
    generalize upd H' d (.lst []) = H2 at x2 hS2 D2 B2 ⊢
    clear x2 hS hd hT
    dsimp only [gName]
    refine hR _ _ ?_
    clear hR
    obtain ⟨m, hm⟩ : ∃ m : Nat, cell ns 1 / 15 % 4 % 3 = m := ⟨(cell ns 1 / 15 % 4 % 3).toNat, by
      have := Int.emod_nonneg (cell ns 1 / 15 % 4) (show (3 : Int) ≠ 0 by decide)
      (clear hlen n2 n12; omega)⟩
    have m2 : m ≤ 2 := by
      have := Int.emod_lt_of_pos (cell ns 1 / 15 % 4) (show 0 < (3 : Int) by decide)
      (clear hlen n2 n12 this; omega)
    have mul12 : ∀ i : Nat, i ≤ 2 → i * (n - 1) ≤ 22 := fun i hi => Nat.le_trans (Nat.mul_le_mul hi (show n - 1 ≤ 11 by (clear hlen hm m2 hi n2; omega))) (by decide)
    refine seq_mid (t := tFor _ _ _) (fun σ' H' => ∃ (x3 x4 x5 : Option V) (ps : List Pt), σ' = [some (.ref a), some (.int n), some (.ref d), x3, x4, x5, none, none, none] ∧ PipesAt H' d ps ∧ ps.length ≤ 22 ∧ (∀ x ∈ ps, PtOk n x) ∧ ScrAt K H' a (ns.map V.int) ∧ H' T.toTXd.tb_P = some (.tbl #[])) (fun Z hZ => ?_) ?_
    · refine ⟨_, rfl, a, ns, 1, rfl, hS2.sq, by decide, _, _, rfl, rfl, ⟨by decide, by decide⟩, _, _, rfl, rfl, (by show (0 : Int) < 4; decide), _, _, rfl, rfl, (by show (0 : Int) < 3; decide), (m : Int), by show [V.int (cell ns 1 / 15 % 4 % 3)] = _; rw [hm], by (clear hlen n2 n12 m2 hm; omega), by (clear hlen n2 n12 m2; omega), ?_⟩
      rw [Int.toNat_natCast]
      clear hm
      refine for_range (n := m) (fun i σ' H' => ∃ (x3 x4 x5 : Option V) (ps : List Pt), σ' = [some (.ref a), some (.int n), some (.ref d), x3, x4, x5, none, none, none] ∧ PipesAt H' d ps ∧ ps.length = i * (n - 1) ∧ (∀ x ∈ ps, PtOk n x) ∧ ScrAt K H' a (ns.map V.int) ∧ H' T.toTXd.tb_P = some (.tbl #[])) ⟨none, none, none, [], rfl, D2, by simp, by simp, hS2, B2⟩ ?_ ?_
      · rintro i σ' H' hi ⟨x3, x4, x5, ps, rfl, Dp, pl, pok, S, TB⟩
        refine ⟨_, rfl, _, rfl, _, _, rfl, rfl, a, ns, _, rfl, S.sq, (by show (0 : Int) ≤ 2 + (0 + (i : Int)); (clear hlen n2 n12 m2 hi pl; omega)), _, rfl, _, n, rfl, by (clear hlen m2 hi pl n12; omega), n12, fun o H3 os ho3 Io pm x3' => ?_⟩
        have OD := ord_of (show 1 ≤ n by (clear hlen m2 hi pl n12; omega)) pm
        have S3 := S.ext x3'
        have TB3 := x3'.keep _ _ TB (by simp)
        have D3 := Dp.ext x3' (by simp)
        have nod : o ≠ d := by
          obtain ⟨xs, e, _⟩ := Dp.list
          exact (neN ho3 e).symm
        have odl := OD.len
        generalize (0 : Int) :: os = od at OD odl Io
        clear pm x3' ho3 Dp S TB
        dsimp only [gName]
        have pl22 := mul12 i (by (clear hlen n2 n12 pl odl; omega))
        refine ⟨_, rfl, _, _, rfl, ⟨by (clear hlen n2 n12 m2 hi pl odl pl22; omega), by (clear hlen n2 n12 m2 hi pl odl pl22; omega), by (clear hlen m2 hi pl pl22 n2 n12 odl; omega), by (clear hlen m2 hi pl pl22 n2 odl; omega)⟩, ?_⟩
        refine for_range (n := ((n : Int) - 1).toNat) (fun j σ' H' => ∃ (x5 : Option V) (seg : List Pt), σ' = [some (.ref a), some (.int n), some (.ref d), some (.int (0 + (i : Int))), some (.ref o), x5, none, none, none] ∧ PipesAt H' d (ps ++ seg) ∧ seg.length = j ∧ (∀ x ∈ seg, PtOk n x) ∧ ScrAt K H' a (ns.map V.int) ∧ IntsAt H' o od ∧ H' T.toTXd.tb_P = some (.tbl #[])) ⟨x5, [], rfl, by rw [List.append_nil]; exact D3, rfl, by simp, S3, Io, TB3⟩ ?_ ?_
        · rintro j σ' H4 hj ⟨x5, seg, rfl, Dq, sl, sp, S4, Ior, TB4⟩
          obtain ⟨ts, hdl, tt⟩ := id Dq
          have nTd : T.toTXd.tb_P ≠ d := ne_of TB4 hdl (by intro z; cases z)
          have e1 : (1 : Int) + (j : Int) = ((j + 1 : Nat) : Int) := by (clear hlen n2 n12 m2 hi pl odl pl22 hj sl; omega)
          obtain ⟨cc, hcc⟩ : ∃ cc, cc = cell ns (4 + 11 * (0 + (i : Int)) + (1 + (j : Int))) := ⟨_, rfl⟩
          have j0 := Int.emod_nonneg cc (show (1 + (j : Int)) ≠ 0 by (clear hlen n2 n12 m2 hi pl odl pl22 hj e1 hcc sl; omega))
          have j1 := Int.emod_lt_of_pos cc (show 0 < (1 + (j : Int)) by (clear hlen n2 n12 m2 hi pl odl pl22 hj e1 hcc j0 sl; omega))
          obtain ⟨r, hr'⟩ : ∃ r : Nat, cc % (1 + (j : Int)) = r := ⟨(cc % (1 + (j : Int))).toNat, by (clear hlen n2 n12 m2 hi pl odl pl22 hj sl e1 hcc j1; omega)⟩
          have rl : r < od.length := by (clear hlen m2 hi pl pl22 e1 hcc j0 n2 sl; omega)
          have il : j + 1 < od.length := by (clear hlen m2 hi pl pl22 e1 hcc j0 j1 hr' rl n2 n12 sl; omega)
          have g1 := List.getElem?_eq_getElem rl
          have g2 := List.getElem?_eq_getElem il
          have a1 : atI (od.map V.int) (r : Int) = some (.int od[r]) := atI_nat (by rw [List.getElem?_map, g1]; rfl)
          have a2 : atI (od.map V.int) ((j + 1 : Nat) : Int) = some (.int od[j + 1]) := atI_nat (by rw [List.getElem?_map, g2]; rfl)
          refine ⟨_, rfl, .inl ⟨rfl, _, SqL.of hdl⟩, _, rfl, _, rfl, _, rfl, _, _, rfl, rfl, Or.inl ⟨by decide, by decide⟩, _, _, rfl, rfl, _, rfl, _, _, rfl, rfl, a, ns, _, rfl, S4.sq, (by show (0 : Int) ≤ 4 + 11 * (0 + (i : Int)) + (1 + (j : Int)); (clear hlen n2 n12 pl odl pl22 hj e1 hcc j0 j1 hr' m2 hi sl; omega)), _, rfl, _, _, rfl, rfl, (by show (0 : Int) < 1 + (j : Int); (clear hlen n2 n12 m2 hi pl odl pl22 hj e1 hcc j0 j1 hr' sl; omega)), ?_⟩
          dsimp only
          rw [← hcc, hr']
          refine ⟨o, _, _, _, rfl, rfl, SqL.of Ior, a1, _, rfl, _, rfl, o, _, _, _, rfl, rfl, SqL.of Ior, by rw [e1]; exact a2, (by show 3 ≤ sizeLine; decide), fun t ht => ?_⟩
          obtain ⟨P3, x3⟩ := pipes_push (od[r], od[j + 1], true) hdl tt ht
          have tl := tt.len
          rw [List.length_append] at tl
          refine ⟨d, _, _, rfl, rfl, keepN ht hdl, small1000 (by rw [List.length_map]; (clear hlen m2 hi hj e1 hcc j0 j1 hr' n2; omega)), _, seg ++ [(od[r], od[j + 1], true)], rfl, by rw [← List.append_assoc]; exact P3, by rw [List.length_append, sl]; rfl, fun x hx => ?_, S4.ext x3, x3.keep _ _ Ior (by simp [nod]), x3.keep _ _ TB4 (by simp [nTd])⟩
          rcases List.mem_append.mp hx with z | z
          · exact sp x z
          · rw [List.mem_singleton.mp z]
            exact OD.pt g1 g2 (by (clear hlen n2 n12 m2 hi pl odl pl22 hj e1 hcc j0 tl sl; omega)) true
        · rintro σ' H4 ⟨x5, seg, rfl, Dq, sl, sp, S4, Ior, TB4⟩
          refine ⟨_, _, _, ps ++ seg, rfl, Dq, ?_, fun x hx => ?_, S4, TB4⟩
          · rw [List.length_append, pl, Nat.add_mul]
            (clear hlen m2 hi pl pl22 n12 odl; omega)
          · rcases List.mem_append.mp hx with z | z
            · exact pok x z
            · exact sp x z
      · rintro σ' H' ⟨x3, x4, x5, ps, rfl, Dp, pl, pok, S, TB⟩
        exact hZ _ _ ⟨x3, x4, x5, ps, rfl, Dp, by rw [pl]; exact mul12 m m2, pok, S, TB⟩
    clear D2 hS2 B2 hm m2 mul12 m
    rintro σ' H3 ⟨x3, x4, x5, qs0, rfl, D3, pl0, pok, S3, TB3⟩
    have w0 := Int.emod_nonneg (cell ns 1) (show (15 : Int) ≠ 0 by decide)
    have w1 := Int.emod_lt_of_pos (cell ns 1) (show 0 < (15 : Int) by decide)
    obtain ⟨mo, hmo⟩ : ∃ c : Nat, cell ns 1 % 15 = c := ⟨(cell ns 1 % 15).toNat, by (clear hlen n2 n12 pl0 w1; omega)⟩
    refine seq_op fun R hR => ?_
    refine ⟨_, rfl, _, rfl, _, rfl, a, ns, 1, rfl, S3.sq, by decide, _, _, rfl, rfl, (by show (0 : Int) < 15; decide), _, rfl, a, ns, 27, mo, n, by show [V.ref a, V.int 27, V.int (cell ns 1 % 15), V.int (n : Int)] = _; rw [hmo], S3, by decide, by (clear hlen n2 n12 pl0 w1; omega), by (clear hlen pl0 w0 w1 hmo n2; omega), fun c7 H7 hc7 P7 x7 => ?_⟩
    have okp := pipesBy_ok (ns := ns) (f := 27) (n := (n : Int)) (m := mo)
    have lenp := pipesBy_len (ns := ns) (f := 27) (n := (n : Int)) (m := mo)
    generalize pipesBy ns 27 mo (n : Int) = qs at okp lenp P7
    obtain ⟨us7, vs7, h7a, h7b, l7a, l7b, cat⟩ := pipes_cat (D3.ext x7 (by simp)) P7
    refine ⟨d, c7, _, _, rfl, rfl, h7a, h7b, by rw [l7a, l7b]; exact Nat.le_of_lt (small1000 (by (clear hlen n2 n12 w1 l7a l7b; omega))), fun e he => ?_⟩
    have P8 := cat e he
    have y8 := x7.trans (Ext.new (S := []) (o := .lst (us7 ++ vs7)) he)
    have TB8 := y8.keep _ _ TB3 (by simp)
    generalize upd H7 e (.lst (us7 ++ vs7)) = H8 at P8 TB8 y8 ⊢
    have ok : NetOk n (qs0 ++ qs) := ⟨fun x hx => by
      rcases List.mem_append.mp hx with z | z
      · exact pok x z
      · exact okp x z, by (clear hlen pl0 w0 w1 hmo lenp l7a l7b n12; omega), n12, by rw [List.length_append]; (clear hlen n2 n12 w1 l7a l7b; omega)⟩
    generalize qs0 ++ qs = ps at P8 ok
    clear D3 S3 P7 cat x7 h7a h7b l7a l7b okp lenp hc7 he pok pl0 TB3 y8 hmo w0 w1
    dsimp only [gName]
    refine hR _ _ ?_
    clear hR
    have okl := ok.len
    refine seq_op fun R hR => ?_
    refine ⟨_, rfl, _, rfl, n, e, ps, rfl, by (clear hlen okl n12; omega), by (clear hlen okl n2; omega), P8, ok.ok, by (clear hlen n2 n12; omega), fun p l H9 hp hl N9 x9 => ?_⟩
    have P9 := P8.ext x9 (by simp)
    have TB9 := x9.keep _ _ TB8 (by simp)
    clear P8 TB8 x9 hp hl
    dsimp only [gName]
    refine hR _ _ ?_
    clear hR
    refine seq_op fun R0 hR => ?_
    refine ⟨_, rfl, p, l, n, ps, rfl, N9, ok, n2, TB9, fun t R b H10 m ts ss v ht W10 tl ta tn Ib B en x10 => ?_⟩
    have nt : ∀ {b : Addr} {u : HO}, H9 b = some u → (∀ qs, u ≠ .tbl qs) → b ∉ [T.toTXd.tb_P] := fun {b u} z nq y => by
      rw [List.mem_singleton.mp y, TB9] at z
      cases z
      exact nq _ rfl
    have P10 := P9.ext x10 (by obtain ⟨xs, z, _⟩ := P9.list; exact nt z (by intro _ y; cases y))
    have N10 := N9.ext x10 (by obtain ⟨⟨d, z⟩, _⟩ := id N9; exact nt z (by intro _ y; cases y)) (by obtain ⟨_, _, z, _⟩ := id N9; exact nt z (by intro _ y; cases y))
    have m60 := bnd_len B
    clear P9 N9 TB9 x10 nt
    dsimp only [gName]
    refine hR _ _ ?_
    clear hR
    refine seq_op fun R0 hR => ?_
    refine ⟨_, rfl, _, _, _, _, _, rfl, rfl, .ty (.tup ht), kit_same K _, _, rfl, ?_⟩
    refine iteF ⟨_, rfl, t, _, rfl, .inr (SqT.of ht), _, _, rfl, rfl, _, rfl, ?_⟩
    refine ifNF rfl ⟨_, rfl, t, _, 0, _, rfl, rfl, SqT.of ht, rfl, _, rfl, _, rfl, ?_⟩
    refine iteF ⟨_, rfl, t, _, 0, _, rfl, rfl, SqT.of ht, rfl, _, _, rfl, rfl, _, rfl, ?_⟩
    refine ifF (by (clear hlen n2 n12 okl m60 tl; omega)) (hR _ _ ?_)
    clear hR
    refine seq_op fun R0 hR => ?_
    refine ⟨_, rfl, t, _, 1, _, rfl, rfl, SqT.of ht, rfl, _, rfl, _, rfl, _, rfl, t, _, 0, _, rfl, rfl, SqT.of ht, rfl, R, e, n, ts, ps, (m : Int), rfl, W10, P10, ok, ta, tn, by rw [tl], fun H11 x11 => ⟨_, rfl, ?_⟩⟩
    have ht11 := x11.tups _ _ ht
    have P11 := P10.ext x11 (by simp)
    have N11 := N10.ext x11 (by simp) (by simp)
    have I11 : IntsAt H11 b ss := x11.keep _ _ Ib (by simp)
    clear W10 P10 N10 ht Ib x11 ta tn tl
    refine iteF (hR _ _ ?_)
    clear hR
    refine seq_op fun R0 hR => ?_
    refine ⟨_, rfl, t, _, 2, _, rfl, rfl, SqT.of ht11, rfl, _, rfl, _, rfl, _, rfl, t, _, 0, _, rfl, rfl, SqT.of ht11, rfl, _, _, rfl, rfl, b, e, n, ps, ss, v, (m : Int) + 1, m, rfl, I11, P11, ok, B, by (clear hlen n2 n12 okl m60; omega), fun H12 x12 => ⟨_, rfl, ?_⟩⟩
    have ht12 := x12.tups _ _ ht11
    have P12 := P11.ext x12 (by simp)
    have I12 : IntsAt H12 b ss := x12.keep _ _ I11 (by simp)
    refine iteF ⟨_, rfl, _, rfl, t, _, 2, _, rfl, rfl, SqT.of ht12, rfl, e, b, ps, ss, rfl, P12, okl, I12, fun c H13 hc I13 x13 => ⟨c, _, rfl, .inl (SqL.of I13), _, rfl, t, _, 0, _, rfl, rfl, SqT.of (x13.tups _ _ ht12), rfl, _, _, rfl, rfl, _, rfl, ?_⟩⟩
    have y13 := x12.trans x13
    have ht13 := x13.tups _ _ ht12
    have N13 := N11.ext y13 (by simp) (by simp)
    have J13 : IntsAt H13 b ss := x13.keep _ _ I12 (by simp)
    clear ht11 P11 N11 I11 x12 P12 I12 x13 ht12 y13
    refine ifNF (by rw [List.length_map, nI_len, B.len]) (hR _ _ ?_)
    clear hR
    refine seq_mid (t := tIfS _ _ _) (fun σ' H' => σ' = [some (.ref a), some (.int n), some (.ref e), x3, x4, x5, some (.ref p), some (.ref t), none] ∧ Ext [] H13 H') (fun Z hZ => ?_) ?_
    · refine ⟨_, rfl, t, _, 0, _, rfl, rfl, SqT.of ht13, rfl, _, _, rfl, rfl, _, rfl, ?_⟩
      by_cases c5 : (m : Int) < 5
      · refine ifT c5 ⟨_, rfl, _, rfl, t, _, 0, _, rfl, rfl, SqT.of ht13, rfl, _, _, rfl, rfl, p, l, n, ps, m + 1, rfl, N13, ok, by (clear hlen n2 n12 okl m60; omega), ⟨fun t2 R2 H14 ts2 ht2 W2 tl2 ta2 tn2 x2 => ?_, fun t2 b2 H14 ss2 v2 k2 ht2 I2 B2 hk2 x2 => ?_⟩⟩
        · have e2 := trees_enough (n := n) (ps := ps) (fun t h => (ta2 t h).1) tn2 fun t h => (ta2 t h).2.2
          have := e2.cut (B.rg v B.at_).1 (B.rg v B.at_).2 (c := m) ⟨ss, B.nd, B.at_, B.no0, by rw [inn_into]; exact B.len⟩
          (clear hlen n2 n12 okl m60 c5; omega)
        · refine ⟨t2, _, 0, _, rfl, rfl, SqT.of ht2, rfl, rfl, _, rfl, ?_⟩
          exact ifNF rfl (hZ _ _ ⟨rfl, x2⟩)
      · exact ifF c5 (iteF (hZ _ _ ⟨rfl, Ext.refl⟩))
    rintro σ' H14 ⟨rfl, x14⟩
    have ht14 := x14.tups _ _ ht13
    have N14 := N13.ext x14 (by simp) (by simp)
    have J14 : IntsAt H14 b ss := x14.keep _ _ J13 (by simp)
    clear ht13 N13 J13 x14
    refine seq_op fun R0 hR => ?_
    refine ⟨_, rfl, t, _, 2, _, rfl, rfl, SqT.of ht14, rfl, b, rfl, ⟨_, SqL.of J14⟩, fun D hD => ?_⟩
    refine cl_list (K := K) (a := b) (xs := ss.map V.int) (fun i σ' H' => ∃ x : Option V, σ' = [x, some (.ref p)] ∧ H' D = some (.lst ((List.replicate i (m : Int)).map V.int)) ∧ Ext [] H14 H') ⟨none, rfl, upd_same, Ext.new hD⟩ ?_ ?_ ?_
    · rintro i σ' H' _ ⟨x, rfl, _, ex⟩
      exact SqL.of (ex.keep _ _ J14 (by simp))
    · rintro i y σ' H' hy ⟨x, rfl, hD', ex⟩
      rw [List.getElem?_map] at hy
      have hi : i < ss.length := by
        cases z : ss[i]? with
        | none => rw [z] at hy; cases hy
        | some x => exact (List.getElem?_eq_some_iff.mp z).1
      rw [List.getElem?_eq_getElem hi] at hy
      obtain rfl : y = .int ss[i] := (Option.some.inj hy).symm
      have mem := List.getElem_mem hi
      have rg := B.rg _ mem
      have n0 : ss[i] ≠ 0 := fun z => B.no0 (z ▸ mem)
      have sl : ss.length ≤ 12 := Nat.le_trans (nodup_sub_len (m := rngL 0 n) B.nd fun x hx => rngL_mem.mpr ⟨(B.rg x hx).1, (B.rg x hx).2⟩) (by rw [rngL_len]; (clear hlen okl m60 rg n0 n2; omega))
      generalize ss[i] = u at mem rg n0
      refine ⟨_, rfl, _, rfl, p, l, n, ps, u, rfl, N14.ext ex (by simp) (by simp), ok, n0, rg.1, rg.2, fun t2 R2 b2 H15 ws ss2 ht2 W2 I2 wa wn B2 cut x2 => ⟨t2, _, 0, _, rfl, rfl, SqT.of ht2, rfl, _, x2.keep _ _ hD' (by simp), small1000 (by rw [List.length_map, List.length_replicate]; (clear hlen n2 n12 okl m60 rg n0; omega)), ?_⟩⟩
      have le := (Flow.rows wa wn).le B.nd mem B.no0
      rw [inn_into, B.len] at le
      have ge := en.cut rg.1 rg.2 cut
      have ew : ws.length = m := Nat.le_antisymm le ge
      refine ⟨_, rfl, ?_, (ex.trans x2).over1 (Ext.putL (x2.keep _ _ hD' (by simp)) (by simp)) hD⟩
      rw [upd_same, ew, List.replicate_succ', List.map_append]
      rfl
    · rintro σ' H' ⟨x, rfl, hD', ex⟩
      rw [List.length_map] at hD'
      have l0 : 0 < ss.length := List.length_pos_of_mem B.at_
      refine ⟨D, _, rfl, SqL.of hD', fun z => by rw [List.replicate_eq_nil_iff] at z; (clear hlen n2 n12 okl m60; omega), fun mm hm _ => ?_⟩
      obtain rfl : mm = (m : Int) := List.eq_of_mem_replicate hm
      dsimp only [gName]
      refine hR _ _ ?_
      refine ⟨_, rfl, _, rfl, true, rfl, iteT ?_⟩
      refine ⟨_, rfl, _, rfl, t, _, 0, _, rfl, rfl, SqT.of (ex.tups _ _ ht14), rfl, _, _, rfl, rfl, ?_⟩
      show Q (.bl (decide ((m : Int) = (m : Int)))) H'
      rw [decide_eq_true rfl]
      exact q _
end
end Sp

set_option Elab.async false
set_option linter.all false
set_option maxRecDepth 100000
namespace Sp
open PySem L2
theorem len_0 {us : List Value} (h : us.length = 0) : us = [] := List.eq_nil_of_length_eq_zero h
theorem len_s {us : List Value} {n : Nat} (h : us.length = n + 1) : ∃ u r, us = u :: r ∧ r.length = n := by
  cases us with
  | nil => cases h
  | cons u r => exact ⟨u, r, rfl, Nat.succ.inj h⟩
theorem len_1 {us : List Value} (h : us.length = 1) : ∃ u0, us = [u0] := by
  obtain ⟨u0, r, e, h⟩ := len_s h
  exact ⟨u0, by rw [e, len_0 h]⟩
theorem len_2 {us : List Value} (h : us.length = 2) : ∃ u0 u1, us = [u0, u1] := by
  obtain ⟨u0, r, e, h⟩ := len_s h
  obtain ⟨u1, e2⟩ := len_1 h
  exact ⟨u0, u1, by rw [e, e2]⟩
theorem len_3 {us : List Value} (h : us.length = 3) : ∃ u0 u1 u2, us = [u0, u1, u2] := by
  obtain ⟨u0, r, e, h⟩ := len_s h
  obtain ⟨u1, u2, e2⟩ := len_2 h
  exact ⟨u0, u1, u2, by rw [e, e2]⟩
theorem len_4 {us : List Value} (h : us.length = 4) : ∃ u0 u1 u2 u3, us = [u0, u1, u2, u3] := by
  obtain ⟨u0, r, e, h⟩ := len_s h
  obtain ⟨u1, u2, u3, e2⟩ := len_3 h
  exact ⟨u0, u1, u2, u3, by rw [e, e2]⟩
theorem binds_1 {K : PySem.W.Frag} {x qual : Str} {st : Stmt} {f : Addr} {fd : FuncData} {n0 : Str} (F : Fun K x qual st f fd)
    (h : ∀ (kV doc pm : Value) (an : Option Addr) (cdv ct : Value) (u0 : Value), bindArgs (PySem.W.fnOf x qual (defArgs st) (defBody st) (defScope st) .none kV doc pm an cdv ct) ⟨[u0], []⟩ = pure ([n0].zip [u0])) : Binds K fd [n0] [] :=
  F.binds fun kV doc pm an cdv ct us hl => by
    obtain ⟨u0, rfl⟩ := len_1 hl
    exact h kV doc pm an cdv ct u0
theorem binds_2 {K : PySem.W.Frag} {x qual : Str} {st : Stmt} {f : Addr} {fd : FuncData} {n0 n1 : Str} (F : Fun K x qual st f fd)
    (h : ∀ (kV doc pm : Value) (an : Option Addr) (cdv ct : Value) (u0 u1 : Value), bindArgs (PySem.W.fnOf x qual (defArgs st) (defBody st) (defScope st) .none kV doc pm an cdv ct) ⟨[u0, u1], []⟩ = pure ([n0, n1].zip [u0, u1])) : Binds K fd [n0, n1] [] :=
  F.binds fun kV doc pm an cdv ct us hl => by
    obtain ⟨u0, u1, rfl⟩ := len_2 hl
    exact h kV doc pm an cdv ct u0 u1
theorem binds_3 {K : PySem.W.Frag} {x qual : Str} {st : Stmt} {f : Addr} {fd : FuncData} {n0 n1 n2 : Str} (F : Fun K x qual st f fd)
    (h : ∀ (kV doc pm : Value) (an : Option Addr) (cdv ct : Value) (u0 u1 u2 : Value), bindArgs (PySem.W.fnOf x qual (defArgs st) (defBody st) (defScope st) .none kV doc pm an cdv ct) ⟨[u0, u1, u2], []⟩ = pure ([n0, n1, n2].zip [u0, u1, u2])) : Binds K fd [n0, n1, n2] [] :=
  F.binds fun kV doc pm an cdv ct us hl => by
    obtain ⟨u0, u1, u2, rfl⟩ := len_3 hl
    exact h kV doc pm an cdv ct u0 u1 u2
theorem binds_4 {K : PySem.W.Frag} {x qual : Str} {st : Stmt} {f : Addr} {fd : FuncData} {n0 n1 n2 n3 : Str} (F : Fun K x qual st f fd)
    (h : ∀ (kV doc pm : Value) (an : Option Addr) (cdv ct : Value) (u0 u1 u2 u3 : Value), bindArgs (PySem.W.fnOf x qual (defArgs st) (defBody st) (defScope st) .none kV doc pm an cdv ct) ⟨[u0, u1, u2, u3], []⟩ = pure ([n0, n1, n2, n3].zip [u0, u1, u2, u3])) : Binds K fd [n0, n1, n2, n3] [] :=
  F.binds fun kV doc pm an cdv ct us hl => by
    obtain ⟨u0, u1, u2, u3, rfl⟩ := len_4 hl
    exact h kV doc pm an cdv ct u0 u1 u2 u3
set_option maxHeartbeats 0 in
theorem all_mk {K : PySem.W.Frag} {h : Heap} {mg : Str → Option Value} {fa : Addr} (X : K.In h) (G : h.Ns mainGlobals mg) (hfa : mg "law" = some (.ref fa))
    {a_Net : Addr}
    {t_SPRING : Tok}
    {t_MOST_PLACES : Tok}
    {t_MOST_PIPES : Tok}
    {tb_c tb_P : Addr}
    {f_check_place : Addr} {od_check_place an_check_place : Option Addr} {sl_check_place : Array (Option Value)} {oc_check_place kV_check_place dc_check_place pm_check_place cd_check_place ct_check_place : Value}
    {f_check_pipe : Addr} {od_check_pipe an_check_pipe : Option Addr} {sl_check_pipe : Array (Option Value)} {oc_check_pipe kV_check_pipe dc_check_pipe pm_check_pipe cd_check_pipe ct_check_pipe : Value}
    {f_Net_init : Addr} {od_Net_init an_Net_init : Option Addr} {sl_Net_init : Array (Option Value)} {oc_Net_init kV_Net_init dc_Net_init pm_Net_init cd_Net_init ct_Net_init : Value}
    {f_Net_size : Addr} {od_Net_size an_Net_size : Option Addr} {sl_Net_size : Array (Option Value)} {oc_Net_size kV_Net_size dc_Net_size pm_Net_size cd_Net_size ct_Net_size : Value}
    {f_Net_lay : Addr} {od_Net_lay an_Net_lay : Option Addr} {sl_Net_lay : Array (Option Value)} {oc_Net_lay kV_Net_lay dc_Net_lay pm_Net_lay cd_Net_lay ct_Net_lay : Value}
    {f_Net_shut : Addr} {od_Net_shut an_Net_shut : Option Addr} {sl_Net_shut : Array (Option Value)} {oc_Net_shut kV_Net_shut dc_Net_shut pm_Net_shut cd_Net_shut ct_Net_shut : Value}
    {f_Net_turn : Addr} {od_Net_turn an_Net_turn : Option Addr} {sl_Net_turn : Array (Option Value)} {oc_Net_turn kV_Net_turn dc_Net_turn pm_Net_turn cd_Net_turn ct_Net_turn : Value}
    {f_Net_pipes : Addr} {od_Net_pipes an_Net_pipes : Option Addr} {sl_Net_pipes : Array (Option Value)} {oc_Net_pipes kV_Net_pipes dc_Net_pipes pm_Net_pipes cd_Net_pipes ct_Net_pipes : Value}
    {f_open_pipes : Addr} {od_open_pipes an_open_pipes : Option Addr} {sl_open_pipes : Array (Option Value)} {oc_open_pipes kV_open_pipes dc_open_pipes pm_open_pipes cd_open_pipes ct_open_pipes : Value}
    {f_ways_through : Addr} {od_ways_through an_ways_through : Option Addr} {sl_ways_through : Array (Option Value)} {oc_ways_through kV_ways_through dc_ways_through pm_ways_through cd_ways_through ct_ways_through : Value}
    {f_turned : Addr} {od_turned an_turned : Option Addr} {sl_turned : Array (Option Value)} {oc_turned kV_turned dc_turned pm_turned cd_turned ct_turned : Value}
    {f_switch : Addr} {od_switch an_switch : Option Addr} {sl_switch : Array (Option Value)} {oc_switch kV_switch dc_switch pm_switch cd_switch ct_switch : Value}
    {f_parted : Addr} {od_parted an_parted : Option Addr} {sl_parted : Array (Option Value)} {oc_parted kV_parted dc_parted pm_parted cd_parted ct_parted : Value}
    {f_ways_apart : Addr} {od_ways_apart an_ways_apart : Option Addr} {sl_ways_apart : Array (Option Value)} {oc_ways_apart kV_ways_apart dc_ways_apart pm_ways_apart cd_ways_apart ct_ways_apart : Value}
    {f_bounding : Addr} {od_bounding an_bounding : Option Addr} {sl_bounding : Array (Option Value)} {oc_bounding kV_bounding dc_bounding pm_bounding cd_bounding ct_bounding : Value}
    {f_ways : Addr} {od_ways an_ways : Option Addr} {sl_ways : Array (Option Value)} {oc_ways kV_ways dc_ways pm_ways cd_ways ct_ways : Value}
    {f_widest : Addr} {od_widest an_widest : Option Addr} {sl_widest : Array (Option Value)} {oc_widest kV_widest dc_widest pm_widest cd_widest ct_widest : Value}
    {f_without : Addr} {od_without an_without : Option Addr} {sl_without : Array (Option Value)} {oc_without kV_without dc_without pm_without cd_without ct_without : Value}
    {f_can_spare : Addr} {od_can_spare an_can_spare : Option Addr} {sl_can_spare : Array (Option Value)} {oc_can_spare kV_can_spare dc_can_spare pm_can_spare cd_can_spare ct_can_spare : Value}
    {f_next_pipe : Addr} {od_next_pipe an_next_pipe : Option Addr} {sl_next_pipe : Array (Option Value)} {oc_next_pipe kV_next_pipe dc_next_pipe pm_next_pipe cd_next_pipe ct_next_pipe : Value}
    {f_grown : Addr} {od_grown an_grown : Option Addr} {sl_grown : Array (Option Value)} {oc_grown kV_grown dc_grown pm_grown cd_grown ct_grown : Value}
    {f_trees_apart : Addr} {od_trees_apart an_trees_apart : Option Addr} {sl_trees_apart : Array (Option Value)} {oc_trees_apart kV_trees_apart dc_trees_apart pm_trees_apart cd_trees_apart ct_trees_apart : Value}
    {f_apart : Addr} {od_apart an_apart : Option Addr} {sl_apart : Array (Option Value)} {oc_apart kV_apart dc_apart pm_apart cd_apart ct_apart : Value}
    {f_most_apart : Addr} {od_most_apart an_most_apart : Option Addr} {sl_most_apart : Array (Option Value)} {oc_most_apart kV_most_apart dc_most_apart pm_most_apart cd_most_apart ct_most_apart : Value}
    {f__law_cell_at : Addr} {od__law_cell_at an__law_cell_at : Option Addr} {sl__law_cell_at : Array (Option Value)} {oc__law_cell_at kV__law_cell_at dc__law_cell_at pm__law_cell_at cd__law_cell_at ct__law_cell_at : Value}
    {f__law_whole : Addr} {od__law_whole an__law_whole : Option Addr} {sl__law_whole : Array (Option Value)} {oc__law_whole kV__law_whole dc__law_whole pm__law_whole cd__law_whole ct__law_whole : Value}
    {f__law_pipe_by : Addr} {od__law_pipe_by an__law_pipe_by : Option Addr} {sl__law_pipe_by : Array (Option Value)} {oc__law_pipe_by kV__law_pipe_by dc__law_pipe_by pm__law_pipe_by cd__law_pipe_by ct__law_pipe_by : Value}
    {f__law_pipes_by : Addr} {od__law_pipes_by an__law_pipes_by : Option Addr} {sl__law_pipes_by : Array (Option Value)} {oc__law_pipes_by kV__law_pipes_by dc__law_pipes_by pm__law_pipes_by cd__law_pipes_by ct__law_pipes_by : Value}
    {f__law_net_by : Addr} {od__law_net_by an__law_net_by : Option Addr} {sl__law_net_by : Array (Option Value)} {oc__law_net_by kV__law_net_by dc__law_net_by pm__law_net_by cd__law_net_by ct__law_net_by : Value}
    {f__law_open : Addr} {od__law_open an__law_open : Option Addr} {sl__law_open : Array (Option Value)} {oc__law_open kV__law_open dc__law_open pm__law_open cd__law_open ct__law_open : Value}
    {f__law_wet : Addr} {od__law_wet an__law_wet : Option Addr} {sl__law_wet : Array (Option Value)} {oc__law_wet kV__law_wet dc__law_wet pm__law_wet cd__law_wet ct__law_wet : Value}
    {f__law_into : Addr} {od__law_into an__law_into : Option Addr} {sl__law_into : Array (Option Value)} {oc__law_into kV__law_into dc__law_into pm__law_into cd__law_into ct__law_into : Value}
    {f__law_numbers : Addr} {od__law_numbers an__law_numbers : Option Addr} {sl__law_numbers : Array (Option Value)} {oc__law_numbers kV__law_numbers dc__law_numbers pm__law_numbers cd__law_numbers ct__law_numbers : Value}
    {f__law_rising : Addr} {od__law_rising an__law_rising : Option Addr} {sl__law_rising : Array (Option Value)} {oc__law_rising kV__law_rising dc__law_rising pm__law_rising cd__law_rising ct__law_rising : Value}
    {f__law_is_tree : Addr} {od__law_is_tree an__law_is_tree : Option Addr} {sl__law_is_tree : Array (Option Value)} {oc__law_is_tree kV__law_is_tree dc__law_is_tree pm__law_is_tree cd__law_is_tree ct__law_is_tree : Value}
    {f__law_narrow : Addr} {od__law_narrow an__law_narrow : Option Addr} {sl__law_narrow : Array (Option Value)} {oc__law_narrow kV__law_narrow dc__law_narrow pm__law_narrow cd__law_narrow ct__law_narrow : Value}
    {f__law_trees_apart : Addr} {od__law_trees_apart an__law_trees_apart : Option Addr} {sl__law_trees_apart : Array (Option Value)} {oc__law_trees_apart kV__law_trees_apart dc__law_trees_apart pm__law_trees_apart cd__law_trees_apart ct__law_trees_apart : Value}
    {f__law_order : Addr} {od__law_order an__law_order : Option Addr} {sl__law_order : Array (Option Value)} {oc__law_order kV__law_order dc__law_order pm__law_order cd__law_order ct__law_order : Value}
    {f_law : Addr} {od_law an_law : Option Addr} {sl_law : Array (Option Value)} {oc_law kV_law dc_law pm_law cd_law ct_law : Value}
    (z1 : PySem.W.nsIn K mainGlobals "Net" = some (some (.ref a_Net)))
    (z2 : PySem.W.plainGet K a_Net Str.empty = true)
    (z3 : PySem.W.hasDictIn K a_Net = true)
    (z4 : PySem.W.plainOver K a_Net = true)
    (z5 : PySem.W.findIn K (.ref a_Net) "__setattr__" = some (some (.builtin "object.__setattr__")))
    (z6 : PySem.W.findIn K (.ref a_Net) "extent" = some none)
    (z7 : PySem.W.findIn K (.ref a_Net) "laid" = some none)
    (z8 : PySem.W.nsIn K mainGlobals "SPRING" = some (some (.int 0 t_SPRING)))
    (z9 : PySem.W.nsIn K mainGlobals "MOST_PLACES" = some (some (.int 12 t_MOST_PLACES)))
    (z10 : PySem.W.nsIn K mainGlobals "MOST_PIPES" = some (some (.int 60 t_MOST_PIPES)))
    (z11 : PySem.W.nsIn K mainGlobals "bool" = some none)
    (z12 : PySem.W.nsIn K mainGlobals "enumerate" = some none)
    (z13 : PySem.W.nsIn K mainGlobals "int" = some none)
    (z14 : PySem.W.nsIn K mainGlobals "isinstance" = some none)
    (z15 : PySem.W.nsIn K mainGlobals "len" = some none)
    (z16 : PySem.W.nsIn K mainGlobals "list" = some none)
    (z17 : PySem.W.nsIn K mainGlobals "min" = some none)
    (z18 : PySem.W.nsIn K mainGlobals "range" = some none)
    (z19 : PySem.W.nsIn K mainGlobals "set" = some none)
    (z20 : PySem.W.nsIn K mainGlobals "sorted" = some none)
    (z21 : PySem.W.nsIn K mainGlobals "tuple" = some none)
    (z22 : PySem.W.nsIn K mainGlobals "check_place" = some (some (.ref f_check_place)))
    (z23 : K.lookup f_check_place = some ⟨oc_check_place, od_check_place, .func (PySem.W.fnOf "check_place" "check_place" (defArgs s_check_place) (defBody s_check_place) (defScope s_check_place) .none kV_check_place dc_check_place pm_check_place an_check_place cd_check_place ct_check_place), sl_check_place⟩)
    (z24 : PySem.W.codeIn K cd_check_place "check_place" = true)
    (z25 : PySem.W.keepIn K (.ref f_check_place) = true)
    (z26 : PySem.W.nsIn K mainGlobals "check_pipe" = some (some (.ref f_check_pipe)))
    (z27 : K.lookup f_check_pipe = some ⟨oc_check_pipe, od_check_pipe, .func (PySem.W.fnOf "check_pipe" "check_pipe" (defArgs s_check_pipe) (defBody s_check_pipe) (defScope s_check_pipe) .none kV_check_pipe dc_check_pipe pm_check_pipe an_check_pipe cd_check_pipe ct_check_pipe), sl_check_pipe⟩)
    (z28 : PySem.W.codeIn K cd_check_pipe "check_pipe" = true)
    (z29 : PySem.W.keepIn K (.ref f_check_pipe) = true)
    (z30 : PySem.W.findIn K (.ref a_Net) "__init__" = some (some (.ref f_Net_init)))
    (z31 : PySem.W.isFn K (.ref f_Net_init) = true)
    (z32 : K.lookup f_Net_init = some ⟨oc_Net_init, od_Net_init, .func (PySem.W.fnOf "__init__" "Net.__init__" (defArgs s_Net_init) (defBody s_Net_init) (defScope s_Net_init) .none kV_Net_init dc_Net_init pm_Net_init an_Net_init cd_Net_init ct_Net_init), sl_Net_init⟩)
    (z33 : PySem.W.codeIn K cd_Net_init "Net.__init__" = true)
    (z34 : PySem.W.keepIn K (.ref f_Net_init) = true)
    (z35 : PySem.W.makesIn K a_Net = true)
    (z36 : PySem.W.keepIn K (.ref a_Net) = true)
    (z37 : PySem.W.findIn K (.ref a_Net) "size" = some (some (.ref f_Net_size)))
    (z38 : PySem.W.isFn K (.ref f_Net_size) = true)
    (z39 : K.lookup f_Net_size = some ⟨oc_Net_size, od_Net_size, .func (PySem.W.fnOf "size" "Net.size" (defArgs s_Net_size) (defBody s_Net_size) (defScope s_Net_size) .none kV_Net_size dc_Net_size pm_Net_size an_Net_size cd_Net_size ct_Net_size), sl_Net_size⟩)
    (z40 : PySem.W.codeIn K cd_Net_size "Net.size" = true)
    (z41 : PySem.W.keepIn K (.ref f_Net_size) = true)
    (z42 : PySem.W.findIn K (.ref a_Net) "lay" = some (some (.ref f_Net_lay)))
    (z43 : PySem.W.isFn K (.ref f_Net_lay) = true)
    (z44 : K.lookup f_Net_lay = some ⟨oc_Net_lay, od_Net_lay, .func (PySem.W.fnOf "lay" "Net.lay" (defArgs s_Net_lay) (defBody s_Net_lay) (defScope s_Net_lay) .none kV_Net_lay dc_Net_lay pm_Net_lay an_Net_lay cd_Net_lay ct_Net_lay), sl_Net_lay⟩)
    (z45 : PySem.W.codeIn K cd_Net_lay "Net.lay" = true)
    (z46 : PySem.W.keepIn K (.ref f_Net_lay) = true)
    (z47 : PySem.W.findIn K (.ref a_Net) "shut" = some (some (.ref f_Net_shut)))
    (z48 : PySem.W.isFn K (.ref f_Net_shut) = true)
    (z49 : K.lookup f_Net_shut = some ⟨oc_Net_shut, od_Net_shut, .func (PySem.W.fnOf "shut" "Net.shut" (defArgs s_Net_shut) (defBody s_Net_shut) (defScope s_Net_shut) .none kV_Net_shut dc_Net_shut pm_Net_shut an_Net_shut cd_Net_shut ct_Net_shut), sl_Net_shut⟩)
    (z50 : PySem.W.codeIn K cd_Net_shut "Net.shut" = true)
    (z51 : PySem.W.keepIn K (.ref f_Net_shut) = true)
    (z52 : PySem.W.findIn K (.ref a_Net) "turn" = some (some (.ref f_Net_turn)))
    (z53 : PySem.W.isFn K (.ref f_Net_turn) = true)
    (z54 : K.lookup f_Net_turn = some ⟨oc_Net_turn, od_Net_turn, .func (PySem.W.fnOf "turn" "Net.turn" (defArgs s_Net_turn) (defBody s_Net_turn) (defScope s_Net_turn) .none kV_Net_turn dc_Net_turn pm_Net_turn an_Net_turn cd_Net_turn ct_Net_turn), sl_Net_turn⟩)
    (z55 : PySem.W.codeIn K cd_Net_turn "Net.turn" = true)
    (z56 : PySem.W.keepIn K (.ref f_Net_turn) = true)
    (z57 : PySem.W.findIn K (.ref a_Net) "pipes" = some (some (.ref f_Net_pipes)))
    (z58 : PySem.W.isFn K (.ref f_Net_pipes) = true)
    (z59 : K.lookup f_Net_pipes = some ⟨oc_Net_pipes, od_Net_pipes, .func (PySem.W.fnOf "pipes" "Net.pipes" (defArgs s_Net_pipes) (defBody s_Net_pipes) (defScope s_Net_pipes) .none kV_Net_pipes dc_Net_pipes pm_Net_pipes an_Net_pipes cd_Net_pipes ct_Net_pipes), sl_Net_pipes⟩)
    (z60 : PySem.W.codeIn K cd_Net_pipes "Net.pipes" = true)
    (z61 : PySem.W.keepIn K (.ref f_Net_pipes) = true)
    (z62 : PySem.W.nsIn K mainGlobals "open_pipes" = some (some (.ref f_open_pipes)))
    (z63 : K.lookup f_open_pipes = some ⟨oc_open_pipes, od_open_pipes, .func (PySem.W.fnOf "open_pipes" "open_pipes" (defArgs s_open_pipes) (defBody s_open_pipes) (defScope s_open_pipes) .none kV_open_pipes dc_open_pipes pm_open_pipes an_open_pipes cd_open_pipes ct_open_pipes), sl_open_pipes⟩)
    (z64 : PySem.W.codeIn K cd_open_pipes "open_pipes" = true)
    (z65 : PySem.W.keepIn K (.ref f_open_pipes) = true)
    (z66 : PySem.W.nsIn K mainGlobals "ways_through" = some (some (.ref f_ways_through)))
    (z67 : K.lookup f_ways_through = some ⟨oc_ways_through, od_ways_through, .func (PySem.W.fnOf "ways_through" "ways_through" (defArgs s_ways_through) (defBody s_ways_through) (defScope s_ways_through) .none kV_ways_through dc_ways_through pm_ways_through an_ways_through cd_ways_through ct_ways_through), sl_ways_through⟩)
    (z68 : PySem.W.codeIn K cd_ways_through "ways_through" = true)
    (z69 : PySem.W.keepIn K (.ref f_ways_through) = true)
    (z70 : PySem.W.nsIn K mainGlobals "turned" = some (some (.ref f_turned)))
    (z71 : K.lookup f_turned = some ⟨oc_turned, od_turned, .func (PySem.W.fnOf "turned" "turned" (defArgs s_turned) (defBody s_turned) (defScope s_turned) .none kV_turned dc_turned pm_turned an_turned cd_turned ct_turned), sl_turned⟩)
    (z72 : PySem.W.codeIn K cd_turned "turned" = true)
    (z73 : PySem.W.keepIn K (.ref f_turned) = true)
    (z74 : PySem.W.nsIn K mainGlobals "switch" = some (some (.ref f_switch)))
    (z75 : K.lookup f_switch = some ⟨oc_switch, od_switch, .func (PySem.W.fnOf "switch" "switch" (defArgs s_switch) (defBody s_switch) (defScope s_switch) .none kV_switch dc_switch pm_switch an_switch cd_switch ct_switch), sl_switch⟩)
    (z76 : PySem.W.codeIn K cd_switch "switch" = true)
    (z77 : PySem.W.keepIn K (.ref f_switch) = true)
    (z78 : PySem.W.nsIn K mainGlobals "parted" = some (some (.ref f_parted)))
    (z79 : K.lookup f_parted = some ⟨oc_parted, od_parted, .func (PySem.W.fnOf "parted" "parted" (defArgs s_parted) (defBody s_parted) (defScope s_parted) .none kV_parted dc_parted pm_parted an_parted cd_parted ct_parted), sl_parted⟩)
    (z80 : PySem.W.codeIn K cd_parted "parted" = true)
    (z81 : PySem.W.keepIn K (.ref f_parted) = true)
    (z82 : PySem.W.nsIn K mainGlobals "ways_apart" = some (some (.ref f_ways_apart)))
    (z83 : K.lookup f_ways_apart = some ⟨oc_ways_apart, od_ways_apart, .func (PySem.W.fnOf "ways_apart" "ways_apart" (defArgs s_ways_apart) (defBody s_ways_apart) (defScope s_ways_apart) .none kV_ways_apart dc_ways_apart pm_ways_apart an_ways_apart cd_ways_apart ct_ways_apart), sl_ways_apart⟩)
    (z84 : PySem.W.codeIn K cd_ways_apart "ways_apart" = true)
    (z85 : PySem.W.keepIn K (.ref f_ways_apart) = true)
    (z86 : PySem.W.nsIn K mainGlobals "bounding" = some (some (.ref f_bounding)))
    (z87 : K.lookup f_bounding = some ⟨oc_bounding, od_bounding, .func (PySem.W.fnOf "bounding" "bounding" (defArgs s_bounding) (defBody s_bounding) (defScope s_bounding) .none kV_bounding dc_bounding pm_bounding an_bounding cd_bounding ct_bounding), sl_bounding⟩)
    (z88 : PySem.W.codeIn K cd_bounding "bounding" = true)
    (z89 : PySem.W.keepIn K (.ref f_bounding) = true)
    (z90 : PySem.W.nsIn K mainGlobals "ways" = some (some (.ref f_ways)))
    (z91 : K.lookup f_ways = some ⟨oc_ways, od_ways, .func (PySem.W.fnOf "ways" "ways" (defArgs s_ways) (defBody s_ways) (defScope s_ways) .none kV_ways dc_ways pm_ways an_ways cd_ways ct_ways), sl_ways⟩)
    (z92 : PySem.W.codeIn K cd_ways "ways" = true)
    (z93 : PySem.W.keepIn K (.ref f_ways) = true)
    (z94 : PySem.W.nsIn K mainGlobals "widest" = some (some (.ref f_widest)))
    (z95 : K.lookup f_widest = some ⟨oc_widest, od_widest, .func (PySem.W.fnOf "widest" "widest" (defArgs s_widest) (defBody s_widest) (defScope s_widest) .none kV_widest dc_widest pm_widest an_widest cd_widest ct_widest), sl_widest⟩)
    (z96 : PySem.W.codeIn K cd_widest "widest" = true)
    (z97 : PySem.W.keepIn K (.ref f_widest) = true)
    (z98 : PySem.W.nsIn K mainGlobals "without" = some (some (.ref f_without)))
    (z99 : K.lookup f_without = some ⟨oc_without, od_without, .func (PySem.W.fnOf "without" "without" (defArgs s_without) (defBody s_without) (defScope s_without) .none kV_without dc_without pm_without an_without cd_without ct_without), sl_without⟩)
    (z100 : PySem.W.codeIn K cd_without "without" = true)
    (z101 : PySem.W.keepIn K (.ref f_without) = true)
    (z102 : PySem.W.nsIn K mainGlobals "can_spare" = some (some (.ref f_can_spare)))
    (z103 : K.lookup f_can_spare = some ⟨oc_can_spare, od_can_spare, .func (PySem.W.fnOf "can_spare" "can_spare" (defArgs s_can_spare) (defBody s_can_spare) (defScope s_can_spare) .none kV_can_spare dc_can_spare pm_can_spare an_can_spare cd_can_spare ct_can_spare), sl_can_spare⟩)
    (z104 : PySem.W.codeIn K cd_can_spare "can_spare" = true)
    (z105 : PySem.W.keepIn K (.ref f_can_spare) = true)
    (z106 : PySem.W.nsIn K mainGlobals "next_pipe" = some (some (.ref f_next_pipe)))
    (z107 : K.lookup f_next_pipe = some ⟨oc_next_pipe, od_next_pipe, .func (PySem.W.fnOf "next_pipe" "next_pipe" (defArgs s_next_pipe) (defBody s_next_pipe) (defScope s_next_pipe) .none kV_next_pipe dc_next_pipe pm_next_pipe an_next_pipe cd_next_pipe ct_next_pipe), sl_next_pipe⟩)
    (z108 : PySem.W.codeIn K cd_next_pipe "next_pipe" = true)
    (z109 : PySem.W.keepIn K (.ref f_next_pipe) = true)
    (z110 : PySem.W.nsIn K mainGlobals "grown" = some (some (.ref f_grown)))
    (z111 : K.lookup f_grown = some ⟨oc_grown, od_grown, .func (PySem.W.fnOf "grown" "grown" (defArgs s_grown) (defBody s_grown) (defScope s_grown) .none kV_grown dc_grown pm_grown an_grown cd_grown ct_grown), sl_grown⟩)
    (z112 : PySem.W.codeIn K cd_grown "grown" = true)
    (z113 : PySem.W.keepIn K (.ref f_grown) = true)
    (z114 : PySem.W.nsIn K mainGlobals "trees_apart" = some (some (.ref f_trees_apart)))
    (z115 : K.lookup f_trees_apart = some ⟨oc_trees_apart, od_trees_apart, .func (PySem.W.fnOf "trees_apart" "trees_apart" (defArgs s_trees_apart) (defBody s_trees_apart) (defScope s_trees_apart) .none kV_trees_apart dc_trees_apart pm_trees_apart an_trees_apart cd_trees_apart ct_trees_apart), sl_trees_apart⟩)
    (z116 : PySem.W.codeIn K cd_trees_apart "trees_apart" = true)
    (z117 : PySem.W.keepIn K (.ref f_trees_apart) = true)
    (z118 : PySem.W.nsIn K mainGlobals "apart" = some (some (.ref f_apart)))
    (z119 : K.lookup f_apart = some ⟨oc_apart, od_apart, .func (PySem.W.fnOf "apart" "apart" (defArgs s_apart) (defBody s_apart) (defScope s_apart) .none kV_apart dc_apart pm_apart an_apart cd_apart ct_apart), sl_apart⟩)
    (z120 : PySem.W.codeIn K cd_apart "apart" = true)
    (z121 : PySem.W.keepIn K (.ref f_apart) = true)
    (z122 : PySem.W.nsIn K mainGlobals "most_apart" = some (some (.ref f_most_apart)))
    (z123 : K.lookup f_most_apart = some ⟨oc_most_apart, od_most_apart, .func (PySem.W.fnOf "most_apart" "most_apart" (defArgs s_most_apart) (defBody s_most_apart) (defScope s_most_apart) .none kV_most_apart dc_most_apart pm_most_apart an_most_apart cd_most_apart ct_most_apart), sl_most_apart⟩)
    (z124 : PySem.W.codeIn K cd_most_apart "most_apart" = true)
    (z125 : PySem.W.keepIn K (.ref f_most_apart) = true)
    (z126 : PySem.W.nsIn K mainGlobals "_law_cell_at" = some (some (.ref f__law_cell_at)))
    (z127 : K.lookup f__law_cell_at = some ⟨oc__law_cell_at, od__law_cell_at, .func (PySem.W.fnOf "_law_cell_at" "_law_cell_at" (defArgs s__law_cell_at) (defBody s__law_cell_at) (defScope s__law_cell_at) .none kV__law_cell_at dc__law_cell_at pm__law_cell_at an__law_cell_at cd__law_cell_at ct__law_cell_at), sl__law_cell_at⟩)
    (z128 : PySem.W.codeIn K cd__law_cell_at "_law_cell_at" = true)
    (z129 : PySem.W.keepIn K (.ref f__law_cell_at) = true)
    (z130 : PySem.W.nsIn K mainGlobals "_law_whole" = some (some (.ref f__law_whole)))
    (z131 : K.lookup f__law_whole = some ⟨oc__law_whole, od__law_whole, .func (PySem.W.fnOf "_law_whole" "_law_whole" (defArgs s__law_whole) (defBody s__law_whole) (defScope s__law_whole) .none kV__law_whole dc__law_whole pm__law_whole an__law_whole cd__law_whole ct__law_whole), sl__law_whole⟩)
    (z132 : PySem.W.codeIn K cd__law_whole "_law_whole" = true)
    (z133 : PySem.W.keepIn K (.ref f__law_whole) = true)
    (z134 : PySem.W.nsIn K mainGlobals "_law_pipe_by" = some (some (.ref f__law_pipe_by)))
    (z135 : K.lookup f__law_pipe_by = some ⟨oc__law_pipe_by, od__law_pipe_by, .func (PySem.W.fnOf "_law_pipe_by" "_law_pipe_by" (defArgs s__law_pipe_by) (defBody s__law_pipe_by) (defScope s__law_pipe_by) .none kV__law_pipe_by dc__law_pipe_by pm__law_pipe_by an__law_pipe_by cd__law_pipe_by ct__law_pipe_by), sl__law_pipe_by⟩)
    (z136 : PySem.W.codeIn K cd__law_pipe_by "_law_pipe_by" = true)
    (z137 : PySem.W.keepIn K (.ref f__law_pipe_by) = true)
    (z138 : PySem.W.nsIn K mainGlobals "_law_pipes_by" = some (some (.ref f__law_pipes_by)))
    (z139 : K.lookup f__law_pipes_by = some ⟨oc__law_pipes_by, od__law_pipes_by, .func (PySem.W.fnOf "_law_pipes_by" "_law_pipes_by" (defArgs s__law_pipes_by) (defBody s__law_pipes_by) (defScope s__law_pipes_by) .none kV__law_pipes_by dc__law_pipes_by pm__law_pipes_by an__law_pipes_by cd__law_pipes_by ct__law_pipes_by), sl__law_pipes_by⟩)
    (z140 : PySem.W.codeIn K cd__law_pipes_by "_law_pipes_by" = true)
    (z141 : PySem.W.keepIn K (.ref f__law_pipes_by) = true)
    (z142 : PySem.W.nsIn K mainGlobals "_law_net_by" = some (some (.ref f__law_net_by)))
    (z143 : K.lookup f__law_net_by = some ⟨oc__law_net_by, od__law_net_by, .func (PySem.W.fnOf "_law_net_by" "_law_net_by" (defArgs s__law_net_by) (defBody s__law_net_by) (defScope s__law_net_by) .none kV__law_net_by dc__law_net_by pm__law_net_by an__law_net_by cd__law_net_by ct__law_net_by), sl__law_net_by⟩)
    (z144 : PySem.W.codeIn K cd__law_net_by "_law_net_by" = true)
    (z145 : PySem.W.keepIn K (.ref f__law_net_by) = true)
    (z146 : PySem.W.nsIn K mainGlobals "_law_open" = some (some (.ref f__law_open)))
    (z147 : K.lookup f__law_open = some ⟨oc__law_open, od__law_open, .func (PySem.W.fnOf "_law_open" "_law_open" (defArgs s__law_open) (defBody s__law_open) (defScope s__law_open) .none kV__law_open dc__law_open pm__law_open an__law_open cd__law_open ct__law_open), sl__law_open⟩)
    (z148 : PySem.W.codeIn K cd__law_open "_law_open" = true)
    (z149 : PySem.W.keepIn K (.ref f__law_open) = true)
    (z150 : PySem.W.nsIn K mainGlobals "_law_wet" = some (some (.ref f__law_wet)))
    (z151 : K.lookup f__law_wet = some ⟨oc__law_wet, od__law_wet, .func (PySem.W.fnOf "_law_wet" "_law_wet" (defArgs s__law_wet) (defBody s__law_wet) (defScope s__law_wet) .none kV__law_wet dc__law_wet pm__law_wet an__law_wet cd__law_wet ct__law_wet), sl__law_wet⟩)
    (z152 : PySem.W.codeIn K cd__law_wet "_law_wet" = true)
    (z153 : PySem.W.keepIn K (.ref f__law_wet) = true)
    (z154 : PySem.W.nsIn K mainGlobals "_law_into" = some (some (.ref f__law_into)))
    (z155 : K.lookup f__law_into = some ⟨oc__law_into, od__law_into, .func (PySem.W.fnOf "_law_into" "_law_into" (defArgs s__law_into) (defBody s__law_into) (defScope s__law_into) .none kV__law_into dc__law_into pm__law_into an__law_into cd__law_into ct__law_into), sl__law_into⟩)
    (z156 : PySem.W.codeIn K cd__law_into "_law_into" = true)
    (z157 : PySem.W.keepIn K (.ref f__law_into) = true)
    (z158 : PySem.W.nsIn K mainGlobals "_law_numbers" = some (some (.ref f__law_numbers)))
    (z159 : K.lookup f__law_numbers = some ⟨oc__law_numbers, od__law_numbers, .func (PySem.W.fnOf "_law_numbers" "_law_numbers" (defArgs s__law_numbers) (defBody s__law_numbers) (defScope s__law_numbers) .none kV__law_numbers dc__law_numbers pm__law_numbers an__law_numbers cd__law_numbers ct__law_numbers), sl__law_numbers⟩)
    (z160 : PySem.W.codeIn K cd__law_numbers "_law_numbers" = true)
    (z161 : PySem.W.keepIn K (.ref f__law_numbers) = true)
    (z162 : PySem.W.nsIn K mainGlobals "_law_rising" = some (some (.ref f__law_rising)))
    (z163 : K.lookup f__law_rising = some ⟨oc__law_rising, od__law_rising, .func (PySem.W.fnOf "_law_rising" "_law_rising" (defArgs s__law_rising) (defBody s__law_rising) (defScope s__law_rising) .none kV__law_rising dc__law_rising pm__law_rising an__law_rising cd__law_rising ct__law_rising), sl__law_rising⟩)
    (z164 : PySem.W.codeIn K cd__law_rising "_law_rising" = true)
    (z165 : PySem.W.keepIn K (.ref f__law_rising) = true)
    (z166 : PySem.W.nsIn K mainGlobals "_law_is_tree" = some (some (.ref f__law_is_tree)))
    (z167 : K.lookup f__law_is_tree = some ⟨oc__law_is_tree, od__law_is_tree, .func (PySem.W.fnOf "_law_is_tree" "_law_is_tree" (defArgs s__law_is_tree) (defBody s__law_is_tree) (defScope s__law_is_tree) .none kV__law_is_tree dc__law_is_tree pm__law_is_tree an__law_is_tree cd__law_is_tree ct__law_is_tree), sl__law_is_tree⟩)
    (z168 : PySem.W.codeIn K cd__law_is_tree "_law_is_tree" = true)
    (z169 : PySem.W.keepIn K (.ref f__law_is_tree) = true)
    (z170 : PySem.W.nsIn K mainGlobals "_law_narrow" = some (some (.ref f__law_narrow)))
    (z171 : K.lookup f__law_narrow = some ⟨oc__law_narrow, od__law_narrow, .func (PySem.W.fnOf "_law_narrow" "_law_narrow" (defArgs s__law_narrow) (defBody s__law_narrow) (defScope s__law_narrow) .none kV__law_narrow dc__law_narrow pm__law_narrow an__law_narrow cd__law_narrow ct__law_narrow), sl__law_narrow⟩)
    (z172 : PySem.W.codeIn K cd__law_narrow "_law_narrow" = true)
    (z173 : PySem.W.keepIn K (.ref f__law_narrow) = true)
    (z174 : PySem.W.nsIn K mainGlobals "_law_trees_apart" = some (some (.ref f__law_trees_apart)))
    (z175 : K.lookup f__law_trees_apart = some ⟨oc__law_trees_apart, od__law_trees_apart, .func (PySem.W.fnOf "_law_trees_apart" "_law_trees_apart" (defArgs s__law_trees_apart) (defBody s__law_trees_apart) (defScope s__law_trees_apart) .none kV__law_trees_apart dc__law_trees_apart pm__law_trees_apart an__law_trees_apart cd__law_trees_apart ct__law_trees_apart), sl__law_trees_apart⟩)
    (z176 : PySem.W.codeIn K cd__law_trees_apart "_law_trees_apart" = true)
    (z177 : PySem.W.keepIn K (.ref f__law_trees_apart) = true)
    (z178 : PySem.W.nsIn K mainGlobals "_law_order" = some (some (.ref f__law_order)))
    (z179 : K.lookup f__law_order = some ⟨oc__law_order, od__law_order, .func (PySem.W.fnOf "_law_order" "_law_order" (defArgs s__law_order) (defBody s__law_order) (defScope s__law_order) .none kV__law_order dc__law_order pm__law_order an__law_order cd__law_order ct__law_order), sl__law_order⟩)
    (z180 : PySem.W.codeIn K cd__law_order "_law_order" = true)
    (z181 : PySem.W.keepIn K (.ref f__law_order) = true)
    (z182 : PySem.W.nsIn K mainGlobals "law" = some (some (.ref f_law)))
    (z183 : K.lookup f_law = some ⟨oc_law, od_law, .func (PySem.W.fnOf "law" "law" (defArgs s_law) (defBody s_law) (defScope s_law) .none kV_law dc_law pm_law an_law cd_law ct_law), sl_law⟩)
    (z184 : PySem.W.codeIn K cd_law "law" = true)
    (z185 : PySem.W.keepIn K (.ref f_law) = true)
    (z186 : cd_most_apart = .ref tb_c)
    (z187 : PySem.W.codeHdIn K tb_c tb_P = true)
    (z188 : K.lookup tb_P = none) :
    ∃ T : TX K mg, T.toTXd.f_law = fa ∧ T.toTXd.tb_P = tb_P := by
  have F_check_place := fun_mk (x := "check_place") (qual := "check_place") (st := s_check_place) z23 z24 z25
  have b_check_place := binds_2 (n0 := "net") (n1 := "place") F_check_place (fun _ _ _ _ _ _ _ _ => rfl)
  have F_check_pipe := fun_mk (x := "check_pipe") (qual := "check_pipe") (st := s_check_pipe) z27 z28 z29
  have b_check_pipe := binds_2 (n0 := "net") (n1 := "pipe") F_check_pipe (fun _ _ _ _ _ _ _ _ => rfl)
  have F_Net_init := fun_mk (x := "__init__") (qual := "Net.__init__") (st := s_Net_init) z32 z33 z34
  have b_Net_init := binds_2 (n0 := "self") (n1 := "size") F_Net_init (fun _ _ _ _ _ _ _ _ => rfl)
  have F_Net_size := fun_mk (x := "size") (qual := "Net.size") (st := s_Net_size) z39 z40 z41
  have b_Net_size := binds_1 (n0 := "self") F_Net_size (fun _ _ _ _ _ _ _ => rfl)
  have F_Net_lay := fun_mk (x := "lay") (qual := "Net.lay") (st := s_Net_lay) z44 z45 z46
  have b_Net_lay := binds_3 (n0 := "self") (n1 := "start") (n2 := "goal") F_Net_lay (fun _ _ _ _ _ _ _ _ _ => rfl)
  have F_Net_shut := fun_mk (x := "shut") (qual := "Net.shut") (st := s_Net_shut) z49 z50 z51
  have b_Net_shut := binds_2 (n0 := "self") (n1 := "pipe") F_Net_shut (fun _ _ _ _ _ _ _ _ => rfl)
  have F_Net_turn := fun_mk (x := "turn") (qual := "Net.turn") (st := s_Net_turn) z54 z55 z56
  have b_Net_turn := binds_3 (n0 := "self") (n1 := "pipe") (n2 := "opened") F_Net_turn (fun _ _ _ _ _ _ _ _ _ => rfl)
  have F_Net_pipes := fun_mk (x := "pipes") (qual := "Net.pipes") (st := s_Net_pipes) z59 z60 z61
  have b_Net_pipes := binds_1 (n0 := "self") F_Net_pipes (fun _ _ _ _ _ _ _ => rfl)
  have F_open_pipes := fun_mk (x := "open_pipes") (qual := "open_pipes") (st := s_open_pipes) z63 z64 z65
  have b_open_pipes := binds_1 (n0 := "pipes") F_open_pipes (fun _ _ _ _ _ _ _ => rfl)
  have F_ways_through := fun_mk (x := "ways_through") (qual := "ways_through") (st := s_ways_through) z67 z68 z69
  have b_ways_through := binds_2 (n0 := "pipes") (n1 := "usable") F_ways_through (fun _ _ _ _ _ _ _ _ => rfl)
  have F_turned := fun_mk (x := "turned") (qual := "turned") (st := s_turned) z71 z72 z73
  have b_turned := binds_2 (n0 := "pipes") (n1 := "used") F_turned (fun _ _ _ _ _ _ _ _ => rfl)
  have F_switch := fun_mk (x := "switch") (qual := "switch") (st := s_switch) z75 z76 z77
  have b_switch := binds_2 (n0 := "used") (n1 := "row") F_switch (fun _ _ _ _ _ _ _ _ => rfl)
  have F_parted := fun_mk (x := "parted") (qual := "parted") (st := s_parted) z79 z80 z81
  have b_parted := binds_4 (n0 := "pipes") (n1 := "used") (n2 := "place") (n3 := "count") F_parted (fun _ _ _ _ _ _ _ _ _ _ => rfl)
  have F_ways_apart := fun_mk (x := "ways_apart") (qual := "ways_apart") (st := s_ways_apart) z83 z84 z85
  have b_ways_apart := binds_4 (n0 := "pipes") (n1 := "usable") (n2 := "place") (n3 := "many") F_ways_apart (fun _ _ _ _ _ _ _ _ _ _ => rfl)
  have F_bounding := fun_mk (x := "bounding") (qual := "bounding") (st := s_bounding) z87 z88 z89
  have b_bounding := binds_2 (n0 := "net") (n1 := "rows") F_bounding (fun _ _ _ _ _ _ _ _ => rfl)
  have F_ways := fun_mk (x := "ways") (qual := "ways") (st := s_ways) z91 z92 z93
  have b_ways := binds_3 (n0 := "net") (n1 := "place") (n2 := "many") F_ways (fun _ _ _ _ _ _ _ _ _ => rfl)
  have F_widest := fun_mk (x := "widest") (qual := "widest") (st := s_widest) z95 z96 z97
  have b_widest := binds_2 (n0 := "net") (n1 := "place") F_widest (fun _ _ _ _ _ _ _ _ => rfl)
  have F_without := fun_mk (x := "without") (qual := "without") (st := s_without) z99 z100 z101
  have b_without := binds_2 (n0 := "pipes") (n1 := "taken") F_without (fun _ _ _ _ _ _ _ _ => rfl)
  have F_can_spare := fun_mk (x := "can_spare") (qual := "can_spare") (st := s_can_spare) z103 z104 z105
  have b_can_spare := binds_4 (n0 := "laid") (n1 := "left") (n2 := "pipe") (n3 := "many") F_can_spare (fun _ _ _ _ _ _ _ _ _ _ => rfl)
  have F_next_pipe := fun_mk (x := "next_pipe") (qual := "next_pipe") (st := s_next_pipe) z107 z108 z109
  have b_next_pipe := binds_4 (n0 := "laid") (n1 := "left") (n2 := "wet") (n3 := "many") F_next_pipe (fun _ _ _ _ _ _ _ _ _ _ => rfl)
  have F_grown := fun_mk (x := "grown") (qual := "grown") (st := s_grown) z111 z112 z113
  have b_grown := binds_3 (n0 := "net") (n1 := "left") (n2 := "many") F_grown (fun _ _ _ _ _ _ _ _ _ => rfl)
  have F_trees_apart := fun_mk (x := "trees_apart") (qual := "trees_apart") (st := s_trees_apart) z115 z116 z117
  have b_trees_apart := binds_2 (n0 := "net") (n1 := "many") F_trees_apart (fun _ _ _ _ _ _ _ _ => rfl)
  have F_apart := fun_mk (x := "apart") (qual := "apart") (st := s_apart) z119 z120 z121
  have b_apart := binds_2 (n0 := "net") (n1 := "many") F_apart (fun _ _ _ _ _ _ _ _ => rfl)
  have F_most_apart := fun_mk (x := "most_apart") (qual := "most_apart") (st := s_most_apart) z123 z124 z125
  have b_most_apart := binds_1 (n0 := "net") F_most_apart (fun _ _ _ _ _ _ _ => rfl)
  have F__law_cell_at := fun_mk (x := "_law_cell_at") (qual := "_law_cell_at") (st := s__law_cell_at) z127 z128 z129
  have b__law_cell_at := binds_2 (n0 := "script") (n1 := "k") F__law_cell_at (fun _ _ _ _ _ _ _ _ => rfl)
  have F__law_whole := fun_mk (x := "_law_whole") (qual := "_law_whole") (st := s__law_whole) z131 z132 z133
  have b__law_whole := binds_1 (n0 := "found") F__law_whole (fun _ _ _ _ _ _ _ => rfl)
  have F__law_pipe_by := fun_mk (x := "_law_pipe_by") (qual := "_law_pipe_by") (st := s__law_pipe_by) z135 z136 z137
  have b__law_pipe_by := binds_2 (n0 := "cell") (n1 := "size") F__law_pipe_by (fun _ _ _ _ _ _ _ _ => rfl)
  have F__law_pipes_by := fun_mk (x := "_law_pipes_by") (qual := "_law_pipes_by") (st := s__law_pipes_by) z139 z140 z141
  have b__law_pipes_by := binds_4 (n0 := "script") (n1 := "first") (n2 := "many") (n3 := "size") F__law_pipes_by (fun _ _ _ _ _ _ _ _ _ _ => rfl)
  have F__law_net_by := fun_mk (x := "_law_net_by") (qual := "_law_net_by") (st := s__law_net_by) z143 z144 z145
  have b__law_net_by := binds_2 (n0 := "size") (n1 := "pipes") F__law_net_by (fun _ _ _ _ _ _ _ _ => rfl)
  have F__law_open := fun_mk (x := "_law_open") (qual := "_law_open") (st := s__law_open) z147 z148 z149
  have b__law_open := binds_1 (n0 := "pipes") F__law_open (fun _ _ _ _ _ _ _ => rfl)
  have F__law_wet := fun_mk (x := "_law_wet") (qual := "_law_wet") (st := s__law_wet) z151 z152 z153
  have b__law_wet := binds_2 (n0 := "size") (n1 := "pairs") F__law_wet (fun _ _ _ _ _ _ _ _ => rfl)
  have F__law_into := fun_mk (x := "_law_into") (qual := "_law_into") (st := s__law_into) z155 z156 z157
  have b__law_into := binds_2 (n0 := "pipes") (n1 := "places") F__law_into (fun _ _ _ _ _ _ _ _ => rfl)
  have F__law_numbers := fun_mk (x := "_law_numbers") (qual := "_law_numbers") (st := s__law_numbers) z159 z160 z161
  have b__law_numbers := binds_2 (n0 := "found") (n1 := "bound") F__law_numbers (fun _ _ _ _ _ _ _ _ => rfl)
  have F__law_rising := fun_mk (x := "_law_rising") (qual := "_law_rising") (st := s__law_rising) z163 z164 z165
  have b__law_rising := binds_2 (n0 := "found") (n1 := "bound") F__law_rising (fun _ _ _ _ _ _ _ _ => rfl)
  have F__law_is_tree := fun_mk (x := "_law_is_tree") (qual := "_law_is_tree") (st := s__law_is_tree) z167 z168 z169
  have b__law_is_tree := binds_3 (n0 := "found") (n1 := "size") (n2 := "pipes") F__law_is_tree (fun _ _ _ _ _ _ _ _ _ => rfl)
  have F__law_narrow := fun_mk (x := "_law_narrow") (qual := "_law_narrow") (st := s__law_narrow) z171 z172 z173
  have b__law_narrow := binds_4 (n0 := "found") (n1 := "size") (n2 := "pipes") (n3 := "many") F__law_narrow (fun _ _ _ _ _ _ _ _ _ _ => rfl)
  have F__law_trees_apart := fun_mk (x := "_law_trees_apart") (qual := "_law_trees_apart") (st := s__law_trees_apart) z175 z176 z177
  have b__law_trees_apart := binds_4 (n0 := "found") (n1 := "size") (n2 := "pipes") (n3 := "many") F__law_trees_apart (fun _ _ _ _ _ _ _ _ _ _ => rfl)
  have F__law_order := fun_mk (x := "_law_order") (qual := "_law_order") (st := s__law_order) z179 z180 z181
  have b__law_order := binds_2 (n0 := "cell") (n1 := "size") F__law_order (fun _ _ _ _ _ _ _ _ => rfl)
  have F_law := fun_mk (x := "law") (qual := "law") (st := s_law) z183 z184 z185
  have b_law := binds_1 (n0 := "script") F_law (fun _ _ _ _ _ _ _ => rfl)
  have T : ∃ T : TX K mg, T.toTXd.f_law = f_law ∧ T.toTXd.tb_P = tb_P := ⟨⟨{
    a_Net := a_Net
    t_SPRING := t_SPRING
    t_MOST_PLACES := t_MOST_PLACES
    t_MOST_PIPES := t_MOST_PIPES
    tb_c := tb_c
    tb_P := tb_P
    f_check_place := f_check_place
    fd_check_place := PySem.W.fnOf "check_place" "check_place" (defArgs s_check_place) (defBody s_check_place) (defScope s_check_place) .none kV_check_place dc_check_place pm_check_place an_check_place cd_check_place ct_check_place
    f_check_pipe := f_check_pipe
    fd_check_pipe := PySem.W.fnOf "check_pipe" "check_pipe" (defArgs s_check_pipe) (defBody s_check_pipe) (defScope s_check_pipe) .none kV_check_pipe dc_check_pipe pm_check_pipe an_check_pipe cd_check_pipe ct_check_pipe
    f_Net_init := f_Net_init
    fd_Net_init := PySem.W.fnOf "__init__" "Net.__init__" (defArgs s_Net_init) (defBody s_Net_init) (defScope s_Net_init) .none kV_Net_init dc_Net_init pm_Net_init an_Net_init cd_Net_init ct_Net_init
    f_Net_size := f_Net_size
    fd_Net_size := PySem.W.fnOf "size" "Net.size" (defArgs s_Net_size) (defBody s_Net_size) (defScope s_Net_size) .none kV_Net_size dc_Net_size pm_Net_size an_Net_size cd_Net_size ct_Net_size
    f_Net_lay := f_Net_lay
    fd_Net_lay := PySem.W.fnOf "lay" "Net.lay" (defArgs s_Net_lay) (defBody s_Net_lay) (defScope s_Net_lay) .none kV_Net_lay dc_Net_lay pm_Net_lay an_Net_lay cd_Net_lay ct_Net_lay
    f_Net_shut := f_Net_shut
    fd_Net_shut := PySem.W.fnOf "shut" "Net.shut" (defArgs s_Net_shut) (defBody s_Net_shut) (defScope s_Net_shut) .none kV_Net_shut dc_Net_shut pm_Net_shut an_Net_shut cd_Net_shut ct_Net_shut
    f_Net_turn := f_Net_turn
    fd_Net_turn := PySem.W.fnOf "turn" "Net.turn" (defArgs s_Net_turn) (defBody s_Net_turn) (defScope s_Net_turn) .none kV_Net_turn dc_Net_turn pm_Net_turn an_Net_turn cd_Net_turn ct_Net_turn
    f_Net_pipes := f_Net_pipes
    fd_Net_pipes := PySem.W.fnOf "pipes" "Net.pipes" (defArgs s_Net_pipes) (defBody s_Net_pipes) (defScope s_Net_pipes) .none kV_Net_pipes dc_Net_pipes pm_Net_pipes an_Net_pipes cd_Net_pipes ct_Net_pipes
    f_open_pipes := f_open_pipes
    fd_open_pipes := PySem.W.fnOf "open_pipes" "open_pipes" (defArgs s_open_pipes) (defBody s_open_pipes) (defScope s_open_pipes) .none kV_open_pipes dc_open_pipes pm_open_pipes an_open_pipes cd_open_pipes ct_open_pipes
    f_ways_through := f_ways_through
    fd_ways_through := PySem.W.fnOf "ways_through" "ways_through" (defArgs s_ways_through) (defBody s_ways_through) (defScope s_ways_through) .none kV_ways_through dc_ways_through pm_ways_through an_ways_through cd_ways_through ct_ways_through
    f_turned := f_turned
    fd_turned := PySem.W.fnOf "turned" "turned" (defArgs s_turned) (defBody s_turned) (defScope s_turned) .none kV_turned dc_turned pm_turned an_turned cd_turned ct_turned
    f_switch := f_switch
    fd_switch := PySem.W.fnOf "switch" "switch" (defArgs s_switch) (defBody s_switch) (defScope s_switch) .none kV_switch dc_switch pm_switch an_switch cd_switch ct_switch
    f_parted := f_parted
    fd_parted := PySem.W.fnOf "parted" "parted" (defArgs s_parted) (defBody s_parted) (defScope s_parted) .none kV_parted dc_parted pm_parted an_parted cd_parted ct_parted
    f_ways_apart := f_ways_apart
    fd_ways_apart := PySem.W.fnOf "ways_apart" "ways_apart" (defArgs s_ways_apart) (defBody s_ways_apart) (defScope s_ways_apart) .none kV_ways_apart dc_ways_apart pm_ways_apart an_ways_apart cd_ways_apart ct_ways_apart
    f_bounding := f_bounding
    fd_bounding := PySem.W.fnOf "bounding" "bounding" (defArgs s_bounding) (defBody s_bounding) (defScope s_bounding) .none kV_bounding dc_bounding pm_bounding an_bounding cd_bounding ct_bounding
    f_ways := f_ways
    fd_ways := PySem.W.fnOf "ways" "ways" (defArgs s_ways) (defBody s_ways) (defScope s_ways) .none kV_ways dc_ways pm_ways an_ways cd_ways ct_ways
    f_widest := f_widest
    fd_widest := PySem.W.fnOf "widest" "widest" (defArgs s_widest) (defBody s_widest) (defScope s_widest) .none kV_widest dc_widest pm_widest an_widest cd_widest ct_widest
    f_without := f_without
    fd_without := PySem.W.fnOf "without" "without" (defArgs s_without) (defBody s_without) (defScope s_without) .none kV_without dc_without pm_without an_without cd_without ct_without
    f_can_spare := f_can_spare
    fd_can_spare := PySem.W.fnOf "can_spare" "can_spare" (defArgs s_can_spare) (defBody s_can_spare) (defScope s_can_spare) .none kV_can_spare dc_can_spare pm_can_spare an_can_spare cd_can_spare ct_can_spare
    f_next_pipe := f_next_pipe
    fd_next_pipe := PySem.W.fnOf "next_pipe" "next_pipe" (defArgs s_next_pipe) (defBody s_next_pipe) (defScope s_next_pipe) .none kV_next_pipe dc_next_pipe pm_next_pipe an_next_pipe cd_next_pipe ct_next_pipe
    f_grown := f_grown
    fd_grown := PySem.W.fnOf "grown" "grown" (defArgs s_grown) (defBody s_grown) (defScope s_grown) .none kV_grown dc_grown pm_grown an_grown cd_grown ct_grown
    f_trees_apart := f_trees_apart
    fd_trees_apart := PySem.W.fnOf "trees_apart" "trees_apart" (defArgs s_trees_apart) (defBody s_trees_apart) (defScope s_trees_apart) .none kV_trees_apart dc_trees_apart pm_trees_apart an_trees_apart cd_trees_apart ct_trees_apart
    f_apart := f_apart
    fd_apart := PySem.W.fnOf "apart" "apart" (defArgs s_apart) (defBody s_apart) (defScope s_apart) .none kV_apart dc_apart pm_apart an_apart cd_apart ct_apart
    f_most_apart := f_most_apart
    fd_most_apart := PySem.W.fnOf "most_apart" "most_apart" (defArgs s_most_apart) (defBody s_most_apart) (defScope s_most_apart) .none kV_most_apart dc_most_apart pm_most_apart an_most_apart cd_most_apart ct_most_apart
    f__law_cell_at := f__law_cell_at
    fd__law_cell_at := PySem.W.fnOf "_law_cell_at" "_law_cell_at" (defArgs s__law_cell_at) (defBody s__law_cell_at) (defScope s__law_cell_at) .none kV__law_cell_at dc__law_cell_at pm__law_cell_at an__law_cell_at cd__law_cell_at ct__law_cell_at
    f__law_whole := f__law_whole
    fd__law_whole := PySem.W.fnOf "_law_whole" "_law_whole" (defArgs s__law_whole) (defBody s__law_whole) (defScope s__law_whole) .none kV__law_whole dc__law_whole pm__law_whole an__law_whole cd__law_whole ct__law_whole
    f__law_pipe_by := f__law_pipe_by
    fd__law_pipe_by := PySem.W.fnOf "_law_pipe_by" "_law_pipe_by" (defArgs s__law_pipe_by) (defBody s__law_pipe_by) (defScope s__law_pipe_by) .none kV__law_pipe_by dc__law_pipe_by pm__law_pipe_by an__law_pipe_by cd__law_pipe_by ct__law_pipe_by
    f__law_pipes_by := f__law_pipes_by
    fd__law_pipes_by := PySem.W.fnOf "_law_pipes_by" "_law_pipes_by" (defArgs s__law_pipes_by) (defBody s__law_pipes_by) (defScope s__law_pipes_by) .none kV__law_pipes_by dc__law_pipes_by pm__law_pipes_by an__law_pipes_by cd__law_pipes_by ct__law_pipes_by
    f__law_net_by := f__law_net_by
    fd__law_net_by := PySem.W.fnOf "_law_net_by" "_law_net_by" (defArgs s__law_net_by) (defBody s__law_net_by) (defScope s__law_net_by) .none kV__law_net_by dc__law_net_by pm__law_net_by an__law_net_by cd__law_net_by ct__law_net_by
    f__law_open := f__law_open
    fd__law_open := PySem.W.fnOf "_law_open" "_law_open" (defArgs s__law_open) (defBody s__law_open) (defScope s__law_open) .none kV__law_open dc__law_open pm__law_open an__law_open cd__law_open ct__law_open
    f__law_wet := f__law_wet
    fd__law_wet := PySem.W.fnOf "_law_wet" "_law_wet" (defArgs s__law_wet) (defBody s__law_wet) (defScope s__law_wet) .none kV__law_wet dc__law_wet pm__law_wet an__law_wet cd__law_wet ct__law_wet
    f__law_into := f__law_into
    fd__law_into := PySem.W.fnOf "_law_into" "_law_into" (defArgs s__law_into) (defBody s__law_into) (defScope s__law_into) .none kV__law_into dc__law_into pm__law_into an__law_into cd__law_into ct__law_into
    f__law_numbers := f__law_numbers
    fd__law_numbers := PySem.W.fnOf "_law_numbers" "_law_numbers" (defArgs s__law_numbers) (defBody s__law_numbers) (defScope s__law_numbers) .none kV__law_numbers dc__law_numbers pm__law_numbers an__law_numbers cd__law_numbers ct__law_numbers
    f__law_rising := f__law_rising
    fd__law_rising := PySem.W.fnOf "_law_rising" "_law_rising" (defArgs s__law_rising) (defBody s__law_rising) (defScope s__law_rising) .none kV__law_rising dc__law_rising pm__law_rising an__law_rising cd__law_rising ct__law_rising
    f__law_is_tree := f__law_is_tree
    fd__law_is_tree := PySem.W.fnOf "_law_is_tree" "_law_is_tree" (defArgs s__law_is_tree) (defBody s__law_is_tree) (defScope s__law_is_tree) .none kV__law_is_tree dc__law_is_tree pm__law_is_tree an__law_is_tree cd__law_is_tree ct__law_is_tree
    f__law_narrow := f__law_narrow
    fd__law_narrow := PySem.W.fnOf "_law_narrow" "_law_narrow" (defArgs s__law_narrow) (defBody s__law_narrow) (defScope s__law_narrow) .none kV__law_narrow dc__law_narrow pm__law_narrow an__law_narrow cd__law_narrow ct__law_narrow
    f__law_trees_apart := f__law_trees_apart
    fd__law_trees_apart := PySem.W.fnOf "_law_trees_apart" "_law_trees_apart" (defArgs s__law_trees_apart) (defBody s__law_trees_apart) (defScope s__law_trees_apart) .none kV__law_trees_apart dc__law_trees_apart pm__law_trees_apart an__law_trees_apart cd__law_trees_apart ct__law_trees_apart
    f__law_order := f__law_order
    fd__law_order := PySem.W.fnOf "_law_order" "_law_order" (defArgs s__law_order) (defBody s__law_order) (defScope s__law_order) .none kV__law_order dc__law_order pm__law_order an__law_order cd__law_order ct__law_order
    f_law := f_law
    fd_law := PySem.W.fnOf "law" "law" (defArgs s_law) (defBody s_law) (defScope s_law) .none kV_law dc_law pm_law an_law cd_law ct_law }, {
    mg_Net := PySem.W.mg_of X G z1
    cl_Net := ⟨z2, z3, z4, z5⟩
    na_Net_extent := z6
    na_Net_laid := z7
    mg_SPRING := PySem.W.mg_of X G z8
    mg_MOST_PLACES := PySem.W.mg_of X G z9
    mg_MOST_PIPES := PySem.W.mg_of X G z10
    no_bool := PySem.W.mg_none_of X G z11
    no_enumerate := PySem.W.mg_none_of X G z12
    no_int := PySem.W.mg_none_of X G z13
    no_isinstance := PySem.W.mg_none_of X G z14
    no_len := PySem.W.mg_none_of X G z15
    no_list := PySem.W.mg_none_of X G z16
    no_min := PySem.W.mg_none_of X G z17
    no_range := PySem.W.mg_none_of X G z18
    no_set := PySem.W.mg_none_of X G z19
    no_sorted := PySem.W.mg_none_of X G z20
    no_tuple := PySem.W.mg_none_of X G z21
    F_check_place := F_check_place
    b_check_place := b_check_place
    mg_check_place := PySem.W.mg_of X G z22
    F_check_pipe := F_check_pipe
    b_check_pipe := b_check_pipe
    mg_check_pipe := PySem.W.mg_of X G z26
    F_Net_init := F_Net_init
    b_Net_init := b_Net_init
    mk_Net := ⟨z35, z30, z31, z36⟩
    F_Net_size := F_Net_size
    b_Net_size := b_Net_size
    m_Net_size := ⟨z37, z38, z41⟩
    F_Net_lay := F_Net_lay
    b_Net_lay := b_Net_lay
    m_Net_lay := ⟨z42, z43, z46⟩
    F_Net_shut := F_Net_shut
    b_Net_shut := b_Net_shut
    m_Net_shut := ⟨z47, z48, z51⟩
    F_Net_turn := F_Net_turn
    b_Net_turn := b_Net_turn
    m_Net_turn := ⟨z52, z53, z56⟩
    F_Net_pipes := F_Net_pipes
    b_Net_pipes := b_Net_pipes
    m_Net_pipes := ⟨z57, z58, z61⟩
    F_open_pipes := F_open_pipes
    b_open_pipes := b_open_pipes
    mg_open_pipes := PySem.W.mg_of X G z62
    F_ways_through := F_ways_through
    b_ways_through := b_ways_through
    mg_ways_through := PySem.W.mg_of X G z66
    F_turned := F_turned
    b_turned := b_turned
    mg_turned := PySem.W.mg_of X G z70
    F_switch := F_switch
    b_switch := b_switch
    mg_switch := PySem.W.mg_of X G z74
    F_parted := F_parted
    b_parted := b_parted
    mg_parted := PySem.W.mg_of X G z78
    F_ways_apart := F_ways_apart
    b_ways_apart := b_ways_apart
    mg_ways_apart := PySem.W.mg_of X G z82
    F_bounding := F_bounding
    b_bounding := b_bounding
    mg_bounding := PySem.W.mg_of X G z86
    F_ways := F_ways
    b_ways := b_ways
    mg_ways := PySem.W.mg_of X G z90
    F_widest := F_widest
    b_widest := b_widest
    mg_widest := PySem.W.mg_of X G z94
    F_without := F_without
    b_without := b_without
    mg_without := PySem.W.mg_of X G z98
    F_can_spare := F_can_spare
    b_can_spare := b_can_spare
    mg_can_spare := PySem.W.mg_of X G z102
    F_next_pipe := F_next_pipe
    b_next_pipe := b_next_pipe
    mg_next_pipe := PySem.W.mg_of X G z106
    F_grown := F_grown
    b_grown := b_grown
    mg_grown := PySem.W.mg_of X G z110
    F_trees_apart := F_trees_apart
    b_trees_apart := b_trees_apart
    mg_trees_apart := PySem.W.mg_of X G z114
    F_apart := F_apart
    b_apart := b_apart
    mg_apart := PySem.W.mg_of X G z118
    F_most_apart := F_most_apart
    b_most_apart := b_most_apart
    mg_most_apart := PySem.W.mg_of X G z122
    F__law_cell_at := F__law_cell_at
    b__law_cell_at := b__law_cell_at
    mg__law_cell_at := PySem.W.mg_of X G z126
    F__law_whole := F__law_whole
    b__law_whole := b__law_whole
    mg__law_whole := PySem.W.mg_of X G z130
    F__law_pipe_by := F__law_pipe_by
    b__law_pipe_by := b__law_pipe_by
    mg__law_pipe_by := PySem.W.mg_of X G z134
    F__law_pipes_by := F__law_pipes_by
    b__law_pipes_by := b__law_pipes_by
    mg__law_pipes_by := PySem.W.mg_of X G z138
    F__law_net_by := F__law_net_by
    b__law_net_by := b__law_net_by
    mg__law_net_by := PySem.W.mg_of X G z142
    F__law_open := F__law_open
    b__law_open := b__law_open
    mg__law_open := PySem.W.mg_of X G z146
    F__law_wet := F__law_wet
    b__law_wet := b__law_wet
    mg__law_wet := PySem.W.mg_of X G z150
    F__law_into := F__law_into
    b__law_into := b__law_into
    mg__law_into := PySem.W.mg_of X G z154
    F__law_numbers := F__law_numbers
    b__law_numbers := b__law_numbers
    mg__law_numbers := PySem.W.mg_of X G z158
    F__law_rising := F__law_rising
    b__law_rising := b__law_rising
    mg__law_rising := PySem.W.mg_of X G z162
    F__law_is_tree := F__law_is_tree
    b__law_is_tree := b__law_is_tree
    mg__law_is_tree := PySem.W.mg_of X G z166
    F__law_narrow := F__law_narrow
    b__law_narrow := b__law_narrow
    mg__law_narrow := PySem.W.mg_of X G z170
    F__law_trees_apart := F__law_trees_apart
    b__law_trees_apart := b__law_trees_apart
    mg__law_trees_apart := PySem.W.mg_of X G z174
    F__law_order := F__law_order
    b__law_order := b__law_order
    mg__law_order := PySem.W.mg_of X G z178
    F_law := F_law
    b_law := b_law
    mg_law := PySem.W.mg_of X G z182
    cd_lam := z186
    hd_lam := z187
    nt_lam := z188 }⟩, rfl, rfl⟩
  obtain ⟨T, e, e2⟩ := T
  refine ⟨T, ?_, e2⟩
  have q := hfa.symm.trans T.toTXp.mg_law
  cases q
  rfl
theorem law_mk {l : PySem.W.OpenLaw} {w : World} {K : PySem.W.Frag} {mg : Str → Option Value} {fa tP : Addr} (h : ∃ T : TX K mg, T.toTXd.f_law = fa ∧ T.toTXd.tb_P = tP) :
    ∃ (fd : FuncData) (c : Addr), PySem.W.codeHdIn K c tP = true ∧ K.lookup tP = none ∧ (∀ (s : Shared) (v : Value), BindsTo s fd ⟨[v], []⟩ [("script", v)]) ∧ ∀ base : Heap, K.In base → base.Ns mainGlobals mg → BltAt mg base → FnOk l.prog w K mg base (CX1 l.prog w) lawDeep fa fd ["script"] (sp_law K tP) := by
  obtain ⟨T, rfl, rfl⟩ := h
  refine ⟨T.toTXd.fd_law, T.toTXd.tb_c, T.toTXp.hd_lam, T.toTXp.nt_lam, fun s v => ?_, fun base _ _ hB => ok_law T hB⟩
  obtain ⟨oc, od, kV, doc, pm, an, cdv, ct, osl, e, _, _⟩ := T.toTXp.F_law.ex
  rw [e]
  exact .of_eq rfl
theorem walk {l : PySem.W.OpenLaw} {q : Program} {loose : List Str} {XP : (Str → Option Value) → Heap → Prop} {YP : World → Heap → Prop} {d : DefRec} {K : Params → PySem.W.Frag} {tP : Addr} (hn : l.most = some 63) (hdf : d.params.defaults = [])
    (hY : ∀ (w : World) (h : Heap), YP w h → (K w.params).In h) (hYT : ∀ (w : World) (h : Heap), YP w h → h.get? tP = some (PySem.W.tabObj #[]))
    (F : ∀ (w : World) (mg : Str → Option Value) (fa : Addr) (h : Heap), (K w.params).In h → h.Ns mainGlobals mg → mg d.name = some (.ref fa) →
      ∃ (fd : FuncData) (c : Addr), PySem.W.codeHdIn (K w.params) c tP = true ∧ (K w.params).lookup tP = none ∧ (∀ (s : Shared) (u : Value), BindsTo s fd ⟨[u], []⟩ [("script", u)]) ∧ ∀ base : Heap, (K w.params).In base → base.Ns mainGlobals mg → BltAt mg base → FnOk l.prog w (K w.params) mg base (CX1 l.prog w) lawDeep fa fd ["script"] (sp_law (K w.params) tP)) :
    PySem.W.WalkO q loose XP YP l.row.toRowW d [] (fun f vs => PySem.call f vs) :=
  walk_ofT (n := 63) (k := lawDeep) (x := "script") (CX := fun w => CX1 l.prog w) (sp := fun w => sp_law (K w.params) tP) hn (by decide) hdf ⟨rfl, by decide, by decide⟩ hY hYT F (fun _ _ a ns hl hT hS => ⟨a, ns, rfl, hS, hl, hT, fun _ => rfl⟩) fun _ _ _ _ _ z => by
    obtain ⟨_, _, _, _, _, _, _, _, _, _, q⟩ := z
    exact q.elim
end Sp
open PySem PySem.W PyProof.Rows
set_option maxRecDepth 100000 in
set_option maxHeartbeats 0 in
theorem PySem.Challenge.cw_springways_k11_whole_the_most_trees_holds : PySem.Challenge.rw_springways_k11_whole_the_most_trees.Holds := by
  w_on; o_law; k_head; (case hw => w_witness2)
  k_fill
  refine Sp.walk (l := PySem.Challenge.rw_springways_k11_whole_the_most_trees) rfl rfl (fun w h Y => PySem.W.km_in_of Y) (fun w h Y => PySem.W.km_tabs_of Y _ (List.mem_cons_self ..)) ?F
  case F =>
    intro w mg fa h KX G hmg
    refine Sp.law_mk (l := PySem.Challenge.rw_springways_k11_whole_the_most_trees) ?_
    refine' Sp.all_mk KX G hmg ?z1 ?z2 ?z3 ?z4 ?z5 ?z6 ?z7 ?z8 ?z9 ?z10 ?z11 ?z12 ?z13 ?z14 ?z15 ?z16 ?z17 ?z18 ?z19 ?z20 ?z21 ?z22 ?z23 ?z24 ?z25 ?z26 ?z27 ?z28 ?z29 ?z30 ?z31 ?z32 ?z33 ?z34 ?z35 ?z36 ?z37 ?z38 ?z39 ?z40 ?z41 ?z42 ?z43 ?z44 ?z45 ?z46 ?z47 ?z48 ?z49 ?z50 ?z51 ?z52 ?z53 ?z54 ?z55 ?z56 ?z57 ?z58 ?z59 ?z60 ?z61 ?z62 ?z63 ?z64 ?z65 ?z66 ?z67 ?z68 ?z69 ?z70 ?z71 ?z72 ?z73 ?z74 ?z75 ?z76 ?z77 ?z78 ?z79 ?z80 ?z81 ?z82 ?z83 ?z84 ?z85 ?z86 ?z87 ?z88 ?z89 ?z90 ?z91 ?z92 ?z93 ?z94 ?z95 ?z96 ?z97 ?z98 ?z99 ?z100 ?z101 ?z102 ?z103 ?z104 ?z105 ?z106 ?z107 ?z108 ?z109 ?z110 ?z111 ?z112 ?z113 ?z114 ?z115 ?z116 ?z117 ?z118 ?z119 ?z120 ?z121 ?z122 ?z123 ?z124 ?z125 ?z126 ?z127 ?z128 ?z129 ?z130 ?z131 ?z132 ?z133 ?z134 ?z135 ?z136 ?z137 ?z138 ?z139 ?z140 ?z141 ?z142 ?z143 ?z144 ?z145 ?z146 ?z147 ?z148 ?z149 ?z150 ?z151 ?z152 ?z153 ?z154 ?z155 ?z156 ?z157 ?z158 ?z159 ?z160 ?z161 ?z162 ?z163 ?z164 ?z165 ?z166 ?z167 ?z168 ?z169 ?z170 ?z171 ?z172 ?z173 ?z174 ?z175 ?z176 ?z177 ?z178 ?z179 ?z180 ?z181 ?z182 ?z183 ?z184 ?z185 ?z186 ?z187 ?z188
    (case z1 => k_is)
    (case z2 => k_is)
    (case z3 => k_is)
    (case z4 => k_is)
    (case z5 => k_is)
    (case z6 => k_is)
    (case z7 => k_is)
    (case z8 => k_is)
    (case z9 => k_is)
    (case z10 => k_is)
    (case z11 => k_is)
    (case z12 => k_is)
    (case z13 => k_is)
    (case z14 => k_is)
    (case z15 => k_is)
    (case z16 => k_is)
    (case z17 => k_is)
    (case z18 => k_is)
    (case z19 => k_is)
    (case z20 => k_is)
    (case z21 => k_is)
    (case z22 => k_is)
    (case z23 => k_is)
    (case z24 => k_is)
    (case z25 => k_is)
    (case z26 => k_is)
    (case z27 => k_is)
    (case z28 => k_is)
    (case z29 => k_is)
    (case z30 => k_is)
    (case z31 => k_is)
    (case z32 => k_is)
    (case z33 => k_is)
    (case z34 => k_is)
    (case z35 => k_is)
    (case z36 => k_is)
    (case z37 => k_is)
    (case z38 => k_is)
    (case z39 => k_is)
    (case z40 => k_is)
    (case z41 => k_is)
    (case z42 => k_is)
    (case z43 => k_is)
    (case z44 => k_is)
    (case z45 => k_is)
    (case z46 => k_is)
    (case z47 => k_is)
    (case z48 => k_is)
    (case z49 => k_is)
    (case z50 => k_is)
    (case z51 => k_is)
    (case z52 => k_is)
    (case z53 => k_is)
    (case z54 => k_is)
    (case z55 => k_is)
    (case z56 => k_is)
    (case z57 => k_is)
    (case z58 => k_is)
    (case z59 => k_is)
    (case z60 => k_is)
    (case z61 => k_is)
    (case z62 => k_is)
    (case z63 => k_is)
    (case z64 => k_is)
    (case z65 => k_is)
    (case z66 => k_is)
    (case z67 => k_is)
    (case z68 => k_is)
    (case z69 => k_is)
    (case z70 => k_is)
    (case z71 => k_is)
    (case z72 => k_is)
    (case z73 => k_is)
    (case z74 => k_is)
    (case z75 => k_is)
    (case z76 => k_is)
    (case z77 => k_is)
    (case z78 => k_is)
    (case z79 => k_is)
    (case z80 => k_is)
    (case z81 => k_is)
    (case z82 => k_is)
    (case z83 => k_is)
    (case z84 => k_is)
    (case z85 => k_is)
    (case z86 => k_is)
    (case z87 => k_is)
    (case z88 => k_is)
    (case z89 => k_is)
    (case z90 => k_is)
    (case z91 => k_is)
    (case z92 => k_is)
    (case z93 => k_is)
    (case z94 => k_is)
    (case z95 => k_is)
    (case z96 => k_is)
    (case z97 => k_is)
    (case z98 => k_is)
    (case z99 => k_is)
    (case z100 => k_is)
    (case z101 => k_is)
    (case z102 => k_is)
    (case z103 => k_is)
    (case z104 => k_is)
    (case z105 => k_is)
    (case z106 => k_is)
    (case z107 => k_is)
    (case z108 => k_is)
    (case z109 => k_is)
    (case z110 => k_is)
    (case z111 => k_is)
    (case z112 => k_is)
    (case z113 => k_is)
    (case z114 => k_is)
    (case z115 => k_is)
    (case z116 => k_is)
    (case z117 => k_is)
    (case z118 => k_is)
    (case z119 => k_is)
    (case z120 => k_is)
    (case z121 => k_is)
    (case z122 => k_is)
    (case z123 => k_is)
    (case z124 => k_is)
    (case z125 => k_is)
    (case z126 => k_is)
    (case z127 => k_is)
    (case z128 => k_is)
    (case z129 => k_is)
    (case z130 => k_is)
    (case z131 => k_is)
    (case z132 => k_is)
    (case z133 => k_is)
    (case z134 => k_is)
    (case z135 => k_is)
    (case z136 => k_is)
    (case z137 => k_is)
    (case z138 => k_is)
    (case z139 => k_is)
    (case z140 => k_is)
    (case z141 => k_is)
    (case z142 => k_is)
    (case z143 => k_is)
    (case z144 => k_is)
    (case z145 => k_is)
    (case z146 => k_is)
    (case z147 => k_is)
    (case z148 => k_is)
    (case z149 => k_is)
    (case z150 => k_is)
    (case z151 => k_is)
    (case z152 => k_is)
    (case z153 => k_is)
    (case z154 => k_is)
    (case z155 => k_is)
    (case z156 => k_is)
    (case z157 => k_is)
    (case z158 => k_is)
    (case z159 => k_is)
    (case z160 => k_is)
    (case z161 => k_is)
    (case z162 => k_is)
    (case z163 => k_is)
    (case z164 => k_is)
    (case z165 => k_is)
    (case z166 => k_is)
    (case z167 => k_is)
    (case z168 => k_is)
    (case z169 => k_is)
    (case z170 => k_is)
    (case z171 => k_is)
    (case z172 => k_is)
    (case z173 => k_is)
    (case z174 => k_is)
    (case z175 => k_is)
    (case z176 => k_is)
    (case z177 => k_is)
    (case z178 => k_is)
    (case z179 => k_is)
    (case z180 => k_is)
    (case z181 => k_is)
    (case z182 => k_is)
    (case z183 => k_is)
    (case z184 => k_is)
    (case z185 => k_is)
    (case z186 => exact rfl)
    (case z187 => kernel_rfl)
    (case z188 => kernel_rfl)
#print axioms PySem.Challenge.cw_springways_k11_whole_the_most_trees_holds
