import PyProof.Rows.All
import Wide.All
import OpenK.AllK
import Wide.FinOn
import Lean
import PyProof.EqAt
import PyProof.EqKinds
import PyProof.TupleCall
import PyProof.NeKinds
import PySem.Challenge.RW_oncewise_k31_choices_in_order
set_option Elab.async false
set_option linter.all false
set_option maxRecDepth 100000
/-! THE HAND LAYER, for ints, bools, texts, own classes, DICTS (int and text keys), calls, loops. Paste it whole ahead of your own text; what your proof does not reach may be deleted. -/
namespace L2
open PySem PySem.Spec PyProof.Rows

/-- a key: an int or a str -/
abbrev Key := Sum Int Str
def keyIs : Key → Value → Bool
  | .inl k, v => Value.isInt k v
  | .inr x, v => Value.isStrOf x v
def keyH (w : World) : Key → Int
  | .inl k => hashInt k
  | .inr x => hashStr w x
theorem keyIs_shape : ∀ {k : Key} {v : Value}, keyIs k v = true → (∃ i t, k = Sum.inl i ∧ v = Value.int i t) ∨ (∃ x t, k = Sum.inr x ∧ v = Value.str x t)
  | .inl i, v, h => by
    obtain ⟨t, e⟩ := Value.isInt_shape (k := i) (v := v) h
    exact .inl ⟨i, t, rfl, e⟩
  | .inr x, v, h => by
    obtain ⟨t, e⟩ := Value.isStrOf_shape (x := x) (v := v) h
    exact .inr ⟨x, t, rfl, e⟩
theorem key_ll (a b : Int) : decide ((Sum.inl a : Key) = Sum.inl b) = (a == b) := by
  by_cases e : a = b
  · subst e; simp
  · have h : ¬ (Sum.inl a : Key) = Sum.inl b := fun q => e (Sum.inl.inj q)
    rw [decide_eq_false h]
    exact (beq_eq_false_iff_ne.mpr e).symm
theorem key_rr (a b : Str) : decide ((Sum.inr a : Key) = Sum.inr b) = decide (a = b) := by
  by_cases e : a = b
  · subst e; simp
  · have h : ¬ (Sum.inr a : Key) = Sum.inr b := fun q => e (Sum.inr.inj q)
    rw [decide_eq_false h, decide_eq_false e]
theorem key_lr (a : Int) (b : Str) : decide ((Sum.inl a : Key) = Sum.inr b) = false := decide_eq_false (fun q => nomatch q)
theorem key_rl (a : Str) (b : Int) : decide ((Sum.inr a : Key) = Sum.inl b) = false := decide_eq_false (fun q => nomatch q)

def mixKind (prog : Program) (w : World) : PySem.KeyKind prog w Key where
  is := keyIs
  hash := keyH w
  inj := fun v a b ha hb => by
    rcases keyIs_shape ha with ⟨i, t, rfl, rfl⟩ | ⟨x, t, rfl, rfl⟩
    · rcases keyIs_shape hb with ⟨j, u, rfl, e⟩ | ⟨y, u, rfl, e⟩
      · injection e with e1 _; rw [e1]
      · exact nomatch e
    · rcases keyIs_shape hb with ⟨j, u, rfl, e⟩ | ⟨y, u, rfl, e⟩
      · exact nomatch e
      · injection e with e1 _; rw [e1]
  byValue := fun k v h => by
    rcases keyIs_shape h with ⟨i, t, rfl, rfl⟩ | ⟨x, t, rfl, rfl⟩ <;> rfl
  pyHash := fun hv h => by
    rcases keyIs_shape hv with ⟨i, t, rfl, rfl⟩ | ⟨x, t, rfl, rfl⟩
    · exact wpAny_pyHash_int h
    · exact wpAny_pyHash_str h
  eqBool := fun hu hv h => by
    rcases keyIs_shape hu with ⟨i, t, rfl, rfl⟩ | ⟨x, t, rfl, rfl⟩
    · rcases keyIs_shape hv with ⟨j, u, rfl, rfl⟩ | ⟨y, u, rfl, rfl⟩
      · rw [key_ll] at h; exact wpAny_eqBool_int h
      · rw [key_lr] at h; exact SeqAt.EqAt.int_str i t y u _ _ _ _ h
    · rcases keyIs_shape hv with ⟨j, u, rfl, rfl⟩ | ⟨y, u, rfl, rfl⟩
      · rw [key_rl] at h; exact SeqAt.EqAt.str_int x t j u _ _ _ _ h
      · rw [key_rr] at h; exact wpAny_eqBool_str h
  «strs» := fun k x t v h => by
    rcases keyIs_shape h with ⟨i, u, rfl, e⟩ | ⟨y, u, rfl, e⟩
    · exact nomatch e
    · injection e with e1 _
      subst e1
      cases v <;> rfl

end L2

namespace L2
open PySem PySem.Spec PyProof.Rows

/-- a value, without the heap -/
inductive V where
  | non | bl (b : Bool) | int (i : Int) | str (x : Str) | byt (b : Array UInt8) | flt (b : UInt64) | ref (a : Addr) | ty (n : String)
  deriving DecidableEq

def RelV : V → Value → Prop
  | .non, u => u = Value.none
  | .bl b, u => u = Value.bool b
  | .int i, u => ∃ t, u = Value.int i t
  | .str x, u => ∃ t, u = Value.str x t
  | .byt b, u => ∃ t, u = Value.bytes b t
  | .flt b, u => ∃ t, u = Value.float b t
  | .ref a, u => u = Value.ref a
  | .ty n, u => u = Value.type n

abbrev Vals : List V → List Value → Prop := Paired RelV
theorem Vals.length {xs : List V} {us : List Value} (r : Vals xs us) : xs.length = us.length := Paired.length r
theorem Vals.get : ∀ {xs : List V} {us : List Value} {i : Nat} {x : V}, Vals xs us → xs[i]? = some x → ∃ u, us[i]? = some u ∧ RelV x u
  | _, _, _, _, .nil, e => by simp at e
  | _, _, 0, _, .cons r _, e => by simp at e; subst e; exact ⟨_, rfl, r⟩
  | _, _, i + 1, x, .cons _ t, e => by
    obtain ⟨u, h1, h2⟩ := Vals.get (i := i) (x := x) t (by simpa using e)
    exact ⟨u, by simpa using h1, h2⟩
theorem Vals.append : ∀ {xs ys : List V} {us ws : List Value}, Vals xs us → Vals ys ws → Vals (xs ++ ys) (us ++ ws)
  | _, _, _, _, .nil, s => s
  | _, _, _, _, .cons r t, s => .cons r (Vals.append t s)

def RelO : Option V → Option Value → Prop
  | some v, some u => RelV v u
  | none, none => True
  | _, _ => False
def KV {κ : Type} : List (κ × V) → List (κ × Value) → Prop := Paired fun (p : κ × V) (q : κ × Value) => p.1 = q.1 ∧ RelV p.2 q.2

/-- a key of a dict (00_mix): an int or a text -/
def kV : Key → V
  | .inl i => .int i
  | .inr x => .str x

/-- what stands at a tracked address -/
inductive HO where
  /-- a list -/
  | lst (xs : List V)
  /-- a tuple (never changes) -/
  | tup (xs : List V)
  /-- a dict whose keys are ints and texts; one whose keys are tuples of ints and texts (the empty one is both) -/
  | dK (kvs : List (Key × V)) | dT (kvs : List (List Key × V))
  /-- a set of ints: its members, its size -/
  | set (S : Int → Bool) (n : Nat)
  /-- an instance of the class at C, its dict at dx, its attributes -/
  | ins (C dx : Addr) (fs : List (Str × V))
  /-- the dict of the instance at x -/
  | own (x : Addr)
  /-- the dict of an exception -/
  | xd (fs : List (Str × V))
  /-- a bound method, f of x -/
  | met (f x : Addr)
  /-- a range object lo, lo + 1, .. below hi -/
  | rng (lo hi : Int)
  /-- a thing that is known to the object (the script; a dict while a loop walks it): read, never written while it is so -/
  | frz (o : Obj) (u : HO)
  /-- a code object's table -/
  | tbl (ps : Array Value)
  /-- any other thing, by what is true of its one object (a def of one's own: SetO a S n := HO.ext fun h => ..) -/
  | ext (φ : Heap → Prop)

abbrev Hp := Addr → Option HO
def upd (H : Hp) (a : Addr) (o : HO) : Hp := fun b => if b = a then some o else H b
theorem upd_same {H : Hp} {a : Addr} {o : HO} : upd H a o a = some o := by unfold upd; rw [if_pos rfl]
theorem upd_ne {H : Hp} {a b : Addr} {o : HO} (h : b ≠ a) : upd H a o b = H b := by unfold upd; rw [if_neg h]
theorem ne_of_none {H : Hp} {a b : Addr} {o : HO} (h : H a = some o) (h' : H b = none) : a ≠ b := by
  intro e; subst e; rw [h] at h'; cases h'

section
variable (P : Program) (w : World)
def ObjOk (H : Hp) (h : Heap) (a : Addr) : HO → Prop
  | .lst xs => xs.length ≤ sizeLine ∧ ∃ (its : List Value) (n : Nat), Vals xs its ∧ h.get? a = some { cls := .type "list", data := .seq its.toArray n }
  | .tup xs => xs.length ≤ sizeLine ∧ ∃ its : List Value, Vals xs its ∧ IsTup h a its.toArray
  | .dK kvs => kvs.length ≤ sizeLine ∧ (a == sysModules) = false ∧ ∃ vs, KV kvs vs ∧ h.DictOf (mixKind P w) a vs
  | .dT kvs => kvs.length ≤ sizeLine ∧ (a == sysModules) = false ∧ ∃ xs : List (List Key × Addr × Value),
      Paired (fun (p : List Key × V) (q : List Key × Addr × Value) => p.1 = q.1 ∧ H q.2.1 = some (.tup (p.1.map kV)) ∧ RelV p.2 q.2.2) kvs xs ∧
      ∃ o es ep, h.get? a = some o ∧ o.ExactDict ∧ o.data = .dict es ep ∧ es.toList = xs.map (entryOfKey (tupleKind (mixKind P w))) ∧ (xs.map (·.1)).Nodup
  | .set S n => h.SetOf (intKind P w) a S n
  | .ins C dx fs => H dx = some (.own a) ∧ fs.length ≤ 1000 ∧ dx ≠ a ∧ h.get? a = some (PySem.W.instObj C dx) ∧
      ∃ mA, h.Ns1 dx mA ∧ (∀ f, RelO (fs.lookup f) (mA f)) ∧ PySem.Within mA (fs.map (·.1))
  | .own _ => ∃ o, h.get? a = some o
  | .xd fs => ∃ mA, h.Ns1 a mA ∧ ∀ f, RelO (fs.lookup f) (mA f)
  | .rng lo hi => ∃ t u v, h.get? a = some { cls := .type "range", data := .fields #[.int lo t, .int hi u, .int 1 v] }
  | .frz o u => h.get? a = some o ∧ ObjOk H h a u
  | .tbl ps => h.get? a = some { cls := .none, data := .fields ps }
  | .met f x => h.get? a = some (PySem.W.methodObj (.ref f) (.ref x))
  | .ext φ => φ h ∧ (∃ o, h.get? a = some o) ∧ ∀ h1 h2 : Heap, φ h1 → (∀ o, h1.get? a = some o → h2.get? a = some o) → φ h2
/-- the abstract heap is held -/
def HOk (H : Hp) (h : Heap) : Prop := ∀ a o, H a = some o → ObjOk P w H h a o
end

section
variable {P : Program} {w : World} {H H' : Hp} {h h' : Heap} {a : Addr} {o : HO}
theorem ObjOk.lt (x : ObjOk P w H h a o) : a < h.objs.size := by
  cases o with
  | lst xs => obtain ⟨_, _, _, _, e⟩ := x; exact Heap.lt_size e
  | tup xs => obtain ⟨_, _, _, p⟩ := x; exact p.lt
  | dK kvs => obtain ⟨_, _, _, _, o, _, _, e, _⟩ := x; exact Heap.lt_size e
  | dT kvs => obtain ⟨_, _, _, _, o, _, _, e, _⟩ := x; exact Heap.lt_size e
  | set S n => obtain ⟨o, _, _, _, e, _⟩ := x; exact Heap.lt_size e
  | ins C dx fs => obtain ⟨_, _, _, e, _⟩ := x; exact Heap.lt_size e
  | own y => obtain ⟨_, e⟩ := x; exact Heap.lt_size e
  | xd fs => obtain ⟨_, ⟨_, _, _, e, _⟩, _⟩ := x; exact Heap.lt_size e
  | rng lo hi => obtain ⟨_, _, _, e⟩ := x; exact Heap.lt_size e
  | frz ob u => obtain ⟨e, _⟩ := x; exact Heap.lt_size e
  | tbl ps => exact Heap.lt_size (show h.get? a = some _ from x)
  | met f y => exact Heap.lt_size (show h.get? a = some _ from x)
  | ext φ => obtain ⟨_, ⟨_, e⟩, _⟩ := x; exact Heap.lt_size e
theorem Paired.mapP {α β : Type} {F G : α → β → Prop} : ∀ {l₁ : List α} {l₂ : List β}, Paired F l₁ l₂ → (∀ a b, F a b → G a b) → Paired G l₁ l₂
  | _, _, .nil, _ => .nil
  | _, _, .cons r t, f => .cons (f _ _ r) (Paired.mapP t f)
/-- what an object's description leans on: its own object, its own dict, the tuples -/
theorem ObjOk.stay (x : ObjOk P w H h a o) (k : ∀ b u, (b = a ∨ H b = some (.own a)) → h.get? b = some u → h'.get? b = some u)
    (ho : ∀ b, H b = some (.own a) → H' b = some (.own a)) (ht : ∀ b xs, H b = some (.tup xs) → H' b = some (.tup xs)) : ObjOk P w H' h' a o := by
  induction o with
  | lst xs => obtain ⟨z, its, n, r, e⟩ := x; exact ⟨z, its, n, r, k _ _ (.inl rfl) e⟩
  | tup xs => obtain ⟨z, its, r, ob, e, c⟩ := x; exact ⟨z, its, r, ob, k _ _ (.inl rfl) e, c⟩
  | dK kvs => obtain ⟨z, y, vs, r, ob, es, ep, e, c⟩ := x; exact ⟨z, y, vs, r, ob, es, ep, k _ _ (.inl rfl) e, c⟩
  | dT kvs =>
    obtain ⟨z, y, xs, r, ob, es, ep, e, c⟩ := x
    exact ⟨z, y, xs, Paired.mapP r fun p q z => ⟨z.1, ht _ _ z.2.1, z.2.2⟩, ob, es, ep, k _ _ (.inl rfl) e, c⟩
  | set S n => obtain ⟨ob, es, ep, t, e, c⟩ := x; exact ⟨ob, es, ep, t, k _ _ (.inl rfl) e, c⟩
  | ins C dx fs =>
    obtain ⟨d, z, ne, e, mA, ⟨od, es, ep, e2, c⟩, r⟩ := x
    exact ⟨ho _ d, z, ne, k _ _ (.inl rfl) e, mA, ⟨od, es, ep, k _ _ (.inr d) e2, c⟩, r⟩
  | own y => obtain ⟨ob, e⟩ := x; exact ⟨ob, k _ _ (.inl rfl) e⟩
  | xd fs => obtain ⟨mA, ⟨od, es, ep, e, c⟩, r⟩ := x; exact ⟨mA, ⟨od, es, ep, k _ _ (.inl rfl) e, c⟩, r⟩
  | rng lo hi => obtain ⟨t, u, v, e⟩ := x; exact ⟨t, u, v, k _ _ (.inl rfl) e⟩
  | frz ob u ih => obtain ⟨e, q⟩ := x; exact ⟨k _ _ (.inl rfl) e, ih q⟩
  | tbl ps =>
    have e : h.get? a = some { cls := .none, data := .fields ps } := x
    show h'.get? a = some { cls := .none, data := .fields ps }
    exact k a _ (.inl rfl) e
  | met f y =>
    have e : h.get? a = some (PySem.W.methodObj (.ref f) (.ref y)) := x
    show h'.get? a = some (PySem.W.methodObj (.ref f) (.ref y))
    exact k a _ (.inl rfl) e
  | ext φ => obtain ⟨p, ⟨o, e⟩, st⟩ := x; exact ⟨st _ _ p fun o q => k _ _ (.inl rfl) q, ⟨o, k _ _ (.inl rfl) e⟩, st⟩
theorem HOk.lt (x : HOk P w H h) (e : H a = some o) : a < h.objs.size := (x a o e).lt
theorem HOk.fresh (x : HOk P w H h) (e : h.objs.size ≤ a) : H a = none := by
  cases q : H a with
  | none => rfl
  | some u => exact absurd (Nat.lt_of_lt_of_le (x.lt q) e) (Nat.lt_irrefl _)
/-- every object of the heap is kept -/
theorem HOk.kept (x : HOk P w H h) (k : ∀ b u, h.get? b = some u → h'.get? b = some u) : HOk P w H h' := fun a o e =>
  (x a o e).stay (fun b u _ q => k b u q) (fun _ q => q) fun _ _ q => q
/-- a new object is laid and tracked -/
theorem HOk.laid (x : HOk P w H h) (k : ∀ b u, h.get? b = some u → h'.get? b = some u) (hp : h.objs.size ≤ a) (new : ObjOk P w (upd H a o) h' a o) : HOk P w (upd H a o) h' := fun b u e => by
  have hn := x.fresh hp
  by_cases hb : b = a
  · subst hb; rw [upd_same] at e; cases e; exact new
  · rw [upd_ne hb] at e
    exact (x b u e).stay (fun c v _ q => k c v q) (fun c q => by rw [upd_ne (ne_of_none q hn)]; exact q) fun c xs q => by rw [upd_ne (ne_of_none q hn)]; exact q
end

/-- what may be read as u: it is u, or a known u -/
def Rd (H : Hp) (a : Addr) (u : HO) : Prop := H a = some u ∨ ∃ o, H a = some (.frz o u)
theorem Rd.ok {P : Program} {w : World} {H : Hp} {h : Heap} {a : Addr} {u : HO} (r : Rd H a u) (x : HOk P w H h) : ObjOk P w H h a u := by
  rcases r with r | ⟨o, r⟩
  · exact x a u r
  · obtain ⟨_, q⟩ := x a _ r
    exact q
/-- what may be written -/
def Mut : Option HO → Prop
  | some (.lst _) => True
  | some (.dK _) => True
  | some (.dT _) => True
  | some (.set _ _) => True
  | some (.ins _ _ _) => True
  | some (.ext _) => True
  | _ => False
section
variable {P : Program} {w : World} {H : Hp} {h h' : Heap} {x e : Addr} {o' : HO}
/-- the object at e is changed: x itself, or the dict of the instance x -/
theorem HOk.write (ok : HOk P w H h) (mu : Mut (H x)) (he : e = x ∨ H e = some (.own x)) (k : ∀ b u, b ≠ e → h.get? b = some u → h'.get? b = some u) (heo : ∃ u, h'.get? e = some u)
    (new : ObjOk P w (upd H x o') h' x o') : HOk P w (upd H x o') h' := fun b u q => by
  have nown : ∀ c y, H c = some (.own y) → c ≠ x := fun c y r z => by subst z; rw [r] at mu; exact mu
  have ntup : ∀ c xs, H c = some (.tup xs) → c ≠ x := fun c xs r z => by subst z; rw [r] at mu; exact mu
  by_cases hb : b = x
  · subst hb; rw [upd_same] at q; cases q; exact new
  · rw [upd_ne hb] at q
    by_cases hbe : b = e
    · have q' : H b = some (.own x) := by
        rcases he with z | z
        · exact absurd (hbe.trans z) hb
        · rw [hbe]; exact z
      rw [q] at q'; cases q'
      obtain ⟨v, hv⟩ := heo
      exact ⟨v, by rw [hbe]; exact hv⟩
    · refine (ok b u q).stay (fun c v hc r => k c v ?_ r) (fun c r => by rw [upd_ne (nown c b r)]; exact r) fun c xs r => by rw [upd_ne (ntup c xs r)]; exact r
      rcases hc with rfl | hc
      · exact hbe
      · rintro rfl
        rcases he with z | z
        · exact nown c b hc z
        · rw [hc] at z; cases z; exact hb rfl
end

/-! ### kept unless tracked; of the frames at fs (the callers') the slots may change (an exception that passes writes there); of the records at ex (iterators) nothing is said -/
structure Un (fs ex : List Addr) (H H' : Hp) (h h' : Heap) : Prop where
  keep : ∀ b o, h.get? b = some o → H b = none → b ∉ fs → b ∉ ex → h'.get? b = some o
  slot : ∀ b o, h.get? b = some o → H b = none → b ∈ fs → b ∉ ex → ∃ sl, h'.get? b = some { o with slots := sl }
  free : ∀ b o, h.get? b = some o → H b = none → b ∉ ex → H' b = none
  there : ∀ b o, h.get? b = some o → b ∉ ex → ∃ o', h'.get? b = some o'
  tups : ∀ b xs, H b = some (.tup xs) → H' b = some (.tup xs)
  frzs : ∀ b o u, H b = some (.frz o u) → H' b = some (.frz o u)
  tbls : ∀ b ps, H b = some (.tbl ps) → ∃ more, H' b = some (.tbl (ps ++ more))
section
variable {fs fs' ex ex' : List Addr} {H H1 H2 : Hp} {h h1 h2 h' : Heap} {a x e : Addr} {o : HO}
theorem Un.any (u : Un fs ex H H1 h h1) {b : Addr} {ob : Obj} (q : h.get? b = some ob) (n : H b = none) (hx : b ∉ ex) : ∃ sl, h1.get? b = some { ob with slots := sl } := by
  by_cases hb : b ∈ fs
  · exact u.slot b ob q n hb hx
  · exact ⟨ob.slots, u.keep b ob q n hb hx⟩
theorem Un.kept (k : ∀ b u, h.get? b = some u → h'.get? b = some u) : Un fs ex H H h h' :=
  ⟨fun b ob q _ _ _ => k b ob q, fun b ob q _ _ _ => ⟨ob.slots, k b ob q⟩, fun _ _ _ n _ => n, fun b ob q _ => ⟨ob, k b ob q⟩, fun _ _ q => q, fun _ _ _ q => q, fun _ ps q => ⟨#[], by rw [q]; simp⟩⟩
theorem Un.refl : Un fs ex H H h h := Un.kept fun _ _ q => q
theorem Un.laid (k : ∀ b u, h.get? b = some u → h'.get? b = some u) (hp : h.objs.size ≤ a) (hn : H a = none) : Un fs ex H (upd H a o) h h' where
  keep := fun b u q _ _ _ => k b u q
  slot := fun b u q _ _ _ => ⟨u.slots, k b u q⟩
  free := fun b u q n _ => by rw [upd_ne (Nat.ne_of_lt (Nat.lt_of_lt_of_le (Heap.lt_size q) hp))]; exact n
  there := fun b u q _ => ⟨u, k b u q⟩
  tups := fun b xs q => by rw [upd_ne (ne_of_none q hn)]; exact q
  frzs := fun b u xs q => by rw [upd_ne (ne_of_none q hn)]; exact q
  tbls := fun b ps q => ⟨#[], by rw [upd_ne (ne_of_none q hn), q]; simp⟩
theorem Un.write (mu : Mut (H x)) (he : e = x ∨ H e = some (.own x)) (k : ∀ b u, b ≠ e → h.get? b = some u → h'.get? b = some u) (heo : ∃ u, h'.get? e = some u) : Un fs ex H (upd H x o) h h' := by
  have hx : ∀ b, H b = none → b ≠ x := fun b n z => by subst z; rw [n] at mu; exact mu
  have hb : ∀ b, H b = none → b ≠ e := fun b n z => by
    subst z
    rcases he with r | r
    · exact hx b n r
    · rw [n] at r; cases r
  have hm : ∀ b u, H b = some u → ¬ Mut (some u) → b ≠ x := fun b u q nm z => by subst z; rw [q] at mu; exact nm mu
  refine ⟨fun b u q n _ _ => k b u (hb b n) q, fun b u q n _ _ => ⟨u.slots, k b u (hb b n) q⟩, fun b u q n _ => by rw [upd_ne (hx b n)]; exact n, fun b u q _ => ?_,
    fun b xs q => by rw [upd_ne (hm b _ q fun z => z)]; exact q, fun b u xs q => by rw [upd_ne (hm b _ q fun z => z)]; exact q, fun b ps q => ⟨#[], by rw [upd_ne (hm b _ q fun z => z), q]; simp⟩⟩
  by_cases hbe : b = e
  · subst hbe; exact heo
  · exact ⟨u, k b u hbe q⟩
end

/-! ### the heap without what is tracked -/
def trk (h : Heap) (H : Hp) : List Addr := (List.range h.objs.size).filter fun a => (H a).isSome
def hidT (h : Heap) (H : Hp) : Heap := PySem.W.hideAll h (trk h H)
theorem hidT_size (h : Heap) (H : Hp) : (hidT h H).objs.size = h.objs.size := PySem.W.hideAll_size _ _
theorem hidT_get {h : Heap} {H : Hp} {b : Addr} {o : Obj} (e : h.get? b = some o) (n : H b = none) : (hidT h H).get? b = some o :=
  PySem.W.hideAll_get _ e fun hm => by
    have q : (H b).isSome = true := (List.mem_filter.mp hm).2
    rw [n] at q; simp at q
theorem of_hidT {h : Heap} {H : Hp} {b : Addr} {o : Obj} (e : (hidT h H).get? b = some o) : h.get? b = some o ∧ H b = none := by
  have e' : h.get? b = some o := PySem.W.of_hideAll (trk h H) e
  refine ⟨e', ?_⟩
  cases q : H b with
  | none => rfl
  | some x =>
    have hm : b ∈ trk h H := List.mem_filter.mpr ⟨List.mem_range.mpr (Heap.lt_size e'), by simp [q]⟩
    have z : (hidT h H).get? b = none := PySem.W.hideAll_none (trk h H) hm
    rw [z] at e; cases e

/-! ### OpenK's ledger, filled with every new object but one -/
end L2

namespace L2
open PySem PySem.Spec PyProof.Rows

/-- the module's facts, over the base: the heap at the law's entry without what is tracked there -/
structure Mod (K : PySem.W.Frag) (mg : Str → Option Value) (base : Heap) : Prop where
  kin : K.In base
  glob : base.Ns mainGlobals mg
  blt : ∃ mb, base.Ns builtinsNs mb ∧ ∀ x : Str, x ≠ "__name__" → mb x = bootBuiltins x
  nolimit : base.NoLimit

/-- the context: a def's body (or a comprehension's block) running. base: fixed through the whole law; s₀, H₀: the entry; outer: the frames whose slots others may change (a def's callers); stack: all frames that run;
   ex: iterators that were made ahead of the entry and are walked here (a comprehension's); fn: the names whose cells were made at the entry (a def: all; a comprehension's block: its own); calm: not within an except suite; pn: pins that every state bears; xe: what is wanted of an exception that leaves the code -/
structure Cx where
  prog : Program
  w : World
  K : PySem.W.Frag
  mg : Str → Option Value
  base : Heap
  A : Around
  N : List Str
  s₀ : Shared
  H₀ : Hp
  env : Env
  outer : List Env
  stack : List Env
  ex : List Addr
  fn : Str → Bool
  calm : Bool
  pn : List (Addr × Obj)
  xe : Value → Shared → Prop
/-- the callers' frames -/
def frs (l : List Env) : List Addr := l.filterMap (·.frame)
abbrev Cx.fs (X : Cx) : List Addr := frs X.outer

def Vis (sc : Scope) (x : Str) : Prop := sc.names.lookup x = some .local ∨ sc.names.lookup x = some .cell ∨ sc.names.lookup x = some .free
def Loc (sc : Scope) (x : Str) : Prop := sc.names.lookup x = some .local ∨ sc.names.lookup x = some .cell
def Look (env : Env) (h : Heap) (m : Str → Option Value) (x : Str) (u : Value) : Prop :=
  (env.kindOf x = some .local ∧ m x = some u) ∨ ((env.kindOf x = some .cell ∨ env.kindOf x = some .free) ∧ ∃ c, env.cells.lookup x = some c ∧ h.IsCell c (some u))

structure Cx.Ok (X : Cx) : Prop where
  mod : Mod X.K X.mg X.base
  kind : X.env.scope.kind = .function
  glob : X.env.globals = mainGlobals
  blt : X.env.builtins = builtinsNs
  above : X.s₀.heap.objs.size ≤ X.env.locals
  inj : ∀ x y c, X.env.cells.lookup x = some c → X.env.cells.lookup y = some c → x = y
  has : ∀ x, (X.env.kindOf x = some .cell ∨ X.env.kindOf x = some .free) → ∃ c, X.env.cells.lookup x = some c
  cab : ∀ x c, X.fn x = true → X.env.cells.lookup x = some c → X.s₀.heap.objs.size ≤ c
  hd : X.calm = true → X.A.handled = none
  frames : X.A.frames = some X.stack
  stk : X.stack = X.outer ∨ (X.stack = X.env :: X.outer ∧ X.env.frame = some X.env.locals)
  exf : ∀ b ∈ X.ex, b ≠ X.env.locals ∧ ∀ x c, X.env.cells.lookup x = some c → c ≠ b
  bs : ∀ b o, X.base.get? b = some o → X.s₀.heap.get? b = some o ∧ X.H₀ b = none
  bsz : X.base.objs.size ≤ X.s₀.heap.objs.size
  noex : ∀ b o, X.base.get? b = some o → b ∉ X.ex
  exfs : ∀ b ∈ X.ex, b ∉ X.fs
  funs : X.s₀.heap.FunFrames X.base X.outer
  frf : ∀ b ∈ X.fs, X.H₀ b = none

structure Inv (X : Cx) (pins : List (Addr × Obj)) (σ : List (Option V)) (H : Hp) (s : Shared) : Prop where
  ok : X.Ok
  os : s.os = X.s₀.os
  bare : AllBare s.gens
  base : Un X.fs X.ex X.H₀ H X.s₀.heap s.heap
  loc : ∃ m, s.heap.Ns X.env.locals m ∧ ∀ (i : Nat) (x : Str) (v : V), X.N[i]? = some x → σ[i]? = some (some v) → Vis X.env.scope x → ∃ u, RelV v u ∧ Look X.env s.heap m x u
  cell : ∀ x c, X.env.cells.lookup x = some c → ∃ v, s.heap.IsCell c v
  free : H X.env.locals = none
  freeC : ∀ x c, X.env.cells.lookup x = some c → H c = none
  pin : ∀ p ∈ X.pn ++ pins, s.heap.get? p.1 = some p.2 ∧ H p.1 = none ∧ p.1 ≠ X.env.locals ∧ p.1 ∉ X.fs ∧ ∀ v, p.2.data ≠ .cell v
  hok : HOk X.prog X.w H s.heap
  len : σ.length = X.N.length

section
variable {X : Cx} {pins : List (Addr × Obj)} {σ : List (Option V)} {H H' : Hp} {s : Shared} {h' : Heap}

theorem Cx.Ok.nofr (ok : X.Ok) {b : Addr} {o : Obj} (e : X.base.get? b = some o) : b ∉ X.fs := fun hb => by
  have := (ok.funs.mem hb).1
  rw [e] at this; cases this
theorem Inv.bs (I : Inv X pins σ H s) : ∀ b o, X.base.get? b = some o → s.heap.get? b = some o ∧ H b = none := fun b o e =>
  ⟨I.base.keep b o (I.ok.bs b o e).1 (I.ok.bs b o e).2 (I.ok.nofr e) (I.ok.noex b o e), I.base.free b o (I.ok.bs b o e).1 (I.ok.bs b o e).2 (I.ok.noex b o e)⟩
theorem Inv.bk (I : Inv X pins σ H s) : ∀ b o, X.base.get? b = some o → s.heap.get? b = some o := fun b o e => (I.bs b o e).1
theorem Inv.mod (I : Inv X pins σ H s) : Mod X.K X.mg X.base := I.ok.mod
theorem Inv.kIn (I : Inv X pins σ H s) : X.K.In s.heap := I.ok.mod.kin.keeps I.bk
theorem Inv.lt (I : Inv X pins σ H s) : X.env.locals < s.heap.objs.size := let ⟨_, hn, _⟩ := I.loc; hn.lt
theorem Inv.sz (I : Inv X pins σ H s) : X.s₀.heap.objs.size ≤ s.heap.objs.size := Nat.le_trans I.ok.above (Nat.le_of_lt I.lt)
theorem Inv.nofs (I : Inv X pins σ H s) {a : Addr} (h : s.heap.objs.size ≤ a) : a ∉ X.fs := fun hb => by
  obtain ⟨_, o, ho, _⟩ := I.ok.funs.mem hb
  exact absurd (Nat.lt_of_lt_of_le (Heap.lt_size ho) (Nat.le_trans I.sz h)) (Nat.lt_irrefl _)
theorem Inv.cne (I : Inv X pins σ H s) : ∀ x c, X.env.cells.lookup x = some c → c ≠ X.env.locals := fun x c e z => by
  obtain ⟨v, o, ho, hd⟩ := I.cell x c e
  obtain ⟨m, ⟨o', es, ep, ho', hd', _⟩, _⟩ := I.loc
  rw [z, ho'] at ho; cases ho; rw [hd'] at hd; cases hd
theorem Inv.funs (I : Inv X pins σ H s) : s.heap.FunFrames X.base X.outer := by
  have all : ∀ (l : List Env), (∀ b ∈ frs l, b ∈ X.fs) → X.s₀.heap.FunFrames X.base l → s.heap.FunFrames X.base l := by
    intro l
    induction l with
    | nil => intro _ _; trivial
    | cons env r ih =>
      intro hs hl
      obtain ⟨hk, ⟨L, o, hf, hn, ho, hd⟩, hr⟩ := hl
      have hL : L ∈ X.fs := hs L (by unfold frs; rw [List.filterMap_cons, hf]; exact List.mem_cons_self)
      obtain ⟨sl, e⟩ := I.base.slot L o ho (I.ok.frf L hL) hL fun z => I.ok.exfs L z hL
      exact ⟨hk, ⟨L, _, hf, hn, e, hd⟩, ih (fun b hb => hs b (by unfold frs; rw [List.filterMap_cons, hf]; exact List.mem_cons_of_mem _ hb)) hr⟩
  exact all X.outer (fun _ hb => hb) I.ok.funs

/-- the frames that run, for a call -/
theorem Inv.stack (I : Inv X pins σ H s) : s.heap.FunFrames X.base X.stack := by
  rcases I.ok.stk with e | ⟨e, hf⟩
  · rw [e]; exact I.funs
  · rw [e]
    obtain ⟨m, hn, _⟩ := I.loc
    refine .cons (by rw [I.ok.kind]; decide) hf hn ?_ I.funs
    exact Heap.get?_none_of_le (Nat.le_trans I.ok.bsz I.ok.above)
theorem Inv.stkSub (I : Inv X pins σ H s) : ∀ b ∈ frs X.stack, b ∈ X.env.locals :: X.fs := fun b hb => by
  rcases I.ok.stk with e | ⟨e, hf⟩
  · rw [e] at hb; exact List.mem_cons_of_mem _ hb
  · rw [e] at hb
    unfold frs at hb
    rw [List.filterMap_cons, hf] at hb
    exact hb
theorem Inv.stkFree (I : Inv X pins σ H s) : ∀ b ∈ frs X.stack, H b = none := fun b hb => by
  rcases List.mem_cons.mp (I.stkSub b hb) with e | hb
  · rw [e]; exact I.free
  · obtain ⟨_, o, ho, _⟩ := I.ok.funs.mem hb
    exact I.base.free b o ho (I.ok.frf b hb) fun z => I.ok.exfs b z hb

/-- THE STEP: the untracked objects but the frame and the records at ch are kept (the callers' frames up to slots), the frame's map is kept, the new abstract heap is held -/
theorem Inv.step {g' : Array GenState} {t' : Nat} {d' : Drawn} {ch : List Addr} (I : Inv X pins σ H s)
    (hch : ∀ b ∈ ch, (b ∈ X.ex ∨ X.s₀.heap.objs.size ≤ b) ∧ b ≠ X.env.locals ∧ (∀ x c, X.env.cells.lookup x = some c → c ≠ b) ∧ ∀ p ∈ X.pn ++ pins, p.1 ≠ b)
    (keep : ∀ b o, b ≠ X.env.locals → b ∉ X.fs → b ∉ ch → s.heap.get? b = some o → H b = none → h'.get? b = some o)
    (slot : ∀ b o, b ≠ X.env.locals → b ∈ X.fs → b ∉ ch → s.heap.get? b = some o → H b = none → ∃ sl, h'.get? b = some { o with slots := sl }) (free : ∀ b o, b ∉ ch → s.heap.get? b = some o → H b = none → H' b = none)
    (there : ∀ b o, b ∉ ch → s.heap.get? b = some o → ∃ o', h'.get? b = some o')
    (tups : ∀ b xs, H b = some (.tup xs) → H' b = some (.tup xs)) (frzs : ∀ b o u, H b = some (.frz o u) → H' b = some (.frz o u)) (tbls : ∀ b ps, H b = some (.tbl ps) → ∃ more, H' b = some (.tbl (ps ++ more)))
    (ns : ∀ m, s.heap.Ns X.env.locals m → h'.Ns X.env.locals m) (hok : HOk X.prog X.w H' h') (hg : AllBare g') :
    Inv X pins σ H' { s with heap := h', gens := g', drawn := d', toks := t' } := by
  have neL : ∀ b o, X.s₀.heap.get? b = some o → b ≠ X.env.locals := fun b o e => Nat.ne_of_lt (Nat.lt_of_lt_of_le (Heap.lt_size e) I.ok.above)
  have neC : ∀ b o, X.s₀.heap.get? b = some o → b ∉ X.ex → b ∉ ch := fun b o e hx hb => by
    rcases (hch b hb).1 with z | z
    · exact hx z
    · exact absurd (Nat.lt_of_lt_of_le (Heap.lt_size e) z) (Nat.lt_irrefl _)
  have cellK : ∀ x c, X.env.cells.lookup x = some c → ∀ v, s.heap.IsCell c v → h'.IsCell c v := fun x c e v ⟨o, ho, hd⟩ => by
    have nch : c ∉ ch := fun z => (hch c z).2.2.1 x c e rfl
    by_cases hc : c ∈ X.fs
    · obtain ⟨sl, q⟩ := slot c o (I.cne x c e) hc nch ho (I.freeC x c e)
      exact ⟨_, q, hd⟩
    · exact ⟨o, keep c o (I.cne x c e) hc nch ho (I.freeC x c e), hd⟩
  refine ⟨I.ok, I.os, hg, ⟨fun b o e n hb hx => ?_, fun b o e n hb hx => ?_, fun b o e n hx => ?_, fun b o e hx => ?_, fun b xs e => tups b xs (I.base.tups b xs e), fun b o xs e => frzs b o xs (I.base.frzs b o xs e), fun b ps e => ?_⟩, ?_, fun x c e => ?_, ?_, fun x c e => ?_, fun p hp => ?_, hok, I.len⟩
  · exact keep b o (neL b o e) hb (neC b o e hx) (I.base.keep b o e n hb hx) (I.base.free b o e n hx)
  · obtain ⟨sl, e1⟩ := I.base.slot b o e n hb hx
    obtain ⟨sl', e2⟩ := slot b _ (neL b o e) hb (neC b o e hx) e1 (I.base.free b o e n hx)
    exact ⟨sl', e2⟩
  · obtain ⟨o', e1⟩ := I.base.there b o e hx
    exact free b o' (neC b o e hx) e1 (I.base.free b o e n hx)
  · obtain ⟨o', e1⟩ := I.base.there b o e hx
    exact there b o' (neC b o e hx) e1
  · obtain ⟨m1, e1⟩ := I.base.tbls b ps e
    obtain ⟨m2, e2⟩ := tbls b _ e1
    exact ⟨m1 ++ m2, by rw [e2, Array.append_assoc]⟩
  · obtain ⟨m, hn, hl⟩ := I.loc
    refine ⟨m, ns m hn, fun i x v e1 e2 e3 => ?_⟩
    obtain ⟨u, r, l⟩ := hl i x v e1 e2 e3
    refine ⟨u, r, ?_⟩
    rcases l with l | ⟨k, c, e, z⟩
    · exact .inl l
    · exact .inr ⟨k, c, e, cellK x c e _ z⟩
  · obtain ⟨v, z⟩ := I.cell x c e
    exact ⟨v, cellK x c e v z⟩
  · obtain ⟨m, ⟨o, _, _, ho, _⟩, _⟩ := I.loc
    exact free _ o (fun z => (hch _ z).2.1 rfl) ho I.free
  · obtain ⟨v, o, ho, hd⟩ := I.cell x c e
    exact free c o (fun z => (hch c z).2.2.1 x c e rfl) ho (I.freeC x c e)
  · obtain ⟨e, n, ne, nf, d⟩ := I.pin p hp
    have nch : p.1 ∉ ch := fun z => (hch p.1 z).2.2.2 p hp rfl
    exact ⟨keep p.1 p.2 ne nf nch e n, free p.1 p.2 nch e n, ne, nf, d⟩
/-- .. where the frame's own object is kept too -/
theorem Inv.un {t' : Nat} (I : Inv X pins σ H s) (u : Un X.fs [] H H' s.heap h') (hok : HOk X.prog X.w H' h') : Inv X pins σ H' { s with heap := h', toks := t' } := by
  obtain ⟨m, ⟨o, es, ep, ho, r⟩, _⟩ := id I.loc
  obtain ⟨sl, hL⟩ := u.any ho I.free (by simp)
  exact I.step (g' := s.gens) (d' := s.drawn) (ch := []) (fun _ z => nomatch z) (fun b o _ hb _ e n => u.keep b o e n hb (by simp)) (fun b o _ hb _ e n => u.slot b o e n hb (by simp)) (fun b o _ e n => u.free b o e n (by simp)) (fun b o _ e => u.there b o e (by simp)) u.tups u.frzs u.tbls (fun m' hm => by
    obtain ⟨o', es', ep', ho', r'⟩ := hm
    rw [ho] at ho'; cases ho'
    exact ⟨_, es', ep', hL, r'⟩) hok I.bare
/-- behind a call (or a comprehension's block): the slots of this frame may have changed too, the records at ch may have turned -/
theorem Inv.call {g' : Array GenState} {t' : Nat} {d' : Drawn} {ch : List Addr} (I : Inv X pins σ H s) (u : Un (frs X.stack) ch H H' s.heap h') (hok : HOk X.prog X.w H' h') (hg : AllBare g')
    (hch : ∀ b ∈ ch, (b ∈ X.ex ∨ X.s₀.heap.objs.size ≤ b) ∧ b ≠ X.env.locals ∧ (∀ x c, X.env.cells.lookup x = some c → c ≠ b) ∧ ∀ p ∈ X.pn ++ pins, p.1 ≠ b) :
    Inv X pins σ H' { s with heap := h', gens := g', drawn := d', toks := t' } := by
  obtain ⟨m, ⟨o, es, ep, ho, r⟩, _⟩ := id I.loc
  obtain ⟨sl, hL⟩ := u.any ho I.free fun z => (hch _ z).2.1 rfl
  exact I.step (ch := ch) hch (fun b o hL hb hc e n => u.keep b o e n (fun z => (List.mem_cons.mp (I.stkSub b z)).elim hL hb) hc) (fun b o _ _ hc e n => u.any e n hc) (fun b o hc e n => u.free b o e n hc) (fun b o hc e => u.there b o e hc) u.tups u.frzs u.tbls (fun m' hm => by
    obtain ⟨o', es', ep', ho', r'⟩ := hm
    rw [ho] at ho'; cases ho'
    exact ⟨_, es', ep', hL, r'⟩) hok hg
/-- an untracked record of ours (an iterator) has turned -/
theorem Inv.turned {t' : Nat} {it : Addr} (I : Inv X pins σ H s) (k : ∀ b o, b ≠ it → s.heap.get? b = some o → h'.get? b = some o) (hn : H it = none) (hL : it ≠ X.env.locals)
    (h1 : it ∈ X.ex ∨ X.s₀.heap.objs.size ≤ it) (h2 : ∀ x c, X.env.cells.lookup x = some c → c ≠ it) (h3 : ∀ p ∈ X.pn ++ pins, p.1 ≠ it) : Inv X pins σ H { s with heap := h', toks := t' } := by
  have nit : ∀ b u, H b = some u → b ≠ it := fun b u e z => by rw [z, hn] at e; cases e
  refine I.step (g' := s.gens) (d' := s.drawn) (ch := [it]) (fun b hb => ?_) (fun b o _ _ hc e _ => k b o (fun z => hc (by simp [z])) e) (fun b o _ _ hc e _ => ⟨o.slots, k b o (fun z => hc (by simp [z])) e⟩) (fun _ _ _ _ n => n)
    (fun b o hc e => ⟨o, k b o (fun z => hc (by simp [z])) e⟩) (fun _ _ e => e) (fun _ _ _ e => e) (fun b ps e => ⟨#[], by rw [e]; simp⟩) (fun m hm => ?_) (fun b u e => ?_) I.bare
  · have e : b = it := by simpa using hb
    subst e
    exact ⟨h1, hL, h2, h3⟩
  · obtain ⟨o, es, ep, ho, r⟩ := hm
    exact ⟨o, es, ep, k _ o (Ne.symm hL) ho, r⟩
  · refine (I.hok b u e).stay (fun c v hc q => k c v ?_ q) (fun _ q => q) fun _ _ q => q
    rcases hc with z | z
    · rw [z]; exact nit b u e
    · exact nit c _ z
theorem Inv.tok (I : Inv X pins σ H s) (t : Nat) : Inv X pins σ H { s with toks := t } := I.un (h' := s.heap) (t' := t) Un.refl I.hok
/-- all objects kept -/
theorem Inv.kept {t' : Nat} (I : Inv X pins σ H s) (k : ∀ b u, s.heap.get? b = some u → h'.get? b = some u) : Inv X pins σ H { s with heap := h', toks := t' } := I.un (Un.kept k) (I.hok.kept k)
/-- a new object laid and tracked -/
theorem Inv.laid {a : Addr} {o : HO} {t' : Nat} (I : Inv X pins σ H s) (k : ∀ b u, s.heap.get? b = some u → h'.get? b = some u) (hp : s.heap.objs.size ≤ a) (new : ObjOk X.prog X.w (upd H a o) h' a o) :
    Inv X pins σ (upd H a o) { s with heap := h', toks := t' } := I.un (Un.laid k hp (I.hok.fresh hp)) (I.hok.laid k hp new)
/-- an object written -/
theorem Inv.write {x e : Addr} {o : HO} {t' : Nat} (I : Inv X pins σ H s) (mu : Mut (H x)) (he : e = x ∨ H e = some (.own x)) (k : ∀ b u, b ≠ e → s.heap.get? b = some u → h'.get? b = some u) (heo : ∃ u, h'.get? e = some u)
    (new : ObjOk X.prog X.w (upd H x o) h' x o) : Inv X pins σ (upd H x o) { s with heap := h', toks := t' } := I.un (Un.write mu he k heo) (I.hok.write mu he k heo new)
theorem Inv.pins_of {pins' : List (Addr × Obj)} (I : Inv X pins σ H s) (h : ∀ p ∈ pins', s.heap.get? p.1 = some p.2 ∧ H p.1 = none ∧ p.1 ≠ X.env.locals ∧ p.1 ∉ X.fs ∧ ∀ v, p.2.data ≠ .cell v) : Inv X pins' σ H s :=
  ⟨I.ok, I.os, I.bare, I.base, I.loc, I.cell, I.free, I.freeC, fun p hp => (List.mem_append.mp hp).elim (fun z => I.pin p (List.mem_append_left _ z)) (h p), I.hok, I.len⟩

theorem nodup_ix {N : List Str} (hN : N.Nodup) {i j : Nat} {x : Str} (a : N[i]? = some x) (b : N[j]? = some x) : i = j := by
  obtain ⟨h1, e1⟩ := List.getElem?_eq_some_iff.mp a
  obtain ⟨h2, e2⟩ := List.getElem?_eq_some_iff.mp b
  exact (List.getElem_inj hN).mp (e1.trans e2.symm)

/-- a name is stored; what changed -/
theorem store_ok2 {M : Model} {A : Around} {E : Value → Shared → Prop} {i : Nat} {x : Str} {v : V} {u : Value} {Q : Unit → Shared → Prop} (I : Inv X pins σ H s) (hN : X.N.Nodup) (hi : X.N[i]? = some x) (hx : Loc X.env.scope x) (r : RelV v u)
    (h : ∀ s', Inv X pins (σ.set i (some v)) H s' → (∃ a, Heap.SameBut a s.heap s'.heap ∧ (a = X.env.locals ∨ X.env.cells.lookup x = some a)) → Q () s') (hf : X.fn x = true ∨ X.env.scope.names.lookup x = some .local := by first | exact .inl rfl | exact .inr rfl | assumption) : wpAny M A (storeName X.env x u) Q E s := by
  obtain ⟨m, hn, hl⟩ := id I.loc
  have hcls : (X.env.scope.kind == .class || (X.env.scope.kind == .module && X.env.locals != X.env.globals)) = false := by rw [I.ok.kind]; rfl
  have hiσ : i < σ.length := by rw [I.len]; exact (List.getElem?_eq_some_iff.mp hi).1
  have cne := I.cne
  have tracked : ∀ {a : Addr} {h' : Heap}, (∃ o, s.heap.get? a = some o ∧ H a = none) → Heap.SameBut a s.heap h' → HOk X.prog X.w H h' := fun {a h'} ha hs b ob e => by
    obtain ⟨_, _, hfree⟩ := ha
    refine (I.hok b ob e).stay (fun c w' hc q => (hs.2 c ?_).trans q) (fun _ q => q) fun _ _ q => q
    rintro rfl
    rcases hc with rfl | hc
    · rw [hfree] at e; cases e
    · rw [hfree] at hc; cases hc
  rcases hx with hk | hk
  · refine wpAny_storeName_local hk hn (fun h' hn' hs => ?_) hcls
    obtain ⟨oL, _, _, hoL, _⟩ := id hn
    refine h _ ⟨I.ok, I.os, I.bare, ⟨fun b o e n hb hx => ?_, fun b o e n hb hx => ?_, I.base.free, fun b o e hx => ?_, I.base.tups, I.base.frzs, I.base.tbls⟩, ⟨_, hn', fun j y v' e1 e2 e3 => ?_⟩, fun y c e => ?_, I.free, I.freeC, fun p hp => ?_, tracked ⟨oL, hoL, I.free⟩ hs, by simpa using I.len⟩ ⟨_, hs, .inl rfl⟩
    · exact (hs.2 b (Nat.ne_of_lt (Nat.lt_of_lt_of_le (Heap.lt_size e) I.ok.above))).trans (I.base.keep b o e n hb hx)
    · obtain ⟨sl, e1⟩ := I.base.slot b o e n hb hx
      exact ⟨sl, (hs.2 b (Nat.ne_of_lt (Nat.lt_of_lt_of_le (Heap.lt_size e) I.ok.above))).trans e1⟩
    · obtain ⟨o', e1⟩ := I.base.there b o e hx
      exact ⟨o', (hs.2 b (Nat.ne_of_lt (Nat.lt_of_lt_of_le (Heap.lt_size e) I.ok.above))).trans e1⟩
    · by_cases hj : j = i
      · subst hj
        rw [hi] at e1; cases e1
        rw [List.getElem?_set_self hiσ] at e2
        cases e2
        exact ⟨u, r, .inl ⟨hk, by simp⟩⟩
      · rw [List.getElem?_set_ne (Ne.symm hj)] at e2
        obtain ⟨u', r', q⟩ := hl j y v' e1 e2 e3
        refine ⟨u', r', ?_⟩
        rcases q with ⟨k, e⟩ | ⟨k, c, e, z⟩
        · refine .inl ⟨k, ?_⟩
          have : y ≠ x := fun e => hj (nodup_ix hN e1 (e ▸ hi))
          simp [this, e]
        · exact .inr ⟨k, c, e, z.sameBut hs (cne y c e)⟩
    · obtain ⟨w', z⟩ := I.cell y c e
      exact ⟨w', z.sameBut hs (cne y c e)⟩
    · obtain ⟨e, n, ne, nf, d⟩ := I.pin p hp
      exact ⟨(hs.2 p.1 ne).trans e, n, ne, nf, d⟩
  · have hfn : X.fn x = true := by
      rcases hf with z | z
      · exact z
      · rw [z] at hk; cases hk
    obtain ⟨c, hc⟩ := I.ok.has x (.inl hk)
    obtain ⟨w', z⟩ := I.cell x c hc
    refine wpAny_storeName_cell I.ok.kind hk hc z (fun h' hc' hs => ?_)
    obtain ⟨oc, hoc, hocd⟩ := id z
    refine h { s with heap := h' } ⟨I.ok, I.os, I.bare, ⟨fun b o e n hb hx => ?_, fun b o e n hb hx => ?_, I.base.free, fun b o e hx => ?_, I.base.tups, I.base.frzs, I.base.tbls⟩, ⟨m, hn.sameBut hs (Ne.symm (cne x c hc)), fun j y v' e1 e2 e3 => ?_⟩, fun y c' e => ?_, I.free, I.freeC, fun p hp => ?_, tracked ⟨oc, hoc, I.freeC x c hc⟩ hs, by simpa using I.len⟩ ⟨c, hs, .inr hc⟩
    · exact (hs.2 b (Nat.ne_of_lt (Nat.lt_of_lt_of_le (Heap.lt_size e) (I.ok.cab x c hfn hc)))).trans (I.base.keep b o e n hb hx)
    · obtain ⟨sl, e1⟩ := I.base.slot b o e n hb hx
      exact ⟨sl, (hs.2 b (Nat.ne_of_lt (Nat.lt_of_lt_of_le (Heap.lt_size e) (I.ok.cab x c hfn hc)))).trans e1⟩
    · obtain ⟨o', e1⟩ := I.base.there b o e hx
      exact ⟨o', (hs.2 b (Nat.ne_of_lt (Nat.lt_of_lt_of_le (Heap.lt_size e) (I.ok.cab x c hfn hc)))).trans e1⟩
    · by_cases hj : j = i
      · subst hj
        rw [hi] at e1; cases e1
        rw [List.getElem?_set_self hiσ] at e2
        cases e2
        exact ⟨u, r, .inr ⟨.inl hk, c, hc, hc'⟩⟩
      · rw [List.getElem?_set_ne (Ne.symm hj)] at e2
        obtain ⟨u', r', q⟩ := hl j y v' e1 e2 e3
        refine ⟨u', r', ?_⟩
        rcases q with q | ⟨k, c', e, z'⟩
        · exact .inl q
        · refine .inr ⟨k, c', e, z'.sameBut hs ?_⟩
          rintro rfl
          exact hj (nodup_ix hN e1 (I.ok.inj _ _ _ e hc ▸ hi))
    · by_cases hcc : c' = c
      · subst hcc; exact ⟨_, hc'⟩
      · obtain ⟨w2, z2⟩ := I.cell y c' e
        exact ⟨w2, z2.sameBut hs hcc⟩
    · obtain ⟨e, n, ne, nf, d⟩ := I.pin p hp
      refine ⟨(hs.2 p.1 ?_).trans e, n, ne, nf, d⟩
      intro q
      rw [q, hoc] at e
      have q' : oc = p.2 := Option.some.inj e
      exact d w' (by rw [← q']; exact hocd)
theorem store_ok {M : Model} {A : Around} {E : Value → Shared → Prop} {i : Nat} {x : Str} {v : V} {u : Value} {Q : Unit → Shared → Prop} (I : Inv X pins σ H s) (hN : X.N.Nodup) (hi : X.N[i]? = some x) (hx : Loc X.env.scope x) (r : RelV v u)
    (h : ∀ s', Inv X pins (σ.set i (some v)) H s' → Q () s') (hf : X.fn x = true ∨ X.env.scope.names.lookup x = some .local := by first | exact .inl rfl | exact .inr rfl | assumption) : wpAny M A (storeName X.env x u) Q E s :=
  store_ok2 I hN hi hx r (fun s' I' _ => h s' I') hf
/-- behind a call or a block, the state as it is -/
theorem Inv.call' {s' : Shared} {ch : List Addr} (I : Inv X pins σ H s) (ho : s'.os = s.os) (u : Un (frs X.stack) ch H H' s.heap s'.heap) (hok : HOk X.prog X.w H' s'.heap) (hg : AllBare s'.gens)
    (hch : ∀ b ∈ ch, (b ∈ X.ex ∨ X.s₀.heap.objs.size ≤ b) ∧ b ≠ X.env.locals ∧ (∀ x c, X.env.cells.lookup x = some c → c ≠ b) ∧ ∀ p ∈ X.pn ++ pins, p.1 ≠ b) : Inv X pins σ H' s' := by
  obtain ⟨h', g', d', t', o'⟩ := s'
  have e : o' = s.os := ho
  subst e
  exact I.call (g' := g') (t' := t') (d' := d') u hok hg hch
end

/-! ### the judgements -/
/-- an exception: its class, its own dict's address (where it has one), the abstract heap behind it -/
abbrev XK := Value → Option Addr → Hp → Prop
abbrev St := List (Option V)
abbrev VK := V → Hp → Prop
/-- an expression's reading; a test's; an argument list's -/
abbrev TE := St → Hp → VK → Prop
abbrev TT := St → Hp → (Bool → Hp → Prop) → Prop
abbrev TA := St → Hp → (List V → Hp → Prop) → Prop
/-- what is wanted behind a statement -/
structure Ends where
  nx : St → Hp → Prop
  rt : VK
  bk : St → Hp → Prop := fun _ _ => False
  ct : St → Hp → Prop := fun _ _ => False
abbrev TS := Ends → St → Hp → Prop

def EP (X : Cx) (pins : List (Addr × Obj)) (σ : St) (Q : VK) (u : Value) (s' : Shared) : Prop := ∃ v H', Inv X pins σ H' s' ∧ RelV v u ∧ Q v H'
def TP (X : Cx) (pins : List (Addr × Obj)) (σ : St) (Q : Bool → Hp → Prop) (b : Bool) (s' : Shared) : Prop := ∃ H', Inv X pins σ H' s' ∧ Q b H'
def AP (X : Cx) (pins : List (Addr × Obj)) (σ : St) (Q : List V → Hp → Prop) (us : List Value) (s' : Shared) : Prop := ∃ vs H', Inv X pins σ H' s' ∧ Vals vs us ∧ Q vs H'
def SP (X : Cx) (pins : List (Addr × Obj)) (D : Ends) (f : Flow) (s' : Shared) : Prop :=
  match f with
  | .next => ∃ σ' H', Inv X pins σ' H' s' ∧ D.nx σ' H'
  | .brk => ∃ σ' H', Inv X pins σ' H' s' ∧ D.bk σ' H'
  | .cont => ∃ σ' H', Inv X pins σ' H' s' ∧ D.ct σ' H'
  | .ret u => ∃ v σ' H', Inv X pins σ' H' s' ∧ RelV v u ∧ D.rt v H'

def PE (X : Cx) (e : Expr) (t : TE) : Prop :=
  ∀ (pins : List (Addr × Obj)) (s : Shared) (σ : St) (H : Hp) (Q : VK), Inv X pins σ H s → t σ H Q → wpAny (model X.prog X.w) X.A (eval e X.env) (EP X pins σ Q) X.xe s
def PT (X : Cx) (e : Expr) (t : TT) : Prop :=
  ∀ (pins : List (Addr × Obj)) (s : Shared) (σ : St) (H : Hp) (Q : Bool → Hp → Prop), Inv X pins σ H s → t σ H Q → wpAny (model X.prog X.w) X.A (isTrue e X.env (eval e X.env)) (TP X pins σ Q) X.xe s
/-- a test whatever its 'whole' is (and, or) -/
def PW (X : Cx) (e : Expr) (t : TT) : Prop :=
  ∀ (whole : Sem Value) (pins : List (Addr × Obj)) (s : Shared) (σ : St) (H : Hp) (Q : Bool → Hp → Prop), Inv X pins σ H s → t σ H Q → wpAny (model X.prog X.w) X.A (isTrue e X.env whole) (TP X pins σ Q) X.xe s
theorem PW.pt {X : Cx} {e : Expr} {t : TT} (h : PW X e t) : PT X e t := h _
/-- an argument list (no star), from the left -/
def PA (X : Cx) (es : List Expr) (t : TA) : Prop :=
  ∀ (pos : Pos) (pins : List (Addr × Obj)) (s : Shared) (σ : St) (H : Hp) (Q : List V → Hp → Prop), Inv X pins σ H s → t σ H Q → wpAny (model X.prog X.w) X.A (spliced (backTo pos (starEach es X.env))) (AP X pins σ Q) X.xe s
def PS (X : Cx) (st : Stmt) (t : TS) : Prop :=
  ∀ (pins : List (Addr × Obj)) (s : Shared) (σ : St) (H : Hp) (D : Ends), Inv X pins σ H s → t D σ H → wpAny (model X.prog X.w) X.A (exec st X.env) (SP X pins D) X.xe s
def PSs (X : Cx) (st : List Stmt) (t : TS) : Prop :=
  ∀ (pins : List (Addr × Obj)) (s : Shared) (σ : St) (H : Hp) (D : Ends), Inv X pins σ H s → t D σ H → wpAny (model X.prog X.w) X.A (execs st X.env) (SP X pins D) X.xe s
/-- weaken the end -/
theorem thn {α : Type} {t : Sem α} {Q Q' : α → Shared → Prop} {M : Model} {A : Around} {E : Value → Shared → Prop} {s : Shared} (h : wpAny M A t Q E s) (hQ : ∀ a s, Q a s → Q' a s) : wpAny M A t Q' E s := wpAny_mono h hQ fun _ _ x => x
end L2

namespace L2
open PySem PySem.Spec PyProof.Rows
section
variable {X : Cx}


/-! ### names and constants -/
def tVar (i : Nat) : TE := fun σ H Q => ∃ v, σ[i]? = some (some v) ∧ Q v H
def tC (v : V) : TE := fun _ H Q => Q v H
theorem pe_var {i : Nat} {x : Str} {pos : Pos} (hN : X.N[i]? = some x) (hv : Vis X.env.scope x) (hd : (x == ("__debug__" : Str)) = false := by decide) (hcd : (x == ("__classdict__" : Str)) = false := by decide) : PE X (.Name x pos) (tVar i) := by
  intro pins s σ H Q I h
  obtain ⟨v, e, h⟩ := h
  obtain ⟨m, hn, hl⟩ := I.loc
  obtain ⟨u, r, l⟩ := hl i x v hN e hv
  have fin : EP X pins σ Q u s := ⟨v, H, I, r, h⟩
  rcases l with ⟨hk, hm⟩ | ⟨hk, c, hc, hcell⟩
  · exact wpAny_Name (wpAny_loadName_local I.ok.kind hk hn hm fin) hd
  · rcases hk with hk | hk
    · exact wpAny_Name (wpAny_loadName_cell I.ok.kind hk hc hcell fin) hd
    · exact wpAny_Name (wpAny_loadName_free I.ok.kind hk hc hcell fin hcd) hd
theorem pe_int {i j pos} : PE X (.Constant (.int i) j pos) (tC (.int i)) := fun _ _ _ H _ I h => wpAny_Constant_int ⟨.int i, H, I.tok _, ⟨_, rfl⟩, h⟩
theorem pe_bl {b j pos} : PE X (.Constant (.bool b) j pos) (tC (.bl b)) := fun _ _ _ H _ I h => Constant_bool ⟨.bl b, H, I, rfl, h⟩
theorem pe_str {x j pos} : PE X (.Constant (.str x) j pos) (tC (.str x)) := fun _ _ _ H _ I h => Calls.Constant_str ⟨.str x, H, I.tok _, ⟨_, rfl⟩, h⟩

/-- a global name of the def -/
def Gl (X : Cx) (x : Str) : Prop := X.env.kindOf x = some .globalImplicit
theorem ld_glob {E : Value → Shared → Prop} {pins : List (Addr × Obj)} {s : Shared} {σ : St} {H : Hp} {x : Str} {u : Value} {pos : Pos} {Q : Value → Shared → Prop} (I : Inv X pins σ H s) (hg : Gl X x) (hm : X.mg x = some u) (h : Q u s)
    (hd : (x == ("__debug__" : Str)) = false := by decide) : wpAny (model X.prog X.w) X.A (eval (.Name x pos) X.env) Q E s :=
  Calls.Name_function_global I.ok.kind hg (Calls.loadGlobal_global (by rw [I.ok.glob]; exact I.mod.glob.keeps I.bk) hm h) hd
theorem ld_blt {E : Value → Shared → Prop} {pins : List (Addr × Obj)} {s : Shared} {σ : St} {H : Hp} {x : Str} {u : Value} {pos : Pos} {Q : Value → Shared → Prop} (I : Inv X pins σ H s) (hg : Gl X x) (hm : X.mg x = none) (hv : bootBuiltins x = some u) (h : Q u s)
    (hn : x ≠ "__name__" := by decide) (hd : (x == ("__debug__" : Str)) = false := by decide) : wpAny (model X.prog X.w) X.A (eval (.Name x pos) X.env) Q E s := by
  obtain ⟨mb, h1, h2⟩ := I.mod.blt
  exact Calls.Name_function_global I.ok.kind hg (Calls.loadGlobal_builtin (by rw [I.ok.glob]; exact I.mod.glob.keeps I.bk) hm (by rw [I.ok.blt]; exact h1.keeps I.bk) ((h2 x hn).trans hv) h) hd
/-- a module's constant, a class, a function, as a value -/
theorem pe_glob {x : Str} {v : V} {u : Value} {pos : Pos} (hg : Gl X x) (hm : X.mg x = some u) (r : RelV v u) (hd : (x == ("__debug__" : Str)) = false := by decide) : PE X (.Name x pos) (tC v) :=
  fun _ _ _ H _ I h => ld_glob I hg hm ⟨v, H, I, r, h⟩ hd
theorem pe_bltn {x : Str} {v : V} {u : Value} {pos : Pos} (hg : Gl X x) (hm : X.mg x = none) (hv : bootBuiltins x = some u) (r : RelV v u) (hn : x ≠ "__name__" := by decide) (hd : (x == ("__debug__" : Str)) = false := by decide) : PE X (.Name x pos) (tC v) :=
  fun _ _ _ H _ I h => ld_blt I hg hm hv ⟨v, H, I, r, h⟩ hn hd

/-! ### arithmetic -/
variable {a b : Expr} {ta tb : TE} {pos : Pos}

/-! ### comparisons -/
/-- a comparison as a value, as a test -/
def tB (t : TE) : TT := fun σ H Q => t σ H fun x H1 => ∃ c, x = .bl c ∧ Q c H1
/-- an expression whose value is a bool, as a test -/
theorem pt_val {e : Expr} {t : TE} (h : PE X e t) (he : ∀ whole, isTrue e X.env whole = (do let v ← whole; standAt e.pos; holding [v] (truthy v)) := by intro _; rfl) : PT X e (tB t) := by
  intro pins s σ H Q I hw
  refine isTrue_plain (thn (h pins s σ H _ I hw) fun v s1 ⟨x, H1, I1, r1, q1⟩ => ?_) (he _)
  obtain ⟨d, rfl, q⟩ := q1
  cases r1
  exact wpAny_truthy_bool ⟨H1, I1, q⟩

/-! ### and, or, not -/
variable {tA tB' : TT} {rest : List Expr}
def tAnd (t u : TT) : TT := fun σ H Q => t σ H fun c H1 => if c = true then u σ H1 Q else Q false H1
def tOr (t u : TT) : TT := fun σ H Q => t σ H fun c H1 => if c = true then Q true H1 else u σ H1 Q
def tNot (t : TT) : TT := fun σ H Q => t σ H fun c H1 => Q (!c) H1
theorem pw_and1 (ha : PT X a tA) : PW X (.BoolOp .And [a] pos) tA := by
  intro wh pins s σ H Q I h
  refine isTrue_and (thn (ha pins s σ H Q I h) fun c s1 e => ?_)
  cases c with
  | true => exact isTrue_and_nil e
  | false => exact e
theorem pw_or1 (ha : PT X a tA) : PW X (.BoolOp .Or [a] pos) tA := by
  intro wh pins s σ H Q I h
  refine isTrue_or (thn (ha pins s σ H Q I h) fun c s1 e => ?_)
  cases c with
  | false => exact isTrue_or_nil e
  | true => exact e
theorem pw_and (ha : PT X a tA) (hb : PW X (.BoolOp .And (b :: rest) pos) tB') : PW X (.BoolOp .And (a :: b :: rest) pos) (tAnd tA tB') := by
  intro wh pins s σ H Q I h
  refine isTrue_and (thn (ha pins s σ H _ I h) fun c s1 ⟨H1, I1, q1⟩ => ?_)
  cases c with
  | true => exact hb wh pins s1 σ H1 Q I1 q1
  | false => exact ⟨H1, I1, q1⟩
theorem pw_or (ha : PT X a tA) (hb : PW X (.BoolOp .Or (b :: rest) pos) tB') : PW X (.BoolOp .Or (a :: b :: rest) pos) (tOr tA tB') := by
  intro wh pins s σ H Q I h
  refine isTrue_or (thn (ha pins s σ H _ I h) fun c s1 ⟨H1, I1, q1⟩ => ?_)
  cases c with
  | true => exact ⟨H1, I1, q1⟩
  | false => exact hb wh pins s1 σ H1 Q I1 q1
theorem pt_not (ha : PT X a tA) : PT X (.UnaryOp .Not a pos) (tNot tA) := by
  intro pins s σ H Q I h
  exact isTrue_not (ha pins s σ H (fun c H1 => Q (!c) H1) I h)
/-- .. as values (bools) -/
def tAndV (ta tb : TE) : TE := fun σ H Q => ta σ H fun x H1 => ∃ c, x = .bl c ∧ if c = true then tb σ H1 Q else Q (.bl false) H1
def tNotV (ta : TE) : TE := fun σ H Q => ta σ H fun x H1 => ∃ c, x = .bl c ∧ Q (.bl (!c)) H1
theorem pe_one {op} {t : TE} (h : PE X a t) : PE X (.BoolOp op [a] pos) t := fun pins s σ H Q I hw => BoolOp_one (h pins s σ H Q I hw)
theorem pe_and (ha : PE X a ta) (hb : PE X (.BoolOp .And (b :: rest) pos) tb) : PE X (.BoolOp .And (a :: b :: rest) pos) (tAndV ta tb) := by
  intro pins s σ H Q I h
  refine BoolOp_and (thn (ha pins s σ H _ I h) fun v s1 ⟨x, H1, I1, r1, q1⟩ => ?_)
  obtain ⟨c, rfl, q1⟩ := q1
  cases r1
  refine wpAny_truthy_bool ?_
  cases c with
  | true => exact hb pins s1 σ H1 Q I1 q1
  | false => exact ⟨.bl false, H1, I1, rfl, q1⟩
theorem pe_not (ha : PE X a ta) : PE X (.UnaryOp .Not a pos) (tNotV ta) := by
  intro pins s σ H Q I h
  refine UnaryOp_ (thn (ha pins s σ H _ I h) fun v s1 ⟨x, H1, I1, r1, q1⟩ => ?_)
  obtain ⟨c, rfl, q1⟩ := q1
  cases r1
  exact not_of (wpAny_truthy_bool ⟨.bl (!c), H1, I1, rfl, q1⟩)
end
end L2

namespace L2
open PySem PySem.Spec PyProof.Rows

/-! ### a list, a tuple that is read: tracked, frozen, or an object of the module -/
def SqL (K : PySem.W.Frag) (H : Hp) (a : Addr) (xs : List V) : Prop :=
  Rd H a (.lst xs) ∨
    ∃ (o : Obj) (its : Array Value) (n : Nat), K.lookup a = some o ∧ o.cls = .type "list" ∧ o.dict = none ∧ o.data = .seq its n ∧ its.size ≤ sizeLine ∧ Vals xs its.toList
def SqT (K : PySem.W.Frag) (H : Hp) (a : Addr) (xs : List V) : Prop :=
  Rd H a (.tup xs) ∨
    ∃ (o : Obj) (its : Array Value) (n : Nat), K.lookup a = some o ∧ o.cls = .type "tuple" ∧ o.data = .seq its n ∧ its.size ≤ sizeLine ∧ Vals xs its.toList
def absV : Value → Option V
  | .none => some .non
  | .bool b => some (.bl b)
  | .int i _ => some (.int i)
  | .str x _ => some (.str x)
  | .bytes b _ => some (.byt b)
  | .float b _ => some (.flt b)
  | .ref a => some (.ref a)
  | .type n => some (.ty n)
  | _ => none
theorem RelV.abs {x : V} {u : Value} (r : RelV x u) : absV u = some x := by
  cases x with
  | non => cases r; rfl
  | bl _ => cases r; rfl
  | int _ => obtain ⟨t, rfl⟩ := r; rfl
  | str _ => obtain ⟨t, rfl⟩ := r; rfl
  | byt _ => obtain ⟨t, rfl⟩ := r; rfl
  | flt _ => obtain ⟨t, rfl⟩ := r; rfl
  | ref _ => cases r; rfl
  | ty _ => cases r; rfl
theorem RelV.inj {x y : V} {u : Value} (r : RelV x u) (q : RelV y u) : x = y := Option.some.inj (r.abs.symm.trans q.abs)
theorem Vals.inj : ∀ {xs ys : List V} {us : List Value}, Vals xs us → Vals ys us → xs = ys
  | _, _, _, .nil, .nil => rfl
  | _, _, _, .cons r t, .cons r' t' => by rw [r.inj r', Vals.inj t t']
section
variable {X : Cx} {pins : List (Addr × Obj)} {σ : St} {H : Hp} {s : Shared} {a : Addr} {xs ys : List V}
theorem SqL.of {K : PySem.W.Frag} (h : H a = some (.lst xs)) : SqL K H a xs := .inl (.inl h)
theorem SqT.of {K : PySem.W.Frag} (h : H a = some (.tup xs)) : SqT K H a xs := .inl (.inl h)
theorem Inv.list (I : Inv X pins σ H s) (h : SqL X.K H a xs) : ∃ its : List Value, Vals xs its ∧ PlainL s.heap a its.toArray ∧ xs.length ≤ sizeLine := by
  rcases h with h | ⟨o, its, n, hk, hc, hd, hs, hz, r⟩
  · obtain ⟨z, its, n, r, e⟩ := h.ok I.hok
    exact ⟨its, r, ⟨_, n, e, rfl, rfl, rfl⟩, z⟩
  · refine ⟨its.toList, r, ⟨o, n, I.kIn a o hk, hc, hd, by simpa using hs⟩, ?_⟩
    have e := r.length
    simp only [Array.length_toList] at e
    omega
theorem Inv.tuple (I : Inv X pins σ H s) (h : SqT X.K H a xs) : ∃ its : List Value, Vals xs its ∧ IsTup s.heap a its.toArray ∧ xs.length ≤ sizeLine := by
  rcases h with h | ⟨o, its, n, hk, hc, hs, hz, r⟩
  · obtain ⟨z, its, r, p⟩ := h.ok I.hok
    exact ⟨its, r, p, z⟩
  · refine ⟨its.toList, r, ⟨o, I.kIn a o hk, hc, n, by simpa using hs⟩, ?_⟩
    have e := r.length
    simp only [Array.length_toList] at e
    omega
theorem Inv.list_inj (I : Inv X pins σ H s) (h : SqL X.K H a xs) (h' : SqL X.K H a ys) : xs = ys := by
  obtain ⟨its, r, ⟨o, n, e, _, _, d⟩, _⟩ := I.list h
  obtain ⟨its', r', ⟨o', n', e', _, _, d'⟩, _⟩ := I.list h'
  rw [e] at e'; cases e'
  rw [d] at d'
  injection d' with d1 _
  have : its = its' := by simpa using congrArg Array.toList d1
  subst this
  exact r.inj r'
theorem Inv.tuple_inj (I : Inv X pins σ H s) (h : SqT X.K H a xs) (h' : SqT X.K H a ys) : xs = ys := by
  obtain ⟨its, r, ⟨o, e, _, n, d⟩, _⟩ := I.tuple h
  obtain ⟨its', r', ⟨o', e', _, n', d'⟩, _⟩ := I.tuple h'
  rw [e] at e'; cases e'
  rw [d] at d'
  injection d' with d1 _
  have : its = its' := by simpa using congrArg Array.toList d1
  subst this
  exact r.inj r'
end

/-! ### another wish about exceptions -/
abbrev Cx.wish (X : Cx) (E : Value → Shared → Prop) : Cx := { X with xe := E }
/-- no exception leaves -/
abbrev Cx.nox (X : Cx) : Cx := X.wish fun _ _ => False
theorem Cx.Ok.wish {X : Cx} (ok : X.Ok) (E : Value → Shared → Prop) : (X.wish E).Ok :=
  ⟨ok.mod, ok.kind, ok.glob, ok.blt, ok.above, ok.inj, ok.has, ok.cab, ok.hd, ok.frames, ok.stk, ok.exf, ok.bs, ok.bsz, ok.noex, ok.exfs, ok.funs, ok.frf⟩
theorem Cx.Ok.unwish {X : Cx} {E : Value → Shared → Prop} (ok : (X.wish E).Ok) : X.Ok :=
  ⟨ok.mod, ok.kind, ok.glob, ok.blt, ok.above, ok.inj, ok.has, ok.cab, ok.hd, ok.frames, ok.stk, ok.exf, ok.bs, ok.bsz, ok.noex, ok.exfs, ok.funs, ok.frf⟩
section
variable {X : Cx} {pins : List (Addr × Obj)} {σ : St} {H : Hp} {s : Shared} {E : Value → Shared → Prop}
theorem Inv.wish (I : Inv X pins σ H s) (E : Value → Shared → Prop) : Inv (X.wish E) pins σ H s := ⟨I.ok.wish E, I.os, I.bare, I.base, I.loc, I.cell, I.free, I.freeC, I.pin, I.hok, I.len⟩
theorem Inv.unwish (I : Inv (X.wish E) pins σ H s) : Inv X pins σ H s := ⟨I.ok.unwish, I.os, I.bare, I.base, I.loc, I.cell, I.free, I.freeC, I.pin, I.hok, I.len⟩
theorem SP.unwish {D : Ends} {f : Flow} {s' : Shared} (h : SP (X.wish E) pins D f s') : SP X pins D f s' := by
  cases f with
  | next => obtain ⟨σ', H', I, q⟩ := h; exact ⟨σ', H', I.unwish, q⟩
  | brk => obtain ⟨σ', H', I, q⟩ := h; exact ⟨σ', H', I.unwish, q⟩
  | cont => obtain ⟨σ', H', I, q⟩ := h; exact ⟨σ', H', I.unwish, q⟩
  | ret u => obtain ⟨v, σ', H', I, r, q⟩ := h; exact ⟨v, σ', H', I.unwish, r, q⟩
theorem PSs.nox {st : List Stmt} {t : TS} (h : PSs X.nox st t) : PSs X st t := fun pins s σ H D I hw =>
  wpAny_mono (h pins s σ H D (I.wish _) hw) (fun _ _ q => q.unwish) fun _ _ z => False.elim z
end

/-! ### blocks and small statements -/
section
variable {X : Cx} {st : Stmt} {rest : List Stmt} {t u : TS} {e : Expr} {te : TE} {pos : Pos}
def tNext : TS := fun D σ H => D.nx σ H
def tSeq (t u : TS) : TS := fun D σ H => t { D with nx := u D } σ H
theorem pss_nil : PSs X [] tNext := fun _ _ σ H _ I h => wpAny_execs_nil ⟨σ, H, I, h⟩
theorem pss_cons (h1 : PS X st t) (h2 : PSs X rest u) : PSs X (st :: rest) (tSeq t u) := by
  intro pins s σ H D I h
  refine wpAny_execs_cons (thn (h1 pins s σ H { D with nx := u D } I h) fun f s1 q => ?_)
  cases f with
  | next =>
    obtain ⟨σ', H', I', q⟩ := q
    exact h2 pins s1 σ' H' D I' q
  | ret v => exact q
  | brk => exact q
  | cont => exact q
theorem pss_one (h1 : PS X st t) : PSs X [st] t := by
  intro pins s σ H D I h
  refine wpAny_execs_cons (thn (h1 pins s σ H D I h) fun f s1 q => ?_)
  cases f with
  | next => exact wpAny_execs_nil q
  | ret v => exact q
  | brk => exact q
  | cont => exact q
/-- in a def's body nothing is shown -/
theorem Inv.quiet {pins : List (Addr × Obj)} {σ : St} {H : Hp} {s : Shared} (I : Inv X pins σ H s) : interactive X.env = false := by simp [interactive, I.ok.kind]
/-- an expression whose value is dropped -/
def tDrop (te : TE) : TS := fun D σ H => te σ H fun _ H1 => D.nx σ H1
theorem ps_expr (he : PE X e te) (hs : swapsWith e none pos.line X.env = pure false := by rfl) : PS X (.Expr e pos) (tDrop te) := by
  intro pins s σ H D I h
  exact wpAny_Expr_any (thn (he pins s σ H _ I h) fun v s1 ⟨x, H1, I1, r1, q1⟩ => ⟨σ, H1, I1, q1⟩) I.quiet hs
def tRet (te : TE) : TS := fun D σ H => te σ H D.rt
theorem ps_ret (he : PE X e te) : PS X (.Return (some e) pos) (tRet te) := by
  intro pins s σ H D I h
  exact wpAny_Return_some (thn (he pins s σ H _ I h) fun v s1 ⟨x, H1, I1, r1, q1⟩ => ⟨x, σ, H1, I1, r1, q1⟩)
def tIfS (c : TT) (t u : TS) : TS := fun D σ H => c σ H fun b H1 => if b = true then t D σ H1 else u D σ H1
theorem ps_if {c : Expr} {a b : List Stmt} {tc : TT} (hc : PT X c tc) (ha : PSs X a t) (hb : PSs X b u) : PS X (.If c a b pos) (tIfS tc t u) := by
  intro pins s σ H D I h
  refine wpAny_If (thn (hc pins s σ H _ I h) fun d s1 ⟨H1, I1, q1⟩ => ?_)
  cases d with
  | true => exact ha pins s1 σ H1 D I1 q1
  | false => exact hb pins s1 σ H1 D I1 q1
end

/-! ### targets -/
abbrev TG := V → St → Hp → (St → Hp → Prop) → Prop
abbrev TGs := List V → St → Hp → (St → Hp → Prop) → Prop
def PG (X : Cx) (target : Expr) (t : TG) : Prop :=
  ∀ (pins : List (Addr × Obj)) (s : Shared) (σ : St) (H : Hp) (v : V) (u : Value) (Q : St → Hp → Prop), Inv X pins σ H s → RelV v u → t v σ H Q →
    wpAny (model X.prog X.w) X.A (assign target X.env u) (fun _ s' => ∃ σ' H', Inv X pins σ' H' s' ∧ Q σ' H') X.xe s
/-- several targets, one after another -/
def PGs (X : Cx) (ts : List Expr) (t : TGs) : Prop :=
  ∀ (pins : List (Addr × Obj)) (s : Shared) (σ : St) (H : Hp) (vs : List V) (us : List Value) (Q : St → Hp → Prop), Inv X pins σ H s → Vals vs us → t vs σ H Q →
    wpAny (model X.prog X.w) X.A (assignInOrder ((assignEach ts X.env).map (·.2)) us) (fun _ s' => ∃ σ' H', Inv X pins σ' H' s' ∧ Q σ' H') X.xe s
section
variable {X : Cx} {pos : Pos}
def gName (i : Nat) : TG := fun v σ H Q => Q (σ.set i (some v)) H
theorem pg_name {i : Nat} {x : Str} (hN : X.N.Nodup) (hi : X.N[i]? = some x) (hx : Loc X.env.scope x) (hf : X.fn x = true ∨ X.env.scope.names.lookup x = some .local := by first | exact .inl rfl | exact .inr rfl | assumption) : PG X (.Name x pos) (gName i) := by
  intro pins s σ H v u Q I r h
  exact wpAny_assign_Name (store_ok I hN hi hx r (fun s' I' => ⟨_, H, I', h⟩) hf)
def gNil : TGs := fun vs σ H Q => vs = [] ∧ Q σ H
def gCons (t : TG) (u : TGs) : TGs := fun vs σ H Q => ∃ v r, vs = v :: r ∧ t v σ H fun σ' H' => u r σ' H' Q
theorem pgs_nil : PGs X [] gNil := by
  intro pins s σ H vs us Q I r h
  obtain ⟨e, h⟩ := h
  subst e
  cases r
  exact assignInOrder_nil ⟨σ, H, I, h⟩
theorem pgs_cons {e : Expr} {es : List Expr} {t : TG} {u : TGs} (h1 : PG X e t) (h2 : PGs X es u)
    (hs : (assignEach (e :: es) X.env).map (·.2) = assign e X.env :: (assignEach es X.env).map (·.2) := by rfl) : PGs X (e :: es) (gCons t u) := by
  intro pins s σ H vs us Q I r h
  obtain ⟨v, vr, e1, h⟩ := h
  subst e1
  cases r with
  | cons r rr =>
    rw [hs]
    refine assignInOrder_cons (thn (h1 pins s σ H _ _ _ I r h) fun _ s1 ⟨σ1, H1, I1, q1⟩ => ?_)
    exact h2 pins s1 σ1 H1 _ _ Q I1 rr q1
/-- (a, b, ..) = a tuple of that length -/
def gTup (K : PySem.W.Frag) (n : Nat) (t : TGs) : TG := fun v σ H Q => ∃ a xs, v = .ref a ∧ SqT K H a xs ∧ xs.length = n ∧ t xs σ H Q
theorem pg_tup {es : List Expr} {k : Nat} {t : TGs} {n : Nat} (hc : X.calm = true) (h : PGs X es t)
    (hn : (assignEach es X.env).length = n := by rfl) (hst : (assignEach es X.env).findIdx? (·.1) = none := by rfl) : PG X (.Tuple es k pos) (gTup X.K n t) := by
  intro pins s σ H v u Q I r hw
  obtain ⟨a, xs, e1, hq, hl, hw⟩ := hw
  subst e1
  cases r
  obtain ⟨its, rv, ht, hz⟩ := I.tuple hq
  refine assign_Tuple_tuple (I.ok.hd hc) ht (by simp [hn, ← hl, rv.length]) hst fun h' hx => ?_
  have I1 : Inv X pins σ H { s with heap := h' } := I.kept (t' := s.toks) fun b o e => hx b o (Nat.ne_of_lt (Heap.lt_size e)) e
  exact h pins _ σ H xs _ Q I1 (by simpa using rv) hw
/-- target = value -/
def tAsg (te : TE) (g : TG) : TS := fun D σ H => te σ H fun x H1 => g x σ H1 D.nx
/-- name = value -/
theorem ps_set {i : Nat} {x : Str} {e : Expr} {te : TE} {pos' : Pos} (hN : X.N.Nodup) (hi : X.N[i]? = some x) (hx : Loc X.env.scope x) (he : PE X e te) (hs : swapsWith e (some (.Name x pos')) pos.line X.env = pure false := by rfl) (hf : X.fn x = true ∨ X.env.scope.names.lookup x = some .local := by first | exact .inl rfl | exact .inr rfl | assumption) :
    PS X (.Assign [.Name x pos'] e pos) (tAsg te (gName i)) := by
  intro pins s σ H D I h
  refine wpAny_Assign_Name (thn (he pins s σ H _ I h) fun v s1 ⟨y, H1, I1, r1, q1⟩ => ?_) hs
  exact store_ok I1 hN hi hx r1 (fun s2 I2 => ⟨_, H1, I2, q1⟩) hf
end

/-! ### while -/
section
variable {X : Cx} {pos : Pos}
end

/-! ### what a loop or a comprehension walks -/
/-- at turn i: it yields x (the heap may grow), or it stops -/
structure It where
  go : Nat → Hp → Prop
  yld : Nat → Hp → V → Hp → Prop
  stop : Nat → Hp → Prop
/-- the iterator's own objects may turn: they are not the frame's, not pinned, younger than the entry (or a comprehension's own) -/
def FpOk (X : Cx) (pins : List (Addr × Obj)) (H : Hp) (b : Addr) : Prop :=
  H b = none ∧ b ≠ X.env.locals ∧ b ∉ X.fs ∧ (b ∈ X.ex ∨ X.s₀.heap.objs.size ≤ b) ∧ (∀ x c, X.env.cells.lookup x = some c → c ≠ b) ∧ ∀ p ∈ X.pn ++ pins, p.1 ≠ b
theorem Inv.fpOk {X : Cx} {pins : List (Addr × Obj)} {σ : St} {H H' : Hp} {s : Shared} {b : Addr} (I : Inv X pins σ H s) (hb : s.heap.objs.size ≤ b) (hn : H' b = none) : FpOk X pins H' b := by
  refine ⟨hn, Nat.ne_of_gt (Nat.lt_of_lt_of_le I.lt hb), I.nofs hb, .inr (Nat.le_trans I.sz hb), fun x c e z => ?_, fun p hp z => ?_⟩
  · obtain ⟨v, q⟩ := I.cell x c e
    exact absurd (Nat.lt_of_lt_of_le q.lt (by rw [z]; exact hb)) (Nat.lt_irrefl _)
  · exact absurd (Nat.lt_of_lt_of_le (Heap.lt_size (I.pin p hp).1) (by rw [z]; exact hb)) (Nat.lt_irrefl _)
structure Turn (P : Program) (w : World) (K : PySem.W.Frag) (tg : Expr) (J : It) (fp : List Addr) (it : Addr) (tn : Nat → Heap → Prop) : Prop where
  mem : it ∈ fp
  obj : ∀ i h, tn i h → ∀ b ∈ fp, ∃ o, h.get? b = some o ∧ ∀ v, o.data ≠ .cell v
  keep : ∀ i h h', tn i h → (∀ b ∈ fp, ∀ o, h.get? b = some o → h'.get? b = some o) → tn i h'
  item : ∀ (X : Cx), X.prog = P → X.w = w → X.K = K → X.calm = true → ∀ (i : Nat) (pins : List (Addr × Obj)) (s : Shared) (σ : St) (H : Hp) (E : Value → Shared → Prop), Inv X pins σ H s → (∀ b ∈ fp, FpOk X pins H b) → tn i s.heap → J.go i H →
    wpAny (model P w) X.A (pyNext (.ref it)) (fun r s1 => ∃ u, r = some u ∧
      wpAny (model P w) X.A (letOwnedTupleGo tg (.ref it) u) (fun _ s2 => ∃ x H', Inv X pins σ H' s2 ∧ RelV x u ∧ J.yld i H x H' ∧ tn (i + 1) s2.heap ∧ ∀ b ∈ fp, H' b = none) E s1) E s
  done : ∀ (X : Cx), X.prog = P → X.w = w → X.K = K → X.calm = true → ∀ (i : Nat) (pins : List (Addr × Obj)) (s : Shared) (σ : St) (H : Hp) (E : Value → Shared → Prop), Inv X pins σ H s → (∀ b ∈ fp, FpOk X pins H b) → tn i s.heap → J.stop i H →
    wpAny (model P w) X.A (pyNext (.ref it)) (fun r s1 => r = none ∧ Inv X pins σ H s1) E s
  self : ∀ (A : Around) (i : Nat) (s : Shared) (Q : Value → Shared → Prop) (E : Value → Shared → Prop), tn i s.heap → Q (.ref it) s → wpAny (model P w) A (pyIter (.ref it)) Q E s
abbrev TI := St → Hp → (It → Hp → Prop) → Prop
/-- an iterator has come -/
def PIE (X : Cx) (pins : List (Addr × Obj)) (σ : St) (tg : Expr) (R : It → Hp → Prop) (itv : Value) (s2 : Shared) : Prop :=
  ∃ (it : Addr) (fp : List Addr) (tn : Nat → Heap → Prop) (J : It) (H' : Hp), itv = .ref it ∧ Inv X pins σ H' s2 ∧ Turn X.prog X.w X.K tg J fp it tn ∧ tn 0 s2.heap ∧ (∀ b ∈ fp, FpOk X pins H' b) ∧ R J H'
def PI (X : Cx) (tg iter : Expr) (wi : TI) : Prop :=
  ∀ (pins : List (Addr × Obj)) (s : Shared) (σ : St) (H : Hp) (R : It → Hp → Prop), Inv X pins σ H s → wi σ H R →
    wpAny (model X.prog X.w) X.A (eval iter X.env) (fun v s1 => wpAny (model X.prog X.w) X.A (pyIter v) (PIE X pins σ tg R) X.xe s1) X.xe s

/-- the step ahead of the store is nothing for an iterator that keeps no tuple -/
theorem go_of {M : Model} {A : Around} {E : Value → Shared → Prop} {s : Shared} {tg : Expr} {it : Addr} {u : Value} {o : Obj} {n : String} {vs : Array Value} {Q : Unit → Shared → Prop} (ho : s.heap.get? it = some o) (hc : o.cls = .type n) (hd : o.data = .fields vs)
    (hn : ["enumerate", "zip", "dict_itemiterator", "dict_reverseitemiterator", "odict_iterator", "itertools.zip_longest", "itertools.pairwise"].contains n = false) (hQ : Q () s) : wpAny M A (letOwnedTupleGo tg (.ref it) u) Q E s := by
  unfold letOwnedTupleGo
  cases tg <;> first
    | exact wpAny_pure hQ
    | (cases u <;> first
        | exact wpAny_pure hQ
        | (refine wpAny_bind (wpAny_load ho ?_)
           rw [hc, hd]
           show wpAny M A (if (["enumerate", "zip", "dict_itemiterator", "dict_reverseitemiterator", "odict_iterator", "itertools.zip_longest", "itertools.pairwise"].contains n && vs[0]? == some (rawInt _)) = true then _ else _) Q E s
           rw [if_neg (by intro h; rw [hn, Bool.false_and] at h; cases h)]
           exact wpAny_pure hQ))

/-- the list at a, as it stands at each turn (a loop may append to it) -/
def Itl (K : PySem.W.Frag) (a : Addr) : It :=
  ⟨fun i H => ∃ xs x, SqL K H a xs ∧ xs[i]? = some x, fun i H x H' => H' = H ∧ ∀ xs, SqL K H a xs → xs[i]? = some x, fun i H => ∃ xs, SqL K H a xs ∧ xs.length ≤ i⟩
/-- lo, lo + 1, .. (n of them) -/
def Itr (lo : Int) (n : Nat) : It := ⟨fun i _ => i < n, fun i H x H' => H' = H ∧ x = .int (lo + i), fun i _ => n ≤ i⟩
theorem turn_list {P : Program} {w : World} {K : PySem.W.Frag} {tg : Expr} (a it : Addr) : Turn P w K tg (Itl K a) [it] it (fun i h => h.IsListIter it a i) where
  mem := by simp
  obj := fun i h st b hb => by
    have e : b = it := by simpa using hb
    subst e
    obtain ⟨o, e, c, d⟩ := st
    exact ⟨o, e, fun v z => by rw [d] at z; cases z⟩
  keep := fun i h h' st k => st.at fun o e => k it (by simp) o e
  item := by
    intro X hP hw hK hc i pins s σ H E I hf st hg
    subst hP hw hK
    obtain ⟨xs, x, hq, hx⟩ := hg
    obtain ⟨its, rv, p, hz⟩ := I.list hq
    obtain ⟨u, hu, ru⟩ := rv.get hx
    obtain ⟨f0, f1, f2, f3, f4, f5⟩ := hf it (by simp)
    refine wpAny_pyNext_list_item st p.isList (x := u) (by simpa using hu) fun h' st' sb => ?_
    have I1 : Inv X pins σ H { s with heap := h' } := I.turned (t' := s.toks) (fun b o hb e => (sb.2 b hb).trans e) f0 f1 f3 f4 f5
    obtain ⟨o, e, c, d⟩ := id st'
    exact ⟨u, rfl, go_of (s := { s with heap := h' }) e c d (by decide) ⟨x, H, I1, ru, ⟨rfl, fun ys hy => by rw [I.list_inj hy hq]; exact hx⟩, st', fun b hb => (hf b hb).1⟩⟩
  done := by
    intro X hP hw hK hc i pins s σ H E I hf st hg
    subst hP hw hK
    obtain ⟨xs, hq, hx⟩ := hg
    obtain ⟨its, rv, p, hz⟩ := I.list hq
    obtain ⟨f0, f1, f2, f3, f4, f5⟩ := hf it (by simp)
    have hl := rv.length
    exact wpAny_pyNext_list_end (I.ok.hd hc) st p.isList (by simp; omega) fun h' eb => ⟨rfl, I.turned (t' := s.toks) (fun b o hb e => eb b o hb e) f0 f1 f3 f4 f5⟩
  self := fun _ _ _ _ _ st h => wpAny_pyIter_listiter st h
theorem turn_range {P : Program} {w : World} {K : PySem.W.Frag} {tg : Expr} (it : Addr) (lo : Int) (n : Nat) : Turn P w K tg (Itr lo n) [it] it (fun i h => IsRangeIter h it (lo + (i : Nat) * 1) ((n : Int) - (i : Nat)) 1) where
  mem := by simp
  obj := fun i h st b hb => by
    have e : b = it := by simpa using hb
    subst e
    exact ⟨_, st, fun v z => by
      have z' : Data.fields _ = Data.cell v := z
      cases z'⟩
  keep := fun i h h' st k => k it (by simp) _ st
  item := by
    intro X hP hw hK hc i pins s σ H E I hf st hg
    subst hP hw hK
    obtain ⟨f0, f1, f2, f3, f4, f5⟩ := hf it (by simp)
    have W := Walks.range (prog := X.prog) (w := X.w) (I.ok.hd hc) it lo 1 n
    refine W.item i s _ _ hg st fun v h' tk hv st' kk => ?_
    obtain ⟨t, rfl⟩ := hv
    have I1 : Inv X pins σ H { s with heap := h', toks := tk } := I.turned (fun b o hb e => kk b o (by simpa using hb) e) f0 f1 f3 f4 f5
    refine ⟨_, rfl, go_of (s := { s with heap := h', toks := tk }) (n := "range_iterator") st' rfl rfl (by decide) ⟨.int (lo + i), H, I1, ⟨t, ?_⟩, ⟨rfl, rfl⟩, st', fun b hb => (hf b hb).1⟩⟩
    rw [Int.mul_one]
  done := by
    intro X hP hw hK hc i pins s σ H E I hf st hg
    subst hP hw hK
    obtain ⟨f0, f1, f2, f3, f4, f5⟩ := hf it (by simp)
    exact wpAny_pyNext_range_end (I.ok.hd hc) st (by have : n ≤ i := hg; omega) fun h' eb => ⟨rfl, I.turned (t' := s.toks) (fun b o hb e => eb b o hb e) f0 f1 f3 f4 f5⟩
  self := fun _ _ _ _ _ st h => wpAny_pyIter_rangeiter st h
end L2

namespace L2
open PySem PySem.Spec PyProof.Rows
section
variable {X : Cx} {tg : Expr}
def iList (K : PySem.W.Frag) (tl : TE) : TI := fun σ H R => tl σ H fun x H1 => ∃ a, x = .ref a ∧ (∃ xs, SqL K H1 a xs) ∧ R (Itl K a) H1
theorem pi_list {l : Expr} {tl : TE} (hl : PE X l tl) : PI X tg l (iList X.K tl) := by
  intro pins s σ H R I h
  refine thn (hl pins s σ H _ I h) fun v s1 ⟨x, H1, I1, r1, q1⟩ => ?_
  obtain ⟨a, e, ⟨xs, hq⟩, q⟩ := q1
  subst e
  cases r1
  obtain ⟨its, rv, p, hz⟩ := I1.list hq
  refine wpAny_pyIter_list p.isList ?_
  refine ⟨s1.heap.objs.size, [s1.heap.objs.size], _, _, H1, rfl, I1.kept (t' := s1.toks) fun b o e => Heap.get?_push_of_some _ e, turn_list a _, ⟨_, Heap.get?_push_size _ rfl, rfl, rfl⟩, fun b hb => ?_, q⟩
  have e : b = s1.heap.objs.size := by simpa using hb
  subst e
  exact I1.fpOk (Nat.le_refl _) (I1.hok.fresh (Nat.le_refl _))
/-- a range object just made, walked -/
theorem range_it {pins : List (Addr × Obj)} {σ : St} {H : Hp} {s : Shared} {R : It → Hp → Prop} {E : Value → Shared → Prop} {lo hi : Int} {t u v : Tok} {tk : Nat} (I : Inv X pins σ H s) (h1 : -(2 ^ 62) ≤ lo) (h2 : lo < 2 ^ 62) (h3 : -(2 ^ 62) ≤ hi) (h4 : hi < 2 ^ 62)
    (q : R (Itr lo (hi - lo).toNat) H) : wpAny (model X.prog X.w) X.A (pyIter (.ref s.heap.objs.size)) (PIE X pins σ tg R) E { s with heap := s.heap.push { cls := .type "range", data := .fields #[.int lo t, .int hi u, .int 1 v] }, toks := tk } := by
  refine wpAny_pyIter_range (IsRange.new ..) (small_one h1 h2 h3 h4) ?_
  have I1 : Inv X pins σ H { s with heap := s.heap.push { cls := .type "range", data := .fields #[.int lo t, .int hi u, .int 1 v] }, toks := tk } := I.kept fun b o e => Heap.get?_push_of_some _ e
  refine ⟨(s.heap.push { cls := .type "range", data := .fields #[.int lo t, .int hi u, .int 1 v] }).objs.size, [(s.heap.push { cls := .type "range", data := .fields #[.int lo t, .int hi u, .int 1 v] }).objs.size], _, _, H, rfl,
    I1.kept (t' := tk) fun b o e => Heap.get?_push_of_some _ e, turn_range _ lo (hi - lo).toNat, ?_, fun b hb => ?_, q⟩
  · have e1 : lo + ((0 : Nat) : Int) * 1 = lo := by simp
    have e2 : (((hi - lo).toNat : Nat) : Int) - ((0 : Nat) : Int) = Builtin.Range.rangeSize lo hi 1 := by rw [rangeSize_one]; split <;> omega
    show IsRangeIter _ _ (lo + ((0 : Nat) : Int) * 1) ((((hi - lo).toNat : Nat) : Int) - ((0 : Nat) : Int)) 1
    rw [e1, e2]
    exact Heap.get?_push_size _ rfl
  · have e : b = (s.heap.push { cls := .type "range", data := .fields #[.int lo t, .int hi u, .int 1 v] }).objs.size := by simpa using hb
    subst e
    exact I1.fpOk (Nat.le_refl _) (I1.hok.fresh (Nat.le_refl _))
def iRng1 (ta : TA) : TI := fun σ H R => ta σ H fun vs H1 => ∃ j : Int, vs = [.int j] ∧ -(2 ^ 62) ≤ j ∧ j < 2 ^ 62 ∧ R (Itr 0 j.toNat) H1
theorem pi_range1 {a : Expr} {ta : TA} {p pos : Pos} (hg : Gl X "range") (hm : X.mg "range" = none) (ha : PA X [a] ta) (hs : starEach [a] X.env = [(false, eval a X.env)] := by rfl) : PI X tg (.Call (.Name "range" p) [a] [] pos) (iRng1 ta) := by
  intro pins s σ H R I h
  refine Call_ (ld_blt I hg hm boot_range (PyProof.Rows.callWith_type1 (thn (ha pos pins s σ H _ I h) fun us s1 ⟨vs, H1, I1, r1, q1⟩ => ?_) hs rfl))
  obtain ⟨j, e, q1, q2, q⟩ := q1
  subst e
  cases r1 with
  | cons r rr =>
    cases rr
    obtain ⟨t, rfl⟩ := r
    exact call_range_1 (range_it I1 (by omega) (by omega) q1 q2 (by simpa using q))

/-! ### for -/
/-- W: the invariant by the turn and a measure; N: what the body is to reach -/
def tFor (wi : TI) (g : TG) (tb : TS) : TS := fun D σ H => wi σ H fun J H1 => ∃ W : Nat → Nat → St → Hp → Prop, (∃ m, W 0 m σ H1) ∧ ∀ i m σ H, W i m σ H →
  (J.stop i H ∧ D.nx σ H) ∨ (J.go i H ∧ ∃ N : St → Hp → Prop, (∀ σ' H', N σ' H' → ∃ m', m' < m ∧ W (i + 1) m' σ' H') ∧ ∀ x H', J.yld i H x H' → g x σ H' fun σ2 H2 => tb { D with nx := N, ct := N, bk := D.nx } σ2 H2)
/-- the records at fp as they stand -/
def pinsAt (fp : List Addr) (h : Heap) : List (Addr × Obj) := fp.filterMap fun b => (h.get? b).map fun o => (b, o)
theorem mem_pinsAt {fp : List Addr} {h : Heap} {b : Addr} {o : Obj} (hb : b ∈ fp) (e : h.get? b = some o) : (b, o) ∈ pinsAt fp h := List.mem_filterMap.mpr ⟨b, hb, by rw [e]; rfl⟩
theorem of_pinsAt {fp : List Addr} {h : Heap} {p : Addr × Obj} (hp : p ∈ pinsAt fp h) : p.1 ∈ fp ∧ h.get? p.1 = some p.2 := by
  obtain ⟨b, hb, e⟩ := List.mem_filterMap.mp hp
  cases q : h.get? b with
  | none => rw [q] at e; cases e
  | some o =>
    rw [q] at e
    have e' : (b, o) = p := Option.some.inj e
    subst e'
    exact ⟨hb, q⟩
theorem Inv.pinned {pins : List (Addr × Obj)} {σ : St} {H : Hp} {s : Shared} {fp : List Addr} (I : Inv X pins σ H s) (hf : ∀ b ∈ fp, FpOk X pins H b) (ho : ∀ b ∈ fp, ∃ o, s.heap.get? b = some o ∧ ∀ v, o.data ≠ .cell v) : Inv X (pins ++ pinsAt fp s.heap) σ H s :=
  I.pins_of fun p hp => (List.mem_append.mp hp).elim (fun z => I.pin p (List.mem_append_right _ z)) fun z => by
    obtain ⟨hb, e⟩ := of_pinsAt z
    obtain ⟨f0, f1, f2, _⟩ := hf p.1 hb
    obtain ⟨o, e', d⟩ := ho p.1 hb
    rw [e] at e'; cases e'
    exact ⟨e, f0, f1, f2, d⟩
theorem Inv.unpinned {pins pl : List (Addr × Obj)} {σ : St} {H : Hp} {s : Shared} (I : Inv X (pins ++ pl) σ H s) : Inv X pins σ H s := I.pins_of fun p hp => I.pin p (List.mem_append_right _ (List.mem_append_left _ hp))
theorem ps_for {iter : Expr} {body : List Stmt} {wi : TI} {g : TG} {tb : TS} {pos : Pos} (hp : PassesOwn (model X.prog X.w) X.A X.env X.xe) (hc : X.calm = true) (hi : PI X tg iter wi) (hg : PG X tg g) (hb : PSs X body tb)
    (hs : ∀ x, foldedSetIterable iter X.env x = pure x := by intro _; rfl) : PS X (.For tg iter body [] pos) (tFor wi g tb) := by
  intro pins s σ H D I h
  refine wpAny_For (thn (hi pins s σ H _ I h) fun v s1 h1 => thn h1 fun itv s2 h2 => ?_) hs
  obtain ⟨it, fp, tn, J, H2, e, I2, T, st2, f2, W, ⟨m0, w0⟩, turn⟩ := h2
  subst e
  -- what stays true of the iterator's objects through the loop
  have stat : ∀ {H' : Hp}, (∀ b ∈ fp, H' b = none) → ∀ b ∈ fp, FpOk X pins H' b := fun hn b hb => ⟨hn b hb, (f2 b hb).2⟩
  refine codeAny_forLoop_any (fun n s' => ∃ i σ' H', Inv X pins σ' H' s' ∧ tn i s'.heap ∧ (∀ b ∈ fp, H' b = none) ∧ W i n σ' H') ?_ m0 ⟨0, σ, H2, I2, st2, fun b hb => (f2 b hb).1, w0⟩
  rintro n s3 ⟨i, σ3, H3, I3, st3, fr3, w3⟩
  rcases turn i n σ3 H3 w3 with ⟨stop, qn⟩ | ⟨go, N, hN, step⟩
  · refine wpAny_passesOwn hp (thn (T.done X rfl rfl rfl hc i pins s3 σ3 H3 X.xe I3 (stat fr3) st3 stop) fun r s4 ⟨hr, I4⟩ => ?_)
    subst hr
    exact wpAny_execs_nil ⟨σ3, H3, I4, qn⟩
  · refine wpAny_passesOwn hp (thn (T.item X rfl rfl rfl hc i pins s3 σ3 H3 X.xe I3 (stat fr3) st3 go) fun r s4 ⟨u, hr, h4⟩ => ?_)
    subst hr
    refine wpAny_passesOwn hp (thn h4 fun _ s5 ⟨x, H5, I5, r5, y5, st5, fr5⟩ => ?_)
    have I5' := I5.pinned (stat fr5) (T.obj _ _ st5)
    refine wpAny_passesOwn hp (thn (hg _ s5 σ3 H5 x u _ I5' r5 (step x H5 y5)) fun _ s6 ⟨σ6, H6, I6, q6⟩ => ?_)
    refine wpAny_passesOwn hp (thn (hb _ s6 σ6 H6 _ I6 q6) fun f s7 q7 => ?_)
    have again : ∀ {σ7 : St} {H7 : Hp}, Inv X (pins ++ pinsAt fp s5.heap) σ7 H7 s7 → N σ7 H7 → ∃ m, m < n ∧ ∃ i σ' H', Inv X pins σ' H' s7 ∧ tn i s7.heap ∧ (∀ b ∈ fp, H' b = none) ∧ W i m σ' H' := fun {σ7 H7} I7 n7 => by
      obtain ⟨m', hm, w7⟩ := hN σ7 H7 n7
      refine ⟨m', hm, i + 1, σ7, H7, I7.unpinned, T.keep _ _ _ st5 fun b hb o e => (I7.pin (b, o) (List.mem_append_right _ (List.mem_append_right _ (mem_pinsAt hb e)))).1, fun b hb => ?_, w7⟩
      obtain ⟨o, e, d⟩ := T.obj _ _ st5 b hb
      exact (I7.pin (b, o) (List.mem_append_right _ (List.mem_append_right _ (mem_pinsAt hb e)))).2.1
    cases f with
    | next => obtain ⟨σ7, H7, I7, n7⟩ := q7; exact again I7 n7
    | cont => obtain ⟨σ7, H7, I7, n7⟩ := q7; exact again I7 n7
    | brk => obtain ⟨σ7, H7, I7, q7⟩ := q7; exact ⟨σ7, H7, I7.unpinned, q7⟩
    | ret v => obtain ⟨x7, σ7, H7, I7, r7, q7⟩ := q7; exact ⟨x7, σ7, H7, I7.unpinned, r7, q7⟩
end

/-! ### the forms one uses -/
end L2

namespace L2
open PySem PySem.Spec PyProof.Rows

abbrev R2 := V → V → Hp → VK → Prop
/-- a two-place operation on values: f is binaryOp op, inplaceOp op or compareOp op -/
def OpR (X : Cx) (f : Value → Value → Sem Value) (r : R2) : Prop :=
  ∀ (pins : List (Addr × Obj)) (s : Shared) (σ : St) (H : Hp) (x y : V) (v u : Value) (Q : VK), Inv X pins σ H s → RelV x v → RelV y u → r x y H Q →
    wpAny (model X.prog X.w) X.A (f v u) (EP X pins σ Q) X.xe s
/-- a one-place operation -/
def UnR (X : Cx) (f : Value → Sem Value) (r : V → Hp → VK → Prop) : Prop :=
  ∀ (pins : List (Addr × Obj)) (s : Shared) (σ : St) (H : Hp) (x : V) (v : Value) (Q : VK), Inv X pins σ H s → RelV x v → r x H Q →
    wpAny (model X.prog X.w) X.A (f v) (EP X pins σ Q) X.xe s
/-- a call of a value that is known (a builtin, a type) with values -/
def CallR (X : Cx) (f : Value) (r : List V → Hp → VK → Prop) : Prop :=
  ∀ (pins : List (Addr × Obj)) (s : Shared) (σ : St) (H : Hp) (xs : List V) (us : List Value) (Q : VK), Inv X pins σ H s → Vals xs us → r xs H Q →
    wpAny (model X.prog X.w) X.A (call f us) (EP X pins σ Q) X.xe s

def tOp (r : R2) (ta tb : TE) : TE := fun σ H Q => ta σ H fun x H1 => tb σ H1 fun y H2 => r x y H2 Q
def tUn (r : V → Hp → VK → Prop) (ta : TE) : TE := fun σ H Q => ta σ H fun x H1 => r x H1 Q
/-- ints in, under C, and a value out -/
def rI (C : Int → Int → Prop) (g : Int → Int → V) : R2 := fun x y H Q => ∃ i j, x = .int i ∧ y = .int j ∧ C i j ∧ Q (g i j) H
def rI0 (g : Int → Int → V) : R2 := fun x y H Q => ∃ i j, x = .int i ∧ y = .int j ∧ Q (g i j) H
def rU (g : Int → V) : V → Hp → VK → Prop := fun x H Q => ∃ i, x = .int i ∧ Q (g i) H

section
variable {X : Cx} {a b c : Expr} {ta tb tc : TE} {pos : Pos}

theorem binT (ha : PE X a ta) (hb : PE X b tb) {pins : List (Addr × Obj)} {s : Shared} {σ : St} {H : Hp} {R : V → V → Hp → Prop} (I : Inv X pins σ H s)
    (h : ta σ H fun x H1 => tb σ H1 fun y H2 => R x y H2) {Q : Value → Shared → Prop} {f : Value → Value → Sem Value}
    (hf : ∀ v u s2 x y H2, Inv X pins σ H2 s2 → RelV x v → RelV y u → R x y H2 → wpAny (model X.prog X.w) X.A (f v u) Q X.xe s2) :
    wpAny (model X.prog X.w) X.A (eval a X.env) (fun v s₁ => wpAny (model X.prog X.w) X.A (eval b X.env) (fun u s₂ => wpAny (model X.prog X.w) X.A (f v u) Q X.xe s₂) X.xe s₁) X.xe s := by
  refine thn (ha pins s σ H _ I h) fun v s1 ⟨x, H1, I1, r1, q1⟩ => ?_
  refine thn (hb pins s1 σ H1 _ I1 q1) fun u s2 ⟨y, H2, I2, r2, q2⟩ => ?_
  exact hf v u s2 x y H2 I2 r1 r2 q2

theorem pe_op {op : Operator} {r : R2} (ho : OpR X (binaryOp op) r) (ha : PE X a ta) (hb : PE X b tb) : PE X (.BinOp a op b pos) (tOp r ta tb) := by
  intro pins s σ H Q I h
  exact wpAny_BinOp (binT ha hb I h fun v u s2 x y H2 I2 rx ry q => ho pins s2 σ H2 x y v u Q I2 rx ry q)
theorem pe_un {op : UnaryOp} {r : V → Hp → VK → Prop} (ho : UnR X (unaryOp op) r) (ha : PE X a ta) : PE X (.UnaryOp op a pos) (tUn r ta) := by
  intro pins s σ H Q I h
  exact UnaryOp_ (thn (ha pins s σ H _ I h) fun v s1 ⟨x, H1, I1, r1, q1⟩ => ho pins s1 σ H1 x v Q I1 r1 q1)

/-! ### ints -/
theorem opI {f : Value → Value → Sem Value} {C : Int → Int → Prop} {g : Int → Int → Int}
    (rule : ∀ (i j : Int) (t u : Tok) (s : Shared) (Q : Value → Shared → Prop) (E : Value → Shared → Prop), C i j → Q (.int (g i j) s.toks) { s with toks := s.toks + 1 } → wpAny (model X.prog X.w) X.A (f (.int i t) (.int j u)) Q E s) :
    OpR X f (rI C fun i j => .int (g i j)) := by
  intro pins s σ H x y v u Q I rx ry h
  obtain ⟨i, j, rfl, rfl, hc, q⟩ := h
  obtain ⟨t, rfl⟩ := rx
  obtain ⟨t', rfl⟩ := ry
  exact rule i j t t' s _ _ hc ⟨.int (g i j), H, I.tok _, ⟨_, rfl⟩, q⟩
theorem opI0 {f : Value → Value → Sem Value} {g : Int → Int → Int}
    (rule : ∀ (i j : Int) (t u : Tok) (s : Shared) (Q : Value → Shared → Prop) (E : Value → Shared → Prop), Q (.int (g i j) s.toks) { s with toks := s.toks + 1 } → wpAny (model X.prog X.w) X.A (f (.int i t) (.int j u)) Q E s) :
    OpR X f (rI0 fun i j => .int (g i j)) := by
  intro pins s σ H x y v u Q I rx ry h
  obtain ⟨i, j, rfl, rfl, q⟩ := h
  obtain ⟨t, rfl⟩ := rx
  obtain ⟨t', rfl⟩ := ry
  exact rule i j t t' s _ _ ⟨.int (g i j), H, I.tok _, ⟨_, rfl⟩, q⟩
theorem opB0 {f : Value → Value → Sem Value} {g : Int → Int → Bool}
    (rule : ∀ (i j : Int) (t u : Tok) (s : Shared) (Q : Value → Shared → Prop) (E : Value → Shared → Prop), Q (.bool (g i j)) s → wpAny (model X.prog X.w) X.A (f (.int i t) (.int j u)) Q E s) :
    OpR X f (rI0 fun i j => .bl (g i j)) := by
  intro pins s σ H x y v u Q I rx ry h
  obtain ⟨i, j, rfl, rfl, q⟩ := h
  obtain ⟨t, rfl⟩ := rx
  obtain ⟨t', rfl⟩ := ry
  exact rule i j t t' s _ _ ⟨.bl (g i j), H, I, rfl, q⟩

def CDiv (i j : Int) : Prop := 0 < j ∧ j < 1073741824
def CPow (i j : Int) : Prop := 0 ≤ j ∧ j ≤ 1000000 ∧ i.natAbs < 2 ^ 64
def CMul (i j : Int) : Prop := (-(2 ^ 64) < i ∧ i < 2 ^ 64) ∨ (-(2 ^ 64) < j ∧ j < 2 ^ 64)
theorem CMul.ok {i j : Int} (h : CMul i j) : IntMulOk i j := by
  rcases h with ⟨h1, h2⟩ | ⟨h1, h2⟩
  · exact .of_left (intBits_le_64 h1 h2)
  · exact .of_right (intBits_le_64 h1 h2)

theorem op_add : OpR X (binaryOp .Add) (rI0 fun i j => .int (i + j)) := opI0 fun _ _ _ _ _ _ _ q => add_int q
theorem op_sub : OpR X (binaryOp .Sub) (rI0 fun i j => .int (i - j)) := opI0 fun _ _ _ _ _ _ _ q => sub_int q
theorem op_mul : OpR X (binaryOp .Mult) (rI CMul fun i j => .int (i * j)) := opI fun _ _ _ _ _ _ _ hc q => mul_int q hc.ok
/-- // by a positive divisor -/
theorem op_fdiv : OpR X (binaryOp .FloorDiv) (rI CDiv fun i j => .int (i / j)) := opI fun i j _ _ _ _ _ hc q => by
  have h1 : (0 : Int) < j := hc.1
  have h2 : j < 1073741824 := hc.2
  exact floordiv_int (by omega) (by rw [Int.fdiv_eq_ediv_of_nonneg i (by omega)]; exact q) (.inl (PyProof.noPylong_small (by omega)))
/-- % by a positive divisor of any size -/
theorem op_mod : OpR X (binaryOp .Mod) (rI (fun _ j => 0 < j) fun i j => .int (i % j)) := opI fun i j _ _ _ _ _ hc q => by
  have h1 : (0 : Int) < j := hc
  exact mod_int' (by omega) (by rw [Int.fmod_eq_emod_of_nonneg i (by omega)]; exact q)
theorem op_pow : OpR X (binaryOp .Pow) (rI CPow fun i j => .int (i ^ j.toNat)) := opI fun _ _ _ _ _ _ _ hc q => pow_int_small hc.1 hc.2.1 hc.2.2 q
theorem op_shl : OpR X (binaryOp .LShift) (rI CPow fun i j => .int (i * 2 ^ j.toNat)) := opI fun _ _ _ _ _ _ _ hc q => lshift_int_small hc.1 hc.2.1 hc.2.2 q


theorem unI {f : Value → Sem Value} {g : Int → Int}
    (rule : ∀ (i : Int) (t : Tok) (s : Shared) (Q : Value → Shared → Prop) (E : Value → Shared → Prop), Q (.int (g i) s.toks) { s with toks := s.toks + 1 } → wpAny (model X.prog X.w) X.A (f (.int i t)) Q E s) :
    UnR X f (rU fun i => .int (g i)) := by
  intro pins s σ H x v Q I rx h
  obtain ⟨i, rfl, q⟩ := h
  obtain ⟨t, rfl⟩ := rx
  exact rule i t s _ _ ⟨.int (g i), H, I.tok _, ⟨_, rfl⟩, q⟩
theorem un_neg : UnR X (unaryOp .USub) (rU fun i => .int (-i)) := unI fun _ _ _ _ _ q => neg_int q

/-! ### bools among ints: n += (a < b) -/
end

/-! ### comparisons -/
/-- the scalars that == tells apart as data does -/
def scal : V → V → Bool
  | .non, .non => true | .non, .int _ => true | .int _, .non => true | .non, .bl _ => true | .bl _, .non => true | .non, .str _ => true | .str _, .non => true
  | .int _, .int _ => true | .bl _, .bl _ => true | .str _, .str _ => true | .byt _, .byt _ => true
  | .int _, .str _ => true | .str _, .int _ => true | .bl _, .str _ => true | .str _, .bl _ => true
  | _, _ => false
def rEq : R2 := fun x y H Q => scal x y = true ∧ Q (.bl (decide (x = y))) H
def rNe : R2 := fun x y H Q => scal x y = true ∧ Q (.bl (!decide (x = y))) H

theorem dec_int {i j : Int} : decide (V.int i = V.int j) = (i == j) := by
  rw [Bool.eq_iff_iff]
  simp
theorem dec_bl {i j : Bool} : decide (V.bl i = V.bl j) = (i == j) := by
  rw [Bool.eq_iff_iff]
  simp
theorem dec_str {i j : Str} : decide (V.str i = V.str j) = (i == j) := by
  rw [Bool.eq_iff_iff]
  simp
theorem dec_byt {i j : Array UInt8} : decide (V.byt i = V.byt j) = (i.toList == j.toList) := by
  rw [Bool.eq_iff_iff]
  cases i
  cases j
  simp

section
variable {X : Cx} {a b c : Expr} {ta tb tc : TE} {pos : Pos}
theorem fin_bl {pins : List (Addr × Obj)} {σ : St} {H : Hp} {s : Shared} {Q : VK} {k k' : Bool} (I : Inv X pins σ H s) (q : Q (.bl k) H) (e : k = k') : EP X pins σ Q (.bool k') s := by
  subst e
  exact ⟨.bl k, H, I, rfl, q⟩
theorem op_eq : OpR X (compareOp .Eq) rEq := by
  intro pins s σ H x y v u Q I rx ry h
  obtain ⟨hs, q⟩ := h
  cases x with
  | non =>
    cases rx
    cases y with
    | non => cases ry; exact PySem.EqNone.eq_none_none (fin_bl I q (by simp))
    | bl j => cases ry; exact PySem.EqNone.eq_none_bool (fin_bl I q (by simp))
    | int j => obtain ⟨t', rfl⟩ := ry; exact PySem.EqNone.eq_none_int (fin_bl I q (by simp))
    | str j => obtain ⟨t', rfl⟩ := ry; exact PySem.EqNone.eq_none_str (fin_bl I q (by simp))
    | _ => exact absurd (show false = true from hs) Bool.false_ne_true
  | bl i =>
    cases rx
    cases y with
    | non => cases ry; exact PySem.EqNone.eq_bool_none (fin_bl I q (by simp))
    | bl j => cases ry; exact eq_bool (fin_bl I q dec_bl)
    | str j => obtain ⟨t', rfl⟩ := ry; exact PySem.EqMixed.eq_bool_str (fin_bl I q (by simp))
    | _ => exact absurd (show false = true from hs) Bool.false_ne_true
  | int i =>
    obtain ⟨t, rfl⟩ := rx
    cases y with
    | non => cases ry; exact PySem.EqNone.eq_int_none (fin_bl I q (by simp))
    | int j => obtain ⟨t', rfl⟩ := ry; exact eq_int (fin_bl I q dec_int)
    | str j => obtain ⟨t', rfl⟩ := ry; exact PySem.EqMixed.eq_int_str (fin_bl I q (by simp))
    | _ => exact absurd (show false = true from hs) Bool.false_ne_true
  | str i =>
    obtain ⟨t, rfl⟩ := rx
    cases y with
    | non => cases ry; exact PySem.EqNone.eq_str_none (fin_bl I q (by simp))
    | bl j => cases ry; exact PySem.EqMixed.eq_str_bool (fin_bl I q (by simp))
    | int j => obtain ⟨t', rfl⟩ := ry; exact PySem.EqMixed.eq_str_int (fin_bl I q (by simp))
    | str j => obtain ⟨t', rfl⟩ := ry; exact eq_str (fin_bl I q dec_str)
    | _ => exact absurd (show false = true from hs) Bool.false_ne_true
  | byt i =>
    obtain ⟨t, rfl⟩ := rx
    cases y with
    | byt j => obtain ⟨t', rfl⟩ := ry; exact PySem.W.eq_bytes (fin_bl I q dec_byt)
    | _ => exact absurd (show false = true from hs) Bool.false_ne_true
  | _ => cases y <;> exact absurd (show false = true from hs) Bool.false_ne_true
theorem op_ne : OpR X (compareOp .NotEq) rNe := by
  intro pins s σ H x y v u Q I rx ry h
  obtain ⟨hs, q⟩ := h
  cases x with
  | non =>
    cases rx
    cases y with
    | non => cases ry; exact PySem.EqNone.ne_none_none (fin_bl I q (by simp))
    | bl j => cases ry; exact PySem.EqNone.ne_none_bool (fin_bl I q (by simp))
    | int j => obtain ⟨t', rfl⟩ := ry; exact PySem.EqNone.ne_none_int (fin_bl I q (by simp))
    | str j => obtain ⟨t', rfl⟩ := ry; exact PySem.EqNone.ne_none_str (fin_bl I q (by simp))
    | _ => exact absurd (show false = true from hs) Bool.false_ne_true
  | bl i =>
    cases rx
    cases y with
    | non => cases ry; exact PySem.EqNone.ne_bool_none (fin_bl I q (by simp))
    | bl j => cases ry; exact ne_bool (fin_bl I q (congrArg not dec_bl))
    | str j => obtain ⟨t', rfl⟩ := ry; exact PySem.EqMixed.ne_bool_str (fin_bl I q (by simp))
    | _ => exact absurd (show false = true from hs) Bool.false_ne_true
  | int i =>
    obtain ⟨t, rfl⟩ := rx
    cases y with
    | non => cases ry; exact PySem.EqNone.ne_int_none (fin_bl I q (by simp))
    | int j => obtain ⟨t', rfl⟩ := ry; exact ne_int (fin_bl I q (congrArg not dec_int))
    | str j => obtain ⟨t', rfl⟩ := ry; exact PySem.EqMixed.ne_int_str (fin_bl I q (by simp))
    | _ => exact absurd (show false = true from hs) Bool.false_ne_true
  | str i =>
    obtain ⟨t, rfl⟩ := rx
    cases y with
    | non => cases ry; exact PySem.EqNone.ne_str_none (fin_bl I q (by simp))
    | bl j => cases ry; exact PySem.EqMixed.ne_str_bool (fin_bl I q (by simp))
    | int j => obtain ⟨t', rfl⟩ := ry; exact PySem.EqMixed.ne_str_int (fin_bl I q (by simp))
    | str j => obtain ⟨t', rfl⟩ := ry; exact ne_str (fin_bl I q (congrArg not dec_str))
    | _ => exact absurd (show false = true from hs) Bool.false_ne_true
  | byt i =>
    obtain ⟨t, rfl⟩ := rx
    cases y with
    | byt j => obtain ⟨t', rfl⟩ := ry; exact PySem.W.ne_bytes (fin_bl I q (congrArg not dec_byt))
    | _ => exact absurd (show false = true from hs) Bool.false_ne_true
  | _ => cases y <;> exact absurd (show false = true from hs) Bool.false_ne_true

theorem op_lt : OpR X (compareOp .Lt) (rI0 fun i j => .bl (decide (i < j))) := opB0 fun _ _ _ _ _ _ _ q => lt_int q
theorem op_le : OpR X (compareOp .LtE) (rI0 fun i j => .bl (decide (i ≤ j))) := opB0 fun _ _ _ _ _ _ _ q => le_int q
theorem op_gt : OpR X (compareOp .Gt) (rI0 fun i j => .bl (decide (j < i))) := opB0 fun _ _ _ _ _ _ _ q => gt_int q




theorem nomark (b : Expr) {op : CmpOp} (h : op ≠ .In := by decide) (h2 : op ≠ .NotIn := by decide) : behindInMarks op b = false := by
  have e1 : (op == CmpOp.In) = false := by cases op <;> first | rfl | exact absurd rfl h
  have e2 : (op == CmpOp.NotIn) = false := by cases op <;> first | rfl | exact absurd rfl h2
  cases b <;> simp [behindInMarks, e1, e2]
/-- a reading of a value as a test -/
def tTest (t : TE) : TT := fun σ H Q => t σ H fun x H' => ∃ k, x = .bl k ∧ Q k H'
theorem pt_cmpR {op : CmpOp} {r : R2} (ho : OpR X (compareOp op) r) (ha : PE X a ta) (hb : PE X b tb) (hm : behindInMarks op b = false) : PT X (.Compare a [op] [b] pos) (tTest (tOp r ta tb)) := by
  intro pins s σ H Q I h
  refine wpAny_isTrue_Compare1 (thn (ha pins s σ H _ I h) fun v s1 ⟨x, H1, I1, r1, q1⟩ => thn (hb pins s1 σ H1 _ I1 q1) fun u s2 ⟨y, H2, I2, r2, q2⟩ =>
    thn (ho pins s2 σ H2 x y v u _ I2 r1 r2 q2) fun c s3 ⟨z, H3, I3, r3, k, e, q3⟩ => ?_) hm
  subst e
  cases r3
  exact wpAny_truthy_bool ⟨H3, I3, q3⟩

/-! ### truth -/
theorem line63 : (sizeLine : Nat) < 2 ^ 63 := by rw [sizeLine_eq]; decide

/-! ### strs and bytes -/
theorem op_add_str : OpR X (binaryOp .Add) (fun x y H Q => ∃ i j, x = .str i ∧ y = .str j ∧ i.length + j.length ≤ sizeLine ∧ Q (.str (i ++ j)) H) := by
  intro pins s σ H x y v u Q I rx ry h
  obtain ⟨i, j, rfl, rfl, hz, q⟩ := h
  obtain ⟨t, rfl⟩ := rx
  obtain ⟨t', rfl⟩ := ry
  exact add_str (fun t' tk => ⟨.str (i ++ j), H, I.tok _, ⟨_, rfl⟩, q⟩) hz


/-! ### scalar builtins, by CallR -/
theorem vals1 {x : V} {us : List Value} (r : Vals [x] us) : ∃ u, us = [u] ∧ RelV x u := by
  cases r with
  | cons r1 r2 => cases r2; exact ⟨_, rfl, r1⟩
end
end L2

namespace L2
open PySem PySem.Spec PyProof.Rows

/-! ### an instance, its attributes a map -/
structure ObjM (h : Heap) (x dx C : Addr) (mA : Str → Option Value) : Prop where
  obj : h.get? x = some (PySem.W.instObj C dx)
  ns : h.Ns1 dx mA
  ne : dx ≠ x

theorem lookIn_ns {h : Heap} {dx : Addr} {mA : Str → Option Value} (n : h.Ns1 dx mA) : ∃ od, h.get? dx = some od ∧ ∀ name, PySem.W.lookIn name od = some (mA name) := by
  obtain ⟨o, es, ep, ho, hd, hk, _, hm⟩ := n
  refine ⟨o, ho, fun name => ?_⟩
  have e := hm name
  unfold nsFind findBy at e
  rw [← Array.find?_toList] at e
  unfold PySem.W.lookIn
  rw [hd]
  dsimp only
  split
  · rename_i y q
    rw [q] at e
    exact congrArg some e
  · rename_i q
    rw [q] at e
    have a : es.toList.any (·.refKey) = false := by
      rw [List.any_eq_false]
      intro y hy
      obtain ⟨z, t, hkey⟩ := hk y (Array.mem_toList_iff.mp hy)
      simp [DictEntry.refKey, hkey]
    have a' : ¬ es.toList.any (·.refKey) = true := by rw [a]; exact Bool.false_ne_true
    rw [if_neg a']
    exact congrArg some e

theorem ObjM.look {h : Heap} {x dx C : Addr} {mA : Str → Option Value} (I : ObjM h x dx C mA) : ∃ od, PySem.W.InstAt h x (PySem.W.instObj C dx) C (some od) ∧ ∀ name, PySem.W.lookIn name od = some (mA name) :=
  let ⟨od, ho, hl⟩ := lookIn_ns I.ns
  ⟨od, ⟨I.obj, rfl, rfl, ho⟩, hl⟩

section
variable {prog : Program} {w : World} {A : Around} {E : Value → Shared → Prop} {s : Shared} {K : PySem.W.Frag} {x dx C f : Addr} {mA : Str → Option Value} {name : Str} {v : Value}





end

/-! ### the attributes as a list of pairs -/


section
variable {P : Program} {w : World} {H H' : Hp} {h h' : Heap} {a C dx : Addr} {fs fs' : List (Str × V)}
theorem ins_get (hok : HOk P w H h) (e : H a = some (.ins C dx fs)) : ∃ mA, ObjM h a dx C mA ∧ (∀ f, RelO (fs.lookup f) (mA f)) ∧ PySem.Within mA (fs.map (·.1)) ∧ fs.length ≤ 1000 ∧ H dx = some (.own a) := by
  obtain ⟨d, z, ne, ob, mA, n, r, q⟩ := (show ObjOk P w H h a (.ins C dx fs) from hok a _ e)
  exact ⟨mA, ⟨ob, n, ne⟩, r, q, z, d⟩
end

/-! ### what of the text a class must have -/
structure Cls (K : PySem.W.Frag) (C : Addr) : Prop where
  pg : PySem.W.plainGet K C Str.empty = true
  hd : PySem.W.hasDictIn K C = true
  po : PySem.W.plainOver K C = true
  sa : PySem.W.findIn K (.ref C) "__setattr__" = some (some (.builtin "object.__setattr__"))
theorem Cls.get {K : PySem.W.Frag} {C : Addr} (c : Cls K C) (f : Str) : PySem.W.plainGet K C f = true := c.pg

section
variable {X : Cx} {pins : List (Addr × Obj)} {σ : St} {H : Hp} {s : Shared} {a C dx : Addr} {fs : List (Str × V)} {f : Str} {v : V} {A : Around} {E : Value → Shared → Prop}






end

/-! ### readings and rules -/

section
variable {X : Cx} {o e value : Expr} {f : Str} {pos pos' tpos : Pos} {ta tv : TE}

end

/-! ### isinstance -/
section
variable {X : Cx} {pins : List (Addr × Obj)} {σ : St} {H : Hp} {s : Shared} {A : Around} {E : Value → Shared → Prop} {Q : Value → Shared → Prop} {c : Value} {b : Bool}
/-- the type of a value, as the fragment's deciders take it; for an instance its class -/
inductive TyOf (K : PySem.W.Frag) (H : Hp) : V → Value → Prop where
  | non : TyOf K H .non (.type "NoneType")
  | bl (x : Bool) : TyOf K H (.bl x) (.type "bool")
  | int (i : Int) : TyOf K H (.int i) (.type "int")
  | str (x : Str) : TyOf K H (.str x) (.type "str")
  | flt (x : UInt64) : TyOf K H (.flt x) (.type "float")
  | lst {a : Addr} {xs : List V} (e : H a = some (.lst xs)) : TyOf K H (.ref a) (.type "list")
  | frz {a : Addr} {o : Obj} {xs : List V} (e : H a = some (.frz o (.lst xs))) : TyOf K H (.ref a) (.type "list")
  | tup {a : Addr} {xs : List V} (e : H a = some (.tup xs)) : TyOf K H (.ref a) (.type "tuple")
  | dK {a : Addr} {kvs : List (Key × V)} (e : H a = some (.dK kvs)) : TyOf K H (.ref a) (.type "dict")
  | dT {a : Addr} {kvs : List (List Key × V)} (e : H a = some (.dT kvs)) : TyOf K H (.ref a) (.type "dict")
  | ins {a C dx : Addr} {fs : List (Str × V)} (e : H a = some (.ins C dx fs)) (cl : Cls K C) (ha : PySem.W.findIn K (.ref C) "__class__" = some (some (.builtin "object.__class__")))
      (hn : PySem.W.specialIn K (.builtin "object.__class__") "__get__" = some (some (.builtin "getset_descriptor.__get__"))) (htk : PySem.W.takesIn K (.builtin "object.__class__") = some true)
      (hm : PySem.W.mroIn K C (.type "object") = some true) : TyOf K H (.ref a) (.ref C)
/-- isinstance(x, c) for one class c, a built-in or an own one: kitOne's answer -/
theorem isinst_ok {x : V} {u t : Value} (I : Inv X pins σ H s) (rx : RelV x u) (ty : TyOf X.K H x t) (e : PySem.W.kitOne X.K t c = some b) (h : ∀ tk, Q (.bool b) { s with toks := tk }) :
    wpAny (model X.prog X.w) A (call (.builtin "isinstance") [u, c]) Q E s := by
  cases ty with
  | non => cases (show u = Value.none from rx); exact PySem.W.kia_one PySem.W.kitx_none I.kIn True.intro e (fun z => nomatch z) h
  | bl y => cases (show u = Value.bool y from rx); exact PySem.W.kia_one PySem.W.kitx_bool I.kIn True.intro e (fun z => nomatch z) h
  | int i => obtain ⟨t, q⟩ := (show ∃ t, u = Value.int i t from rx); cases q; exact PySem.W.kia_one PySem.W.kitx_int I.kIn True.intro e (fun z => nomatch z) h
  | str y => obtain ⟨t, q⟩ := (show ∃ t, u = Value.str y t from rx); cases q; exact PySem.W.kia_one PySem.W.kitx_str I.kIn True.intro e (fun z => nomatch z) h
  | flt y => obtain ⟨t, q⟩ := (show ∃ t, u = Value.float y t from rx); cases q; exact PySem.W.kia_one PySem.W.kitx_float I.kIn True.intro e (fun z => nomatch z) h
  | @lst a xs ea =>
    cases (show u = Value.ref a from rx)
    obtain ⟨_, _, n, _, h1⟩ := (show ObjOk X.prog X.w H s.heap a (.lst xs) from I.hok a _ ea)
    exact PySem.W.kia_one PySem.W.kitx_list I.kIn ⟨_, h1, rfl⟩ e (fun z => nomatch z) h
  | @frz a ob xs ea =>
    cases (show u = Value.ref a from rx)
    obtain ⟨_, _, _, n, _, h1⟩ := (show ObjOk X.prog X.w H s.heap a (.frz ob (.lst xs)) from I.hok a _ ea)
    exact PySem.W.kia_one PySem.W.kitx_list I.kIn ⟨_, h1, rfl⟩ e (fun z => nomatch z) h
  | @tup a xs ea =>
    cases (show u = Value.ref a from rx)
    obtain ⟨_, _, _, p⟩ := (show ObjOk X.prog X.w H s.heap a (.tup xs) from I.hok a _ ea)
    obtain ⟨o, h1, h2, _⟩ := p
    exact PySem.W.kia_one PySem.W.kitx_tuple I.kIn ⟨o, h1, h2⟩ e (fun z => nomatch z) h
  | @dK a kvs ea =>
    cases (show u = Value.ref a from rx)
    obtain ⟨_, _, vs, _, p⟩ := (show ObjOk X.prog X.w H s.heap a (.dK kvs) from I.hok a _ ea)
    obtain ⟨o, es, ep, h1, h2, _⟩ := p
    exact PySem.W.kia_one PySem.W.kitx_dict I.kIn ⟨o, h1, h2.1⟩ e (fun z => nomatch z) h
  | @dT a kvs ea =>
    cases (show u = Value.ref a from rx)
    obtain ⟨_, _, xs, _, o, es, ep, h1, h2, _⟩ := (show ObjOk X.prog X.w H s.heap a (.dT kvs) from I.hok a _ ea)
    exact PySem.W.kia_one PySem.W.kitx_dict I.kIn ⟨o, h1, h2.1⟩ e (fun z => nomatch z) h
  | @ins a C dx fs ea cl ha hn htk hm =>
    cases (show u = Value.ref a from rx)
    obtain ⟨mA, O, _⟩ := ins_get I.hok ea
    obtain ⟨od, J, _⟩ := O.look
    exact PySem.W.kia_one (PySem.W.kitx_own (cl.get _) cl.hd ha hn htk hm) I.kIn J e (fun z => nomatch z) h
end
end L2

namespace L2
open PySem PySem.Spec PyProof.Rows

/-! ### room -/
structure Room (k : Nat) (A : Around) : Prop where
  hd : A.handled = none
  dp : A.depth + 3 * k + 5 < recursionLimit
  un : A.units + 16 * k + 200 < cLine
theorem Room.mono {j k : Nat} {A : Around} (r : Room k A) (h : j ≤ k) : Room j A := ⟨r.hd, by have := r.dp; omega, by have := r.un; omega⟩
theorem Room.deeper {k : Nat} {A : Around} (r : Room (k + 1) A) (env : Env) : Room k (A.deeper env) :=
  ⟨r.hd, by have := r.dp; show A.depth + 1 + 3 * k + 5 < _; omega, by have := r.un; show A.units + 3 + 16 * k + 200 < _; omega⟩
theorem Room.depth {k : Nat} {A : Around} (r : Room k A) : A.depth < recursionLimit := by have := r.dp; omega

/-! ### argument lists and displays -/
def tNil : TA := fun _ H Q => Q [] H
def tCons (ta : TE) (tr : TA) : TA := fun σ H Q => ta σ H fun x H1 => tr σ H1 fun xs H2 => Q (x :: xs) H2
section
variable {X : Cx} {e : Expr} {es : List Expr} {te : TE} {t : TA} {pos : Pos}
theorem pa_nil : PA X [] tNil := fun _ _ _ _ H Q I h => Calls.spliced_nil ⟨[], H, I, .nil, h⟩
theorem pa_cons (ha : PE X e te) (hr : PA X es t) (hs : starEach (e :: es) X.env = (false, eval e X.env) :: starEach es X.env := by rfl) : PA X (e :: es) (tCons te t) := by
  intro pos pins s σ H Q I h
  rw [hs]
  show wpAny _ _ (spliced ((false, eval e X.env) :: backTo pos (starEach es X.env))) _ _ s
  refine Calls.spliced_cons (thn (ha pins s σ H _ I h) fun u s1 ⟨x, H1, I1, r1, q1⟩ => ?_)
  exact thn (hr pos pins s1 σ H1 _ I1 q1) fun us s2 ⟨xs, H2, I2, r2, q2⟩ => ⟨x :: xs, H2, I2, .cons r1 r2, q2⟩

/-- a tuple, a list of written items -/
def tTup (t : TA) : TE := fun σ H Q => t σ H fun xs H1 => xs.length ≤ sizeLine ∧ ∀ p, H1 p = none → Q (.ref p) (upd H1 p (.tup xs))
def tLst (t : TA) : TE := fun σ H Q => t σ H fun xs H1 => xs.length ≤ sizeLine ∧ ∀ p, H1 p = none → Q (.ref p) (upd H1 p (.lst xs))
theorem pe_tup {x1} (h : PA X es t) : PE X (.Tuple es x1 pos) (tTup t) := by
  intro pins s σ H Q I hq
  refine wpAny_Tuple_spliced (thn (h pos pins s σ H _ I hq) fun us s1 ⟨xs, H1, I1, r, z, q⟩ => ⟨by rw [← r.length]; exact z, ?_⟩)
  have hf : H1 s1.heap.objs.size = none := I1.hok.fresh (Nat.le_refl _)
  refine ⟨.ref s1.heap.objs.size, upd H1 s1.heap.objs.size (.tup xs), I1.laid (t' := s1.toks) (fun b u e => Heap.get?_push_of_some _ e) (Nat.le_refl _) ?_, rfl, q _ hf⟩
  exact ⟨z, us, r, ⟨_, Heap.get?_push_size _ rfl, rfl, _, rfl⟩⟩
theorem pe_lst (h : PA X es t) : PE X (.List es pos) (tLst t) := by
  intro pins s σ H Q I hq
  refine wpAny_List_spliced (thn (h pos pins s σ H _ I hq) fun us s1 ⟨xs, H1, I1, r, z, q⟩ => ⟨by rw [← r.length]; exact z, ?_⟩)
  have hf : H1 s1.heap.objs.size = none := I1.hok.fresh (Nat.le_refl _)
  refine ⟨.ref s1.heap.objs.size, upd H1 s1.heap.objs.size (.lst xs), I1.laid (t' := s1.toks) (fun b u e => Heap.get?_push_of_some _ e) (Nat.le_refl _) ?_, rfl, q _ hf⟩
  exact ⟨z, us, 0, r, Heap.get?_push_size _ rfl⟩
end

/-! ### what a def promises -/
/-- a def's promise: the bound arguments in the parameters' order, the heap, the wanted end, the wanted exception -/
abbrev Sp := List V → Hp → VK → XK → Prop
/-- how an exception lies behind a call (file 08 gives it): the callers' frames, abstract heap and state ahead of the call, the wish, the exception, the state -/
abbrev CXT := List Env → Hp → Shared → XK → Value → Shared → Prop

/-- the state at a call -/
structure Env0 (P : Program) (w : World) (K : PySem.W.Frag) (mg : Str → Option Value) (base : Heap) (A : Around) (outer : List Env) (s : Shared) (H : Hp) : Prop where
  frames : A.frames = some outer
  mod : Mod K mg base
  bs : ∀ b o, base.get? b = some o → s.heap.get? b = some o ∧ H b = none
  bsz : base.objs.size ≤ s.heap.objs.size
  funs : s.heap.FunFrames base outer
  frf : ∀ b ∈ frs outer, H b = none
  hok : HOk P w H s.heap
  bare : AllBare s.gens
/-- a call's end -/
def CE (outer : List Env) (P : Program) (w : World) (H : Hp) (s : Shared) (Q : VK) (u : Value) (s' : Shared) : Prop :=
  ∃ v H', s'.os = s.os ∧ AllBare s'.gens ∧ Un (frs outer) [] H H' s.heap s'.heap ∧ HOk P w H' s'.heap ∧ RelV v u ∧ Q v H'
def CR (CX : CXT) (outer : List Env) (P : Program) (w : World) (H : Hp) (s : Shared) (Q : VK) (E : XK) (r : Result) (s' : Shared) : Prop :=
  match r with
  | .ok (.ret u) => CE outer P w H s Q u s'
  | .ok _ => False
  | .error e => CX outer H s E e s'
structure FnOk (P : Program) (w : World) (K : PySem.W.Frag) (mg : Str → Option Value) (base : Heap) (CX : CXT) (k : Nat) (f : Addr) (fd : FuncData) (ps : List Str) (sp : Sp) : Prop where
  len : ∀ vs H Q E, sp vs H Q E → vs.length = ps.length
  run : ∀ (A : Around) (outer : List Env) (s : Shared) (H : Hp) (args : Args) (us : List Value) (vs : List V) (Q : VK) (E : XK), Room k A → Env0 P w K mg base A outer s H → BindsTo s fd args (ps.zip us) → Vals vs us → sp vs H Q E →
    codeAny (model P w) A (.call (.ref f) args) (CR CX outer P w H s Q E) s
theorem FnOk.mono {P : Program} {w : World} {K : PySem.W.Frag} {mg : Str → Option Value} {base : Heap} {CX : CXT} {j k : Nat} {f : Addr} {fd : FuncData} {ps : List Str} {sp : Sp} (F : FnOk P w K mg base CX j f fd ps sp) (h : j ≤ k) :
    FnOk P w K mg base CX k f fd ps sp := ⟨F.len, fun A outer s H args us vs Q E hr => F.run A outer s H args us vs Q E (hr.mono h)⟩
/-- a weaker promise -/
theorem FnOk.imp {P : Program} {w : World} {K : PySem.W.Frag} {mg : Str → Option Value} {base : Heap} {CX : CXT} {k : Nat} {f : Addr} {fd : FuncData} {ps : List Str} {sp sp' : Sp} (F : FnOk P w K mg base CX k f fd ps sp)
    (h : ∀ vs H Q E, sp' vs H Q E → sp vs H Q E) : FnOk P w K mg base CX k f fd ps sp' :=
  ⟨fun vs H Q E q => F.len vs H Q E (h _ _ _ _ q), fun A outer s H args us vs Q E hr he hb hv hs => F.run A outer s H args us vs Q E hr he hb hv (h _ _ _ _ hs)⟩


section
variable {X : Cx} {pins : List (Addr × Obj)} {σ : St} {H : Hp} {s s' : Shared}
/-- from a body: what a callee wants -/
theorem Inv.env0 (I : Inv X pins σ H s) : Env0 X.prog X.w X.K X.mg X.base X.A X.stack s H :=
  ⟨I.ok.frames, I.ok.mod, I.bs, Nat.le_trans I.ok.bsz I.sz, I.stack, I.stkFree, I.hok, I.bare⟩
/-- behind a call -/
theorem Inv.after {Q : VK} {u : Value} (I : Inv X pins σ H s) (h : CE X.stack X.prog X.w H s Q u s') : EP X pins σ Q u s' := by
  obtain ⟨v, H', os, bare, un, hok, r, q⟩ := h
  obtain ⟨hh, g, d, t, os'⟩ := s'
  obtain rfl : os' = s.os := os
  exact ⟨v, H', I.call (h' := hh) (g' := g) (d' := d) (t' := t) (ch := []) un hok bare (fun b z => absurd z (by simp)), r, q⟩
end

/-! ### calls -/
/-- f(..): the written arguments, then the defaults dvs; E: what is wanted of an exception -/
def tCall (sp : Sp) (dvs : List V) (E : XK) (t : TA) : TE := fun σ H Q => t σ H fun vs H1 => sp (vs ++ dvs) H1 Q E

/-- how the parameters are bound: us the positional arguments, kw the keywords' values by name, ds the defaults that fill up -/
def Binds (K : PySem.W.Frag) (fd : FuncData) (ps : List Str) (ds : List Value) : Prop :=
  ∀ (s : Shared) (us : List Value), K.In s.heap → (us ++ ds).length = ps.length → BindsTo s fd ⟨us, []⟩ (ps.zip (us ++ ds))
/-- every parameter is given -/
theorem Binds.all {K : PySem.W.Frag} {fd : FuncData} {ps : List Str} (h : ∀ us : List Value, us.length = ps.length → bindArgs fd ⟨us, []⟩ = pure (ps.zip us)) : Binds K fd ps [] := fun s us _ hl => by
  rw [List.append_nil] at hl ⊢
  exact .of_eq (h us hl)

/-- an exception of a callee reaches what this body wants of exceptions -/
def Passes (CX : CXT) (X : Cx) (E : XK) : Prop := ∀ (pins : List (Addr × Obj)) (σ : St) (H : Hp) (s : Shared) (e : Value) (s' : Shared), Inv X pins σ H s → CX X.stack H s E e s' → X.xe e s'

section
variable {X : Cx} {CX : CXT} {k : Nat} {f C : Addr} {fd : FuncData} {ps : List Str} {sp : Sp} {dvs : List V} {ds : List Value} {E : XK} {x m : Str} {p pos apos : Pos} {e o : Expr} {es : List Expr} {ta : TE} {t : TA}

/-- the callee runs -/
theorem run_fn {pins : List (Addr × Obj)} {σ : St} {H : Hp} {s : Shared} {Q : VK} {us : List Value} {vs : List V} (F : FnOk X.prog X.w X.K X.mg X.base CX k f fd ps sp) (hr : Room k X.A) (hb : Binds X.K fd ps ds) (hd : Vals dvs ds) (hx : Passes CX X E)
    (I : Inv X pins σ H s) (r : Vals vs us) (h : sp (vs ++ dvs) H Q E) : wpAny (model X.prog X.w) X.A (call (.ref f) us) (EP X pins σ Q) X.xe s := by
  have r2 : Vals (vs ++ dvs) (us ++ ds) := r.append hd
  have hl : (us ++ ds).length = ps.length := by rw [← r2.length]; exact F.len _ _ _ _ h
  refine wpAny_call (codeAny_mono (F.run X.A X.stack s H ⟨us, []⟩ (us ++ ds) (vs ++ dvs) Q E hr I.env0 (hb s us I.kIn hl) r2 h) fun r s' hq => ?_)
  cases r with
  | error e => exact hx pins σ H s e s' I hq
  | ok fl =>
    cases fl with
    | ret u => exact I.after hq
    | next => exact False.elim hq
    | brk => exact False.elim hq
    | cont => exact False.elim hq

theorem pe_call (F : FnOk X.prog X.w X.K X.mg X.base CX k f fd ps sp) (hr : Room k X.A) (hg : Gl X x) (hm : X.mg x = some (.ref f)) (hk : PySem.W.keepIn X.K (.ref f) = true) (hb : Binds X.K fd ps ds) (hd : Vals dvs ds) (hx : Passes CX X E)
    (ha : PA X (e :: es) t) (hdb : (x == ("__debug__" : Str)) = false := by decide) (he : starEach (e :: es) X.env = (false, eval e X.env) :: starEach es X.env := by rfl) (hpl : (backTo pos (starEach es X.env)).any (·.1) = false := by rfl) :
    PE X (.Call (.Name x p) (e :: es) [] pos) (tCall sp dvs E t) := by
  intro pins s σ H Q I h
  refine wpAny_Call_Name_kw (ld_glob I hg hm ?_ hdb)
  refine PySem.W.callWith_K (h₀ := X.base) I.ok.mod.kin hk (thn (ha pos pins s σ H _ I h) fun us s1 ⟨vs, H1, I1, r, q⟩ => ⟨I1.kIn, ?_⟩) he hpl
  exact run_fn F hr hb hd hx I1 r q



end

/-! ### keywords -/
section
variable {X : Cx} {CX : CXT} {k : Nat} {f C : Addr} {fd : FuncData} {ps ks : List Str} {sp : Sp} {E : XK} {x m : Str} {p pos apos kpos : Pos} {e o : Expr} {es : List Expr} {kws : List Keyword} {te ta : TE} {t tk : TA} {nm : Option Str}

variable {g : List Value → List Value → List Value} {gV : List V → List V → List V}
end

/-! ### a def's body keeps its promise -/
/-- names: the parameters first -/
structure FnScope (N P : List Str) (sc : Scope) : Prop where
  kind : sc.kind = .function
  co : sc.isCoroutine = false
  gen : sc.isGenerator = false
  nd : N.Nodup
  pre : N.take P.length = P
  par : ∀ x ∈ P, sc.names.lookup x = some .local ∨ sc.names.lookup x = some .cell
  nofree : ∀ y ∈ sc.names, y.2 ≠ .free

theorem bindL_out {kindOf : Str → Option NameKind} {x : Str} : ∀ {binds : List (Str × Value)} {m : Str → Option Value}, (∀ v, (x, v) ∉ binds) → bindL kindOf binds m x = m x
  | [], _, _ => rfl
  | (n, v) :: r, m, h => by
    unfold bindL
    rw [bindL_out fun w hw => h w (List.mem_cons_of_mem _ hw)]
    split
    · have : x ≠ n := by rintro rfl; exact h v List.mem_cons_self
      simp [this]
    · rfl
theorem bindC_out {kindOf : Str → Option NameKind} {x : Str} : ∀ {binds : List (Str × Value)} {m : Str → Option Value}, (∀ v, (x, v) ∉ binds) → bindC kindOf binds m x = m x
  | [], _, _ => rfl
  | (n, v) :: r, m, h => by
    unfold bindC
    rw [bindC_out fun w hw => h w (List.mem_cons_of_mem _ hw)]
    split
    · rfl
    · have : x ≠ n := by rintro rfl; exact h v List.mem_cons_self
      simp [this]
theorem bindL_get {kindOf : Str → Option NameKind} {x : Str} {v : Value} : ∀ {P : List Str} {vs : List Value} {i : Nat} {m : Str → Option Value}, P.Nodup → P[i]? = some x → vs[i]? = some v → kindOf x = some .local →
    bindL kindOf (P.zip vs) m x = some v
  | [], _, _, _, _, h, _, _ => by simp at h
  | _ :: _, [], _, _, _, _, h, _ => by simp at h
  | p :: P, w :: vs, 0, m, nd, h1, h2, hk => by
    simp at h1 h2; subst h1; subst h2
    show bindL kindOf ((p, w) :: P.zip vs) m p = _
    unfold bindL
    rw [bindL_out fun v hv => (List.nodup_cons.mp nd).1 (List.of_mem_zip hv).1, if_pos hk]
    simp
  | p :: P, w :: vs, i + 1, m, nd, h1, h2, hk => by
    show bindL kindOf ((p, w) :: P.zip vs) m x = _
    unfold bindL
    exact bindL_get (i := i) (List.nodup_cons.mp nd).2 (by simpa using h1) (by simpa using h2) hk
theorem bindC_get {kindOf : Str → Option NameKind} {x : Str} {v : Value} : ∀ {P : List Str} {vs : List Value} {i : Nat} {m : Str → Option Value}, P.Nodup → P[i]? = some x → vs[i]? = some v → kindOf x ≠ some .local →
    bindC kindOf (P.zip vs) m x = some v
  | [], _, _, _, _, h, _, _ => by simp at h
  | _ :: _, [], _, _, _, _, h, _ => by simp at h
  | p :: P, w :: vs, 0, m, nd, h1, h2, hk => by
    simp at h1 h2; subst h1; subst h2
    show bindC kindOf ((p, w) :: P.zip vs) m p = _
    unfold bindC
    rw [bindC_out fun v hv => (List.nodup_cons.mp nd).1 (List.of_mem_zip hv).1, if_neg hk]
    simp
  | p :: P, w :: vs, i + 1, m, nd, h1, h2, hk => by
    show bindC kindOf ((p, w) :: P.zip vs) m x = _
    unfold bindC
    exact bindC_get (i := i) (List.nodup_cons.mp nd).2 (by simpa using h1) (by simpa using h2) hk

/-- the names' values at the entry -/
def start (N : List Str) (vs : List V) : St := vs.map some ++ List.replicate (N.length - vs.length) none

/-- the context of a def's body, at its entry; an exception leaves the frame, then lies as CX says -/
def cxOf (CX : CXT) (P : Program) (w : World) (K : PySem.W.Frag) (mg : Str → Option Value) (base : Heap) (N : List Str) (qual : Str) (scope : Scope) (f : Addr) (cd : Value) (A : Around) (outer : List Env) (s : Shared) (H : Hp) (E : XK) : Cx where
  prog := P
  w := w
  K := K
  mg := mg
  base := base
  A := A.deeper (envOfC qual scope s.heap.objs.size f cd)
  N := N
  s₀ := s
  H₀ := H
  env := envOfC qual scope s.heap.objs.size f cd
  outer := outer
  stack := envOfC qual scope s.heap.objs.size f cd :: outer
  ex := []
  calm := true
  fn := fun _ => true
  pn := []
  xe := fun e s' => wpAny (model P w) (A.deeper (envOfC qual scope s.heap.objs.size f cd)) (leaving (envOfC qual scope s.heap.objs.size f cd) e) (fun _ s'' => CX outer H s E e s'') (fun e' s'' => CX outer H s E e' s'') s'

theorem cell_has {sc : Scope} {n : Nat} {x : Str} (h : sc.names.lookup x = some .cell) : ∃ c, (cellsFrom n sc.names []).lookup x = some c := by
  have q := PySem.W.cellsFrom_some sc.names n [] (.inl h)
  exact Option.isSome_iff_exists.mp q

theorem inv_start {CX : CXT} {P : Program} {w : World} {K : PySem.W.Frag} {mg : Str → Option Value} {base : Heap} {N ps : List Str} {qual : Str} {scope : Scope} {f : Addr} {cd : Value} {A : Around} {outer : List Env} {s s1 : Shared} {H : Hp} {E : XK} {us : List Value} {vs : List V}
    (S : FnScope N ps scope) (hd : A.handled = none) (e0 : Env0 P w K mg base A outer s H) (hl : vs.length = ps.length) (r : Vals vs us)
    (x : InCallC s s.heap.objs.size (bindL (envOfC qual scope s.heap.objs.size f cd).kindOf (ps.zip us) fun _ => none) (cellsFrom (s.heap.objs.size + 1) scope.names []) (bindC (envOfC qual scope s.heap.objs.size f cd).kindOf (ps.zip us) fun _ => none) s1) :
    Inv (cxOf CX P w K mg base N qual scope f cd A outer s H E) [] (start N vs) H s1 := by
  have hpl : ps.length ≤ N.length := by have := congrArg List.length S.pre; rw [List.length_take] at this; omega
  obtain ⟨h1, tk, rfl, hk⟩ := x.done
  have noA : ∀ b : Addr, b ∉ (cxOf CX P w K mg base N qual scope f cd A outer s H E).ex := fun b z => absurd (show b ∈ ([] : List Addr) from z) (by simp)
  refine ⟨⟨e0.mod, S.kind, rfl, rfl, Nat.le_refl _, fun y z c h1 h2 => ?_, fun y hy => ?_, fun y c _ h => ?_, fun _ => hd, Around.frames_deeper e0.frames, .inr ⟨rfl, rfl⟩, fun b z => absurd z (noA b), e0.bs, e0.bsz, fun b _ _ => noA b, fun b z => absurd z (noA b), e0.funs, e0.frf⟩,
    rfl, e0.bare, Un.kept hk, ⟨_, x.toInCall.ns, fun i y v h1 h2 h3 => ?_⟩, fun y c h => ⟨_, x.cell y c h⟩, e0.hok.fresh (Nat.le_refl _), fun y c h => ?_, fun p hp => absurd (show p ∈ ([] : List (Addr × Obj)) from hp) (by simp), e0.hok.kept hk, ?_⟩
  · exact name_of_addr x.apart (PySem.mem_of_lookup h1) (PySem.mem_of_lookup h2)
  · have hy : scope.names.lookup y = some .cell ∨ scope.names.lookup y = some .free := hy
    rcases hy with hy | hy
    · exact cell_has hy
    · exact absurd rfl (S.nofree _ (PySem.mem_of_lookup hy))
  · exact Nat.le_of_lt (x.above y c (PySem.mem_of_lookup h))
  · have hi : i < vs.length := by
      unfold start at h2
      by_cases hi : i < vs.length
      · exact hi
      · rw [List.getElem?_append_right (by simpa using hi)] at h2
        rw [List.getElem?_replicate] at h2
        split at h2 <;> cases h2
    have ha : vs[i]? = some v := by
      unfold start at h2
      rw [List.getElem?_append_left (by simpa using hi), List.getElem?_map] at h2
      cases e : vs[i]? with
      | none => rw [e] at h2; cases h2
      | some a => rw [e] at h2; cases h2; rfl
    obtain ⟨u, hu, rv⟩ := r.get ha
    have hp : ps[i]? = some y := by
      rw [← S.pre, List.getElem?_take_of_lt (by omega)]; exact h1
    have ndP : ps.Nodup := by rw [← S.pre]; exact S.nd.sublist (List.take_sublist _ _)
    refine ⟨u, rv, ?_⟩
    rcases S.par y (List.mem_of_getElem? hp) with k | k
    · exact .inl ⟨k, bindL_get ndP hp hu k⟩
    · obtain ⟨c, e⟩ := cell_has (n := s.heap.objs.size + 1) k
      refine .inr ⟨.inl k, c, e, ?_⟩
      have q := x.cell y c e
      rw [bindC_get ndP hp hu (by show scope.names.lookup y ≠ _; rw [k]; decide)] at q
      exact q
  · exact e0.hok.fresh (Nat.le_of_lt (x.above y c (PySem.mem_of_lookup h)))
  · unfold start
    show _ = N.length
    rw [List.length_append, List.length_map, List.length_replicate]
    omega

/-- THE RULE: a def (or a method) of the text, by its body. The body's reading t is chosen for each entry; it is run at the parameters' values -/
theorem fn_of {CX : CXT} {P : Program} {w : World} {K : PySem.W.Frag} {mg : Str → Option Value} {base : Heap} {k : Nat} {f : Addr} {name qual : Str} {params : Arguments} {body : List Stmt} {scope : Scope} {dV kV doc pm cdv ct oc : Value} {an od : Option Addr}
    {osl : Array (Option Value)} {N ps : List Str} {sp : Sp} (lk : K.lookup f = some ⟨oc, od, .func (PySem.W.fnOf name qual params body scope dV kV doc pm an cdv ct), osl⟩) (hcd : PySem.W.codeIn K cdv qual = true) (S : FnScope N ps scope)
    (len : ∀ vs H Q E, sp vs H Q E → vs.length = ps.length)
    (hbody : ∀ (A : Around) (outer : List Env) (s : Shared) (H : Hp) (vs : List V) (Q : VK) (E : XK), Room k (A.deeper (envOfC qual scope s.heap.objs.size f cdv)) → sp vs H Q E →
      ∃ t, PSs (cxOf CX P w K mg base N qual scope f cdv A outer s H E) body t ∧ t { nx := fun _ H' => Q .non H', rt := Q } (start N vs) H) :
    FnOk P w K mg base CX (k + 1) f (PySem.W.fnOf name qual params body scope dV kV doc pm an cdv ct) ps sp := by
  refine ⟨len, fun A outer s H args us vs Q E hr e0 hb r hsp => ?_⟩
  have hl := len _ _ _ _ hsp
  have KX : K.In s.heap := e0.mod.kin.keeps fun b o e => (e0.bs b o e).1
  have lim : s.heap.NoLimit := e0.mod.nolimit.keeps fun b o e => (e0.bs b o e).1
  have hkind : ∀ y ∈ ps.zip us, scope.names.lookup y.1 = some .local ∨ (scope.names.lookup y.1 = some .cell ∧ ((cellsFrom (s.heap.objs.size + 1) scope.names []).lookup y.1).isSome = true) := fun ⟨n, v⟩ hy => by
    rcases S.par n (List.of_mem_zip hy).1 with q | q
    · exact .inl q
    · exact .inr ⟨q, PySem.W.cellsFrom_some _ _ _ (.inl q)⟩
  refine codeAny_call_function hr.depth (KX _ _ lk) rfl S.co S.gen rfl (PySem.W.codeRec_of KX hcd) (hb _ _ _ _ ?_)
  refine wpAny_newFunctionEnv_cells S.kind hkind fun env he s1 x => ?_
  subst he
  refine ⟨lim.keeps x.toInCall.keep, codeAny_func ?_⟩
  obtain ⟨t, ht, hq⟩ := hbody A outer s H vs Q E (hr.deeper _) hsp
  have I : Inv (cxOf CX P w K mg base N qual scope f cdv A outer s H E) [] (start N vs) H s1 := inv_start S hr.hd e0 hl r x
  refine wpAny_mono (ht [] s1 (start N vs) H _ I hq) (fun fl s' hs => ?_) fun e s' hs => hs
  have fin : ∀ {σ' : St} {H' : Hp} {v : V} {u : Value}, Inv (cxOf CX P w K mg base N qual scope f cdv A outer s H E) [] σ' H' s' → RelV v u → Q v H' → CE outer P w H s Q u s' :=
    fun {σ' H' v u} J rv q => ⟨v, H', J.os, J.bare, J.base, J.hok, rv, q⟩
  cases fl with
  | ret u =>
    obtain ⟨v, σ', H', J, rv, q⟩ := hs
    exact fin J rv q
  | next =>
    obtain ⟨σ', H', J, q⟩ := hs
    exact fin (v := V.non) (u := Value.none) J rfl q
  | brk =>
    obtain ⟨_, _, _, q⟩ := hs
    exact False.elim q
  | cont =>
    obtain ⟨_, _, _, q⟩ := hs
    exact False.elim q
end L2

namespace L2
open PySem PySem.Spec PyProof.Rows
section
variable {X : Cx} {x : Str} {p pos : Pos} {e : Expr} {es : List Expr} {t : TA} {id T : String} {r : List V → Hp → VK → Prop}

def tCB (r : List V → Hp → VK → Prop) (t : TA) : TE := fun σ H Q => t σ H fun vs H1 => r vs H1 Q
/-- f(e, ..), f a built-in function -/
theorem pe_callB (hc : CallR X (.builtin id) r) (hg : Gl X x) (hm : X.mg x = none) (hv : bootBuiltins x = some (.builtin id)) (ha : PA X (e :: es) t) (hn : x ≠ "__name__" := by decide) (hdb : (x == ("__debug__" : Str)) = false := by decide)
    (he : starEach (e :: es) X.env = (false, eval e X.env) :: starEach es X.env := by rfl) (hpl : (backTo pos (starEach es X.env)).any (·.1) = false := by rfl) : PE X (.Call (.Name x p) (e :: es) [] pos) (tCB r t) := by
  intro pins s σ H Q I h
  refine wpAny_Call_Name_kw (ld_blt I hg hm hv ?_ hn hdb)
  exact PyProof.Rows.callWith_builtin1 (thn (ha pos pins s σ H _ I h) fun us s1 ⟨vs, H1, I1, r1, q1⟩ => hc pins s1 σ H1 vs us Q I1 r1 q1) he hpl
end
end L2

namespace L2
open PySem PySem.Spec PyProof.Rows

/-! ### lists of pairs as tables -/
section
variable {κ : Type} [DecidableEq κ]



end


/-! ### a tracked dict, its keys ints and texts or tuples of these -/


section
variable {P : Program} {w : World} {H : Hp} {h : Heap} {a : Addr}
end



section
variable {X : Cx} {pins : List (Addr × Obj)} {σ : St} {H : Hp} {s : Shared} {a : Addr} {y v : V} {u r : Value} {o : Option V} {A : Around} {E : Value → Shared → Prop}


end

section
variable {X : Cx} {pins : List (Addr × Obj)} {σ : St} {H : Hp} {s : Shared} {a : Addr} {kvs : List (Key × V)} {k : Key} {u : Value} {A : Around} {E : Value → Shared → Prop}
end


/-! ### readings and rules -/



section
variable {X : Cx} {o i e value : Expr} {pos pos' tpos : Pos} {td ty tv : TE}
end


/-! ### displays -/
section
variable {X : Cx} {pos : Pos}
end




/-! ### methods -/


section
variable {X : Cx} {pins : List (Addr × Obj)} {σ : St} {H : Hp} {s : Shared} {a : Addr} {y d : V} {u r : Value} {o : Option V} {A : Around} {E : Value → Shared → Prop}
end

section
variable {X : Cx} {o e f : Expr} {apos cpos : Pos} {td ty tx : TE}
end

/-! ### dict(d): a copy -/
section
variable {X : Cx} {pins : List (Addr × Obj)} {σ : St} {H : Hp} {s : Shared} {a : Addr} {kvs : List (Key × V)} {A : Around} {E : Value → Shared → Prop}
end


section
variable {X : Cx} {pins : List (Addr × Obj)} {σ : St} {H : Hp} {s : Shared} {a : Addr} {y : V} {u : Value} {A : Around} {E : Value → Shared → Prop}
end
end L2

namespace HT
open PySem PyProof.Rows



section
open PySem.SeqAt
open PySem.AutoSeq1 (wpAny_loadPart')
open PySem.MeetsSeq PySem.MeetsSeq2 PySem.MeetsSeq3

end

section
variable {prog : Program} {w : World} {A : Around} {E : Value → Shared → Prop} {s : Shared}



/-! ### t[a:b], not the whole -/

end
end HT

namespace L2
open PySem PySem.Spec PyProof.Rows

/-! ### the parts of a slice -/


section
variable {X : Cx} {e : Expr} {te : TE} {lo hi : Option Expr} {tl th : TO} {pos p2 : Pos}




/-! ### t < u, t + u -/
end
end L2

namespace L2
open PySem PySem.Spec PyProof.Rows

/-! ### places -/

/-! ### what may be subscripted -/
/-- a call of a builtin's method by values: the receiver, the arguments -/
def MtR (X : Cx) (id : String) (r : V → List V → Hp → VK → Prop) : Prop :=
  ∀ (pins : List (Addr × Obj)) (s : Shared) (σ : St) (H : Hp) (x : V) (xs : List V) (v : Value) (us : List Value) (Q : VK), Inv X pins σ H s → RelV x v → Vals xs us → r x xs H Q →
    wpAny (model X.prog X.w) X.A (call (.builtin id) (v :: us)) (EP X pins σ Q) X.xe s
section
variable {X : Cx} {a b : Expr} {ta tb : TE} {pos : Pos}


/-! ### xs[i] = v, any sign -/

/-! ### slices -/

/-! ### in, not in: flat items -/
def flatV : V → Bool
  | .non => true
  | .bl _ => true
  | .int _ => true
  | .str _ => true
  | _ => false
/-- == of flat values -/
def eqV : V → V → Bool
  | .non, .non => true
  | .bl a, .bl b => a == b
  | .bl a, .int b => (if a then 1 else 0) == b
  | .int a, .bl b => a == (if b then 1 else 0)
  | .int a, .int b => a == b
  | .str a, .str b => a == b
  | _, _ => false
theorem eqAt_V {A : Around} {s : Shared} {y x : V} {u v : Value} (ry : RelV y u) (rx : RelV x v) (fy : flatV y = true) (fx : flatV x = true) : SeqAt.EqAt A s u v (eqV y x) := by
  cases y with
  | non =>
    cases ry
    cases x with
    | non => cases rx; exact SeqAt.EqAt.same _
    | bl b => cases rx; exact SeqAt.EqAt.none_bool b
    | int b => obtain ⟨t, rfl⟩ := rx; exact SeqAt.EqAt.none_int b t
    | str b => obtain ⟨t, rfl⟩ := rx; exact SeqAt.EqAt.none_str b t
    | _ => exact absurd (show false = true from fx) Bool.false_ne_true
  | bl a =>
    cases ry
    cases x with
    | non => cases rx; exact SeqAt.EqAt.bool_none a
    | bl b => cases rx; exact SeqAt.EqAt.bool_bool a b
    | int b => obtain ⟨t, rfl⟩ := rx; exact SeqAt.EqAt.bool_int a b t
    | str b => obtain ⟨t, rfl⟩ := rx; exact SeqAt.EqAt.bool_str a b t
    | _ => exact absurd (show false = true from fx) Bool.false_ne_true
  | int a =>
    obtain ⟨t', rfl⟩ := ry
    cases x with
    | non => cases rx; exact SeqAt.EqAt.int_none a t'
    | bl b => cases rx; exact SeqAt.EqAt.int_bool a t' b
    | int b => obtain ⟨t, rfl⟩ := rx; exact SeqAt.EqAt.int_int a t' b t
    | str b => obtain ⟨t, rfl⟩ := rx; exact SeqAt.EqAt.int_str a t' b t
    | _ => exact absurd (show false = true from fx) Bool.false_ne_true
  | str a =>
    obtain ⟨t', rfl⟩ := ry
    cases x with
    | non => cases rx; exact SeqAt.EqAt.str_none a t'
    | bl b => cases rx; exact SeqAt.EqAt.str_bool a t' b
    | int b => obtain ⟨t, rfl⟩ := rx; exact SeqAt.EqAt.str_int a t' b t
    | str b => obtain ⟨t, rfl⟩ := rx; exact SeqAt.EqAt.str_str a t' b t
    | _ => exact absurd (show false = true from fx) Bool.false_ne_true
  | _ => exact absurd (show false = true from fy) Bool.false_ne_true

/-! ### len, list(x), tuple(x) of any list or tuple that is read -/
theorem call_len_seq : CallR X (.builtin "len") (fun xs H Q => ∃ p ys, xs = [.ref p] ∧ (SqL X.K H p ys ∨ SqT X.K H p ys) ∧ Q (.int ys.length) H) := by
  intro pins s σ H xs us Q I r h
  obtain ⟨p, ys, rfl, hq, q⟩ := h
  obtain ⟨u, rfl, rx⟩ := vals1 r
  cases rx
  have hn := line63
  rcases hq with hq | hq
  · obtain ⟨its, r', pl, hz⟩ := I.list hq
    have hlen := r'.length
    exact Calls.call_len_list pl.isList (by simp only [List.size_toArray] <;> omega) ⟨.int ys.length, H, I.tok _, ⟨s.toks + 1, by rw [List.size_toArray, hlen]⟩, q⟩
  · obtain ⟨its, r', pl, hz⟩ := I.tuple hq
    have hlen := r'.length
    exact len_tuple pl (by simp only [List.size_toArray] <;> omega) ⟨.int ys.length, H, I.tok _, ⟨s.toks + 1, by rw [List.size_toArray, hlen]⟩, q⟩
theorem call_len_str : CallR X (.builtin "len") (fun xs H Q => ∃ z, xs = [.str z] ∧ z.length ≤ sizeLine ∧ Q (.int z.length) H) := by
  intro pins s σ H xs us Q I r h
  obtain ⟨z, rfl, hz, q⟩ := h
  obtain ⟨u, rfl, t, rfl⟩ := vals1 r
  have hn := line63
  exact len_str (by omega) ⟨.int z.length, H, I.tok _, ⟨_, rfl⟩, q⟩

/-! ### the call of a builtin's method: o.m(..) -/
/-- the value is of that builtin type -/
def tyV (K : PySem.W.Frag) (T : String) (x : V) (H : Hp) : Prop := match x with
  | .str _ => T = "str"
  | .int _ => T = "int"
  | .ref p => (T = "list" ∧ ∃ xs, SqL K H p xs) ∨ (T = "tuple" ∧ ∃ o, K.lookup p = some o ∧ o.cls = .type "tuple" ∧ o.dict = none) ∨
      (T = "dict" ∧ ((∃ kvs, H p = some (.dK kvs)) ∨ ∃ kvs, H p = some (.dT kvs))) ∨ (T = "set" ∧ ∃ S n, H p = some (.set S n))
  | _ => False
theorem tyV_is {pins : List (Addr × Obj)} {σ : St} {H : Hp} {s : Shared} {T : String} {x : V} {v : Value} (I : Inv X pins σ H s) (r : RelV x v) (ty : tyV X.K T x H) :
    s.TypeIs v T ∧ ∀ a, v = .ref a → ∃ ob, s.heap.get? a = some ob ∧ ob.dict = none := by
  cases x with
  | str z =>
    obtain ⟨t, rfl⟩ := r
    cases (show T = "str" from ty)
    exact ⟨typeIs_str s z t, fun _ e => nomatch e⟩
  | int i =>
    obtain ⟨t, rfl⟩ := r
    cases (show T = "int" from ty)
    exact ⟨typeIs_int s i t, fun _ e => nomatch e⟩
  | ref p =>
    cases r
    rcases ty with ⟨rfl, xs, hq⟩ | ⟨rfl, o, hk, hc, hd⟩ | ⟨rfl, hk⟩ | ⟨rfl, S, n, hk⟩
    · obtain ⟨its, _, pl, _⟩ := I.list hq
      refine ⟨pl.isList.typeIs, fun a e => ?_⟩
      cases e
      obtain ⟨o, n, e, c, hd, _⟩ := pl
      exact ⟨o, e, hd⟩
    · refine ⟨⟨o, I.kIn p o hk, hc⟩, fun a e => ?_⟩
      cases e
      exact ⟨o, I.kIn _ o hk, hd⟩
    · have z : ∃ o, s.heap.get? p = some o ∧ o.ExactDict := by
        rcases hk with ⟨kvs, hk⟩ | ⟨kvs, hk⟩
        · obtain ⟨_, _, _, _, o, _, _, e, ex, _⟩ := I.hok p _ hk
          exact ⟨o, e, ex⟩
        · obtain ⟨_, _, _, _, o, _, _, e, ex, _⟩ := I.hok p _ hk
          exact ⟨o, e, ex⟩
      obtain ⟨o, e, ex⟩ := z
      refine ⟨⟨o, e, ex.1⟩, fun a e2 => ?_⟩
      cases e2
      exact ⟨o, e, ex.2.1⟩
    · obtain ⟨o, _, _, _, e, ex, _⟩ := I.hok p _ hk
      refine ⟨⟨o, e, ex.1⟩, fun a e2 => ?_⟩
      cases e2
      exact ⟨o, e, ex.2.1⟩
  | _ => exact False.elim ty
def tBM0 (K : PySem.W.Frag) (T : String) (r : V → List V → Hp → VK → Prop) (to : TE) : TE := fun σ H Q => to σ H fun x H1 => tyV K T x H1 ∧ r x [] H1 Q
def tBM (K : PySem.W.Frag) (T : String) (r : V → List V → Hp → VK → Prop) (to : TE) (t : TA) : TE := fun σ H Q => to σ H fun x H1 => tyV K T x H1 ∧ t σ H1 fun xs H2 => r x xs H2 Q
variable {o e : Expr} {es : List Expr} {to : TE} {t : TA} {name : Str} {apos cpos : Pos} {T id : String} {r : V → List V → Hp → VK → Prop}
theorem pe_bm0 (pa : PlainAttrs T) (slot : Slot T name id) (hty : typeOf (.builtin id) = pure (.type "method_descriptor")) (hm : MtR X id r) (ho : PE X o to)
    (hbase : attributeBase o name X.env (eval o X.env) = eval o X.env := by rfl) (hline : (apos.endLine == cpos.line) = true := by rfl) : PE X (.Call (.Attribute o name apos) [] [] cpos) (tBM0 X.K T r to) := by
  intro pins s σ H Q I h
  refine wpAny_Call_method0_late hbase hline (thn (ho pins s σ H _ I h) fun v s1 ⟨x, H1, I1, r1, ty, q1⟩ => ?_)
  obtain ⟨h1, h2⟩ := tyV_is I1 r1 ty
  exact ⟨T, id, pa, slot, hty, h1, h2, Calls.callWith_builtin rfl (PySem.evalArgs_none (hm pins s1 σ H1 x [] v [] Q I1 r1 .nil q1))⟩
theorem pe_bm (pa : PlainAttrs T) (slot : Slot T name id) (hty : typeOf (.builtin id) = pure (.type "method_descriptor")) (hm : MtR X id r) (ho : PE X o to) (ha : PA X (e :: es) t)
    (hbase : attributeBase o name X.env (eval o X.env) = eval o X.env := by rfl)
    (hfew : ((backTo cpos (starEach (e :: es) X.env)).all (fun x => !x.1) && (backToKw cpos (keywordEach [] X.env)).all (fun x => x.1.isSome)
      && decide ((e :: es).length + ([] : List Keyword).length + (if ([] : List Keyword).isEmpty then 0 else 1) < 30)) = true := by rfl)
    (hline : (apos.endLine == cpos.line) = true := by rfl) (hs : starEach (e :: es) X.env = (false, eval e X.env) :: starEach es X.env := by rfl) (hplain : (backTo cpos (starEach es X.env)).any (·.1) = false := by rfl) :
    PE X (.Call (.Attribute o name apos) (e :: es) [] cpos) (tBM X.K T r to t) := by
  intro pins s σ H Q I h
  refine wpAny_Call_method_late hbase hfew hline rfl (thn (ho pins s σ H _ I h) fun v s1 ⟨x, H1, I1, r1, ty, q1⟩ => ?_)
  obtain ⟨h1, h2⟩ := tyV_is I1 r1 ty
  refine ⟨T, id, pa, slot, hty, h1, h2, ?_⟩
  have hA := ha cpos pins s1 σ H1 _ I1 q1
  rw [hs] at hA ⊢
  refine Calls.callWith_builtin (by show (false || (backTo cpos (starEach es X.env)).any (·.1)) = false; rw [hplain] <;> rfl) (Calls.evalArgs_plain ?_)
  exact thn hA fun us s2 ⟨vs, H2, I2, r2, q2⟩ => hm pins s2 σ H2 x vs v us Q I2 r1 r2 q2
/- xs.append(e), list.index on a module's tuple .. are MtR facts of 06m -/
end
end L2

namespace L2
open PySem PySem.Spec PyProof.Rows

def MtM (X : Cx) (id : String) (r : V → List V → Hp → VK → Prop) : Prop :=
  ∀ (pins : List (Addr × Obj)) (s : Shared) (σ : St) (H : Hp) (x : V) (xs : List V) (v : Value) (us : List Value) (Q : VK), Inv X pins σ H s → RelV x v → Vals xs us → r x xs H Q →
    wpAny (model X.prog X.w) X.A (call (.builtin id) (v :: us)) (EP X pins σ Q) X.xe s

/-! ### lists of values -/
theorem Vals.one : ∀ {x : V} {us : List Value}, Vals [x] us → ∃ u, us = [u] ∧ RelV x u
  | _, _, .cons r .nil => ⟨_, rfl, r⟩
theorem Vals.two : ∀ {x y : V} {us : List Value}, Vals [x, y] us → ∃ u v, us = [u, v] ∧ RelV x u ∧ RelV y v
  | _, _, _, .cons r (.cons q .nil) => ⟨_, _, rfl, r, q⟩
theorem Vals.zero : ∀ {us : List Value}, Vals [] us → us = []
  | _, .nil => rfl
theorem Vals.reverse {xs : List V} {us : List Value} (h : Vals xs us) : Vals xs.reverse us.reverse := by
  induction h with
  | nil => exact .nil
  | cons r t ih => rw [List.reverse_cons, List.reverse_cons]; exact Vals.append ih (.cons r .nil)

section
variable {X : Cx} {pins : List (Addr × Obj)} {σ : St} {H : Hp} {s : Shared} {l b : Addr} {xs ys zs : List V}

/-! ### the two steps: a tracked list is rewritten, a new list is laid -/
theorem Inv.lset {its its' : List Value} {n : Nat} {f : Array Value → Array Value} {t' : Nat} (I : Inv X pins σ H s) (hH : H l = some (.lst xs))
    (e : s.heap.get? l = some { cls := .type "list", data := .seq its.toArray n }) (hf : f its.toArray = its'.toArray) (hv : Vals ys its') (hz : ys.length ≤ sizeLine) :
    Inv X pins σ (upd H l (.lst ys)) { s with heap := s.heap.update l (Obj.mapSeq f), toks := t' } := by
  have q := PySem.IsL.update e f
  rw [hf] at q
  refine I.write (x := l) (e := l) (by rw [hH]; exact trivial) (.inl rfl) (fun b' u hb hu => (Heap.get?_update_other s.heap (Obj.mapSeq f) (Ne.symm hb)).trans hu) ⟨_, q⟩ ?_
  exact ⟨hz, its', _, hv, q⟩
theorem Inv.lnew {its : List Value} {t' : Nat} (I : Inv X pins σ H s) (hv : Vals ys its) (hz : ys.length ≤ sizeLine) :
    Inv X pins σ (upd H s.heap.objs.size (.lst ys)) { s with heap := s.heap.push { cls := .type "list", data := .seq its.toArray }, toks := t' } :=
  I.laid (fun _ _ q => Heap.get?_push_of_some _ q) (Nat.le_refl _) ⟨hz, its, 0, hv, Heap.get?_push_size _ rfl⟩
theorem Inv.fresh (I : Inv X pins σ H s) : H s.heap.objs.size = none := I.hok.fresh (Nat.le_refl _)
theorem Inv.lstM (I : Inv X pins σ H s) (hH : H l = some (.lst xs)) : xs.length ≤ sizeLine ∧ ∃ (its : List Value) (n : Nat), Vals xs its ∧ xs.length = its.length ∧ s.heap.get? l = some { cls := .type "list", data := .seq its.toArray n } := by
  obtain ⟨z, its, n, r, e⟩ := I.hok l _ hH
  exact ⟨z, its, n, r, r.length, e⟩

end

section
variable {X : Cx}

/-! ### methods -/
def rAppend : V → List V → Hp → VK → Prop := fun x vs H Q => ∃ l xs y, x = .ref l ∧ vs = [y] ∧ H l = some (.lst xs) ∧ xs.length < sizeLine ∧ Q .non (upd H l (.lst (xs ++ [y])))
theorem mt_append : MtM X "list.append" rAppend := by
  intro pins s σ H x vs v us Q I rx rv h
  obtain ⟨l, xs, y, rfl, rfl, hH, hz, q⟩ := h
  cases rx
  obtain ⟨u, rfl, ru⟩ := rv.one
  obtain ⟨z, its, n, r, hl, e⟩ := I.lstM hH
  refine call_meets F.slot_list_append ⟨_, e, rfl⟩ F.entry_list_append (F.args_list_append_2 _ _) (PySem.list_append l its.toArray n u (by rw [List.size_toArray]; omega)) ⟨e, ?_⟩
  refine ⟨.non, _, I.lset (its' := its ++ [u]) hH e (by simp) (r.append (.cons ru .nil)) ?_, rfl, q⟩
  rw [List.length_append, List.length_singleton]
  omega




def rReverse : V → List V → Hp → VK → Prop := fun x vs H Q => ∃ l xs, x = .ref l ∧ vs = [] ∧ H l = some (.lst xs) ∧ Q .non (upd H l (.lst xs.reverse))
theorem mt_reverse : MtM X "list.reverse" rReverse := by
  intro pins s σ H x vs v us Q I rx rv h
  obtain ⟨l, xs, rfl, rfl, hH, q⟩ := h
  cases rx
  have hus := rv.zero
  subst hus
  obtain ⟨z, its, n, r, hl, e⟩ := I.lstM hH
  refine call_meets F.slot_list_reverse ⟨_, e, rfl⟩ F.entry_list_reverse (F.args_list_reverse_1 _) (AutoSeq1.list_reverse_list_0 l its.toArray n (by rw [List.size_toArray]; omega)) ⟨e, ?_⟩
  refine ⟨.non, _, I.lset (its' := its.reverse) hH e (by simp) r.reverse ?_, rfl, q⟩
  rw [List.length_reverse]
  omega


/-! ### list + list, list += list, list * int -/
def rCat : R2 := fun x y H Q => ∃ l b xs zs, x = .ref l ∧ y = .ref b ∧ H l = some (.lst xs) ∧ H b = some (.lst zs) ∧ xs.length + zs.length ≤ sizeLine ∧ ∀ p, H p = none → Q (.ref p) (upd H p (.lst (xs ++ zs)))
theorem op_cat : OpR X (binaryOp .Add) rCat := by
  intro pins s σ H x y v u Q I rx ry h
  obtain ⟨l, b, xs, zs, rfl, rfl, hH, hB, hz, q⟩ := h
  cases rx
  cases ry
  obtain ⟨z, its, n, r, hl, e⟩ := I.lstM hH
  obtain ⟨z2, its2, n2, r2, hl2, e2⟩ := I.lstM hB
  refine PySem.P.add_list e e2 ?_ (by rw [List.size_toArray, List.size_toArray]; omega)
  have ea : its.toArray ++ its2.toArray = (its ++ its2).toArray := by simp
  rw [ea]
  exact ⟨.ref _, _, I.lnew (t' := s.toks) (r.append r2) (by rw [List.length_append]; omega), rfl, q _ I.fresh⟩

/-! ### del xs[i] -/
end

/-! ### xs[a:b] = ys -/
section
variable {prog : Program} {w : World} {A : Around} {E : Value → Shared → Prop} {s : Shared}
set_option maxRecDepth 100000 in
end

section
variable {X : Cx}
end
end L2

namespace Att
open PySem PySem.W PySem.Calls PyProof.Rows

/-! ### the script -/
theorem ints_of_wellAll {P : Params} {h : Heap} : ∀ (ns : List Int) (vs : List Value), WellAll P h vs (ns.map WData.int) → IntsAre vs ns := by
  intro ns
  induction ns with
  | nil =>
    intro vs w
    rw [List.map_nil] at w
    cases w
    exact .nil
  | cons n ns ih =>
    intro vs w
    rw [List.map_cons] at w
    cases w with
    | cons a b =>
      cases a
      exact .cons _ _ (ih _ b)

theorem script_of {l : OpenLaw} {n : Nat} (hn : l.most = some n) {P : Params} {h : Heap} {args : List WData} {vals : List Value}
    (hpre : l.row.toRowW.claim.pre args = true) (hwl : WellAll P h vals args) :
    ∃ a vs ns, vals = [Value.ref a] ∧ args = [WData.list (ns.map WData.int)] ∧ h.get? a = some { cls := .type "list", data := .seq vs.toArray } ∧ IntsAre vs ns ∧ ns.length ≤ n := by
  have hsh : WShape.hasAll [] args [.list .int] = true := (pre_splitW hpre).1
  have hc : l.pre.holds [] { args := args } = true := (pre_splitW hpre).2
  obtain ⟨d, r, rfl, h1, h2⟩ := hasAllW_cons hsh
  obtain rfl := hasAllW_nil h2
  obtain ⟨xs, rfl, h3⟩ := hasW_list h1
  obtain ⟨ns, rfl⟩ := items_int h3
  have hlen : ns.length ≤ n := by
    unfold OpenLaw.pre at hc
    have h4 : (WTm.not (.lt (.lit (.int (n : Int))) (.len (.arg 0)))).holds [] { args := [.list (ns.map .int)] } = true := by
      have h4 := (holds_andW hc).1
      rw [hn] at h4
      exact h4
    have h5 := condW_of h4 (w_not (w_lt w_lit (w_len_list (w_arg rfl))))
    rw [List.length_map] at h5
    refine Nat.le_of_not_lt fun q => ?_
    have q' : (n : Int) < ((ns.length : Nat) : Int) := by omega
    first
      | (rw [decide_eq_true q'] at h5; exact absurd h5 (by decide))
      | (simp at h5; omega)
  cases hwl with
  | cons w1 w2 =>
    cases w2
    cases w1 with
    | list ho hall => exact ⟨_, _, ns, rfl, rfl, ho, ints_of_wellAll ns _ hall, hlen⟩

theorem post_true (l : OpenLaw) (args : List WData) : l.row.toRowW.claim.post args (.bool true) args = true :=
  postW_of (r := l.row.toRowW) (X := (true == true))
    (show WShape.has [] (.bool true) .bool = true by first | rfl | decide | simp [WShape.has, WShape.arms, WShape.armsAll])
    (show (WTm.eq .res (.lit (.bool true))).value [] { args := args, res := some (.bool true), after := args } = some (.bool (true == true)) from w_eq_bool (w_res rfl) w_lit) rfl

/-! ### the attachment: holds_open's last premise (the goal 'hc' behind k_head) from a wpAny of the law's body -/

/-- the same from a codeAny of the CALL (for a layer whose function contracts speak of calls) -/
theorem attach_call {l : OpenLaw} {n : Nat} {q : Program} {loose : List Str} {XP : (Str → Option Value) → Heap → Prop} {YP : World → Heap → Prop} {d : DefRec}
    (hn : l.most = some n) (hdf : d.params.defaults = [])
    (call : ∀ (w : World) (s₀ s₁ : Shared) (mg mb : Str → Option Value) (fa : Addr) (o : Obj) (pm cd doc : Value) (a : Addr) (vs : List Value) (ns : List Int),
      Ground q loose [] XP w s₀ mg mb s₁.heap → YP w s₁.heap →
      s₁.heap.get? fa = some o → o.data = .func (docDef d.name d.params d.body d.scope pm cd doc) → s₁.heap.CodeRec cd d.name → mg d.name = some (.ref fa) →
      s₁.heap.get? a = some { cls := .type "list", data := .seq vs.toArray } → IntsAre vs ns → ns.length ≤ n → s₁.gens = #[] →
      codeAny (model l.prog w) callerA (.call (.ref fa) ⟨[.ref a], []⟩) (fun r s' => r = .ok (.ret (.bool true)) ∧ OldK s₁.heap s'.heap ∧ s'.os = s₁.os ∧ AllBare s'.gens) s₁) :
    WalkO q loose XP YP l.row.toRowW d [] (fun f vs => PySem.call f vs) := by
  intro w s₀ s₁ mg mb G Y fa o pm cd doc dV kV ho hd hcd hD hmg hg args vals as hpre hlay hrd hwl hlo
  obtain rfl : dV = .none := Dflts.none hD hdf
  obtain rfl : kV = .none := Dflts.noKw hD
  obtain ⟨a, vs, ns, rfl, rfl, hobj, hints, hlen⟩ := script_of hn hpre hwl
  refine enter_call (codeAny_mono (call w s₀ s₁ mg mb fa o pm cd doc a vs ns G Y ho (fd_plain hd) hcd hmg hobj hints hlen hg) fun r s' hq => ?_)
  obtain ⟨rfl, h2, h3, h4⟩ := hq
  exact ⟨.inl ⟨.bool true, .bool true, [], rfl, fun _ => rfl, .bool true, post_true l _, fun _ => ⟨List.Pairwise.nil, fun _ hm => (nomatch hm)⟩⟩, h2, h3, h4⟩


/-! ### rules over ANY heap (no ledger) from facts about the written part K: the library's own take a ledger (News) for what they write -/
section
variable {prog : Program} {w : World} {A : Around} {E : Value → Shared → Prop} {s : Shared} {K : Frag}





/-! the whole heap as the ledger: makes every rule that writes through a ledger a rule over any heap -/

end
end Att

namespace L2
open PySem PySem.Spec PyProof.Rows

theorem vals_ints : ∀ {vs : List Value} {ns : List Int}, IntsAre vs ns → Vals (ns.map V.int) vs
  | _, _, .nil => .nil
  | _, _, .cons n t h => .cons ⟨t, rfl⟩ (vals_ints h)

/-- nothing is tracked but the script, known to the object (or it is an object of the module) -/
def Only (H : Hp) : Prop := ∀ b, H b = none ∨ ∃ o xs, H b = some (.frz o (.lst xs))

/-- THE HEAD: the law's promise, at the heap behind the top. F, the promise of the law's def, may use that base is part of the heap (so K.In base, base.Ns mainGlobals mg stand in Mod) -/
theorem law_call {P : Program} {w : World} {K : PySem.W.Frag} {mg mb : Str → Option Value} {CX : CXT} {k : Nat} {fa a : Addr} {fd : FuncData} {x : Str} {sp : Sp} {s₁ : Shared} {vs : List Value} {ns : List Int}
    (KX : K.In s₁.heap) (hns : s₁.heap.Ns mainGlobals mg) (hb : s₁.heap.Ns builtinsNs mb) (hbb : ∀ x : Str, x ≠ "__name__" → mb x = bootBuiltins x) (hlim : s₁.heap.NoLimit) (hg : s₁.gens = #[])
    (ha : s₁.heap.get? a = some { cls := .type "list", data := .seq vs.toArray }) (hi : IntsAre vs ns) (hl : ns.length ≤ sizeLine) (hr : Room k callerA)
    (F : ∀ base : Heap, K.In base → base.Ns mainGlobals mg → FnOk P w K mg base CX k fa fd [x] sp) (hbind : ∀ (s : Shared) (u : Value), BindsTo s fd ⟨[u], []⟩ [(x, u)])
    (hsp : ∀ H : Hp, Only H → SqL K H a (ns.map V.int) → sp [.ref a] H (fun v _ => v = .bl true) fun _ _ _ => False)
    (hCX : ∀ H e s', CX [] H s₁ (fun _ _ _ => False) e s' → False) :
    codeAny (model P w) callerA (.call (.ref fa) ⟨[.ref a], []⟩) (fun r s' => r = .ok (.ret (.bool true)) ∧ OldK s₁.heap s'.heap ∧ s'.os = s₁.os ∧ AllBare s'.gens) s₁ := by
  have rv := vals_ints hi
  have lenV := hi.length
  -- from an abstract heap in which nothing but the script may be tracked
  have core : ∀ H : Hp, Only H → SqL K H a (ns.map V.int) → HOk P w H s₁.heap → (∀ b, H b ≠ none → b = a) → (H a ≠ none → K.lookup a = none) →
      codeAny (model P w) callerA (.call (.ref fa) ⟨[.ref a], []⟩) (fun r s' => r = .ok (.ret (.bool true)) ∧ OldK s₁.heap s'.heap ∧ s'.os = s₁.os ∧ AllBare s'.gens) s₁ := by
    intro H hO hS hok hA hK
    have base_of : ∀ {b : Addr} {o : Obj}, s₁.heap.get? b = some o → H b = none → (hidT s₁.heap H).get? b = some o := fun e n => hidT_get e n
    have noA : ∀ {b : Addr} {o : Obj} {es : Array DictEntry} {ep : Nat}, s₁.heap.get? b = some o → o.data = .dict es ep → H b = none := fun {b o es ep} e d => by
      cases q : H b with
      | none => rfl
      | some u =>
        have e' : b = a := hA b (by rw [q]; simp)
        subst e'
        rw [ha] at e; cases e
        have d' : Data.seq vs.toArray _ = Data.dict es ep := d
        cases d'
    have nsK : ∀ {b : Addr} {m : Str → Option Value}, s₁.heap.Ns b m → (hidT s₁.heap H).Ns b m := fun {b m} ⟨o, es, ep, e, d, r⟩ => ⟨o, es, ep, base_of e (noA e d), d, r⟩
    have hKb : K.In (hidT s₁.heap H) := fun b o e => base_of (KX b o e) (by
      cases q : H b with
      | none => rfl
      | some u =>
        have e' : b = a := hA b (by rw [q]; simp)
        subst e'
        rw [hK (by rw [q]; simp)] at e; cases e)
    have hM : Mod K mg (hidT s₁.heap H) := ⟨hKb, nsK hns, ⟨mb, nsK hb, hbb⟩, let ⟨mc, h1, h2⟩ := hlim; ⟨mc, nsK h1, h2⟩⟩
    have e0 : Env0 P w K mg (hidT s₁.heap H) callerA [] s₁ H := ⟨rfl, hM, fun b o e => of_hidT e, Nat.le_of_eq (hidT_size _ _), trivial, fun b hb => absurd (show b ∈ ([] : List Addr) from hb) (by simp), hok, .of_eq hg⟩
    refine codeAny_mono ((F _ hKb (nsK hns)).run callerA [] s₁ H ⟨[.ref a], []⟩ [.ref a] [.ref a] _ _ hr e0 (hbind s₁ (.ref a)) (.cons rfl .nil) (hsp H hO hS)) fun r s' h => ?_
    cases r with
    | error e => exact (hCX H e s' h).elim
    | ok fl =>
      cases fl with
      | next => exact False.elim h
      | brk => exact False.elim h
      | cont => exact False.elim h
      | ret u =>
        obtain ⟨v, H', os, bare, un, hok', r', q⟩ := h
        have q' : v = .bl true := q
        subst q'
        obtain rfl : u = Value.bool true := r'
        refine ⟨rfl, OldK.of_keep fun b o e => ?_, os, bare⟩
        cases q : H b with
        | none => exact un.keep b o e q (by intro z; exact absurd (show b ∈ ([] : List Addr) from z) (by simp)) (by simp)
        | some u =>
          rcases hO b with z | ⟨ob, xs, z⟩
          · rw [q] at z; cases z
          · have z2 := un.frzs b ob _ z
            obtain ⟨e1, _⟩ := hok b _ z
            obtain ⟨e2, _⟩ := hok' b _ z2
            rw [e] at e1; cases e1
            exact e2
  cases hk : K.lookup a with
  | some o =>
    -- the script is one of the module's own objects
    have e := KX a o hk
    rw [ha] at e
    cases e
    refine core (fun _ => none) (fun _ => .inl rfl) (.inr ⟨_, vs.toArray, _, hk, rfl, rfl, rfl, by rw [List.size_toArray, lenV]; exact hl, by simpa using rv⟩) (fun b u z => by have z' : (none : Option HO) = some u := z; cases z') (fun b z => absurd rfl z) fun z => absurd rfl z
  | none =>
    refine core (fun b => if b = a then some (.frz { cls := .type "list", data := .seq vs.toArray } (.lst (ns.map V.int))) else none) (fun b => ?_) (.inl (.inr ⟨{ cls := .type "list", data := .seq vs.toArray }, if_pos rfl⟩)) (fun b u z => ?_) (fun b z => ?_) fun _ => hk
    · by_cases hb : b = a
      · exact .inr ⟨_, _, if_pos hb⟩
      · exact .inl (if_neg hb)
    · by_cases hb : b = a
      · have z' := (if_pos hb).symm.trans z
        cases z'
        subst hb
        exact ⟨ha, by rw [List.length_map]; exact hl, vs, _, rv, ha⟩
      · have z' := (if_neg hb).symm.trans z
        cases z'
    · by_cases hb : b = a
      · exact hb
      · exact absurd (if_neg hb) z
end L2

namespace L2
open PySem PySem.Spec PyProof.Rows


/-- the goal that k_head leaves (case hc), from the law's promise. F gives the function object fd (K's own) once, then the promise over every base -/
theorem walk_of {l : PySem.W.OpenLaw} {n k : Nat} {q : Program} {loose : List Str} {XP : (Str → Option Value) → Heap → Prop} {YP : World → Heap → Prop} {d : DefRec} {K : Params → PySem.W.Frag} {CX : World → CXT} {sp : World → Sp} {x : Str}
    (hn : l.most = some n) (hn2 : n ≤ sizeLine) (hdf : d.params.defaults = []) (hr : Room k callerA)
    (hY : ∀ (w : World) (h : Heap), YP w h → (K w.params).In h)
    (F : ∀ (w : World) (mg : Str → Option Value) (fa : Addr) (h : Heap), (K w.params).In h → h.Ns mainGlobals mg → mg d.name = some (.ref fa) →
      ∃ fd : FuncData, (∀ (s : Shared) (u : Value), BindsTo s fd ⟨[u], []⟩ [(x, u)]) ∧
        ∀ base : Heap, (K w.params).In base → base.Ns mainGlobals mg → FnOk l.prog w (K w.params) mg base (CX w) k fa fd [x] (sp w))
    (hsp : ∀ (w : World) (H : Hp) (a : Addr) (ns : List Int), ns.length ≤ n → Only H → SqL (K w.params) H a (ns.map V.int) → sp w [.ref a] H (fun v _ => v = .bl true) fun _ _ _ => False)
    (hCX : ∀ (w : World) (H : Hp) (s : Shared) (e : Value) (s' : Shared), CX w [] H s (fun _ _ _ => False) e s' → False) :
    PySem.W.WalkO q loose XP YP l.row.toRowW d [] (fun f vs => PySem.call f vs) := by
  refine Att.attach_call hn hdf fun w s₀ s₁ mg mb fa o pm cd doc a vs ns G Y ho hd hcd hmg hobj hints hlen hg => ?_
  have KX := hY w _ Y
  obtain ⟨fd, hb, hF⟩ := F w mg fa _ KX G.T.g hmg
  exact law_call KX G.T.g G.T.b G.T.builtins G.T.nolimit hg hobj hints (Nat.le_trans hlen hn2) hr hF hb (fun H hO hS => hsp w H a ns hlen hO hS) fun H e s' => hCX w H s₁ e s'
/-- the same where the promise hangs on the written part alone: (sp := My.sp_law), no hole under a binder -/
theorem walk_ofK {l : PySem.W.OpenLaw} {n k : Nat} {q : Program} {loose : List Str} {XP : (Str → Option Value) → Heap → Prop} {YP : World → Heap → Prop} {d : DefRec} {K : Params → PySem.W.Frag} {CX : CXT} {sp : PySem.W.Frag → Sp} {x : Str}
    (hn : l.most = some n) (hn2 : n ≤ sizeLine) (hdf : d.params.defaults = []) (hr : Room k callerA)
    (hY : ∀ (w : World) (h : Heap), YP w h → (K w.params).In h)
    (F : ∀ (w : World) (mg : Str → Option Value) (fa : Addr) (h : Heap), (K w.params).In h → h.Ns mainGlobals mg → mg d.name = some (.ref fa) →
      ∃ fd : FuncData, (∀ (s : Shared) (u : Value), BindsTo s fd ⟨[u], []⟩ [(x, u)]) ∧
        ∀ base : Heap, (K w.params).In base → base.Ns mainGlobals mg → FnOk l.prog w (K w.params) mg base CX k fa fd [x] (sp (K w.params)))
    (hsp : ∀ (K : PySem.W.Frag) (H : Hp) (a : Addr) (ns : List Int), ns.length ≤ n → Only H → SqL K H a (ns.map V.int) → sp K [.ref a] H (fun v _ => v = .bl true) fun _ _ _ => False)
    (hCX : ∀ (H : Hp) (s : Shared) (e : Value) (s' : Shared), CX [] H s (fun _ _ _ => False) e s' → False) :
    PySem.W.WalkO q loose XP YP l.row.toRowW d [] (fun f vs => PySem.call f vs) :=
  walk_of (K := K) (CX := fun _ => CX) (sp := fun w => sp (K w.params)) hn hn2 hdf hr hY F (fun w H a ns h1 h2 h3 => hsp (K w.params) H a ns h1 h2 h3) fun _ H s e s' => hCX H s e s'
end L2



/-! SHORT WORDS over the layer: a def of the text, its body, what a loop and a test want. -/
namespace L2
open PySem PySem.Spec PyProof.Rows

/-! ### the text by places -/
def defArgs (s : Stmt) : Arguments := match s with
  | .FunctionDef _ a _ _ _ _ _ _ _ _ => a
  | _ => { posonlyargs := [], args := [], vararg := none, kwonlyargs := [], kw_defaults := [], kwarg := none, defaults := [] }
def defBody (s : Stmt) : List Stmt := match s with
  | .FunctionDef _ _ b _ _ _ _ _ _ _ => b
  | _ => []
def defScope (s : Stmt) : Scope := match s with
  | .FunctionDef _ _ _ _ _ _ sc _ _ _ => sc
  | _ => { kind := .function, names := [], isGenerator := false, isCoroutine := false }

/-! ### no exception leaves a def -/
abbrev CX0 : CXT := fun _ _ _ _ _ _ => False
abbrev E0 : XK := fun _ _ _ => False
theorem pass0 {X : Cx} : Passes CX0 X E0 := fun _ _ _ _ _ _ _ h => h.elim

/-! ### a def (or method) of the text as it stands behind the top -/
structure Fun (K : PySem.W.Frag) (x qual : Str) (st : Stmt) (f : Addr) (fd : FuncData) : Prop where
  ex : ∃ (oc : Value) (od : Option Addr) (kV doc pm : Value) (an : Option Addr) (cdv ct : Value) (osl : Array (Option Value)),
    fd = PySem.W.fnOf x qual (defArgs st) (defBody st) (defScope st) .none kV doc pm an cdv ct ∧ K.lookup f = some ⟨oc, od, .func fd, osl⟩ ∧ PySem.W.codeIn K cdv qual = true
  kp : PySem.W.keepIn K (.ref f) = true
section
variable {P : Program} {w : World} {K : PySem.W.Frag} {mg : Str → Option Value} {base : Heap}
/-- THE RULE for a def: its body as a term of rules, and the reading of that term -/
theorem Fun.ok {x qual : Str} {st : Stmt} {f : Addr} {fd : FuncData} {N ps : List Str} {k : Nat} {sp : Sp} (F : Fun K x qual st f fd) (S : FnScope N ps (defScope st)) (len : ∀ vs H Q E, sp vs H Q E → vs.length = ps.length)
    (hbody : ∀ (cdv : Value) (A : Around) (outer : List Env) (s : Shared) (H : Hp) (vs : List V) (Q : VK) (E : XK), Room k (A.deeper (envOfC qual (defScope st) s.heap.objs.size f cdv)) → sp vs H Q E →
      ∃ t, PSs (cxOf CX0 P w K mg base N qual (defScope st) f cdv A outer s H E).nox (defBody st) t ∧ t { nx := fun _ H' => Q .non H', rt := Q } (start N vs) H) : FnOk P w K mg base CX0 (k + 1) f fd ps sp := by
  obtain ⟨oc, od, kV, doc, pm, an, cdv, ct, osl, rfl, lk, hcd⟩ := F.ex
  refine fn_of lk hcd S len fun A outer s H vs Q E hr hsp => ?_
  obtain ⟨t, h, q⟩ := hbody cdv A outer s H vs Q E hr hsp
  exact ⟨t, h.nox, q⟩
theorem fun_mk {x qual : Str} {st : Stmt} {f : Addr} {oc : Value} {od an : Option Addr} {osl : Array (Option Value)} {kV doc pm cdv ct : Value} (l : K.lookup f = some ⟨oc, od, .func (PySem.W.fnOf x qual (defArgs st) (defBody st) (defScope st) .none kV doc pm an cdv ct), osl⟩)
    (c : PySem.W.codeIn K cdv qual = true) (k : PySem.W.keepIn K (.ref f) = true) : Fun K x qual st f (PySem.W.fnOf x qual (defArgs st) (defBody st) (defScope st) .none kV doc pm an cdv ct) := ⟨⟨oc, od, kV, doc, pm, an, cdv, ct, osl, rfl, l, c⟩, k⟩
end
theorem small1000 {n : Nat} (h : n ≤ 1000) : n < sizeLine := Nat.lt_of_le_of_lt h (by decide)

/-! ### expressions in short: the name that stands in the i-th slot -/
section
variable {X : Cx}
theorem pv (i : Nat) {x : Str} {pos : Pos} (hN : X.N[i]? = some x := by rfl) (hv : Vis X.env.scope x := by first | exact Or.inl rfl | exact Or.inr (Or.inl rfl) | exact Or.inr (Or.inr rfl)) (hd : (x == ("__debug__" : Str)) = false := by decide)
    (hcd : (x == ("__classdict__" : Str)) = false := by decide) : PE X (.Name x pos) (tVar i) := pe_var hN hv hd hcd
end

/-! ### tests -/

/-! ### heaps -/

/-! ### a dict's pairs: keys that differ -/
section
variable {κ : Type} [DecidableEq κ]
end
end L2

set_option maxHeartbeats 8000000

namespace L2
open PySem PySem.Spec PyProof.Rows

/-! ### list comprehensions -/



section
variable {X : Cx} {scope : Scope} {pins : List (Addr × Obj)} {σ : St} {H : Hp} {s : Shared}
end


end L2

namespace L2
open PySem PySem.Spec PyProof.Rows

section
variable {X : Cx} {scope : Scope} {T : List Str} {elt target iter : Expr} {ifs : List Expr} {wi : TI} {g : TG} {tc : TT} {te : TE}

end
end L2
namespace L2
open PySem PySem.Spec PyProof.Rows
section
variable {X : Cx} {scope : Scope} {T : List Str} {elt target iter : Expr} {ifs : List Expr} {wi : TI} {g : TG} {tc : TT} {te : TE}
end
end L2

namespace L2
open PySem PySem.Spec PyProof.Rows
/-! ### one rule for each sign of the language, by what stands there -/
section
variable {X : Cx}
def uAdd : R2 := fun x y H Q => match x, y with
  | .int i, .int j => Q (.int (i + j)) H
  | .str a, .str b => a.length + b.length ≤ sizeLine ∧ Q (.str (a ++ b)) H
  | .ref l, .ref b => ∃ xs zs, H l = some (.lst xs) ∧ H b = some (.lst zs) ∧ xs.length + zs.length ≤ sizeLine ∧ ∀ p, H p = none → Q (.ref p) (upd H p (.lst (xs ++ zs)))
  | _, _ => False
theorem op_uAdd : OpR X (binaryOp .Add) uAdd := by
  intro pins s σ H x y v u Q I rx ry h
  cases x <;> cases y <;> first
    | exact False.elim h
    | exact op_add pins s σ H _ _ v u Q I rx ry ⟨_, _, rfl, rfl, h⟩
    | exact op_add_str pins s σ H _ _ v u Q I rx ry ⟨_, _, rfl, rfl, h.1, h.2⟩
    | (obtain ⟨xs, zs, h1, h2, h3, h4⟩ := h; exact op_cat pins s σ H _ _ v u Q I rx ry ⟨_, _, xs, zs, rfl, rfl, h1, h2, h3, h4⟩)

/-- a dict of the module's top -/
def KD (K : PySem.W.Frag) (P : Program) (w : World) (a : Addr) (kvs : List (Key × V)) : Prop :=
  (a == sysModules) = false ∧ kvs.length ≤ sizeLine ∧ ∀ h : Heap, K.In h → ∃ vs, KV kvs vs ∧ h.DictOf (mixKind P w) a vs

/-- len -/
def uLen (K : PySem.W.Frag) : List V → Hp → VK → Prop := fun xs H Q => match xs with
  | [.str z] => z.length ≤ sizeLine ∧ Q (.int z.length) H
  | [.ref p] => ∃ ys, (SqL K H p ys ∨ SqT K H p ys) ∧ Q (.int ys.length) H
  | _ => False
theorem call_uLen : CallR X (.builtin "len") (uLen X.K) := by
  intro pins s σ H xs us Q I r h
  match xs, h with
  | [.str z], h => exact call_len_str pins s σ H _ us Q I r ⟨z, rfl, h.1, h.2⟩
  | [.ref p], h =>
    obtain ⟨ys, h1, h2⟩ := h
    exact call_len_seq pins s σ H _ us Q I r ⟨p, ys, rfl, h1, h2⟩


/-! ### data, and == of it -/
inductive Da where
  | s (v : V)
  | tup (xs : List Da)
  | lst (xs : List Da)
mutual
def Da.eq : Da → Da → Bool
  | .s v, .s w => eqV v w
  | .tup xs, .tup ys => Da.eqs xs ys
  | .lst xs, .lst ys => Da.eqs xs ys
  | _, _ => false
def Da.eqs : List Da → List Da → Bool
  | [], [] => true
  | x :: xs, y :: ys => Da.eq x y && Da.eqs xs ys
  | _, _ => false
end
def RepN (K : PySem.W.Frag) (H : Hp) : Nat → V → Da → Prop
  | 0, v, d => d = .s v ∧ flatV v = true
  | n + 1, v, d => (d = .s v ∧ flatV v = true) ∨ (∃ a xs ds, v = .ref a ∧ d = .tup ds ∧ SqT K H a xs ∧ Paired (RepN K H n) xs ds) ∨ (∃ a xs ds, v = .ref a ∧ d = .lst ds ∧ SqL K H a xs ∧ Paired (RepN K H n) xs ds)
theorem Da.eqs_range : ∀ (ds es : List Da), ((List.range (min ds.length es.length)).all (fun j => Da.eq (ds.getD j (.s .non)) (es.getD j (.s .non))) && ds.length == es.length) = Da.eqs ds es
  | [], [] => by simp [Da.eqs]
  | [], e :: es => by simp [Da.eqs]
  | d :: ds, [] => by simp [Da.eqs]
  | d :: ds, e :: es => by
    have ih := Da.eqs_range ds es
    rw [Da.eqs, ← ih]
    have : min (d :: ds).length (e :: es).length = min ds.length es.length + 1 := by simp only [List.length_cons]; omega
    rw [this, List.range_succ_eq_map, List.all_cons, List.all_map]
    have h2 : ((d :: ds).length == (e :: es).length) = (ds.length == es.length) := by simp
    rw [h2, Bool.and_assoc]
    rfl
theorem Paired.at {α β : Type} {F : α → β → Prop} : ∀ {xs : List α} {ys : List β} {j : Nat} {x : α} {y : β}, Paired F xs ys → xs[j]? = some x → ys[j]? = some y → F x y
  | _, _, _, _, _, .nil, h, _ => by simp at h
  | _, _, 0, _, _, .cons r _, h1, h2 => by simp at h1 h2; subst h1 h2; exact r
  | _, _, j + 1, _, _, .cons _ t, h1, h2 => Paired.at (j := j) t (by simpa using h1) (by simpa using h2)
theorem eqV_refl : ∀ {v : V}, flatV v = true → eqV v v = true
  | .non, _ => rfl
  | .bl _, _ => by simp [eqV]
  | .int _, _ => by simp [eqV]
  | .str _, _ => by simp [eqV]
section
variable {pins : List (Addr × Obj)} {σ : St} {H : Hp} {s : Shared}
theorem flat_noref {a : Addr} (h : flatV (.ref a) = true) : False := by simp [flatV] at h
theorem Inv.notBoth (I : Inv X pins σ H s) {a : Addr} {xs ys : List V} (h : SqT X.K H a xs) (h' : SqL X.K H a ys) : False := by
  obtain ⟨its, _, ⟨o, e, c, _⟩, _⟩ := I.tuple h
  obtain ⟨its', _, ⟨o', n', e', c', _⟩, _⟩ := I.list h'
  rw [e] at e'; cases e'
  rw [c] at c'
  injection c' with c'
  exact absurd c' (by decide)
/-- equal to itself -/
theorem eq_self (I : Inv X pins σ H s) : ∀ (n : Nat) {m : Nat} {x : V} {d e : Da}, RepN X.K H n x d → RepN X.K H m x e → Da.eq d e = true
  | 0, m, x, d, e, h1, h2 => by
    obtain ⟨rfl, f⟩ := h1
    cases m with
    | zero => obtain ⟨rfl, _⟩ := h2; exact eqV_refl f
    | succ m =>
      rcases h2 with ⟨rfl, _⟩ | ⟨a, xs, ds, rfl, _⟩ | ⟨a, xs, ds, rfl, _⟩
      · exact eqV_refl f
      · exact (flat_noref f).elim
      · exact (flat_noref f).elim
  | n + 1, m, x, d, e, h1, h2 => by
    have both : ∀ {xs : List V} {ds es : List Da} {m : Nat}, Paired (RepN X.K H n) xs ds → Paired (RepN X.K H m) xs es → Da.eqs ds es = true := by
      intro xs ds es m p
      induction p generalizing es with
      | nil => intro q; cases q; rfl
      | cons r t ih =>
        intro q
        cases q with
        | cons r' t' => rw [Da.eqs, eq_self I n r r', ih t']; rfl
    rcases h1 with ⟨rfl, f⟩ | ⟨a, xs, ds, rfl, rfl, hs, hp⟩ | ⟨a, xs, ds, rfl, rfl, hs, hp⟩
    · cases m with
      | zero => obtain ⟨rfl, _⟩ := h2; exact eqV_refl f
      | succ m =>
        rcases h2 with ⟨rfl, _⟩ | ⟨a, xs, ds, rfl, _⟩ | ⟨a, xs, ds, rfl, _⟩
        · exact eqV_refl f
        · exact (flat_noref f).elim
        · exact (flat_noref f).elim
    · cases m with
      | zero => exact (flat_noref h2.2).elim
      | succ m =>
        rcases h2 with ⟨_, f⟩ | ⟨a', ys, es, e1, rfl, hs', hp'⟩ | ⟨a', ys, es, e1, rfl, hs', hp'⟩
        · exact (flat_noref f).elim
        · cases e1
          cases I.tuple_inj hs hs'
          exact both hp hp'
        · cases e1
          exact (I.notBoth hs hs').elim
    · cases m with
      | zero => exact (flat_noref h2.2).elim
      | succ m =>
        rcases h2 with ⟨_, f⟩ | ⟨a', ys, es, e1, rfl, hs', hp'⟩ | ⟨a', ys, es, e1, rfl, hs', hp'⟩
        · exact (flat_noref f).elim
        · cases e1
          exact (I.notBoth hs' hs).elim
        · cases e1
          cases I.list_inj hs hs'
          exact both hp hp'
theorem plain_list {h : Heap} {a : Addr} {its : Array Value} (p : PlainL h a its) : h.IsList a its := let ⟨o, n, e, c, _, d⟩ := p; ⟨o, e, c, n, d⟩
/-- the items' comparisons -/
theorem items_eq {A : Around} {n m : Nat} {xs ys : List V} {ds es : List Da} {us vs : List Value} (px : Paired (RepN X.K H n) xs ds) (py : Paired (RepN X.K H m) ys es) (vx : Vals xs us) (vy : Vals ys vs)
    (ih : ∀ {x y : V} {d e : Da} {u v : Value}, RepN X.K H n x d → RepN X.K H m y e → RelV x u → RelV y v → SeqAt.EqAt A.in1 s u v (Da.eq d e)) :
    ∀ j (h1 : j < us.toArray.size) (h2 : j < vs.toArray.size), SeqAt.EqAt A.in1 s us.toArray[j] vs.toArray[j] (Da.eq (ds.getD j (.s .non)) (es.getD j (.s .non))) := by
  intro j h1 h2
  have l1 := px.length; have l2 := py.length; have l3 := vx.length; have l4 := vy.length
  rw [List.size_toArray] at h1 h2
  have q1 : xs[j]? = some xs[j] := List.getElem?_eq_getElem (by omega)
  have q2 : ys[j]? = some ys[j] := List.getElem?_eq_getElem (by omega)
  have q3 : ds[j]? = some ds[j] := List.getElem?_eq_getElem (by omega)
  have q4 : es[j]? = some es[j] := List.getElem?_eq_getElem (by omega)
  have q5 : us[j]? = some us[j] := List.getElem?_eq_getElem (by omega)
  have q6 : vs[j]? = some vs[j] := List.getElem?_eq_getElem (by omega)
  rw [List.getD_eq_getElem?_getD, List.getD_eq_getElem?_getD, q3, q4]
  exact ih (Paired.at px q1 q3) (Paired.at py q2 q4) (Paired.at vx q1 q5) (Paired.at vy q2 q6)
theorem rc_tuples {A : Around} {n m : Nat} {a b : Addr} {xs ys : List V} {ds es : List Da} (I : Inv X pins σ H s) (hu : A.units < cLine) (sx : SqT X.K H a xs) (sy : SqT X.K H b ys) (px : Paired (RepN X.K H n) xs ds) (py : Paired (RepN X.K H m) ys es)
    (ih : ∀ {x y : V} {d e : Da} {u v : Value}, RepN X.K H n x d → RepN X.K H m y e → RelV x u → RelV y v → SeqAt.EqAt A.in1 s u v (Da.eq d e)) : SeqAt.RcAt A s (.ref a) (.ref b) (Da.eqs ds es) := by
  obtain ⟨us, vx, tx, _⟩ := I.tuple sx
  obtain ⟨vs, vy, ty, _⟩ := I.tuple sy
  have q := SeqAt.RcAt.tuples tx ty hu (items_eq px py vx vy ih)
  rw [List.size_toArray, List.size_toArray, ← vx.length, ← vy.length, px.length, py.length, Da.eqs_range] at q
  exact q
theorem rc_lists {A : Around} {n m : Nat} {a b : Addr} {xs ys : List V} {ds es : List Da} (I : Inv X pins σ H s) (hu : A.units < cLine) (sx : SqL X.K H a xs) (sy : SqL X.K H b ys) (px : Paired (RepN X.K H n) xs ds) (py : Paired (RepN X.K H m) ys es)
    (ih : ∀ {x y : V} {d e : Da} {u v : Value}, RepN X.K H n x d → RepN X.K H m y e → RelV x u → RelV y v → SeqAt.EqAt A.in1 s u v (Da.eq d e)) : SeqAt.RcAt A s (.ref a) (.ref b) (Da.eqs ds es) := by
  obtain ⟨us, vx, tx, _⟩ := I.list sx
  obtain ⟨vs, vy, ty, _⟩ := I.list sy
  by_cases hz : us.toArray.size = vs.toArray.size
  · have q := SeqAt.RcAt.lists (plain_list tx) (plain_list ty) hz hu (items_eq px py vx vy ih)
    have hz' : ds.length = es.length := by rw [← px.length, ← py.length, vx.length, vy.length]; simpa using hz
    have e := Da.eqs_range ds es
    rw [hz', Nat.min_self] at e
    rw [← hz'] at e
    rw [List.size_toArray, ← vx.length, px.length] at q
    simp only [beq_self_eq_true, Bool.and_true] at e
    rw [e] at q
    exact q
  · have q := SeqAt.RcAt.lists_lengths (plain_list tx) (plain_list ty) (by simpa using hz) hu
    have hz' : ds.length ≠ es.length := by
      rw [← px.length, ← py.length, vx.length, vy.length]
      intro z; exact hz (by simpa using z)
    have e := Da.eqs_range ds es
    have f : (ds.length == es.length) = false := by simpa using hz'
    rw [f, Bool.and_false] at e
    rw [← e]
    exact q
theorem eqAt_D (I : Inv X pins σ H s) : ∀ (n : Nat) {m : Nat} {A : Around} {x y : V} {d e : Da} {u v : Value}, A.units + n < cLine → RepN X.K H n x d → RepN X.K H m y e → RelV x u → RelV y v → SeqAt.EqAt A s u v (Da.eq d e) := by
  have flatRef : ∀ {A : Around} {x : V} {u : Value} {b : Addr} {ys : List V}, A.units < cLine → flatV x = true → RelV x u → (SqT X.K H b ys ∨ SqL X.K H b ys) → SeqAt.EqAt A s u (.ref b) false ∧ SeqAt.EqAt A s (.ref b) u false := by
    intro A x u b ys hu f r h
    have h' : (∃ its, s.heap.IsTuple b its) ∨ ∃ its, s.heap.IsList b its := by
      rcases h with h | h
      · obtain ⟨its, _, t, _⟩ := I.tuple h; exact .inl ⟨_, t⟩
      · obtain ⟨its, _, t, _⟩ := I.list h; exact .inr ⟨_, plain_list t⟩
    cases x with
    | non => cases r; rcases h' with ⟨_, t⟩ | ⟨_, t⟩; exact ⟨.none_tuple t hu, .tuple_none t hu⟩; exact ⟨.none_list t hu, .list_none t hu⟩
    | bl k => cases r; rcases h' with ⟨_, t⟩ | ⟨_, t⟩; exact ⟨.bool_tuple k t hu, .tuple_bool k t hu⟩; exact ⟨.bool_list k t hu, .list_bool k t hu⟩
    | int k => obtain ⟨tk, rfl⟩ := r; rcases h' with ⟨_, t⟩ | ⟨_, t⟩; exact ⟨.int_tuple k tk t hu, .tuple_int k tk t hu⟩; exact ⟨.int_list k tk t hu, .list_int k tk t hu⟩
    | str k => obtain ⟨tk, rfl⟩ := r; rcases h' with ⟨_, t⟩ | ⟨_, t⟩; exact ⟨.str_tuple k tk t hu, .tuple_str k tk t hu⟩; exact ⟨.str_list k tk t hu, .list_str k tk t hu⟩
    | _ => simp [flatV] at f
  intro n
  induction n with
  | zero =>
    intro m A x y d e u v hu h1 h2 rx ry
    obtain ⟨rfl, f⟩ := h1
    cases m with
    | zero => obtain ⟨rfl, f'⟩ := h2; exact eqAt_V rx ry f f'
    | succ m =>
      rcases h2 with ⟨rfl, f'⟩ | ⟨b, ys, es, rfl, rfl, sy, py⟩ | ⟨b, ys, es, rfl, rfl, sy, py⟩
      · exact eqAt_V rx ry f f'
      · cases ry; exact (flatRef (by omega) f rx (.inl sy)).1
      · cases ry; exact (flatRef (by omega) f rx (.inr sy)).1
  | succ n ih =>
    intro m A x y d e u v hu h1 h2 rx ry
    have hin : A.in1.units + n < cLine := by show A.units + 1 + n < cLine; omega
    rcases h1 with ⟨rfl, f⟩ | ⟨a, xs, ds, rfl, rfl, sx, px⟩ | ⟨a, xs, ds, rfl, rfl, sx, px⟩
    · cases m with
      | zero => obtain ⟨rfl, f'⟩ := h2; exact eqAt_V rx ry f f'
      | succ m =>
        rcases h2 with ⟨rfl, f'⟩ | ⟨b, ys, es, rfl, rfl, sy, py⟩ | ⟨b, ys, es, rfl, rfl, sy, py⟩
        · exact eqAt_V rx ry f f'
        · cases ry; exact (flatRef (by omega) f rx (.inl sy)).1
        · cases ry; exact (flatRef (by omega) f rx (.inr sy)).1
    · cases rx
      cases m with
      | zero => obtain ⟨rfl, f'⟩ := h2; exact (flatRef (by omega) f' ry (.inl sx)).2
      | succ m =>
        rcases h2 with ⟨rfl, f'⟩ | ⟨b, ys, es, rfl, rfl, sy, py⟩ | ⟨b, ys, es, rfl, rfl, sy, py⟩
        · exact (flatRef (by omega) f' ry (.inl sx)).2
        · cases ry
          by_cases hab : a = b
          · subst hab
            cases I.tuple_inj sx sy
            have e : Da.eq (.tup ds) (.tup es) = true := eq_self I (n + 1) (m := m + 1) (x := .ref a) (.inr (.inl ⟨a, xs, ds, rfl, rfl, sx, px⟩)) (.inr (.inl ⟨a, xs, es, rfl, rfl, sy, py⟩))
            rw [e]; exact .same _
          · exact .of_refs hab (rc_tuples I (by omega) sx sy px py fun h1 h2 r1 r2 => ih hin h1 h2 r1 r2)
        · cases ry
          obtain ⟨us, vx, tx, _⟩ := I.tuple sx
          obtain ⟨vs, vy, ty, _⟩ := I.list sy
          exact .tuple_list tx (plain_list ty) (by omega)
    · cases rx
      cases m with
      | zero => obtain ⟨rfl, f'⟩ := h2; exact (flatRef (by omega) f' ry (.inr sx)).2
      | succ m =>
        rcases h2 with ⟨rfl, f'⟩ | ⟨b, ys, es, rfl, rfl, sy, py⟩ | ⟨b, ys, es, rfl, rfl, sy, py⟩
        · exact (flatRef (by omega) f' ry (.inr sx)).2
        · cases ry
          obtain ⟨us, vx, tx, _⟩ := I.list sx
          obtain ⟨vs, vy, ty, _⟩ := I.tuple sy
          exact .list_tuple (plain_list tx) ty (by omega)
        · cases ry
          by_cases hab : a = b
          · subst hab
            cases I.list_inj sx sy
            have e : Da.eq (.lst ds) (.lst es) = true := eq_self I (n + 1) (m := m + 1) (x := .ref a) (.inr (.inr ⟨a, xs, ds, rfl, rfl, sx, px⟩)) (.inr (.inr ⟨a, xs, es, rfl, rfl, sy, py⟩))
            rw [e]; exact .same _
          · exact .of_refs hab (rc_lists I (by omega) sx sy px py fun h1 h2 r1 r2 => ih hin h1 h2 r1 r2)
end
/-- ==: scalars; data of at most k steps down -/
def uEq (K : PySem.W.Frag) (k : Nat) : R2 := fun x y H Q => match x, y with
  | .ref a, .ref b => ∃ n m d e, n ≤ k ∧ RepN K H n (.ref a) d ∧ RepN K H m (.ref b) e ∧ Q (.bl (Da.eq d e)) H
  | x, y => scal x y = true ∧ Q (.bl (decide (x = y))) H
theorem op_uEq {k : Nat} (hu : X.A.units + k < cLine) : OpR X (compareOp .Eq) (uEq X.K k) := by
  intro pins s σ H x y v u Q I rx ry h
  cases x with
  | ref a =>
    cases y with
    | ref b =>
      obtain ⟨n, m, d, e, hn, h1, h2, q⟩ := h
      cases rx; cases ry
      have fin : ∀ {k : Bool}, k = Da.eq d e → SeqAt.RcAt X.A s (.ref a) (.ref b) k → wpAny (model X.prog X.w) X.A (compareOp .Eq (.ref a) (.ref b)) (EP X pins σ Q) X.xe s := fun {k} e' r =>
        r X.prog X.w X.xe (EP X pins σ Q) (by rw [e']; exact ⟨.bl _, H, I, rfl, q⟩)
      cases n with
      | zero => exact (flat_noref h1.2).elim
      | succ n =>
        cases m with
        | zero => exact (flat_noref h2.2).elim
        | succ m =>
          have hin : X.A.in1.units + n < cLine := by show X.A.units + 1 + n < cLine; omega
          rcases h1 with ⟨_, f⟩ | ⟨a', xs, ds, e1, rfl, sx, px⟩ | ⟨a', xs, ds, e1, rfl, sx, px⟩
          · exact (flat_noref f).elim
          · cases e1
            rcases h2 with ⟨_, f⟩ | ⟨b', ys, es, e2, rfl, sy, py⟩ | ⟨b', ys, es, e2, rfl, sy, py⟩
            · exact (flat_noref f).elim
            · cases e2
              exact fin rfl (rc_tuples I (by omega) sx sy px py fun h1 h2 r1 r2 => eqAt_D I n hin h1 h2 r1 r2)
            · cases e2
              obtain ⟨us, vx, tx, _⟩ := I.tuple sx
              obtain ⟨vs, vy, ty, _⟩ := I.list sy
              exact fin rfl (.tuple_list tx (plain_list ty) (by omega))
          · cases e1
            rcases h2 with ⟨_, f⟩ | ⟨b', ys, es, e2, rfl, sy, py⟩ | ⟨b', ys, es, e2, rfl, sy, py⟩
            · exact (flat_noref f).elim
            · cases e2
              obtain ⟨us, vx, tx, _⟩ := I.list sx
              obtain ⟨vs, vy, ty, _⟩ := I.tuple sy
              exact fin rfl (.list_tuple (plain_list tx) ty (by omega))
            · cases e2
              exact fin rfl (rc_lists I (by omega) sx sy px py fun h1 h2 r1 r2 => eqAt_D I n hin h1 h2 r1 r2)
    | _ => exact op_eq pins s σ H _ _ v u Q I rx ry h
  | _ => cases y <;> exact op_eq pins s σ H _ _ v u Q I rx ry h
end

/-- a list, a tuple, a dict of the top by its name; a type's name -/
theorem pe_gr {X : Cx} {x : Str} {c : Addr} {pos : Pos} (hg : Gl X x) (hm : X.mg x = some (.ref c)) (hd : (x == ("__debug__" : Str)) = false := by decide) : PE X (.Name x pos) (tC (.ref c)) := pe_glob hg hm (v := .ref c) rfl hd
theorem pe_ty {X : Cx} {x : Str} {T : String} {pos : Pos} (hg : Gl X x) (hm : X.mg x = none) (hv : bootBuiltins x = some (.type T)) (hn : x ≠ "__name__" := by decide) (hd : (x == ("__debug__" : Str)) = false := by decide) : PE X (.Name x pos) (tC (.ty T)) := pe_bltn hg hm hv (v := .ty T) rfl hn hd
/-! ### a def of the text, as its callers see it -/
structure Cal (P : Program) (w : World) (K : PySem.W.Frag) (mg : Str → Option Value) (base : Heap) (k : Nat) (x : Str) (ps : List Str) (sp : Sp) : Prop where
  ex : ∃ f fd, FnOk P w K mg base CX0 k f fd ps sp ∧ Binds K fd ps [] ∧ PySem.W.keepIn K (.ref f) = true ∧ mg x = some (.ref f)
theorem pe_c {X : Cx} {k : Nat} {x : Str} {ps : List Str} {sp : Sp} {e : Expr} {es : List Expr} {t : TA} {p pos : Pos} (c : Cal X.prog X.w X.K X.mg X.base k x ps sp) (hr : Room k X.A) (hg : Gl X x) (ha : PA X (e :: es) t) (hdb : (x == ("__debug__" : Str)) = false := by decide)
    (he : starEach (e :: es) X.env = (false, eval e X.env) :: starEach es X.env := by rfl) (hpl : (backTo pos (starEach es X.env)).any (·.1) = false := by rfl) : PE X (.Call (.Name x p) (e :: es) [] pos) (tCall sp [] E0 t) := by
  obtain ⟨f, fd, F, b, kp, m⟩ := c.ex
  exact pe_call F hr hg m kp b .nil pass0 ha hdb he hpl
theorem Cal.mono {P : Program} {w : World} {K : PySem.W.Frag} {mg : Str → Option Value} {base : Heap} {j k : Nat} {x : Str} {ps : List Str} {sp : Sp} (c : Cal P w K mg base j x ps sp) (h : j ≤ k) : Cal P w K mg base k x ps sp := by
  obtain ⟨f, fd, F, b, kp, m⟩ := c.ex
  exact ⟨f, fd, F.mono h, b, kp, m⟩
end L2

namespace L2
open PySem PySem.Spec PyProof.Rows
theorem bt_isinstance : bootBuiltins "isinstance" = some (.builtin "isinstance") := by decide +kernel
theorem bt_int : bootBuiltins "int" = some (.type "int") := by decide +kernel
theorem bt_list : bootBuiltins "list" = some (.type "list") := by decide +kernel
theorem bt_len : bootBuiltins "len" = some (.builtin "len") := by decide +kernel
theorem huK {A : Around} {k : Nat} (hr : Room k A) : A.units + 128 < cLine := by have := hr.un; omega
theorem small {n : Nat} (h : n ≤ 1000) : n ≤ sizeLine := Nat.le_of_lt (small1000 h)
/-- a def that keeps its promise at every depth -/
theorem Cal.of {P : Program} {w : World} {K : PySem.W.Frag} {mg : Str → Option Value} {base : Heap} {k : Nat} {x : Str} {ps : List Str} {sp : Sp} {f : Addr} {fd : FuncData} (F : FnOk P w K mg base CX0 k f fd ps sp) (b : Binds K fd ps []) (kp : PySem.W.keepIn K (.ref f) = true) (m : mg x = some (.ref f)) :
    Cal P w K mg base k x ps sp := ⟨f, fd, F, b, kp, m⟩
/-! ### the same with the part of the top, the program and the world by name (within comprehensions) -/
section
variable {X : Cx} (K : PySem.W.Frag) (P : Program) (w : World)
end
end L2

namespace L2
open PySem PySem.Spec PyProof.Rows
/-! ### what stands at the top -/
structure DefIn (K : PySem.W.Frag) (x : Str) (st : Stmt) : Prop where
  ex : ∃ (f : Addr) (kV doc pm : Value) (an : Option Addr) (cdv ct : Value), PySem.W.nsIn K mainGlobals x = some (some (.ref f)) ∧ Fun K x x st f (PySem.W.fnOf x x (defArgs st) (defBody st) (defScope st) .none kV doc pm an cdv ct)
theorem def_in {K : PySem.W.Frag} {x : Str} {st : Stmt} {f : Addr} {oc : Value} {od an : Option Addr} {osl : Array (Option Value)} {kV doc pm cdv ct : Value} (a : PySem.W.nsIn K mainGlobals x = some (some (.ref f)))
    (l : K.lookup f = some ⟨oc, od, .func (PySem.W.fnOf x x (defArgs st) (defBody st) (defScope st) .none kV doc pm an cdv ct), osl⟩) (c : PySem.W.codeIn K cdv x = true) (k : PySem.W.keepIn K (.ref f) = true) : DefIn K x st :=
  ⟨f, kV, doc, pm, an, cdv, ct, a, fun_mk (st := st) l c k⟩
theorem DefIn.use {K : PySem.W.Frag} {x : Str} {st : Stmt} {ps : List Str} {h : Heap} {mg : Str → Option Value} (D : DefIn K x st) (X : K.In h) (G : h.Ns mainGlobals mg)
    (hb : ∀ (kV doc pm : Value) (an : Option Addr) (cdv ct : Value) (us : List Value), us.length = ps.length → bindArgs (PySem.W.fnOf x x (defArgs st) (defBody st) (defScope st) .none kV doc pm an cdv ct) ⟨us, []⟩ = pure (ps.zip us)) :
    ∃ f fd, Fun K x x st f fd ∧ Binds K fd ps [] ∧ mg x = some (.ref f) := by
  obtain ⟨f, kV, doc, pm, an, cdv, ct, a, F⟩ := D.ex
  exact ⟨f, _, F, Binds.all (hb kV doc pm an cdv ct), PySem.W.mg_of X G a⟩
end L2
namespace Words
open PySem L2
/-! ### words as data -/
end Words

namespace L2
open PySem PySem.Spec PyProof.Rows
section
variable {X : Cx} {pins : List (Addr × Obj)} {σ : St} {H : Hp} {s : Shared}
theorem rn_tuples {A : Around} {n m : Nat} {a b : Addr} {xs ys : List V} {ds es : List Da} (I : Inv X pins σ H s) (hu : A.units < cLine) (sx : SqT X.K H a xs) (sy : SqT X.K H b ys) (px : Paired (RepN X.K H n) xs ds) (py : Paired (RepN X.K H m) ys es)
    (ih : ∀ {x y : V} {d e : Da} {u v : Value}, RepN X.K H n x d → RepN X.K H m y e → RelV x u → RelV y v → SeqAt.EqAt A.in1 s u v (Da.eq d e)) : SeqAt.RcNeAt A s (.ref a) (.ref b) (!Da.eqs ds es) := by
  obtain ⟨us, vx, tx, _⟩ := I.tuple sx
  obtain ⟨vs, vy, ty, _⟩ := I.tuple sy
  have q := SeqAt.RcNeAt.tuples tx ty hu (items_eq px py vx vy ih)
  rw [List.size_toArray, List.size_toArray, ← vx.length, ← vy.length, px.length, py.length, Da.eqs_range] at q
  exact q
theorem rn_lists {A : Around} {n m : Nat} {a b : Addr} {xs ys : List V} {ds es : List Da} (I : Inv X pins σ H s) (hu : A.units < cLine) (sx : SqL X.K H a xs) (sy : SqL X.K H b ys) (px : Paired (RepN X.K H n) xs ds) (py : Paired (RepN X.K H m) ys es)
    (ih : ∀ {x y : V} {d e : Da} {u v : Value}, RepN X.K H n x d → RepN X.K H m y e → RelV x u → RelV y v → SeqAt.EqAt A.in1 s u v (Da.eq d e)) : SeqAt.RcNeAt A s (.ref a) (.ref b) (!Da.eqs ds es) := by
  obtain ⟨us, vx, tx, _⟩ := I.list sx
  obtain ⟨vs, vy, ty, _⟩ := I.list sy
  by_cases hz : us.toArray.size = vs.toArray.size
  · have q := SeqAt.RcNeAt.lists (plain_list tx) (plain_list ty) hz hu (items_eq px py vx vy ih)
    have hz' : ds.length = es.length := by rw [← px.length, ← py.length, vx.length, vy.length]; simpa using hz
    have e := Da.eqs_range ds es
    rw [hz', Nat.min_self] at e
    rw [← hz'] at e
    rw [List.size_toArray, ← vx.length, px.length] at q
    simp only [beq_self_eq_true, Bool.and_true] at e
    rw [e] at q
    exact q
  · have q := SeqAt.RcNeAt.lists_lengths (plain_list tx) (plain_list ty) (by simpa using hz) hu
    have hz' : ds.length ≠ es.length := by
      rw [← px.length, ← py.length, vx.length, vy.length]
      intro z; exact hz (by simpa using z)
    have e := Da.eqs_range ds es
    have f : (ds.length == es.length) = false := by simpa using hz'
    rw [f, Bool.and_false] at e
    rw [← e]
    exact q
end
section
variable {X : Cx}
/-- != -/
def uNe (K : PySem.W.Frag) (k : Nat) : R2 := fun x y H Q => match x, y with
  | .ref a, .ref b => ∃ n m d e, n ≤ k ∧ RepN K H n (.ref a) d ∧ RepN K H m (.ref b) e ∧ Q (.bl (!Da.eq d e)) H
  | x, y => scal x y = true ∧ Q (.bl (!decide (x = y))) H
theorem op_uNe {k : Nat} (hu : X.A.units + k < cLine) : OpR X (compareOp .NotEq) (uNe X.K k) := by
  intro pins s σ H x y v u Q I rx ry h
  cases x with
  | ref a =>
    cases y with
    | ref b =>
      obtain ⟨n, m, d, e, hn, h1, h2, q⟩ := h
      cases rx; cases ry
      have fin : ∀ {k : Bool}, k = (!Da.eq d e) → SeqAt.RcNeAt X.A s (.ref a) (.ref b) k → wpAny (model X.prog X.w) X.A (compareOp .NotEq (.ref a) (.ref b)) (EP X pins σ Q) X.xe s := fun {k} e' r =>
        r X.prog X.w X.xe (EP X pins σ Q) (by rw [e']; exact ⟨.bl _, H, I, rfl, q⟩)
      cases n with
      | zero => exact (flat_noref h1.2).elim
      | succ n =>
        cases m with
        | zero => exact (flat_noref h2.2).elim
        | succ m =>
          have hin : X.A.in1.units + n < cLine := by show X.A.units + 1 + n < cLine; omega
          rcases h1 with ⟨_, f⟩ | ⟨a', xs, ds, e1, rfl, sx, px⟩ | ⟨a', xs, ds, e1, rfl, sx, px⟩
          · exact (flat_noref f).elim
          · cases e1
            rcases h2 with ⟨_, f⟩ | ⟨b', ys, es, e2, rfl, sy, py⟩ | ⟨b', ys, es, e2, rfl, sy, py⟩
            · exact (flat_noref f).elim
            · cases e2
              exact fin rfl (rn_tuples I (by omega) sx sy px py fun h1 h2 r1 r2 => eqAt_D I n hin h1 h2 r1 r2)
            · cases e2
              obtain ⟨us, vx, tx, _⟩ := I.tuple sx
              obtain ⟨vs, vy, ty, _⟩ := I.list sy
              exact fin rfl (.tuple_list tx (plain_list ty) (by omega))
          · cases e1
            rcases h2 with ⟨_, f⟩ | ⟨b', ys, es, e2, rfl, sy, py⟩ | ⟨b', ys, es, e2, rfl, sy, py⟩
            · exact (flat_noref f).elim
            · cases e2
              obtain ⟨us, vx, tx, _⟩ := I.list sx
              obtain ⟨vs, vy, ty, _⟩ := I.tuple sy
              exact fin rfl (.list_tuple (plain_list tx) ty (by omega))
            · cases e2
              exact fin rfl (rn_lists I (by omega) sx sy px py fun h1 h2 r1 r2 => eqAt_D I n hin h1 h2 r1 r2)
    | _ => exact op_ne pins s σ H _ _ v u Q I rx ry h
  | _ => cases y <;> exact op_ne pins s σ H _ _ v u Q I rx ry h
end
theorem bt_bool : bootBuiltins "bool" = some (.type "bool") := by decide +kernel
end L2

namespace Words
open PySem L2
end Words

namespace L2
open PySem PySem.Spec PyProof.Rows
/-! ### exceptions of one's own classes -/
theorem ObjOk.get {P : Program} {w : World} {H : Hp} {h : Heap} {a : Addr} {o : HO} (x : ObjOk P w H h a o) : ∃ ob, h.get? a = some ob := by
  cases o with
  | lst xs => obtain ⟨_, _, _, _, e⟩ := x; exact ⟨_, e⟩
  | tup xs => obtain ⟨_, _, _, _, e, _⟩ := x; exact ⟨_, e⟩
  | dK kvs => obtain ⟨_, _, _, _, o, _, _, e, _⟩ := x; exact ⟨_, e⟩
  | dT kvs => obtain ⟨_, _, _, _, o, _, _, e, _⟩ := x; exact ⟨_, e⟩
  | set S n => obtain ⟨o, _, _, _, e, _⟩ := x; exact ⟨_, e⟩
  | ins C dx fs => obtain ⟨_, _, _, e, _⟩ := x; exact ⟨_, e⟩
  | own y => exact x
  | xd fs => obtain ⟨_, ⟨_, _, _, e, _⟩, _⟩ := x; exact ⟨_, e⟩
  | rng lo hi => obtain ⟨_, _, _, e⟩ := x; exact ⟨_, e⟩
  | frz ob u => obtain ⟨e, _⟩ := x; exact ⟨_, e⟩
  | tbl ps => exact ⟨_, show h.get? a = some _ from x⟩
  | met f y => exact ⟨_, show h.get? a = some _ from x⟩
  | ext φ => obtain ⟨_, e, _⟩ := x; exact e
/-- the exception at a, of the class at C: new since h0, not tracked; tr: its traceback has begun (at T) -/
def Lies (h0 h : Heap) (H : Hp) (a C : Addr) (tr : Option Addr) : Prop :=
  h0.get? a = none ∧ H a = none ∧ ∃ oe vs a0, h.get? a = some oe ∧ oe.cls = .ref C ∧ oe.data = .fields vs ∧ vs[0]? = some a0 ∧
    match tr with
    | none => vs[1]? = some .none
    | some T => vs[1]? = some (.ref T) ∧ h0.get? T = none ∧ H T = none ∧ T ≠ a ∧ ∃ oT ts, h.get? T = some oT ∧ oT.data = .fields ts ∧ ts[3]? = some .none
def hidL (a : Addr) (tr : Option Addr) (fs : List Addr) : List Addr := a :: (tr.toList ++ fs)
section
variable {X : Cx} {pins : List (Addr × Obj)} {σ : St} {H : Hp} {s : Shared} {a C : Addr} {tr : Option Addr}
theorem mem_frs {l : List Env} {env : Env} {b : Addr} (h : env ∈ l) (e : env.frame = some b) : b ∈ frs l := List.mem_filterMap.mpr ⟨env, h, e⟩
/-- what else changes when a frame is noted in the traceback of a: nothing -/
theorem left_ok (I : Inv X pins σ H s) (hs : X.stack = X.env :: X.outer) (hx : X.ex = []) (new : X.s₀.heap.get? a = none) (free : H a = none) (newT : ∀ T, tr = some T → X.s₀.heap.get? T = none ∧ H T = none) {a0 fl : Value} {h' : Heap}
    (k1 : (PySem.W.hideAll s.heap (hidL a tr (frs X.stack))).StaysIn h') (k2 : h'.FunFrames (PySem.W.hideAll s.heap (hidL a tr (frs X.stack))) X.stack) (k3 : h'.TracedAtW (PySem.W.hideAll s.heap (hidL a tr (frs X.stack))) a (.ref C) a0 fl)
    (k4 : ∀ b o, s.heap.get? b = some o → (∀ vs, o.data ≠ .fields vs) → ∃ sl, h'.get? b = some { o with slots := sl }) :
    Un X.fs [] X.H₀ H X.s₀.heap h' ∧ HOk X.prog X.w H h' ∧ ∃ T, (∀ b o, s.heap.get? b = some o → (∀ T0, tr = some T0 → b ≠ T0) → b ≠ T) ∧ X.s₀.heap.get? T = none ∧ H T = none ∧ T ≠ a ∧ ∃ oe vs oT ts, h'.get? a = some oe ∧ oe.cls = .ref C ∧ vs[0]? = some a0 ∧ oe.data = .fields vs ∧ vs[1]? = some (.ref T) ∧ h'.get? T = some oT ∧ oT.data = .fields ts ∧ ts[3]? = some fl := by
  have kp : ∀ b o, s.heap.get? b = some o → b ∉ hidL a tr (frs X.stack) → h'.get? b = some o := fun b o e n => k1 b o (PySem.W.hideAll_get _ e n)
  have sl : ∀ b o, s.heap.get? b = some o → b ∈ frs X.stack → ∃ sl, h'.get? b = some { o with slots := sl } := fun b o e hb => by
    obtain ⟨_, o', e', nf⟩ := I.stack.mem hb
    rw [e] at e'; cases e'
    exact k4 b o e nf
  have hidN : ∀ b, b ∈ hidL a tr (frs X.stack) → H b = none := fun b hb => by
    rcases List.mem_cons.mp hb with e | hb
    · rw [e]; exact free
    · rcases List.mem_append.mp hb with q | q
      · exact (newT b (by simpa using q)).2
      · exact I.stkFree b q
  have notHid : ∀ b o, X.s₀.heap.get? b = some o → b ∉ X.fs → b ∉ hidL a tr (frs X.stack) := fun b o e nb hb => by
    rcases List.mem_cons.mp hb with q | hb
    · rw [q, new] at e; cases e
    · rcases List.mem_append.mp hb with q | q
      · rw [(newT b (by simpa using q)).1] at e; cases e
      · rcases List.mem_cons.mp (I.stkSub b q) with q | q
        · exact absurd (Nat.lt_of_lt_of_le (Heap.lt_size e) I.ok.above) (by rw [q]; exact Nat.lt_irrefl _)
        · exact nb q
  have fsub : ∀ b, b ∈ X.fs → b ∈ frs X.stack := fun b hb => by
    rw [hs]
    unfold frs
    rw [List.filterMap_cons]
    split
    · exact hb
    · exact List.mem_cons_of_mem _ hb
  have noex : ∀ b : Addr, b ∉ X.ex := fun b => by rw [hx]; simp
  have hokk : HOk X.prog X.w H h' := fun b u e => (I.hok b u e).stay (fun c w' hc q => kp c w' q fun hm => by
      have n := hidN c hm
      rcases hc with z | z
      · rw [z, e] at n; cases n
      · rw [z] at n; cases n) (fun _ q => q) fun _ _ q => q
  refine ⟨⟨fun b o e n hb _ => ?_, fun b o e n hb _ => ?_, fun b o e n _ => I.base.free b o e n (noex b), fun b o e _ => ?_, I.base.tups, I.base.frzs, I.base.tbls⟩, hokk, ?_⟩
  · exact kp b o (I.base.keep b o e n hb (noex b)) (notHid b o e hb)
  · obtain ⟨z, e1⟩ := I.base.slot b o e n hb (noex b)
    obtain ⟨z', e2⟩ := sl b _ e1 (fsub b hb)
    exact ⟨z', e2⟩
  · obtain ⟨o', e1⟩ := I.base.there b o e (noex b)
    by_cases hb : b ∈ X.fs
    · obtain ⟨z', e2⟩ := sl b _ e1 (fsub b hb)
      exact ⟨_, e2⟩
    · exact ⟨o', kp b o' e1 (notHid b o e hb)⟩
  · obtain ⟨oe', vs', T, oT, ts, he', ⟨hc', h0'⟩, hd', h1', hnT, hTa, hT, hdT, h3⟩ := k3
    have inn : ∀ o, s.heap.get? T = some o → T ∈ hidL a tr (frs X.stack) := fun o e => by
      by_cases q : T ∈ hidL a tr (frs X.stack)
      · exact q
      · rw [PySem.W.hideAll_get _ e q] at hnT; cases hnT
    have nfr : T ∉ frs X.stack := fun hb => by
      obtain ⟨_, o', e', nf⟩ := k2.mem hb
      rw [hT] at e'; cases e'
      exact nf ts hdT
    refine ⟨T, fun b o e ne z => ?_, ?_, ?_, hTa, oe', vs', oT, ts, he', hc', h0', hd', h1', hT, hdT, h3⟩
    · subst z
      rcases List.mem_cons.mp (inn o e) with z | z
      · exact hTa z
      · rcases List.mem_append.mp z with z | z
        · exact ne b (by simpa using z) rfl
        · exact nfr z
    · cases q : X.s₀.heap.get? T with
      | none => rfl
      | some o =>
        obtain ⟨o', e1⟩ := I.base.there T o q (noex T)
        rcases List.mem_cons.mp (inn o' e1) with z | z
        · exact absurd z hTa
        · rcases List.mem_append.mp z with z | z
          · rw [(newT T (by simpa using z)).1] at q; cases q
          · exact absurd z nfr
    · cases q : H T with
      | none => rfl
      | some u =>
        obtain ⟨o', e1⟩ := (I.hok T u q).get
        have := hidN T (inn o' e1)
        rw [q] at this; cases this
/-- the frame is left: the traceback grows, nothing else changes -/
theorem leave_ok {M : Model} {Q : Unit → Shared → Prop} {E : Value → Shared → Prop} (I : Inv X pins σ H s) (hs : X.stack = X.env :: X.outer) (hf : X.env.frame = some X.env.locals) (hx : X.ex = []) (L : Lies X.s₀.heap s.heap H a C tr)
    (h : ∀ h' T, Un X.fs [] X.H₀ H X.s₀.heap h' → HOk X.prog X.w H h' → Lies X.s₀.heap h' H a C (some T) → Q () { s with heap := h' }) : wpAny M X.A (leaving X.env (.ref a)) Q E s := by
  have L0 := L
  obtain ⟨new, free, oe, vs, b0, he, hc, hd, h0, htr⟩ := L0
  have fr : s.heap.FunFrames (PySem.W.hideAll s.heap (hidL a tr (frs X.stack))) X.stack := PySem.W.funFrames_hide I.stack fun env he b hb => List.mem_cons_of_mem _ (List.mem_append_right _ (mem_frs he hb))
  have st : (PySem.W.hideAll s.heap (hidL a tr (frs X.stack))).StaysIn s.heap := fun b o e => PySem.W.of_hideAll _ e
  have na : (PySem.W.hideAll s.heap (hidL a tr (frs X.stack))).get? a = none := PySem.W.hideAll_none _ List.mem_cons_self
  have hfr : X.A.frames = some (X.env :: X.outer) := by rw [← hs]; exact I.ok.frames
  have go : ∀ h', Heap.LeftW (PySem.W.hideAll s.heap (hidL a tr (frs X.stack))) (X.env :: X.outer) a (.ref C) b0 s.heap h' → Q () { s with heap := h' } := fun h' ⟨k1, k2, k3, k4⟩ => by
    obtain ⟨u, hok, T, _, n1, n2, ne, oe', vs', oT, ts, e1, e2, e3, e4, e5, e6, e7, e8⟩ := left_ok I hs hx new free (by intro T e; subst e; exact ⟨htr.2.1, htr.2.2.1⟩) k1 (by rw [hs]; rw [hs] at k2; exact k2) k3.at k4
    exact h h' T u hok ⟨new, free, oe', vs', b0, e1, e2, e4, e3, e5, n1, n2, ne, oT, ts, e6, e7, e8⟩
  have nT : ∀ T, tr = some T → (PySem.W.hideAll s.heap (hidL a tr (frs X.stack))).get? T = none := fun T e => by subst e; exact PySem.W.hideAll_none _ (List.mem_cons_of_mem _ (List.mem_append_left _ (by simp)))
  generalize PySem.W.hideAll s.heap (hidL a tr (frs X.stack)) = base at fr st na go nT
  rw [hs] at fr
  cases tr with
  | none => exact wpAny_leaving_firstW hfr fr hf he st na hd htr h0 (by rw [hc]; exact go)
  | some T =>
    obtain ⟨h1, _, _, hTa, oT, ts, hT, hdT, h3⟩ := htr
    exact wpAny_leaving_nextW hfr fr hf ⟨oe, vs, T, oT, ts, he, ⟨hc, h0⟩, hd, h1, nT T rfl, hTa, hT, hdT, h3⟩ st na go
end
end L2

namespace L2
open PySem PySem.Spec PyProof.Rows
/-- how an exception of one's own class lies behind a call -/
def CXE (P : Program) (w : World) : CXT := fun outer H s E e s' => ∃ a C T H', e = .ref a ∧ s'.os = s.os ∧ AllBare s'.gens ∧ Un (frs outer) [] H H' s.heap s'.heap ∧ HOk P w H' s'.heap ∧ Lies s.heap s'.heap H' a C (some T) ∧ E (.ref C) none H'
/-- what stands apart from all that the body holds -/
def Apart (X : Cx) (a : Addr) : Prop := a ≠ X.env.locals ∧ (∀ x c, X.env.cells.lookup x = some c → c ≠ a) ∧ ∀ p ∈ X.pn, p.1 ≠ a
/-- the wish for an exception, by the names' values where it was met -/
abbrev X1 := St → Value → Hp → Prop
def Takes (X : Cx) (E1 : X1) : Prop := ∀ (pins : List (Addr × Obj)) (σ : St) (H : Hp) (s : Shared) (a C : Addr) (tr : Option Addr), Inv X pins σ H s → Lies X.s₀.heap s.heap H a C tr → Apart X a → (∀ T, tr = some T → Apart X T) → E1 σ (.ref C) H → X.xe (.ref a) s
section
variable {X : Cx} {pins : List (Addr × Obj)} {σ : St} {H H' : Hp} {s s' : Shared} {a b C T : Addr} {tr : Option Addr} {E1 : X1}
theorem Inv.apart (I : Inv X pins σ H s) (h : s.heap.get? b = none) : Apart X b := by
  refine ⟨fun e => ?_, fun x c e z => ?_, fun p hp z => ?_⟩
  · obtain ⟨m, ⟨o, _, _, ho, _⟩, _⟩ := I.loc
    rw [← e, h] at ho; cases ho
  · obtain ⟨v, o, ho, _⟩ := I.cell x c e
    rw [z, h] at ho; cases ho
  · obtain ⟨e, _⟩ := I.pin p (List.mem_append_left _ hp)
    rw [z, h] at e; cases e
theorem Inv.news (I : Inv X pins σ H s) (hx : X.ex = []) (h : s.heap.get? b = none) : X.s₀.heap.get? b = none := by
  cases q : X.s₀.heap.get? b with
  | none => rfl
  | some o =>
    obtain ⟨o', e⟩ := I.base.there b o q (by rw [hx]; simp)
    rw [h] at e; cases e
/-- a callee's exception -/
theorem Takes.pass (t : Takes X E1) (hx : X.ex = []) {e : Value} (I : Inv X pins σ H s) (h : CXE X.prog X.w X.stack H s (fun c _ H' => E1 σ c H') e s') : X.xe e s' := by
  obtain ⟨a, C, T, H', rfl, ho, hg, u, hok, ⟨new, free, oe, vs, a0, he, hc, hd, h0, h1, nT, fT, rest⟩, q⟩ := h
  have I' : Inv X pins σ H' s' := I.call' (ch := []) ho u hok hg (fun b z => absurd z (by simp))
  exact t pins σ H' s' a C (some T) I' ⟨I.news hx new, free, oe, vs, a0, he, hc, hd, h0, h1, I.news hx nT, fT, rest⟩ (I.apart new) (fun T' e => by cases e; exact I.apart nT) q
theorem run_fnX {k : Nat} {f : Addr} {fd : FuncData} {ps : List Str} {sp : Sp} {Q : VK} {us : List Value} {vs : List V} (F : FnOk X.prog X.w X.K X.mg X.base (CXE X.prog X.w) k f fd ps sp) (hr : Room k X.A) (hb : Binds X.K fd ps []) (ht : Takes X E1) (hx : X.ex = [])
    (I : Inv X pins σ H s) (r : Vals vs us) (h : sp vs H Q (fun c _ H' => E1 σ c H')) : wpAny (model X.prog X.w) X.A (call (.ref f) us) (EP X pins σ Q) X.xe s := by
  have hl : (us ++ []).length = ps.length := by rw [List.append_nil, ← r.length]; exact F.len _ _ _ _ h
  refine wpAny_call (codeAny_mono (F.run X.A X.stack s H ⟨us, []⟩ us vs Q _ hr I.env0 (by have := hb s us I.kIn hl; rw [List.append_nil] at this; exact this) r h) fun r s' hq => ?_)
  cases r with
  | error e => exact ht.pass hx I hq
  | ok fl =>
    cases fl with
    | ret u => exact I.after hq
    | next => exact False.elim hq
    | brk => exact False.elim hq
    | cont => exact False.elim hq
end
/-- f(..) that may raise -/
def tCallX (sp : Sp) (E1 : X1) (t : TA) : TE := fun σ H Q => t σ H fun vs H1 => sp vs H1 Q fun c _ H' => E1 σ c H'
section
variable {X : Cx} {k : Nat} {f C : Addr} {fd : FuncData} {ps : List Str} {sp : Sp} {E1 : X1} {x : Str} {p pos : Pos} {e : Expr} {es : List Expr} {t : TA}
theorem pe_callX (F : FnOk X.prog X.w X.K X.mg X.base (CXE X.prog X.w) k f fd ps sp) (hr : Room k X.A) (hg : Gl X x) (hm : X.mg x = some (.ref f)) (hk : PySem.W.keepIn X.K (.ref f) = true) (hb : Binds X.K fd ps []) (ht : Takes X E1) (hx : X.ex = [])
    (ha : PA X (e :: es) t) (hdb : (x == ("__debug__" : Str)) = false := by decide) (he : starEach (e :: es) X.env = (false, eval e X.env) :: starEach es X.env := by rfl) (hpl : (backTo pos (starEach es X.env)).any (·.1) = false := by rfl) :
    PE X (.Call (.Name x p) (e :: es) [] pos) (tCallX sp E1 t) := by
  intro pins s σ H Q I h
  refine wpAny_Call_Name_kw (ld_glob I hg hm ?_ hdb)
  refine PySem.W.callWith_K (h₀ := X.base) I.ok.mod.kin hk (thn (ha pos pins s σ H _ I h) fun us s1 ⟨vs, H1, I1, r, q⟩ => ⟨I1.kIn, ?_⟩) he hpl
  exact run_fnX F hr hb ht hx I1 r q
end
/-- the context of a def's body takes exceptions: they leave the frame -/
theorem takes_cx {P : Program} {w : World} {K : PySem.W.Frag} {mg : Str → Option Value} {base : Heap} {N : List Str} {qual : Str} {scope : Scope} {f : Addr} {cd : Value} {A : Around} {outer : List Env} {s : Shared} {H : Hp} {E : XK} :
    Takes (cxOf (CXE P w) P w K mg base N qual scope f cd A outer s H E) fun _ c H' => E c none H' := by
  intro pins σ H' s' a C tr I L _ _ q
  refine leave_ok (X := cxOf (CXE P w) P w K mg base N qual scope f cd A outer s H E) I rfl rfl rfl L fun h' T u hok L' => ?_
  exact ⟨a, C, T, H', rfl, I.os, I.bare, u, hok, L', q⟩
/-- a class of exceptions of one's own -/
structure XCls (K : PySem.W.Frag) (C : Addr) : Prop where
  ex : ∃ (nm q : Str) (N : Addr) (bs bm : List Value) (hdct : Bool) (sn : List Str) (sub : List Value) (ab : Bool) (col : Option Bool) (dd : Option Addr) (k0 k1 k2 k3 k5 : Option Value) (B Bn newId nid initId inN : String) (bmB bmN : List Value),
    ExcBaseFacts Bn newId inN bmN ∧ bmB.contains (.type Bn) = true ∧ ExcBaseFacts B nid initId bmB ∧
    ∀ h, K.In h → h.get? C = some (excClassObj nm q C N bs bm hdct sn sub ab col dd k0 k1 k2 k3 k5 newId) ∧ (∃ mN, h.Ns N mN ∧ mN "__init__" = none) ∧ OwnTail h bmB bm
theorem xcls_of {K : PySem.W.Frag} {C : Addr} {bmB bmN : List Value} {B Bn newId nid initId inN : String} (q : PySem.W.excIn K C bmB newId = true) (Fn : ExcBaseFacts Bn newId inN bmN) (hBn : bmB.contains (.type Bn) = true) (F : ExcBaseFacts B nid initId bmB) : XCls K C := by
  unfold PySem.W.excIn at q
  split at q
  · rename_i dd cd sl ho
    split at q
    · rename_i C' bm k0 k1 k2 k3 n k5 hm hs
      simp only [Bool.and_eq_true, beq_iff_eq, Bool.not_eq_true'] at q
      obtain ⟨⟨⟨⟨⟨rfl, rfl⟩, hdel⟩, ht⟩, hok⟩, hni⟩ := q
      obtain ⟨nm, bs, mro, ns, qn, hd, sn, sub, ab, col, del⟩ := cd
      dsimp only at hm hdel hok hni
      subst hm hdel
      have hsl : sl = #[k0, k1, k2, k3, some (.builtin n), k5] := by
        obtain ⟨l⟩ := sl
        simp only at hs
        rw [hs]
      subst hsl
      exact ⟨nm, qn, ns, bs, bm, hd, sn, sub, ab, col, dd, k0, k1, k2, k3, k5, B, Bn, n, nid, initId, inN, bmB, bmN, Fn, hBn, F, fun h X => ⟨X _ _ ho, ⟨_, .of_isNs (PySem.W.isNs_of_in X hok), PySem.W.nsMap_none_of_in X hok hni⟩, PySem.W.tail_of_in X ht⟩⟩
    · cases q
  · cases q
def tRaise (C : Addr) (E1 : X1) (t : TA) : TS := fun _ σ H => t σ H fun vs H1 => vs.length ≤ sizeLine ∧ E1 σ (.ref C) H1
theorem ps_raise {X : Cx} {C : Addr} {E1 : X1} {x : Str} {np cpos pos : Pos} {e : Expr} {es : List Expr} {t : TA} (c : XCls X.K C) (hg : Gl X x) (hm : X.mg x = some (.ref C)) (hc : X.calm = true) (ht : Takes X E1) (hx : X.ex = []) (ha : PA X (e :: es) t) (hdb : (x == ("__debug__" : Str)) = false := by decide)
    (he : starEach (e :: es) X.env = (false, eval e X.env) :: starEach es X.env := by rfl) (hpl : (backTo cpos (starEach es X.env)).any (·.1) = false := by rfl) :
    PS X (.Raise (some (.Call (.Name x np) (e :: es) [] cpos)) none pos) (tRaise C E1 t) := by
  intro pins s σ H D I h
  obtain ⟨nm, q, N, bs, bm, hdct, sn, sub, ab, col, dd, k0, k1, k2, k3, k5, B, Bn, newId, nid, initId, inN, bmB, bmN, Fn, hBn, F, all⟩ := c.ex
  obtain ⟨_, ⟨mN, hn, hni⟩, ow⟩ := all X.base I.ok.mod.kin
  refine wpAny_Raise_call_subU (C := C) (nm := nm) (q := q) (N := N) (bs := bs) (bm := bm) (hdct := hdct) (sn := sn) (sub := sub) (ab := ab) (col := col) (dd := dd) (k0 := k0) (k1 := k1) (k2 := k2) (k3 := k3) (k5 := k5) Fn hBn F (mN := mN) (ow.hasType F.hasBase) (I.ok.hd hc)
    (by rw [he]; show (false || (backTo cpos (starEach es X.env)).any (·.1)) = false; rw [hpl]; rfl) hni (ld_glob I hg hm ⟨rfl, ?_⟩ hdb)
  rw [he]
  have ha' := ha cpos pins s σ H _ I h
  rw [he] at ha'
  refine Calls.evalArgs_plain (thn ha' fun us s2 ⟨vs, H1, I1, r, hl, q1⟩ => ⟨rfl, by rw [← r.length]; exact hl, (all _ I1.kIn).1, hn.keeps I1.bk, (all _ I1.kIn).2.2, fun h' a hm => ?_⟩)
  obtain ⟨t0, e1, _, _⟩ := hm.there
  have I2 : Inv X pins σ H1 { s2 with heap := h' } := I1.kept (t' := s2.toks) hm.keeps
  have fr : H1 a = none := by
    cases z : H1 a with
    | none => rfl
    | some u =>
      obtain ⟨o, eo⟩ := (I1.hok a u z).get
      rw [hm.new] at eo; cases eo
  exact ht pins σ H1 _ a C none I2 ⟨I1.news hx hm.new, fr, _, _, .ref t0, e1, rfl, rfl, rfl, rfl⟩ (I1.apart hm.new) (fun T z => nomatch z) q1
end L2

namespace L2
open PySem PySem.Spec PyProof.Rows
section
variable {X : Cx} {pins : List (Addr × Obj)} {σ : St} {H : Hp} {s : Shared} {a C T : Addr} {tr : Option Addr} {h' : Heap}
/-- all that a body holds is as it was, where only a, its traceback and the frames' slots have changed -/
theorem inv_noted (I : Inv X pins σ H s) (hx : X.ex = []) (hf : X.stack = X.env :: X.outer) (un : Un X.fs [] X.H₀ H X.s₀.heap h') (hok : HOk X.prog X.w H h')
    (k1 : (PySem.W.hideAll s.heap (hidL a tr (frs X.stack))).StaysIn h') (k4 : ∀ b o, s.heap.get? b = some o → (∀ vs, o.data ≠ .fields vs) → ∃ sl, h'.get? b = some { o with slots := sl })
    (pa : ∀ p ∈ X.pn ++ pins, p.1 ≠ a ∧ ∀ T, tr = some T → p.1 ≠ T) : Inv X pins σ H { s with heap := h' } := by
  have cl : ∀ {c : Addr} {v : Option Value}, s.heap.IsCell c v → h'.IsCell c v := fun {c v} ⟨o, ho, hd⟩ => by
    obtain ⟨sl, e⟩ := k4 c o ho fun vs q => by rw [hd] at q; cases q
    exact ⟨_, e, hd⟩
  obtain ⟨m, hn, hl⟩ := id I.loc
  have hn' : h'.Ns X.env.locals m := by
    obtain ⟨o, es, ep, ho, hd, r⟩ := hn
    obtain ⟨sl, e⟩ := k4 _ o ho fun vs q => by rw [hd] at q; cases q
    exact ⟨_, es, ep, e, hd, r⟩
  refine ⟨I.ok, I.os, I.bare, by rw [hx]; exact un, ⟨m, hn', fun i x v e1 e2 e3 => ?_⟩, fun x c e => ?_, I.free, I.freeC, fun p hp => ?_, hok, I.len⟩
  · obtain ⟨u, ru, lk⟩ := hl i x v e1 e2 e3
    refine ⟨u, ru, ?_⟩
    rcases lk with lk | ⟨k, c, e, z⟩
    · exact .inl lk
    · exact .inr ⟨k, c, e, cl z⟩
  · obtain ⟨v, z⟩ := I.cell x c e
    exact ⟨v, cl z⟩
  · obtain ⟨e, n, ne, nf, d⟩ := I.pin p hp
    refine ⟨k1 _ _ (PySem.W.hideAll_get _ e fun hm => ?_), n, ne, nf, d⟩
    rcases List.mem_cons.mp hm with z | z
    · exact (pa p hp).1 z
    · rcases List.mem_append.mp z with z | z
      · exact (pa p hp).2 p.1 (by simpa using z) rfl
      · rcases List.mem_cons.mp (I.stkSub _ z) with z | z
        · exact ne z
        · exact nf z
/-- an exception is met: the frame is noted, its flight is over -/
theorem note_ok {M : Model} {Q : Unit → Shared → Prop} {E : Value → Shared → Prop} (I : Inv X pins σ H s) (hs : X.stack = X.env :: X.outer) (hf : X.env.frame = some X.env.locals) (hx : X.ex = []) (L : Lies X.s₀.heap s.heap H a C tr)
    (pa : ∀ p ∈ X.pn ++ pins, p.1 ≠ a ∧ ∀ T, tr = some T → p.1 ≠ T)
    (h : ∀ h' T, Inv X pins σ H { s with heap := h' } → Lies X.s₀.heap h' H a C (some T) → (∀ p ∈ X.pn ++ pins, p.1 ≠ T) → Q () { s with heap := h' }) :
    wpAny M X.A (noteFrame (.ref a) X.env) (fun _ s₂ => wpAny M X.A (setFlight (.ref a) none) Q E s₂) E s := by
  obtain ⟨new, free, oe, vs, b0, he, hc, hd, h0, htr⟩ := id L
  have newT : ∀ T, tr = some T → X.s₀.heap.get? T = none ∧ H T = none := by intro T e; subst e; exact ⟨htr.2.1, htr.2.2.1⟩
  have fr : s.heap.FunFrames (PySem.W.hideAll s.heap (hidL a tr (frs X.stack))) X.stack := PySem.W.funFrames_hide I.stack fun env he b hb => List.mem_cons_of_mem _ (List.mem_append_right _ (mem_frs he hb))
  have st : (PySem.W.hideAll s.heap (hidL a tr (frs X.stack))).StaysIn s.heap := fun b o e => PySem.W.of_hideAll _ e
  have na : (PySem.W.hideAll s.heap (hidL a tr (frs X.stack))).get? a = none := PySem.W.hideAll_none _ List.mem_cons_self
  have hfr : X.A.frames = some (X.env :: X.outer) := by rw [← hs]; exact I.ok.frames
  have nT : ∀ T, tr = some T → (PySem.W.hideAll s.heap (hidL a tr (frs X.stack))).get? T = none := fun T e => by subst e; exact PySem.W.hideAll_none _ (List.mem_cons_of_mem _ (List.mem_append_left _ (by simp)))
  have go : ∀ h', Heap.NotedW (PySem.W.hideAll s.heap (hidL a tr (frs X.stack))) (X.env :: X.outer) a (.ref C) b0 (rawInt X.env.locals) s.heap h' → wpAny M X.A (setFlight (.ref a) none) Q E { s with heap := h' } := fun h' ⟨k1, k2, k3, k4⟩ => by
    rw [← hs] at k2
    obtain ⟨u, hok, T, apT, n1, n2, ne, oe', vs', oT, ts, e1, e2, e3, e4, e5, e6, e7, e8⟩ := left_ok I hs hx new free newT k1 k2 k3 k4
    have I2 : Inv X pins σ H { s with heap := h' } := inv_noted I hx hs u hok k1 k4 pa
    have paT : ∀ p ∈ X.pn ++ pins, p.1 ≠ T := fun p hp => by
      obtain ⟨e, _⟩ := I.pin p hp
      exact apT p.1 _ e (pa p hp).2
    have fr2 : h'.FunFrames (PySem.W.hideAll h' (hidL a (some T) (frs X.stack))) X.stack := PySem.W.funFrames_hide I2.stack fun env he b hb => List.mem_cons_of_mem _ (List.mem_append_right _ (mem_frs he hb))
    refine wpAny_setFlight_noneW (s := { s with heap := h' }) (base := PySem.W.hideAll h' (hidL a (some T) (frs X.stack))) (l := X.stack) (e := a) (cls := .ref C) (a0 := b0) (fl := rawInt X.env.locals) (fun b o e => PySem.W.of_hideAll _ e) fr2
      ⟨oe', vs', T, oT, ts, e1, ⟨e2, e3⟩, e4, e5, PySem.W.hideAll_none _ (List.mem_cons_of_mem _ (List.mem_append_left _ (by simp))), ne, e6, e7, e8⟩ fun h3 j1 j2 j3 j4 => ?_
    have j4' : ∀ b o, h'.get? b = some o → (∀ vs, o.data ≠ .fields vs) → ∃ sl, h3.get? b = some { o with slots := sl } := fun b o e q => ⟨o.slots, j4 b o e q⟩
    obtain ⟨u', hok', T', apT', n1', n2', ne', oe2, vs2, oT2, ts2, f1, f2, f3, f4, f5, f6, f7, f8⟩ := left_ok (s := { s with heap := h' }) (tr := some T) I2 hs hx new free (fun T0 e => by cases e; exact ⟨n1, n2⟩) j1 j2 j3.at j4'
    have I3 : Inv X pins σ H { s with heap := h3 } := inv_noted (s := { s with heap := h' }) (h' := h3) (tr := some T) I2 hx hs u' hok' j1 j4' fun p hp => ⟨(pa p hp).1, fun T0 e => by cases e; exact paT p hp⟩
    refine h h3 T' I3 ⟨new, free, oe2, vs2, b0, f1, f2, f4, f3, f5, n1', n2', ne', oT2, ts2, f6, f7, f8⟩ fun p hp => ?_
    obtain ⟨e, _⟩ := I2.pin p hp
    exact apT' p.1 _ e fun T0 z => by cases z; exact paT p hp
  generalize PySem.W.hideAll s.heap (hidL a tr (frs X.stack)) = base at fr st na go nT
  rw [hs] at fr
  cases tr with
  | none =>
    unfold noteFrame
    simp only [hf]
    refine wpAny_bind (wpAny_field he hd htr ?_)
    rw [if_neg (by decide)]
    exact wpAny_entryW hfr fr hf he st na hd (Array.getElem?_eq_some_iff.mp htr).1 h0 (by rw [hc]; exact go)
  | some T =>
    obtain ⟨h1, _, _, hTa, oT, ts, hT, hdT, h3⟩ := htr
    exact wpAny_noteFrame_onW hfr fr hf ⟨oe, vs, T, oT, ts, he, ⟨hc, h0⟩, hd, h1, nT T rfl, hTa, hT, hdT, h3⟩ st na go
end
end L2

namespace L2
open PySem PySem.Spec PyProof.Rows
/-- a try's body: other pins that last, another wish for exceptions -/
abbrev Cx.tr (X : Cx) (pn : List (Addr × Obj)) (xe : Value → Shared → Prop) : Cx := { X with pn := pn, xe := xe }
/-- an except suite -/
abbrev Cx.hnd (X : Cx) (a : Addr) : Cx := { X with A := X.A.mark (some (.ref a)), calm := false, xe := fun _ _ => False }
theorem Cx.Ok.tr {X : Cx} (ok : X.Ok) (pn : List (Addr × Obj)) (xe : Value → Shared → Prop) : (X.tr pn xe).Ok :=
  ⟨ok.mod, ok.kind, ok.glob, ok.blt, ok.above, ok.inj, ok.has, ok.cab, ok.hd, ok.frames, ok.stk, ok.exf, ok.bs, ok.bsz, ok.noex, ok.exfs, ok.funs, ok.frf⟩
theorem Cx.Ok.untr {X : Cx} {pn : List (Addr × Obj)} {xe : Value → Shared → Prop} (ok : (X.tr pn xe).Ok) : X.Ok :=
  ⟨ok.mod, ok.kind, ok.glob, ok.blt, ok.above, ok.inj, ok.has, ok.cab, ok.hd, ok.frames, ok.stk, ok.exf, ok.bs, ok.bsz, ok.noex, ok.exfs, ok.funs, ok.frf⟩
theorem Cx.Ok.hnd {X : Cx} (ok : X.Ok) (a : Addr) : (X.hnd a).Ok :=
  ⟨ok.mod, ok.kind, ok.glob, ok.blt, ok.above, ok.inj, ok.has, ok.cab, (fun z => nomatch z), ok.frames, ok.stk, ok.exf, ok.bs, ok.bsz, ok.noex, ok.exfs, ok.funs, ok.frf⟩
section
variable {X : Cx} {pins : List (Addr × Obj)} {σ : St} {H : Hp} {s : Shared} {a C T : Addr}
theorem Inv.tr (I : Inv X pins σ H s) (xe : Value → Shared → Prop) : Inv (X.tr (X.pn ++ pins) xe) [] σ H s := ⟨I.ok.tr _ _, I.os, I.bare, I.base, I.loc, I.cell, I.free, I.freeC, (fun p hp => I.pin p (by simpa using hp)), I.hok, I.len⟩
theorem Inv.untr {pins' : List (Addr × Obj)} {xe : Value → Shared → Prop} (I : Inv (X.tr (X.pn ++ pins) xe) pins' σ H s) : Inv X pins σ H s := ⟨I.ok.untr, I.os, I.bare, I.base, I.loc, I.cell, I.free, I.freeC, (fun p hp => I.pin p (List.mem_append_left _ hp)), I.hok, I.len⟩
theorem Inv.hnd (I : Inv X pins σ H s) (a : Addr) : Inv (X.hnd a) pins σ H s := ⟨I.ok.hnd a, I.os, I.bare, I.base, I.loc, I.cell, I.free, I.freeC, I.pin, I.hok, I.len⟩
theorem Inv.unhnd (ok : X.Ok) (I : Inv (X.hnd a) pins σ H s) : Inv X pins σ H s := ⟨ok, I.os, I.bare, I.base, I.loc, I.cell, I.free, I.freeC, I.pin, I.hok, I.len⟩
theorem SP.untr {D : Ends} {xe : Value → Shared → Prop} {f : Flow} {s' : Shared} (h : SP (X.tr (X.pn ++ pins) xe) [] D f s') : SP X pins D f s' := by
  cases f with
  | next => obtain ⟨σ', H', J, q⟩ := h; exact ⟨σ', H', J.untr, q⟩
  | brk => obtain ⟨σ', H', J, q⟩ := h; exact ⟨σ', H', J.untr, q⟩
  | cont => obtain ⟨σ', H', J, q⟩ := h; exact ⟨σ', H', J.untr, q⟩
  | ret u => obtain ⟨v, σ', H', J, r, q⟩ := h; exact ⟨v, σ', H', J.untr, r, q⟩
/-- a name is unbound -/
theorem unname_ok {M : Model} {A : Around} {E : Value → Shared → Prop} {i : Nat} {n : Str} {pos : Pos} {Q : Unit → Shared → Prop} (I : Inv X pins σ H s) (hN : X.N.Nodup) (hi : X.N[i]? = some n) (hk : X.env.scope.names.lookup n = some .local)
    (h : ∀ s', Inv X pins (σ.set i none) H s' → Q () s') : wpAny M A (do bindName X.env n .none; unbindBehindTheSuite X.env n pos) Q E s := by
  obtain ⟨m, hn, hl⟩ := id I.loc
  have hcls : (X.env.scope.kind == .class || (X.env.scope.kind == .module && X.env.locals != X.env.globals)) = false := by rw [I.ok.kind]; rfl
  refine wpAny_nameGoes_keeps hk hn hcls fun h' v hn' hs => h _ ?_
  obtain ⟨oL, _, _, hoL, _⟩ := id hn
  have neL : ∀ b o, X.s₀.heap.get? b = some o → b ≠ X.env.locals := fun b o e => Nat.ne_of_lt (Nat.lt_of_lt_of_le (Heap.lt_size e) I.ok.above)
  refine ⟨I.ok, I.os, I.bare, ⟨fun b o e n hb hx => ?_, fun b o e n hb hx => ?_, I.base.free, fun b o e hx => ?_, I.base.tups, I.base.frzs, I.base.tbls⟩, ⟨_, hn', fun j y v' e1 e2 e3 => ?_⟩, fun y c e => ?_, I.free, I.freeC, fun p hp => ?_, fun b ob e => ?_, by simpa using I.len⟩
  · exact (hs.2 b (neL b o e)).trans (I.base.keep b o e n hb hx)
  · obtain ⟨sl, e1⟩ := I.base.slot b o e n hb hx
    exact ⟨sl, (hs.2 b (neL b o e)).trans e1⟩
  · obtain ⟨o', e1⟩ := I.base.there b o e hx
    exact ⟨o', (hs.2 b (neL b o e)).trans e1⟩
  · by_cases hj : j = i
    · subst hj
      have hjσ : j < σ.length := by rw [I.len]; exact (List.getElem?_eq_some_iff.mp hi).1
      rw [List.getElem?_set_self hjσ] at e2
      cases e2
    · rw [List.getElem?_set_ne (Ne.symm hj)] at e2
      obtain ⟨u', r', q⟩ := hl j y v' e1 e2 e3
      refine ⟨u', r', ?_⟩
      rcases q with ⟨k, e⟩ | ⟨k, c, e, z⟩
      · refine .inl ⟨k, ?_⟩
        have : y ≠ n := fun e => hj (nodup_ix hN e1 (e ▸ hi))
        simp [this, e]
      · exact .inr ⟨k, c, e, z.sameBut hs (I.cne y c e)⟩
  · obtain ⟨w', z⟩ := I.cell y c e
    exact ⟨w', z.sameBut hs (I.cne y c e)⟩
  · obtain ⟨e, n, ne, nf, d⟩ := I.pin p hp
    exact ⟨(hs.2 p.1 ne).trans e, n, ne, nf, d⟩
  · refine (I.hok b ob e).stay (fun c w' hc q => (hs.2 c ?_).trans q) (fun _ q => q) fun _ _ q => q
    rintro rfl
    rcases hc with z | z
    · rw [← z, I.free] at e; cases e
    · rw [I.free] at z; cases z
/-- the exception is held from now on -/
theorem track_ok {oe : Obj} (I : Inv X pins σ H s) (hx : X.ex = []) (new : X.s₀.heap.get? a = none) (free : H a = none) (he : s.heap.get? a = some oe) (ap : Apart X a) (pa : ∀ p ∈ X.pn ++ pins, p.1 ≠ a) : Inv X pins σ (upd H a (.frz oe (.own 0))) s := by
  refine ⟨I.ok, I.os, I.bare, ⟨I.base.keep, I.base.slot, fun b o e n hb => ?_, I.base.there, fun b xs e => ?_, fun b o u e => ?_, fun b ps e => ?_⟩, I.loc, I.cell, ?_, fun x c e => ?_, fun p hp => ?_, fun b u e => ?_, I.len⟩
  · rw [upd_ne (fun z => by rw [z, new] at e; cases e)]; exact I.base.free b o e n hb
  · have := I.base.tups b xs e
    rw [upd_ne (fun z => by rw [z, free] at this; cases this)]; exact this
  · have := I.base.frzs b o u e
    rw [upd_ne (fun z => by rw [z, free] at this; cases this)]; exact this
  · obtain ⟨more, this⟩ := I.base.tbls b ps e
    exact ⟨more, by rw [upd_ne (fun z => by rw [z, free] at this; cases this)]; exact this⟩
  · rw [upd_ne (Ne.symm ap.1)]; exact I.free
  · rw [upd_ne (ap.2.1 x c e)]; exact I.freeC x c e
  · obtain ⟨e, n, ne, nf, d⟩ := I.pin p hp
    exact ⟨e, by rw [upd_ne (pa p hp)]; exact n, ne, nf, d⟩
  · by_cases z : b = a
    · subst z
      rw [upd_same] at e; cases e
      exact ⟨he, oe, he⟩
    · rw [upd_ne z] at e
      exact (I.hok b u e).stay (fun _ _ _ q => q) (fun c q => by rw [upd_ne (fun z => by rw [z, free] at q; cases q)]; exact q) fun c xs q => by rw [upd_ne (fun z => by rw [z, free] at q; cases q)]; exact q
/-- its flight is over (once more) -/
theorem flight_ok {M : Model} {A : Around} {Q : Unit → Shared → Prop} {E : Value → Shared → Prop} (I : Inv X pins σ H s) (hs : X.stack = X.env :: X.outer) (hx : X.ex = []) (L : Lies X.s₀.heap s.heap H a C (some T))
    (pa : ∀ p ∈ X.pn ++ pins, p.1 ≠ a ∧ p.1 ≠ T) (h : ∀ h' T', Inv X pins σ H { s with heap := h' } → Lies X.s₀.heap h' H a C (some T') → Q () { s with heap := h' }) : wpAny M A (setFlight (.ref a) none) Q E s := by
  obtain ⟨new, free, oe, vs, b0, he, hc, hd, h0, h1, n1, n2, ne, oT, ts, hT, hdT, h3⟩ := L
  have fr2 : s.heap.FunFrames (PySem.W.hideAll s.heap (hidL a (some T) (frs X.stack))) X.stack := PySem.W.funFrames_hide I.stack fun env he b hb => List.mem_cons_of_mem _ (List.mem_append_right _ (mem_frs he hb))
  refine wpAny_setFlight_noneW (base := PySem.W.hideAll s.heap (hidL a (some T) (frs X.stack))) (l := X.stack) (e := a) (cls := .ref C) (a0 := b0) (fl := .none) (fun b o e => PySem.W.of_hideAll _ e) fr2
    ⟨oe, vs, T, oT, ts, he, ⟨hc, h0⟩, hd, h1, PySem.W.hideAll_none _ (List.mem_cons_of_mem _ (List.mem_append_left _ (by simp))), ne, hT, hdT, h3⟩ fun h3 j1 j2 j3 j4 => ?_
  have j4' : ∀ b o, s.heap.get? b = some o → (∀ vs, o.data ≠ .fields vs) → ∃ sl, h3.get? b = some { o with slots := sl } := fun b o e q => ⟨o.slots, j4 b o e q⟩
  obtain ⟨u', hok', T', apT', n1', n2', ne', oe2, vs2, oT2, ts2, f1, f2, f3, f4, f5, f6, f7, f8⟩ := left_ok (tr := some T) I hs hx new free (fun T0 e => by cases e; exact ⟨n1, n2⟩) j1 j2 j3.at j4'
  exact h h3 T' (inv_noted (tr := some T) I hx hs u' hok' j1 j4' fun p hp => ⟨(pa p hp).1, fun T0 e => by cases e; exact (pa p hp).2⟩) ⟨new, free, oe2, vs2, b0, f1, f2, f4, f3, f5, n1', n2', ne', oT2, ts2, f6, f7, f8⟩
end
end L2

namespace L2
open PySem PySem.Spec PyProof.Rows
/-- behind an except suite its name is unbound -/
def Dh (i : Nat) (D : Ends) : Ends where
  nx := fun σ H => D.nx (σ.set i none) H
  rt := D.rt
  bk := fun σ H => D.bk (σ.set i none) H
  ct := fun σ H => D.ct (σ.set i none) H
/-- what is wanted of an exception that the body meets: the suite takes it -/
def hndX (K : PySem.W.Frag) (Dc : Addr) (i : Nat) (th : TS) (D : Ends) : X1 := fun σ c H => ∃ C, c = .ref C ∧ PySem.W.exmOne K (.ref C) (.ref Dc) = some true ∧ ∀ a oe, H a = none → oe.cls = .ref C → th (Dh i D) (σ.set i (some (.ref a))) (upd H a (.frz oe (.own 0)))
/-- try: body except Dc as name: suite -/
def tTry (K : PySem.W.Frag) (Dc : Addr) (i : Nat) (tb : X1 → TS) (th : TS) : TS := fun D σ H => tb (hndX K Dc i th D) D σ H
theorem ps_try {X : Cx} {Dc : Addr} {i : Nat} {n x : Str} {np hpos pos : Pos} {body suite : List Stmt} {b₀ : Stmt} {tb : X1 → TS} {th : TS} (hs : X.stack = X.env :: X.outer) (hf : X.env.frame = some X.env.locals) (hx : X.ex = []) (hN : X.N.Nodup) (hi : X.N[i]? = some n)
    (hk : X.env.scope.names.lookup n = some .local) (hg : Gl X x) (hm : X.mg x = some (.ref Dc)) (hb : ∀ (pn : List (Addr × Obj)) (xe : Value → Shared → Prop) (E1 : X1), Takes (X.tr pn xe) E1 → PSs (X.tr pn xe) body (tb E1)) (hh : ∀ a, PSs (X.hnd a) (b₀ :: suite) th)
    (hdb : (x == ("__debug__" : Str)) = false := by decide) : PS X (.Try body [.ExceptHandler (some (.Name x np)) (some n) (b₀ :: suite) hpos] [] [] pos) (tTry X.K Dc i tb th) := by
  intro pins s σ H D I h
  have tk : Takes (X.tr (X.pn ++ pins) (fun e s' => ∃ pins' σ' H' a C tr, e = .ref a ∧ Inv X pins σ' H' s' ∧ Lies X.s₀.heap s'.heap H' a C tr ∧ Apart (X.tr (X.pn ++ pins') X.xe) a ∧ (∀ p ∈ X.pn ++ pins, p.1 ≠ a) ∧ (∀ T, tr = some T → ∀ p ∈ X.pn ++ pins, p.1 ≠ T) ∧ hndX X.K Dc i th D σ' (.ref C) H'))
      (hndX X.K Dc i th D) := fun pins' σ' H' s' a C tr I' L ap apT q => ⟨[], σ', H', a, C, tr, rfl, I'.untr, L, ⟨ap.1, ap.2.1, fun p hp => ap.2.2 p (by
        have hp : p ∈ X.pn ++ [] := hp
        rw [List.append_nil] at hp
        exact List.mem_append_left _ hp)⟩, ap.2.2, fun T e => (apT T e).2.2, q⟩
  refine wpAny_Try_except (wpAny_mono (hb _ _ _ tk [] s σ H D (I.tr _) h) (fun f s1 h1 => ?_) fun e s1 h1 => ?_)
  · have h2 := SP.untr h1
    cases f with
    | next => exact wpAny_execs_nil h2
    | brk => exact h2
    | cont => exact h2
    | ret u => exact h2
  · obtain ⟨pins', σ', H', a, C, tr, rfl, I1, L, ap, pa, paT, C', ec, em, q⟩ := h1
    cases ec
    refine note_ok I1 hs hf hx L (fun p hp => ⟨pa p hp, fun T e => paT T e p hp⟩) fun h' T I2 L2 paT2 => ?_
    refine wpAny_handleBy_cons (codeAny_handlers_test ?_) (by intro q; cases q)
    refine ld_glob (X := X.hnd a) (I2.hnd a) hg hm ?_ hdb
    obtain ⟨_, _, oe, vs, a0, he, hc, _⟩ := id L2
    have LT : PySem.W.Looks (model X.prog X.w) h' (typeOf (.ref a)) (.ref C) := hc ▸ (PySem.W.Looks.ld he).andThen .now
    refine PySem.W.exm_one (K := X.K) I2.kIn LT em _ _ _ _ (fun _ _ e => e) ?_
    refine codeAny_handlers_suite_as ?_
    refine flight_ok I2 hs hx L2 (fun p hp => ⟨pa p hp, paT2 p hp⟩) fun h3 T' I3 L3 => ?_
    obtain ⟨new, free, oe3, vs3, a3, he3, hc3, _⟩ := L3
    have I4 := track_ok I3 hx new free he3 ⟨ap.1, ap.2.1, fun p hp => pa p (List.mem_append_left _ hp)⟩ pa
    refine store_ok (X := X.hnd a) (I4.hnd a) hN hi (.inl hk) (v := .ref a) (u := .ref a) rfl (fun s5 I5 => ?_) (.inr hk)
    refine wpAny_mono (hh a pins s5 _ _ (Dh i D) I5 (q a oe3 free hc3)) (fun f s6 h6 => ?_) fun e s6 z => z.elim
    cases f with
    | next => obtain ⟨σ6, H6, J, q6⟩ := h6; exact unname_ok (J.unhnd I.ok) hN hi hk fun s7 I7 => ⟨_, H6, I7, q6⟩
    | brk => obtain ⟨σ6, H6, J, q6⟩ := h6; exact unname_ok (J.unhnd I.ok) hN hi hk fun s7 I7 => ⟨_, H6, I7, q6⟩
    | cont => obtain ⟨σ6, H6, J, q6⟩ := h6; exact unname_ok (J.unhnd I.ok) hN hi hk fun s7 I7 => ⟨_, H6, I7, q6⟩
    | ret u => obtain ⟨v, σ6, H6, J, r, q6⟩ := h6; exact unname_ok (J.unhnd I.ok) hN hi hk fun s7 I7 => ⟨v, _, H6, I7, r, q6⟩
end L2

namespace L2
open PySem PySem.Spec PyProof.Rows PySem.W
structure XAt (K : Frag) (C : Addr) : Prop where
  ga : findIn K (.ref C) "__getattribute__" = some (some (.builtin "BaseException.__getattribute__"))
  gt : findIn K (.ref C) "__getattr__" = some none
  cl : findIn K (.ref C) "__class__" = some (some (.builtin "object.__class__"))
  ge : specialIn K (.builtin "object.__class__") "__get__" = some (some (.builtin "getset_descriptor.__get__"))
  tk : takesIn K (.builtin "object.__class__") = some true
  mo : mroIn K C (.type "object") = some true
  be : subIn K (.ref C) (.type "BaseException") = some true
theorem ga_bind (self : Value) : bindSpecial (.builtin "BaseException.__getattribute__") self = pure (.builtin "BaseException.__getattribute__", [self]) := by
  have hop : withoutEnding? "BaseException.__getattribute__" "#opaque" = none := by decide +kernel
  have hdat : withoutEnding? "BaseException.__getattribute__" "#data" = none := by decide +kernel
  have hk : builtinKind "BaseException.__getattribute__" = some .slot := by decide +kernel
  simp only [bindSpecial, typeOf, builtinType, hop, hdat, hk]; rfl
/-- the exception's object: its class, no class itself -/
def ExAt (h : Heap) (a C : Addr) : Prop := ∃ o, h.get? a = some o ∧ o.cls = .ref C
theorem ExAt.type {M : Model} {h : Heap} {a C : Addr} (I : ExAt h a C) : Looks M h (typeOf (.ref a)) (.ref C) := by
  obtain ⟨o, h1, h2⟩ := I
  exact h2 ▸ (Looks.ld h1).andThen .now
open Builtin.ObjectAttr in
theorem xc_find {M : Model} {K : Frag} {h : Heap} {a C : Addr} (c : XAt K C) (X : K.In h) : Looks M h (find (.ref a) (.ref C) "__class__") (.bind (.builtin "getset_descriptor.__get__") (.builtin "object.__class__")) := by
  have L1 := looks_findIn (M := M) X c.cl
  have L2 := looks_specialIn (M := M) X c.ge
  have L3 := looks_takesIn (M := M) X c.tk
  refine L1.andThen (L2.andThen ?_)
  exact (show Looks M h (dataDescriptor? (some (.builtin "object.__class__")) (some (.builtin "getset_descriptor.__get__"))) (some (.builtin "getset_descriptor.__get__", .builtin "object.__class__")) from L3.andThen .now).andThen (Looks.tag .now)
section
variable {prog : Program} {w : World} {A : Around} {E : Value → Shared → Prop} {s : Shared} {K : Frag} {a C : Addr}
open Builtin Builtin.ObjectAttr Builtin.Getset_descriptor in
theorem xc_get {R : Result → Shared → Prop} {tp : Value} (X : K.In s.heap) (I : ExAt s.heap a C) (hm : mroIn K C (.type "object") = some true)
    (h : R (.ok (.ret (.ref C))) s) : codeAny (model prog w) A (.call (.builtin "getset_descriptor.__get__") ⟨[.builtin "object.__class__", .ref a, tp], []⟩) R s := by
  obtain ⟨hh, g, dr, t, os⟩ := s
  have L0 := I.type (M := model prog w)
  have L1 := looks_mroIn (M := model prog w) X hm
  refine codeAny_call_builtin KF.slot_gs.plain KF.entry_gs (KF.slot_gs.check _ _ _ _ _ _ _ _ KF.type_class (KF.args_gs _ _ _) ?_)
  unfold Builtin.«getset_descriptor.__get__» descrGet
  rw [dga_obj]
  refine wpAny_bind (wpAny_pure ?_)
  unfold descrGetter descrCheckInstance descrNameAndClass isInstance
  simp only [KF.owner_class]
  repeat lk
  refine ⟨Code.quiet_builtin _ (by decide +kernel), codeAny_builtin KF.entry_class ?_⟩
  unfold Builtin.«object.__class__» shownTypeOf
  repeat lk
  exact h
theorem xc_entry {tk : Tok} {Q : Fin → Shared → Prop} (c : XAt K C) (X : K.In s.heap) (I : ExAt s.heap a C) (h : Q (.done (.ret (.ref C))) s) :
    wpAny (model prog w) A (Builtin.«object.__getattribute__» ⟨[.ref a, .str "__class__" tk], []⟩) Q E s := by
  obtain ⟨hh, g, d, t, os⟩ := s
  have L0 := I.type (M := model prog w)
  have L1 := xc_find (M := model prog w) (a := a) c X
  unfold Builtin.«object.__getattribute__»
  repeat (first | with_reducible refine wpAny_call ?_ | lk)
  refine xc_get X I c.mo ?_
  repeat lk
  exact h
theorem xc_check {Q : Unit → Shared → Prop} {nameV : Value} (c : XAt K C) (X : K.In s.heap) (I : ExAt s.heap a C) (hq : Q () s) : wpAny (model prog w) A (checkBuiltinCall "BaseException.__getattribute__" ⟨[.ref a, nameV], []⟩) Q E s := by
  obtain ⟨hh, g, d, t, os⟩ := s
  have L0 := I.type (M := model prog w)
  have L1 := looks_subIn (M := model prog w) X c.be
  have hk : builtinKind "BaseException.__getattribute__" = some .slot := by decide +kernel
  have hsplit : splitId "BaseException.__getattribute__" = some ("BaseException", "__getattribute__") := by decide +kernel
  have ha := F.args_bexc_ga (.ref a) nameV
  simp only [checkBuiltinCall, hk, hsplit]
  refine wpAny_bind ?_
  unfold isInstance
  repeat lk
  exact hq
theorem xc_by {tk : Tok} {Q : Value → Shared → Prop} (c : XAt K C) (X : K.In s.heap) (I : ExAt s.heap a C) (h : Q (.ref C) s) : wpAny (model prog w) A (getAttrBy (.ref a) (.str "__class__" tk) false) Q E s := by
  obtain ⟨hh, g, d, t, os⟩ := s
  have L0 := I.type (M := model prog w)
  have L1 := looks_findIn (M := model prog w) X c.ga
  have L2 := looks_findIn (M := model prog w) X c.gt
  have f3 := ga_bind (.ref a)
  unfold getAttrBy
  repeat (first | with_reducible refine wpAny_call ?_ | with_reducible refine wpAny_attempt ?_ | lk)
  refine codeAny_call_builtin (by decide +kernel) F.entry_bexc_ga (xc_check c X I (xc_entry c X I ?_))
  exact handed_on rfl h
theorem xc_attr {Q : Option Value → Shared → Prop} (c : XAt K C) (X : K.In s.heap) (I : ExAt s.heap a C) (h : Q (some (.ref C)) { s with toks := s.toks + 1 }) : wpAny (model prog w) A (getAttr? (.ref a) "__class__") Q E s := by
  unfold getAttr? getAttrBy?
  refine wpAny_bind (wpAny_mkText (wpAny_bind (wpAny_attempt (xc_by (s := { s with toks := s.toks + 1 }) c X I ?_))))
  exact wpAny_pure h
end
/-- a held exception, for isinstance -/
theorem kitx_exc {K : Frag} {a C : Addr} (c : XAt K C) (hcl : (clsIn K C).isSome = true) : KitX K (.ref a) (.ref C) (fun h => ExAt h a C) where
  ty := fun _ _ _ I => I.type
  it := fun _ _ X _ => by
    unfold clsIn at hcl
    split at hcl
    · rename_i c' d' cd' sl' ho
      intro A' Q' E' s' k q
      unfold isType loadHead
      exact wpAny_bind (wpAny_loadPart (k _ _ (X _ _ ho)) (wpAny_pure q))
    · cases hcl
  ne := fun h tp dd its n sl X htp => by
    refine Bool.eq_false_iff.mpr fun q => ?_
    have e : C = tp := Value.ref.inj (beq_iff_eq.mp q)
    subst e
    unfold clsIn at hcl
    split at hcl
    · rename_i c' d' cd' sl' ho
      have z := (X _ _ ho).symm.trans htp
      cases z
    · cases hcl
  ca := fun X I k => xc_attr c X I k
end L2

namespace L2
open PySem PySem.Spec PyProof.Rows
/-- a class as a value -/
def clsV : V → Option Value
  | .ref D => some (.ref D)
  | .ty T => some (.type T)
  | _ => none
theorem clsV_rel {v : V} {u c : Value} (h : clsV v = some c) (r : RelV v u) : u = c := by
  cases v with
  | ref D => cases h; exact r
  | ty T => cases h; exact r
  | _ => cases h
theorem clsV_all : ∀ {vs : List V} {us cs : List Value}, vs.map clsV = cs.map some → Vals vs us → us = cs
  | [], _, [], _, .nil => rfl
  | [], _, _ :: _, h, _ => by cases h
  | _ :: _, _, [], h, _ => by cases h
  | v :: vs, _, c :: cs, h, .cons r t => by
    rw [List.map_cons, List.map_cons] at h
    obtain ⟨h1, h2⟩ := List.cons.inj h
    rw [clsV_rel h1 r, clsV_all h2 t]
/-- what is held of a class of exceptions, for isinstance -/
structure XHd (K : PySem.W.Frag) (C : Addr) : Prop where
  at_ : XAt K C
  cls : (PySem.W.clsIn K C).isSome = true
def HeldX (K : PySem.W.Frag) (H : Hp) (a C : Addr) : Prop := ∃ oe, H a = some (.frz oe (.own 0)) ∧ oe.cls = .ref C
def uInstX (K : PySem.W.Frag) : List V → Hp → VK → Prop := fun xs H Q => ∃ a C v, xs = [.ref a, v] ∧ HeldX K H a C ∧ XHd K C ∧
  ((∃ u b, clsV v = some u ∧ PySem.W.kitOne K (.ref C) u = some b ∧ Q (.bl b) H) ∨ (∃ tp ws us b, v = .ref tp ∧ SqT K H tp ws ∧ ws.map clsV = us.map some ∧ PySem.W.kitAny K (.ref C) us = some b ∧ Q (.bl b) H))
theorem call_instX {X : Cx} : CallR X (.builtin "isinstance") (uInstX X.K) := by
  intro pins s σ H xs us Q I r h
  obtain ⟨a, C, v, rfl, ⟨oe, ha, hc⟩, hd, h⟩ := h
  obtain ⟨u1, u2, rfl, r1, r2⟩ := Vals.two r
  cases (show u1 = Value.ref a from r1)
  obtain ⟨he, _⟩ := (show ObjOk X.prog X.w H s.heap a (.frz oe (.own 0)) from I.hok a _ ha)
  have ex : ExAt s.heap a C := ⟨oe, he, hc⟩
  rcases h with ⟨c, b, e, k, q⟩ | ⟨tp, ws, cs, b, rfl, ht, e, k, q⟩
  · cases clsV_rel e r2
    exact PySem.W.kia_one (kitx_exc hd.at_ hd.cls) I.kIn ex k (fun z => nomatch z) fun tk => ⟨.bl b, H, I.tok _, rfl, q⟩
  · cases (show u2 = Value.ref tp from r2)
    obtain ⟨its, rv, ⟨o, h1, h2, n, h3⟩, _⟩ := I.tuple ht
    cases clsV_all e rv
    obtain ⟨oc, od, odt, osl⟩ := o
    dsimp only at h2 h3
    subst h2 h3
    exact PySem.W.kia_tup (kitx_exc hd.at_ hd.cls) I.kIn ex h1 k (fun z => nomatch z) fun tk => ⟨.bl b, H, I.tok _, rfl, q⟩
end L2

namespace L3
open PySem L2
/-! ### values with their tuples inside; a heap of what can be changed -/
inductive Y where
  | non | bl (b : Bool) | int (i : Int) | str (x : Str) | ref (a : Addr) | ty (n : String) | cd (kvs : List (Str × Str)) | tup (ys : List Y) | sq (ys : List Y)
inductive LO where
  | lst (ys : List Y) | dct (kvs : List (Key × Y)) | ins (C : Addr) (fs : List (Str × Y)) | exc (C : Addr)
abbrev LHp := Addr → Option LO
def updL (L : LHp) (a : Addr) (o : LO) : LHp := fun b => if b = a then some o else L b
theorem updL_same {L : LHp} {a : Addr} {o : LO} : updL L a o a = some o := by unfold updL; rw [if_pos rfl]
theorem updL_ne {L : LHp} {a b : Addr} {o : LO} (h : b ≠ a) : updL L a o b = L b := by unfold updL; rw [if_neg h]
theorem updL_updL {L : LHp} {a : Addr} {o u : LO} : updL (updL L a o) a u = updL L a u := by
  funext b; unfold updL; split <;> rfl
theorem neL {L : LHp} {a b : Addr} {o : LO} (h : L a = some o) (h' : L b = none) : a ≠ b := by
  intro e; subst e; rw [h] at h'; cases h'
structure G3 where
  K : PySem.W.Frag
  P : Program
  w : World
abbrev _root_.L2.Cx.g3 (X : Cx) : G3 := ⟨X.K, X.prog, X.w⟩
/-- a list that nobody changes: the script, a list of the top -/
def SqF (K : PySem.W.Frag) (H : Hp) (a : Addr) (xs : List V) : Prop := (∃ o, H a = some (.frz o (.lst xs))) ∨
  ∃ (o : Obj) (its : Array Value) (n : Nat), K.lookup a = some o ∧ o.cls = .type "list" ∧ o.dict = none ∧ o.data = .seq its n ∧ its.size ≤ sizeLine ∧ Vals xs its.toList
theorem SqF.sq {K : PySem.W.Frag} {H : Hp} {a : Addr} {xs : List V} (h : SqF K H a xs) : SqL K H a xs := by
  rcases h with ⟨o, h⟩ | h
  · exact .inl (.inr ⟨o, h⟩)
  · exact .inr h
mutual
def RV (G : G3) (H : Hp) : Y → V → Prop
  | .non, v => v = .non
  | .bl b, v => v = .bl b
  | .int i, v => v = .int i
  | .str x, v => v = .str x
  | .ref a, v => v = .ref a
  | .ty n, v => v = .ty n
  | .cd kvs, v => ∃ a, v = .ref a ∧ KD G.K G.P G.w a (kvs.map fun p => (Sum.inr p.1, V.str p.2))
  | .tup ys, v => ∃ a xs, v = .ref a ∧ SqT G.K H a xs ∧ RVs G H ys xs
  | .sq ys, v => ∃ a xs, v = .ref a ∧ SqF G.K H a xs ∧ RVs G H ys xs
def RVs (G : G3) (H : Hp) : List Y → List V → Prop
  | [], xs => xs = []
  | y :: ys, xs => ∃ x xs', xs = x :: xs' ∧ RV G H y x ∧ RVs G H ys xs'
end
/-- what never changes stays -/
def Imm : HO → Bool
  | .tup _ => true
  | .frz _ _ => true
  | _ => false
def TSt (H H' : Hp) : Prop := ∀ a u, Imm u = true → H a = some u → H' a = some u
theorem TSt.refl (H : Hp) : TSt H H := fun _ _ _ h => h
theorem TSt.trans {H H1 H2 : Hp} (a : TSt H H1) (b : TSt H1 H2) : TSt H H2 := fun c u i h => b c u i (a c u i h)
theorem TSt.new {H : Hp} {p : Addr} {o : HO} (h : H p = none) : TSt H (upd H p o) := fun _ _ _ q => by rw [upd_ne (ne_of_none q h)]; exact q
theorem TSt.lst {H : Hp} {p : Addr} {zs : List V} {o : HO} (h : H p = some (.lst zs)) : TSt H (upd H p o) := fun a u i q => by
  rw [upd_ne ?_]; exact q
  rintro rfl
  rw [h] at q; cases q; cases i
theorem SqT.ts {K : PySem.W.Frag} {H H' : Hp} {a : Addr} {xs : List V} (h : SqT K H a xs) (t : TSt H H') : SqT K H' a xs := by
  rcases h with (h | ⟨o, h⟩) | h
  · exact .inl (.inl (t _ _ rfl h))
  · exact .inl (.inr ⟨o, t _ _ rfl h⟩)
  · exact .inr h
theorem SqF.ts {K : PySem.W.Frag} {H H' : Hp} {a : Addr} {xs : List V} (h : SqF K H a xs) (t : TSt H H') : SqF K H' a xs := by
  rcases h with ⟨o, h⟩ | h
  · exact .inl ⟨o, t _ _ rfl h⟩
  · exact .inr h
mutual
theorem RV.ts {G : G3} {H H' : Hp} (t : TSt H H') : ∀ {y : Y} {v : V}, RV G H y v → RV G H' y v
  | .non, _, h => h
  | .bl _, _, h => h
  | .int _, _, h => h
  | .str _, _, h => h
  | .ref _, _, h => h
  | .ty _, _, h => h
  | .cd _, _, h => h
  | .tup _, _, ⟨a, xs, e, s, r⟩ => ⟨a, xs, e, SqT.ts s t, RVs.ts t r⟩
  | .sq _, _, ⟨a, xs, e, s, r⟩ => ⟨a, xs, e, s.ts t, RVs.ts t r⟩
theorem RVs.ts {G : G3} {H H' : Hp} (t : TSt H H') : ∀ {ys : List Y} {xs : List V}, RVs G H ys xs → RVs G H' ys xs
  | [], _, h => h
  | _ :: _, _, ⟨x, xs', e, r, s⟩ => ⟨x, xs', e, RV.ts t r, RVs.ts t s⟩
end
theorem RVs.length {G : G3} {H : Hp} : ∀ {ys : List Y} {xs : List V}, RVs G H ys xs → ys.length = xs.length
  | [], _, h => by cases h; rfl
  | _ :: _, _, ⟨x, xs', e, _, s⟩ => by subst e; simp [RVs.length s]
theorem RVs.get {G : G3} {H : Hp} : ∀ {ys : List Y} {xs : List V} {i : Nat} {y : Y}, RVs G H ys xs → ys[i]? = some y → ∃ x, xs[i]? = some x ∧ RV G H y x
  | [], _, _, _, _, h => by simp at h
  | _ :: _, _, 0, _, ⟨x, xs', e, r, _⟩, h => by subst e; simp at h; subst h; exact ⟨x, rfl, r⟩
  | _ :: _, _, i + 1, _, ⟨x, xs', e, _, s⟩, h => by
    subst e
    obtain ⟨x', q, r⟩ := RVs.get (i := i) s (by simpa using h)
    exact ⟨x', by simpa using q, r⟩
theorem RVs.app {G : G3} {H : Hp} : ∀ {ys zs : List Y} {xs us : List V}, RVs G H ys xs → RVs G H zs us → RVs G H (ys ++ zs) (xs ++ us)
  | [], _, _, _, h, q => by cases h; exact q
  | _ :: _, _, _, _, ⟨x, xs', e, r, s⟩, q => by subst e; exact ⟨x, xs' ++ _, rfl, r, RVs.app s q⟩
theorem RVs.one {G : G3} {H : Hp} {y : Y} {x : V} (r : RV G H y x) : RVs G H [y] [x] := ⟨x, [], rfl, r, rfl⟩
/-- what stands in the heap -/
def RO (G : G3) (H : Hp) (a : Addr) : LO → Prop
  | .lst ys => ∃ xs, H a = some (.lst xs) ∧ RVs G H ys xs
  | .dct kvs => ∃ xs, H a = some (.dK xs) ∧ Paired (fun (p : Key × Y) (q : Key × V) => p.1 = q.1 ∧ RV G H p.2 q.2) kvs xs
  | .ins C fs => ∃ dx xs, H a = some (.ins C dx xs) ∧ Paired (fun (p : Str × Y) (q : Str × V) => p.1 = q.1 ∧ RV G H p.2 q.2) fs xs
  | .exc C => HeldX G.K H a C
def RelH (G : G3) (H : Hp) (L : LHp) : Prop := ∀ a o, L a = some o → RO G H a o
theorem RO.ex {G : G3} {H : Hp} {a : Addr} : ∀ {o : LO}, RO G H a o → ∃ u, H a = some u
  | .lst _, ⟨_, h, _⟩ => ⟨_, h⟩
  | .dct _, ⟨_, h, _⟩ => ⟨_, h⟩
  | .ins _ _, ⟨_, _, h, _⟩ => ⟨_, h⟩
  | .exc _, ⟨_, h, _⟩ => ⟨_, h⟩
theorem RelH.none {G : G3} {H : Hp} {L : LHp} (h : RelH G H L) {p : Addr} (hp : H p = none) : L p = none := by
  cases e : L p with
  | none => rfl
  | some o => obtain ⟨u, q⟩ := (h p o e).ex; rw [hp] at q; cases q
theorem RO.keep {G : G3} {H H' : Hp} (t : TSt H H') {a : Addr} (e : H' a = H a) : ∀ {o : LO}, RO G H a o → RO G H' a o
  | .lst _, ⟨xs, h, r⟩ => ⟨xs, e.trans h, r.ts t⟩
  | .dct _, ⟨xs, h, r⟩ => ⟨xs, e.trans h, Paired.mapP r fun _ _ ⟨a, b⟩ => ⟨a, b.ts t⟩⟩
  | .ins _ _, ⟨dx, xs, h, r⟩ => ⟨dx, xs, e.trans h, Paired.mapP r fun _ _ ⟨a, b⟩ => ⟨a, b.ts t⟩⟩
  | .exc _, ⟨o, h, c⟩ => ⟨o, e.trans h, c⟩
/-- a new thing that is not told -/
theorem RelH.skip {G : G3} {H : Hp} {L : LHp} (h : RelH G H L) {p : Addr} {o : HO} (hp : H p = .none) : RelH G (upd H p o) L := fun a u e => by
  obtain ⟨x, q⟩ := (h a u e).ex
  exact (h a u e).keep (TSt.new hp) (upd_ne (ne_of_none q hp))
/-- a new list -/
theorem RelH.newL {G : G3} {H : Hp} {L : LHp} (h : RelH G H L) {p : Addr} {ys : List Y} {xs : List V} (hp : H p = .none) (r : RVs G H ys xs) : RelH G (upd H p (.lst xs)) (updL L p (.lst ys)) := fun a u e => by
  by_cases c : a = p
  · subst c
    rw [updL_same] at e; cases e
    exact ⟨xs, upd_same, r.ts (TSt.new hp)⟩
  · rw [updL_ne c] at e
    exact (h a u e).keep (TSt.new hp) (upd_ne c)
/-- a list changed -/
theorem RelH.setL {G : G3} {H : Hp} {L : LHp} (h : RelH G H L) {p : Addr} {ys : List Y} {xs zs : List V} (hp : H p = some (.lst zs)) (r : RVs G H ys xs) : RelH G (upd H p (.lst xs)) (updL L p (.lst ys)) := fun a u e => by
  by_cases c : a = p
  · subst c
    rw [updL_same] at e; cases e
    exact ⟨xs, upd_same, r.ts (TSt.lst hp)⟩
  · rw [updL_ne c] at e
    exact (h a u e).keep (TSt.lst hp) (upd_ne c)
def LSub (L L' : LHp) : Prop := ∀ a o, L a = some o → L' a = some o
theorem LSub.refl (L : LHp) : LSub L L := fun _ _ h => h
theorem LSub.trans {L L1 L2 : LHp} (a : LSub L L1) (b : LSub L1 L2) : LSub L L2 := fun c o h => b c o (a c o h)
theorem LSub.new {L : LHp} {p : Addr} {o : LO} (h : L p = none) : LSub L (updL L p o) := fun a u e => by rw [updL_ne (neL e h)]; exact e
theorem RelH.sub {G : G3} {H : Hp} {L L' : LHp} (h : RelH G H L') (s : LSub L L') : RelH G H L := fun a o e => h a o (s a o e)
/-! ### frames -/
abbrev St3 := List (Option Y)
structure RelS (G : G3) (H : Hp) (σ : St) (τ : St3) : Prop where
  len : σ.length = τ.length
  get : ∀ (i : Nat) y, τ[i]? = some (some y) → ∃ v, σ[i]? = some (some v) ∧ RV G H y v
theorem RelS.ts {G : G3} {H H' : Hp} {σ : St} {τ : St3} (h : RelS G H σ τ) (t : TSt H H') : RelS G H' σ τ :=
  ⟨h.len, fun i y e => let ⟨v, a, b⟩ := h.get i y e; ⟨v, a, b.ts t⟩⟩
theorem RelS.set {G : G3} {H : Hp} {σ : St} {τ : St3} (h : RelS G H σ τ) {i : Nat} {v : V} {y : Y} (r : RV G H y v) : RelS G H (σ.set i (some v)) (τ.set i (some y)) := by
  refine ⟨by simp [h.len], fun j z e => ?_⟩
  by_cases c : i = j
  · subst c
    have hi : i < τ.length := by
      by_cases q : i < τ.length
      · exact q
      · rw [List.getElem?_eq_none (by simp; omega)] at e; cases e
    rw [List.getElem?_set_self hi] at e
    cases e
    exact ⟨v, List.getElem?_set_self (by rw [h.len]; exact hi), r⟩
  · rw [List.getElem?_set_ne c] at e ⊢
    exact h.get j z e
theorem RelS.more {G : G3} {H : Hp} {σ : St} {τ : St3} (h : RelS G H σ τ) (n : Nat) : RelS G H (σ ++ List.replicate n none) (τ ++ List.replicate n none) := by
  refine ⟨by simp [h.len], fun j z e => ?_⟩
  by_cases c : j < τ.length
  · rw [List.getElem?_append_left c] at e
    rw [List.getElem?_append_left (by rw [h.len]; exact c)]
    exact h.get j z e
  · rw [List.getElem?_append_right (by omega), List.getElem?_replicate] at e
    split at e <;> cases e
/-- what the reader knows of a slot may be forgotten -/
def get3 : St3 → Nat → Option Y
  | [], _ => none
  | o :: _, 0 => o
  | _ :: r, i + 1 => get3 r i
theorem get3_eq : ∀ (τ : St3) (i : Nat) {y : Y}, get3 τ i = some y → τ[i]? = some (some y)
  | [], _, _, h => by cases h
  | o :: _, 0, _, h => by simp [get3] at h; simp [h]
  | _ :: r, i + 1, _, h => by simp only [List.getElem?_cons_succ]; exact get3_eq r i h
/-! ### readings -/
abbrev YK := Y → LHp → Prop
abbrev TE3 := St3 → LHp → YK → Prop
abbrev TT3 := St3 → LHp → (Bool → LHp → Prop) → Prop
abbrev TA3 := St3 → LHp → (List Y → LHp → Prop) → Prop
structure Ends3 where
  nx : St3 → LHp → Prop
  rt : YK
  bk : St3 → LHp → Prop := fun _ _ => False
  ct : St3 → LHp → Prop := fun _ _ => False
abbrev TS3 := Ends3 → St3 → LHp → Prop
abbrev TG3 := Y → St3 → LHp → (St3 → LHp → Prop) → Prop
abbrev TGs3 := List Y → St3 → LHp → (St3 → LHp → Prop) → Prop
abbrev TI3 := St3 → LHp → (List Y → (LHp → Prop) → LHp → Prop) → Prop
abbrev R23 := Y → Y → LHp → YK → Prop
/-- behind a step -/
def Aft (G : G3) (H : Hp) (Q3 : YK) (Q : VK) : Prop := ∀ v H' y L', TSt H H' → RelH G H' L' → RV G H' y v → Q3 y L' → Q v H'
def AftB (G : G3) (H : Hp) (Q3 : Bool → LHp → Prop) (Q : Bool → Hp → Prop) : Prop := ∀ b H' L', TSt H H' → RelH G H' L' → Q3 b L' → Q b H'
def AftA (G : G3) (H : Hp) (Q3 : List Y → LHp → Prop) (Q : List V → Hp → Prop) : Prop := ∀ vs H' ys L', TSt H H' → RelH G H' L' → RVs G H' ys vs → Q3 ys L' → Q vs H'
def AftS (G : G3) (H : Hp) (Q3 : St3 → LHp → Prop) (Q : St → Hp → Prop) : Prop := ∀ σ H' τ L', TSt H H' → RelS G H' σ τ → RelH G H' L' → Q3 τ L' → Q σ H'
theorem Aft.ts {G : G3} {H H' : Hp} {Q3 : YK} {Q : VK} (h : Aft G H Q3 Q) (t : TSt H H') : Aft G H' Q3 Q := fun v H2 y L' t2 => h v H2 y L' (t.trans t2)
theorem AftB.ts {G : G3} {H H' : Hp} {Q3 : Bool → LHp → Prop} {Q : Bool → Hp → Prop} (h : AftB G H Q3 Q) (t : TSt H H') : AftB G H' Q3 Q := fun v H2 L' t2 => h v H2 L' (t.trans t2)
theorem AftS.ts {G : G3} {H H' : Hp} {Q3 : St3 → LHp → Prop} {Q : St → Hp → Prop} (h : AftS G H Q3 Q) (t : TSt H H') : AftS G H' Q3 Q := fun v H2 y L' t2 => h v H2 y L' (t.trans t2)
structure AftD (G : G3) (H : Hp) (D3 : Ends3) (D : Ends) : Prop where
  nx : AftS G H D3.nx D.nx
  rt : Aft G H D3.rt D.rt
  bk : AftS G H D3.bk D.bk
  ct : AftS G H D3.ct D.ct
theorem AftD.ts {G : G3} {H H' : Hp} {D3 : Ends3} {D : Ends} (h : AftD G H D3 D) (t : TSt H H') : AftD G H' D3 D := ⟨h.nx.ts t, h.rt.ts t, h.bk.ts t, h.ct.ts t⟩
def upE (G : G3) (t : TE3) : TE := fun σ H Q => ∃ τ L Q3, RelS G H σ τ ∧ RelH G H L ∧ t τ L Q3 ∧ Aft G H Q3 Q
def upT (G : G3) (t : TT3) : TT := fun σ H Q => ∃ τ L Q3, RelS G H σ τ ∧ RelH G H L ∧ t τ L Q3 ∧ AftB G H Q3 Q
def upA (G : G3) (t : TA3) : TA := fun σ H Q => ∃ τ L Q3, RelS G H σ τ ∧ RelH G H L ∧ t τ L Q3 ∧ AftA G H Q3 Q
def upS (G : G3) (t : TS3) : L2.TS := fun D σ H => ∃ τ L D3, RelS G H σ τ ∧ RelH G H L ∧ t D3 τ L ∧ AftD G H D3 D
def upG (G : G3) (g : TG3) : TG := fun v σ H Q => ∃ y τ L Q3, RV G H y v ∧ RelS G H σ τ ∧ RelH G H L ∧ g y τ L Q3 ∧ AftS G H Q3 Q
def upGs (G : G3) (g : TGs3) : TGs := fun vs σ H Q => ∃ ys τ L Q3, RVs G H ys vs ∧ RelS G H σ τ ∧ RelH G H L ∧ g ys τ L Q3 ∧ AftS G H Q3 Q
/-- what an iterator yields, one by one, as long as keep holds -/
structure Yields (G : G3) (H₀ : Hp) (J : It) (ys : List Y) (keep : LHp → Prop) : Prop where
  go : ∀ i H L, TSt H₀ H → RelH G H L → keep L → i < ys.length → J.go i H
  yld : ∀ i H L x H' y, TSt H₀ H → RelH G H L → keep L → ys[i]? = some y → J.yld i H x H' → TSt H H' ∧ RelH G H' L ∧ RV G H' y x
  stop : ∀ H L, TSt H₀ H → RelH G H L → keep L → J.stop ys.length H
def upI (G : G3) (wi : TI3) : TI := fun σ H R => ∃ τ L R3, RelS G H σ τ ∧ RelH G H L ∧ wi τ L R3 ∧ ∀ J H' ys keep L', TSt H H' → RelH G H' L' → Yields G H' J ys keep → R3 ys keep L' → R J H'
def upR (G : G3) (r3 : R23) : R2 := fun x y H Q => ∃ x3 y3 L Q3, RV G H x3 x ∧ RV G H y3 y ∧ RelH G H L ∧ r3 x3 y3 L Q3 ∧ Aft G H Q3 Q
def upL (G : G3) (r3 : List Y → LHp → YK → Prop) : List V → Hp → VK → Prop := fun xs H Q => ∃ ys L Q3, RVs G H ys xs ∧ RelH G H L ∧ r3 ys L Q3 ∧ Aft G H Q3 Q
def upU (G : G3) (r3 : Y → LHp → YK → Prop) : V → Hp → VK → Prop := fun x H Q => ∃ y L Q3, RV G H y x ∧ RelH G H L ∧ r3 y L Q3 ∧ Aft G H Q3 Q
theorem PE.imp {X : Cx} {e : Expr} {t u : TE} (h : PE X e t) (q : ∀ σ H Q, u σ H Q → t σ H Q) : PE X e u := fun pins s σ H Q I z => h pins s σ H Q I (q σ H Q z)
theorem PT.imp {X : Cx} {e : Expr} {t u : TT} (h : PT X e t) (q : ∀ σ H Q, u σ H Q → t σ H Q) : PT X e u := fun pins s σ H Q I z => h pins s σ H Q I (q σ H Q z)
theorem PW.imp {X : Cx} {e : Expr} {t u : TT} (h : PW X e t) (q : ∀ σ H Q, u σ H Q → t σ H Q) : PW X e u := fun wh pins s σ H Q I z => h wh pins s σ H Q I (q σ H Q z)
theorem PA.imp {X : Cx} {e : List Expr} {t u : TA} (h : PA X e t) (q : ∀ σ H Q, u σ H Q → t σ H Q) : PA X e u := fun pos pins s σ H Q I z => h pos pins s σ H Q I (q σ H Q z)
theorem PS.imp {X : Cx} {e : Stmt} {t u : L2.TS} (h : PS X e t) (q : ∀ D σ H, u D σ H → t D σ H) : PS X e u := fun pins s σ H Q I z => h pins s σ H Q I (q _ σ H z)
theorem PSs.imp {X : Cx} {e : List Stmt} {t u : L2.TS} (h : PSs X e t) (q : ∀ D σ H, u D σ H → t D σ H) : PSs X e u := fun pins s σ H Q I z => h pins s σ H Q I (q _ σ H z)
end L3

namespace L3
open PySem L2
/-! ### the readings -/
def yite (b : Bool) (A B : Prop) : Prop := match b with
  | true => A
  | false => B
theorem yite_dec {p : Prop} [Decidable p] {A B : Prop} (h : p → A) (k : ¬p → B) : yite (decide p) A B := by
  by_cases c : p
  · rw [decide_eq_true c]; exact h c
  · rw [decide_eq_false c]; exact k c
theorem yite_yes {p : Prop} [Decidable p] {A B : Prop} (c : p) (h : A) : yite (decide p) A B := by rw [decide_eq_true c]; exact h
theorem yite_no {p : Prop} [Decidable p] {A B : Prop} (c : ¬p) (h : B) : yite (decide p) A B := by rw [decide_eq_false c]; exact h
/-- turned or not -/
def nb (neg b : Bool) : Bool := match neg with
  | true => !b
  | false => b
def yVar (i : Nat) (τ : St3) (L : LHp) (Q : YK) : Prop := match get3 τ i with
  | some y => Q y L
  | none => False
def yC (y : Y) (_ : St3) (L : LHp) (Q : YK) : Prop := Q y L
def yOp (r : R23) (ta tb : TE3) (τ : St3) (L : LHp) (Q : YK) : Prop := ta τ L fun x L1 => tb τ L1 fun y L2 => r x y L2 Q
def yUn (r : Y → LHp → YK → Prop) (ta : TE3) (τ : St3) (L : LHp) (Q : YK) : Prop := ta τ L fun x L1 => r x L1 Q
def yI (C : Int → Int → Prop) (g : Int → Int → Y) (x y : Y) (L : LHp) (Q : YK) : Prop := match x, y with
  | .int i, .int j => C i j ∧ Q (g i j) L
  | _, _ => False
def yI0 (g : Int → Int → Y) (x y : Y) (L : LHp) (Q : YK) : Prop := match x, y with
  | .int i, .int j => Q (g i j) L
  | _, _ => False
def yNeg (x : Y) (L : LHp) (Q : YK) : Prop := match x with
  | .int i => Q (.int (-i)) L
  | _ => False
/-- the items of a list or a tuple -/
def seqOf (L : LHp) : Y → Option (List Y)
  | .tup ys => some ys
  | .sq ys => some ys
  | .ref a => match L a with
    | some (.lst ys) => some ys
    | _ => none
  | _ => none
@[irreducible] def lstK (L : LHp) (a : Addr) (k : List Y → Prop) : Prop := match L a with
  | some (.lst ys) => k ys
  | _ => False
theorem lstK_inv {L : LHp} {a : Addr} {k : List Y → Prop} (h : lstK L a k) : ∃ ys, L a = some (.lst ys) ∧ k ys := by
  unfold lstK at h
  split at h
  · rename_i ys e; exact ⟨ys, e, h⟩
  · exact h.elim
theorem lstK_of {L : LHp} {a : Addr} {k : List Y → Prop} {ys : List Y} (e : L a = some (.lst ys)) (h : k ys) : lstK L a k := by
  unfold lstK; rw [e]; exact h
def seqK (L : LHp) (x : Y) (k : List Y → Prop) : Prop := match x with
  | .tup ys => k ys
  | .sq ys => k ys
  | .ref a => lstK L a k
  | _ => False
theorem seqOf_lst {L : LHp} {a : Addr} {ys : List Y} (h : L a = some (.lst ys)) : seqOf L (.ref a) = some ys := by
  show (match L a with | some (.lst ys) => some ys | _ => none) = some ys
  rw [h]
theorem seqK_inv {L : LHp} {x : Y} {k : List Y → Prop} (h : seqK L x k) : ∃ ys, seqOf L x = some ys ∧ k ys := by
  cases x with
  | tup ys => exact ⟨ys, rfl, h⟩
  | sq ys => exact ⟨ys, rfl, h⟩
  | ref a => obtain ⟨ys, e, q⟩ := lstK_inv h; exact ⟨ys, seqOf_lst e, q⟩
  | _ => exact h.elim
theorem seqOf_inv {L : LHp} {a : Addr} {ys : List Y} (h : seqOf L (.ref a) = some ys) : L a = some (.lst ys) := by
  have h' : (match L a with | some (.lst ys) => some ys | _ => none) = some ys := h
  split at h'
  · rename_i e; cases h'; exact e
  · cases h'
theorem seqK_of {L : LHp} {x : Y} {k : List Y → Prop} {ys : List Y} (e : seqOf L x = some ys) (h : k ys) : seqK L x k := by
  cases x with
  | tup zs => cases e; exact h
  | sq zs => cases e; exact h
  | ref a => exact lstK_of (seqOf_inv e) h
  | _ => cases e
theorem seqL_of {L : LHp} {a : Addr} {k : List Y → Prop} {ys : List Y} (e : L a = some (.lst ys)) (h : k ys) : seqK L (.ref a) k := seqK_of (seqOf_lst e) h
def yAdd (x y : Y) (L : LHp) (Q : YK) : Prop := match x, y with
  | .int i, .int j => Q (.int (i + j)) L
  | .str a, .str b => a.length + b.length ≤ sizeLine ∧ Q (.str (a ++ b)) L
  | .ref a, .ref b => ∃ ys zs, L a = some (.lst ys) ∧ L b = some (.lst zs) ∧ ys.length + zs.length ≤ sizeLine ∧ ∀ p, L p = none → Q (.ref p) (updL L p (.lst (ys ++ zs)))
  | _, _ => False
def yLen (xs : List Y) (L : LHp) (Q : YK) : Prop := match xs with
  | [.str z] => z.length ≤ sizeLine ∧ Q (.int z.length) L
  | [x] => seqK L x fun ys => Q (.int ys.length) L
  | _ => False
/-- isinstance: the type of a value; bool is an int -/
inductive Ty3 where
  | non | bool | int | str | tuple | list | dict
def Ty3.nm : Ty3 → String
  | .non => "NoneType"
  | .bool => "bool"
  | .int => "int"
  | .str => "str"
  | .tuple => "tuple"
  | .list => "list"
  | .dict => "dict"
def tyY (L : LHp) : Y → Option Ty3
  | .non => some .non
  | .bl _ => some .bool
  | .int _ => some .int
  | .str _ => some .str
  | .tup _ => some .tuple
  | .sq _ => some .list
  | .ref a => match L a with
    | some (.lst _) => some .list
    | some (.dct _) => some .dict
    | _ => none
  | _ => none
theorem tyL {L : LHp} {a : Addr} {ys : List Y} (h : L a = some (.lst ys)) : tyY L (.ref a) = some .list := by
  show (match L a with | some (.lst _) => some Ty3.list | some (.dct _) => some .dict | _ => none) = some .list
  rw [h]
def instB : Ty3 → Ty3 → Bool
  | .bool, .int => true
  | .bool, .bool => true
  | .int, .int => true
  | .str, .str => true
  | .tuple, .tuple => true
  | .list, .list => true
  | .dict, .dict => true
  | .non, .non => true
  | _, _ => false
@[irreducible] def tyK (L : LHp) (a : Addr) (k : Ty3 → Prop) : Prop := match tyY L (.ref a) with
  | some T => k T
  | none => False
theorem tyK_inv {L : LHp} {a : Addr} {k : Ty3 → Prop} (h : tyK L a k) : ∃ T, tyY L (.ref a) = some T ∧ k T := by
  unfold tyK at h
  split at h
  · rename_i T e; exact ⟨T, e, h⟩
  · exact h.elim
theorem tyK_lst {L : LHp} {a : Addr} {ys : List Y} {k : Ty3 → Prop} (e : L a = some (.lst ys)) (h : k .list) : tyK L a k := by unfold tyK; rw [tyL e]; exact h
def tyKY (L : LHp) (x : Y) (k : Ty3 → Prop) : Prop := match x with
  | .non => k .non
  | .bl _ => k .bool
  | .int _ => k .int
  | .str _ => k .str
  | .tup _ => k .tuple
  | .sq _ => k .list
  | .ref a => tyK L a k
  | _ => False
theorem tyKY_inv {L : LHp} {x : Y} {k : Ty3 → Prop} (h : tyKY L x k) : ∃ T, tyY L x = some T ∧ k T := by
  cases x with
  | ref a => exact tyK_inv h
  | ty n => exact h.elim
  | cd k => exact h.elim
  | _ => exact ⟨_, rfl, h⟩
def yInst (S : Ty3) (te : TE3) (τ : St3) (L : LHp) (Q : YK) : Prop := te τ L fun x L1 => tyKY L1 x fun T => Q (.bl (instB T S)) L1
/-! flat values -/
def flatY : Y → Bool
  | .non => true
  | .bl _ => true
  | .int _ => true
  | .str _ => true
  | _ => false
def toV : Y → V
  | .non => .non
  | .bl b => .bl b
  | .int i => .int i
  | .str x => .str x
  | _ => .ty "?"
theorem RV.flat {G : G3} {H : Hp} : ∀ {y : Y} {v : V}, flatY y = true → RV G H y v → v = toV y
  | .non, _, _, h => h
  | .bl _, _, _, h => h
  | .int _, _, _, h => h
  | .str _, _, _, h => h
theorem toV_flat : ∀ {y : Y}, flatY y = true → flatV (toV y) = true
  | .non, _ => rfl
  | .bl _, _ => rfl
  | .int _, _ => rfl
  | .str _, _ => rfl
def listY : Y → Bool
  | .ref _ => true
  | .sq _ => true
  | _ => false
def DatN (L : LHp) : Nat → Y → Da → Prop
  | 0, y, d => flatY y = true ∧ d = .s (toV y)
  | n + 1, y, d => (flatY y = true ∧ d = .s (toV y)) ∨ (∃ ys ds, y = .tup ys ∧ d = .tup ds ∧ Paired (DatN L n) ys ds) ∨ (∃ ys ds, listY y = true ∧ d = .lst ds ∧ seqOf L y = some ys ∧ Paired (DatN L n) ys ds)
def refY : Y → Bool
  | .ref _ => true
  | .tup _ => true
  | .sq _ => true
  | _ => false
def yEq (neg : Bool) (x y : Y) (L : LHp) (Q : YK) : Prop := match x, y with
  | .int i, .int j => Q (.bl (nb neg (decide (i = j)))) L
  | .str i, .str j => Q (.bl (nb neg (decide (i = j)))) L
  | .bl i, .bl j => Q (.bl (nb neg (decide (i = j)))) L
  | x, y => refY x = true ∧ refY y = true ∧ ∃ n m d e, n ≤ 128 ∧ DatN L n x d ∧ DatN L m y e ∧ Q (.bl (nb neg (Da.eq d e))) L
def yB (t : TE3) (τ : St3) (L : LHp) (Q : Bool → LHp → Prop) : Prop := t τ L fun x L1 => match x with
  | .bl c => Q c L1
  | _ => False
def yAnd (t u : TT3) (τ : St3) (L : LHp) (Q : Bool → LHp → Prop) : Prop := t τ L fun c L1 => yite c (u τ L1 Q) (Q false L1)
def yOr (t u : TT3) (τ : St3) (L : LHp) (Q : Bool → LHp → Prop) : Prop := t τ L fun c L1 => yite c (Q true L1) (u τ L1 Q)
def yNot (t : TT3) (τ : St3) (L : LHp) (Q : Bool → LHp → Prop) : Prop := t τ L fun c L1 => Q (!c) L1
def yAndV (ta tb : TE3) (τ : St3) (L : LHp) (Q : YK) : Prop := ta τ L fun x L1 => match x with
  | .bl c => yite c (tb τ L1 Q) (Q (.bl false) L1)
  | _ => False
def yNotV (ta : TE3) (τ : St3) (L : LHp) (Q : YK) : Prop := ta τ L fun x L1 => match x with
  | .bl c => Q (.bl (!c)) L1
  | _ => False
def yNil (_ : St3) (L : LHp) (Q : List Y → LHp → Prop) : Prop := Q [] L
def yCons (ta : TE3) (tr : TA3) (τ : St3) (L : LHp) (Q : List Y → LHp → Prop) : Prop := ta τ L fun x L1 => tr τ L1 fun xs L2 => Q (x :: xs) L2
def yLst (t : TA3) (τ : St3) (L : LHp) (Q : YK) : Prop := t τ L fun ys L1 => match Nat.ble ys.length 1000 with
  | true => ∀ p, L1 p = none → Q (.ref p) (updL L1 p (.lst ys))
  | false => False
def yCB (r : List Y → LHp → YK → Prop) (t : TA3) (τ : St3) (L : LHp) (Q : YK) : Prop := t τ L fun vs L1 => r vs L1 Q
/-! statements -/
def ySeq (t u : TS3) (D : Ends3) (τ : St3) (L : LHp) : Prop := t { D with nx := u D } τ L
def yNext (D : Ends3) (τ : St3) (L : LHp) : Prop := D.nx τ L
def yDrop (te : TE3) (D : Ends3) (τ : St3) (L : LHp) : Prop := te τ L fun _ L1 => D.nx τ L1
def yRet (te : TE3) (D : Ends3) (τ : St3) (L : LHp) : Prop := te τ L D.rt
def yIfS (c : TT3) (t u : TS3) (D : Ends3) (τ : St3) (L : LHp) : Prop := c τ L fun b L1 => yite b (t D τ L1) (u D τ L1)
def yAsg (te : TE3) (g : TG3) (D : Ends3) (τ : St3) (L : LHp) : Prop := te τ L fun x L1 => g x τ L1 D.nx
def set3 : St3 → Nat → Y → St3
  | [], _, _ => []
  | _ :: r, 0, y => some y :: r
  | o :: r, i + 1, y => o :: set3 r i y
theorem set3_eq : ∀ (τ : St3) (i : Nat) (y : Y), set3 τ i y = τ.set i (some y)
  | [], _, _ => rfl
  | _ :: _, 0, _ => rfl
  | o :: r, i + 1, y => by rw [set3, set3_eq r i y]; rfl
def gyName (i : Nat) (y : Y) (τ : St3) (L : LHp) (Q : St3 → LHp → Prop) : Prop := Q (set3 τ i y) L
def gyNil (ys : List Y) (τ : St3) (L : LHp) (Q : St3 → LHp → Prop) : Prop := match ys with
  | [] => Q τ L
  | _ => False
def gyCons (t : TG3) (u : TGs3) (ys : List Y) (τ : St3) (L : LHp) (Q : St3 → LHp → Prop) : Prop := match ys with
  | [] => False
  | y :: r => t y τ L fun τ' L' => u r τ' L' Q
def gyTup (n : Nat) (t : TGs3) (y : Y) (τ : St3) (L : LHp) (Q : St3 → LHp → Prop) : Prop := match y with
  | .tup ys => match ys.length == n with
    | true => t ys τ L Q
    | false => False
  | _ => False
/-- what is of no use behind a turn may be forgotten -/
def Frg {α : Type} (W : α → LHp → Prop) (x : α) (L : LHp) : Prop := ∃ L', LSub L' L ∧ W x L'
theorem frg {α : Type} {W : α → LHp → Prop} {x : α} {L : LHp} (h : W x L) : Frg W x L := ⟨L, LSub.refl L, h⟩
/-- a for over these items -/
@[irreducible] def forK (ys : List Y) (keep : LHp → Prop) (g : TG3) (tb : TS3) (D : Ends3) (τ : St3) (L1 : LHp) : Prop := ∃ W : Nat → St3 → LHp → Prop, W 0 τ L1 ∧ (∀ i τ L, W i τ L → keep L) ∧
  (∀ i y τ L, ys[i]? = some y → W i τ L → g y τ L fun τ2 L2 => tb { D with nx := Frg (W (i + 1)), ct := Frg (W (i + 1)), bk := D.nx } τ2 L2) ∧ ∀ τ L, W ys.length τ L → D.nx τ L
theorem forK_mk {ys : List Y} {keep : LHp → Prop} {g : TG3} {tb : TS3} {D : Ends3} {τ : St3} {L1 : LHp} (h : ∃ W : Nat → St3 → LHp → Prop, W 0 τ L1 ∧ (∀ i τ L, W i τ L → keep L) ∧
  (∀ i y τ L, ys[i]? = some y → W i τ L → g y τ L fun τ2 L2 => tb { D with nx := Frg (W (i + 1)), ct := Frg (W (i + 1)), bk := D.nx } τ2 L2) ∧ ∀ τ L, W ys.length τ L → D.nx τ L) : forK ys keep g tb D τ L1 := by unfold forK; exact h
theorem forK_inv {ys : List Y} {keep : LHp → Prop} {g : TG3} {tb : TS3} {D : Ends3} {τ : St3} {L1 : LHp} (h : forK ys keep g tb D τ L1) : ∃ W : Nat → St3 → LHp → Prop, W 0 τ L1 ∧ (∀ i τ L, W i τ L → keep L) ∧
  (∀ i y τ L, ys[i]? = some y → W i τ L → g y τ L fun τ2 L2 => tb { D with nx := Frg (W (i + 1)), ct := Frg (W (i + 1)), bk := D.nx } τ2 L2) ∧ ∀ τ L, W ys.length τ L → D.nx τ L := by unfold forK at h; exact h
def yFor (wi : TI3) (g : TG3) (tb : TS3) (D : Ends3) (τ : St3) (L : LHp) : Prop := wi τ L fun ys keep L1 => forK ys keep g tb D τ L1
@[irreducible] def lisK (L : LHp) (a : Addr) (R : List Y → (LHp → Prop) → LHp → Prop) : Prop := match L a with
  | some (.lst ys) => R ys (fun L => L a = some (.lst ys)) L
  | _ => False
theorem lisK_of {L : LHp} {a : Addr} {R : List Y → (LHp → Prop) → LHp → Prop} {ys : List Y} (h : L a = some (.lst ys)) (q : ∀ keep : LHp → Prop, (∀ L', L' a = L a → keep L') → R ys keep L) : lisK L a R := by
  unfold lisK
  rw [h]
  exact q _ fun L' e' => e'.trans h
theorem lisK_inv {L : LHp} {a : Addr} {R : List Y → (LHp → Prop) → LHp → Prop} (h : lisK L a R) : ∃ ys keep, seqOf L (.ref a) = some ys ∧ keep L ∧ (∀ L', keep L' → seqOf L' (.ref a) = some ys) ∧ R ys keep L := by
  unfold lisK at h
  split at h
  · rename_i ys e; exact ⟨ys, _, seqOf_lst e, e, fun L' e' => seqOf_lst e', h⟩
  · exact h.elim
def iyList (tl : TE3) (τ : St3) (L : LHp) (R : List Y → (LHp → Prop) → LHp → Prop) : Prop := tl τ L fun x L1 => match x with
  | .ref a => lisK L1 a R
  | .sq ys => R ys (fun _ => True) L1
  | _ => False
def intsY (lo : Int) (n : Nat) : List Y := (List.range n).map fun k => .int (lo + (k : Nat))
def iyRng1 (ta : TA3) (τ : St3) (L : LHp) (R : List Y → (LHp → Prop) → LHp → Prop) : Prop := ta τ L fun vs L1 => match vs with
  | [.int j] => (-(2 ^ 62) ≤ j ∧ j < 2 ^ 62) ∧ R (intsY 0 j.toNat) (fun _ => True) L1
  | _ => False
abbrev Sp3 := List Y → LHp → YK → Prop
def yCall (sp : Sp3) (t : TA3) (τ : St3) (L : LHp) (Q : YK) : Prop := t τ L fun ys L1 => sp ys L1 Q
/-- methods of lists -/
def yAppend (x : Y) (vs : List Y) (L : LHp) (Q : YK) : Prop := match x, vs with
  | .ref a, [v] => lstK L a fun ys => ys.length < sizeLine ∧ Q .non (updL L a (.lst (ys ++ [v])))
  | _, _ => False
end L3

namespace L3
open PySem L2
section
variable {G : G3} {H : Hp} {L : LHp}
theorem OpR.imp {X : Cx} {f : Value → Value → Sem Value} {r r' : R2} (h : OpR X f r) (q : ∀ x y H Q, r' x y H Q → r x y H Q) : OpR X f r' := fun pins s σ H x y v u Q I rx ry z => h pins s σ H x y v u Q I rx ry (q x y H Q z)
theorem UnR.imp {X : Cx} {f : Value → Sem Value} {r r' : V → Hp → VK → Prop} (h : UnR X f r) (q : ∀ x H Q, r' x H Q → r x H Q) : UnR X f r' := fun pins s σ H x v Q I rx z => h pins s σ H x v Q I rx (q x H Q z)
theorem CallR.imp {X : Cx} {f : Value} {r r' : List V → Hp → VK → Prop} (h : CallR X f r) (q : ∀ x H Q, r' x H Q → r x H Q) : CallR X f r' := fun pins s σ H x v Q I rx z => h pins s σ H x v Q I rx (q x H Q z)
theorem MtM.imp {X : Cx} {id : String} {r r' : V → List V → Hp → VK → Prop} (h : MtM X id r) (q : ∀ x xs H Q, r' x xs H Q → r x xs H Q) : MtM X id r' := fun pins s σ H x xs v us Q I rx ry z => h pins s σ H x xs v us Q I rx ry (q x xs H Q z)
/-- a sequence, as the layer reads it -/
theorem seq_sq {y : Y} {v : V} {ys : List Y} (rl : RelH G H L) (r : RV G H y v) (h : seqOf L y = some ys) : ∃ p xs, v = .ref p ∧ (SqL G.K H p xs ∨ SqT G.K H p xs) ∧ RVs G H ys xs := by
  cases y with
  | tup zs =>
    obtain ⟨a, xs, e, s, q⟩ := r
    cases h
    exact ⟨a, xs, e, .inr s, q⟩
  | sq zs =>
    obtain ⟨a, xs, e, s, q⟩ := r
    cases h
    exact ⟨a, xs, e, .inl s.sq, q⟩
  | ref a =>
    cases (show v = .ref a from r)
    have h' : (match L a with | some (.lst ys) => some ys | _ => none) = some ys := h
    split at h'
    · rename_i zs e
      cases h'
      obtain ⟨xs, e2, q⟩ := rl a _ e
      exact ⟨a, xs, rfl, .inl (SqL.of e2), q⟩
    · cases h'
  | _ => cases h
end
section
variable {X : Cx} {a b c e : Expr} {ta tb tc te : TE3} {pos : Pos}
abbrev QE (X : Cx) (e : Expr) (t : TE3) : Prop := PE X e (upE X.g3 t)
abbrev QT (X : Cx) (e : Expr) (t : TT3) : Prop := PT X e (upT X.g3 t)
abbrev QW (X : Cx) (e : Expr) (t : TT3) : Prop := PW X e (upT X.g3 t)
abbrev QA (X : Cx) (es : List Expr) (t : TA3) : Prop := PA X es (upA X.g3 t)
abbrev QS (X : Cx) (st : Stmt) (t : TS3) : Prop := PS X st (upS X.g3 t)
abbrev QSs (X : Cx) (st : List Stmt) (t : TS3) : Prop := PSs X st (upS X.g3 t)
abbrev QG (X : Cx) (e : Expr) (g : TG3) : Prop := PG X e (upG X.g3 g)
abbrev QGs (X : Cx) (es : List Expr) (g : TGs3) : Prop := PGs X es (upGs X.g3 g)
abbrev QI (X : Cx) (tg it : Expr) (w : TI3) : Prop := PI X tg it (upI X.g3 w)
theorem QE.of_var {i : Nat} (h : PE X e (tVar i)) : QE X e (yVar i) := PE.imp h fun σ H Q ⟨τ, L, Q3, rs, rl, z, k⟩ => by
  unfold yVar at z
  split at z
  · rename_i y ey
    obtain ⟨v, ev, rv⟩ := rs.get i y (get3_eq _ _ ey)
    exact ⟨v, ev, k v H y L (TSt.refl _) rl rv z⟩
  · exact z.elim
theorem QE.of_c {v : V} {y : Y} (h : PE X e (tC v)) (q : ∀ H, RV X.g3 H y v) : QE X e (yC y) := PE.imp h fun σ H Q ⟨τ, L, Q3, rs, rl, z, k⟩ => k v H y L (TSt.refl _) rl (q H) z
theorem qv (i : Nat) {x : Str} {pos : Pos} (hN : X.N[i]? = some x := by rfl) (hv : Vis X.env.scope x := by first | exact Or.inl rfl | exact Or.inr (Or.inl rfl) | exact Or.inr (Or.inr rfl)) (hd : (x == ("__debug__" : Str)) = false := by decide)
    (hcd : (x == ("__classdict__" : Str)) = false := by decide) : QE X (.Name x pos) (yVar i) := QE.of_var (pv i hN hv hd hcd)
theorem qe_bl {b : Bool} {j : Nat} : QE X (.Constant (.bool b) j pos) (yC (.bl b)) := QE.of_c pe_bl fun _ => rfl
theorem qe_int {i : Int} {j : Nat} : QE X (.Constant (.int i) j pos) (yC (.int i)) := QE.of_c pe_int fun _ => rfl
theorem qe_str {x : Str} {j : Nat} : QE X (.Constant (.str x) j pos) (yC (.str x)) := QE.of_c pe_str fun _ => rfl
theorem up_op {G : G3} {r : R23} {ta tb : TE3} (σ : St) (H : Hp) (Q : VK) : upE G (yOp r ta tb) σ H Q → tOp (upR G r) (upE G ta) (upE G tb) σ H Q := fun ⟨τ, L, Q3, rs, rl, z, k⟩ =>
  ⟨τ, L, _, rs, rl, z, fun v H1 y L1 t1 rl1 rv1 z1 => ⟨τ, L1, _, rs.ts t1, rl1, z1, fun v2 H2 y2 L2 t2 rl2 rv2 z2 => ⟨y, y2, L2, Q3, rv1.ts t2, rv2, rl2, z2, k.ts (t1.trans t2)⟩⟩⟩
theorem qe_op {op : Operator} {r : R23} (h : OpR X (binaryOp op) (upR X.g3 r)) (ha : QE X a ta) (hb : QE X b tb) : QE X (.BinOp a op b pos) (yOp r ta tb) := PE.imp (pe_op h ha hb) up_op
theorem up_B {G : G3} {t : TE3} (σ : St) (H : Hp) (Q : Bool → Hp → Prop) : upT G (yB t) σ H Q → tTest (upE G t) σ H Q := fun ⟨τ, L, Q3, rs, rl, z, k⟩ =>
  ⟨τ, L, _, rs, rl, z, fun v H1 y L1 t1 rl1 rv1 z1 => by
    cases y with
    | bl b => exact ⟨b, rv1, k b H1 L1 t1 rl1 z1⟩
    | _ => exact z1.elim⟩
theorem up_tB {G : G3} {t : TE3} (σ : St) (H : Hp) (Q : Bool → Hp → Prop) : upT G (yB t) σ H Q → L2.tB (upE G t) σ H Q := up_B σ H Q
theorem qt_cmpR {op : CmpOp} {r : R23} (h : OpR X (compareOp op) (upR X.g3 r)) (ha : QE X a ta) (hb : QE X b tb) (hm : behindInMarks op b = false) : QT X (.Compare a [op] [b] pos) (yB (yOp r ta tb)) :=
  PT.imp (pt_cmpR h ha hb hm) fun σ H Q q => by
    have q' := up_B σ H Q q
    obtain ⟨τ, L, Q3, rs, rl, z, k⟩ := q'
    exact up_op σ H _ ⟨τ, L, Q3, rs, rl, z, k⟩
theorem qt_val (h : QE X e te) (he : ∀ whole, isTrue e X.env whole = (do let v ← whole; standAt e.pos; holding [v] (truthy v)) := by intro _; rfl) : QT X e (yB te) := PT.imp (pt_val h he) up_tB
theorem OpI {f : Value → Value → Sem Value} {C : Int → Int → Prop} {g : Int → Int → V} {g3 : Int → Int → Y} (h : OpR X f (rI C g)) (e : ∀ i j H, RV X.g3 H (g3 i j) (g i j)) : OpR X f (upR X.g3 (yI C g3)) := OpR.imp h fun x y H Q ⟨x3, y3, L, Q3, rx, ry, rl, z, k⟩ => by
  cases x3 with
  | int i =>
    cases y3 with
    | int j => exact ⟨i, j, rx, ry, z.1, k _ H _ L (TSt.refl _) rl (e i j H) z.2⟩
    | _ => exact z.elim
  | _ => cases y3 <;> exact z.elim
theorem OpI0 {f : Value → Value → Sem Value} {g : Int → Int → V} {g3 : Int → Int → Y} (h : OpR X f (rI0 g)) (e : ∀ i j H, RV X.g3 H (g3 i j) (g i j)) : OpR X f (upR X.g3 (yI0 g3)) := OpR.imp h fun x y H Q ⟨x3, y3, L, Q3, rx, ry, rl, z, k⟩ => by
  cases x3 with
  | int i =>
    cases y3 with
    | int j => exact ⟨i, j, rx, ry, k _ H _ L (TSt.refl _) rl (e i j H) z⟩
    | _ => exact z.elim
  | _ => cases y3 <;> exact z.elim
theorem q_sub : OpR X (binaryOp .Sub) (upR X.g3 (yI0 fun i j => .int (i - j))) := OpI0 op_sub fun _ _ _ => rfl
theorem q_mul : OpR X (binaryOp .Mult) (upR X.g3 (yI CMul fun i j => .int (i * j))) := OpI op_mul fun _ _ _ => rfl
theorem q_fdiv : OpR X (binaryOp .FloorDiv) (upR X.g3 (yI CDiv fun i j => .int (i / j))) := OpI op_fdiv fun _ _ _ => rfl
theorem q_mod : OpR X (binaryOp .Mod) (upR X.g3 (yI (fun _ j => 0 < j) fun i j => .int (i % j))) := OpI op_mod fun _ _ _ => rfl
theorem q_pow : OpR X (binaryOp .Pow) (upR X.g3 (yI CPow fun i j => .int (i ^ j.toNat))) := OpI op_pow fun _ _ _ => rfl
theorem q_lt : OpR X (compareOp .Lt) (upR X.g3 (yI0 fun i j => .bl (decide (i < j)))) := OpI0 op_lt fun _ _ _ => rfl
theorem q_le : OpR X (compareOp .LtE) (upR X.g3 (yI0 fun i j => .bl (decide (i ≤ j)))) := OpI0 op_le fun _ _ _ => rfl
theorem q_gt : OpR X (compareOp .Gt) (upR X.g3 (yI0 fun i j => .bl (decide (j < i)))) := OpI0 op_gt fun _ _ _ => rfl
theorem q_add : OpR X (binaryOp .Add) (upR X.g3 yAdd) := OpR.imp op_uAdd fun x y H Q ⟨x3, y3, L, Q3, rx, ry, rl, z, k⟩ => by
  cases x3 with
  | int i =>
    cases y3 with
    | int j => cases rx; cases ry; exact k _ H _ L (TSt.refl _) rl (by rfl) z
    | _ => exact z.elim
  | str i =>
    cases y3 with
    | str j => cases rx; cases ry; exact ⟨z.1, k _ H _ L (TSt.refl _) rl (by rfl) z.2⟩
    | _ => exact z.elim
  | ref a =>
    cases y3 with
    | ref b =>
      cases rx; cases ry
      obtain ⟨ys, zs, e1, e2, hz, q⟩ := z
      obtain ⟨xs, h1, r1⟩ := rl a _ e1
      obtain ⟨us, h2, r2⟩ := rl b _ e2
      refine ⟨xs, us, h1, h2, by rw [← r1.length, ← r2.length]; exact hz, fun p hp => ?_⟩
      exact k _ _ _ _ (TSt.new hp) (rl.newL hp (r1.app r2)) (by rfl) (q p (rl.none hp))
    | _ => exact z.elim
  | _ => cases y3 <;> exact z.elim
theorem RVs.inv1 {G : G3} {H : Hp} {y : Y} {xs : List V} (h : RVs G H [y] xs) : ∃ x, xs = [x] ∧ RV G H y x := by
  obtain ⟨x, xs', e, r, s⟩ := h
  cases (show xs' = [] from s)
  exact ⟨x, e, r⟩
theorem q_lenK (K : PySem.W.Frag) (P : Program) (w : World) (hK : X.K = K := by rfl) (hP : X.prog = P := by rfl) (hw : X.w = w := by rfl) : CallR X (.builtin "len") (upL ⟨K, P, w⟩ yLen) := by
  subst hK hP hw
  refine CallR.imp call_uLen fun xs H Q ⟨ys, L, Q3, rv, rl, z, k⟩ => ?_
  unfold yLen at z
  split at z
  · obtain ⟨x, rfl, r⟩ := rv.inv1
    cases r
    exact ⟨z.1, k _ H _ L (TSt.refl _) rl (by rfl) z.2⟩
  · rename_i y _
    obtain ⟨x, rfl, r⟩ := rv.inv1
    obtain ⟨ys, es, z⟩ := seqK_inv z
    obtain ⟨p, us, e, sq, rw'⟩ := seq_sq rl r es
    subst e
    refine ⟨us, sq, ?_⟩
    rw [← rw'.length]
    exact k _ H _ L (TSt.refl _) rl (by rfl) z
  · exact z.elim
theorem q_neg : UnR X (unaryOp .USub) (upU X.g3 yNeg) := UnR.imp un_neg fun x H Q ⟨y, L, Q3, rv, rl, z, k⟩ => by
  cases y with
  | int i => exact ⟨i, rv, k _ H _ L (TSt.refl _) rl (by rfl) z⟩
  | _ => exact z.elim
theorem qe_un {op : UnaryOp} {r : Y → LHp → YK → Prop} (h : UnR X (unaryOp op) (upU X.g3 r)) (ha : QE X a ta) : QE X (.UnaryOp op a pos) (yUn r ta) := PE.imp (pe_un h ha) fun σ H Q ⟨τ, L, Q3, rs, rl, z, k⟩ =>
  ⟨τ, L, _, rs, rl, z, fun v H1 y L1 t1 rl1 rv1 z1 => ⟨y, L1, Q3, rv1, rl1, z1, k.ts t1⟩⟩
end
end L3

namespace L3
open PySem L2
section
variable {X : Cx} {a b c e : Expr} {ta tb tc te : TE3} {pos : Pos}
theorem seq_list {G : G3} {H : Hp} {L : LHp} {a : Addr} {ys : List Y} (rl : RelH G H L) (h : seqOf L (.ref a) = some ys) : ∃ xs, SqL G.K H a xs ∧ RVs G H ys xs := by
  have h' : (match L a with | some (.lst ys) => some ys | _ => none) = some ys := h
  split at h'
  · rename_i e
    cases h'
    obtain ⟨xs, e2, q⟩ := rl a _ e
    exact ⟨xs, SqL.of e2, q⟩
  · cases h'
/-- a list, changed or not -/
theorem seq_listY {G : G3} {H : Hp} {L : LHp} {y : Y} {v : V} {ys : List Y} (rl : RelH G H L) (r : RV G H y v) (hy : listY y = true) (h : seqOf L y = some ys) : ∃ a xs, v = .ref a ∧ SqL G.K H a xs ∧ RVs G H ys xs := by
  cases y with
  | ref a => obtain ⟨xs, s, q⟩ := seq_list rl h; exact ⟨a, xs, r, s, q⟩
  | sq zs => obtain ⟨a, xs, e, s, q⟩ := r; cases h; exact ⟨a, xs, e, s.sq, q⟩
  | _ => cases hy
/-! ### isinstance -/
theorem tup_types {G : G3} {H : Hp} {L : LHp} {y : Y} {v : V} {u : Value} {T : Ty3} {pins : List (Addr × Obj)} {σ : L2.St} {s : Shared} (I : Inv X pins σ H s) (rl : RelH X.g3 H L) (r : RV X.g3 H y v) (ru : RelV v u) (h : tyY L y = some T)
    {A : Around} {E : Value → Shared → Prop} {Q : Value → Shared → Prop} {c : Value} {b : Bool} (e : PySem.W.kitOne X.K (.type T.nm) c = some b) (hq : ∀ tk, Q (.bool b) { s with toks := tk }) :
    wpAny (model X.prog X.w) A (call (.builtin "isinstance") [u, c]) Q E s := by
  cases y with
  | non => cases h; cases r; exact isinst_ok I ru .non e hq
  | bl b => cases h; cases r; exact isinst_ok I ru (.bl _) e hq
  | int i => cases h; cases r; exact isinst_ok I ru (.int _) e hq
  | str x => cases h; cases r; exact isinst_ok I ru (.str _) e hq
  | tup ys =>
    cases h
    obtain ⟨a, xs, rfl, sq, _⟩ := r
    cases (show u = Value.ref a from ru)
    obtain ⟨its, _, ⟨o, h1, h2, _⟩, _⟩ := I.tuple sq
    exact PySem.W.kia_one PySem.W.kitx_tuple I.kIn ⟨o, h1, h2⟩ e (fun z => nomatch z) hq
  | sq ys =>
    cases h
    obtain ⟨a, xs, rfl, sq, _⟩ := r
    cases (show u = Value.ref a from ru)
    obtain ⟨its, _, ⟨o, n, h1, h2, _⟩, _⟩ := I.list sq.sq
    exact PySem.W.kia_one PySem.W.kitx_list I.kIn ⟨o, h1, h2⟩ e (fun z => nomatch z) hq
  | ref a =>
    cases (show v = .ref a from r)
    have h' : (match L a with | some (.lst _) => some Ty3.list | some (.dct _) => some .dict | _ => none) = some T := h
    split at h'
    · rename_i ys el
      cases h'
      obtain ⟨xs, e2, _⟩ := rl a _ el
      exact isinst_ok I ru (.lst e2) e hq
    · rename_i kvs el
      cases h'
      obtain ⟨xs, e2, _⟩ := rl a _ el
      exact isinst_ok I ru (.dK e2) e hq
    · cases h'
  | _ => cases h
theorem kit_tys (K : PySem.W.Frag) : ∀ T S : Ty3, PySem.W.kitOne K (.type T.nm) (.type S.nm) = some (instB T S) := by
  intro T S
  cases T <;> cases S <;> rfl
def uInst3 (G : G3) (S : Ty3) : List V → Hp → VK → Prop := fun xs H Q => ∃ y v L Q3 T, xs = [v, .ty S.nm] ∧ RV G H y v ∧ RelH G H L ∧ tyY L y = some T ∧ Q3 (.bl (instB T S)) L ∧ Aft G H Q3 Q
theorem q_inst (S : Ty3) : CallR X (.builtin "isinstance") (uInst3 X.g3 S) := by
  intro pins s σ H xs us Q I r h
  obtain ⟨y, v, L, Q3, T, rfl, rv, rl, ty, q, k⟩ := h
  obtain ⟨u, c, rfl, r1, r2⟩ := Vals.two r
  cases (show c = Value.type S.nm from r2)
  exact tup_types (G := X.g3) I rl rv r1 ty (kit_tys _ T S) fun tk => ⟨.bl _, H, I.tok _, rfl, k _ H _ L (TSt.refl _) rl (by rfl) q⟩
theorem qe_inst {p p1 : Pos} {xT : Str} (S : Ty3) (hg : Gl X "isinstance") (hm : X.mg "isinstance" = none) (hgT : Gl X xT) (hmT : X.mg xT = none) (hvT : bootBuiltins xT = some (.type S.nm)) (ha : QE X a ta)
    (hn : xT ≠ "__name__" := by decide) (hd : (xT == ("__debug__" : Str)) = false := by decide)
    (hs : starEach [a, .Name xT p1] X.env = (false, eval a X.env) :: starEach [.Name xT p1] X.env := by rfl) (hs2 : starEach [.Name xT p1] X.env = (false, eval (.Name xT p1) X.env) :: starEach [] X.env := by rfl)
    (hp : (backTo pos (starEach [.Name xT p1] X.env)).any (·.1) = false := by rfl) :
    QE X (.Call (.Name "isinstance" p) [a, .Name xT p1] [] pos) (yInst S ta) := by
  refine PE.imp (pe_callB (q_inst S) hg hm bt_isinstance (pa_cons ha (pa_cons (pe_ty hgT hmT hvT hn hd) pa_nil hs2) hs) (by decide) (by decide) hs hp) ?_
  rintro σ H Q ⟨τ, L, Q3, rs, rl, z, k⟩
  refine ⟨τ, L, _, rs, rl, z, fun v H1 y L1 t1 rl1 rv1 z1 => ?_⟩
  obtain ⟨T, et, z1⟩ := tyKY_inv z1
  exact ⟨y, v, L1, Q3, T, rfl, rv1, rl1, et, z1, k.ts t1⟩
/-! ### in -/
/-! ### == -/
theorem DatN.rep {G : G3} {H : Hp} {L : LHp} (rl : RelH G H L) : ∀ {n : Nat} {y : Y} {d : Da} {v : V}, DatN L n y d → RV G H y v → RepN G.K H n v d
  | 0, y, d, v, ⟨f, e⟩, r => by
    rw [r.flat f]; exact ⟨e, toV_flat f⟩
  | n + 1, y, d, v, h, r => by
    have both : ∀ {ys : List Y} {ds : List Da} {xs : List V}, Paired (DatN L n) ys ds → RVs G H ys xs → Paired (RepN G.K H n) xs ds := by
      intro ys ds xs p
      induction p generalizing xs with
      | nil => intro r; cases (show xs = [] from r); exact .nil
      | cons q t ih =>
        rintro ⟨x, xs', rfl, r1, r2⟩
        exact .cons (DatN.rep rl q r1) (ih r2)
    rcases h with ⟨f, e⟩ | ⟨ys, ds, rfl, rfl, p⟩ | ⟨ys, ds, hy, rfl, es, p⟩
    · rw [r.flat f]; exact .inl ⟨e, toV_flat f⟩
    · obtain ⟨a, xs, rfl, sq, rv⟩ := r
      exact .inr (.inl ⟨a, xs, ds, rfl, rfl, sq, both p rv⟩)
    · obtain ⟨a, xs, rfl, sq, rv⟩ := seq_listY rl r hy es
      exact .inr (.inr ⟨a, xs, ds, rfl, rfl, sq, both p rv⟩)
theorem eq_refs {G : G3} {H : Hp} {y : Y} {v : V} (h : refY y = true) (r : RV G H y v) : ∃ a, v = .ref a := by
  cases y with
  | ref a => exact ⟨a, r⟩
  | tup ys => obtain ⟨a, xs, e, _⟩ := r; exact ⟨a, e⟩
  | sq ys => obtain ⟨a, xs, e, _⟩ := r; exact ⟨a, e⟩
  | _ => cases h
theorem q_eqK (K : PySem.W.Frag) (P : Program) (w : World) (hu : X.A.units + 128 < cLine) (hK : X.K = K := by rfl) (hP : X.prog = P := by rfl) (hw : X.w = w := by rfl) : OpR X (compareOp .Eq) (upR ⟨K, P, w⟩ (yEq false)) := by
  subst hK hP hw
  refine OpR.imp (op_uEq hu) fun x y H Q ⟨x3, y3, L, Q3, rx, ry, rl, z, k⟩ => ?_
  unfold yEq at z
  split at z
  · rename_i i j
    cases rx; cases ry
    refine ⟨rfl, ?_⟩
    have : decide (V.int i = V.int j) = nb false (decide (i = j)) := by rw [Bool.eq_iff_iff]; simp [nb]
    rw [this]
    exact k _ H _ L (TSt.refl _) rl (by rfl) z
  · rename_i i j
    cases rx; cases ry
    refine ⟨rfl, ?_⟩
    have : decide (V.str i = V.str j) = nb false (decide (i = j)) := by rw [Bool.eq_iff_iff]; simp [nb]
    rw [this]
    exact k _ H _ L (TSt.refl _) rl (by rfl) z
  · rename_i i j
    cases rx; cases ry
    refine ⟨rfl, ?_⟩
    have : decide (V.bl i = V.bl j) = nb false (decide (i = j)) := by rw [Bool.eq_iff_iff]; simp [nb]
    rw [this]
    exact k _ H _ L (TSt.refl _) rl (by rfl) z
  · obtain ⟨f1, f2, n, m, d, e, hn, h1, h2, q⟩ := z
    obtain ⟨a, rfl⟩ := eq_refs f1 rx
    obtain ⟨b, rfl⟩ := eq_refs f2 ry
    have q : Q3 (.bl (Da.eq d e)) L := q
    exact ⟨n, m, d, e, hn, h1.rep rl rx, h2.rep rl ry, k _ H _ L (TSt.refl _) rl (by rfl) q⟩
theorem q_neK (K : PySem.W.Frag) (P : Program) (w : World) (hu : X.A.units + 128 < cLine) (hK : X.K = K := by rfl) (hP : X.prog = P := by rfl) (hw : X.w = w := by rfl) : OpR X (compareOp .NotEq) (upR ⟨K, P, w⟩ (yEq true)) := by
  subst hK hP hw
  refine OpR.imp (op_uNe hu) fun x y H Q ⟨x3, y3, L, Q3, rx, ry, rl, z, k⟩ => ?_
  unfold yEq at z
  split at z
  · rename_i i j
    cases rx; cases ry
    refine ⟨rfl, ?_⟩
    have : (!decide (V.int i = V.int j)) = nb true (decide (i = j)) := by show _ = !_; congr 1; rw [Bool.eq_iff_iff]; simp
    rw [this]
    exact k _ H _ L (TSt.refl _) rl (by rfl) z
  · rename_i i j
    cases rx; cases ry
    refine ⟨rfl, ?_⟩
    have : (!decide (V.str i = V.str j)) = nb true (decide (i = j)) := by show _ = !_; congr 1; rw [Bool.eq_iff_iff]; simp
    rw [this]
    exact k _ H _ L (TSt.refl _) rl (by rfl) z
  · rename_i i j
    cases rx; cases ry
    refine ⟨rfl, ?_⟩
    have : (!decide (V.bl i = V.bl j)) = nb true (decide (i = j)) := by show _ = !_; congr 1; rw [Bool.eq_iff_iff]; simp
    rw [this]
    exact k _ H _ L (TSt.refl _) rl (by rfl) z
  · obtain ⟨f1, f2, n, m, d, e, hn, h1, h2, q⟩ := z
    obtain ⟨a, rfl⟩ := eq_refs f1 rx
    obtain ⟨b, rfl⟩ := eq_refs f2 ry
    have q : Q3 (.bl (!Da.eq d e)) L := q
    exact ⟨n, m, d, e, hn, h1.rep rl rx, h2.rep rl ry, k _ H _ L (TSt.refl _) rl (by rfl) q⟩
/-! ### None -/
end
end L3

namespace L3
open PySem L2
section
variable {X : Cx} {a b c e : Expr} {es rest : List Expr} {ta tb tc te : TE3} {tA tB : TT3} {tr : TA3} {pos : Pos}
theorem qw_and1 (h : QT X a tA) : QW X (.BoolOp .And [a] pos) tA := pw_and1 h
theorem qw_or1 (h : QT X a tA) : QW X (.BoolOp .Or [a] pos) tA := pw_or1 h
theorem qw_and (h : QT X a tA) (k : QW X (.BoolOp .And (b :: rest) pos) tB) : QW X (.BoolOp .And (a :: b :: rest) pos) (yAnd tA tB) := PW.imp (pw_and h k) fun σ H Q ⟨τ, L, Q3, rs, rl, z, k⟩ =>
  ⟨τ, L, _, rs, rl, z, fun c H1 L1 t1 rl1 z1 => by
    cases c with
    | true => rw [if_pos rfl]; exact ⟨τ, L1, Q3, rs.ts t1, rl1, z1, k.ts t1⟩
    | false => rw [if_neg Bool.false_ne_true]; exact k _ H1 L1 t1 rl1 z1⟩
theorem qw_or (h : QT X a tA) (k : QW X (.BoolOp .Or (b :: rest) pos) tB) : QW X (.BoolOp .Or (a :: b :: rest) pos) (yOr tA tB) := PW.imp (pw_or h k) fun σ H Q ⟨τ, L, Q3, rs, rl, z, k⟩ =>
  ⟨τ, L, _, rs, rl, z, fun c H1 L1 t1 rl1 z1 => by
    cases c with
    | true => rw [if_pos rfl]; exact k _ H1 L1 t1 rl1 z1
    | false => rw [if_neg Bool.false_ne_true]; exact ⟨τ, L1, Q3, rs.ts t1, rl1, z1, k.ts t1⟩⟩
theorem qw_pt (h : QW X a tA) : QT X a tA := PW.pt h
theorem qt_not (h : QT X a tA) : QT X (.UnaryOp .Not a pos) (yNot tA) := PT.imp (pt_not h) fun σ H Q ⟨τ, L, Q3, rs, rl, z, k⟩ =>
  ⟨τ, L, _, rs, rl, z, fun c H1 L1 t1 rl1 z1 => k _ H1 L1 t1 rl1 z1⟩
theorem qe_one {op : BoolOp} (h : QE X a ta) : QE X (.BoolOp op [a] pos) ta := pe_one h
theorem qe_and (h : QE X a ta) (k : QE X (.BoolOp .And (b :: rest) pos) tb) : QE X (.BoolOp .And (a :: b :: rest) pos) (yAndV ta tb) := PE.imp (pe_and h k) fun σ H Q ⟨τ, L, Q3, rs, rl, z, k⟩ =>
  ⟨τ, L, _, rs, rl, z, fun v H1 y L1 t1 rl1 rv1 z1 => by
    cases y with
    | bl c =>
      refine ⟨c, rv1, ?_⟩
      have z2 : yite c (tb τ L1 Q3) (Q3 (.bl false) L1) := z1
      cases c with
      | true => rw [if_pos rfl]; exact ⟨τ, L1, Q3, rs.ts t1, rl1, z2, k.ts t1⟩
      | false => rw [if_neg Bool.false_ne_true]; exact k _ H1 _ L1 t1 rl1 (by rfl) z2
    | _ => exact z1.elim⟩
theorem qe_not (h : QE X a ta) : QE X (.UnaryOp .Not a pos) (yNotV ta) := PE.imp (pe_not h) fun σ H Q ⟨τ, L, Q3, rs, rl, z, k⟩ =>
  ⟨τ, L, _, rs, rl, z, fun v H1 y L1 t1 rl1 rv1 z1 => by
    cases y with
    | bl c => exact ⟨c, rv1, k _ H1 _ L1 t1 rl1 (by rfl) z1⟩
    | _ => exact z1.elim⟩
theorem qa_nil : QA X [] yNil := PA.imp pa_nil fun σ H Q ⟨τ, L, Q3, rs, rl, z, k⟩ => k _ H _ L (TSt.refl _) rl (by rfl) z
theorem qa_cons (h : QE X e te) (ht : QA X es tr) (hs : starEach (e :: es) X.env = (false, eval e X.env) :: starEach es X.env := by rfl) : QA X (e :: es) (yCons te tr) := PA.imp (pa_cons h ht hs) fun σ H Q ⟨τ, L, Q3, rs, rl, z, k⟩ =>
  ⟨τ, L, _, rs, rl, z, fun v H1 y L1 t1 rl1 rv1 z1 => ⟨τ, L1, _, rs.ts t1, rl1, z1, fun vs H2 ys L2 t2 rl2 rv2 z2 => k (v :: vs) H2 (y :: ys) L2 (t1.trans t2) rl2 ⟨v, vs, rfl, rv1.ts t2, rv2⟩ z2⟩⟩
theorem qe_lst (h : QA X es tr) : QE X (.List es pos) (yLst tr) := PE.imp (pe_lst h) fun σ H Q ⟨τ, L, Q3, rs, rl, z, k⟩ =>
  ⟨τ, L, _, rs, rl, z, fun vs H1 ys L1 t1 rl1 rv1 z1 => by
    cases e : Nat.ble ys.length 1000 with
    | false => rw [e] at z1; exact z1.elim
    | true =>
      rw [e] at z1
      have := Nat.le_of_ble_eq_true e
      refine ⟨small (by rw [← rv1.length]; exact this), fun p hp => ?_⟩
      exact k _ _ _ _ (t1.trans (TSt.new hp)) (rl1.newL hp rv1) (by rfl) (z1 p (rl1.none hp))⟩
theorem qe_callB {x : Str} {p : Pos} {id : String} {r : List Y → LHp → YK → Prop} (hc : CallR X (.builtin id) (upL X.g3 r)) (hg : Gl X x) (hm : X.mg x = none) (hv : bootBuiltins x = some (.builtin id)) (h : QA X (e :: es) tr)
    (hn : x ≠ "__name__" := by decide) (hd : (x == ("__debug__" : Str)) = false := by decide) (hs : starEach (e :: es) X.env = (false, eval e X.env) :: starEach es X.env := by rfl) (hp : (backTo pos (starEach es X.env)).any (·.1) = false := by rfl) :
    QE X (.Call (.Name x p) (e :: es) [] pos) (yCB r tr) := PE.imp (pe_callB hc hg hm hv h hn hd hs hp) fun σ H Q ⟨τ, L, Q3, rs, rl, z, k⟩ =>
  ⟨τ, L, _, rs, rl, z, fun vs H1 ys L1 t1 rl1 rv1 z1 => ⟨ys, L1, Q3, rv1, rl1, z1, k.ts t1⟩⟩
/-! ### slices -/
end
section
variable {X : Cx} {a b c e tg iter : Expr} {es : List Expr} {ta tb tc te : TE3} {tA tB : TT3} {tr : TA3} {pos : Pos} {st : Stmt} {rest body orelse : List Stmt} {t u : TS3}
theorem qss_nil : QSs X [] yNext := PSs.imp pss_nil fun D σ H ⟨τ, L, D3, rs, rl, z, k⟩ => k.nx _ H _ L (TSt.refl _) rs rl z
theorem qss_one (h : QS X st t) : QSs X [st] t := pss_one h
theorem qss_cons (h : QS X st t) (k : QSs X rest u) : QSs X (st :: rest) (ySeq t u) := PSs.imp (pss_cons h k) fun D σ H ⟨τ, L, D3, rs, rl, z, k⟩ =>
  ⟨τ, L, { D3 with nx := u D3 }, rs, rl, z, fun σ1 H1 τ1 L1 t1 rs1 rl1 z1 => ⟨τ1, L1, D3, rs1, rl1, z1, k.ts t1⟩, k.rt, k.bk, k.ct⟩
theorem qs_expr (h : QE X e te) (hs : swapsWith e none pos.line X.env = pure false := by rfl) : QS X (.Expr e pos) (yDrop te) := PS.imp (ps_expr h hs) fun D σ H ⟨τ, L, D3, rs, rl, z, k⟩ =>
  ⟨τ, L, _, rs, rl, z, fun v H1 y L1 t1 rl1 rv1 z1 => k.nx _ H1 _ L1 t1 (rs.ts t1) rl1 z1⟩
theorem qs_ret (h : QE X e te) : QS X (.Return (some e) pos) (yRet te) := PS.imp (ps_ret h) fun D σ H ⟨τ, L, D3, rs, rl, z, k⟩ => ⟨τ, L, _, rs, rl, z, k.rt⟩
theorem qs_if (h : QT X c tA) (ha : QSs X body t) (hb : QSs X orelse u) : QS X (.If c body orelse pos) (yIfS tA t u) := PS.imp (ps_if h ha hb) fun D σ H ⟨τ, L, D3, rs, rl, z, k⟩ =>
  ⟨τ, L, _, rs, rl, z, fun c H1 L1 t1 rl1 z1 => by
    cases c with
    | true => rw [if_pos rfl]; exact ⟨τ, L1, D3, rs.ts t1, rl1, z1, k.ts t1⟩
    | false => rw [if_neg Bool.false_ne_true]; exact ⟨τ, L1, D3, rs.ts t1, rl1, z1, k.ts t1⟩⟩
theorem qs_set {i : Nat} {x : Str} {pos' : Pos} (hN : X.N.Nodup) (hix : X.N[i]? = some x) (hx : Loc X.env.scope x) (h : QE X e te) (hsw : swapsWith e (some (.Name x pos')) pos.line X.env = pure false := by rfl)
    (hfn : X.fn x = true ∨ X.env.scope.names.lookup x = some .local := by first | exact .inl rfl | exact .inr rfl | assumption) : QS X (.Assign [.Name x pos'] e pos) (yAsg te (gyName i)) := PS.imp (ps_set hN hix hx h hsw hfn) fun D σ H ⟨τ, L, D3, rs, rl, z, k⟩ =>
  ⟨τ, L, _, rs, rl, z, fun v H1 y L1 t1 rl1 rv1 z1 => k.nx _ H1 _ L1 t1 (show RelS _ _ _ (set3 τ i y) by rw [set3_eq]; exact (rs.ts t1).set rv1) rl1 z1⟩
theorem PG.imp {X : Cx} {e : Expr} {t u : TG} (h : PG X e t) (q : ∀ v σ H Q, u v σ H Q → t v σ H Q) : PG X e u := fun pins s σ H x v Q I r z => h pins s σ H x v Q I r (q _ _ _ _ z)
theorem PGs.imp {X : Cx} {e : List Expr} {t u : TGs} (h : PGs X e t) (q : ∀ v σ H Q, u v σ H Q → t v σ H Q) : PGs X e u := fun pins s σ H x v Q I r z => h pins s σ H x v Q I r (q _ _ _ _ z)
theorem qg_name {i : Nat} {x : Str} (hN : X.N.Nodup) (hix : X.N[i]? = some x) (hx : Loc X.env.scope x) (hfn : X.fn x = true ∨ X.env.scope.names.lookup x = some .local := by first | exact .inl rfl | exact .inr rfl | assumption) : QG X (.Name x pos) (gyName i) :=
  PG.imp (pg_name hN hix hx hfn) fun v σ H Q ⟨y, τ, L, Q3, rv, rs, rl, z, k⟩ => k _ H _ L (TSt.refl _) (show RelS _ _ _ (set3 τ i y) by rw [set3_eq]; exact rs.set rv) rl z
theorem qgs_nil : QGs X [] gyNil := PGs.imp pgs_nil fun vs σ H Q ⟨ys, τ, L, Q3, rv, rs, rl, z, k⟩ => by
  cases ys with
  | nil => exact ⟨rv, k _ H _ L (TSt.refl _) rs rl z⟩
  | cons y r => exact z.elim
theorem qgs_cons {g : TG3} {gs : TGs3} (h : QG X e g) (hs : QGs X es gs) (he : (assignEach (e :: es) X.env).map (·.2) = assign e X.env :: (assignEach es X.env).map (·.2) := by rfl) : QGs X (e :: es) (gyCons g gs) :=
  PGs.imp (pgs_cons h hs he) fun vs σ H Q ⟨ys, τ, L, Q3, rv, rs, rl, z, k⟩ => by
  cases ys with
  | nil => exact z.elim
  | cons y r =>
    obtain ⟨x, xs, rfl, r1, r2⟩ := rv
    exact ⟨x, xs, rfl, y, τ, L, _, r1, rs, rl, z, fun σ1 H1 τ1 L1 t1 rs1 rl1 z1 => ⟨r, τ1, L1, Q3, r2.ts t1, rs1, rl1, z1, k.ts t1⟩⟩
theorem qg_tup {gs : TGs3} {kk n : Nat} (hc : X.calm = true) (h : QGs X es gs) (h1 : (assignEach es X.env).length = n := by rfl) (h2 : (assignEach es X.env).findIdx? (·.1) = none := by rfl) : QG X (.Tuple es kk pos) (gyTup n gs) :=
  PG.imp (pg_tup hc h h1 h2) fun v σ H Q ⟨y, τ, L, Q3, rv, rs, rl, z, k⟩ => by
  cases y with
  | tup ys =>
    obtain ⟨a, xs, rfl, sq, r⟩ := rv
    have z' : (match ys.length == n with | true => gs ys τ L Q3 | false => False) := z
    split at z'
    · rename_i e
      exact ⟨a, xs, rfl, sq, by rw [← r.length]; exact beq_iff_eq.mp e, ys, τ, L, Q3, r, rs, rl, z', k⟩
    · exact z'.elim
  | _ => exact z.elim
/-! ### loops -/
theorem qs_for {g : TG3} {wi : TI3} (hp : PassesOwn (model X.prog X.w) X.A X.env X.xe) (hc : X.calm = true) (hi : QI X tg iter wi) (hg : QG X tg g) (hb : QSs X body t) (hs : ∀ x, foldedSetIterable iter X.env x = pure x := by intro _; rfl) :
    QS X (.For tg iter body [] pos) (yFor wi g t) := PS.imp (ps_for hp hc hi hg hb hs) fun D σ H ⟨τ, L, D3, rs, rl, z, k⟩ => by
  refine ⟨τ, L, _, rs, rl, z, fun J H1 ys keep L1 t1 rl1 yl zz => ?_⟩
  obtain ⟨W, w0, wk, turn, fin⟩ := forK_inv zz
  refine ⟨fun i m σ' H' => ∃ τ' L', i + m = ys.length ∧ TSt H1 H' ∧ RelS X.g3 H' σ' τ' ∧ RelH X.g3 H' L' ∧ W i τ' L', ⟨ys.length, τ, L1, by omega, TSt.refl _, rs.ts t1, rl1, w0⟩, ?_⟩
  rintro i m σ2 H2 ⟨τ2, L2, him, t2, rs2, rl2, w2⟩
  by_cases hlt : i < ys.length
  · refine .inr ⟨yl.go i H2 L2 t2 rl2 (wk i τ2 L2 w2) hlt, fun σ' H' => ∃ τ' L', TSt H1 H' ∧ RelS X.g3 H' σ' τ' ∧ RelH X.g3 H' L' ∧ W (i + 1) τ' L', ?_, ?_⟩
    · rintro σ' H' ⟨τ', L', t', rs', rl', w'⟩
      exact ⟨m - 1, by omega, τ', L', by omega, t', rs', rl', w'⟩
    · intro x H3 y3
      have ey : ys[i]? = some ys[i] := List.getElem?_eq_getElem hlt
      obtain ⟨t3, rl3, rv3⟩ := yl.yld i H2 L2 x H3 _ t2 rl2 (wk i τ2 L2 w2) ey y3
      refine ⟨ys[i], τ2, L2, _, rv3, rs2.ts t3, rl3, turn i _ τ2 L2 ey w2, fun σ4 H4 τ4 L4 t4 rs4 rl4 z4 => ?_⟩
      have nx : AftS X.g3 H4 (Frg (W (i + 1))) (fun σ' H' => ∃ τ' L', TSt H1 H' ∧ RelS X.g3 H' σ' τ' ∧ RelH X.g3 H' L' ∧ W (i + 1) τ' L') := fun σ' H' τ' L' t' rs' rl' ⟨L5, s5, n'⟩ => ⟨τ', L5, ((t2.trans t3).trans t4).trans t', rs', rl'.sub s5, n'⟩
      have k2 := k.ts (t1.trans ((t2.trans t3).trans t4))
      exact ⟨τ4, L4, _, rs4, rl4, z4, nx, k2.rt, k2.nx, nx⟩
  · have e : i = ys.length := by omega
    subst e
    exact .inl ⟨yl.stop H2 L2 t2 rl2 (wk _ τ2 L2 w2), k.nx _ H2 _ L2 (t1.trans t2) rs2 rl2 (fin τ2 L2 w2)⟩
theorem PI.imp {X : Cx} {tg e : Expr} {t u : TI} (h : PI X tg e t) (q : ∀ σ H Q, u σ H Q → t σ H Q) : PI X tg e u := fun pins s σ H Q I z => h pins s σ H Q I (q σ H Q z)
theorem yields_list {G : G3} {H₀ : Hp} {a : Addr} {ys : List Y} {keep : LHp → Prop} (h : ∀ H L, TSt H₀ H → RelH G H L → keep L → ∃ xs, SqL G.K H a xs ∧ RVs G H ys xs) : Yields G H₀ (Itl G.K a) ys keep where
  go := fun i H L t rl kp hi => by
    obtain ⟨xs, sq, r⟩ := h H L t rl kp
    have : i < xs.length := by rw [← r.length]; exact hi
    exact ⟨xs, xs[i], sq, List.getElem?_eq_getElem this⟩
  yld := fun i H L x H' y t rl kp hy ⟨e, f⟩ => by
    subst e
    obtain ⟨xs, sq, r⟩ := h _ L t rl kp
    obtain ⟨x', e', rv⟩ := r.get hy
    have := f xs sq
    rw [e'] at this; cases this
    exact ⟨TSt.refl _, rl, rv⟩
  stop := fun H L t rl kp => by
    obtain ⟨xs, sq, r⟩ := h H L t rl kp
    exact ⟨xs, sq, by rw [r.length]; exact Nat.le_refl _⟩
theorem qi_list (h : QE X e te) : QI X tg e (iyList te) := PI.imp (pi_list h) fun σ H R ⟨τ, L, R3, rs, rl, z, k⟩ => by
  refine ⟨τ, L, _, rs, rl, z, fun v H1 y L1 t1 rl1 rv1 z1 => ?_⟩
  cases y with
  | ref a =>
    obtain ⟨ys, keep, es, kp, hk, z2⟩ := lisK_inv z1
    have hy : ∀ H L, TSt H1 H → RelH X.g3 H L → keep L → ∃ xs, SqL X.K H a xs ∧ RVs X.g3 H ys xs := fun H L _ rl e => seq_list rl (hk L e)
    obtain ⟨xs, sq, _⟩ := hy H1 L1 (TSt.refl _) rl1 kp
    exact ⟨a, rv1, ⟨xs, sq⟩, k _ H1 ys _ L1 t1 rl1 (yields_list hy) z2⟩
  | sq ys =>
    obtain ⟨a, xs, e, sf, r⟩ := rv1
    exact ⟨a, e, ⟨xs, sf.sq⟩, k _ H1 ys (fun _ => True) L1 t1 rl1 (yields_list fun H L t _ _ => ⟨xs, (sf.ts t).sq, r.ts t⟩) z1⟩
  | _ => exact z1.elim
theorem yields_ints {G : G3} {H₀ : Hp} (lo : Int) (n : Nat) : Yields G H₀ (Itr lo n) (intsY lo n) (fun _ => True) where
  go := fun i H L t rl kp hi => show i < n by simpa [intsY] using hi
  yld := fun i H L x H' y t rl kp hy ⟨e, f⟩ => by
    subst e f
    refine ⟨TSt.refl _, rl, ?_⟩
    unfold intsY at hy
    rw [List.getElem?_map] at hy
    obtain ⟨z, ez, e⟩ := Option.map_eq_some_iff.mp hy
    have := List.getElem?_range (i := i) (n := n) (by
      by_cases c : i < n
      · exact c
      · rw [List.getElem?_eq_none (by simp; omega)] at ez; cases ez)
    rw [this] at ez; cases ez
    subst e
    rfl
  stop := fun H L t rl kp => by simp [intsY, Itr]
theorem qi_range1 {p : Pos} (hg : Gl X "range") (hm : X.mg "range" = none) (h : QA X [a] tr) (hs : starEach [a] X.env = [(false, eval a X.env)] := by rfl) : QI X tg (.Call (.Name "range" p) [a] [] pos) (iyRng1 tr) :=
  PI.imp (pi_range1 hg hm h hs) fun σ H R ⟨τ, L, R3, rs, rl, z, k⟩ => by
  refine ⟨τ, L, _, rs, rl, z, fun vs H1 ys L1 t1 rl1 rv1 z1 => ?_⟩
  split at z1
  · rename_i j
    obtain ⟨x, rfl, r⟩ := rv1.inv1
    cases r
    exact ⟨j, rfl, z1.1.1, z1.1.2, k _ H1 _ _ L1 t1 rl1 (yields_ints 0 _) z1.2⟩
  · exact z1.elim
end
end L3

namespace L3
open PySem L2
section
variable {X : Cx} {scope : Scope} {T : List Str} {elt target iter c e o : Expr} {ifs es : List Expr} {wi : TI3} {g : TG3} {tA : TT3} {te to : TE3} {tr : TA3} {pos : Pos}
/-! ### calls of defs -/
def dn (G : G3) (sp : Sp3) : Sp := fun vs H Q _ => ∃ ys L Q3, RVs G H ys vs ∧ RelH G H L ∧ sp ys L Q3 ∧ Aft G H Q3 Q
abbrev Cal3 (P : Program) (w : World) (K : PySem.W.Frag) (mg : Str → Option Value) (base : Heap) (k : Nat) (x : Str) (ps : List Str) (sp : Sp3) : Prop := Cal P w K mg base k x ps (dn ⟨K, P, w⟩ sp)
abbrev Fn3 (P : Program) (w : World) (K : PySem.W.Frag) (mg : Str → Option Value) (base : Heap) (k : Nat) (f : Addr) (fd : FuncData) (ps : List Str) (sp : Sp3) : Prop := FnOk P w K mg base CX0 k f fd ps (dn ⟨K, P, w⟩ sp)
theorem qe_c {k : Nat} {x : Str} {ps : List Str} {sp : Sp3} {p : Pos} (c : Cal3 X.prog X.w X.K X.mg X.base k x ps sp) (hr : Room k X.A) (hg : Gl X x) (ha : QA X (e :: es) tr) (hdb : (x == ("__debug__" : Str)) = false := by decide)
    (he : starEach (e :: es) X.env = (false, eval e X.env) :: starEach es X.env := by rfl) (hpl : (backTo pos (starEach es X.env)).any (·.1) = false := by rfl) : QE X (.Call (.Name x p) (e :: es) [] pos) (yCall sp tr) :=
  PE.imp (pe_c c hr hg ha hdb he hpl) fun σ H Q ⟨τ, L, Q3, rs, rl, z, k⟩ =>
  ⟨τ, L, _, rs, rl, z, fun vs H1 ys L1 t1 rl1 rv1 z1 => ⟨ys, L1, Q3, by rw [List.append_nil]; exact rv1, rl1, z1, k.ts t1⟩⟩
/-- what is told behind a def: what it made besides may be forgotten -/
def Fin3 (Q : YK) : YK := fun y L => ∃ L2, LSub L2 L ∧ Q y L2
def start3 (N : List Str) (ys : List Y) : St3 := ys.map some ++ List.replicate (N.length - ys.length) none
theorem start_rel {G : G3} {H : Hp} {N : List Str} {ys : List Y} {vs : List V} (r : RVs G H ys vs) : RelS G H (L2.start N vs) (start3 N ys) := by
  unfold L2.start start3
  rw [← r.length]
  refine RelS.more ⟨by simp [r.length], fun i y e => ?_⟩ _
  rw [List.getElem?_map] at e
  obtain ⟨y', e1, e2⟩ := Option.map_eq_some_iff.mp e
  cases e2
  obtain ⟨x, ex, rx⟩ := r.get e1
  exact ⟨x, by rw [List.getElem?_map, ex]; rfl, rx⟩
theorem ok3 {P : Program} {w : World} {K : PySem.W.Frag} {mg : Str → Option Value} {base : Heap} {x qual : Str} {st : Stmt} {f : Addr} {fd : FuncData} {N ps : List Str} {k : Nat} {sp : Sp3} (F : Fun K x qual st f fd) (S : FnScope N ps (defScope st)) (len : ∀ ys L Q, sp ys L Q → ys.length = ps.length)
    (hbody : ∀ (cdv : Value) (A : Around) (outer : List Env) (s : Shared) (H : Hp) (E : XK), Room k (A.deeper (PyProof.Rows.envOfC qual (defScope st) s.heap.objs.size f cdv)) →
      ∃ t, QSs (cxOf CX0 P w K mg base N qual (defScope st) f cdv A outer s H E).nox (defBody st) t ∧ ∀ ys L Q, sp ys L Q → t { nx := fun _ L' => Fin3 Q .non L', rt := Fin3 Q } (start3 N ys) L) : Fn3 P w K mg base (k + 1) f fd ps sp := by
  refine F.ok S (fun vs H Q E ⟨ys, L, Q3, rv, rl, z, _⟩ => by rw [← rv.length]; exact len ys L Q3 z) fun cdv A outer s H vs Q E hr ⟨ys, L, Q3, rv, rl, z, k⟩ => ?_
  obtain ⟨t, ht, q⟩ := hbody cdv A outer s H E hr
  refine ⟨_, ht, start3 N ys, L, _, start_rel rv, rl, q ys L Q3 z, ?_⟩
  refine ⟨fun σ H' τ L' t' rs' rl' ⟨L2, s2, q2⟩ => k .non H' .non L2 t' (rl'.sub s2) (by rfl) q2, fun v H' y L' t' rl' rv' ⟨L2, s2, q2⟩ => k v H' y L2 t' (rl'.sub s2) rv' q2, fun _ _ _ _ _ _ _ z => z.elim, fun _ _ _ _ _ _ _ z => z.elim⟩
/-! ### methods of lists -/
def upM (G : G3) (r : Y → List Y → LHp → YK → Prop) : V → List V → Hp → VK → Prop := fun x xs H Q => ∃ y ys L Q3, RV G H y x ∧ RVs G H ys xs ∧ RelH G H L ∧ r y ys L Q3 ∧ Aft G H Q3 Q
theorem q_append : MtM X "list.append" (upM X.g3 yAppend) := MtM.imp mt_append fun x xs H Q ⟨y, ys, L, Q3, r1, r2, rl, z, k⟩ => by
  unfold yAppend at z
  split at z
  · rename_i a v
    obtain ⟨zs, e, z⟩ := lstK_inv z
    obtain ⟨us, e2, r⟩ := rl a _ e
    obtain ⟨v', rfl, rv⟩ := r2.inv1
    exact ⟨a, us, v', r1, rfl, e2, by rw [← r.length]; exact z.1, k _ _ _ _ (TSt.lst e2) (rl.setL e2 (r.app (RVs.one rv))) (by rfl) z.2⟩
  · exact z.elim
theorem tyV_seq {G : G3} {H : Hp} {L : LHp} {a : Addr} {ys : List Y} (rl : RelH G H L) (h : seqOf L (.ref a) = some ys) : tyV G.K "list" (.ref a) H := by
  obtain ⟨xs, sq, _⟩ := seq_list rl h
  exact .inl ⟨rfl, xs, sq⟩
def yBL (r : Y → List Y → LHp → YK → Prop) (to : TE3) (t : TA3) (τ : St3) (L : LHp) (Q : YK) : Prop := to τ L fun x L1 => match x with
  | .ref a => seqK L1 (.ref a) fun _ => t τ L1 fun xs L2 => r (.ref a) xs L2 Q
  | _ => False
theorem qe_bl1 {id : String} {name : Str} {apos cpos : Pos} {r : Y → List Y → LHp → YK → Prop} (h2 : Slot "list" name id) (h3 : typeOf (.builtin id) = pure (.type "method_descriptor")) (hm : MtM X id (upM X.g3 r)) (ho : QE X o to) (ha : QA X (e :: es) tr)
    (h4 : attributeBase o name X.env (eval o X.env) = eval o X.env := by rfl)
    (h5 : ((backTo cpos (starEach (e :: es) X.env)).all (fun x => !x.1) && (backToKw cpos (keywordEach [] X.env)).all (fun x => x.1.isSome) && decide ((e :: es).length + ([] : List Keyword).length + (if ([] : List Keyword).isEmpty = true then 0 else 1) < 30)) = true := by rfl)
    (h6 : (apos.endLine == cpos.line) = true := by rfl) (h7 : starEach (e :: es) X.env = (false, eval e X.env) :: starEach es X.env := by rfl) (h8 : (backTo cpos (starEach es X.env)).any (·.1) = false := by rfl) :
    QE X (.Call (.Attribute o name apos) (e :: es) [] cpos) (yBL r to tr) := PE.imp (pe_bm PySem.F.plainAttrs_list h2 h3 hm ho ha h4 h5 h6 h7 h8) fun σ H Q ⟨τ, L, Q3, rs, rl, z, k⟩ =>
  ⟨τ, L, _, rs, rl, z, fun v H1 y L1 t1 rl1 rv1 z1 => by
    split at z1
    · rename_i a
      obtain ⟨ys, es, z1⟩ := seqK_inv z1
      exact ⟨by cases rv1; exact tyV_seq rl1 es, τ, L1, _, rs.ts t1, rl1, z1, fun vs H2 ys L2 t2 rl2 rv2 z2 => ⟨.ref a, ys, L2, Q3, rv1.ts t2, rv2, rl2, z2, k.ts (t1.trans t2)⟩⟩
    · exact z1.elim⟩
theorem qe_bl0 {id : String} {name : Str} {apos cpos : Pos} {r : Y → List Y → LHp → YK → Prop} (h2 : Slot "list" name id) (h3 : typeOf (.builtin id) = pure (.type "method_descriptor")) (hm : MtM X id (upM X.g3 r)) (ho : QE X o to)
    (h4 : attributeBase o name X.env (eval o X.env) = eval o X.env := by rfl) (h6 : (apos.endLine == cpos.line) = true := by rfl) :
    QE X (.Call (.Attribute o name apos) [] [] cpos) (yBL r to yNil) := PE.imp (pe_bm0 PySem.F.plainAttrs_list h2 h3 hm ho h4 h6) fun σ H Q ⟨τ, L, Q3, rs, rl, z, k⟩ =>
  ⟨τ, L, _, rs, rl, z, fun v H1 y L1 t1 rl1 rv1 z1 => by
    split at z1
    · rename_i a
      obtain ⟨ys, es, z1⟩ := seqK_inv z1
      exact ⟨by cases rv1; exact tyV_seq rl1 es, .ref a, [], L1, Q3, rv1, rfl, rl1, z1, k.ts t1⟩
    · exact z1.elim⟩
theorem qe_append {apos cpos : Pos} (ho : QE X o to) (ha : QA X (e :: es) tr) (h4 : attributeBase o "append" X.env (eval o X.env) = eval o X.env := by rfl)
    (h5 : ((backTo cpos (starEach (e :: es) X.env)).all (fun x => !x.1) && (backToKw cpos (keywordEach [] X.env)).all (fun x => x.1.isSome) && decide ((e :: es).length + ([] : List Keyword).length + (if ([] : List Keyword).isEmpty = true then 0 else 1) < 30)) = true := by rfl)
    (h6 : (apos.endLine == cpos.line) = true := by rfl) (h7 : starEach (e :: es) X.env = (false, eval e X.env) :: starEach es X.env := by rfl) (h8 : (backTo cpos (starEach es X.env)).any (·.1) = false := by rfl) :
    QE X (.Call (.Attribute o "append" apos) (e :: es) [] cpos) (yBL yAppend to tr) := qe_bl1 PySem.F.slot_list_append PySem.F.type_list_append q_append ho ha h4 h5 h6 h7 h8
end
end L3

namespace L3
open PySem L2
abbrev ySub : R23 := yI0 fun i j => .int (i - j)
abbrev yMul : R23 := yI CMul fun i j => .int (i * j)
abbrev yFdiv : R23 := yI CDiv fun i j => .int (i / j)
abbrev yMod : R23 := yI (fun _ j => 0 < j) fun i j => .int (i % j)
abbrev yPow : R23 := yI CPow fun i j => .int (i ^ j.toNat)
abbrev yLt : R23 := yI0 fun i j => .bl (decide (i < j))
abbrev yLe : R23 := yI0 fun i j => .bl (decide (i ≤ j))
abbrev yGt : R23 := yI0 fun i j => .bl (decide (j < i))
/-! ### a dict of written texts -/
/-! ### an item of a written list, of a written dict -/
/-! ### the forms one uses -/
theorem ints_at {lo : Int} {n i : Nat} {y : Y} (h : (intsY lo n)[i]? = some y) : i < n ∧ y = .int (lo + i) := by
  unfold intsY at h
  rw [List.getElem?_map] at h
  obtain ⟨z, ez, e⟩ := Option.map_eq_some_iff.mp h
  have hi : i < n := by
    by_cases c : i < n
    · exact c
    · rw [List.getElem?_eq_none (by simp; omega)] at ez; cases ez
  rw [List.getElem?_range hi] at ez; cases ez
  exact ⟨hi, e.symm⟩
theorem ints_len (lo : Int) (n : Nat) : (intsY lo n).length = n := by simp [intsY]
theorem for_rng {lo : Int} {n : Nat} {g : TG3} {tb : TS3} {D : Ends3} {τ : St3} {L : LHp} (W : Nat → St3 → LHp → Prop) (h0 : W 0 τ L)
    (hs : ∀ i τ L, i < n → W i τ L → g (.int (lo + i)) τ L fun τ2 L2 => tb { D with nx := Frg (W (i + 1)), ct := Frg (W (i + 1)), bk := D.nx } τ2 L2) (hd : ∀ τ L, W n τ L → D.nx τ L) : forK (intsY lo n) (fun _ => True) g tb D τ L := by
  refine forK_mk ⟨W, h0, fun _ _ _ _ => trivial, fun i y τ L e w => ?_, fun τ L w => hd τ L (by rw [ints_len] at w; exact w)⟩
  obtain ⟨hi, rfl⟩ := ints_at e
  exact hs i τ L hi w
/-- over a list that the body leaves as it is -/
theorem for_lst {g : TG3} {tb : TS3} {D : Ends3} {τ : St3} {L : LHp} {a : Addr} {ys : List Y} (h : seqOf L (.ref a) = some ys) (W : Nat → St3 → LHp → Prop) (h0 : W 0 τ L) (hk : ∀ i τ L', W i τ L' → L' a = L a)
    (hs : ∀ i y τ L, ys[i]? = some y → W i τ L → g y τ L fun τ2 L2 => tb { D with nx := Frg (W (i + 1)), ct := Frg (W (i + 1)), bk := D.nx } τ2 L2) (hd : ∀ τ L, W ys.length τ L → D.nx τ L) :
    lisK L a fun ys keep L1 => forK ys keep g tb D τ L1 := lisK_of (seqOf_inv h) fun keep kp => forK_mk ⟨W, h0, fun i τ L' w => kp L' (hk i τ L' w), hs, hd⟩
/-- a body's run -/
def run3 (t : TS3) (n : Nat) (ys : List Y) (L : LHp) (Q : YK) : Prop := t { nx := fun _ L' => Fin3 Q .non L', rt := Fin3 Q } (ys.map some ++ List.replicate (n - ys.length) none) L
theorem fin {Q : YK} {y : Y} {L : LHp} (h : Q y L) : Fin3 Q y L := ⟨L, LSub.refl L, h⟩
theorem finS {Q : YK} {y : Y} {L L' : LHp} (s : LSub L L') (h : Q y L) : Fin3 Q y L' := ⟨L, s, h⟩
end L3
namespace L3
open PySem L2
/-! ### the law itself -/
def sp_law : Sp3 := fun ys L Q => ∃ ns : List Int, ys = [.sq (ns.map Y.int)] ∧ ns.length ≤ 63 ∧ L = (fun _ => none) ∧ ∀ L', Q (.bl true) L'
def spTop (K : PySem.W.Frag) : Sp := fun vs H Q _ => ∃ (a : Addr) (ns : List Int), vs = [.ref a] ∧ SqF K H a (ns.map V.int) ∧ ns.length ≤ 63 ∧ ∀ H', Q (.bl true) H'
theorem rvs_ints {G : G3} {H : Hp} : ∀ ns : List Int, RVs G H (ns.map Y.int) (ns.map V.int)
  | [] => rfl
  | _ :: r => ⟨_, _, rfl, rfl, rvs_ints r⟩
theorem top_dn {G : G3} {vs : List V} {H : Hp} {Q : VK} {E : XK} (h : spTop G.K vs H Q E) : dn G sp_law vs H Q E := by
  obtain ⟨a, ns, rfl, hs, hl, q⟩ := h
  refine ⟨[.sq (ns.map Y.int)], fun _ => none, fun y _ => y = .bl true, RVs.one ⟨a, _, rfl, hs, rvs_ints ns⟩, (fun _ _ e => by cases e), ⟨ns, rfl, hl, rfl, fun _ => rfl⟩, ?_⟩
  rintro v H' y L' _ _ rv rfl
  cases rv
  exact q H'
theorem top_start : ∀ (K : PySem.W.Frag) (H : Hp) (a : Addr) (ns : List Int), ns.length ≤ 63 → Only H → SqL K H a (ns.map V.int) → spTop K [.ref a] H (fun v _ => v = .bl true) fun _ _ _ => False := by
  intro K H a ns hl hO hS
  refine ⟨a, ns, rfl, ?_, hl, fun _ => rfl⟩
  rcases hS with (h | ⟨o, h⟩) | h
  · rcases hO a with z | ⟨o, xs, z⟩ <;> rw [h] at z <;> cases z
  · exact .inl ⟨o, h⟩
  · exact .inr h
end L3

namespace L2
open PySem PySem.Spec PyProof.Rows
/-! ### records of one's own that turn, several at once; with a new thing laid -/
section
variable {X : Cx} {pins : List (Addr × Obj)} {σ : L2.St} {H : Hp} {s : Shared} {h' : Heap}
theorem hok_turned (I : Inv X pins σ H s) {fp : List Addr} (hf : ∀ b ∈ fp, H b = none) (k : ∀ b o, b ∉ fp → s.heap.get? b = some o → h'.get? b = some o) : HOk X.prog X.w H h' := fun b u e => by
  refine (I.hok b u e).stay (fun c v hc q => k c v (fun z => ?_) q) (fun _ q => q) fun _ _ q => q
  have hn := hf c z
  rcases hc with w | w
  · rw [w, e] at hn; cases hn
  · rw [w] at hn; cases hn
theorem un_turned {fs fp : List Addr} {h : Heap} (k : ∀ b o, b ∉ fp → h.get? b = some o → h'.get? b = some o) : Un fs fp H H h h' :=
  ⟨fun b o q _ _ x => k b o x q, fun b o q _ _ x => ⟨o.slots, k b o x q⟩, fun _ _ _ n _ => n, fun b o q x => ⟨o, k b o x q⟩, fun _ _ q => q, fun _ _ _ q => q, fun b ps q => ⟨#[], by rw [q]; simp⟩⟩
theorem Inv.turnedL {t' : Nat} {fp : List Addr} (I : Inv X pins σ H s) (k : ∀ b o, b ∉ fp → s.heap.get? b = some o → h'.get? b = some o) (hf : ∀ b ∈ fp, FpOk X pins H b) : Inv X pins σ H { s with heap := h', toks := t' } :=
  I.call' (s' := { s with heap := h', toks := t' }) (ch := fp) rfl (un_turned k) (hok_turned I (fun b hb => (hf b hb).1) k) I.bare fun b hb => ⟨(hf b hb).2.2.2.1, (hf b hb).2.1, (hf b hb).2.2.2.2.1, (hf b hb).2.2.2.2.2⟩
theorem Inv.turnedN {t' : Nat} {fp : List Addr} {a : Addr} {o : HO} (I : Inv X pins σ H s) (k : ∀ b o, b ∉ fp → s.heap.get? b = some o → h'.get? b = some o) (hf : ∀ b ∈ fp, FpOk X pins H b) (ha : s.heap.objs.size ≤ a)
    (new : ObjOk X.prog X.w (upd H a o) h' a o) : Inv X pins σ (upd H a o) { s with heap := h', toks := t' } := by
  have hn : H a = none := I.hok.fresh ha
  have lt : ∀ b ob, s.heap.get? b = some ob → b ≠ a := fun b ob q => Nat.ne_of_lt (Nat.lt_of_lt_of_le (Heap.lt_size q) ha)
  refine I.call' (s' := { s with heap := h', toks := t' }) (ch := fp) rfl ?_ ?_ I.bare fun b hb => ⟨(hf b hb).2.2.2.1, (hf b hb).2.1, (hf b hb).2.2.2.2.1, (hf b hb).2.2.2.2.2⟩
  · exact ⟨fun b ob q _ _ x => k b ob x q, fun b ob q _ _ x => ⟨ob.slots, k b ob x q⟩, fun b ob q n _ => by rw [upd_ne (lt b ob q)]; exact n, fun b ob q x => ⟨ob, k b ob x q⟩,
      fun b xs q => by rw [upd_ne (ne_of_none q hn)]; exact q, fun b ob u q => by rw [upd_ne (ne_of_none q hn)]; exact q, fun b ps q => ⟨#[], by rw [upd_ne (ne_of_none q hn), q]; simp⟩⟩
  · intro b u e
    by_cases hb : b = a
    · subst hb; rw [upd_same] at e; cases e; exact new
    · rw [upd_ne hb] at e
      have ok := hok_turned I (h' := h') (fun b hb => (hf b hb).1) k b u e
      exact ok.stay (fun _ _ _ q => q) (fun c q => by rw [upd_ne (ne_of_none q hn)]; exact q) fun c xs q => by rw [upd_ne (ne_of_none q hn)]; exact q
end
/-! ### enumerate over a list -/
def Ite (K : PySem.W.Frag) (a : Addr) : It :=
  ⟨fun i H => ∃ xs x, SqL K H a xs ∧ xs[i]? = some x, fun i H v H' => ∃ p x, H p = none ∧ v = .ref p ∧ H' = upd H p (.tup [.int i, x]) ∧ ∀ xs, SqL K H a xs → xs[i]? = some x, fun i H => ∃ xs, SqL K H a xs ∧ xs.length ≤ i⟩
theorem turn_enum {P : Program} {w : World} {K : PySem.W.Frag} {elts : List Expr} {x1 : Nat} {tp : Pos} (a e it : Addr) (hne : e ≠ it) : Turn P w K (.Tuple elts x1 tp) (Ite K a) [e, it] e (fun i h => (∃ old, IsEnum h e it i old) ∧ h.IsListIter it a i) where
  mem := by simp
  obj := fun i h ⟨⟨old, he⟩, hi⟩ b hb => by
    rcases List.mem_cons.mp hb with rfl | hb
    · exact ⟨_, he, fun v z => by cases z⟩
    · cases List.mem_singleton.mp hb
      obtain ⟨o, ho, hc, hd⟩ := hi
      exact ⟨o, ho, fun v z => by rw [hd] at z; cases z⟩
  keep := fun i h h' ⟨⟨old, he⟩, hi⟩ k => ⟨⟨old, k e (by simp) _ he⟩, hi.at fun o q => k it (by simp) o q⟩
  item := by
    intro X hP hw hK hc i pins s σ H E I hf ⟨⟨old, he⟩, hi⟩ hg
    subst hP hw hK
    obtain ⟨xs, x, hq, hx⟩ := hg
    obtain ⟨its, rv, p, hz⟩ := I.list hq
    obtain ⟨u, hu, ru⟩ := rv.get hx
    refine wpAny_pyNext_enum_item he hi p.isList (x := u) (by simpa using hu) hne fun h1 heo hi1 ht hz1 hk => ⟨.ref s.heap.objs.size, rfl, wpAny_letOwnedTupleGo_enum heo fun h2 he2 hs2 => ?_⟩
    have el : e < s.heap.objs.size := Heap.lt_size he
    have il : it < s.heap.objs.size := by obtain ⟨o, ho, _⟩ := hi; exact Heap.lt_size ho
    have kk : ∀ b o, b ∉ [e, it] → s.heap.get? b = some o → h2.get? b = some o := fun b o nb q => by
      have n1 : b ≠ e := fun z => nb (by simp [z])
      have n2 : b ≠ it := fun z => nb (by simp [z])
      exact hs2.extBut b o n1 (hk b o n1 n2 q)
    have tg : h2.get? s.heap.objs.size = some { cls := .type "tuple", data := .seq #[.int i s.toks, u] } := hs2.extBut _ _ (Nat.ne_of_gt el) ht
    refine ⟨.ref s.heap.objs.size, upd H s.heap.objs.size (.tup [.int i, x]), ?_, rfl, ⟨_, x, I.hok.fresh (Nat.le_refl _), rfl, rfl, fun ys hy => by rw [I.list_inj hy hq]; exact hx⟩, ⟨⟨_, he2⟩, hi1.at fun o q => hs2.extBut _ _ (Ne.symm hne) q⟩, fun b hb => ?_⟩
    · exact I.turnedN (t' := s.toks + 1) kk hf (Nat.le_refl _) ⟨by show 2 ≤ sizeLine; decide, [.int i s.toks, u], .cons ⟨_, rfl⟩ (.cons ru .nil), ⟨_, tg, rfl, _, rfl⟩⟩
    · have hb' : b < s.heap.objs.size := by rcases List.mem_cons.mp hb with rfl | hb; exact el; cases List.mem_singleton.mp hb; exact il
      rw [upd_ne (Nat.ne_of_lt hb')]
      exact (hf b hb).1
  done := by
    intro X hP hw hK hc i pins s σ H E I hf ⟨⟨old, he⟩, hi⟩ hg
    subst hP hw hK
    obtain ⟨xs, hq, hx⟩ := hg
    obtain ⟨its, rv, p, hz⟩ := I.list hq
    have hl := rv.length
    exact wpAny_pyNext_enum_end (I.ok.hd hc) he hi p.isList (by simp; omega) fun h1 eb => ⟨rfl, I.turnedL (t' := s.toks) (fp := [e, it]) (fun b o nb q => eb b o (fun z => nb (by simp [z])) q) hf⟩
  self := fun _ _ _ _ _ ⟨⟨_, he⟩, _⟩ h => wpAny_pyIter_enum he h
def iEnum (K : PySem.W.Frag) (ta : TA) : TI := fun σ H R => ta σ H fun vs H1 => ∃ a, vs = [.ref a] ∧ (∃ xs, SqL K H1 a xs) ∧ R (Ite K a) H1
theorem bt_enumerate : bootBuiltins "enumerate" = some (.type "enumerate") := by decide +kernel
theorem pi_enum {X : Cx} {a : Expr} {ta : TA} {elts : List Expr} {x1 : Nat} {tp p pos : Pos} (hg : Gl X "enumerate") (hm : X.mg "enumerate" = none) (ha : PA X [a] ta) (hs : starEach [a] X.env = [(false, eval a X.env)] := by rfl) :
    PI X (.Tuple elts x1 tp) (.Call (.Name "enumerate" p) [a] [] pos) (iEnum X.K ta) := by
  intro pins s σ H R I h
  refine Call_ (ld_blt I hg hm bt_enumerate (PyProof.Rows.callWith_type1 (thn (ha pos pins s σ H _ I h) fun us s1 ⟨vs, H1, I1, r1, q1⟩ => ?_) hs rfl))
  obtain ⟨l, e, ⟨xs, hq⟩, q⟩ := q1
  subst e
  obtain ⟨u, rfl, ru⟩ := vals1 r1
  cases ru
  obtain ⟨its, rv, pl, hz⟩ := I1.list hq
  refine call_enumerate_list pl.isList fun h1 he hi hsz hk => ?_
  have I2 : Inv X pins σ H1 { s1 with heap := h1 } := I1.kept (t' := s1.toks) hk
  refine wpAny_pyIter_enum (s := { s1 with heap := h1 }) he ?_
  refine ⟨s1.heap.objs.size + 1, [s1.heap.objs.size + 1, s1.heap.objs.size], _, _, H1, rfl, I2, turn_enum l _ _ (Nat.succ_ne_self _), ⟨⟨_, he⟩, hi⟩, fun b hb => ?_, q⟩
  have hb' : s1.heap.objs.size ≤ b := by rcases List.mem_cons.mp hb with rfl | hb; exact Nat.le_succ _; cases List.mem_singleton.mp hb; exact Nat.le_refl _
  exact I1.fpOk hb' (I1.hok.fresh hb')
end L2
namespace L3
open PySem L2
theorem yields_enum {G : G3} {H₀ : Hp} {a : Addr} {ys : List Y} {keep : LHp → Prop} (h : ∀ H L, TSt H₀ H → RelH G H L → keep L → ∃ xs, SqL G.K H a xs ∧ RVs G H ys xs) : Yields G H₀ (Ite G.K a) (ys.zipIdx.map fun p => Y.tup [.int (p.2 : Nat), p.1]) keep where
  go := fun i H L t rl kp hi => by
    obtain ⟨xs, sq, r⟩ := h H L t rl kp
    have : i < xs.length := by rw [← r.length]; simpa using hi
    exact ⟨xs, xs[i], sq, List.getElem?_eq_getElem this⟩
  yld := fun i H L x H' y t rl kp hy ⟨p, z, hp, e1, e2, f⟩ => by
    subst e1 e2
    obtain ⟨xs, sq, r⟩ := h H L t rl kp
    rw [List.getElem?_map, List.getElem?_zipIdx] at hy
    obtain ⟨⟨y', j⟩, ey, e3⟩ := Option.map_eq_some_iff.mp hy
    obtain ⟨y'', ey', e4⟩ := Option.map_eq_some_iff.mp ey
    cases e4
    subst e3
    obtain ⟨x', e', rv⟩ := r.get ey'
    have := f xs sq
    rw [e'] at this; cases this
    refine ⟨TSt.new hp, rl.skip hp, p, _, rfl, SqT.of upd_same, ⟨_, _, rfl, ?_, _, _, rfl, rv.ts (TSt.new hp), rfl⟩⟩
    show V.int _ = V.int _
    congr 1; simp
  stop := fun H L t rl kp => by
    obtain ⟨xs, sq, r⟩ := h H L t rl kp
    exact ⟨xs, sq, by rw [List.length_map, List.length_zipIdx, r.length]; exact Nat.le_refl _⟩
/-- the pairs of enumerate -/
def enumY (ys : List Y) : List Y := ys.zipIdx.map fun p => Y.tup [.int (p.2 : Nat), p.1]
theorem enumY_at {ys : List Y} {i : Nat} {y : Y} (h : (enumY ys)[i]? = some y) : ∃ z, ys[i]? = some z ∧ y = .tup [.int i, z] := by
  unfold enumY at h
  rw [List.getElem?_map, List.getElem?_zipIdx] at h
  obtain ⟨⟨y', j⟩, ey, e3⟩ := Option.map_eq_some_iff.mp h
  obtain ⟨y'', ey', e4⟩ := Option.map_eq_some_iff.mp ey
  cases e4
  exact ⟨y', ey', by rw [← e3]; simp⟩
def iyEnum (tl : TE3) (τ : St3) (L : LHp) (R : List Y → (LHp → Prop) → LHp → Prop) : Prop := tl τ L fun x L1 => match x with
  | .ref a => lisK L1 a fun ys keep L => R (enumY ys) keep L
  | .sq ys => R (enumY ys) (fun _ => True) L1
  | _ => False
theorem qi_enum {X : Cx} {a : Expr} {te : TE3} {elts : List Expr} {x1 : Nat} {tp p pos : Pos} (hg : Gl X "enumerate") (hm : X.mg "enumerate" = none) (ha : QE X a te) (hs : starEach [a] X.env = [(false, eval a X.env)] := by rfl)
    (hs2 : starEach [a] X.env = (false, eval a X.env) :: starEach [] X.env := by rfl) : QI X (.Tuple elts x1 tp) (.Call (.Name "enumerate" p) [a] [] pos) (iyEnum te) := PI.imp (pi_enum hg hm (pa_cons ha pa_nil hs2) hs) fun σ H R ⟨τ, L, R3, rs, rl, z, k⟩ => by
  refine ⟨τ, L, _, rs, rl, z, fun v H1 y L1 t1 rl1 rv1 z1 => ?_⟩
  cases y with
  | ref a =>
    obtain ⟨ys, keep, es, kp, hk, z2⟩ := lisK_inv z1
    have hy : ∀ H L, TSt H1 H → RelH X.g3 H L → keep L → ∃ xs, SqL X.K H a xs ∧ RVs X.g3 H ys xs := fun H L _ rl e => seq_list rl (hk L e)
    obtain ⟨xs, sq, _⟩ := hy H1 L1 (TSt.refl _) rl1 kp
    cases rv1
    exact ⟨a, rfl, ⟨xs, sq⟩, k _ H1 _ _ L1 t1 rl1 (yields_enum hy) z2⟩
  | sq ys =>
    obtain ⟨a, xs, e, sf, r⟩ := rv1
    subst e
    exact ⟨a, rfl, ⟨xs, sf.sq⟩, k _ H1 _ (fun _ => True) L1 t1 rl1 (yields_enum fun H L t _ _ => ⟨xs, (sf.ts t).sq, r.ts t⟩) z1⟩
  | _ => exact z1.elim
end L3

namespace L2
open PySem PySem.Spec PyProof.Rows
/-! ### zip over two lists or tuples -/
section
variable {prog : Program} {w : World} {A : Around} {E : Value → Shared → Prop} {s : Shared}
end
end L2

namespace L2
open PySem PySem.Spec PyProof.Rows
section
variable {prog : Program} {w : World} {A : Around} {E : Value → Shared → Prop} {s : Shared}
end
section
variable {X : Cx} {pins : List (Addr × Obj)} {σ : L2.St} {H : Hp} {s : Shared}
end
end L2
namespace L3
open PySem L2
end L3

namespace L3
open PySem L2
/-! ### list(x) -/
/-! ### pop at a place -/
end L3

namespace L2
open PySem PySem.Spec PyProof.Rows
section
variable {X : Cx}
/-! ### slices of texts -/
/-! ### join -/
end
end L2

namespace L3
open PySem L2
/-! ### methods of texts -/
/-! ### isinstance with two types -/
/-! ### a statement behind which ways meet -/
def ySeqJ (t u : TS3) (D : Ends3) (τ : St3) (L : LHp) : Prop := ∃ J : St3 → LHp → Prop, t { D with nx := J } τ L ∧ ∀ τ' L', J τ' L' → u D τ' L'
theorem qss_consJ {X : Cx} {st : Stmt} {rest : List Stmt} {t u : TS3} (h : QS X st t) (k : QSs X rest u) : QSs X (st :: rest) (ySeqJ t u) := PSs.imp (pss_cons h k) fun D σ H ⟨τ, L, D3, rs, rl, ⟨J, z, q⟩, k⟩ =>
  ⟨τ, L, { D3 with nx := J }, rs, rl, z, fun σ1 H1 τ1 L1 t1 rs1 rl1 z1 => ⟨τ1, L1, D3, rs1, rl1, q τ1 L1 z1, k.ts t1⟩, k.rt, k.bk, k.ct⟩
end L3

namespace L3
open PySem L2
/-! ### exceptions, by classes and the heap of lists -/
abbrev X3 := St3 → Addr → LHp → Prop
abbrev Sp3X := List Y → LHp → YK → (Addr → LHp → Prop) → Prop
def upX (G : G3) (E3 : X3) : X1 := fun σ c H => ∃ C τ L, c = .ref C ∧ RelS G H σ τ ∧ RelH G H L ∧ E3 τ C L
def AftX (G : G3) (H : Hp) (E3 : Addr → LHp → Prop) (E : XK) : Prop := ∀ C H' L', TSt H H' → RelH G H' L' → E3 C L' → E (.ref C) none H'
def dnX (G : G3) (sp : Sp3X) : Sp := fun vs H Q E => ∃ ys L Q3 E3, RVs G H ys vs ∧ RelH G H L ∧ sp ys L Q3 E3 ∧ Aft G H Q3 Q ∧ AftX G H E3 E
/-- what is told of an exception: what was made besides may be forgotten -/
def FinX (E3 : Addr → LHp → Prop) : X3 := fun _ C L => ∃ L2, LSub L2 L ∧ E3 C L2
abbrev Fn3X (P : Program) (w : World) (K : PySem.W.Frag) (mg : Str → Option Value) (base : Heap) (k : Nat) (f : Addr) (fd : FuncData) (ps : List Str) (sp : Sp3X) : Prop := FnOk P w K mg base (CXE P w) k f fd ps (dnX ⟨K, P, w⟩ sp)
/-- a def that may raise, as its callers see it -/
structure Cal3X (P : Program) (w : World) (K : PySem.W.Frag) (mg : Str → Option Value) (base : Heap) (k : Nat) (x : Str) (ps : List Str) (sp : Sp3X) : Prop where
  ex : ∃ f fd, Fn3X P w K mg base k f fd ps sp ∧ Binds K fd ps [] ∧ PySem.W.keepIn K (.ref f) = true ∧ mg x = some (.ref f)
theorem Cal3X.mono {P : Program} {w : World} {K : PySem.W.Frag} {mg : Str → Option Value} {base : Heap} {j k : Nat} {x : Str} {ps : List Str} {sp : Sp3X} (c : Cal3X P w K mg base j x ps sp) (h : j ≤ k) : Cal3X P w K mg base k x ps sp := by
  obtain ⟨f, fd, F, b, kp, m⟩ := c.ex
  exact ⟨f, fd, F.mono h, b, kp, m⟩
theorem Inv.tst {X : Cx} {pins : List (Addr × Obj)} {σ : L2.St} {H : Hp} {s : Shared} (I : Inv X pins σ H s) : TSt X.H₀ H := fun a u i e => by
  cases u with
  | tup xs => exact I.base.tups a xs e
  | frz o u => exact I.base.frzs a o u e
  | _ => cases i
/-- a def's body takes them -/
theorem takes3 {P : Program} {w : World} {K : PySem.W.Frag} {mg : Str → Option Value} {base : Heap} {N : List Str} {qual : Str} {scope : Scope} {f : Addr} {cd : Value} {A : Around} {outer : List Env} {s : Shared} {H : Hp} {E : XK} {E3 : Addr → LHp → Prop} (h : AftX ⟨K, P, w⟩ H E3 E) :
    Takes (cxOf (CXE P w) P w K mg base N qual scope f cd A outer s H E) (upX ⟨K, P, w⟩ (FinX E3)) := by
  intro pins σ H' s' a C tr I L ap apT ⟨C', τ, L', ec, rs, rl, L2, sb, q⟩
  cases ec
  exact takes_cx pins σ H' s' a C tr I L ap apT (h C H' L2 (Inv.tst I) (rl.sub sb) q)
/-- f(..) that may raise -/
def yCallX (sp : Sp3X) (E3 : X3) (t : TA3) (τ : St3) (L : LHp) (Q : YK) : Prop := t τ L fun ys L1 => sp ys L1 Q (E3 τ)
def yRaise (C : Addr) (E3 : X3) (t : TA3) (_ : Ends3) (τ : St3) (L : LHp) : Prop := t τ L fun ys L1 => ys.length ≤ 1000 ∧ E3 τ C L1
section
variable {X : Cx} {e : Expr} {es : List Expr} {tr : TA3} {pos : Pos} {E3 : X3}
theorem qe_cX {k : Nat} {x : Str} {ps : List Str} {sp : Sp3X} {p : Pos} (c : Cal3X X.prog X.w X.K X.mg X.base k x ps sp) (hr : Room k X.A) (hg : Gl X x) (ht : Takes X (upX X.g3 E3)) (hx : X.ex = []) (ha : QA X (e :: es) tr) (hdb : (x == ("__debug__" : Str)) = false := by decide)
    (he : starEach (e :: es) X.env = (false, eval e X.env) :: starEach es X.env := by rfl) (hpl : (backTo pos (starEach es X.env)).any (·.1) = false := by rfl) : QE X (.Call (.Name x p) (e :: es) [] pos) (yCallX sp E3 tr) := by
  obtain ⟨f, fd, F, b, kp, m⟩ := c.ex
  refine PE.imp (pe_callX F hr hg m kp b ht hx ha hdb he hpl) fun σ H Q ⟨τ, L, Q3, rs, rl, z, k⟩ => ?_
  exact ⟨τ, L, _, rs, rl, z, fun vs H1 ys L1 t1 rl1 rv1 z1 => ⟨ys, L1, Q3, E3 τ, rv1, rl1, z1, k.ts t1, fun C H' L' t' rl' q => ⟨C, τ, L', rfl, rs.ts (t1.trans t'), rl', q⟩⟩⟩
theorem qs_raise {C : Addr} {x : Str} {np cpos : Pos} (c : XCls X.K C) (hg : Gl X x) (hm : X.mg x = some (.ref C)) (hc : X.calm = true) (ht : Takes X (upX X.g3 E3)) (hx : X.ex = []) (ha : QA X (e :: es) tr) (hdb : (x == ("__debug__" : Str)) = false := by decide)
    (he : starEach (e :: es) X.env = (false, eval e X.env) :: starEach es X.env := by rfl) (hpl : (backTo cpos (starEach es X.env)).any (·.1) = false := by rfl) :
    QS X (.Raise (some (.Call (.Name x np) (e :: es) [] cpos)) none pos) (yRaise C E3 tr) := PS.imp (ps_raise c hg hm hc ht hx ha hdb he hpl) fun D σ H ⟨τ, L, D3, rs, rl, z, k⟩ =>
  ⟨τ, L, _, rs, rl, z, fun vs H1 ys L1 t1 rl1 rv1 ⟨hl, z1⟩ => ⟨small (by rw [← rv1.length]; exact hl), C, τ, L1, rfl, rs.ts t1, rl1, z1⟩⟩
end
/-- THE RULE for a def that may raise -/
theorem ok3X {P : Program} {w : World} {K : PySem.W.Frag} {mg : Str → Option Value} {base : Heap} {x qual : Str} {st : Stmt} {f : Addr} {fd : FuncData} {N ps : List Str} {k : Nat} {sp : Sp3X} {t : X3 → TS3} (F : Fun K x qual st f fd) (S : FnScope N ps (defScope st)) (len : ∀ ys L Q E, sp ys L Q E → ys.length = ps.length)
    (hbody : ∀ (cdv : Value) (A : Around) (outer : List Env) (s : Shared) (H : Hp) (E : XK) (E3 : X3), Room k (A.deeper (PyProof.Rows.envOfC qual (defScope st) s.heap.objs.size f cdv)) →
      Takes (cxOf (CXE P w) P w K mg base N qual (defScope st) f cdv A outer s H E) (upX ⟨K, P, w⟩ E3) → QSs (cxOf (CXE P w) P w K mg base N qual (defScope st) f cdv A outer s H E) (defBody st) (t E3))
    (vc : ∀ ys L Q E, sp ys L Q E → t (FinX E) { nx := fun _ L' => Fin3 Q .non L', rt := Fin3 Q } (start3 N ys) L) : Fn3X P w K mg base (k + 1) f fd ps sp := by
  obtain ⟨oc, od, kV, doc, pm, an, cdv, ct, osl, rfl, lk, hcd⟩ := F.ex
  refine fn_of lk hcd S (fun vs H Q E ⟨ys, L, Q3, E3, rv, rl, z, _⟩ => by rw [← rv.length]; exact len ys L Q3 E3 z) fun A outer s H vs Q E hr ⟨ys, L, Q3, E3, rv, rl, z, k, kx⟩ => ?_
  refine ⟨_, hbody cdv A outer s H E (FinX E3) hr (takes3 kx), start3 N ys, L, _, start_rel rv, rl, vc ys L Q3 E3 z, ?_⟩
  exact ⟨fun σ H' τ L' t' rs' rl' ⟨L2, s2, q2⟩ => k .non H' .non L2 t' (rl'.sub s2) (by rfl) q2, fun v H' y L' t' rl' rv' ⟨L2, s2, q2⟩ => k v H' y L2 t' (rl'.sub s2) rv' q2, fun _ _ _ _ _ _ _ z => z.elim, fun _ _ _ _ _ _ _ z => z.elim⟩
end L3

namespace L3
open PySem L2
def clr3 : St3 → Nat → St3
  | [], _ => []
  | _ :: r, 0 => none :: r
  | o :: r, i + 1 => o :: clr3 r i
theorem clr3_eq : ∀ (τ : St3) (i : Nat), clr3 τ i = τ.set i none
  | [], _ => rfl
  | _ :: _, 0 => rfl
  | o :: r, i + 1 => by rw [clr3, clr3_eq r i]; rfl
theorem RelS.clr {G : G3} {H : Hp} {σ : L2.St} {τ : St3} (h : RelS G H σ τ) (i : Nat) : RelS G H (σ.set i none) (clr3 τ i) := by
  rw [clr3_eq]
  refine ⟨by simpa using h.len, fun j y e => ?_⟩
  by_cases hj : i = j
  · subst hj
    rw [List.getElem?_set] at e
    simp at e
  · rw [List.getElem?_set_ne hj] at e ⊢
    exact h.get j y e
def Dh3 (i : Nat) (D : Ends3) : Ends3 where
  nx := fun τ L => D.nx (clr3 τ i) L
  rt := D.rt
  bk := fun τ L => D.bk (clr3 τ i) L
  ct := fun τ L => D.ct (clr3 τ i) L
def AftX1 (G : G3) (H : Hp) (E3 : X3) (E1 : X1) : Prop := ∀ σ' C H' τ' L', TSt H H' → RelS G H' σ' τ' → RelH G H' L' → E3 τ' C L' → E1 σ' (.ref C) H'
def upSX (G : G3) (t : X3 → TS3) : X1 → L2.TS := fun E1 D σ H => ∃ τ L D3 E3, RelS G H σ τ ∧ RelH G H L ∧ t E3 D3 τ L ∧ AftD G H D3 D ∧ AftX1 G H E3 E1
/-- a try's body -/
def QB (X : Cx) (body : List Stmt) (t : X3 → TS3) : Prop := ∀ (pn : List (Addr × Obj)) (xe : Value → Shared → Prop) (E1 : X1), Takes (X.tr pn xe) E1 → PSs (X.tr pn xe) body (upSX X.g3 t E1)
def yTry (K : PySem.W.Frag) (Dc : Addr) (i : Nat) (tb : X3 → TS3) (th : TS3) (D : Ends3) (τ : St3) (L : LHp) : Prop :=
  tb (fun τ' C L' => PySem.W.exmOne K (.ref C) (.ref Dc) = some true ∧ ∀ a, L' a = none → th (Dh3 i D) (set3 τ' i (.ref a)) (updL L' a (.exc C))) D τ L
section
variable {X : Cx} {e : Expr} {es : List Expr} {tr : TA3} {pos cp : Pos}
theorem qb_expr {k : Nat} {x : Str} {ps : List Str} {sp : Sp3X} {p : Pos} (c : Cal3X X.prog X.w X.K X.mg X.base k x ps sp) (hr : Room k X.A) (hg : Gl X x) (hx : X.ex = []) (ha : ∀ pn xe, QA (X.tr pn xe) (e :: es) tr) (hdb : (x == ("__debug__" : Str)) = false := by decide)
    (he : starEach (e :: es) X.env = (false, eval e X.env) :: starEach es X.env := by rfl) (hpl : (backTo cp (starEach es X.env)).any (·.1) = false := by rfl) (hs : swapsWith (.Call (.Name x p) (e :: es) [] cp) none pos.line X.env = pure false := by rfl) :
    QB X [.Expr (.Call (.Name x p) (e :: es) [] cp) pos] (fun E3 => yDrop (yCallX sp E3 tr)) := by
  obtain ⟨f, fd, F, b, kp, m⟩ := c.ex
  intro pn xe E1 ht
  refine PSs.imp (pss_one (ps_expr (pe_callX (X := X.tr pn xe) F hr hg m kp b ht hx (ha pn xe) hdb he hpl) hs)) fun D σ H ⟨τ, L, D3, E3, rs, rl, z, k, kx⟩ => ?_
  exact ⟨τ, L, _, rs, rl, z, fun vs H1 ys L1 t1 rl1 rv1 z1 => ⟨ys, L1, _, E3 τ, rv1, rl1, z1, (fun v H2 y L2 t2 rl2 rv2 z2 => k.nx _ H2 _ L2 (t1.trans t2) (rs.ts (t1.trans t2)) rl2 z2), fun C H' L' t' rl' q => kx σ C H' τ L' (t1.trans t') (rs.ts (t1.trans t')) rl' q⟩⟩
theorem qs_try {Dc : Addr} {i : Nat} {n x : Str} {np hpos : Pos} {body suite : List Stmt} {b₀ : Stmt} {tb : X3 → TS3} {th : TS3} (hs : X.stack = X.env :: X.outer) (hf : X.env.frame = some X.env.locals) (hx : X.ex = []) (hN : X.N.Nodup) (hi : X.N[i]? = some n)
    (hk : X.env.scope.names.lookup n = some .local) (hg : Gl X x) (hm : X.mg x = some (.ref Dc)) (hb : QB X body tb) (hh : ∀ a, QSs (X.hnd a) (b₀ :: suite) th)
    (hdb : (x == ("__debug__" : Str)) = false := by decide) : QS X (.Try body [.ExceptHandler (some (.Name x np)) (some n) (b₀ :: suite) hpos] [] [] pos) (yTry X.K Dc i tb th) :=
  PS.imp (ps_try (tb := upSX X.g3 tb) (th := upS X.g3 th) hs hf hx hN hi hk hg hm hb hh hdb) fun D σ H ⟨τ, L, D3, rs, rl, z, k⟩ => by
  show upSX X.g3 tb (hndX X.K Dc i (upS X.g3 th) D) D σ H
  refine ⟨τ, L, D3, _, rs, rl, z, k, fun σ' C H' τ' L' t' rs' rl' ⟨em, q⟩ => ⟨C, rfl, em, fun a oe ha hc => ?_⟩⟩
  have ta : TSt H' (upd H' a (.frz oe (.own 0))) := TSt.new ha
  refine ⟨set3 τ' i (.ref a), updL L' a (.exc C), Dh3 i D3, by rw [set3_eq]; exact (rs'.ts ta).set rfl, fun b u e => ?_, q a (rl'.none ha), ?_⟩
  · by_cases c : b = a
    · subst c
      rw [updL_same] at e; cases e
      exact ⟨oe, upd_same, hc⟩
    · rw [updL_ne c] at e
      exact (rl' b u e).keep ta (upd_ne c)
  · have k2 := k.ts (t'.trans ta)
    exact ⟨fun σ2 H2 τ2 L2 t2 rs2 rl2 z2 => k2.nx _ H2 _ L2 t2 (rs2.clr i) rl2 z2, k2.rt, fun σ2 H2 τ2 L2 t2 rs2 rl2 z2 => k2.bk _ H2 _ L2 t2 (rs2.clr i) rl2 z2, fun σ2 H2 τ2 L2 t2 rs2 rl2 z2 => k2.ct _ H2 _ L2 t2 (rs2.clr i) rl2 z2⟩
end
end L3

namespace L3
open PySem L2
@[irreducible] def excK (L : LHp) (a : Addr) (k : Addr → Prop) : Prop := match L a with
  | some (.exc C) => k C
  | _ => False
theorem excK_of {L : LHp} {a C : Addr} {k : Addr → Prop} (e : L a = some (.exc C)) (h : k C) : excK L a k := by unfold excK; rw [e]; exact h
theorem excK_inv {L : LHp} {a : Addr} {k : Addr → Prop} (h : excK L a k) : ∃ C, L a = some (.exc C) ∧ k C := by
  unfold excK at h
  split at h
  · rename_i C e; exact ⟨C, e, h⟩
  · exact h.elim
/-- isinstance of a held exception: one class, several -/
def yInstX (K : PySem.W.Frag) (u : Value) (te : TE3) (τ : St3) (L : LHp) (Q : YK) : Prop := te τ L fun x L1 => match x with
  | .ref a => excK L1 a fun C => XHd K C ∧ ∃ b, PySem.W.kitOne K (.ref C) u = some b ∧ Q (.bl b) L1
  | _ => False
def yInstXT (K : PySem.W.Frag) (us : List Value) (te : TE3) (τ : St3) (L : LHp) (Q : YK) : Prop := te τ L fun x L1 => match x with
  | .ref a => excK L1 a fun C => XHd K C ∧ ∃ b, PySem.W.kitAny K (.ref C) us = some b ∧ Q (.bl b) L1
  | _ => False
/-- names of classes -/
def PAC (X : Cx) (es : List Expr) (vs : List V) : Prop := PA X es fun _ H Q => Q vs H
section
variable {X : Cx} {a e : Expr} {es : List Expr} {ta : TE3} {pos p pt : Pos} {v : V} {vs : List V}
theorem pac_nil : PAC X [] [] := pa_nil
theorem pac_cons (h : PE X e (tC v)) (t : PAC X es vs) (hs : starEach (e :: es) X.env = (false, eval e X.env) :: starEach es X.env := by rfl) : PAC X (e :: es) (v :: vs) := PA.imp (pa_cons h t hs) fun _ _ _ q => q
/-- a class of the top, a built-in class, by the name -/
theorem pe_own {x : Str} {C : Addr} (hg : Gl X x) (hm : X.mg x = some (.ref C)) (hd : (x == ("__debug__" : Str)) = false := by decide) : PE X (.Name x p) (tC (.ref C)) := pe_gr hg hm hd
theorem qe_instX {c : Expr} {u : Value} (hg : Gl X "isinstance") (hm : X.mg "isinstance" = none) (ha : QE X a ta) (hc : PE X c (tC v)) (hv : clsV v = some u)
    (hs : starEach [a, c] X.env = (false, eval a X.env) :: starEach [c] X.env := by rfl) (hs2 : starEach [c] X.env = (false, eval c X.env) :: starEach [] X.env := by rfl) (hp : (backTo pos (starEach [c] X.env)).any (·.1) = false := by rfl) :
    QE X (.Call (.Name "isinstance" p) [a, c] [] pos) (yInstX X.K u ta) := by
  refine PE.imp (pe_callB call_instX hg hm bt_isinstance (pa_cons ha (pa_cons hc pa_nil hs2) hs) (by decide) (by decide) hs hp) ?_
  rintro σ H Q ⟨τ, L, Q3, rs, rl, z, k⟩
  refine ⟨τ, L, _, rs, rl, z, fun w H1 y L1 t1 rl1 rv1 z1 => ?_⟩
  cases y with
  | ref b =>
    obtain ⟨C, e, hd, bb, kk, q⟩ := excK_inv z1
    cases rv1
    exact ⟨b, C, v, rfl, rl1 b _ e, hd, .inl ⟨u, bb, hv, kk, k _ H1 _ L1 t1 rl1 (by rfl) q⟩⟩
  | _ => exact z1.elim
theorem qe_instXT {us : List Value} {kt : Nat} (hg : Gl X "isinstance") (hm : X.mg "isinstance" = none) (ha : QE X a ta) (hc : PAC X es vs) (hv : vs.map clsV = us.map some) (hl : vs.length ≤ 1000)
    (hs : starEach [a, .Tuple es kt pt] X.env = (false, eval a X.env) :: starEach [.Tuple es kt pt] X.env := by rfl) (hs2 : starEach [.Tuple es kt pt] X.env = (false, eval (.Tuple es kt pt) X.env) :: starEach [] X.env := by rfl) (hp : (backTo pos (starEach [.Tuple es kt pt] X.env)).any (·.1) = false := by rfl) :
    QE X (.Call (.Name "isinstance" p) [a, .Tuple es kt pt] [] pos) (yInstXT X.K us ta) := by
  refine PE.imp (pe_callB call_instX hg hm bt_isinstance (pa_cons ha (pa_cons (pe_tup hc) pa_nil hs2) hs) (by decide) (by decide) hs hp) ?_
  rintro σ H Q ⟨τ, L, Q3, rs, rl, z, k⟩
  refine ⟨τ, L, _, rs, rl, z, fun w H1 y L1 t1 rl1 rv1 z1 => ⟨small hl, fun q hq => ?_⟩⟩
  cases y with
  | ref b =>
    obtain ⟨C, e, hd, bb, kk, z2⟩ := excK_inv z1
    cases rv1
    have tq : TSt H1 (upd H1 q (.tup vs)) := TSt.new hq
    obtain ⟨oe, ho, hc'⟩ := (rl1 b _ e : HeldX X.K H1 b C)
    refine ⟨b, C, .ref q, rfl, ⟨oe, tq _ _ rfl ho, hc'⟩, hd, .inr ⟨q, vs, us, bb, rfl, .inl (.inl upd_same), hv, kk, k _ _ _ L1 (t1.trans tq) (rl1.skip hq) (by rfl) z2⟩⟩
  | _ => exact z1.elim
end
end L3

namespace L3
open PySem L2
def noX : X3 := fun _ _ _ => False
theorem takes0 {X : Cx} : Takes X (upX X.g3 noX) := fun _ _ _ _ _ _ _ _ _ _ _ ⟨_, _, _, _, _, _, z⟩ => z.elim
theorem bt_ValueError : bootBuiltins "ValueError" = some (.type "ValueError") := by decide +kernel
end L3
namespace L3
open PySem L2 PySem.W
/-- a class under ValueError -/
theorem xcls_value {K : Frag} {C : Addr} (q : excIn K C [.type "ValueError", .type "Exception", .type "BaseException", .type "object"] "ValueError.__new__" = true) : XCls K C := xcls_of q PySem.F.excBase_ValueError (by decide +kernel) PySem.F.excBase_ValueError
section
variable {K : Frag} {C D : Addr} {t c : Value} {b : Bool}
theorem kit_own {cd : ClassData} (ne : (Value.ref C == Value.ref D) = false) (h1 : clsIn K D = some cd) (h2 : typeIn K (.ref D) = some (.type "type")) (h3 : subIn K (.ref C) (.ref D) = some b) : kitOne K (.ref C) (.ref D) = some b := by
  unfold kitOne
  rw [if_neg (by rw [ne]; exact Bool.false_ne_true)]
  unfold kitCls
  simp only [h1, h2, Option.isSome_some, beq_self_eq_true, Bool.and_self, if_true]
  exact h3
theorem kit_blt {T : String} (hm : kitMeta T = true) (h3 : subIn K (.ref C) (.type T) = some b) : kitOne K (.ref C) (.type T) = some b := by
  unfold kitOne
  rw [if_neg (by intro q; cases beq_iff_eq.mp q)]
  unfold kitCls
  simp only [hm, if_true]
  exact h3
theorem kitAny_no {r : List Value} (h : kitOne K t c = some false) (k : kitAny K t r = some b) : kitAny K t (c :: r) = some b := by
  unfold kitAny
  rw [h]
  exact k
theorem exm_own {cd : ClassData} (h0 : subIn K (.ref D) (.type "BaseException") = some true) (h1 : clsIn K D = some cd) (h2 : typeIn K (.ref D) = some (.type "type")) (h3 : subIn K (.ref C) (.ref D) = some b) : exmOne K (.ref C) (.ref D) = some b := by
  unfold exmOne
  rw [if_pos (by rw [h0]; rfl)]
  unfold kitCls
  simp only [h1, h2, Option.isSome_some, beq_self_eq_true, Bool.and_self, if_true]
  exact h3
theorem xhd_of {cd : ClassData} (ga : findIn K (.ref C) "__getattribute__" = some (some (.builtin "BaseException.__getattribute__"))) (gt : findIn K (.ref C) "__getattr__" = some none) (cl : findIn K (.ref C) "__class__" = some (some (.builtin "object.__class__")))
    (ge : specialIn K (.builtin "object.__class__") "__get__" = some (some (.builtin "getset_descriptor.__get__"))) (tk : takesIn K (.builtin "object.__class__") = some true) (mo : mroIn K C (.type "object") = some true) (be : subIn K (.ref C) (.type "BaseException") = some true) (h : clsIn K C = some cd) : XHd K C :=
  ⟨⟨ga, gt, cl, ge, tk, mo, be⟩, by rw [h]; rfl⟩
end
end L3

namespace L2
open PySem PySem.Spec PyProof.Rows
/-! ### chains of comparisons, of any length -/
def PChT (X : Cx) (ops : List CmpOp) (es : List Expr) (t : V → TE) : Prop := ∀ (pos : Pos) (pins : List (Addr × Obj)) (s : Shared) (σ : St) (H : Hp) (x : V) (v : Value) (Q : Bool → Hp → Prop), Inv X pins σ H s → RelV x v → (t x σ H fun z H' => ∃ k, z = .bl k ∧ Q k H') → wpAny (model X.prog X.w) X.A (testChain pos v ops (evalEach es X.env)) (TP X pins σ Q) X.xe s
def tLast (r : R2) (tb : TE) : V → TE := fun x σ H Q => tb σ H fun y H1 => r x y H1 Q
def tLink (r : R2) (tb : TE) (u : V → TE) : V → TE := fun x σ H Q => tb σ H fun y H1 => r x y H1 fun z H2 => ∃ k, z = .bl k ∧ (if k = true then u y σ H2 Q else Q (.bl false) H2)
section
variable {X : Cx} {a b c : Expr} {es : List Expr} {ta tb : TE} {op op' : CmpOp} {ops : List CmpOp} {r : R2} {u : V → TE} {pos : Pos}
theorem pcht_last (ho : OpR X (compareOp op) r) (hb : PE X b tb) : PChT X [op] [b] (tLast r tb) := by
  intro pos pins s σ H x v Q I rx h
  refine test_last (thn (hb pins s σ H _ I h) fun w' s1 ⟨y, H1, I1, r1, q1⟩ => thn (ho pins s1 σ H1 x y v w' _ I1 rx r1 q1) fun d s2 ⟨z, H2, I2, r2, k, e, q2⟩ => ?_)
  subst e
  cases r2
  exact wpAny_truthy_bool ⟨H2, I2, q2⟩
theorem pcht_link (ho : OpR X (compareOp op) r) (hb : PE X b tb) (ht : PChT X (op' :: ops) (c :: es) u) : PChT X (op :: op' :: ops) (b :: c :: es) (tLink r tb u) := by
  intro pos pins s σ H x v Q I rx h
  refine test_link (thn (hb pins s σ H _ I h) fun w' s1 ⟨y, H1, I1, r1, q1⟩ => thn (ho pins s1 σ H1 x y v w' _ I1 rx r1 q1) fun d s2 ⟨z, H2, I2, r2, k, e, q2⟩ => ?_)
  subst e
  cases r2
  refine wpAny_truthy_bool ?_
  cases k with
  | false =>
    obtain ⟨k', e', q'⟩ := q2
    cases e'
    exact ite_ff ⟨H2, I2, q'⟩
  | true => exact ite_tt (ht pos pins s2 σ H2 y w' Q I2 r1 q2)
theorem pt_chainN (ha : PE X a ta) (h : PChT X (op :: op' :: ops) (b :: c :: es) u) (hm : lastMarks (op :: op' :: ops) (b :: c :: es) = false) : PT X (.Compare a (op :: op' :: ops) (b :: c :: es) pos) (tTest fun σ H Q => ta σ H fun x H1 => u x σ H1 Q) := by
  intro pins s σ H Q I hh
  exact isTrue_chain (thn (ha pins s σ H _ I hh) fun v s1 ⟨x, H1, I1, r1, q1⟩ => h pos pins s1 σ H1 x v Q I1 r1 q1) hm
end
end L2
namespace L3
open PySem L2
def yChain (ta : TE3) (u : Y → TE3) (τ : St3) (L : LHp) (Q : YK) : Prop := ta τ L fun x L1 => u x τ L1 Q
def yLast (r : R23) (tb : TE3) (x : Y) (τ : St3) (L : LHp) (Q : YK) : Prop := tb τ L fun y L1 => r x y L1 Q
def yLink (r : R23) (tb : TE3) (u : Y → TE3) (x : Y) (τ : St3) (L : LHp) (Q : YK) : Prop := tb τ L fun y L1 => r x y L1 fun z L2 => match z with
  | .bl k => yite k (u y τ L2 Q) (Q (.bl false) L2)
  | _ => False
def upC (G : G3) (u : Y → TE3) : V → TE := fun x σ H Q => ∃ y τ L Q3, RV G H y x ∧ RelS G H σ τ ∧ RelH G H L ∧ u y τ L Q3 ∧ Aft G H Q3 Q
theorem PChT.imp {X : Cx} {ops : List CmpOp} {es : List Expr} {t u : V → TE} (h : PChT X ops es t) (q : ∀ x σ H Q, u x σ H Q → t x σ H Q) : PChT X ops es u := fun pos pins s σ H x v Q I r z => h pos pins s σ H x v Q I r (q _ _ _ _ z)
theorem up_last {G : G3} {r : R23} {tb : TE3} (x : V) (σ : L2.St) (H : Hp) (Q : VK) : upC G (yLast r tb) x σ H Q → tLast (upR G r) (upE G tb) x σ H Q := fun ⟨y, τ, L, Q3, rv, rs, rl, z, k⟩ =>
  ⟨τ, L, _, rs, rl, z, fun v H1 y1 L1 t1 rl1 rv1 z1 => ⟨y, y1, L1, Q3, rv.ts t1, rv1, rl1, z1, k.ts t1⟩⟩
theorem up_link {G : G3} {r : R23} {tb : TE3} {u : Y → TE3} (x : V) (σ : L2.St) (H : Hp) (Q : VK) : upC G (yLink r tb u) x σ H Q → tLink (upR G r) (upE G tb) (upC G u) x σ H Q := fun ⟨y, τ, L, Q3, rv, rs, rl, z, k⟩ =>
  ⟨τ, L, _, rs, rl, z, fun v H1 y1 L1 t1 rl1 rv1 z1 => ⟨y, y1, L1, _, rv.ts t1, rv1, rl1, z1, fun v2 H2 y2 L2 t2 rl2 rv2 z2 => by
    cases y2 with
    | bl kk =>
      refine ⟨kk, rv2, ?_⟩
      have z3 : yite kk (u y1 τ L2 Q3) (Q3 (.bl false) L2) := z2
      cases kk with
      | true => rw [if_pos rfl]; exact ⟨y1, τ, L2, Q3, rv1.ts t2, rs.ts (t1.trans t2), rl2, z3, k.ts (t1.trans t2)⟩
      | false => rw [if_neg Bool.false_ne_true]; exact k _ H2 _ L2 (t1.trans t2) rl2 (by rfl) z3
    | _ => exact z2.elim⟩⟩
section
variable {X : Cx} {a b c : Expr} {es : List Expr} {ta tb : TE3} {op op' : CmpOp} {ops : List CmpOp} {r : R23} {u : Y → TE3} {pos : Pos}
theorem qcht_last (ho : OpR X (compareOp op) (upR X.g3 r)) (hb : QE X b tb) : PChT X [op] [b] (upC X.g3 (yLast r tb)) := PChT.imp (pcht_last ho hb) up_last
theorem qcht_link (ho : OpR X (compareOp op) (upR X.g3 r)) (hb : QE X b tb) (ht : PChT X (op' :: ops) (c :: es) (upC X.g3 u)) : PChT X (op :: op' :: ops) (b :: c :: es) (upC X.g3 (yLink r tb u)) := PChT.imp (pcht_link ho hb ht) up_link
theorem up_chain {G : G3} (σ : L2.St) (H : Hp) (Q : VK) : upE G (yChain ta u) σ H Q → (fun σ H Q => upE G ta σ H fun x H1 => upC G u x σ H1 Q) σ H Q := fun ⟨τ, L, Q3, rs, rl, z, k⟩ =>
  ⟨τ, L, _, rs, rl, z, fun v H1 y L1 t1 rl1 rv1 z1 => ⟨y, τ, L1, Q3, rv1, rs.ts t1, rl1, z1, k.ts t1⟩⟩
theorem qt_chain (ha : QE X a ta) (h : PChT X (op :: op' :: ops) (b :: c :: es) (upC X.g3 u)) (hm : lastMarks (op :: op' :: ops) (b :: c :: es) = false := by with_unfolding_all rfl) : QT X (.Compare a (op :: op' :: ops) (b :: c :: es) pos) (yB (yChain ta u)) :=
  PT.imp (pt_chainN ha h hm) fun σ H Q q => up_chain σ H _ (up_B σ H Q q)
end
end L3

namespace L2
open PySem PySem.Spec PyProof.Rows
section
variable {X : Cx}
end
end L2
namespace L3
open PySem L2
end L3

namespace L3
open PySem L2
/-! ### dicts by ints or texts that are filled step by step -/
section
variable {X : Cx} {o i value : Expr} {td ti tv : TE3} {pos pos' : Pos}
end
end L3

namespace L3
open PySem L2
/-! ### an item of a list is stored; a list is unpacked -/
section
variable {X : Cx} {o i value : Expr} {to ti tv : TE3} {pos pos' : Pos}
end
end L3

namespace L2
open PySem PySem.Spec PyProof.Rows
/-! ### f-strings of texts -/
section
variable {X : Cx} {e v₁ v₂ : Expr} {es : List Expr} {te : TE} {u : Str → TE} {pos : Pos}
end
end L2
namespace L3
open PySem L2
section
variable {X : Cx} {e v₁ v₂ : Expr} {es : List Expr} {te : TE3} {u : Str → TE3} {pos : Pos}
end
end L3

namespace L3
open PySem L2
/-! ### instances of the text's own classes -/
section
variable {X : Cx} {o e value : Expr} {es : List Expr} {to te tv : TE3} {tr : TA3} {pos pos' apos p : Pos} {f m x : Str} {C g : Addr}
end
end L3

namespace L3
open PySem L2
end L3

namespace L3
open PySem L2
/-! ### `<` of two lists of whole numbers -/
def lexI : List Int → List Int → Bool
  | [], [] => false
  | [], _ :: _ => true
  | _ :: _, [] => false
  | x :: xs, y :: ys => if x = y then lexI xs ys else decide (x < y)
def IntsAt (us : Array Value) (xs : List Int) : Prop := us.size = xs.length ∧ ∀ j (h : j < us.size) (h' : j < xs.length), ∃ t, us[j] = .int xs[j] t
open PySem.AutoSeq1 (wpAny_loadPart')
theorem rc_lt_int {prog : Program} {w : World} {A : Around} {E : Value → Shared → Prop} {s : Shared} {a b : Int} {t u : Tok} {Q : Value → Shared → Prop} (h : Q (.bool (decide (a < b))) s) : wpAny (model prog w) A (richCompare .Lt (.int a t) (.int b u)) Q E s := PyProof.Rows.lt_int h
open MeetsSeq MeetsSeq2 MeetsSeq3 SeqRoads2 in
theorem lt_loopAt (l b : Addr) (items items2 : Array Value) (n n2 : Nat) (dd dd2 : Option Addr) (sl sl2 : Array (Option Value)) (xs ys : List Int) (hx : IntsAt items xs) (hy : IntsAt items2 ys) (k : Nat) :
    ∀ i : Nat, items.size - i = k → i ≤ items.size → i ≤ items2.size → Meets (Builtin.«list.__eq__.loop» ⟨[.ref l, .ref b, rawInt i, rawInt 0], []⟩)
      (fun A R s => s.heap.get? l = some { cls := .type "list", dict := dd, data := .seq items n, slots := sl } ∧ s.heap.get? b = some { cls := .type "list", dict := dd2, data := .seq items2 n2, slots := sl2 } ∧
        R (.ok (.ret (.bool (lexI (xs.drop i) (ys.drop i))))) s) := by
  induction k with
  | zero =>
    intro i hk h1 h2 prog w A R s h
    obtain ⟨hp, g, d, tk, os⟩ := s; obtain ⟨hl, hb, h⟩ := h
    wp_walk using wpAny_loadPart' hl, wpAny_loadPart' hb
    have hi1 : items[((i : Nat) : Int).toNat]? = none := by simp; omega
    rw [hi1]
    have e1 : xs.drop i = [] := by have := hx.1; simp; omega
    rw [e1] at h
    have e2 : lexI [] (ys.drop i) = decide (items.size < items2.size) := by
      have := hy.1
      by_cases h3 : items.size < items2.size
      · rw [List.drop_eq_getElem_cons (by omega : i < ys.length), decide_eq_true h3]; rfl
      · have e3 : ys.drop i = [] := by simp; omega
        rw [e3, decide_eq_false h3]; rfl
    rw [e2] at h
    wp_walk using wpAny_loadPart' hl, wpAny_loadPart' hb
    exact h
  | succ k ih =>
    intro i hk h1 h2 prog w A R s h
    obtain ⟨hp, g, d, tk, os⟩ := s; obtain ⟨hl, hb, h⟩ := h
    have hlt : i < items.size := by omega
    have hi1 : items[((i : Nat) : Int).toNat]? = some items[i] := by simp [hlt]
    have hc : ((i : Int) + 1) = ((i + 1 : Nat) : Int) := by push_cast; rfl
    have lx := hx.1; have ly := hy.1
    rw [List.drop_eq_getElem_cons (by omega : i < xs.length)] at h
    by_cases hlt2 : i < items2.size
    · have hi2 : items2[((i : Nat) : Int).toNat]? = some items2[i] := by simp [hlt2]
      rw [List.drop_eq_getElem_cons (by omega : i < ys.length)] at h
      obtain ⟨t, et⟩ := hx.2 i hlt (by omega)
      obtain ⟨u, eu⟩ := hy.2 i hlt2 (by omega)
      wp_walk using wpAny_loadPart' hl, wpAny_loadPart' hb
      rw [hi1, hi2, et, eu]
      refine wpAny_bind (EqGives.int _ _ t u prog w _ _ _ _ ?_)
      cases hb' : xs[i] == ys[i] with
      | true =>
        have he : xs[i] = ys[i] := by simpa using hb'
        have h : R (.ok (.ret (.bool (lexI (xs.drop (i + 1)) (ys.drop (i + 1)))))) ⟨hp, g, d, tk, os⟩ := by
          have : lexI (xs[i] :: xs.drop (i + 1)) (ys[i] :: ys.drop (i + 1)) = lexI (xs.drop (i + 1)) (ys.drop (i + 1)) := by
            show (if xs[i] = ys[i] then _ else _) = _; rw [if_pos he]
          rw [this] at h; exact h
        wp_walk
        rw [hc]
        exact ⟨plainId_quiet plain_eq_loop _, codeAny_builtin entry_eq_loop (by
          rw [Around.under_plainId plain_eq_loop _]
          exact ih (i + 1) (by omega) (by omega) (by omega) prog w A R _ ⟨hl, hb, h⟩)⟩
      | false =>
        have he : ¬ xs[i] = ys[i] := by simpa using hb'
        have h : R (.ok (.ret (.bool (decide (xs[i] < ys[i]))))) ⟨hp, g, d, tk, os⟩ := by
          have : lexI (xs[i] :: xs.drop (i + 1)) (ys[i] :: ys.drop (i + 1)) = decide (xs[i] < ys[i]) := by
            show (if xs[i] = ys[i] then _ else _) = _; rw [if_neg he]
          rw [this] at h; exact h
        wp_walk using wpAny_loadPart' hl, wpAny_loadPart' hb
        rw [hi1, hi2, et, eu]
        refine wpAny_bind (rc_lt_int ?_)
        wp_walk
        exact h
    · have hi2 : items2[((i : Nat) : Int).toNat]? = none := by simp; omega
      have e1 : ys.drop i = [] := by simp; omega
      rw [e1] at h
      wp_walk using wpAny_loadPart' hl, wpAny_loadPart' hb
      rw [hi1, hi2]
      wp_walk using wpAny_loadPart' hl, wpAny_loadPart' hb
      have e2 : decide (items.size < items2.size) = false := decide_eq_false (by omega)
      show R (.ok (.ret (.bool (decide (items.size < items2.size))))) _
      rw [e2]
      exact h
open MeetsSeq MeetsSeq2 MeetsSeq3 SeqRoads2 in
theorem list_ltAt (l b : Addr) (items items2 : Array Value) (n n2 : Nat) (dd dd2 : Option Addr) (sl sl2 : Array (Option Value)) (xs ys : List Int) (hx : IntsAt items xs) (hy : IntsAt items2 ys) :
    Meets (Builtin.«list.__lt__» ⟨[.ref l, .ref b], []⟩)
      (fun A R s => s.heap.get? l = some { cls := .type "list", dict := dd, data := .seq items n, slots := sl } ∧ s.heap.get? b = some { cls := .type "list", dict := dd2, data := .seq items2 n2, slots := sl2 } ∧
        R (.ok (.ret (.bool (lexI xs ys)))) s) := by
  intro prog w A R s h
  obtain ⟨hp, g, d, tk, os⟩ := s; obtain ⟨hl, hb, h⟩ := h
  have f3 := AutoSeq1.sub_list_list
  wp_walk using wpAny_loadPart' hl, wpAny_loadPart' hb
  exact ⟨plainId_quiet plain_eq_loop _, codeAny_builtin entry_eq_loop (by
    rw [Around.under_plainId plain_eq_loop _]
    exact lt_loopAt l b items items2 n n2 dd dd2 sl sl2 xs ys hx hy _ 0 rfl (Nat.zero_le _) (Nat.zero_le _) prog w A R _ ⟨hl, hb, h⟩)⟩
theorem lt_lists {prog : Program} {w : World} {A : Around} {E : Value → Shared → Prop} {s : Shared} {l b : Addr} {items items2 : Array Value} {xs ys : List Int} {Q : Value → Shared → Prop} (hl : s.heap.IsList l items) (hb : s.heap.IsList b items2) (hx : IntsAt items xs) (hy : IntsAt items2 ys) (hu : A.units < cLine)
    (h : Q (.bool (lexI xs ys)) s) : wpAny (model prog w) A (compareOp .Lt (.ref l) (.ref b)) Q E s := by
  obtain ⟨⟨cls, dd, data, sl⟩, ho, hc, n, hd⟩ := id hl
  obtain ⟨⟨cls2, dd2, data2, sl2⟩, ho2, hc2, n2, hd2⟩ := id hb
  simp only at hc hd hc2 hd2
  subst hc hd hc2 hd2
  exact richCompare_meets_room (op := .Lt) ⟨_, ho, rfl⟩ ⟨_, ho2, rfl⟩ PySem.F.slot_list_lt PySem.F.entry_list_lt (PySem.F.args_list_lt_2 _ _) (list_ltAt l b items items2 n n2 dd dd2 sl sl2 xs ys hx hy)
    ⟨ho, ho2, show Value.bool (lexI xs ys) ≠ Value.notImplemented ∧ Q (.bool (lexI xs ys)) s from ⟨(fun x => nomatch x), h⟩⟩ hu
theorem vals_ints : ∀ {xs : List Int} {us : List Value}, Vals (xs.map V.int) us → IntsAt us.toArray xs := by
  intro xs us h
  have hl : xs.length = us.length := by have := h.length; rwa [List.length_map] at this
  refine ⟨by rw [List.size_toArray, hl], fun j h1 h2 => ?_⟩
  have h1' : j < us.length := by simpa using h1
  have q1 : (xs.map V.int)[j]? = some (V.int xs[j]) := by simp [h2]
  have q2 : us[j]? = some us[j] := List.getElem?_eq_getElem h1'
  obtain ⟨t, e⟩ := Paired.at h q1 q2
  exact ⟨t, by simpa using e⟩
def intsOf : List Y → Option (List Int)
  | [] => some []
  | .int i :: r => (intsOf r).map (i :: ·)
  | _ => none
theorem intsOf_map (xs : List Int) : intsOf (xs.map Y.int) = some xs := by
  induction xs with
  | nil => rfl
  | cons x r ih => show (intsOf (r.map Y.int)).map (x :: ·) = _; rw [ih]; rfl
theorem intsOf_rel {G : G3} {H : Hp} : ∀ {ys : List Y} {xs : List V} {zs : List Int}, intsOf ys = some zs → RVs G H ys xs → xs = zs.map V.int
  | [], xs, zs, e, r => by
    have e' : some ([] : List Int) = some zs := e
    cases e'
    exact r
  | y :: t, xs, zs, e, r => by
    obtain ⟨x, xs', rfl, r1, r2⟩ := r
    cases y with
    | int i =>
      have e' : (intsOf t).map (i :: ·) = some zs := e
      cases h : intsOf t with
      | none => rw [h] at e'; cases e'
      | some us =>
        rw [h] at e'
        cases e'
        rw [intsOf_rel h r2]
        have r1' : x = V.int i := r1
        rw [r1']; rfl
    | _ => cases e
/-- `<` of two lists of ints -/
def yLtL (x y : Y) (L : LHp) (Q : YK) : Prop := seqK L x fun xs => seqK L y fun ys => listY x = true ∧ listY y = true ∧ ∃ us vs, intsOf xs = some us ∧ intsOf ys = some vs ∧ Q (.bl (lexI us vs)) L
theorem q_ltL {X : Cx} (K : PySem.W.Frag) (P : Program) (w : World) (hu : X.A.units + 128 < cLine) (hK : X.K = K := by rfl) (hP : X.prog = P := by rfl) (hw : X.w = w := by rfl) : OpR X (compareOp .Lt) (upR ⟨K, P, w⟩ yLtL) := by
  subst hK hP hw
  intro pins s σ H x y v u Q I rx ry ⟨x3, y3, L, Q3, r1, r2, rl, z, k⟩
  obtain ⟨xs, ex, z⟩ := seqK_inv z
  obtain ⟨ys, ey, z⟩ := seqK_inv z
  obtain ⟨lx, ly, us, vs, e1, e2, q⟩ := z
  obtain ⟨a, ws, rfl, s1, rv1⟩ := seq_listY rl r1 lx ex
  obtain ⟨b, ws', rfl, s2, rv2⟩ := seq_listY rl r2 ly ey
  cases rx; cases ry
  obtain ⟨is1, vx, tx, _⟩ := I.list s1
  obtain ⟨is2, vy, ty, _⟩ := I.list s2
  have i1 := intsOf_rel e1 rv1
  have i2 := intsOf_rel e2 rv2
  rw [i1] at vx
  rw [i2] at vy
  exact lt_lists (plain_list tx) (plain_list ty) (vals_ints vx) (vals_ints vy) (by omega) ⟨.bl _, H, I, rfl, k _ H _ L (TSt.refl _) rl (by rfl) q⟩
/-- `<<` -/
abbrev yShl : R23 := yI CPow fun i j => .int (i * 2 ^ j.toNat)
theorem q_shl {X : Cx} : OpR X (binaryOp .LShift) (upR X.g3 yShl) := OpI op_shl fun _ _ _ => rfl
/-- x.reverse() -/
def yReverse (x : Y) (vs : List Y) (L : LHp) (Q : YK) : Prop := match x, vs with
  | .ref a, [] => lstK L a fun ys => Q .non (updL L a (.lst ys.reverse))
  | _, _ => False
theorem RVs.rev {G : G3} {H : Hp} : ∀ {ys : List Y} {xs : List V}, RVs G H ys xs → RVs G H ys.reverse xs.reverse
  | [], xs, r => by cases (show xs = [] from r); exact rfl
  | y :: t, xs, r => by
    obtain ⟨x, xs', rfl, r1, r2⟩ := r
    rw [List.reverse_cons, List.reverse_cons]
    exact RVs.app (RVs.rev r2) (RVs.one r1)
theorem q_reverse {X : Cx} : MtM X "list.reverse" (upM X.g3 yReverse) := MtM.imp mt_reverse fun x xs H Q ⟨y, ys, L, Q3, r1, r2, rl, z, k⟩ => by
  unfold yReverse at z
  split at z
  · rename_i a
    obtain ⟨zs, e, z⟩ := lstK_inv z
    obtain ⟨us, e2, r⟩ := rl a _ e
    cases (show xs = [] from r2)
    exact ⟨a, us, r1, rfl, e2, k _ _ _ _ (TSt.lst e2) (rl.setL e2 r.rev) (by rfl) z⟩
  · exact z.elim
theorem qe_reverse {X : Cx} {o : Expr} {to : TE3} {apos cpos : Pos} (ho : QE X o to) (h4 : attributeBase o "reverse" X.env (eval o X.env) = eval o X.env := by rfl) (h6 : (apos.endLine == cpos.line) = true := by rfl) :
    QE X (.Call (.Attribute o "reverse" apos) [] [] cpos) (yBL yReverse to yNil) := qe_bl0 PySem.F.slot_list_reverse PySem.F.type_list_reverse q_reverse ho h4 h6
/-- + of two lists, also of one that nobody changes -/
def yAddQ (x y : Y) (L : LHp) (Q : YK) : Prop := seqK L x fun xs => seqK L y fun ys => listY x = true ∧ listY y = true ∧ xs.length + ys.length ≤ sizeLine ∧ ∀ p, L p = none → Q (.ref p) (updL L p (.lst (xs ++ ys)))
theorem q_addQ {X : Cx} (K : PySem.W.Frag) (P : Program) (w : World) (hK : X.K = K := by rfl) (hP : X.prog = P := by rfl) (hw : X.w = w := by rfl) : OpR X (binaryOp .Add) (upR ⟨K, P, w⟩ yAddQ) := by
  subst hK hP hw
  intro pins s σ H x y v u Q I rx ry ⟨x3, y3, L, Q3, r1, r2, rl, z, k⟩
  obtain ⟨xs, ex, z⟩ := seqK_inv z
  obtain ⟨ys, ey, z⟩ := seqK_inv z
  obtain ⟨lx, ly, hz, q⟩ := z
  obtain ⟨a, ws, rfl, s1, rv1⟩ := seq_listY rl r1 lx ex
  obtain ⟨b, ws', rfl, s2, rv2⟩ := seq_listY rl r2 ly ey
  cases rx; cases ry
  obtain ⟨is1, vx, tx, _⟩ := I.list s1
  obtain ⟨is2, vy, ty, _⟩ := I.list s2
  obtain ⟨⟨cls, dd, data, sl⟩, ho, hc, n, hd⟩ := id (plain_list tx)
  obtain ⟨⟨cls2, dd2, data2, sl2⟩, ho2, hc2, n2, hd2⟩ := id (plain_list ty)
  simp only at hc hd hc2 hd2
  subst hc hd hc2 hd2
  have l1 := vx.length; have l2 := vy.length; have l3 := rv1.length; have l4 := rv2.length
  have hsz : is1.toArray.size + is2.toArray.size ≤ sizeLine := by rw [List.size_toArray, List.size_toArray]; omega
  refine concat_meets ⟨_, ho, rfl⟩ ⟨_, ho2, rfl⟩ noFill_list_add seq_list_add PySem.F.slot_list_add PySem.F.entry_list_add (PySem.F.args_list_add_2 _ _) (PyProof.Rows.list_addW a b is1.toArray is2.toArray n n2 dd dd2 sl sl2 hsz) ⟨ho, ho2, ?_⟩
  have e : is1.toArray ++ is2.toArray = (is1 ++ is2).toArray := by simp
  rw [e]
  exact ⟨.ref _, _, I.lnew (t' := s.toks) (vx.append vy) (by rw [List.length_append]; omega), rfl, k _ _ _ _ (TSt.new I.fresh) (rl.newL I.fresh (rv1.app rv2)) (by rfl) (q _ (rl.none I.fresh))⟩
end L3

namespace L3
open PySem L2 Words
local macro_rules | `(tactic| walk_at "w") => `(tactic| conv => whnf)
def t_ways_to_choose : TS3 := (ySeq (yAsg (yC (.int 1)) (gyName 1))
  (ySeq (yFor (iyRng1 (yCons (yVar 0) yNil)) (gyName 2) (yAsg (yOp yMul (yVar 1) (yC (.int 2))) (gyName 1)))
  (yRet (yVar 1))))
def t_choices_at (C_BadChoices : Addr) (E3 : X3) (p_ways_to_choose : Sp3) : TS3 := (ySeq (yIfS (yNot (yB (yChain (yC (.int 0)) (yLink yLe (yVar 1) (yLast yLt (yCall p_ways_to_choose (yCons (yVar 0) yNil))))))) (yRaise C_BadChoices E3 (yCons (yC (.str "no list of choices has that number")) yNil)) yNext)
  (ySeq (yAsg (yLst yNil) (gyName 2))
  (ySeq (yAsg (yVar 1) (gyName 3))
  (ySeq (yFor (iyRng1 (yCons (yVar 0) yNil)) (gyName 4) (ySeq (yDrop (yBL yAppend (yVar 2) (yCons (yOp yMod (yVar 3) (yC (.int 2))) yNil)))
  (yAsg (yOp yFdiv (yVar 3) (yC (.int 2))) (gyName 3))))
  (ySeq (yDrop (yBL yReverse (yVar 2) yNil))
  (yRet (yVar 2)))))))
def t__law_mix : TS3 := (yRet (yOp yFdiv (yOp yMod (yOp yMul (yOp yAdd (yOp yAdd (yOp yMul (yOp yMod (yVar 0) (yC (.int 1000003))) (yC (.int 7))) (yOp yMul (yVar 1) (yVar 1))) (yC (.int 1))) (yVar 2)) (yC (.int 2147483647))) (yC (.int 16))))
def t__law_whole : TS3 := (yRet (yAndV (yInst .int (yVar 0)) (yNotV (yInst .bool (yVar 0)))))
def t__law_weighed (p__law_whole : Sp3) : TS3 := (ySeq (yIfS (yOr (yNot (yB (yInst .list (yVar 0)))) (yB (yOp (yEq true) (yCB yLen (yCons (yVar 0) yNil)) (yVar 1)))) (yRet (yUn yNeg (yC (.int 1)))) yNext)
  (ySeq (yAsg (yC (.int 0)) (gyName 2))
  (ySeq (yFor (iyList (yVar 0)) (gyName 3) (ySeq (yIfS (yOr (yNot (yB (yCall p__law_whole (yCons (yVar 3) yNil)))) (yOr (yB (yOp yLt (yVar 3) (yC (.int 0)))) (yB (yOp yGt (yVar 3) (yC (.int 1)))))) (yRet (yUn yNeg (yC (.int 1)))) yNext)
  (yAsg (yOp yAdd (yOp yMul (yC (.int 2)) (yVar 2)) (yVar 3)) (gyName 2))))
  (yRet (yVar 2)))))
def t__law_refused (K : PySem.W.Frag) (C_BadChoices : Addr) (C_NoWord : Addr) (C_BadText : Addr) (C_BadWeb : Addr) (C_BadTree : Addr) (C_NoTree : Addr) (C_NoCut : Addr) (C_NoExchange : Addr) (C_OtherWeb : Addr) (C_TooMany : Addr) (C_OnceError : Addr) (p_choices_at : Sp3X) : TS3 := (ySeq (yAsg (yC (.bl false)) (gyName 2))
  (ySeq (yTry K C_BadChoices 3 (fun E3 => yDrop (yCallX p_choices_at E3 (yCons (yVar 0) (yCons (yVar 1) yNil)))) (ySeq (yAsg (yInstXT K [(.ref C_NoWord), (.ref C_BadText), (.ref C_BadWeb), (.ref C_BadTree), (.ref C_NoTree), (.ref C_NoCut), (.ref C_NoExchange), (.ref C_OtherWeb), (.ref C_TooMany)] (yVar 3)) (gyName 4))
  (yAsg (yAndV (yInstX K (.ref C_OnceError) (yVar 3)) (yAndV (yInstX K (.type "ValueError") (yVar 3)) (yNotV (yVar 4)))) (gyName 2))))
  (yRet (yVar 2))))
def t_law (p__law_mix : Sp3) (p__law_weighed : Sp3) (p_choices_at : Sp3X) (p__law_refused : Sp3) : TS3 := (ySeq (yFor (iyEnum (yOp yAddQ (yVar 0) (yLst (yCons (yC (.int 5)) yNil)))) (gyTup 2 (gyCons (gyName 1) (gyCons (gyName 2) gyNil))) (ySeq (yAsg (yOp yMod (yCall p__law_mix (yCons (yVar 2) (yCons (yVar 1) (yCons (yC (.int 16807)) yNil)))) (yC (.int 61))) (gyName 3))
  (ySeq (yAsg (yOp yShl (yC (.int 1)) (yVar 3)) (gyName 4))
  (ySeq (yAsg (yOp yMod (yOp yMul (yOp yMod (yVar 2) (yOp yPow (yC (.int 10)) (yC (.int 20)))) (yC (.int 48271))) (yVar 4)) (gyName 5))
  (ySeqJ (yIfS (yB (yOp (yEq false) (yOp yMod (yVar 2) (yC (.int 7))) (yC (.int 1)))) (yAsg (yOp ySub (yVar 4) (yC (.int 1))) (gyName 5)) yNext)
  (ySeqJ (yIfS (yB (yOp (yEq false) (yOp yMod (yVar 2) (yC (.int 7))) (yC (.int 2)))) (yAsg (yC (.int 0)) (gyName 5)) yNext)
  (ySeq (yIfS (yB (yOp (yEq true) (yCall p__law_weighed (yCons (yCallX p_choices_at noX (yCons (yVar 3) (yCons (yVar 5) yNil))) (yCons (yVar 3) yNil))) (yVar 5))) (yRet (yC (.bl false))) yNext)
  (ySeq (yIfS (yAnd (yB (yOp yLt (yOp yAdd (yVar 5) (yC (.int 1))) (yVar 4))) (yNot (yB (yOp yLtL (yCallX p_choices_at noX (yCons (yVar 3) (yCons (yVar 5) yNil))) (yCallX p_choices_at noX (yCons (yVar 3) (yCons (yOp yAdd (yVar 5) (yC (.int 1))) yNil))))))) (yRet (yC (.bl false))) yNext)
  (ySeq (yAsg (yOp yMul (yOp yMod (yOp yFdiv (yVar 2) (yC (.int 7))) (yC (.int 2))) (yOp yMod (yOp yFdiv (yVar 2) (yC (.int 14))) (yOp yPow (yC (.int 10)) (yC (.int 9))))) (gyName 6))
  (yIfS (yOr (yNot (yB (yCall p__law_refused (yCons (yVar 3) (yCons (yOp yAdd (yVar 4) (yVar 6)) yNil))))) (yNot (yB (yCall p__law_refused (yCons (yVar 3) (yCons (yOp ySub (yUn yNeg (yC (.int 1))) (yVar 6)) yNil)))))) (yRet (yC (.bl false))) yNext))))))))))
  (yRet (yC (.bl true))))
/-! the figures of a number, the last one first -/
def lsb : Nat → Int → List Int
  | 0, _ => []
  | c + 1, n => n % 2 :: lsb c (n / 2)
theorem lsb_len : ∀ (c : Nat) (n : Int), (lsb c n).length = c
  | 0, _ => rfl
  | c + 1, n => by show (lsb c (n / 2)).length + 1 = c + 1; rw [lsb_len c]
theorem lsb_snoc : ∀ (c : Nat) (n : Int), lsb (c + 1) n = lsb c n ++ [(n / 2 ^ c) % 2]
  | 0, n => by show [n % 2] = [(n / 2 ^ 0) % 2]; rw [Int.pow_zero, Int.ediv_one]
  | c + 1, n => by
    show n % 2 :: lsb (c + 1) (n / 2) = n % 2 :: (lsb c (n / 2) ++ [(n / 2 ^ (c + 1)) % 2])
    rw [lsb_snoc c (n / 2), Int.ediv_ediv_of_nonneg (by decide : (0 : Int) ≤ 2), ← Int.pow_succ']
def bitsM (c : Nat) (n : Int) : List Int := (lsb c n).reverse
theorem bitsM_len (c : Nat) (n : Int) : (bitsM c n).length = c := by unfold bitsM; rw [List.length_reverse, lsb_len]
theorem bitsM_succ (c : Nat) (n : Int) : bitsM (c + 1) n = bitsM c (n / 2) ++ [n % 2] := by unfold bitsM; show (n % 2 :: lsb c (n / 2)).reverse = _; rw [List.reverse_cons]
theorem bitsM_bit : ∀ (c : Nat) (n : Int), ∀ x ∈ bitsM c n, x = 0 ∨ x = 1
  | 0, _ => fun x h => by cases h
  | c + 1, n => fun x h => by
    rw [bitsM_succ] at h
    rcases List.mem_append.mp h with h | h
    · exact bitsM_bit c _ x h
    · rw [List.mem_singleton.mp h]; omega
def wt (xs : List Int) : Int := xs.foldl (fun v x => 2 * v + x) 0
theorem wt_snoc (xs : List Int) (x : Int) : wt (xs ++ [x]) = 2 * wt xs + x := by unfold wt; rw [List.foldl_append]; rfl
theorem pow2 (c : Nat) : (2 : Int) ^ (c + 1) = 2 ^ c * 2 := Int.pow_succ ..
theorem pow_pos2 (c : Nat) : (0 : Int) < 2 ^ c := Int.pow_pos (by decide)
theorem wt_bits : ∀ (c : Nat) (n : Int), 0 ≤ n → n < 2 ^ c → wt (bitsM c n) = n
  | 0, n, h0, h1 => by
    have : n = 0 := by have e : (2 : Int) ^ 0 = 1 := rfl; omega
    subst this; rfl
  | c + 1, n, h0, h1 => by
    rw [bitsM_succ, wt_snoc, wt_bits c (n / 2) (by omega) (by rw [pow2] at h1; omega)]
    omega
theorem lex_same : ∀ (l r s : List Int), lexI (l ++ r) (l ++ s) = lexI r s
  | [], _, _ => rfl
  | x :: l, r, s => by show (if x = x then lexI (l ++ r) (l ++ s) else _) = _; rw [if_pos rfl, lex_same l]
theorem lex_app : ∀ {l m : List Int} (r s : List Int), l.length = m.length → lexI l m = true → lexI (l ++ r) (m ++ s) = true
  | [], [], _, _, _, h => by cases h
  | [], _ :: _, _, _, e, _ => by cases e
  | _ :: _, [], _, _, e, _ => by cases e
  | x :: l, y :: m, r, s, e, h => by
    have h' : (if x = y then lexI l m else decide (x < y)) = true := h
    show (if x = y then lexI (l ++ r) (m ++ s) else decide (x < y)) = true
    by_cases c : x = y
    · rw [if_pos c] at h' ⊢
      exact lex_app r s (Nat.succ.inj e) h'
    · rw [if_neg c] at h' ⊢
      exact h'
theorem lex_bits : ∀ (c : Nat) (a b : Int), 0 ≤ a → a < b → b < 2 ^ c → lexI (bitsM c a) (bitsM c b) = true
  | 0, a, b, h0, h1, h2 => by have e : (2 : Int) ^ 0 = 1 := rfl; omega
  | c + 1, a, b, h0, h1, h2 => by
    rw [bitsM_succ, bitsM_succ]
    by_cases e : a / 2 = b / 2
    · have h3 : a % 2 = 0 := by omega
      have h4 : b % 2 = 1 := by omega
      rw [e, lex_same, h3, h4]
      rfl
    · exact lex_app _ _ (by rw [bitsM_len, bitsM_len]) (lex_bits c _ _ (by omega) (by omega) (by rw [pow2] at h2; omega))
/-! the defs -/
def sp_ways : Sp3 := fun ys L Q => ∃ c : Nat, ys = [.int c] ∧ c ≤ 60 ∧ Q (.int (2 ^ c)) L
theorem vc_ways : ∀ ys L Q, sp_ways ys L Q → run3 t_ways_to_choose 3 ys L Q := by
  rintro ys L Q ⟨c, rfl, hc, q⟩
  refine ⟨by omega, ?_⟩
  refine for_rng (fun i τ L' => L' = L ∧ ∃ k, τ = [some (.int c), some (.int (2 ^ i)), k]) ⟨rfl, _, rfl⟩ ?_ ?_
  · rintro i τ L' hi ⟨rfl, k, rfl⟩
    refine ⟨.inr ⟨by decide, by decide⟩, ⟨_, LSub.refl _, rfl, some (.int (0 + i)), ?_⟩⟩
    rw [pow2]; rfl
  · rintro τ L' ⟨rfl, k, rfl⟩
    have e : ((c : Int)).toNat = c := rfl
    exact fin q
def sp_choices (C : Addr) : Sp3X := fun ys L Q E => ∃ (c : Nat) (n : Int), ys = [.int c, .int n] ∧ c ≤ 60 ∧ (0 ≤ n → n < 2 ^ c → ∀ p, L p = none → Q (.ref p) (updL L p (.lst ((bitsM c n).map Y.int)))) ∧ (¬ (0 ≤ n ∧ n < 2 ^ c) → E C L)
theorem vc_choices {C : Addr} : ∀ ys L Q E, sp_choices C ys L Q E → run3 (t_choices_at C (FinX E) sp_ways) 5 ys L Q := by
  rintro ys L Q E ⟨c, n, rfl, hc, q, e⟩
  have bad : ¬ (0 ≤ n ∧ n < 2 ^ c) → FinX E [some (.int c), some (.int n), none, none, none] C L := fun h => ⟨L, LSub.refl _, e h⟩
  by_cases h0 : 0 ≤ n
  · refine yite_yes h0 ⟨c, rfl, hc, ?_⟩
    by_cases h1 : n < 2 ^ c
    · have e1 : decide (n < 2 ^ c) = true := decide_eq_true h1
      show yite (!decide (n < 2 ^ c)) _ _
      rw [e1]
      intro p hp
      refine ⟨by omega, ?_⟩
      refine for_rng (fun i τ L' => ∃ k, τ = [some (.int c), some (.int n), some (.ref p), some (.int (n / 2 ^ i)), k] ∧ L' = updL L p (.lst ((lsb i n).map Y.int)) ∧ i ≤ c) ⟨_, by rw [Int.pow_zero, Int.ediv_one]; rfl, rfl, Nat.zero_le _⟩ ?_ ?_
      · rintro i τ L' hi ⟨k, rfl, rfl, hic⟩
        have hi : i < c := hi
        refine seqL_of updL_same ⟨(by decide : (0 : Int) < 2), lstK_of updL_same ⟨small1000 (by rw [List.length_map, lsb_len]; omega), ⟨⟨by decide, by decide⟩, ⟨_, LSub.refl _, some (.int (0 + i)), ?_, ?_, by omega⟩⟩⟩⟩
        · rw [pow2, ← Int.ediv_ediv_of_nonneg (by have := pow_pos2 i; omega)]; rfl
        · rw [updL_updL, lsb_snoc, List.map_append]; rfl
      · rintro τ L' ⟨k, rfl, rfl, _⟩
        refine seqL_of updL_same (lstK_of updL_same ?_)
        refine fin ?_
        have := q h0 h1 p hp
        rw [updL_updL, ← List.map_reverse]
        exact this
    · have e1 : decide (n < 2 ^ c) = false := decide_eq_false h1
      show yite (!decide (n < 2 ^ c)) _ _
      rw [e1]
      exact ⟨Nat.le_of_ble_eq_true rfl, bad fun h => h1 h.2⟩
  · exact yite_no h0 ⟨Nat.le_of_ble_eq_true rfl, bad fun h => h0 h.1⟩
theorem ways60 {c : Nat} (h : c ≤ 60) : (2 : Int) ^ c ≤ 2 ^ 60 := by
  have : (2 : Nat) ^ c ≤ 2 ^ 60 := Nat.pow_le_pow_right (by decide) h
  exact_mod_cast this
def sp_mix : Sp3 := fun ys L Q => ∃ a b f : Int, ys = [.int a, .int b, .int f] ∧ 0 ≤ b ∧ b ≤ 100 ∧ f = 16807 ∧ ∀ r : Int, Q (.int r) L
theorem vc_mix31 : ∀ ys L Q, sp_mix ys L Q → run3 t__law_mix 3 ys L Q := by
  rintro ys L Q ⟨a, b, f, rfl, h1, h2, rfl, q⟩
  refine ⟨(by decide : (0 : Int) < 1000003), .inr ⟨by decide, by decide⟩, .inr ⟨by omega, by omega⟩, .inr ⟨by decide, by decide⟩, (by decide : (0 : Int) < 2147483647), ⟨by decide, by decide⟩, fin (q _)⟩
def sp_whole31 : Sp3 := fun ys L Q => ∃ i : Int, ys = [.int i] ∧ Q (.bl true) L
theorem vc_whole31 : ∀ ys L Q, sp_whole31 ys L Q → run3 t__law_whole 1 ys L Q := by
  rintro ys L Q ⟨i, rfl, q⟩
  exact fin q
def sp_weighed : Sp3 := fun ys L Q => ∃ (a : Addr) (xs : List Int), ys = [.ref a, .int xs.length] ∧ L a = some (.lst (xs.map Y.int)) ∧ (∀ x ∈ xs, x = 0 ∨ x = 1) ∧ Q (.int (wt xs)) L
theorem vc_weighed : ∀ ys L Q, sp_weighed ys L Q → run3 (t__law_weighed sp_whole31) 4 ys L Q := by
  rintro ys L Q ⟨a, xs, rfl, ha, hb, q⟩
  refine tyK_lst ha ?_
  refine seqL_of ha ?_
  rw [List.length_map]
  have e : decide (((xs.length : Nat) : Int) = ((xs.length : Nat) : Int)) = true := decide_eq_true rfl
  show yite (nb true (decide (((xs.length : Nat) : Int) = ((xs.length : Nat) : Int)))) _ _
  rw [e]
  show lisK L a _
  refine for_lst (ys := xs.map Y.int) (seqOf_lst ha) (fun i τ L' => L' = L ∧ ∃ k, τ = [some (.ref a), some (.int xs.length), some (.int (wt (xs.take i))), k]) ⟨rfl, _, rfl⟩ (fun i τ L' ⟨h, _⟩ => by rw [h]) ?_ ?_
  · rintro i y τ L' hy ⟨rfl, k, rfl⟩
    rw [List.getElem?_map] at hy
    obtain ⟨x, ex, rfl⟩ := Option.map_eq_some_iff.mp hy
    have hx := hb x (List.mem_of_getElem? ex)
    refine ⟨x, rfl, ?_⟩
    have fin2 : Frg (fun (τ : St3) (L'' : LHp) => L'' = L' ∧ ∃ k, τ = [some (.ref a), some (.int xs.length), some (.int (wt (xs.take (i + 1)))), k]) ([some (.ref a), some (.int xs.length), some (.int (2 * wt (xs.take i) + x)), some (.int x)] : St3) L' := by
      refine frg ⟨rfl, some (.int x), ?_⟩
      rw [List.take_succ, ex]
      show ([some (.ref a), some (.int xs.length), some (.int (2 * wt (xs.take i) + x)), some (.int x)] : St3) = [some (.ref a), some (.int xs.length), some (.int (wt (xs.take i ++ [x]))), some (.int x)]
      rw [wt_snoc]
    refine yite_no (by omega) (yite_no (by omega) ⟨.inl ⟨by decide, by decide⟩, fin2⟩)
  · rintro τ L' ⟨rfl, k, rfl⟩
    rw [List.length_map, List.take_length]
    exact fin q
/-! the refusal -/
structure XF31 (K : PySem.W.Frag) (C n1 n2 n3 n4 n5 n6 n7 n8 n9 o : Addr) : Prop where
  hd : XHd K C
  em : PySem.W.exmOne K (.ref C) (.ref C) = some true
  ot : PySem.W.kitAny K (.ref C) [.ref n1, .ref n2, .ref n3, .ref n4, .ref n5, .ref n6, .ref n7, .ref n8, .ref n9] = some false
  on : PySem.W.kitOne K (.ref C) (.ref o) = some true
  ve : PySem.W.kitOne K (.ref C) (.type "ValueError") = some true
def sp_refused : Sp3 := fun ys L Q => ∃ (c : Nat) (n : Int), ys = [.int c, .int n] ∧ c ≤ 60 ∧ ¬ (0 ≤ n ∧ n < 2 ^ c) ∧ Q (.bl true) L
theorem vc_refused {K : PySem.W.Frag} {C n1 n2 n3 n4 n5 n6 n7 n8 n9 o : Addr} (xf : XF31 K C n1 n2 n3 n4 n5 n6 n7 n8 n9 o) : ∀ ys L Q, sp_refused ys L Q → run3 (t__law_refused K C n1 n2 n3 n4 n5 n6 n7 n8 n9 o (sp_choices C)) 5 ys L Q := by
  rintro ys L Q ⟨c, n, rfl, hc, hn, q⟩
  refine ⟨c, n, rfl, hc, fun h0 h1 => absurd ⟨h0, h1⟩ hn, fun _ => ⟨xf.em, fun a ha => ?_⟩⟩
  refine excK_of updL_same ⟨xf.hd, false, xf.ot, ?_⟩
  refine excK_of updL_same ⟨xf.hd, true, xf.on, ?_⟩
  refine excK_of updL_same ⟨xf.hd, true, xf.ve, ?_⟩
  exact finS (LSub.new ha) q
theorem vc_law31 {C : Addr} : ∀ ys L Q, sp_law ys L Q → run3 (t_law sp_mix sp_weighed (sp_choices C) sp_refused) 7 ys L Q := by
  rintro ys L Q ⟨ns, rfl, h63, rfl, q⟩
  intro p5 hp5
  refine seqL_of updL_same ⟨rfl, rfl, small (by rw [List.length_map]; show ns.length + 1 ≤ 1000; omega), fun p hp => ?_⟩
  generalize eL : updL (updL (fun _ => none) p5 (.lst [.int 5])) p (.lst (ns.map Y.int ++ [.int 5])) = L0
  have hL0 : L0 p = some (.lst ((ns ++ [5]).map Y.int)) := by rw [← eL, updL_same, List.map_append]; rfl
  refine lisK_of hL0 fun keep kp => forK_mk ⟨fun i τ L' => L0 = L' ∧ ∃ c1 c2 c3 c4 c5 c6, τ = [some (.sq (ns.map Y.int)), c1, c2, c3, c4, c5, c6], ⟨rfl, _, _, _, _, _, _, rfl⟩, fun i τ L' ⟨e, _⟩ => kp L' (by rw [← e]), ?_, ?_⟩
  · rintro i y τ L' hy ⟨rfl, c1, c2, c3, c4, c5, c6, rfl⟩
    obtain ⟨z, ez, rfl⟩ := enumY_at hy
    rw [List.getElem?_map] at ez
    obtain ⟨cell, ec, rfl⟩ := Option.map_eq_some_iff.mp ez
    have hi : i < (ns ++ [(5 : Int)]).length := by
      by_cases c : i < (ns ++ [(5 : Int)]).length
      · exact c
      · rw [List.getElem?_eq_none (by omega)] at ec; cases ec
    rw [List.length_append, List.length_singleton] at hi
    refine ⟨cell, i, 16807, rfl, by omega, by omega, rfl, fun r => ⟨(by decide : (0 : Int) < 61), ?_⟩⟩
    obtain ⟨c, ec, hc⟩ : ∃ c : Nat, r % 61 = (c : Int) ∧ c ≤ 60 := ⟨(r % 61).toNat, by omega, by omega⟩
    have eq61 : (fun i j : Int => Y.int (i % j)) r 61 = Y.int c := congrArg Y.int ec
    rw [eq61]
    refine ⟨⟨by omega, by omega, by decide⟩, ?_⟩
    have et : (1 : Int) * 2 ^ ((c : Int).toNat) = 2 ^ c := Int.one_mul _
    have hp2 := pow_pos2 c
    have hp60 := ways60 hc
    refine ⟨⟨by decide, by decide, by decide⟩, (by decide : (0 : Int) < 10 ^ (20 : Int).toNat), .inr ⟨by decide, by decide⟩, (by rw [et]; exact hp2 : (0 : Int) < 1 * 2 ^ ((c : Int).toNat)), ?_⟩
    have hm1 : 0 ≤ cell % 10 ^ (20 : Int).toNat * 48271 % (1 * 2 ^ ((c : Int).toNat)) := Int.emod_nonneg _ (by rw [et]; omega)
    have hm2 : cell % 10 ^ (20 : Int).toNat * 48271 % (1 * 2 ^ ((c : Int).toNat)) < 2 ^ c := by have := Int.emod_lt_of_pos (cell % 10 ^ (20 : Int).toNat * 48271) (b := 1 * 2 ^ ((c : Int).toNat)) (by rw [et]; exact hp2); rw [et] at this ⊢; exact this
    let J : St3 → LHp → Prop := fun τ L' => L0 = L' ∧ ∃ n, 0 ≤ n ∧ n < 2 ^ c ∧ τ = [some (.sq (ns.map Y.int)), some (.int i), some (.int cell), some (.int c), some (.int (1 * 2 ^ ((c : Int).toNat))), some (.int n), c6]
    refine ⟨J, ⟨(by decide : (0 : Int) < 7), yite_dec (fun _ => ⟨rfl, 1 * 2 ^ ((c : Int).toNat) - 1, by rw [et]; omega, by rw [et]; omega, rfl⟩) (fun _ => ⟨rfl, _, hm1, hm2, rfl⟩)⟩, ?_⟩
    rintro _ _ ⟨rfl, n1, h1, h2, rfl⟩
    refine ⟨J, ⟨(by decide : (0 : Int) < 7), yite_dec (fun _ => ⟨rfl, 0, by omega, hp2, rfl⟩) (fun _ => ⟨rfl, n1, h1, h2, rfl⟩)⟩, ?_⟩
    rintro _ _ ⟨rfl, n, h3, h4, rfl⟩
    refine ⟨c, n, rfl, hc, fun _ _ pa hpa => ?_, fun h => absurd ⟨h3, h4⟩ h⟩
    refine ⟨pa, bitsM c n, by rw [bitsM_len], updL_same, bitsM_bit c n, ?_⟩
    have ew : nb true (decide (wt (bitsM c n) = n)) = false := by rw [wt_bits c n h3 h4, decide_eq_true rfl]; rfl
    show yite (nb true (decide (wt (bitsM c n) = n))) _ _
    rw [ew]
    have s1 : LSub L0 (updL L0 pa (.lst ((bitsM c n).map Y.int))) := LSub.new hpa
    generalize updL L0 pa (.lst ((bitsM c n).map Y.int)) = L1 at s1
    have hf0 : 0 ≤ cell / 7 % 2 * (cell / 14 % 10 ^ (9 : Int).toNat) := Int.mul_nonneg (by omega) (Int.emod_nonneg _ (by decide))
    by_cases hlt : n + 1 < 1 * 2 ^ ((c : Int).toNat)
    · refine yite_yes hlt ?_
      have hlt' : n + 1 < 2 ^ c := by rw [et] at hlt; exact hlt
      refine ⟨c, n, rfl, hc, fun _ _ pb hpb => ?_, fun h => absurd ⟨h3, h4⟩ h⟩
      refine ⟨c, n + 1, rfl, hc, fun _ _ pc hpc => ?_, fun h => absurd ⟨by omega, hlt'⟩ h⟩
      have nbc : pb ≠ pc := neL updL_same hpc
      refine seqL_of (by rw [updL_ne nbc]; exact updL_same) (seqL_of updL_same ⟨rfl, rfl, _, _, intsOf_map _, intsOf_map _, ?_⟩)
      have s2 : LSub L0 (updL (updL L1 pb (.lst ((bitsM c n).map Y.int))) pc (.lst ((bitsM c (n + 1)).map Y.int))) := s1.trans ((LSub.new hpb).trans (LSub.new hpc))
      generalize updL (updL L1 pb (.lst ((bitsM c n).map Y.int))) pc (.lst ((bitsM c (n + 1)).map Y.int)) = L2 at s2
      show yite (!lexI (bitsM c n) (bitsM c (n + 1))) _ _
      rw [lex_bits c n (n + 1) h3 (by omega) hlt']
      refine ⟨⟨by decide, by decide⟩, (by decide : (0 : Int) < 2), ⟨by decide, by decide⟩, ⟨by decide, by decide, by decide⟩, (by decide : (0 : Int) < 10 ^ (9 : Int).toNat), .inl ⟨by omega, by omega⟩, ?_⟩
      refine ⟨c, _, rfl, hc, by rw [et]; omega, ?_⟩
      refine ⟨c, _, rfl, hc, by omega, ?_⟩
      exact ⟨L0, s2, rfl, _, _, _, _, _, _, rfl⟩
    · refine yite_no hlt ?_
      refine ⟨⟨by decide, by decide⟩, (by decide : (0 : Int) < 2), ⟨by decide, by decide⟩, ⟨by decide, by decide, by decide⟩, (by decide : (0 : Int) < 10 ^ (9 : Int).toNat), .inl ⟨by omega, by omega⟩, ?_⟩
      refine ⟨c, _, rfl, hc, by rw [et]; omega, ?_⟩
      refine ⟨c, _, rfl, hc, by omega, ?_⟩
      exact ⟨L0, s1, rfl, _, _, _, _, _, _, rfl⟩
  · rintro τ L' ⟨rfl, c1, c2, c3, c4, c5, c6, rfl⟩
    exact fin (q _)
end L3

namespace K31
open PySem L2 L3 Words
def top (i : Nat) : Stmt := PySem.Challenge.pw_oncewise_k31_choices_in_order.main.body.getD i (.Pass ⟨0, 0, 0, 0⟩)
abbrev s_ways_to_choose : Stmt := top 13
theorem sc_ways_to_choose : FnScope ["count", "ways", "choice"] ["count"] (defScope s_ways_to_choose) := ⟨rfl, rfl, rfl, by decide +kernel, rfl, by decide +kernel, by decide +kernel⟩
abbrev s_choices_at : Stmt := top 14
theorem sc_choices_at : FnScope ["count", "number", "choices", "rest", "choice"] ["count", "number"] (defScope s_choices_at) := ⟨rfl, rfl, rfl, by decide +kernel, rfl, by decide +kernel, by decide +kernel⟩
abbrev s__law_mix : Stmt := top 16
theorem sc__law_mix : FnScope ["_law_cell", "_law_k", "_law_factor"] ["_law_cell", "_law_k", "_law_factor"] (defScope s__law_mix) := ⟨rfl, rfl, rfl, by decide +kernel, rfl, by decide +kernel, by decide +kernel⟩
abbrev s__law_whole : Stmt := top 17
theorem sc__law_whole : FnScope ["_law_found"] ["_law_found"] (defScope s__law_whole) := ⟨rfl, rfl, rfl, by decide +kernel, rfl, by decide +kernel, by decide +kernel⟩
abbrev s__law_weighed : Stmt := top 18
theorem sc__law_weighed : FnScope ["_law_found", "_law_count", "_law_value", "_law_choice"] ["_law_found", "_law_count"] (defScope s__law_weighed) := ⟨rfl, rfl, rfl, by decide +kernel, rfl, by decide +kernel, by decide +kernel⟩
abbrev s__law_refused : Stmt := top 19
theorem sc__law_refused : FnScope ["_law_count", "_law_number", "_law_good", "e", "_law_others"] ["_law_count", "_law_number"] (defScope s__law_refused) := ⟨rfl, rfl, rfl, by decide +kernel, rfl, by decide +kernel, by decide +kernel⟩
abbrev s_law : Stmt := top 20
theorem sc_law : FnScope ["_law_script", "_law_k", "_law_cell", "_law_count", "_law_total", "_law_number", "_law_far"] ["_law_script"] (defScope s_law) := ⟨rfl, rfl, rfl, by decide +kernel, rfl, by decide +kernel, by decide +kernel⟩
structure Bt (K : PySem.W.Frag) (P : Program) (w : World) (mg : Str → Option Value) (C_BadChoices C_NoWord C_BadText C_BadWeb C_BadTree C_NoTree C_NoCut C_NoExchange C_OtherWeb C_TooMany C_OnceError : Addr) : Prop where
  none_ : True
  b_range : mg "range" = none
  b_isinstance : mg "isinstance" = none
  b_bool : mg "bool" = none
  b_int : mg "int" = none
  b_len : mg "len" = none
  b_list : mg "list" = none
  b_ValueError : mg "ValueError" = none
  b_enumerate : mg "enumerate" = none
  m_BadChoices : mg "BadChoices" = some (.ref C_BadChoices)
  m_NoWord : mg "NoWord" = some (.ref C_NoWord)
  m_BadText : mg "BadText" = some (.ref C_BadText)
  m_BadWeb : mg "BadWeb" = some (.ref C_BadWeb)
  m_BadTree : mg "BadTree" = some (.ref C_BadTree)
  m_NoTree : mg "NoTree" = some (.ref C_NoTree)
  m_NoCut : mg "NoCut" = some (.ref C_NoCut)
  m_NoExchange : mg "NoExchange" = some (.ref C_NoExchange)
  m_OtherWeb : mg "OtherWeb" = some (.ref C_OtherWeb)
  m_TooMany : mg "TooMany" = some (.ref C_TooMany)
  m_OnceError : mg "OnceError" = some (.ref C_OnceError)
  x_BadChoices : XCls K C_BadChoices
section
variable {P : Program} {w : World} {K : PySem.W.Frag} {mg : Str → Option Value} {base : Heap} {f : Addr} {fd : FuncData} {m : Nat} {C_BadChoices C_NoWord C_BadText C_BadWeb C_BadTree C_NoTree C_NoCut C_NoExchange C_OtherWeb C_TooMany C_OnceError : Addr}
theorem tm_ways_to_choose (B : Bt K P w mg C_BadChoices C_NoWord C_BadText C_BadWeb C_BadTree C_NoTree C_NoCut C_NoExchange C_OtherWeb C_TooMany C_OnceError) {cdv : Value} {A : Around} {outer : List Env} {s : Shared} {H : Hp} {E : XK} (hr : Room m (A.deeper (PyProof.Rows.envOfC "ways_to_choose" (defScope s_ways_to_choose) s.heap.objs.size f cdv))) :
    QSs (cxOf CX0 P w K mg base ["count", "ways", "choice"] "ways_to_choose" (defScope s_ways_to_choose) f cdv A outer s H E).nox (defBody s_ways_to_choose) t_ways_to_choose := by
  have sc := sc_ways_to_choose
  have hu := huK hr
  exact (qss_cons (qs_set (i := 1) sc.nd rfl (Or.inl rfl) qe_int)
    (qss_cons (qs_for PassesOwn.never rfl (qi_range1 rfl B.b_range (qa_cons (qv 0) qa_nil)) (qg_name (i := 2) sc.nd rfl (Or.inl rfl)) (qss_one (qs_set (i := 1) sc.nd rfl (Or.inl rfl) (qe_op q_mul (qv 1) qe_int))))
    (qss_one (qs_ret (qv 1)))))
theorem all_ways_to_choose (F : Fun K "ways_to_choose" "ways_to_choose" s_ways_to_choose f fd) (B : Bt K P w mg C_BadChoices C_NoWord C_BadText C_BadWeb C_BadTree C_NoTree C_NoCut C_NoExchange C_OtherWeb C_TooMany C_OnceError) : Fn3 P w K mg base 1 f fd ["count"] (sp_ways) :=
  ok3 (k := 0) F sc_ways_to_choose (by rintro _ _ _ ⟨_, rfl, _⟩; rfl) fun cdv A outer s H E hr => ⟨_, tm_ways_to_choose B  hr, vc_ways⟩
theorem tm_choices_at {p_ways_to_choose : Sp3} (B : Bt K P w mg C_BadChoices C_NoWord C_BadText C_BadWeb C_BadTree C_NoTree C_NoCut C_NoExchange C_OtherWeb C_TooMany C_OnceError) (c_ways_to_choose : Cal3 P w K mg base m "ways_to_choose" ["count"] p_ways_to_choose) {cdv : Value} {A : Around} {outer : List Env} {s : Shared} {H : Hp} {E : XK} {E3 : X3} (hr : Room m (A.deeper (PyProof.Rows.envOfC "choices_at" (defScope s_choices_at) s.heap.objs.size f cdv))) (ht : Takes (cxOf (CXE P w) P w K mg base ["count", "number", "choices", "rest", "choice"] "choices_at" (defScope s_choices_at) f cdv A outer s H E) (upX ⟨K, P, w⟩ E3)) :
    QSs (cxOf (CXE P w) P w K mg base ["count", "number", "choices", "rest", "choice"] "choices_at" (defScope s_choices_at) f cdv A outer s H E) (defBody s_choices_at) (t_choices_at C_BadChoices E3 p_ways_to_choose) := by
  have sc := sc_choices_at
  have hu := huK hr
  exact (qss_cons (qs_if (qt_not (qt_chain qe_int (qcht_link q_le (qv 1) (qcht_last q_lt (qe_c c_ways_to_choose hr rfl (qa_cons (qv 0) qa_nil)))))) (qss_one (qs_raise B.x_BadChoices rfl B.m_BadChoices rfl ht rfl (qa_cons qe_str qa_nil))) qss_nil)
    (qss_cons (qs_set (i := 2) sc.nd rfl (Or.inl rfl) (qe_lst qa_nil))
    (qss_cons (qs_set (i := 3) sc.nd rfl (Or.inl rfl) (qv 1))
    (qss_cons (qs_for PassesOwn.leaving rfl (qi_range1 rfl B.b_range (qa_cons (qv 0) qa_nil)) (qg_name (i := 4) sc.nd rfl (Or.inl rfl)) (qss_cons (qs_expr (qe_append (qv 2) (qa_cons (qe_op q_mod (qv 3) qe_int) qa_nil)))
    (qss_one (qs_set (i := 3) sc.nd rfl (Or.inl rfl) (qe_op q_fdiv (qv 3) qe_int)))))
    (qss_cons (qs_expr (qe_reverse (qv 2)))
    (qss_one (qs_ret (qv 2))))))))
theorem all_choices_at (F : Fun K "choices_at" "choices_at" s_choices_at f fd) (B : Bt K P w mg C_BadChoices C_NoWord C_BadText C_BadWeb C_BadTree C_NoTree C_NoCut C_NoExchange C_OtherWeb C_TooMany C_OnceError) (c_ways_to_choose : Cal3 P w K mg base 1 "ways_to_choose" ["count"] (sp_ways)) : Fn3X P w K mg base 2 f fd ["count", "number"] (sp_choices C_BadChoices) :=
  ok3X (k := 1) (t := fun E3 => t_choices_at C_BadChoices E3 (sp_ways)) F sc_choices_at (by rintro _ _ _ _ ⟨_, _, rfl, _⟩; rfl) (fun cdv A outer s H E E3 hr ht => tm_choices_at B (c_ways_to_choose.mono (by decide)) hr ht) (vc_choices)
theorem tm__law_mix (B : Bt K P w mg C_BadChoices C_NoWord C_BadText C_BadWeb C_BadTree C_NoTree C_NoCut C_NoExchange C_OtherWeb C_TooMany C_OnceError) {cdv : Value} {A : Around} {outer : List Env} {s : Shared} {H : Hp} {E : XK} (hr : Room m (A.deeper (PyProof.Rows.envOfC "_law_mix" (defScope s__law_mix) s.heap.objs.size f cdv))) :
    QSs (cxOf CX0 P w K mg base ["_law_cell", "_law_k", "_law_factor"] "_law_mix" (defScope s__law_mix) f cdv A outer s H E).nox (defBody s__law_mix) t__law_mix := by
  have sc := sc__law_mix
  have hu := huK hr
  exact (qss_one (qs_ret (qe_op q_fdiv (qe_op q_mod (qe_op q_mul (qe_op q_add (qe_op q_add (qe_op q_mul (qe_op q_mod (qv 0) qe_int) qe_int) (qe_op q_mul (qv 1) (qv 1))) qe_int) (qv 2)) qe_int) qe_int)))
theorem all__law_mix (F : Fun K "_law_mix" "_law_mix" s__law_mix f fd) (B : Bt K P w mg C_BadChoices C_NoWord C_BadText C_BadWeb C_BadTree C_NoTree C_NoCut C_NoExchange C_OtherWeb C_TooMany C_OnceError) : Fn3 P w K mg base 1 f fd ["_law_cell", "_law_k", "_law_factor"] (sp_mix) :=
  ok3 (k := 0) F sc__law_mix (by rintro _ _ _ ⟨_, _, _, rfl, _⟩; rfl) fun cdv A outer s H E hr => ⟨_, tm__law_mix B  hr, vc_mix31⟩
theorem tm__law_whole (B : Bt K P w mg C_BadChoices C_NoWord C_BadText C_BadWeb C_BadTree C_NoTree C_NoCut C_NoExchange C_OtherWeb C_TooMany C_OnceError) {cdv : Value} {A : Around} {outer : List Env} {s : Shared} {H : Hp} {E : XK} (hr : Room m (A.deeper (PyProof.Rows.envOfC "_law_whole" (defScope s__law_whole) s.heap.objs.size f cdv))) :
    QSs (cxOf CX0 P w K mg base ["_law_found"] "_law_whole" (defScope s__law_whole) f cdv A outer s H E).nox (defBody s__law_whole) t__law_whole := by
  have sc := sc__law_whole
  have hu := huK hr
  exact (qss_one (qs_ret (qe_and (qe_inst .int rfl B.b_isinstance rfl B.b_int bt_int (qv 0)) (qe_one (qe_not (qe_inst .bool rfl B.b_isinstance rfl B.b_bool bt_bool (qv 0)))))))
theorem all__law_whole (F : Fun K "_law_whole" "_law_whole" s__law_whole f fd) (B : Bt K P w mg C_BadChoices C_NoWord C_BadText C_BadWeb C_BadTree C_NoTree C_NoCut C_NoExchange C_OtherWeb C_TooMany C_OnceError) : Fn3 P w K mg base 1 f fd ["_law_found"] (sp_whole31) :=
  ok3 (k := 0) F sc__law_whole (by rintro _ _ _ ⟨_, rfl, _⟩; rfl) fun cdv A outer s H E hr => ⟨_, tm__law_whole B  hr, vc_whole31⟩
theorem tm__law_weighed {p__law_whole : Sp3} (B : Bt K P w mg C_BadChoices C_NoWord C_BadText C_BadWeb C_BadTree C_NoTree C_NoCut C_NoExchange C_OtherWeb C_TooMany C_OnceError) (c__law_whole : Cal3 P w K mg base m "_law_whole" ["_law_found"] p__law_whole) {cdv : Value} {A : Around} {outer : List Env} {s : Shared} {H : Hp} {E : XK} (hr : Room m (A.deeper (PyProof.Rows.envOfC "_law_weighed" (defScope s__law_weighed) s.heap.objs.size f cdv))) :
    QSs (cxOf CX0 P w K mg base ["_law_found", "_law_count", "_law_value", "_law_choice"] "_law_weighed" (defScope s__law_weighed) f cdv A outer s H E).nox (defBody s__law_weighed) (t__law_weighed p__law_whole) := by
  have sc := sc__law_weighed
  have hu := huK hr
  exact (qss_cons (qs_if (qw_pt (qw_or (qt_not (qt_val (qe_inst .list rfl B.b_isinstance rfl B.b_list bt_list (qv 0)))) (qw_or1 (qt_cmpR (q_neK K P w hu) (qe_callB (q_lenK K P w) rfl B.b_len bt_len (qa_cons (qv 0) qa_nil)) (qv 1) (nomark _))))) (qss_one (qs_ret (qe_un q_neg qe_int))) qss_nil)
    (qss_cons (qs_set (i := 2) sc.nd rfl (Or.inl rfl) qe_int)
    (qss_cons (qs_for PassesOwn.never rfl (qi_list (qv 0)) (qg_name (i := 3) sc.nd rfl (Or.inl rfl)) (qss_cons (qs_if (qw_pt (qw_or (qt_not (qt_val (qe_c c__law_whole hr rfl (qa_cons (qv 3) qa_nil)))) (qw_or (qt_cmpR q_lt (qv 3) qe_int (nomark _)) (qw_or1 (qt_cmpR q_gt (qv 3) qe_int (nomark _)))))) (qss_one (qs_ret (qe_un q_neg qe_int))) qss_nil)
    (qss_one (qs_set (i := 2) sc.nd rfl (Or.inl rfl) (qe_op q_add (qe_op q_mul qe_int (qv 2)) (qv 3))))))
    (qss_one (qs_ret (qv 2))))))
theorem all__law_weighed (F : Fun K "_law_weighed" "_law_weighed" s__law_weighed f fd) (B : Bt K P w mg C_BadChoices C_NoWord C_BadText C_BadWeb C_BadTree C_NoTree C_NoCut C_NoExchange C_OtherWeb C_TooMany C_OnceError) (c__law_whole : Cal3 P w K mg base 1 "_law_whole" ["_law_found"] (sp_whole31)) : Fn3 P w K mg base 2 f fd ["_law_found", "_law_count"] (sp_weighed) :=
  ok3 (k := 1) F sc__law_weighed (by rintro _ _ _ ⟨_, _, rfl, _⟩; rfl) fun cdv A outer s H E hr => ⟨_, tm__law_weighed B (c__law_whole.mono (by decide)) hr, vc_weighed⟩
theorem tm__law_refused {p_choices_at : Sp3X} (B : Bt K P w mg C_BadChoices C_NoWord C_BadText C_BadWeb C_BadTree C_NoTree C_NoCut C_NoExchange C_OtherWeb C_TooMany C_OnceError) (c_choices_at : Cal3X P w K mg base m "choices_at" ["count", "number"] p_choices_at) {cdv : Value} {A : Around} {outer : List Env} {s : Shared} {H : Hp} {E : XK} (hr : Room m (A.deeper (PyProof.Rows.envOfC "_law_refused" (defScope s__law_refused) s.heap.objs.size f cdv))) :
    QSs (cxOf CX0 P w K mg base ["_law_count", "_law_number", "_law_good", "e", "_law_others"] "_law_refused" (defScope s__law_refused) f cdv A outer s H E).nox (defBody s__law_refused) (t__law_refused K C_BadChoices C_NoWord C_BadText C_BadWeb C_BadTree C_NoTree C_NoCut C_NoExchange C_OtherWeb C_TooMany C_OnceError p_choices_at) := by
  have sc := sc__law_refused
  have hu := huK hr
  exact (qss_cons (qs_set (i := 2) sc.nd rfl (Or.inl rfl) qe_bl)
    (qss_cons (qs_try (i := 3) rfl rfl rfl sc.nd rfl rfl rfl B.m_BadChoices (qb_expr c_choices_at hr rfl rfl (fun _ _ => (qa_cons (qv 0) (qa_cons (qv 1) qa_nil)))) (fun _ => (qss_cons (qs_set (i := 4) sc.nd rfl (Or.inl rfl) (qe_instXT rfl B.b_isinstance (qv 3) (pac_cons (pe_own rfl B.m_NoWord) (pac_cons (pe_own rfl B.m_BadText) (pac_cons (pe_own rfl B.m_BadWeb) (pac_cons (pe_own rfl B.m_BadTree) (pac_cons (pe_own rfl B.m_NoTree) (pac_cons (pe_own rfl B.m_NoCut) (pac_cons (pe_own rfl B.m_NoExchange) (pac_cons (pe_own rfl B.m_OtherWeb) (pac_cons (pe_own rfl B.m_TooMany) pac_nil))))))))) rfl (Nat.le_of_ble_eq_true rfl)))
    (qss_one (qs_set (i := 2) sc.nd rfl (Or.inl rfl) (qe_and (qe_instX rfl B.b_isinstance (qv 3) (pe_own rfl B.m_OnceError) rfl) (qe_and (qe_instX rfl B.b_isinstance (qv 3) (pe_ty rfl B.b_ValueError bt_ValueError) rfl) (qe_one (qe_not (qv 4))))))))))
    (qss_one (qs_ret (qv 2)))))
theorem all__law_refused (F : Fun K "_law_refused" "_law_refused" s__law_refused f fd) (B : Bt K P w mg C_BadChoices C_NoWord C_BadText C_BadWeb C_BadTree C_NoTree C_NoCut C_NoExchange C_OtherWeb C_TooMany C_OnceError) (c_choices_at : Cal3X P w K mg base 2 "choices_at" ["count", "number"] (sp_choices C_BadChoices)) (xf : L3.XF31 K C_BadChoices C_NoWord C_BadText C_BadWeb C_BadTree C_NoTree C_NoCut C_NoExchange C_OtherWeb C_TooMany C_OnceError) : Fn3 P w K mg base 3 f fd ["_law_count", "_law_number"] (sp_refused) :=
  ok3 (k := 2) F sc__law_refused (by rintro _ _ _ ⟨_, _, rfl, _⟩; rfl) fun cdv A outer s H E hr => ⟨_, tm__law_refused B (c_choices_at.mono (by decide)) hr, vc_refused xf⟩
theorem tm_law {p__law_mix : Sp3} {p__law_weighed : Sp3} {p_choices_at : Sp3X} {p__law_refused : Sp3} (B : Bt K P w mg C_BadChoices C_NoWord C_BadText C_BadWeb C_BadTree C_NoTree C_NoCut C_NoExchange C_OtherWeb C_TooMany C_OnceError) (c__law_mix : Cal3 P w K mg base m "_law_mix" ["_law_cell", "_law_k", "_law_factor"] p__law_mix) (c__law_weighed : Cal3 P w K mg base m "_law_weighed" ["_law_found", "_law_count"] p__law_weighed) (c_choices_at : Cal3X P w K mg base m "choices_at" ["count", "number"] p_choices_at) (c__law_refused : Cal3 P w K mg base m "_law_refused" ["_law_count", "_law_number"] p__law_refused) {cdv : Value} {A : Around} {outer : List Env} {s : Shared} {H : Hp} {E : XK} (hr : Room m (A.deeper (PyProof.Rows.envOfC "law" (defScope s_law) s.heap.objs.size f cdv))) :
    QSs (cxOf CX0 P w K mg base ["_law_script", "_law_k", "_law_cell", "_law_count", "_law_total", "_law_number", "_law_far"] "law" (defScope s_law) f cdv A outer s H E).nox (defBody s_law) (t_law p__law_mix p__law_weighed p_choices_at p__law_refused) := by
  have sc := sc_law
  have hu := huK hr
  exact (qss_cons (qs_for PassesOwn.never rfl (qi_enum rfl B.b_enumerate (qe_op (q_addQ K P w) (qv 0) (qe_lst (qa_cons qe_int qa_nil)))) (qg_tup rfl (qgs_cons (qg_name (i := 1) sc.nd rfl (Or.inl rfl)) (qgs_cons (qg_name (i := 2) sc.nd rfl (Or.inl rfl)) qgs_nil))) (qss_cons (qs_set (i := 3) sc.nd rfl (Or.inl rfl) (qe_op q_mod (qe_c c__law_mix hr rfl (qa_cons (qv 2) (qa_cons (qv 1) (qa_cons qe_int qa_nil)))) qe_int))
    (qss_cons (qs_set (i := 4) sc.nd rfl (Or.inl rfl) (qe_op q_shl qe_int (qv 3)))
    (qss_cons (qs_set (i := 5) sc.nd rfl (Or.inl rfl) (qe_op q_mod (qe_op q_mul (qe_op q_mod (qv 2) (qe_op q_pow qe_int qe_int)) qe_int) (qv 4)))
    (qss_consJ (qs_if (qt_cmpR (q_eqK K P w hu) (qe_op q_mod (qv 2) qe_int) qe_int (nomark _)) (qss_one (qs_set (i := 5) sc.nd rfl (Or.inl rfl) (qe_op q_sub (qv 4) qe_int))) qss_nil)
    (qss_consJ (qs_if (qt_cmpR (q_eqK K P w hu) (qe_op q_mod (qv 2) qe_int) qe_int (nomark _)) (qss_one (qs_set (i := 5) sc.nd rfl (Or.inl rfl) qe_int)) qss_nil)
    (qss_cons (qs_if (qt_cmpR (q_neK K P w hu) (qe_c c__law_weighed hr rfl (qa_cons (qe_cX c_choices_at hr rfl takes0 rfl (qa_cons (qv 3) (qa_cons (qv 5) qa_nil))) (qa_cons (qv 3) qa_nil))) (qv 5) (nomark _)) (qss_one (qs_ret qe_bl)) qss_nil)
    (qss_cons (qs_if (qw_pt (qw_and (qt_cmpR q_lt (qe_op q_add (qv 5) qe_int) (qv 4) (nomark _)) (qw_and1 (qt_not (qt_cmpR (q_ltL K P w hu) (qe_cX c_choices_at hr rfl takes0 rfl (qa_cons (qv 3) (qa_cons (qv 5) qa_nil))) (qe_cX c_choices_at hr rfl takes0 rfl (qa_cons (qv 3) (qa_cons (qe_op q_add (qv 5) qe_int) qa_nil))) (nomark _)))))) (qss_one (qs_ret qe_bl)) qss_nil)
    (qss_cons (qs_set (i := 6) sc.nd rfl (Or.inl rfl) (qe_op q_mul (qe_op q_mod (qe_op q_fdiv (qv 2) qe_int) qe_int) (qe_op q_mod (qe_op q_fdiv (qv 2) qe_int) (qe_op q_pow qe_int qe_int))))
    (qss_one (qs_if (qw_pt (qw_or (qt_not (qt_val (qe_c c__law_refused hr rfl (qa_cons (qv 3) (qa_cons (qe_op q_add (qv 4) (qv 6)) qa_nil))))) (qw_or1 (qt_not (qt_val (qe_c c__law_refused hr rfl (qa_cons (qv 3) (qa_cons (qe_op q_sub (qe_un q_neg qe_int) (qv 6)) qa_nil)))))))) (qss_one (qs_ret qe_bl)) qss_nil)))))))))))
    (qss_one (qs_ret qe_bl)))
theorem all_law (F : Fun K "law" "law" s_law f fd) (B : Bt K P w mg C_BadChoices C_NoWord C_BadText C_BadWeb C_BadTree C_NoTree C_NoCut C_NoExchange C_OtherWeb C_TooMany C_OnceError) (c__law_mix : Cal3 P w K mg base 1 "_law_mix" ["_law_cell", "_law_k", "_law_factor"] (sp_mix)) (c__law_weighed : Cal3 P w K mg base 2 "_law_weighed" ["_law_found", "_law_count"] (sp_weighed)) (c_choices_at : Cal3X P w K mg base 2 "choices_at" ["count", "number"] (sp_choices C_BadChoices)) (c__law_refused : Cal3 P w K mg base 3 "_law_refused" ["_law_count", "_law_number"] (sp_refused)) : Fn3 P w K mg base 4 f fd ["_law_script"] (sp_law) :=
  ok3 (k := 3) F sc_law (by rintro _ _ _ ⟨_, rfl, _⟩; rfl) fun cdv A outer s H E hr => ⟨_, tm_law B (c__law_mix.mono (by decide)) (c__law_weighed.mono (by decide)) (c_choices_at.mono (by decide)) (c__law_refused.mono (by decide)) hr, vc_law31⟩
end
theorem all_mk {l : PySem.W.OpenLaw} {w : World} {K : PySem.W.Frag} {h : Heap} {mg : Str → Option Value} {fa : Addr} {C_BadChoices : Addr} {C_NoWord : Addr} {C_BadText : Addr} {C_BadWeb : Addr} {C_BadTree : Addr} {C_NoTree : Addr} {C_NoCut : Addr} {C_NoExchange : Addr} {C_OtherWeb : Addr} {C_TooMany : Addr} {C_OnceError : Addr} (X : K.In h) (G : h.Ns mainGlobals mg) (hfa : mg "law" = some (.ref fa))
    (D0 : DefIn K "ways_to_choose" s_ways_to_choose)
    (D1 : DefIn K "choices_at" s_choices_at)
    (D2 : DefIn K "_law_mix" s__law_mix)
    (D3 : DefIn K "_law_whole" s__law_whole)
    (D4 : DefIn K "_law_weighed" s__law_weighed)
    (D5 : DefIn K "_law_refused" s__law_refused)
    (D6 : DefIn K "law" s_law)
    (aCBadChoices : PySem.W.nsIn K mainGlobals "BadChoices" = some (some (.ref C_BadChoices)))
    (aCNoWord : PySem.W.nsIn K mainGlobals "NoWord" = some (some (.ref C_NoWord)))
    (aCBadText : PySem.W.nsIn K mainGlobals "BadText" = some (some (.ref C_BadText)))
    (aCBadWeb : PySem.W.nsIn K mainGlobals "BadWeb" = some (some (.ref C_BadWeb)))
    (aCBadTree : PySem.W.nsIn K mainGlobals "BadTree" = some (some (.ref C_BadTree)))
    (aCNoTree : PySem.W.nsIn K mainGlobals "NoTree" = some (some (.ref C_NoTree)))
    (aCNoCut : PySem.W.nsIn K mainGlobals "NoCut" = some (some (.ref C_NoCut)))
    (aCNoExchange : PySem.W.nsIn K mainGlobals "NoExchange" = some (some (.ref C_NoExchange)))
    (aCOtherWeb : PySem.W.nsIn K mainGlobals "OtherWeb" = some (some (.ref C_OtherWeb)))
    (aCTooMany : PySem.W.nsIn K mainGlobals "TooMany" = some (some (.ref C_TooMany)))
    (aCOnceError : PySem.W.nsIn K mainGlobals "OnceError" = some (some (.ref C_OnceError)))
    (qCBadChoices : PySem.W.excIn K C_BadChoices [.type "ValueError", .type "Exception", .type "BaseException", .type "object"] "ValueError.__new__" = true)
    (xf : L3.XF31 K C_BadChoices C_NoWord C_BadText C_BadWeb C_BadTree C_NoTree C_NoCut C_NoExchange C_OtherWeb C_TooMany C_OnceError)
    (zrange : PySem.W.nsIn K mainGlobals "range" = some none)
    (zisinstance : PySem.W.nsIn K mainGlobals "isinstance" = some none)
    (zbool : PySem.W.nsIn K mainGlobals "bool" = some none)
    (zint : PySem.W.nsIn K mainGlobals "int" = some none)
    (zlen : PySem.W.nsIn K mainGlobals "len" = some none)
    (zlist : PySem.W.nsIn K mainGlobals "list" = some none)
    (zValueError : PySem.W.nsIn K mainGlobals "ValueError" = some none)
    (zenumerate : PySem.W.nsIn K mainGlobals "enumerate" = some none) :
    ∃ fd : FuncData, (∀ (s : Shared) (v : Value), BindsTo s fd ⟨[v], []⟩ [("_law_script", v)]) ∧ ∀ base : Heap, K.In base → base.Ns mainGlobals mg → FnOk l.prog w K mg base CX0 4 fa fd ["_law_script"] (spTop K) := by
  obtain ⟨f0, fd0, F0, b0, m0⟩ := D0.use (ps := ["count"]) X G fun _ _ _ _ _ _ us hl => match us, hl with | [_], _ => rfl
  obtain ⟨f1, fd1, F1, b1, m1⟩ := D1.use (ps := ["count", "number"]) X G fun _ _ _ _ _ _ us hl => match us, hl with | [_, _], _ => rfl
  obtain ⟨f2, fd2, F2, b2, m2⟩ := D2.use (ps := ["_law_cell", "_law_k", "_law_factor"]) X G fun _ _ _ _ _ _ us hl => match us, hl with | [_, _, _], _ => rfl
  obtain ⟨f3, fd3, F3, b3, m3⟩ := D3.use (ps := ["_law_found"]) X G fun _ _ _ _ _ _ us hl => match us, hl with | [_], _ => rfl
  obtain ⟨f4, fd4, F4, b4, m4⟩ := D4.use (ps := ["_law_found", "_law_count"]) X G fun _ _ _ _ _ _ us hl => match us, hl with | [_, _], _ => rfl
  obtain ⟨f5, fd5, F5, b5, m5⟩ := D5.use (ps := ["_law_count", "_law_number"]) X G fun _ _ _ _ _ _ us hl => match us, hl with | [_, _], _ => rfl
  obtain ⟨fL, kV, doc, pm, an, cdv, ct, aL, FL⟩ := D6.ex
  have e := hfa.symm.trans (PySem.W.mg_of X G aL)
  cases e
  have B : Bt K l.prog w mg C_BadChoices C_NoWord C_BadText C_BadWeb C_BadTree C_NoTree C_NoCut C_NoExchange C_OtherWeb C_TooMany C_OnceError := ⟨trivial, PySem.W.mg_none_of X G zrange, PySem.W.mg_none_of X G zisinstance, PySem.W.mg_none_of X G zbool, PySem.W.mg_none_of X G zint, PySem.W.mg_none_of X G zlen, PySem.W.mg_none_of X G zlist, PySem.W.mg_none_of X G zValueError, PySem.W.mg_none_of X G zenumerate, PySem.W.mg_of X G aCBadChoices, PySem.W.mg_of X G aCNoWord, PySem.W.mg_of X G aCBadText, PySem.W.mg_of X G aCBadWeb, PySem.W.mg_of X G aCBadTree, PySem.W.mg_of X G aCNoTree, PySem.W.mg_of X G aCNoCut, PySem.W.mg_of X G aCNoExchange, PySem.W.mg_of X G aCOtherWeb, PySem.W.mg_of X G aCTooMany, PySem.W.mg_of X G aCOnceError, xcls_value qCBadChoices⟩
  refine ⟨PySem.W.fnOf "law" "law" (defArgs s_law) (defBody s_law) (defScope s_law) .none kV doc pm an cdv ct, fun s v => .of_eq rfl, fun base _ _ => ?_⟩
  have CA_ways_to_choose := Cal.of (all_ways_to_choose (P := l.prog) (w := w) (base := base) F0 B) b0 F0.kp m0
  have CA_choices_at : Cal3X l.prog w K mg base 2 "choices_at" ["count", "number"] (sp_choices C_BadChoices) := ⟨_, _, all_choices_at (P := l.prog) (w := w) (base := base) F1 B CA_ways_to_choose, b1, F1.kp, m1⟩
  have CA__law_mix := Cal.of (all__law_mix (P := l.prog) (w := w) (base := base) F2 B) b2 F2.kp m2
  have CA__law_whole := Cal.of (all__law_whole (P := l.prog) (w := w) (base := base) F3 B) b3 F3.kp m3
  have CA__law_weighed := Cal.of (all__law_weighed (P := l.prog) (w := w) (base := base) F4 B CA__law_whole) b4 F4.kp m4
  have CA__law_refused := Cal.of (all__law_refused (P := l.prog) (w := w) (base := base) F5 B CA_choices_at xf) b5 F5.kp m5
  exact FnOk.imp (all_law (P := l.prog) (w := w) (base := base) FL B CA__law_mix CA__law_weighed CA_choices_at CA__law_refused) fun vs H Q E q => top_dn q
end K31

open PySem PySem.W PyProof.Rows
set_option maxRecDepth 100000 in
set_option maxHeartbeats 0 in
theorem PySem.Challenge.cw_oncewise_k31_choices_in_order_holds : PySem.Challenge.rw_oncewise_k31_choices_in_order.Holds := by
  w_on; o_law; k_head; (case hw => w_witness2)
  k_fill
  refine L2.walk_ofK (l := PySem.Challenge.rw_oncewise_k31_choices_in_order) (n := 63) (k := 4) (x := "_law_script") (CX := L2.CX0) (sp := L3.spTop) rfl (by decide) rfl ⟨rfl, by decide, by decide⟩ (fun w h Y => PySem.W.kIn_of Y) ?F ?S ?C
  case F =>
    intro w mg fa h KX G hmg
    refine' K31.all_mk KX G hmg ?D0 ?D1 ?D2 ?D3 ?D4 ?D5 ?D6 ?aCBadChoices ?aCNoWord ?aCBadText ?aCBadWeb ?aCBadTree ?aCNoTree ?aCNoCut ?aCNoExchange ?aCOtherWeb ?aCTooMany ?aCOnceError ?qCBadChoices ?xf ?zrange ?zisinstance ?zbool ?zint ?zlen ?zlist ?zValueError ?zenumerate
    (case D0 => refine' L2.def_in ?a ?l ?c ?k; (case a => k_is); (case l => k_is); (case c => k_is); (case k => k_is))
    (case D1 => refine' L2.def_in ?a ?l ?c ?k; (case a => k_is); (case l => k_is); (case c => k_is); (case k => k_is))
    (case D2 => refine' L2.def_in ?a ?l ?c ?k; (case a => k_is); (case l => k_is); (case c => k_is); (case k => k_is))
    (case D3 => refine' L2.def_in ?a ?l ?c ?k; (case a => k_is); (case l => k_is); (case c => k_is); (case k => k_is))
    (case D4 => refine' L2.def_in ?a ?l ?c ?k; (case a => k_is); (case l => k_is); (case c => k_is); (case k => k_is))
    (case D5 => refine' L2.def_in ?a ?l ?c ?k; (case a => k_is); (case l => k_is); (case c => k_is); (case k => k_is))
    (case D6 => refine' L2.def_in ?a ?l ?c ?k; (case a => k_is); (case l => k_is); (case c => k_is); (case k => k_is))
    (case aCBadChoices => k_is)
    (case aCNoWord => k_is)
    (case aCBadText => k_is)
    (case aCBadWeb => k_is)
    (case aCBadTree => k_is)
    (case aCNoTree => k_is)
    (case aCNoCut => k_is)
    (case aCNoExchange => k_is)
    (case aCOtherWeb => k_is)
    (case aCTooMany => k_is)
    (case aCOnceError => k_is)
    (case qCBadChoices => k_exc)
    (case xf => (refine' L3.XF31.mk ?hd ?em ?ot ?on ?ve; (case hd => (refine' L3.xhd_of ?ga ?gt ?cl ?ge ?tk ?mo ?be ?h; (case ga => k_is); (case gt => k_is); (case cl => k_is); (case ge => k_is); (case tk => k_is); (case mo => k_is); (case be => k_is); (case h => k_is))); (case em => (refine' L3.exm_own ?h0 ?h1 ?h2 ?h3; (case h0 => k_is); (case h1 => k_is); (case h2 => k_is); (case h3 => k_is))); (case ot => (refine' L3.kitAny_no ?z ?_; (case z => (refine' L3.kit_own ?a ?b ?c ?d; (case a => rfl); (case b => k_is); (case c => k_is); (case d => k_is))); refine' L3.kitAny_no ?z ?_; (case z => (refine' L3.kit_own ?a ?b ?c ?d; (case a => rfl); (case b => k_is); (case c => k_is); (case d => k_is))); refine' L3.kitAny_no ?z ?_; (case z => (refine' L3.kit_own ?a ?b ?c ?d; (case a => rfl); (case b => k_is); (case c => k_is); (case d => k_is))); refine' L3.kitAny_no ?z ?_; (case z => (refine' L3.kit_own ?a ?b ?c ?d; (case a => rfl); (case b => k_is); (case c => k_is); (case d => k_is))); refine' L3.kitAny_no ?z ?_; (case z => (refine' L3.kit_own ?a ?b ?c ?d; (case a => rfl); (case b => k_is); (case c => k_is); (case d => k_is))); refine' L3.kitAny_no ?z ?_; (case z => (refine' L3.kit_own ?a ?b ?c ?d; (case a => rfl); (case b => k_is); (case c => k_is); (case d => k_is))); refine' L3.kitAny_no ?z ?_; (case z => (refine' L3.kit_own ?a ?b ?c ?d; (case a => rfl); (case b => k_is); (case c => k_is); (case d => k_is))); refine' L3.kitAny_no ?z ?_; (case z => (refine' L3.kit_own ?a ?b ?c ?d; (case a => rfl); (case b => k_is); (case c => k_is); (case d => k_is))); refine' L3.kitAny_no ?z ?_; (case z => (refine' L3.kit_own ?a ?b ?c ?d; (case a => rfl); (case b => k_is); (case c => k_is); (case d => k_is))); exact rfl)); (case on => (refine' L3.kit_own ?a ?b ?c ?d; (case a => rfl); (case b => k_is); (case c => k_is); (case d => k_is))); (case ve => (refine' L3.kit_blt ?a ?b; (case a => rfl); (case b => k_is)))))
    (case zrange => k_is)
    (case zisinstance => k_is)
    (case zbool => k_is)
    (case zint => k_is)
    (case zlen => k_is)
    (case zlist => k_is)
    (case zValueError => k_is)
    (case zenumerate => k_is)
  case S => exact L3.top_start
  case C => exact fun _ _ _ _ z => z
#print axioms PySem.Challenge.cw_oncewise_k31_choices_in_order_holds
