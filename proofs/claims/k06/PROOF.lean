import PyProof.Rows.All
import Wide.All
import OpenK.AllK
import Wide.FinOn
import Lean
import PyProof.EqAt
import PyProof.EqKinds
import PyProof.TupleCall
import PyProof.NeKinds
import PySem.Challenge.RW_oncewise_k06_rows
import OpenK.ZGo
set_option Elab.async false
set_option linter.all false
set_option maxRecDepth 100000
/-! THE HAND LAYER, for ints, bools, texts, own classes, DICTS (int and text keys), calls, loops. Paste it whole ahead of your own text; what your proof does not reach may be deleted. -/
namespace L2
open PySem PyProof.Rows
/-! ### tokens never fall -/
theorem runs_toks {M : Model} {Γ : Ctx} {p : Pos} {t : Sem Fin} {fs : List Frame} {s s' : Shared} {e : End} (h : Runs M Γ p t fs s e s') : s.toks ≤ s'.toks := by
  induction h with
  | fresh _ ih => exact Nat.le_trans (Nat.le_succ _) ih
  | call _ _ ih1 ih2 => exact Nat.le_trans ih1 ih2
  | resumeFresh _ _ _ _ ih1 ih2 => exact Nat.le_trans ih1 ih2
  | resumeSuspended _ _ _ _ ih1 ih2 => exact Nat.le_trans ih1 ih2
  | segRet _ _ ih1 ih2 => exact Nat.le_trans ih1 ih2
  | segGen _ _ ih1 ih2 => exact Nat.le_trans ih1 ih2
  | segSuspGen _ _ _ _ ih1 ih2 => exact Nat.le_trans ih1 ih2
  | _ => first | exact Nat.le_refl _ | assumption
theorem wakes_toks {M : Model} {Γ : Ctx} {p : Pos} {g : Nat} {r : Resume} {s s' : Shared} {res : GenResult} (h : Wakes M Γ p g r s res s') : s.toks ≤ s'.toks := by
  unfold Wakes at h
  split at h
  · exact h.elim
  · split at h
    · obtain ⟨e, s1, hr, _, _, rfl⟩ := h; have q := runs_toks hr; exact q
    · obtain ⟨_, rfl⟩ := h; exact Nat.le_refl _
    · obtain ⟨_, rfl⟩ := h; exact Nat.le_refl _
  · obtain ⟨e, s1, hr, _, _, rfl⟩ := h; have q := runs_toks hr; exact q
  · obtain ⟨_, rfl⟩ := h; exact Nat.le_refl _
  · obtain ⟨_, rfl⟩ := h; exact Nat.le_refl _
theorem wp_toks {α : Type} {M : Model} {Γ : Ctx} (t : Sem α) : ∀ {Q : α → Pos → Shared → Prop} {E : Value → Pos → Shared → Prop} {p : Pos} {s : Shared} (n : Nat), n ≤ s.toks → Sem.wp M Γ t Q E p s → Sem.wp M Γ t (fun a p' s' => Q a p' s' ∧ n ≤ s'.toks) (fun e p' s' => E e p' s' ∧ n ≤ s'.toks) p s := by
  induction t with
  | pure a => intro Q E p s n hn h; exact ⟨h, hn⟩
  | raise e => intro Q E p s n hn h; exact ⟨h, hn⟩
  | load a part k ih => intro Q E p s n hn ⟨o, h1, h2⟩; exact ⟨o, h1, ih o n hn h2⟩
  | update a part f k ih => intro Q E p s n hn ⟨h1, h2⟩; exact ⟨h1, ih () n hn h2⟩
  | fresh k ih => intro Q E p s n hn h; exact ih s.toks n (Nat.le_trans hn (Nat.le_succ _)) h
  | choose src m k ih => intro Q E p s n hn ⟨h1, h2⟩; exact ⟨h1, ih _ n hn h2⟩
  | call c hd g l k ih => intro Q E p s n hn ⟨r, s', h1, h2⟩; exact ⟨r, s', h1, ih r n (Nat.le_trans hn (runs_toks h1)) h2⟩
  | genState g k ih => intro Q E p s n hn ⟨st, h1, h2⟩; exact ⟨st, h1, ih _ n hn h2⟩
  | resume g r l k ih => intro Q E p s n hn ⟨res, s', h1, h2⟩; exact ⟨res, s', h1, ih _ n (Nat.le_trans hn (wakes_toks h1)) h2⟩
  | rule tag k ih => intro Q E p s n hn h; exact ih () n hn h
  | «at» pos k ih => intro Q E p s n hn h; exact ih () n hn h
  | alloc o k ih => intro Q E p s n hn h; exact ih _ n hn h
  | loadIfAlive a k ih => intro Q E p s n hn h; exact ih _ n hn h
  | point l k ih => intro Q E p s n hn h; exact ih _ n hn h
  | ask k ih => intro Q E p s n hn h; exact ih _ n hn h
  | os q l k ih => intro Q E p s n hn h; exact ih _ n hn h
  | handled own k ih => intro Q E p s n hn h; exact ih _ n hn h
  | newGen c k ih => intro Q E p s n hn h; exact ih _ n hn h
  | stack k ih => intro Q E p s n hn h; exact ih _ n hn h
  | thread k ih => intro Q E p s n hn h; exact ih _ n hn h
  | unsupported w => intro Q E p s n hn h; exact h.elim
  | finish e => intro Q E p s n hn h; exact h.elim
  | register a k ih => intro Q E p s n hn h; exact h.elim
  | yield v g l k ih => intro Q E p s n hn h; exact h.elim
  | fork c k ih => intro Q E p s n hn h; exact h.elim
  | await a f d l k ih => intro Q E p s n hn h; exact h.elim
/-- behind a tree the tokens are no fewer -/
theorem wpAny_toks {α : Type} {M : Model} {A : Around} {t : Sem α} {Q : α → Shared → Prop} {E : Value → Shared → Prop} {s : Shared} (h : wpAny M A t Q E s) : wpAny M A t (fun a s' => Q a s' ∧ s.toks ≤ s'.toks) (fun e s' => E e s' ∧ s.toks ≤ s'.toks) s :=
  fun Γ p hΓ => wp_toks t s.toks (Nat.le_refl _) (h Γ p hΓ)
theorem wpAny_pos {α : Type} {M : Model} {A : Around} {t : Sem α} {Q : α → Shared → Prop} {E : Value → Shared → Prop} {s : Shared} (hp : 0 < s.toks) (h : wpAny M A t (fun a s' => 0 < s'.toks → Q a s') (fun e s' => 0 < s'.toks → E e s') s) : wpAny M A t Q E s :=
  wpAny_mono (wpAny_toks h) (fun _ _ z => z.1 (Nat.lt_of_lt_of_le hp z.2)) fun _ _ z => z.1 (Nat.lt_of_lt_of_le hp z.2)
end L2
namespace L2
open PySem PySem.Spec PyProof.Rows

/-- a key: an int or a str -/
abbrev Key := Sum Int Str
def keyIs : Key → Value → Bool
  | .inl k, v => Value.isInt k v
  | .inr x, v => Value.isStrOf x v
def keyH (w : World) : Key → Int
  | .inl k => hashInt k
  | .inr x => hashStr w x
theorem keyIs_shape : ∀ {k : Key} {v : Value}, keyIs k v = true → (∃ i t, k = Sum.inl i ∧ v = Value.int i t) ∨ (∃ x t, k = Sum.inr x ∧ v = Value.str x t)
  | .inl i, v, h => by
    obtain ⟨t, e⟩ := Value.isInt_shape (k := i) (v := v) h
    exact .inl ⟨i, t, rfl, e⟩
  | .inr x, v, h => by
    obtain ⟨t, e⟩ := Value.isStrOf_shape (x := x) (v := v) h
    exact .inr ⟨x, t, rfl, e⟩
theorem keyIs_int (i : Int) (t : Tok) : keyIs (.inl i) (.int i t) = true := by simp [keyIs, Value.isInt]
theorem keyIs_str (x : Str) (t : Tok) : keyIs (.inr x) (.str x t) = true := by simp [keyIs, Value.isStrOf]
theorem key_ll (a b : Int) : decide ((Sum.inl a : Key) = Sum.inl b) = (a == b) := by
  by_cases e : a = b
  · subst e; simp
  · have h : ¬ (Sum.inl a : Key) = Sum.inl b := fun q => e (Sum.inl.inj q)
    rw [decide_eq_false h]
    exact (beq_eq_false_iff_ne.mpr e).symm
theorem key_rr (a b : Str) : decide ((Sum.inr a : Key) = Sum.inr b) = decide (a = b) := by
  by_cases e : a = b
  · subst e; simp
  · have h : ¬ (Sum.inr a : Key) = Sum.inr b := fun q => e (Sum.inr.inj q)
    rw [decide_eq_false h, decide_eq_false e]
theorem key_lr (a : Int) (b : Str) : decide ((Sum.inl a : Key) = Sum.inr b) = false := decide_eq_false (fun q => nomatch q)
theorem key_rl (a : Str) (b : Int) : decide ((Sum.inr a : Key) = Sum.inl b) = false := decide_eq_false (fun q => nomatch q)

def mixKind (prog : Program) (w : World) : PySem.KeyKind prog w Key where
  is := keyIs
  hash := keyH w
  inj := fun v a b ha hb => by
    rcases keyIs_shape ha with ⟨i, t, rfl, rfl⟩ | ⟨x, t, rfl, rfl⟩
    · rcases keyIs_shape hb with ⟨j, u, rfl, e⟩ | ⟨y, u, rfl, e⟩
      · injection e with e1 _; rw [e1]
      · exact nomatch e
    · rcases keyIs_shape hb with ⟨j, u, rfl, e⟩ | ⟨y, u, rfl, e⟩
      · exact nomatch e
      · injection e with e1 _; rw [e1]
  byValue := fun k v h => by
    rcases keyIs_shape h with ⟨i, t, rfl, rfl⟩ | ⟨x, t, rfl, rfl⟩ <;> rfl
  pyHash := fun hv h => by
    rcases keyIs_shape hv with ⟨i, t, rfl, rfl⟩ | ⟨x, t, rfl, rfl⟩
    · exact wpAny_pyHash_int h
    · exact wpAny_pyHash_str h
  eqBool := fun hu hv h => by
    rcases keyIs_shape hu with ⟨i, t, rfl, rfl⟩ | ⟨x, t, rfl, rfl⟩
    · rcases keyIs_shape hv with ⟨j, u, rfl, rfl⟩ | ⟨y, u, rfl, rfl⟩
      · rw [key_ll] at h; exact wpAny_eqBool_int h
      · rw [key_lr] at h; exact SeqAt.EqAt.int_str i t y u _ _ _ _ h
    · rcases keyIs_shape hv with ⟨j, u, rfl, rfl⟩ | ⟨y, u, rfl, rfl⟩
      · rw [key_rl] at h; exact SeqAt.EqAt.str_int x t j u _ _ _ _ h
      · rw [key_rr] at h; exact wpAny_eqBool_str h
  «strs» := fun k x t v h => by
    rcases keyIs_shape h with ⟨i, u, rfl, e⟩ | ⟨y, u, rfl, e⟩
    · exact nomatch e
    · injection e with e1 _
      subst e1
      cases v <;> rfl

theorem mixKind_int (prog : Program) (w : World) (i : Int) (t : Tok) : (mixKind prog w).is (.inl i) (.int i t) = true := keyIs_int i t
theorem mixKind_str (prog : Program) (w : World) (x : Str) (t : Tok) : (mixKind prog w).is (.inr x) (.str x t) = true := keyIs_str x t
end L2

namespace L2
open PySem PySem.Spec PyProof.Rows

/-- a value, without the heap -/
inductive V where
  | non | bl (b : Bool) | int (i : Int) | str (x : Str) | byt (b : Array UInt8) | flt (b : UInt64) | ref (a : Addr) | ty (n : String)
  deriving DecidableEq

def RelV : V → Value → Prop
  | .non, u => u = Value.none
  | .bl b, u => u = Value.bool b
  | .int i, u => ∃ t, u = Value.int i t
  | .str x, u => ∃ t, u = Value.str x t
  | .byt b, u => ∃ t, u = Value.bytes b t
  | .flt b, u => ∃ t, u = Value.float b t
  | .ref a, u => u = Value.ref a
  | .ty n, u => u = Value.type n

abbrev Vals : List V → List Value → Prop := Paired RelV
theorem Vals.length {xs : List V} {us : List Value} (r : Vals xs us) : xs.length = us.length := Paired.length r
theorem Vals.get : ∀ {xs : List V} {us : List Value} {i : Nat} {x : V}, Vals xs us → xs[i]? = some x → ∃ u, us[i]? = some u ∧ RelV x u
  | _, _, _, _, .nil, e => by simp at e
  | _, _, 0, _, .cons r _, e => by simp at e; subst e; exact ⟨_, rfl, r⟩
  | _, _, i + 1, x, .cons _ t, e => by
    obtain ⟨u, h1, h2⟩ := Vals.get (i := i) (x := x) t (by simpa using e)
    exact ⟨u, by simpa using h1, h2⟩
theorem Vals.set {x : V} {u : Value} (r : RelV x u) : ∀ {xs : List V} {us : List Value} (i : Nat), Vals xs us → Vals (xs.set i x) (us.set i u)
  | _, _, _, .nil => .nil
  | _, _, 0, .cons _ t => .cons r t
  | _, _, i + 1, .cons q t => .cons q (Vals.set r i t)
theorem Vals.append : ∀ {xs ys : List V} {us ws : List Value}, Vals xs us → Vals ys ws → Vals (xs ++ ys) (us ++ ws)
  | _, _, _, _, .nil, s => s
  | _, _, _, _, .cons r t, s => .cons r (Vals.append t s)
theorem Vals.take : ∀ {xs : List V} {us : List Value} (n : Nat), Vals xs us → Vals (xs.take n) (us.take n)
  | _, _, 0, _ => .nil
  | _, _, _ + 1, .nil => .nil
  | _, _, n + 1, .cons r t => .cons r (Vals.take n t)
theorem Vals.drop : ∀ {xs : List V} {us : List Value} (n : Nat), Vals xs us → Vals (xs.drop n) (us.drop n)
  | _, _, 0, r => r
  | _, _, _ + 1, .nil => .nil
  | _, _, n + 1, .cons _ t => Vals.drop n t

def RelO : Option V → Option Value → Prop
  | some v, some u => RelV v u
  | none, none => True
  | _, _ => False
def KV {κ : Type} : List (κ × V) → List (κ × Value) → Prop := Paired fun (p : κ × V) (q : κ × Value) => p.1 = q.1 ∧ RelV p.2 q.2

/-- a key of a dict (00_mix): an int or a text -/
def kV : Key → V
  | .inl i => .int i
  | .inr x => .str x

/-- what stands at a tracked address -/
inductive HO where
  /-- a list -/
  | lst (xs : List V)
  /-- a tuple (never changes) -/
  | tup (xs : List V)
  /-- a dict whose keys are ints and texts; one whose keys are tuples of ints and texts (the empty one is both) -/
  | dK (kvs : List (Key × V)) | dT (kvs : List (List Key × V))
  /-- a set of ints: its members, its size -/
  | set (S : Int → Bool) (n : Nat)
  /-- an instance of the class at C, its dict at dx, its attributes -/
  | ins (C dx : Addr) (fs : List (Str × V))
  /-- the dict of the instance at x -/
  | own (x : Addr)
  /-- the dict of an exception -/
  | xd (fs : List (Str × V))
  /-- a bound method, f of x -/
  | met (f x : Addr)
  /-- a range object lo, lo + 1, .. below hi -/
  | rng (lo hi : Int)
  /-- a thing that is known to the object (the script; a dict while a loop walks it): read, never written while it is so -/
  | frz (o : Obj) (u : HO)
  /-- a code object's table -/
  | tbl (ps : Array Value)
  /-- any other thing, by what is true of its one object (a def of one's own: SetO a S n := HO.ext fun h => ..) -/
  | ext (φ : Heap → Prop)

abbrev Hp := Addr → Option HO
def upd (H : Hp) (a : Addr) (o : HO) : Hp := fun b => if b = a then some o else H b
theorem upd_same {H : Hp} {a : Addr} {o : HO} : upd H a o a = some o := by unfold upd; rw [if_pos rfl]
theorem upd_ne {H : Hp} {a b : Addr} {o : HO} (h : b ≠ a) : upd H a o b = H b := by unfold upd; rw [if_neg h]
theorem ne_of_none {H : Hp} {a b : Addr} {o : HO} (h : H a = some o) (h' : H b = none) : a ≠ b := by
  intro e; subst e; rw [h] at h'; cases h'

section
variable (P : Program) (w : World)
def ObjOk (H : Hp) (h : Heap) (a : Addr) : HO → Prop
  | .lst xs => xs.length ≤ sizeLine ∧ ∃ (its : List Value) (n : Nat), Vals xs its ∧ h.get? a = some { cls := .type "list", data := .seq its.toArray n }
  | .tup xs => xs.length ≤ sizeLine ∧ ∃ its : List Value, Vals xs its ∧ IsTup h a its.toArray
  | .dK kvs => kvs.length ≤ sizeLine ∧ (a == sysModules) = false ∧ ∃ vs, KV kvs vs ∧ h.DictOf (mixKind P w) a vs
  | .dT kvs => kvs.length ≤ sizeLine ∧ (a == sysModules) = false ∧ ∃ xs : List (List Key × Addr × Value),
      Paired (fun (p : List Key × V) (q : List Key × Addr × Value) => p.1 = q.1 ∧ H q.2.1 = some (.tup (p.1.map kV)) ∧ RelV p.2 q.2.2) kvs xs ∧
      ∃ o es ep, h.get? a = some o ∧ o.ExactDict ∧ o.data = .dict es ep ∧ es.toList = xs.map (entryOfKey (tupleKind (mixKind P w))) ∧ (xs.map (·.1)).Nodup
  | .set S n => h.SetOf (intKind P w) a S n
  | .ins C dx fs => H dx = some (.own a) ∧ fs.length ≤ 1000 ∧ dx ≠ a ∧ h.get? a = some (PySem.W.instObj C dx) ∧
      ∃ mA, h.Ns1 dx mA ∧ (∀ f, RelO (fs.lookup f) (mA f)) ∧ PySem.Within mA (fs.map (·.1))
  | .own _ => ∃ o, h.get? a = some o
  | .xd fs => ∃ mA, h.Ns1 a mA ∧ ∀ f, RelO (fs.lookup f) (mA f)
  | .rng lo hi => ∃ t u v, h.get? a = some { cls := .type "range", data := .fields #[.int lo t, .int hi u, .int 1 v] }
  | .frz o u => h.get? a = some o ∧ ObjOk H h a u
  | .tbl ps => h.get? a = some { cls := .none, data := .fields ps }
  | .met f x => h.get? a = some (PySem.W.methodObj (.ref f) (.ref x))
  | .ext φ => φ h ∧ (∃ o, h.get? a = some o) ∧ ∀ h1 h2 : Heap, φ h1 → (∀ o, h1.get? a = some o → h2.get? a = some o) → φ h2
/-- the abstract heap is held -/
def HOk (H : Hp) (h : Heap) : Prop := ∀ a o, H a = some o → ObjOk P w H h a o
end

section
variable {P : Program} {w : World} {H H' : Hp} {h h' : Heap} {a : Addr} {o : HO}
theorem ObjOk.lt (x : ObjOk P w H h a o) : a < h.objs.size := by
  cases o with
  | lst xs => obtain ⟨_, _, _, _, e⟩ := x; exact Heap.lt_size e
  | tup xs => obtain ⟨_, _, _, p⟩ := x; exact p.lt
  | dK kvs => obtain ⟨_, _, _, _, o, _, _, e, _⟩ := x; exact Heap.lt_size e
  | dT kvs => obtain ⟨_, _, _, _, o, _, _, e, _⟩ := x; exact Heap.lt_size e
  | set S n => obtain ⟨o, _, _, _, e, _⟩ := x; exact Heap.lt_size e
  | ins C dx fs => obtain ⟨_, _, _, e, _⟩ := x; exact Heap.lt_size e
  | own y => obtain ⟨_, e⟩ := x; exact Heap.lt_size e
  | xd fs => obtain ⟨_, ⟨_, _, _, e, _⟩, _⟩ := x; exact Heap.lt_size e
  | rng lo hi => obtain ⟨_, _, _, e⟩ := x; exact Heap.lt_size e
  | frz ob u => obtain ⟨e, _⟩ := x; exact Heap.lt_size e
  | tbl ps => exact Heap.lt_size (show h.get? a = some _ from x)
  | met f y => exact Heap.lt_size (show h.get? a = some _ from x)
  | ext φ => obtain ⟨_, ⟨_, e⟩, _⟩ := x; exact Heap.lt_size e
theorem Paired.mapP {α β : Type} {F G : α → β → Prop} : ∀ {l₁ : List α} {l₂ : List β}, Paired F l₁ l₂ → (∀ a b, F a b → G a b) → Paired G l₁ l₂
  | _, _, .nil, _ => .nil
  | _, _, .cons r t, f => .cons (f _ _ r) (Paired.mapP t f)
/-- what an object's description leans on: its own object, its own dict, the tuples -/
theorem ObjOk.stay (x : ObjOk P w H h a o) (k : ∀ b u, (b = a ∨ H b = some (.own a)) → h.get? b = some u → h'.get? b = some u)
    (ho : ∀ b, H b = some (.own a) → H' b = some (.own a)) (ht : ∀ b xs, H b = some (.tup xs) → H' b = some (.tup xs)) : ObjOk P w H' h' a o := by
  induction o with
  | lst xs => obtain ⟨z, its, n, r, e⟩ := x; exact ⟨z, its, n, r, k _ _ (.inl rfl) e⟩
  | tup xs => obtain ⟨z, its, r, ob, e, c⟩ := x; exact ⟨z, its, r, ob, k _ _ (.inl rfl) e, c⟩
  | dK kvs => obtain ⟨z, y, vs, r, ob, es, ep, e, c⟩ := x; exact ⟨z, y, vs, r, ob, es, ep, k _ _ (.inl rfl) e, c⟩
  | dT kvs =>
    obtain ⟨z, y, xs, r, ob, es, ep, e, c⟩ := x
    exact ⟨z, y, xs, Paired.mapP r fun p q z => ⟨z.1, ht _ _ z.2.1, z.2.2⟩, ob, es, ep, k _ _ (.inl rfl) e, c⟩
  | set S n => obtain ⟨ob, es, ep, t, e, c⟩ := x; exact ⟨ob, es, ep, t, k _ _ (.inl rfl) e, c⟩
  | ins C dx fs =>
    obtain ⟨d, z, ne, e, mA, ⟨od, es, ep, e2, c⟩, r⟩ := x
    exact ⟨ho _ d, z, ne, k _ _ (.inl rfl) e, mA, ⟨od, es, ep, k _ _ (.inr d) e2, c⟩, r⟩
  | own y => obtain ⟨ob, e⟩ := x; exact ⟨ob, k _ _ (.inl rfl) e⟩
  | xd fs => obtain ⟨mA, ⟨od, es, ep, e, c⟩, r⟩ := x; exact ⟨mA, ⟨od, es, ep, k _ _ (.inl rfl) e, c⟩, r⟩
  | rng lo hi => obtain ⟨t, u, v, e⟩ := x; exact ⟨t, u, v, k _ _ (.inl rfl) e⟩
  | frz ob u ih => obtain ⟨e, q⟩ := x; exact ⟨k _ _ (.inl rfl) e, ih q⟩
  | tbl ps =>
    have e : h.get? a = some { cls := .none, data := .fields ps } := x
    show h'.get? a = some { cls := .none, data := .fields ps }
    exact k a _ (.inl rfl) e
  | met f y =>
    have e : h.get? a = some (PySem.W.methodObj (.ref f) (.ref y)) := x
    show h'.get? a = some (PySem.W.methodObj (.ref f) (.ref y))
    exact k a _ (.inl rfl) e
  | ext φ => obtain ⟨p, ⟨o, e⟩, st⟩ := x; exact ⟨st _ _ p fun o q => k _ _ (.inl rfl) q, ⟨o, k _ _ (.inl rfl) e⟩, st⟩
theorem HOk.lt (x : HOk P w H h) (e : H a = some o) : a < h.objs.size := (x a o e).lt
theorem HOk.fresh (x : HOk P w H h) (e : h.objs.size ≤ a) : H a = none := by
  cases q : H a with
  | none => rfl
  | some u => exact absurd (Nat.lt_of_lt_of_le (x.lt q) e) (Nat.lt_irrefl _)
/-- every object of the heap is kept -/
theorem HOk.kept (x : HOk P w H h) (k : ∀ b u, h.get? b = some u → h'.get? b = some u) : HOk P w H h' := fun a o e =>
  (x a o e).stay (fun b u _ q => k b u q) (fun _ q => q) fun _ _ q => q
/-- a new object is laid and tracked -/
theorem HOk.laid (x : HOk P w H h) (k : ∀ b u, h.get? b = some u → h'.get? b = some u) (hp : h.objs.size ≤ a) (new : ObjOk P w (upd H a o) h' a o) : HOk P w (upd H a o) h' := fun b u e => by
  have hn := x.fresh hp
  by_cases hb : b = a
  · subst hb; rw [upd_same] at e; cases e; exact new
  · rw [upd_ne hb] at e
    exact (x b u e).stay (fun c v _ q => k c v q) (fun c q => by rw [upd_ne (ne_of_none q hn)]; exact q) fun c xs q => by rw [upd_ne (ne_of_none q hn)]; exact q
end

/-- what may be read as u: it is u, or a known u -/
def Rd (H : Hp) (a : Addr) (u : HO) : Prop := H a = some u ∨ ∃ o, H a = some (.frz o u)
theorem Rd.ok {P : Program} {w : World} {H : Hp} {h : Heap} {a : Addr} {u : HO} (r : Rd H a u) (x : HOk P w H h) : ObjOk P w H h a u := by
  rcases r with r | ⟨o, r⟩
  · exact x a u r
  · obtain ⟨_, q⟩ := x a _ r
    exact q
/-- what may be written -/
def Mut : Option HO → Prop
  | some (.lst _) => True
  | some (.dK _) => True
  | some (.dT _) => True
  | some (.set _ _) => True
  | some (.ins _ _ _) => True
  | some (.ext _) => True
  | _ => False
section
variable {P : Program} {w : World} {H : Hp} {h h' : Heap} {x e : Addr} {o' : HO}
/-- the object at e is changed: x itself, or the dict of the instance x -/
theorem HOk.write (ok : HOk P w H h) (mu : Mut (H x)) (he : e = x ∨ H e = some (.own x)) (k : ∀ b u, b ≠ e → h.get? b = some u → h'.get? b = some u) (heo : ∃ u, h'.get? e = some u)
    (new : ObjOk P w (upd H x o') h' x o') : HOk P w (upd H x o') h' := fun b u q => by
  have nown : ∀ c y, H c = some (.own y) → c ≠ x := fun c y r z => by subst z; rw [r] at mu; exact mu
  have ntup : ∀ c xs, H c = some (.tup xs) → c ≠ x := fun c xs r z => by subst z; rw [r] at mu; exact mu
  by_cases hb : b = x
  · subst hb; rw [upd_same] at q; cases q; exact new
  · rw [upd_ne hb] at q
    by_cases hbe : b = e
    · have q' : H b = some (.own x) := by
        rcases he with z | z
        · exact absurd (hbe.trans z) hb
        · rw [hbe]; exact z
      rw [q] at q'; cases q'
      obtain ⟨v, hv⟩ := heo
      exact ⟨v, by rw [hbe]; exact hv⟩
    · refine (ok b u q).stay (fun c v hc r => k c v ?_ r) (fun c r => by rw [upd_ne (nown c b r)]; exact r) fun c xs r => by rw [upd_ne (ntup c xs r)]; exact r
      rcases hc with rfl | hc
      · exact hbe
      · rintro rfl
        rcases he with z | z
        · exact nown c b hc z
        · rw [hc] at z; cases z; exact hb rfl
end

/-! ### kept unless tracked; of the frames at fs (the callers') the slots may change (an exception that passes writes there); of the records at ex (iterators) nothing is said -/
structure Un (fs ex : List Addr) (H H' : Hp) (h h' : Heap) : Prop where
  keep : ∀ b o, h.get? b = some o → H b = none → b ∉ fs → b ∉ ex → h'.get? b = some o
  slot : ∀ b o, h.get? b = some o → H b = none → b ∈ fs → b ∉ ex → ∃ sl, h'.get? b = some { o with slots := sl }
  free : ∀ b o, h.get? b = some o → H b = none → b ∉ ex → H' b = none
  there : ∀ b o, h.get? b = some o → b ∉ ex → ∃ o', h'.get? b = some o'
  tups : ∀ b xs, H b = some (.tup xs) → H' b = some (.tup xs)
  frzs : ∀ b o u, H b = some (.frz o u) → H' b = some (.frz o u)
  tbls : ∀ b ps, H b = some (.tbl ps) → ∃ more, H' b = some (.tbl (ps ++ more))
section
variable {fs fs' ex ex' : List Addr} {H H1 H2 : Hp} {h h1 h2 h' : Heap} {a x e : Addr} {o : HO}
theorem Un.any (u : Un fs ex H H1 h h1) {b : Addr} {ob : Obj} (q : h.get? b = some ob) (n : H b = none) (hx : b ∉ ex) : ∃ sl, h1.get? b = some { ob with slots := sl } := by
  by_cases hb : b ∈ fs
  · exact u.slot b ob q n hb hx
  · exact ⟨ob.slots, u.keep b ob q n hb hx⟩
theorem Un.kept (k : ∀ b u, h.get? b = some u → h'.get? b = some u) : Un fs ex H H h h' :=
  ⟨fun b ob q _ _ _ => k b ob q, fun b ob q _ _ _ => ⟨ob.slots, k b ob q⟩, fun _ _ _ n _ => n, fun b ob q _ => ⟨ob, k b ob q⟩, fun _ _ q => q, fun _ _ _ q => q, fun _ ps q => ⟨#[], by rw [q]; simp⟩⟩
theorem Un.refl : Un fs ex H H h h := Un.kept fun _ _ q => q
theorem Un.laid (k : ∀ b u, h.get? b = some u → h'.get? b = some u) (hp : h.objs.size ≤ a) (hn : H a = none) : Un fs ex H (upd H a o) h h' where
  keep := fun b u q _ _ _ => k b u q
  slot := fun b u q _ _ _ => ⟨u.slots, k b u q⟩
  free := fun b u q n _ => by rw [upd_ne (Nat.ne_of_lt (Nat.lt_of_lt_of_le (Heap.lt_size q) hp))]; exact n
  there := fun b u q _ => ⟨u, k b u q⟩
  tups := fun b xs q => by rw [upd_ne (ne_of_none q hn)]; exact q
  frzs := fun b u xs q => by rw [upd_ne (ne_of_none q hn)]; exact q
  tbls := fun b ps q => ⟨#[], by rw [upd_ne (ne_of_none q hn), q]; simp⟩
theorem Un.write (mu : Mut (H x)) (he : e = x ∨ H e = some (.own x)) (k : ∀ b u, b ≠ e → h.get? b = some u → h'.get? b = some u) (heo : ∃ u, h'.get? e = some u) : Un fs ex H (upd H x o) h h' := by
  have hx : ∀ b, H b = none → b ≠ x := fun b n z => by subst z; rw [n] at mu; exact mu
  have hb : ∀ b, H b = none → b ≠ e := fun b n z => by
    subst z
    rcases he with r | r
    · exact hx b n r
    · rw [n] at r; cases r
  have hm : ∀ b u, H b = some u → ¬ Mut (some u) → b ≠ x := fun b u q nm z => by subst z; rw [q] at mu; exact nm mu
  refine ⟨fun b u q n _ _ => k b u (hb b n) q, fun b u q n _ _ => ⟨u.slots, k b u (hb b n) q⟩, fun b u q n _ => by rw [upd_ne (hx b n)]; exact n, fun b u q _ => ?_,
    fun b xs q => by rw [upd_ne (hm b _ q fun z => z)]; exact q, fun b u xs q => by rw [upd_ne (hm b _ q fun z => z)]; exact q, fun b ps q => ⟨#[], by rw [upd_ne (hm b _ q fun z => z), q]; simp⟩⟩
  by_cases hbe : b = e
  · subst hbe; exact heo
  · exact ⟨u, k b u hbe q⟩
end

/-! ### the heap without what is tracked -/
def trk (h : Heap) (H : Hp) : List Addr := (List.range h.objs.size).filter fun a => (H a).isSome
def hidT (h : Heap) (H : Hp) : Heap := PySem.W.hideAll h (trk h H)
theorem hidT_size (h : Heap) (H : Hp) : (hidT h H).objs.size = h.objs.size := PySem.W.hideAll_size _ _
theorem hidT_get {h : Heap} {H : Hp} {b : Addr} {o : Obj} (e : h.get? b = some o) (n : H b = none) : (hidT h H).get? b = some o :=
  PySem.W.hideAll_get _ e fun hm => by
    have q : (H b).isSome = true := (List.mem_filter.mp hm).2
    rw [n] at q; simp at q
theorem of_hidT {h : Heap} {H : Hp} {b : Addr} {o : Obj} (e : (hidT h H).get? b = some o) : h.get? b = some o ∧ H b = none := by
  have e' : h.get? b = some o := PySem.W.of_hideAll (trk h H) e
  refine ⟨e', ?_⟩
  cases q : H b with
  | none => rfl
  | some x =>
    have hm : b ∈ trk h H := List.mem_filter.mpr ⟨List.mem_range.mpr (Heap.lt_size e'), by simp [q]⟩
    have z : (hidT h H).get? b = none := PySem.W.hideAll_none (trk h H) hm
    rw [z] at e; cases e

/-! ### OpenK's ledger, filled with every new object but one -/
end L2

namespace L2
open PySem PySem.Spec PyProof.Rows

/-- the module's facts, over the base: the heap at the law's entry without what is tracked there -/
structure Mod (K : PySem.W.Frag) (mg : Str → Option Value) (base : Heap) : Prop where
  kin : K.In base
  glob : base.Ns mainGlobals mg
  blt : ∃ mb, base.Ns builtinsNs mb ∧ ∀ x : Str, x ≠ "__name__" → mb x = bootBuiltins x
  nolimit : base.NoLimit

/-- the context: a def's body (or a comprehension's block) running. base: fixed through the whole law; s₀, H₀: the entry; outer: the frames whose slots others may change (a def's callers); stack: all frames that run;
   ex: iterators that were made ahead of the entry and are walked here (a comprehension's); fn: the names whose cells were made at the entry (a def: all; a comprehension's block: its own); calm: not within an except suite; pn: pins that every state bears; xe: what is wanted of an exception that leaves the code -/
structure Cx where
  prog : Program
  w : World
  K : PySem.W.Frag
  mg : Str → Option Value
  base : Heap
  A : Around
  N : List Str
  s₀ : Shared
  H₀ : Hp
  env : Env
  outer : List Env
  stack : List Env
  ex : List Addr
  fn : Str → Bool
  calm : Bool
  pn : List (Addr × Obj)
  xe : Value → Shared → Prop
/-- the callers' frames -/
def frs (l : List Env) : List Addr := l.filterMap (·.frame)
abbrev Cx.fs (X : Cx) : List Addr := frs X.outer

def Vis (sc : Scope) (x : Str) : Prop := sc.names.lookup x = some .local ∨ sc.names.lookup x = some .cell ∨ sc.names.lookup x = some .free
def Loc (sc : Scope) (x : Str) : Prop := sc.names.lookup x = some .local ∨ sc.names.lookup x = some .cell
def Look (env : Env) (h : Heap) (m : Str → Option Value) (x : Str) (u : Value) : Prop :=
  (env.kindOf x = some .local ∧ m x = some u) ∨ ((env.kindOf x = some .cell ∨ env.kindOf x = some .free) ∧ ∃ c, env.cells.lookup x = some c ∧ h.IsCell c (some u))

structure Cx.Ok (X : Cx) : Prop where
  mod : Mod X.K X.mg X.base
  kind : X.env.scope.kind = .function
  glob : X.env.globals = mainGlobals
  blt : X.env.builtins = builtinsNs
  above : X.s₀.heap.objs.size ≤ X.env.locals
  inj : ∀ x y c, X.env.cells.lookup x = some c → X.env.cells.lookup y = some c → x = y
  has : ∀ x, (X.env.kindOf x = some .cell ∨ X.env.kindOf x = some .free) → ∃ c, X.env.cells.lookup x = some c
  cab : ∀ x c, X.fn x = true → X.env.cells.lookup x = some c → X.s₀.heap.objs.size ≤ c
  hd : X.calm = true → X.A.handled = none
  frames : X.A.frames = some X.stack
  stk : X.stack = X.outer ∨ (X.stack = X.env :: X.outer ∧ X.env.frame = some X.env.locals)
  exf : ∀ b ∈ X.ex, b ≠ X.env.locals ∧ ∀ x c, X.env.cells.lookup x = some c → c ≠ b
  bs : ∀ b o, X.base.get? b = some o → X.s₀.heap.get? b = some o ∧ X.H₀ b = none
  bsz : X.base.objs.size ≤ X.s₀.heap.objs.size
  noex : ∀ b o, X.base.get? b = some o → b ∉ X.ex
  exfs : ∀ b ∈ X.ex, b ∉ X.fs
  funs : X.s₀.heap.FunFrames X.base X.outer
  frf : ∀ b ∈ X.fs, X.H₀ b = none

structure Inv (X : Cx) (pins : List (Addr × Obj)) (σ : List (Option V)) (H : Hp) (s : Shared) : Prop where
  ok : X.Ok
  os : s.os = X.s₀.os
  bare : AllBare s.gens
  base : Un X.fs X.ex X.H₀ H X.s₀.heap s.heap
  loc : ∃ m, s.heap.Ns X.env.locals m ∧ ∀ (i : Nat) (x : Str) (v : V), X.N[i]? = some x → σ[i]? = some (some v) → Vis X.env.scope x → ∃ u, RelV v u ∧ Look X.env s.heap m x u
  cell : ∀ x c, X.env.cells.lookup x = some c → ∃ v, s.heap.IsCell c v
  free : H X.env.locals = none
  freeC : ∀ x c, X.env.cells.lookup x = some c → H c = none
  pin : ∀ p ∈ X.pn ++ pins, s.heap.get? p.1 = some p.2 ∧ H p.1 = none ∧ p.1 ≠ X.env.locals ∧ p.1 ∉ X.fs ∧ ∀ v, p.2.data ≠ .cell v
  hok : HOk X.prog X.w H s.heap
  len : σ.length = X.N.length
  tk : 0 < s.toks

section
variable {X : Cx} {pins : List (Addr × Obj)} {σ : List (Option V)} {H H' : Hp} {s : Shared} {h' : Heap}

theorem Cx.Ok.nofr (ok : X.Ok) {b : Addr} {o : Obj} (e : X.base.get? b = some o) : b ∉ X.fs := fun hb => by
  have := (ok.funs.mem hb).1
  rw [e] at this; cases this
theorem Inv.bs (I : Inv X pins σ H s) : ∀ b o, X.base.get? b = some o → s.heap.get? b = some o ∧ H b = none := fun b o e =>
  ⟨I.base.keep b o (I.ok.bs b o e).1 (I.ok.bs b o e).2 (I.ok.nofr e) (I.ok.noex b o e), I.base.free b o (I.ok.bs b o e).1 (I.ok.bs b o e).2 (I.ok.noex b o e)⟩
theorem Inv.bk (I : Inv X pins σ H s) : ∀ b o, X.base.get? b = some o → s.heap.get? b = some o := fun b o e => (I.bs b o e).1
theorem Inv.mod (I : Inv X pins σ H s) : Mod X.K X.mg X.base := I.ok.mod
theorem Inv.kIn (I : Inv X pins σ H s) : X.K.In s.heap := I.ok.mod.kin.keeps I.bk
theorem Inv.lt (I : Inv X pins σ H s) : X.env.locals < s.heap.objs.size := let ⟨_, hn, _⟩ := I.loc; hn.lt
theorem Inv.sz (I : Inv X pins σ H s) : X.s₀.heap.objs.size ≤ s.heap.objs.size := Nat.le_trans I.ok.above (Nat.le_of_lt I.lt)
theorem Inv.nofs (I : Inv X pins σ H s) {a : Addr} (h : s.heap.objs.size ≤ a) : a ∉ X.fs := fun hb => by
  obtain ⟨_, o, ho, _⟩ := I.ok.funs.mem hb
  exact absurd (Nat.lt_of_lt_of_le (Heap.lt_size ho) (Nat.le_trans I.sz h)) (Nat.lt_irrefl _)
theorem Inv.cne (I : Inv X pins σ H s) : ∀ x c, X.env.cells.lookup x = some c → c ≠ X.env.locals := fun x c e z => by
  obtain ⟨v, o, ho, hd⟩ := I.cell x c e
  obtain ⟨m, ⟨o', es, ep, ho', hd', _⟩, _⟩ := I.loc
  rw [z, ho'] at ho; cases ho; rw [hd'] at hd; cases hd
theorem Inv.funs (I : Inv X pins σ H s) : s.heap.FunFrames X.base X.outer := by
  have all : ∀ (l : List Env), (∀ b ∈ frs l, b ∈ X.fs) → X.s₀.heap.FunFrames X.base l → s.heap.FunFrames X.base l := by
    intro l
    induction l with
    | nil => intro _ _; trivial
    | cons env r ih =>
      intro hs hl
      obtain ⟨hk, ⟨L, o, hf, hn, ho, hd⟩, hr⟩ := hl
      have hL : L ∈ X.fs := hs L (by unfold frs; rw [List.filterMap_cons, hf]; exact List.mem_cons_self)
      obtain ⟨sl, e⟩ := I.base.slot L o ho (I.ok.frf L hL) hL fun z => I.ok.exfs L z hL
      exact ⟨hk, ⟨L, _, hf, hn, e, hd⟩, ih (fun b hb => hs b (by unfold frs; rw [List.filterMap_cons, hf]; exact List.mem_cons_of_mem _ hb)) hr⟩
  exact all X.outer (fun _ hb => hb) I.ok.funs

/-- the frames that run, for a call -/
theorem Inv.stack (I : Inv X pins σ H s) : s.heap.FunFrames X.base X.stack := by
  rcases I.ok.stk with e | ⟨e, hf⟩
  · rw [e]; exact I.funs
  · rw [e]
    obtain ⟨m, hn, _⟩ := I.loc
    refine .cons (by rw [I.ok.kind]; decide) hf hn ?_ I.funs
    exact Heap.get?_none_of_le (Nat.le_trans I.ok.bsz I.ok.above)
theorem Inv.stkSub (I : Inv X pins σ H s) : ∀ b ∈ frs X.stack, b ∈ X.env.locals :: X.fs := fun b hb => by
  rcases I.ok.stk with e | ⟨e, hf⟩
  · rw [e] at hb; exact List.mem_cons_of_mem _ hb
  · rw [e] at hb
    unfold frs at hb
    rw [List.filterMap_cons, hf] at hb
    exact hb
theorem Inv.stkFree (I : Inv X pins σ H s) : ∀ b ∈ frs X.stack, H b = none := fun b hb => by
  rcases List.mem_cons.mp (I.stkSub b hb) with e | hb
  · rw [e]; exact I.free
  · obtain ⟨_, o, ho, _⟩ := I.ok.funs.mem hb
    exact I.base.free b o ho (I.ok.frf b hb) fun z => I.ok.exfs b z hb

/-- THE STEP: the untracked objects but the frame and the records at ch are kept (the callers' frames up to slots), the frame's map is kept, the new abstract heap is held -/
theorem Inv.step {g' : Array GenState} {t' : Nat} {d' : Drawn} {ch : List Addr} (I : Inv X pins σ H s)
    (hch : ∀ b ∈ ch, (b ∈ X.ex ∨ X.s₀.heap.objs.size ≤ b) ∧ b ≠ X.env.locals ∧ (∀ x c, X.env.cells.lookup x = some c → c ≠ b) ∧ ∀ p ∈ X.pn ++ pins, p.1 ≠ b)
    (keep : ∀ b o, b ≠ X.env.locals → b ∉ X.fs → b ∉ ch → s.heap.get? b = some o → H b = none → h'.get? b = some o)
    (slot : ∀ b o, b ≠ X.env.locals → b ∈ X.fs → b ∉ ch → s.heap.get? b = some o → H b = none → ∃ sl, h'.get? b = some { o with slots := sl }) (free : ∀ b o, b ∉ ch → s.heap.get? b = some o → H b = none → H' b = none)
    (there : ∀ b o, b ∉ ch → s.heap.get? b = some o → ∃ o', h'.get? b = some o')
    (tups : ∀ b xs, H b = some (.tup xs) → H' b = some (.tup xs)) (frzs : ∀ b o u, H b = some (.frz o u) → H' b = some (.frz o u)) (tbls : ∀ b ps, H b = some (.tbl ps) → ∃ more, H' b = some (.tbl (ps ++ more)))
    (ns : ∀ m, s.heap.Ns X.env.locals m → h'.Ns X.env.locals m) (hok : HOk X.prog X.w H' h') (hg : AllBare g') (ht : 0 < t' := by (first | assumption | exact Nat.succ_pos _ | exact Inv.tk (by assumption) | exact Nat.lt_of_lt_of_le (Inv.tk (by assumption)) (Nat.le_add_right _ _) | exact Nat.lt_of_lt_of_le (Inv.tk (by assumption)) (by assumption))) :
    Inv X pins σ H' { s with heap := h', gens := g', drawn := d', toks := t' } := by
  have neL : ∀ b o, X.s₀.heap.get? b = some o → b ≠ X.env.locals := fun b o e => Nat.ne_of_lt (Nat.lt_of_lt_of_le (Heap.lt_size e) I.ok.above)
  have neC : ∀ b o, X.s₀.heap.get? b = some o → b ∉ X.ex → b ∉ ch := fun b o e hx hb => by
    rcases (hch b hb).1 with z | z
    · exact hx z
    · exact absurd (Nat.lt_of_lt_of_le (Heap.lt_size e) z) (Nat.lt_irrefl _)
  have cellK : ∀ x c, X.env.cells.lookup x = some c → ∀ v, s.heap.IsCell c v → h'.IsCell c v := fun x c e v ⟨o, ho, hd⟩ => by
    have nch : c ∉ ch := fun z => (hch c z).2.2.1 x c e rfl
    by_cases hc : c ∈ X.fs
    · obtain ⟨sl, q⟩ := slot c o (I.cne x c e) hc nch ho (I.freeC x c e)
      exact ⟨_, q, hd⟩
    · exact ⟨o, keep c o (I.cne x c e) hc nch ho (I.freeC x c e), hd⟩
  refine ⟨I.ok, I.os, hg, ⟨fun b o e n hb hx => ?_, fun b o e n hb hx => ?_, fun b o e n hx => ?_, fun b o e hx => ?_, fun b xs e => tups b xs (I.base.tups b xs e), fun b o xs e => frzs b o xs (I.base.frzs b o xs e), fun b ps e => ?_⟩, ?_, fun x c e => ?_, ?_, fun x c e => ?_, fun p hp => ?_, hok, I.len, ht⟩
  · exact keep b o (neL b o e) hb (neC b o e hx) (I.base.keep b o e n hb hx) (I.base.free b o e n hx)
  · obtain ⟨sl, e1⟩ := I.base.slot b o e n hb hx
    obtain ⟨sl', e2⟩ := slot b _ (neL b o e) hb (neC b o e hx) e1 (I.base.free b o e n hx)
    exact ⟨sl', e2⟩
  · obtain ⟨o', e1⟩ := I.base.there b o e hx
    exact free b o' (neC b o e hx) e1 (I.base.free b o e n hx)
  · obtain ⟨o', e1⟩ := I.base.there b o e hx
    exact there b o' (neC b o e hx) e1
  · obtain ⟨m1, e1⟩ := I.base.tbls b ps e
    obtain ⟨m2, e2⟩ := tbls b _ e1
    exact ⟨m1 ++ m2, by rw [e2, Array.append_assoc]⟩
  · obtain ⟨m, hn, hl⟩ := I.loc
    refine ⟨m, ns m hn, fun i x v e1 e2 e3 => ?_⟩
    obtain ⟨u, r, l⟩ := hl i x v e1 e2 e3
    refine ⟨u, r, ?_⟩
    rcases l with l | ⟨k, c, e, z⟩
    · exact .inl l
    · exact .inr ⟨k, c, e, cellK x c e _ z⟩
  · obtain ⟨v, z⟩ := I.cell x c e
    exact ⟨v, cellK x c e v z⟩
  · obtain ⟨m, ⟨o, _, _, ho, _⟩, _⟩ := I.loc
    exact free _ o (fun z => (hch _ z).2.1 rfl) ho I.free
  · obtain ⟨v, o, ho, hd⟩ := I.cell x c e
    exact free c o (fun z => (hch c z).2.2.1 x c e rfl) ho (I.freeC x c e)
  · obtain ⟨e, n, ne, nf, d⟩ := I.pin p hp
    have nch : p.1 ∉ ch := fun z => (hch p.1 z).2.2.2 p hp rfl
    exact ⟨keep p.1 p.2 ne nf nch e n, free p.1 p.2 nch e n, ne, nf, d⟩
/-- .. where the frame's own object is kept too -/
theorem Inv.un {t' : Nat} (I : Inv X pins σ H s) (u : Un X.fs [] H H' s.heap h') (hok : HOk X.prog X.w H' h') (ht : 0 < t' := by (first | assumption | exact Nat.succ_pos _ | exact Inv.tk (by assumption) | exact Nat.lt_of_lt_of_le (Inv.tk (by assumption)) (Nat.le_add_right _ _) | exact Nat.lt_of_lt_of_le (Inv.tk (by assumption)) (by assumption))) : Inv X pins σ H' { s with heap := h', toks := t' } := by
  obtain ⟨m, ⟨o, es, ep, ho, r⟩, _⟩ := id I.loc
  obtain ⟨sl, hL⟩ := u.any ho I.free (by simp)
  exact I.step (g' := s.gens) (d' := s.drawn) (ch := []) (fun _ z => nomatch z) (fun b o _ hb _ e n => u.keep b o e n hb (by simp)) (fun b o _ hb _ e n => u.slot b o e n hb (by simp)) (fun b o _ e n => u.free b o e n (by simp)) (fun b o _ e => u.there b o e (by simp)) u.tups u.frzs u.tbls (fun m' hm => by
    obtain ⟨o', es', ep', ho', r'⟩ := hm
    rw [ho] at ho'; cases ho'
    exact ⟨_, es', ep', hL, r'⟩) hok I.bare
/-- behind a call (or a comprehension's block): the slots of this frame may have changed too, the records at ch may have turned -/
theorem Inv.call {g' : Array GenState} {t' : Nat} {d' : Drawn} {ch : List Addr} (I : Inv X pins σ H s) (u : Un (frs X.stack) ch H H' s.heap h') (hok : HOk X.prog X.w H' h') (hg : AllBare g')
    (hch : ∀ b ∈ ch, (b ∈ X.ex ∨ X.s₀.heap.objs.size ≤ b) ∧ b ≠ X.env.locals ∧ (∀ x c, X.env.cells.lookup x = some c → c ≠ b) ∧ ∀ p ∈ X.pn ++ pins, p.1 ≠ b) (ht : 0 < t' := by (first | assumption | exact Nat.succ_pos _ | exact Inv.tk (by assumption) | exact Nat.lt_of_lt_of_le (Inv.tk (by assumption)) (Nat.le_add_right _ _) | exact Nat.lt_of_lt_of_le (Inv.tk (by assumption)) (by assumption))) :
    Inv X pins σ H' { s with heap := h', gens := g', drawn := d', toks := t' } := by
  obtain ⟨m, ⟨o, es, ep, ho, r⟩, _⟩ := id I.loc
  obtain ⟨sl, hL⟩ := u.any ho I.free fun z => (hch _ z).2.1 rfl
  exact I.step (ch := ch) hch (fun b o hL hb hc e n => u.keep b o e n (fun z => (List.mem_cons.mp (I.stkSub b z)).elim hL hb) hc) (fun b o _ _ hc e n => u.any e n hc) (fun b o hc e n => u.free b o e n hc) (fun b o hc e => u.there b o e hc) u.tups u.frzs u.tbls (fun m' hm => by
    obtain ⟨o', es', ep', ho', r'⟩ := hm
    rw [ho] at ho'; cases ho'
    exact ⟨_, es', ep', hL, r'⟩) hok hg
/-- an untracked record of ours (an iterator) has turned -/
theorem Inv.turned {t' : Nat} {it : Addr} (I : Inv X pins σ H s) (k : ∀ b o, b ≠ it → s.heap.get? b = some o → h'.get? b = some o) (hn : H it = none) (hL : it ≠ X.env.locals)
    (h1 : it ∈ X.ex ∨ X.s₀.heap.objs.size ≤ it) (h2 : ∀ x c, X.env.cells.lookup x = some c → c ≠ it) (h3 : ∀ p ∈ X.pn ++ pins, p.1 ≠ it) (ht : 0 < t' := by (first | assumption | exact Nat.succ_pos _ | exact Inv.tk (by assumption) | exact Nat.lt_of_lt_of_le (Inv.tk (by assumption)) (Nat.le_add_right _ _) | exact Nat.lt_of_lt_of_le (Inv.tk (by assumption)) (by assumption))) : Inv X pins σ H { s with heap := h', toks := t' } := by
  have nit : ∀ b u, H b = some u → b ≠ it := fun b u e z => by rw [z, hn] at e; cases e
  refine I.step (g' := s.gens) (d' := s.drawn) (ch := [it]) (fun b hb => ?_) (fun b o _ _ hc e _ => k b o (fun z => hc (by simp [z])) e) (fun b o _ _ hc e _ => ⟨o.slots, k b o (fun z => hc (by simp [z])) e⟩) (fun _ _ _ _ n => n)
    (fun b o hc e => ⟨o, k b o (fun z => hc (by simp [z])) e⟩) (fun _ _ e => e) (fun _ _ _ e => e) (fun b ps e => ⟨#[], by rw [e]; simp⟩) (fun m hm => ?_) (fun b u e => ?_) I.bare
  · have e : b = it := by simpa using hb
    subst e
    exact ⟨h1, hL, h2, h3⟩
  · obtain ⟨o, es, ep, ho, r⟩ := hm
    exact ⟨o, es, ep, k _ o (Ne.symm hL) ho, r⟩
  · refine (I.hok b u e).stay (fun c v hc q => k c v ?_ q) (fun _ q => q) fun _ _ q => q
    rcases hc with z | z
    · rw [z]; exact nit b u e
    · exact nit c _ z
theorem Inv.tok (I : Inv X pins σ H s) (t : Nat) (ht : 0 < t := by (first | assumption | exact Nat.succ_pos _ | exact Inv.tk (by assumption) | exact Nat.lt_of_lt_of_le (Inv.tk (by assumption)) (Nat.le_add_right _ _) | exact Nat.lt_of_lt_of_le (Inv.tk (by assumption)) (by assumption))) : Inv X pins σ H { s with toks := t } := I.un (h' := s.heap) (t' := t) Un.refl I.hok
/-- all objects kept -/
theorem Inv.kept {t' : Nat} (I : Inv X pins σ H s) (k : ∀ b u, s.heap.get? b = some u → h'.get? b = some u) (ht : 0 < t' := by (first | assumption | exact Nat.succ_pos _ | exact Inv.tk (by assumption) | exact Nat.lt_of_lt_of_le (Inv.tk (by assumption)) (Nat.le_add_right _ _) | exact Nat.lt_of_lt_of_le (Inv.tk (by assumption)) (by assumption))) : Inv X pins σ H { s with heap := h', toks := t' } := I.un (Un.kept k) (I.hok.kept k)
/-- a new object laid and tracked -/
theorem Inv.laid {a : Addr} {o : HO} {t' : Nat} (I : Inv X pins σ H s) (k : ∀ b u, s.heap.get? b = some u → h'.get? b = some u) (hp : s.heap.objs.size ≤ a) (new : ObjOk X.prog X.w (upd H a o) h' a o) (ht : 0 < t' := by (first | assumption | exact Nat.succ_pos _ | exact Inv.tk (by assumption) | exact Nat.lt_of_lt_of_le (Inv.tk (by assumption)) (Nat.le_add_right _ _) | exact Nat.lt_of_lt_of_le (Inv.tk (by assumption)) (by assumption))) :
    Inv X pins σ (upd H a o) { s with heap := h', toks := t' } := I.un (Un.laid k hp (I.hok.fresh hp)) (I.hok.laid k hp new)
/-- an object written -/
theorem Inv.write {x e : Addr} {o : HO} {t' : Nat} (I : Inv X pins σ H s) (mu : Mut (H x)) (he : e = x ∨ H e = some (.own x)) (k : ∀ b u, b ≠ e → s.heap.get? b = some u → h'.get? b = some u) (heo : ∃ u, h'.get? e = some u)
    (new : ObjOk X.prog X.w (upd H x o) h' x o) (ht : 0 < t' := by (first | assumption | exact Nat.succ_pos _ | exact Inv.tk (by assumption) | exact Nat.lt_of_lt_of_le (Inv.tk (by assumption)) (Nat.le_add_right _ _) | exact Nat.lt_of_lt_of_le (Inv.tk (by assumption)) (by assumption))) : Inv X pins σ (upd H x o) { s with heap := h', toks := t' } := I.un (Un.write mu he k heo) (I.hok.write mu he k heo new)
/-- forgetting slots, pins -/
theorem Inv.weak {σ' : List (Option V)} (I : Inv X pins σ H s) (hl : σ'.length = σ.length) (w : ∀ (i : Nat) v, σ'[i]? = some (some v) → σ[i]? = some (some v)) : Inv X pins σ' H s :=
  ⟨I.ok, I.os, I.bare, I.base, let ⟨m, hn, hl'⟩ := I.loc; ⟨m, hn, fun i x v e1 e2 e3 => hl' i x v e1 (w i v e2) e3⟩, I.cell, I.free, I.freeC, I.pin, I.hok, hl.trans I.len, I.tk⟩
theorem Inv.pins_of {pins' : List (Addr × Obj)} (I : Inv X pins σ H s) (h : ∀ p ∈ pins', s.heap.get? p.1 = some p.2 ∧ H p.1 = none ∧ p.1 ≠ X.env.locals ∧ p.1 ∉ X.fs ∧ ∀ v, p.2.data ≠ .cell v) : Inv X pins' σ H s :=
  ⟨I.ok, I.os, I.bare, I.base, I.loc, I.cell, I.free, I.freeC, fun p hp => (List.mem_append.mp hp).elim (fun z => I.pin p (List.mem_append_left _ z)) (h p), I.hok, I.len, I.tk⟩

theorem nodup_ix {N : List Str} (hN : N.Nodup) {i j : Nat} {x : Str} (a : N[i]? = some x) (b : N[j]? = some x) : i = j := by
  obtain ⟨h1, e1⟩ := List.getElem?_eq_some_iff.mp a
  obtain ⟨h2, e2⟩ := List.getElem?_eq_some_iff.mp b
  exact (List.getElem_inj hN).mp (e1.trans e2.symm)

/-- a name is stored; what changed -/
theorem store_ok2 {M : Model} {A : Around} {E : Value → Shared → Prop} {i : Nat} {x : Str} {v : V} {u : Value} {Q : Unit → Shared → Prop} (I : Inv X pins σ H s) (hN : X.N.Nodup) (hi : X.N[i]? = some x) (hx : Loc X.env.scope x) (r : RelV v u)
    (h : ∀ s', Inv X pins (σ.set i (some v)) H s' → (∃ a, Heap.SameBut a s.heap s'.heap ∧ (a = X.env.locals ∨ X.env.cells.lookup x = some a)) → (X.env.kindOf x = some .local → ∃ m', s'.heap.Ns X.env.locals m' ∧ m' x = some u) → Q () s') (hf : X.fn x = true ∨ X.env.scope.names.lookup x = some .local := by first | exact .inl rfl | exact .inr rfl | assumption) : wpAny M A (storeName X.env x u) Q E s := by
  obtain ⟨m, hn, hl⟩ := id I.loc
  have hcls : (X.env.scope.kind == .class || (X.env.scope.kind == .module && X.env.locals != X.env.globals)) = false := by rw [I.ok.kind]; rfl
  have hiσ : i < σ.length := by rw [I.len]; exact (List.getElem?_eq_some_iff.mp hi).1
  have cne := I.cne
  have tracked : ∀ {a : Addr} {h' : Heap}, (∃ o, s.heap.get? a = some o ∧ H a = none) → Heap.SameBut a s.heap h' → HOk X.prog X.w H h' := fun {a h'} ha hs b ob e => by
    obtain ⟨_, _, hfree⟩ := ha
    refine (I.hok b ob e).stay (fun c w' hc q => (hs.2 c ?_).trans q) (fun _ q => q) fun _ _ q => q
    rintro rfl
    rcases hc with rfl | hc
    · rw [hfree] at e; cases e
    · rw [hfree] at hc; cases hc
  rcases hx with hk | hk
  · refine wpAny_storeName_local hk hn (fun h' hn' hs => ?_) hcls
    obtain ⟨oL, _, _, hoL, _⟩ := id hn
    refine h _ ⟨I.ok, I.os, I.bare, ⟨fun b o e n hb hx => ?_, fun b o e n hb hx => ?_, I.base.free, fun b o e hx => ?_, I.base.tups, I.base.frzs, I.base.tbls⟩, ⟨_, hn', fun j y v' e1 e2 e3 => ?_⟩, fun y c e => ?_, I.free, I.freeC, fun p hp => ?_, tracked ⟨oL, hoL, I.free⟩ hs, by simpa using I.len, by first | exact I.tk | exact Nat.succ_pos _⟩ ⟨_, hs, .inl rfl⟩ (fun _ => ⟨_, hn', by simp⟩)
    · exact (hs.2 b (Nat.ne_of_lt (Nat.lt_of_lt_of_le (Heap.lt_size e) I.ok.above))).trans (I.base.keep b o e n hb hx)
    · obtain ⟨sl, e1⟩ := I.base.slot b o e n hb hx
      exact ⟨sl, (hs.2 b (Nat.ne_of_lt (Nat.lt_of_lt_of_le (Heap.lt_size e) I.ok.above))).trans e1⟩
    · obtain ⟨o', e1⟩ := I.base.there b o e hx
      exact ⟨o', (hs.2 b (Nat.ne_of_lt (Nat.lt_of_lt_of_le (Heap.lt_size e) I.ok.above))).trans e1⟩
    · by_cases hj : j = i
      · subst hj
        rw [hi] at e1; cases e1
        rw [List.getElem?_set_self hiσ] at e2
        cases e2
        exact ⟨u, r, .inl ⟨hk, by simp⟩⟩
      · rw [List.getElem?_set_ne (Ne.symm hj)] at e2
        obtain ⟨u', r', q⟩ := hl j y v' e1 e2 e3
        refine ⟨u', r', ?_⟩
        rcases q with ⟨k, e⟩ | ⟨k, c, e, z⟩
        · refine .inl ⟨k, ?_⟩
          have : y ≠ x := fun e => hj (nodup_ix hN e1 (e ▸ hi))
          simp [this, e]
        · exact .inr ⟨k, c, e, z.sameBut hs (cne y c e)⟩
    · obtain ⟨w', z⟩ := I.cell y c e
      exact ⟨w', z.sameBut hs (cne y c e)⟩
    · obtain ⟨e, n, ne, nf, d⟩ := I.pin p hp
      exact ⟨(hs.2 p.1 ne).trans e, n, ne, nf, d⟩
  · have hfn : X.fn x = true := by
      rcases hf with z | z
      · exact z
      · rw [z] at hk; cases hk
    obtain ⟨c, hc⟩ := I.ok.has x (.inl hk)
    obtain ⟨w', z⟩ := I.cell x c hc
    refine wpAny_storeName_cell I.ok.kind hk hc z (fun h' hc' hs => ?_)
    obtain ⟨oc, hoc, hocd⟩ := id z
    refine h { s with heap := h' } ⟨I.ok, I.os, I.bare, ⟨fun b o e n hb hx => ?_, fun b o e n hb hx => ?_, I.base.free, fun b o e hx => ?_, I.base.tups, I.base.frzs, I.base.tbls⟩, ⟨m, hn.sameBut hs (Ne.symm (cne x c hc)), fun j y v' e1 e2 e3 => ?_⟩, fun y c' e => ?_, I.free, I.freeC, fun p hp => ?_, tracked ⟨oc, hoc, I.freeC x c hc⟩ hs, by simpa using I.len, I.tk⟩ ⟨c, hs, .inr hc⟩ (fun z => by have e := (show X.env.kindOf x = some .cell from hk).symm.trans z; cases e)
    · exact (hs.2 b (Nat.ne_of_lt (Nat.lt_of_lt_of_le (Heap.lt_size e) (I.ok.cab x c hfn hc)))).trans (I.base.keep b o e n hb hx)
    · obtain ⟨sl, e1⟩ := I.base.slot b o e n hb hx
      exact ⟨sl, (hs.2 b (Nat.ne_of_lt (Nat.lt_of_lt_of_le (Heap.lt_size e) (I.ok.cab x c hfn hc)))).trans e1⟩
    · obtain ⟨o', e1⟩ := I.base.there b o e hx
      exact ⟨o', (hs.2 b (Nat.ne_of_lt (Nat.lt_of_lt_of_le (Heap.lt_size e) (I.ok.cab x c hfn hc)))).trans e1⟩
    · by_cases hj : j = i
      · subst hj
        rw [hi] at e1; cases e1
        rw [List.getElem?_set_self hiσ] at e2
        cases e2
        exact ⟨u, r, .inr ⟨.inl hk, c, hc, hc'⟩⟩
      · rw [List.getElem?_set_ne (Ne.symm hj)] at e2
        obtain ⟨u', r', q⟩ := hl j y v' e1 e2 e3
        refine ⟨u', r', ?_⟩
        rcases q with q | ⟨k, c', e, z'⟩
        · exact .inl q
        · refine .inr ⟨k, c', e, z'.sameBut hs ?_⟩
          rintro rfl
          exact hj (nodup_ix hN e1 (I.ok.inj _ _ _ e hc ▸ hi))
    · by_cases hcc : c' = c
      · subst hcc; exact ⟨_, hc'⟩
      · obtain ⟨w2, z2⟩ := I.cell y c' e
        exact ⟨w2, z2.sameBut hs hcc⟩
    · obtain ⟨e, n, ne, nf, d⟩ := I.pin p hp
      refine ⟨(hs.2 p.1 ?_).trans e, n, ne, nf, d⟩
      intro q
      rw [q, hoc] at e
      have q' : oc = p.2 := Option.some.inj e
      exact d w' (by rw [← q']; exact hocd)
theorem store_ok {M : Model} {A : Around} {E : Value → Shared → Prop} {i : Nat} {x : Str} {v : V} {u : Value} {Q : Unit → Shared → Prop} (I : Inv X pins σ H s) (hN : X.N.Nodup) (hi : X.N[i]? = some x) (hx : Loc X.env.scope x) (r : RelV v u)
    (h : ∀ s', Inv X pins (σ.set i (some v)) H s' → Q () s') (hf : X.fn x = true ∨ X.env.scope.names.lookup x = some .local := by first | exact .inl rfl | exact .inr rfl | assumption) : wpAny M A (storeName X.env x u) Q E s :=
  store_ok2 I hN hi hx r (fun s' I' _ _ => h s' I') hf
/-- behind a call or a block, the state as it is -/
theorem Inv.call' {s' : Shared} {ch : List Addr} (I : Inv X pins σ H s) (ho : s'.os = s.os) (u : Un (frs X.stack) ch H H' s.heap s'.heap) (hok : HOk X.prog X.w H' s'.heap) (hg : AllBare s'.gens)
    (hch : ∀ b ∈ ch, (b ∈ X.ex ∨ X.s₀.heap.objs.size ≤ b) ∧ b ≠ X.env.locals ∧ (∀ x c, X.env.cells.lookup x = some c → c ≠ b) ∧ ∀ p ∈ X.pn ++ pins, p.1 ≠ b) (ht : 0 < s'.toks := by (first | assumption | exact Nat.succ_pos _ | exact Inv.tk (by assumption) | exact Nat.lt_of_lt_of_le (Inv.tk (by assumption)) (Nat.le_add_right _ _) | exact Nat.lt_of_lt_of_le (Inv.tk (by assumption)) (by assumption))) : Inv X pins σ H' s' := by
  obtain ⟨h', g', d', t', o'⟩ := s'
  have e : o' = s.os := ho
  subst e
  exact I.call (g' := g') (t' := t') (d' := d') u hok hg hch ht
end

/-! ### the judgements -/
/-- an exception: its class, its own dict's address (where it has one), the abstract heap behind it -/
abbrev XK := Value → Option Addr → Hp → Prop
abbrev St := List (Option V)
abbrev VK := V → Hp → Prop
/-- an expression's reading; a test's; an argument list's -/
abbrev TE := St → Hp → VK → Prop
abbrev TT := St → Hp → (Bool → Hp → Prop) → Prop
abbrev TA := St → Hp → (List V → Hp → Prop) → Prop
/-- what is wanted behind a statement -/
structure Ends where
  nx : St → Hp → Prop
  rt : VK
  bk : St → Hp → Prop := fun _ _ => False
  ct : St → Hp → Prop := fun _ _ => False
abbrev TS := Ends → St → Hp → Prop

def EP (X : Cx) (pins : List (Addr × Obj)) (σ : St) (Q : VK) (u : Value) (s' : Shared) : Prop := ∃ v H', Inv X pins σ H' s' ∧ RelV v u ∧ Q v H'
def TP (X : Cx) (pins : List (Addr × Obj)) (σ : St) (Q : Bool → Hp → Prop) (b : Bool) (s' : Shared) : Prop := ∃ H', Inv X pins σ H' s' ∧ Q b H'
def AP (X : Cx) (pins : List (Addr × Obj)) (σ : St) (Q : List V → Hp → Prop) (us : List Value) (s' : Shared) : Prop := ∃ vs H', Inv X pins σ H' s' ∧ Vals vs us ∧ Q vs H'
def SP (X : Cx) (pins : List (Addr × Obj)) (D : Ends) (f : Flow) (s' : Shared) : Prop :=
  match f with
  | .next => ∃ σ' H', Inv X pins σ' H' s' ∧ D.nx σ' H'
  | .brk => ∃ σ' H', Inv X pins σ' H' s' ∧ D.bk σ' H'
  | .cont => ∃ σ' H', Inv X pins σ' H' s' ∧ D.ct σ' H'
  | .ret u => ∃ v σ' H', Inv X pins σ' H' s' ∧ RelV v u ∧ D.rt v H'

def PE (X : Cx) (e : Expr) (t : TE) : Prop :=
  ∀ (pins : List (Addr × Obj)) (s : Shared) (σ : St) (H : Hp) (Q : VK), Inv X pins σ H s → t σ H Q → wpAny (model X.prog X.w) X.A (eval e X.env) (EP X pins σ Q) X.xe s
def PT (X : Cx) (e : Expr) (t : TT) : Prop :=
  ∀ (pins : List (Addr × Obj)) (s : Shared) (σ : St) (H : Hp) (Q : Bool → Hp → Prop), Inv X pins σ H s → t σ H Q → wpAny (model X.prog X.w) X.A (isTrue e X.env (eval e X.env)) (TP X pins σ Q) X.xe s
/-- a test whatever its 'whole' is (and, or) -/
def PW (X : Cx) (e : Expr) (t : TT) : Prop :=
  ∀ (whole : Sem Value) (pins : List (Addr × Obj)) (s : Shared) (σ : St) (H : Hp) (Q : Bool → Hp → Prop), Inv X pins σ H s → t σ H Q → wpAny (model X.prog X.w) X.A (isTrue e X.env whole) (TP X pins σ Q) X.xe s
theorem PW.pt {X : Cx} {e : Expr} {t : TT} (h : PW X e t) : PT X e t := h _
/-- an argument list (no star), from the left -/
def PA (X : Cx) (es : List Expr) (t : TA) : Prop :=
  ∀ (pos : Pos) (pins : List (Addr × Obj)) (s : Shared) (σ : St) (H : Hp) (Q : List V → Hp → Prop), Inv X pins σ H s → t σ H Q → wpAny (model X.prog X.w) X.A (spliced (backTo pos (starEach es X.env))) (AP X pins σ Q) X.xe s
def PS (X : Cx) (st : Stmt) (t : TS) : Prop :=
  ∀ (pins : List (Addr × Obj)) (s : Shared) (σ : St) (H : Hp) (D : Ends), Inv X pins σ H s → t D σ H → wpAny (model X.prog X.w) X.A (exec st X.env) (SP X pins D) X.xe s
def PSs (X : Cx) (st : List Stmt) (t : TS) : Prop :=
  ∀ (pins : List (Addr × Obj)) (s : Shared) (σ : St) (H : Hp) (D : Ends), Inv X pins σ H s → t D σ H → wpAny (model X.prog X.w) X.A (execs st X.env) (SP X pins D) X.xe s
/-- weaken the end -/
theorem thn {α : Type} {t : Sem α} {Q Q' : α → Shared → Prop} {M : Model} {A : Around} {E : Value → Shared → Prop} {s : Shared} (h : wpAny M A t Q E s) (hQ : ∀ a s, Q a s → Q' a s) : wpAny M A t Q' E s := wpAny_mono h hQ fun _ _ x => x
end L2

namespace L2
open PySem PySem.Spec PyProof.Rows
section
variable {X : Cx}


/-! ### names and constants -/
def tVar (i : Nat) : TE := fun σ H Q => ∃ v, σ[i]? = some (some v) ∧ Q v H
def tC (v : V) : TE := fun _ H Q => Q v H
theorem pe_var {i : Nat} {x : Str} {pos : Pos} (hN : X.N[i]? = some x) (hv : Vis X.env.scope x) (hd : (x == ("__debug__" : Str)) = false := by decide) (hcd : (x == ("__classdict__" : Str)) = false := by decide) : PE X (.Name x pos) (tVar i) := by
  intro pins s σ H Q I h
  obtain ⟨v, e, h⟩ := h
  obtain ⟨m, hn, hl⟩ := I.loc
  obtain ⟨u, r, l⟩ := hl i x v hN e hv
  have fin : EP X pins σ Q u s := ⟨v, H, I, r, h⟩
  rcases l with ⟨hk, hm⟩ | ⟨hk, c, hc, hcell⟩
  · exact wpAny_Name (wpAny_loadName_local I.ok.kind hk hn hm fin) hd
  · rcases hk with hk | hk
    · exact wpAny_Name (wpAny_loadName_cell I.ok.kind hk hc hcell fin) hd
    · exact wpAny_Name (wpAny_loadName_free I.ok.kind hk hc hcell fin hcd) hd
theorem pe_int {i j pos} : PE X (.Constant (.int i) j pos) (tC (.int i)) := fun _ _ _ H _ I h => wpAny_Constant_int ⟨.int i, H, I.tok _, ⟨_, rfl⟩, h⟩
theorem pe_bl {b j pos} : PE X (.Constant (.bool b) j pos) (tC (.bl b)) := fun _ _ _ H _ I h => Constant_bool ⟨.bl b, H, I, rfl, h⟩
theorem pe_non {j pos} : PE X (.Constant .none j pos) (tC .non) := fun _ _ _ H _ I h => Constant_none ⟨.non, H, I, rfl, h⟩
theorem pe_str {x j pos} : PE X (.Constant (.str x) j pos) (tC (.str x)) := fun _ _ _ H _ I h => Calls.Constant_str ⟨.str x, H, I.tok _, ⟨_, rfl⟩, h⟩

/-- a global name of the def -/
def Gl (X : Cx) (x : Str) : Prop := X.env.kindOf x = some .globalImplicit
theorem ld_glob {E : Value → Shared → Prop} {pins : List (Addr × Obj)} {s : Shared} {σ : St} {H : Hp} {x : Str} {u : Value} {pos : Pos} {Q : Value → Shared → Prop} (I : Inv X pins σ H s) (hg : Gl X x) (hm : X.mg x = some u) (h : Q u s)
    (hd : (x == ("__debug__" : Str)) = false := by decide) : wpAny (model X.prog X.w) X.A (eval (.Name x pos) X.env) Q E s :=
  Calls.Name_function_global I.ok.kind hg (Calls.loadGlobal_global (by rw [I.ok.glob]; exact I.mod.glob.keeps I.bk) hm h) hd
theorem ld_blt {E : Value → Shared → Prop} {pins : List (Addr × Obj)} {s : Shared} {σ : St} {H : Hp} {x : Str} {u : Value} {pos : Pos} {Q : Value → Shared → Prop} (I : Inv X pins σ H s) (hg : Gl X x) (hm : X.mg x = none) (hv : bootBuiltins x = some u) (h : Q u s)
    (hn : x ≠ "__name__" := by decide) (hd : (x == ("__debug__" : Str)) = false := by decide) : wpAny (model X.prog X.w) X.A (eval (.Name x pos) X.env) Q E s := by
  obtain ⟨mb, h1, h2⟩ := I.mod.blt
  exact Calls.Name_function_global I.ok.kind hg (Calls.loadGlobal_builtin (by rw [I.ok.glob]; exact I.mod.glob.keeps I.bk) hm (by rw [I.ok.blt]; exact h1.keeps I.bk) ((h2 x hn).trans hv) h) hd
/-- a module's constant, a class, a function, as a value -/
theorem pe_glob {x : Str} {v : V} {u : Value} {pos : Pos} (hg : Gl X x) (hm : X.mg x = some u) (r : RelV v u) (hd : (x == ("__debug__" : Str)) = false := by decide) : PE X (.Name x pos) (tC v) :=
  fun _ _ _ H _ I h => ld_glob I hg hm ⟨v, H, I, r, h⟩ hd
theorem pe_bltn {x : Str} {v : V} {u : Value} {pos : Pos} (hg : Gl X x) (hm : X.mg x = none) (hv : bootBuiltins x = some u) (r : RelV v u) (hn : x ≠ "__name__" := by decide) (hd : (x == ("__debug__" : Str)) = false := by decide) : PE X (.Name x pos) (tC v) :=
  fun _ _ _ H _ I h => ld_blt I hg hm hv ⟨v, H, I, r, h⟩ hn hd

/-! ### arithmetic -/
variable {a b : Expr} {ta tb : TE} {pos : Pos}

/-! ### comparisons -/
/-- a comparison as a value, as a test -/
def tB (t : TE) : TT := fun σ H Q => t σ H fun x H1 => ∃ c, x = .bl c ∧ Q c H1
/-- an expression whose value is a bool, as a test -/
theorem pt_val {e : Expr} {t : TE} (h : PE X e t) (he : ∀ whole, isTrue e X.env whole = (do let v ← whole; standAt e.pos; holding [v] (truthy v)) := by intro _; rfl) : PT X e (tB t) := by
  intro pins s σ H Q I hw
  refine isTrue_plain (thn (h pins s σ H _ I hw) fun v s1 ⟨x, H1, I1, r1, q1⟩ => ?_) (he _)
  obtain ⟨d, rfl, q⟩ := q1
  cases r1
  exact wpAny_truthy_bool ⟨H1, I1, q⟩

/-! ### and, or, not -/
variable {tA tB' : TT} {rest : List Expr}
def tAnd (t u : TT) : TT := fun σ H Q => t σ H fun c H1 => if c = true then u σ H1 Q else Q false H1
def tOr (t u : TT) : TT := fun σ H Q => t σ H fun c H1 => if c = true then Q true H1 else u σ H1 Q
def tNot (t : TT) : TT := fun σ H Q => t σ H fun c H1 => Q (!c) H1
theorem pw_and1 (ha : PT X a tA) : PW X (.BoolOp .And [a] pos) tA := by
  intro wh pins s σ H Q I h
  refine isTrue_and (thn (ha pins s σ H Q I h) fun c s1 e => ?_)
  cases c with
  | true => exact isTrue_and_nil e
  | false => exact e
theorem pw_or1 (ha : PT X a tA) : PW X (.BoolOp .Or [a] pos) tA := by
  intro wh pins s σ H Q I h
  refine isTrue_or (thn (ha pins s σ H Q I h) fun c s1 e => ?_)
  cases c with
  | false => exact isTrue_or_nil e
  | true => exact e
theorem pw_and (ha : PT X a tA) (hb : PW X (.BoolOp .And (b :: rest) pos) tB') : PW X (.BoolOp .And (a :: b :: rest) pos) (tAnd tA tB') := by
  intro wh pins s σ H Q I h
  refine isTrue_and (thn (ha pins s σ H _ I h) fun c s1 ⟨H1, I1, q1⟩ => ?_)
  cases c with
  | true => exact hb wh pins s1 σ H1 Q I1 q1
  | false => exact ⟨H1, I1, q1⟩
theorem pw_or (ha : PT X a tA) (hb : PW X (.BoolOp .Or (b :: rest) pos) tB') : PW X (.BoolOp .Or (a :: b :: rest) pos) (tOr tA tB') := by
  intro wh pins s σ H Q I h
  refine isTrue_or (thn (ha pins s σ H _ I h) fun c s1 ⟨H1, I1, q1⟩ => ?_)
  cases c with
  | true => exact ⟨H1, I1, q1⟩
  | false => exact hb wh pins s1 σ H1 Q I1 q1
theorem pt_not (ha : PT X a tA) : PT X (.UnaryOp .Not a pos) (tNot tA) := by
  intro pins s σ H Q I h
  exact isTrue_not (ha pins s σ H (fun c H1 => Q (!c) H1) I h)
/-- .. as values (bools) -/
def tAndV (ta tb : TE) : TE := fun σ H Q => ta σ H fun x H1 => ∃ c, x = .bl c ∧ if c = true then tb σ H1 Q else Q (.bl false) H1
def tNotV (ta : TE) : TE := fun σ H Q => ta σ H fun x H1 => ∃ c, x = .bl c ∧ Q (.bl (!c)) H1
theorem pe_one {op} {t : TE} (h : PE X a t) : PE X (.BoolOp op [a] pos) t := fun pins s σ H Q I hw => BoolOp_one (h pins s σ H Q I hw)
theorem pe_and (ha : PE X a ta) (hb : PE X (.BoolOp .And (b :: rest) pos) tb) : PE X (.BoolOp .And (a :: b :: rest) pos) (tAndV ta tb) := by
  intro pins s σ H Q I h
  refine BoolOp_and (thn (ha pins s σ H _ I h) fun v s1 ⟨x, H1, I1, r1, q1⟩ => ?_)
  obtain ⟨c, rfl, q1⟩ := q1
  cases r1
  refine wpAny_truthy_bool ?_
  cases c with
  | true => exact hb pins s1 σ H1 Q I1 q1
  | false => exact ⟨.bl false, H1, I1, rfl, q1⟩
theorem pe_not (ha : PE X a ta) : PE X (.UnaryOp .Not a pos) (tNotV ta) := by
  intro pins s σ H Q I h
  refine UnaryOp_ (thn (ha pins s σ H _ I h) fun v s1 ⟨x, H1, I1, r1, q1⟩ => ?_)
  obtain ⟨c, rfl, q1⟩ := q1
  cases r1
  exact not_of (wpAny_truthy_bool ⟨.bl (!c), H1, I1, rfl, q1⟩)
/-- a if t else b -/
def tIf (t : TT) (ta tb : TE) : TE := fun σ H Q => t σ H fun c H1 => if c = true then ta σ H1 Q else tb σ H1 Q
theorem pe_ifExp {c : Expr} (hc : PT X c tA) (ha : PE X a ta) (hb : PE X b tb) : PE X (.IfExp c a b pos) (tIf tA ta tb) := by
  intro pins s σ H Q I h
  refine wpAny_IfExp (thn (hc pins s σ H _ I h) fun d s1 ⟨H1, I1, q1⟩ => ?_)
  cases d with
  | true => exact ha pins s1 σ H1 Q I1 q1
  | false => exact hb pins s1 σ H1 Q I1 q1
end
end L2

namespace L2
open PySem PySem.Spec PyProof.Rows

/-! ### a list, a tuple that is read: tracked, frozen, or an object of the module -/
def SqL (K : PySem.W.Frag) (H : Hp) (a : Addr) (xs : List V) : Prop :=
  Rd H a (.lst xs) ∨
    ∃ (o : Obj) (its : Array Value) (n : Nat), K.lookup a = some o ∧ o.cls = .type "list" ∧ o.dict = none ∧ o.data = .seq its n ∧ its.size ≤ sizeLine ∧ Vals xs its.toList
def SqT (K : PySem.W.Frag) (H : Hp) (a : Addr) (xs : List V) : Prop :=
  Rd H a (.tup xs) ∨
    ∃ (o : Obj) (its : Array Value) (n : Nat), K.lookup a = some o ∧ o.cls = .type "tuple" ∧ o.data = .seq its n ∧ its.size ≤ sizeLine ∧ Vals xs its.toList
def absV : Value → Option V
  | .none => some .non
  | .bool b => some (.bl b)
  | .int i _ => some (.int i)
  | .str x _ => some (.str x)
  | .bytes b _ => some (.byt b)
  | .float b _ => some (.flt b)
  | .ref a => some (.ref a)
  | .type n => some (.ty n)
  | _ => none
theorem RelV.abs {x : V} {u : Value} (r : RelV x u) : absV u = some x := by
  cases x with
  | non => cases r; rfl
  | bl _ => cases r; rfl
  | int _ => obtain ⟨t, rfl⟩ := r; rfl
  | str _ => obtain ⟨t, rfl⟩ := r; rfl
  | byt _ => obtain ⟨t, rfl⟩ := r; rfl
  | flt _ => obtain ⟨t, rfl⟩ := r; rfl
  | ref _ => cases r; rfl
  | ty _ => cases r; rfl
theorem RelV.inj {x y : V} {u : Value} (r : RelV x u) (q : RelV y u) : x = y := Option.some.inj (r.abs.symm.trans q.abs)
theorem Vals.inj : ∀ {xs ys : List V} {us : List Value}, Vals xs us → Vals ys us → xs = ys
  | _, _, _, .nil, .nil => rfl
  | _, _, _, .cons r t, .cons r' t' => by rw [r.inj r', Vals.inj t t']
section
variable {X : Cx} {pins : List (Addr × Obj)} {σ : St} {H : Hp} {s : Shared} {a : Addr} {xs ys : List V}
theorem SqL.of {K : PySem.W.Frag} (h : H a = some (.lst xs)) : SqL K H a xs := .inl (.inl h)
theorem SqT.of {K : PySem.W.Frag} (h : H a = some (.tup xs)) : SqT K H a xs := .inl (.inl h)
theorem Inv.list (I : Inv X pins σ H s) (h : SqL X.K H a xs) : ∃ its : List Value, Vals xs its ∧ PlainL s.heap a its.toArray ∧ xs.length ≤ sizeLine := by
  rcases h with h | ⟨o, its, n, hk, hc, hd, hs, hz, r⟩
  · obtain ⟨z, its, n, r, e⟩ := h.ok I.hok
    exact ⟨its, r, ⟨_, n, e, rfl, rfl, rfl⟩, z⟩
  · refine ⟨its.toList, r, ⟨o, n, I.kIn a o hk, hc, hd, by simpa using hs⟩, ?_⟩
    have e := r.length
    simp only [Array.length_toList] at e
    omega
theorem Inv.tuple (I : Inv X pins σ H s) (h : SqT X.K H a xs) : ∃ its : List Value, Vals xs its ∧ IsTup s.heap a its.toArray ∧ xs.length ≤ sizeLine := by
  rcases h with h | ⟨o, its, n, hk, hc, hs, hz, r⟩
  · obtain ⟨z, its, r, p⟩ := h.ok I.hok
    exact ⟨its, r, p, z⟩
  · refine ⟨its.toList, r, ⟨o, I.kIn a o hk, hc, n, by simpa using hs⟩, ?_⟩
    have e := r.length
    simp only [Array.length_toList] at e
    omega
theorem Inv.list_inj (I : Inv X pins σ H s) (h : SqL X.K H a xs) (h' : SqL X.K H a ys) : xs = ys := by
  obtain ⟨its, r, ⟨o, n, e, _, _, d⟩, _⟩ := I.list h
  obtain ⟨its', r', ⟨o', n', e', _, _, d'⟩, _⟩ := I.list h'
  rw [e] at e'; cases e'
  rw [d] at d'
  injection d' with d1 _
  have : its = its' := by simpa using congrArg Array.toList d1
  subst this
  exact r.inj r'
theorem Inv.tuple_inj (I : Inv X pins σ H s) (h : SqT X.K H a xs) (h' : SqT X.K H a ys) : xs = ys := by
  obtain ⟨its, r, ⟨o, e, _, n, d⟩, _⟩ := I.tuple h
  obtain ⟨its', r', ⟨o', e', _, n', d'⟩, _⟩ := I.tuple h'
  rw [e] at e'; cases e'
  rw [d] at d'
  injection d' with d1 _
  have : its = its' := by simpa using congrArg Array.toList d1
  subst this
  exact r.inj r'
end

/-! ### another wish about exceptions -/
abbrev Cx.wish (X : Cx) (E : Value → Shared → Prop) : Cx := { X with xe := E }
/-- no exception leaves -/
abbrev Cx.nox (X : Cx) : Cx := X.wish fun _ _ => False
theorem Cx.Ok.wish {X : Cx} (ok : X.Ok) (E : Value → Shared → Prop) : (X.wish E).Ok :=
  ⟨ok.mod, ok.kind, ok.glob, ok.blt, ok.above, ok.inj, ok.has, ok.cab, ok.hd, ok.frames, ok.stk, ok.exf, ok.bs, ok.bsz, ok.noex, ok.exfs, ok.funs, ok.frf⟩
theorem Cx.Ok.unwish {X : Cx} {E : Value → Shared → Prop} (ok : (X.wish E).Ok) : X.Ok :=
  ⟨ok.mod, ok.kind, ok.glob, ok.blt, ok.above, ok.inj, ok.has, ok.cab, ok.hd, ok.frames, ok.stk, ok.exf, ok.bs, ok.bsz, ok.noex, ok.exfs, ok.funs, ok.frf⟩
section
variable {X : Cx} {pins : List (Addr × Obj)} {σ : St} {H : Hp} {s : Shared} {E : Value → Shared → Prop}
theorem Inv.wish (I : Inv X pins σ H s) (E : Value → Shared → Prop) : Inv (X.wish E) pins σ H s := ⟨I.ok.wish E, I.os, I.bare, I.base, I.loc, I.cell, I.free, I.freeC, I.pin, I.hok, I.len, I.tk⟩
theorem Inv.unwish (I : Inv (X.wish E) pins σ H s) : Inv X pins σ H s := ⟨I.ok.unwish, I.os, I.bare, I.base, I.loc, I.cell, I.free, I.freeC, I.pin, I.hok, I.len, I.tk⟩
theorem SP.unwish {D : Ends} {f : Flow} {s' : Shared} (h : SP (X.wish E) pins D f s') : SP X pins D f s' := by
  cases f with
  | next => obtain ⟨σ', H', I, q⟩ := h; exact ⟨σ', H', I.unwish, q⟩
  | brk => obtain ⟨σ', H', I, q⟩ := h; exact ⟨σ', H', I.unwish, q⟩
  | cont => obtain ⟨σ', H', I, q⟩ := h; exact ⟨σ', H', I.unwish, q⟩
  | ret u => obtain ⟨v, σ', H', I, r, q⟩ := h; exact ⟨v, σ', H', I.unwish, r, q⟩
theorem PSs.nox {st : List Stmt} {t : TS} (h : PSs X.nox st t) : PSs X st t := fun pins s σ H D I hw =>
  wpAny_mono (h pins s σ H D (I.wish _) hw) (fun _ _ q => q.unwish) fun _ _ z => False.elim z
end

/-! ### blocks and small statements -/
section
variable {X : Cx} {st : Stmt} {rest : List Stmt} {t u : TS} {e : Expr} {te : TE} {pos : Pos}
def tNext : TS := fun D σ H => D.nx σ H
def tSeq (t u : TS) : TS := fun D σ H => t { D with nx := u D } σ H
theorem pss_nil : PSs X [] tNext := fun _ _ σ H _ I h => wpAny_execs_nil ⟨σ, H, I, h⟩
theorem pss_cons (h1 : PS X st t) (h2 : PSs X rest u) : PSs X (st :: rest) (tSeq t u) := by
  intro pins s σ H D I h
  refine wpAny_execs_cons (thn (h1 pins s σ H { D with nx := u D } I h) fun f s1 q => ?_)
  cases f with
  | next =>
    obtain ⟨σ', H', I', q⟩ := q
    exact h2 pins s1 σ' H' D I' q
  | ret v => exact q
  | brk => exact q
  | cont => exact q
theorem pss_one (h1 : PS X st t) : PSs X [st] t := by
  intro pins s σ H D I h
  refine wpAny_execs_cons (thn (h1 pins s σ H D I h) fun f s1 q => ?_)
  cases f with
  | next => exact wpAny_execs_nil q
  | ret v => exact q
  | brk => exact q
  | cont => exact q
/-- in a def's body nothing is shown -/
theorem Inv.quiet {pins : List (Addr × Obj)} {σ : St} {H : Hp} {s : Shared} (I : Inv X pins σ H s) : interactive X.env = false := by simp [interactive, I.ok.kind]
/-- an expression whose value is dropped -/
def tDrop (te : TE) : TS := fun D σ H => te σ H fun _ H1 => D.nx σ H1
theorem ps_expr (he : PE X e te) (hs : swapsWith e none pos.line X.env = pure false := by rfl) : PS X (.Expr e pos) (tDrop te) := by
  intro pins s σ H D I h
  exact wpAny_Expr_any (thn (he pins s σ H _ I h) fun v s1 ⟨x, H1, I1, r1, q1⟩ => ⟨σ, H1, I1, q1⟩) I.quiet hs
def tRet (te : TE) : TS := fun D σ H => te σ H D.rt
theorem ps_ret (he : PE X e te) : PS X (.Return (some e) pos) (tRet te) := by
  intro pins s σ H D I h
  exact wpAny_Return_some (thn (he pins s σ H _ I h) fun v s1 ⟨x, H1, I1, r1, q1⟩ => ⟨x, σ, H1, I1, r1, q1⟩)
def tIfS (c : TT) (t u : TS) : TS := fun D σ H => c σ H fun b H1 => if b = true then t D σ H1 else u D σ H1
theorem ps_if {c : Expr} {a b : List Stmt} {tc : TT} (hc : PT X c tc) (ha : PSs X a t) (hb : PSs X b u) : PS X (.If c a b pos) (tIfS tc t u) := by
  intro pins s σ H D I h
  refine wpAny_If (thn (hc pins s σ H _ I h) fun d s1 ⟨H1, I1, q1⟩ => ?_)
  cases d with
  | true => exact ha pins s1 σ H1 D I1 q1
  | false => exact hb pins s1 σ H1 D I1 q1
end

/-! ### targets -/
abbrev TG := V → St → Hp → (St → Hp → Prop) → Prop
def PG (X : Cx) (target : Expr) (t : TG) : Prop :=
  ∀ (pins : List (Addr × Obj)) (s : Shared) (σ : St) (H : Hp) (v : V) (u : Value) (Q : St → Hp → Prop), Inv X pins σ H s → RelV v u → t v σ H Q →
    wpAny (model X.prog X.w) X.A (assign target X.env u) (fun _ s' => ∃ σ' H', Inv X pins σ' H' s' ∧ Q σ' H') X.xe s
/-- o[i] = v, by values -/
abbrev TSet := V → V → V → Hp → (Hp → Prop) → Prop
def PSet (X : Cx) (t : TSet) : Prop :=
  ∀ (pins : List (Addr × Obj)) (s : Shared) (σ : St) (H : Hp) (o i v : V) (ov iv u : Value) (Q : Hp → Prop), Inv X pins σ H s → RelV o ov → RelV i iv → RelV v u → t o i v H Q →
    wpAny (model X.prog X.w) X.A (setItem ov iv u) (fun _ s' => ∃ H', Inv X pins σ H' s' ∧ Q H') X.xe s
section
variable {X : Cx} {pos : Pos}
def gName (i : Nat) : TG := fun v σ H Q => Q (σ.set i (some v)) H
theorem pg_name {i : Nat} {x : Str} (hN : X.N.Nodup) (hi : X.N[i]? = some x) (hx : Loc X.env.scope x) (hf : X.fn x = true ∨ X.env.scope.names.lookup x = some .local := by first | exact .inl rfl | exact .inr rfl | assumption) : PG X (.Name x pos) (gName i) := by
  intro pins s σ H v u Q I r h
  exact wpAny_assign_Name (store_ok I hN hi hx r (fun s' I' => ⟨_, H, I', h⟩) hf)
/-- o[i] = .. -/
def gSub (to ti : TE) (t : TSet) : TG := fun v σ H Q => to σ H fun o H1 => ti σ H1 fun i H2 => t o i v H2 fun H3 => Q σ H3
theorem pg_sub {o i : Expr} {to ti : TE} {t : TSet} (ho : PE X o to) (hi : PE X i ti) (hs : PSet X t)
    (ha : ∀ v, assign (.Subscript o i pos) X.env v = (do
      let ov ← holding [v] (eval o X.env)
      let iv ← holding [v, ov] (eval i X.env)
      standAt pos
      holding [v, ov, iv] (setItem ov iv v)
      release [v, ov, iv] []) := by intro _; rfl) : PG X (.Subscript o i pos) (gSub to ti t) := by
  intro pins s σ H v u Q I r h
  rw [ha]
  refine wpAny_bind (wpAny_holding (thn (ho pins s σ H _ I h) fun ov s1 ⟨x, H1, I1, r1, q1⟩ => ?_))
  refine wpAny_bind (wpAny_holding (thn (hi pins s1 σ H1 _ I1 q1) fun iv s2 ⟨y, H2, I2, r2, q2⟩ => ?_))
  refine wpAny_bind (wpAny_standAt (wpAny_bind (wpAny_holding (thn (hs pins s2 σ H2 x y v ov iv u _ I2 r1 r2 r q2) fun _ s3 ⟨H3, I3, q3⟩ => ?_))))
  exact wpAny_release ⟨σ, H3, I3, q3⟩
/-- target = value -/
def tAsg (te : TE) (g : TG) : TS := fun D σ H => te σ H fun x H1 => g x σ H1 D.nx
theorem ps_asg {tg e : Expr} {te : TE} {g : TG} (he : PE X e te) (hg : PG X tg g) (hs : swapsWithSole [tg] e pos.line X.env = pure false := by rfl) (hw : swappedStores [tg] e X.env = pure none := by rfl)
    (h1 : (assignEach [tg] X.env).map (·.2) = [assign tg X.env] := by rfl) : PS X (.Assign [tg] e pos) (tAsg te g) := by
  intro pins s σ H D I h
  refine wpAny_Assign_stores (thn (he pins s σ H _ I h) fun v s1 ⟨x, H1, I1, r1, q1⟩ => ?_) hs hw
  rw [h1]
  exact thn (hg pins s1 σ H1 x v _ I1 r1 q1) fun _ s2 q => q
/-- name = value -/
theorem ps_set {i : Nat} {x : Str} {e : Expr} {te : TE} {pos' : Pos} (hN : X.N.Nodup) (hi : X.N[i]? = some x) (hx : Loc X.env.scope x) (he : PE X e te) (hs : swapsWith e (some (.Name x pos')) pos.line X.env = pure false := by rfl) (hf : X.fn x = true ∨ X.env.scope.names.lookup x = some .local := by first | exact .inl rfl | exact .inr rfl | assumption) :
    PS X (.Assign [.Name x pos'] e pos) (tAsg te (gName i)) := by
  intro pins s σ H D I h
  refine wpAny_Assign_Name (thn (he pins s σ H _ I h) fun v s1 ⟨y, H1, I1, r1, q1⟩ => ?_) hs
  exact store_ok I1 hN hi hx r1 (fun s2 I2 => ⟨_, H1, I2, q1⟩) hf
end

/-! ### while -/
section
variable {X : Cx} {pos : Pos}
/-- the invariant W with its measure -/
def tWhile (c : TT) (tb : TS) : TS := fun D σ H => ∃ W : Nat → St → Hp → Prop, (∃ m, W m σ H) ∧ ∀ m σ H, W m σ H →
  c σ H fun b H1 => if b = true then ∃ N : St → Hp → Prop, (∀ σ' H', N σ' H' → ∃ m', m' < m ∧ W m' σ' H') ∧ tb { D with nx := N, ct := N, bk := D.nx } σ H1 else D.nx σ H1
theorem ps_while {c : Expr} {body : List Stmt} {tc : TT} {tb : TS} (hp : PassesOwn (model X.prog X.w) X.A X.env X.xe) (hc : PT X c tc) (hb : PSs X body tb) : PS X (.While c body [] pos) (tWhile tc tb) := by
  intro pins s σ H D I h
  obtain ⟨W, ⟨m0, w0⟩, turn⟩ := h
  refine wpAny_While (codeAny_whileLoop (fun n s' => ∃ σ' H', Inv X pins σ' H' s' ∧ W n σ' H') ?_ m0 ⟨σ, H, I, w0⟩)
  rintro n s1 ⟨σ1, H1, I1, w1⟩
  refine wpAny_passesOwn hp (thn (hc pins s1 σ1 H1 _ I1 (turn n σ1 H1 w1)) fun b s2 ⟨H2, I2, q2⟩ => ?_)
  cases b with
  | true =>
    obtain ⟨N, hN, q2⟩ := q2
    rw [if_pos rfl]
    refine wpAny_passesOwn hp (thn (hb pins s2 σ1 H2 _ I2 q2) fun f s3 q3 => ?_)
    cases f with
    | next =>
      obtain ⟨σ3, H3, I3, n3⟩ := q3
      obtain ⟨m', hm, w3⟩ := hN σ3 H3 n3
      exact ⟨m', hm, σ3, H3, I3, w3⟩
    | cont =>
      obtain ⟨σ3, H3, I3, n3⟩ := q3
      obtain ⟨m', hm, w3⟩ := hN σ3 H3 n3
      exact ⟨m', hm, σ3, H3, I3, w3⟩
    | brk => exact q3
    | ret v => exact q3
  | false =>
    rw [if_neg Bool.false_ne_true]
    exact wpAny_execs_nil ⟨σ1, H2, I2, q2⟩
end

/-! ### what a loop or a comprehension walks -/
/-- at turn i: it yields x (the heap may grow), or it stops -/
structure It where
  go : Nat → Hp → Prop
  yld : Nat → Hp → V → Hp → Prop
  stop : Nat → Hp → Prop
/-- the iterator's own objects may turn: they are not the frame's, not pinned, younger than the entry (or a comprehension's own) -/
def FpOk (X : Cx) (pins : List (Addr × Obj)) (H : Hp) (b : Addr) : Prop :=
  H b = none ∧ b ≠ X.env.locals ∧ b ∉ X.fs ∧ (b ∈ X.ex ∨ X.s₀.heap.objs.size ≤ b) ∧ (∀ x c, X.env.cells.lookup x = some c → c ≠ b) ∧ ∀ p ∈ X.pn ++ pins, p.1 ≠ b
theorem Inv.fpOk {X : Cx} {pins : List (Addr × Obj)} {σ : St} {H H' : Hp} {s : Shared} {b : Addr} (I : Inv X pins σ H s) (hb : s.heap.objs.size ≤ b) (hn : H' b = none) : FpOk X pins H' b := by
  refine ⟨hn, Nat.ne_of_gt (Nat.lt_of_lt_of_le I.lt hb), I.nofs hb, .inr (Nat.le_trans I.sz hb), fun x c e z => ?_, fun p hp z => ?_⟩
  · obtain ⟨v, q⟩ := I.cell x c e
    exact absurd (Nat.lt_of_lt_of_le q.lt (by rw [z]; exact hb)) (Nat.lt_irrefl _)
  · exact absurd (Nat.lt_of_lt_of_le (Heap.lt_size (I.pin p hp).1) (by rw [z]; exact hb)) (Nat.lt_irrefl _)
structure Turn (P : Program) (w : World) (K : PySem.W.Frag) (tg : Expr) (J : It) (fp : List Addr) (it : Addr) (tn : Nat → Heap → Prop) : Prop where
  mem : it ∈ fp
  obj : ∀ i h, tn i h → ∀ b ∈ fp, ∃ o, h.get? b = some o ∧ ∀ v, o.data ≠ .cell v
  keep : ∀ i h h', tn i h → (∀ b ∈ fp, ∀ o, h.get? b = some o → h'.get? b = some o) → tn i h'
  item : ∀ (X : Cx), X.prog = P → X.w = w → X.K = K → X.calm = true → ∀ (i : Nat) (pins : List (Addr × Obj)) (s : Shared) (σ : St) (H : Hp) (E : Value → Shared → Prop), Inv X pins σ H s → (∀ b ∈ fp, FpOk X pins H b) → tn i s.heap → J.go i H →
    wpAny (model P w) X.A (pyNext (.ref it)) (fun r s1 => ∃ u, r = some u ∧
      wpAny (model P w) X.A (letOwnedTupleGo tg (.ref it) u) (fun _ s2 => ∃ x H', Inv X pins σ H' s2 ∧ RelV x u ∧ J.yld i H x H' ∧ tn (i + 1) s2.heap ∧ ∀ b ∈ fp, H' b = none) E s1) E s
  done : ∀ (X : Cx), X.prog = P → X.w = w → X.K = K → X.calm = true → ∀ (i : Nat) (pins : List (Addr × Obj)) (s : Shared) (σ : St) (H : Hp) (E : Value → Shared → Prop), Inv X pins σ H s → (∀ b ∈ fp, FpOk X pins H b) → tn i s.heap → J.stop i H →
    wpAny (model P w) X.A (pyNext (.ref it)) (fun r s1 => r = none ∧ Inv X pins σ H s1) E s
  self : ∀ (A : Around) (i : Nat) (s : Shared) (Q : Value → Shared → Prop) (E : Value → Shared → Prop), tn i s.heap → Q (.ref it) s → wpAny (model P w) A (pyIter (.ref it)) Q E s
abbrev TI := St → Hp → (It → Hp → Prop) → Prop
/-- an iterator has come -/
def PIE (X : Cx) (pins : List (Addr × Obj)) (σ : St) (tg : Expr) (R : It → Hp → Prop) (itv : Value) (s2 : Shared) : Prop :=
  ∃ (it : Addr) (fp : List Addr) (tn : Nat → Heap → Prop) (J : It) (H' : Hp), itv = .ref it ∧ Inv X pins σ H' s2 ∧ Turn X.prog X.w X.K tg J fp it tn ∧ tn 0 s2.heap ∧ (∀ b ∈ fp, FpOk X pins H' b) ∧ R J H'
def PI (X : Cx) (tg iter : Expr) (wi : TI) : Prop :=
  ∀ (pins : List (Addr × Obj)) (s : Shared) (σ : St) (H : Hp) (R : It → Hp → Prop), Inv X pins σ H s → wi σ H R →
    wpAny (model X.prog X.w) X.A (eval iter X.env) (fun v s1 => wpAny (model X.prog X.w) X.A (pyIter v) (PIE X pins σ tg R) X.xe s1) X.xe s

/-- the step ahead of the store is nothing for an iterator that keeps no tuple -/
theorem go_of {M : Model} {A : Around} {E : Value → Shared → Prop} {s : Shared} {tg : Expr} {it : Addr} {u : Value} {o : Obj} {n : String} {vs : Array Value} {Q : Unit → Shared → Prop} (ho : s.heap.get? it = some o) (hc : o.cls = .type n) (hd : o.data = .fields vs)
    (hn : ["enumerate", "zip", "dict_itemiterator", "dict_reverseitemiterator", "odict_iterator", "itertools.zip_longest", "itertools.pairwise"].contains n = false) (hQ : Q () s) : wpAny M A (letOwnedTupleGo tg (.ref it) u) Q E s := by
  unfold letOwnedTupleGo
  cases tg <;> first
    | exact wpAny_pure hQ
    | (cases u <;> first
        | exact wpAny_pure hQ
        | (refine wpAny_bind (wpAny_load ho ?_)
           rw [hc, hd]
           show wpAny M A (if (["enumerate", "zip", "dict_itemiterator", "dict_reverseitemiterator", "odict_iterator", "itertools.zip_longest", "itertools.pairwise"].contains n && vs[0]? == some (rawInt _)) = true then _ else _) Q E s
           rw [if_neg (by intro h; rw [hn, Bool.false_and] at h; cases h)]
           exact wpAny_pure hQ))

/-- the list at a, as it stands at each turn (a loop may append to it) -/
def Itl (K : PySem.W.Frag) (a : Addr) : It :=
  ⟨fun i H => ∃ xs x, SqL K H a xs ∧ xs[i]? = some x, fun i H x H' => H' = H ∧ ∀ xs, SqL K H a xs → xs[i]? = some x, fun i H => ∃ xs, SqL K H a xs ∧ xs.length ≤ i⟩
/-- lo, lo + 1, .. (n of them) -/
def Itr (lo : Int) (n : Nat) : It := ⟨fun i _ => i < n, fun i H x H' => H' = H ∧ x = .int (lo + i), fun i _ => n ≤ i⟩
theorem turn_list {P : Program} {w : World} {K : PySem.W.Frag} {tg : Expr} (a it : Addr) : Turn P w K tg (Itl K a) [it] it (fun i h => h.IsListIter it a i) where
  mem := by simp
  obj := fun i h st b hb => by
    have e : b = it := by simpa using hb
    subst e
    obtain ⟨o, e, c, d⟩ := st
    exact ⟨o, e, fun v z => by rw [d] at z; cases z⟩
  keep := fun i h h' st k => st.at fun o e => k it (by simp) o e
  item := by
    intro X hP hw hK hc i pins s σ H E I hf st hg
    subst hP hw hK
    obtain ⟨xs, x, hq, hx⟩ := hg
    obtain ⟨its, rv, p, hz⟩ := I.list hq
    obtain ⟨u, hu, ru⟩ := rv.get hx
    obtain ⟨f0, f1, f2, f3, f4, f5⟩ := hf it (by simp)
    refine wpAny_pyNext_list_item st p.isList (x := u) (by simpa using hu) fun h' st' sb => ?_
    have I1 : Inv X pins σ H { s with heap := h' } := I.turned (t' := s.toks) (fun b o hb e => (sb.2 b hb).trans e) f0 f1 f3 f4 f5
    obtain ⟨o, e, c, d⟩ := id st'
    exact ⟨u, rfl, go_of (s := { s with heap := h' }) e c d (by decide) ⟨x, H, I1, ru, ⟨rfl, fun ys hy => by rw [I.list_inj hy hq]; exact hx⟩, st', fun b hb => (hf b hb).1⟩⟩
  done := by
    intro X hP hw hK hc i pins s σ H E I hf st hg
    subst hP hw hK
    obtain ⟨xs, hq, hx⟩ := hg
    obtain ⟨its, rv, p, hz⟩ := I.list hq
    obtain ⟨f0, f1, f2, f3, f4, f5⟩ := hf it (by simp)
    have hl := rv.length
    exact wpAny_pyNext_list_end (I.ok.hd hc) st p.isList (by simp; omega) fun h' eb => ⟨rfl, I.turned (t' := s.toks) (fun b o hb e => eb b o hb e) f0 f1 f3 f4 f5⟩
  self := fun _ _ _ _ _ st h => wpAny_pyIter_listiter st h
theorem turn_range {P : Program} {w : World} {K : PySem.W.Frag} {tg : Expr} (it : Addr) (lo : Int) (n : Nat) : Turn P w K tg (Itr lo n) [it] it (fun i h => IsRangeIter h it (lo + (i : Nat) * 1) ((n : Int) - (i : Nat)) 1) where
  mem := by simp
  obj := fun i h st b hb => by
    have e : b = it := by simpa using hb
    subst e
    exact ⟨_, st, fun v z => by
      have z' : Data.fields _ = Data.cell v := z
      cases z'⟩
  keep := fun i h h' st k => k it (by simp) _ st
  item := by
    intro X hP hw hK hc i pins s σ H E I hf st hg
    subst hP hw hK
    obtain ⟨f0, f1, f2, f3, f4, f5⟩ := hf it (by simp)
    have W := Walks.range (prog := X.prog) (w := X.w) (I.ok.hd hc) it lo 1 n
    refine wpAny_pos I.tk (W.item i s _ _ hg st fun v h' tk hv st' kk ht => ?_)
    obtain ⟨t, rfl⟩ := hv
    have I1 : Inv X pins σ H { s with heap := h', toks := tk } := I.turned (fun b o hb e => kk b o (by simpa using hb) e) f0 f1 f3 f4 f5
    refine ⟨_, rfl, go_of (s := { s with heap := h', toks := tk }) (n := "range_iterator") st' rfl rfl (by decide) ⟨.int (lo + i), H, I1, ⟨t, ?_⟩, ⟨rfl, rfl⟩, st', fun b hb => (hf b hb).1⟩⟩
    rw [Int.mul_one]
  done := by
    intro X hP hw hK hc i pins s σ H E I hf st hg
    subst hP hw hK
    obtain ⟨f0, f1, f2, f3, f4, f5⟩ := hf it (by simp)
    exact wpAny_pyNext_range_end (I.ok.hd hc) st (by have : n ≤ i := hg; omega) fun h' eb => ⟨rfl, I.turned (t' := s.toks) (fun b o hb e => eb b o hb e) f0 f1 f3 f4 f5⟩
  self := fun _ _ _ _ _ st h => wpAny_pyIter_rangeiter st h
end L2

namespace L2
open PySem PySem.Spec PyProof.Rows
section
variable {X : Cx} {tg : Expr}
def iList (K : PySem.W.Frag) (tl : TE) : TI := fun σ H R => tl σ H fun x H1 => ∃ a, x = .ref a ∧ (∃ xs, SqL K H1 a xs) ∧ R (Itl K a) H1
theorem pi_list {l : Expr} {tl : TE} (hl : PE X l tl) : PI X tg l (iList X.K tl) := by
  intro pins s σ H R I h
  refine thn (hl pins s σ H _ I h) fun v s1 ⟨x, H1, I1, r1, q1⟩ => ?_
  obtain ⟨a, e, ⟨xs, hq⟩, q⟩ := q1
  subst e
  cases r1
  obtain ⟨its, rv, p, hz⟩ := I1.list hq
  refine wpAny_pyIter_list p.isList ?_
  refine ⟨s1.heap.objs.size, [s1.heap.objs.size], _, _, H1, rfl, I1.kept (t' := s1.toks) fun b o e => Heap.get?_push_of_some _ e, turn_list a _, ⟨_, Heap.get?_push_size _ rfl, rfl, rfl⟩, fun b hb => ?_, q⟩
  have e : b = s1.heap.objs.size := by simpa using hb
  subst e
  exact I1.fpOk (Nat.le_refl _) (I1.hok.fresh (Nat.le_refl _))
/-- a range object just made, walked -/
theorem range_it {pins : List (Addr × Obj)} {σ : St} {H : Hp} {s : Shared} {R : It → Hp → Prop} {E : Value → Shared → Prop} {lo hi : Int} {t u v : Tok} {tk : Nat} (I : Inv X pins σ H s) (h1 : -(2 ^ 62) ≤ lo) (h2 : lo < 2 ^ 62) (h3 : -(2 ^ 62) ≤ hi) (h4 : hi < 2 ^ 62)
    (q : R (Itr lo (hi - lo).toNat) H) (ht : 0 < tk := by (first | assumption | exact Nat.succ_pos _ | exact Inv.tk (by assumption) | exact Nat.lt_of_lt_of_le (Inv.tk (by assumption)) (Nat.le_add_right _ _) | exact Nat.lt_of_lt_of_le (Inv.tk (by assumption)) (by assumption))) : wpAny (model X.prog X.w) X.A (pyIter (.ref s.heap.objs.size)) (PIE X pins σ tg R) E { s with heap := s.heap.push { cls := .type "range", data := .fields #[.int lo t, .int hi u, .int 1 v] }, toks := tk } := by
  refine wpAny_pyIter_range (IsRange.new ..) (small_one h1 h2 h3 h4) ?_
  have I1 : Inv X pins σ H { s with heap := s.heap.push { cls := .type "range", data := .fields #[.int lo t, .int hi u, .int 1 v] }, toks := tk } := I.kept fun b o e => Heap.get?_push_of_some _ e
  refine ⟨(s.heap.push { cls := .type "range", data := .fields #[.int lo t, .int hi u, .int 1 v] }).objs.size, [(s.heap.push { cls := .type "range", data := .fields #[.int lo t, .int hi u, .int 1 v] }).objs.size], _, _, H, rfl,
    I1.kept (t' := tk) fun b o e => Heap.get?_push_of_some _ e, turn_range _ lo (hi - lo).toNat, ?_, fun b hb => ?_, q⟩
  · have e1 : lo + ((0 : Nat) : Int) * 1 = lo := by simp
    have e2 : (((hi - lo).toNat : Nat) : Int) - ((0 : Nat) : Int) = Builtin.Range.rangeSize lo hi 1 := by rw [rangeSize_one]; split <;> omega
    show IsRangeIter _ _ (lo + ((0 : Nat) : Int) * 1) ((((hi - lo).toNat : Nat) : Int) - ((0 : Nat) : Int)) 1
    rw [e1, e2]
    exact Heap.get?_push_size _ rfl
  · have e : b = (s.heap.push { cls := .type "range", data := .fields #[.int lo t, .int hi u, .int 1 v] }).objs.size := by simpa using hb
    subst e
    exact I1.fpOk (Nat.le_refl _) (I1.hok.fresh (Nat.le_refl _))
def iRng1 (ta : TA) : TI := fun σ H R => ta σ H fun vs H1 => ∃ j : Int, vs = [.int j] ∧ -(2 ^ 62) ≤ j ∧ j < 2 ^ 62 ∧ R (Itr 0 j.toNat) H1
theorem pi_range1 {a : Expr} {ta : TA} {p pos : Pos} (hg : Gl X "range") (hm : X.mg "range" = none) (ha : PA X [a] ta) (hs : starEach [a] X.env = [(false, eval a X.env)] := by rfl) : PI X tg (.Call (.Name "range" p) [a] [] pos) (iRng1 ta) := by
  intro pins s σ H R I h
  refine Call_ (ld_blt I hg hm boot_range (PyProof.Rows.callWith_type1 (thn (ha pos pins s σ H _ I h) fun us s1 ⟨vs, H1, I1, r1, q1⟩ => ?_) hs rfl))
  obtain ⟨j, e, q1, q2, q⟩ := q1
  subst e
  cases r1 with
  | cons r rr =>
    cases rr
    obtain ⟨t, rfl⟩ := r
    exact call_range_1 (range_it I1 (by omega) (by omega) q1 q2 (by simpa using q))

/-! ### for -/
/-- W: the invariant by the turn and a measure; N: what the body is to reach -/
def tFor (wi : TI) (g : TG) (tb : TS) : TS := fun D σ H => wi σ H fun J H1 => ∃ W : Nat → Nat → St → Hp → Prop, (∃ m, W 0 m σ H1) ∧ ∀ i m σ H, W i m σ H →
  (J.stop i H ∧ D.nx σ H) ∨ (J.go i H ∧ ∃ N : St → Hp → Prop, (∀ σ' H', N σ' H' → ∃ m', m' < m ∧ W (i + 1) m' σ' H') ∧ ∀ x H', J.yld i H x H' → g x σ H' fun σ2 H2 => tb { D with nx := N, ct := N, bk := D.nx } σ2 H2)
/-- the records at fp as they stand -/
def pinsAt (fp : List Addr) (h : Heap) : List (Addr × Obj) := fp.filterMap fun b => (h.get? b).map fun o => (b, o)
theorem mem_pinsAt {fp : List Addr} {h : Heap} {b : Addr} {o : Obj} (hb : b ∈ fp) (e : h.get? b = some o) : (b, o) ∈ pinsAt fp h := List.mem_filterMap.mpr ⟨b, hb, by rw [e]; rfl⟩
theorem of_pinsAt {fp : List Addr} {h : Heap} {p : Addr × Obj} (hp : p ∈ pinsAt fp h) : p.1 ∈ fp ∧ h.get? p.1 = some p.2 := by
  obtain ⟨b, hb, e⟩ := List.mem_filterMap.mp hp
  cases q : h.get? b with
  | none => rw [q] at e; cases e
  | some o =>
    rw [q] at e
    have e' : (b, o) = p := Option.some.inj e
    subst e'
    exact ⟨hb, q⟩
theorem Inv.pinned {pins : List (Addr × Obj)} {σ : St} {H : Hp} {s : Shared} {fp : List Addr} (I : Inv X pins σ H s) (hf : ∀ b ∈ fp, FpOk X pins H b) (ho : ∀ b ∈ fp, ∃ o, s.heap.get? b = some o ∧ ∀ v, o.data ≠ .cell v) : Inv X (pins ++ pinsAt fp s.heap) σ H s :=
  I.pins_of fun p hp => (List.mem_append.mp hp).elim (fun z => I.pin p (List.mem_append_right _ z)) fun z => by
    obtain ⟨hb, e⟩ := of_pinsAt z
    obtain ⟨f0, f1, f2, _⟩ := hf p.1 hb
    obtain ⟨o, e', d⟩ := ho p.1 hb
    rw [e] at e'; cases e'
    exact ⟨e, f0, f1, f2, d⟩
theorem Inv.unpinned {pins pl : List (Addr × Obj)} {σ : St} {H : Hp} {s : Shared} (I : Inv X (pins ++ pl) σ H s) : Inv X pins σ H s := I.pins_of fun p hp => I.pin p (List.mem_append_right _ (List.mem_append_left _ hp))
theorem ps_for {iter : Expr} {body : List Stmt} {wi : TI} {g : TG} {tb : TS} {pos : Pos} (hp : PassesOwn (model X.prog X.w) X.A X.env X.xe) (hc : X.calm = true) (hi : PI X tg iter wi) (hg : PG X tg g) (hb : PSs X body tb)
    (hs : ∀ x, foldedSetIterable iter X.env x = pure x := by intro _; rfl) : PS X (.For tg iter body [] pos) (tFor wi g tb) := by
  intro pins s σ H D I h
  refine wpAny_For (thn (hi pins s σ H _ I h) fun v s1 h1 => thn h1 fun itv s2 h2 => ?_) hs
  obtain ⟨it, fp, tn, J, H2, e, I2, T, st2, f2, W, ⟨m0, w0⟩, turn⟩ := h2
  subst e
  -- what stays true of the iterator's objects through the loop
  have stat : ∀ {H' : Hp}, (∀ b ∈ fp, H' b = none) → ∀ b ∈ fp, FpOk X pins H' b := fun hn b hb => ⟨hn b hb, (f2 b hb).2⟩
  refine codeAny_forLoop_any (fun n s' => ∃ i σ' H', Inv X pins σ' H' s' ∧ tn i s'.heap ∧ (∀ b ∈ fp, H' b = none) ∧ W i n σ' H') ?_ m0 ⟨0, σ, H2, I2, st2, fun b hb => (f2 b hb).1, w0⟩
  rintro n s3 ⟨i, σ3, H3, I3, st3, fr3, w3⟩
  rcases turn i n σ3 H3 w3 with ⟨stop, qn⟩ | ⟨go, N, hN, step⟩
  · refine wpAny_passesOwn hp (thn (T.done X rfl rfl rfl hc i pins s3 σ3 H3 X.xe I3 (stat fr3) st3 stop) fun r s4 ⟨hr, I4⟩ => ?_)
    subst hr
    exact wpAny_execs_nil ⟨σ3, H3, I4, qn⟩
  · refine wpAny_passesOwn hp (thn (T.item X rfl rfl rfl hc i pins s3 σ3 H3 X.xe I3 (stat fr3) st3 go) fun r s4 ⟨u, hr, h4⟩ => ?_)
    subst hr
    refine wpAny_passesOwn hp (thn h4 fun _ s5 ⟨x, H5, I5, r5, y5, st5, fr5⟩ => ?_)
    have I5' := I5.pinned (stat fr5) (T.obj _ _ st5)
    refine wpAny_passesOwn hp (thn (hg _ s5 σ3 H5 x u _ I5' r5 (step x H5 y5)) fun _ s6 ⟨σ6, H6, I6, q6⟩ => ?_)
    refine wpAny_passesOwn hp (thn (hb _ s6 σ6 H6 _ I6 q6) fun f s7 q7 => ?_)
    have again : ∀ {σ7 : St} {H7 : Hp}, Inv X (pins ++ pinsAt fp s5.heap) σ7 H7 s7 → N σ7 H7 → ∃ m, m < n ∧ ∃ i σ' H', Inv X pins σ' H' s7 ∧ tn i s7.heap ∧ (∀ b ∈ fp, H' b = none) ∧ W i m σ' H' := fun {σ7 H7} I7 n7 => by
      obtain ⟨m', hm, w7⟩ := hN σ7 H7 n7
      refine ⟨m', hm, i + 1, σ7, H7, I7.unpinned, T.keep _ _ _ st5 fun b hb o e => (I7.pin (b, o) (List.mem_append_right _ (List.mem_append_right _ (mem_pinsAt hb e)))).1, fun b hb => ?_, w7⟩
      obtain ⟨o, e, d⟩ := T.obj _ _ st5 b hb
      exact (I7.pin (b, o) (List.mem_append_right _ (List.mem_append_right _ (mem_pinsAt hb e)))).2.1
    cases f with
    | next => obtain ⟨σ7, H7, I7, n7⟩ := q7; exact again I7 n7
    | cont => obtain ⟨σ7, H7, I7, n7⟩ := q7; exact again I7 n7
    | brk => obtain ⟨σ7, H7, I7, q7⟩ := q7; exact ⟨σ7, H7, I7.unpinned, q7⟩
    | ret v => obtain ⟨x7, σ7, H7, I7, r7, q7⟩ := q7; exact ⟨x7, σ7, H7, I7.unpinned, r7, q7⟩
end

/-! ### the forms one uses -/
end L2

namespace L2
open PySem PySem.Spec PyProof.Rows

abbrev R2 := V → V → Hp → VK → Prop
/-- a two-place operation on values: f is binaryOp op, inplaceOp op or compareOp op -/
def OpR (X : Cx) (f : Value → Value → Sem Value) (r : R2) : Prop :=
  ∀ (pins : List (Addr × Obj)) (s : Shared) (σ : St) (H : Hp) (x y : V) (v u : Value) (Q : VK), Inv X pins σ H s → RelV x v → RelV y u → r x y H Q →
    wpAny (model X.prog X.w) X.A (f v u) (EP X pins σ Q) X.xe s
/-- a one-place operation -/
def UnR (X : Cx) (f : Value → Sem Value) (r : V → Hp → VK → Prop) : Prop :=
  ∀ (pins : List (Addr × Obj)) (s : Shared) (σ : St) (H : Hp) (x : V) (v : Value) (Q : VK), Inv X pins σ H s → RelV x v → r x H Q →
    wpAny (model X.prog X.w) X.A (f v) (EP X pins σ Q) X.xe s
/-- a call of a value that is known (a builtin, a type) with values -/
def CallR (X : Cx) (f : Value) (r : List V → Hp → VK → Prop) : Prop :=
  ∀ (pins : List (Addr × Obj)) (s : Shared) (σ : St) (H : Hp) (xs : List V) (us : List Value) (Q : VK), Inv X pins σ H s → Vals xs us → r xs H Q →
    wpAny (model X.prog X.w) X.A (call f us) (EP X pins σ Q) X.xe s

def tOp (r : R2) (ta tb : TE) : TE := fun σ H Q => ta σ H fun x H1 => tb σ H1 fun y H2 => r x y H2 Q
def tUn (r : V → Hp → VK → Prop) (ta : TE) : TE := fun σ H Q => ta σ H fun x H1 => r x H1 Q
/-- ints in, under C, and a value out -/
def rI (C : Int → Int → Prop) (g : Int → Int → V) : R2 := fun x y H Q => ∃ i j, x = .int i ∧ y = .int j ∧ C i j ∧ Q (g i j) H
def rI0 (g : Int → Int → V) : R2 := fun x y H Q => ∃ i j, x = .int i ∧ y = .int j ∧ Q (g i j) H
def rU (g : Int → V) : V → Hp → VK → Prop := fun x H Q => ∃ i, x = .int i ∧ Q (g i) H

section
variable {X : Cx} {a b c : Expr} {ta tb tc : TE} {pos : Pos}

theorem binT (ha : PE X a ta) (hb : PE X b tb) {pins : List (Addr × Obj)} {s : Shared} {σ : St} {H : Hp} {R : V → V → Hp → Prop} (I : Inv X pins σ H s)
    (h : ta σ H fun x H1 => tb σ H1 fun y H2 => R x y H2) {Q : Value → Shared → Prop} {f : Value → Value → Sem Value}
    (hf : ∀ v u s2 x y H2, Inv X pins σ H2 s2 → RelV x v → RelV y u → R x y H2 → wpAny (model X.prog X.w) X.A (f v u) Q X.xe s2) :
    wpAny (model X.prog X.w) X.A (eval a X.env) (fun v s₁ => wpAny (model X.prog X.w) X.A (eval b X.env) (fun u s₂ => wpAny (model X.prog X.w) X.A (f v u) Q X.xe s₂) X.xe s₁) X.xe s := by
  refine thn (ha pins s σ H _ I h) fun v s1 ⟨x, H1, I1, r1, q1⟩ => ?_
  refine thn (hb pins s1 σ H1 _ I1 q1) fun u s2 ⟨y, H2, I2, r2, q2⟩ => ?_
  exact hf v u s2 x y H2 I2 r1 r2 q2

theorem pe_op {op : Operator} {r : R2} (ho : OpR X (binaryOp op) r) (ha : PE X a ta) (hb : PE X b tb) : PE X (.BinOp a op b pos) (tOp r ta tb) := by
  intro pins s σ H Q I h
  exact wpAny_BinOp (binT ha hb I h fun v u s2 x y H2 I2 rx ry q => ho pins s2 σ H2 x y v u Q I2 rx ry q)
theorem pe_un {op : UnaryOp} {r : V → Hp → VK → Prop} (ho : UnR X (unaryOp op) r) (ha : PE X a ta) : PE X (.UnaryOp op a pos) (tUn r ta) := by
  intro pins s σ H Q I h
  exact UnaryOp_ (thn (ha pins s σ H _ I h) fun v s1 ⟨x, H1, I1, r1, q1⟩ => ho pins s1 σ H1 x v Q I1 r1 q1)

/-! ### ints -/
theorem opI {f : Value → Value → Sem Value} {C : Int → Int → Prop} {g : Int → Int → Int}
    (rule : ∀ (i j : Int) (t u : Tok) (s : Shared) (Q : Value → Shared → Prop) (E : Value → Shared → Prop), C i j → Q (.int (g i j) s.toks) { s with toks := s.toks + 1 } → wpAny (model X.prog X.w) X.A (f (.int i t) (.int j u)) Q E s) :
    OpR X f (rI C fun i j => .int (g i j)) := by
  intro pins s σ H x y v u Q I rx ry h
  obtain ⟨i, j, rfl, rfl, hc, q⟩ := h
  obtain ⟨t, rfl⟩ := rx
  obtain ⟨t', rfl⟩ := ry
  exact rule i j t t' s _ _ hc ⟨.int (g i j), H, I.tok _, ⟨_, rfl⟩, q⟩
theorem opI0 {f : Value → Value → Sem Value} {g : Int → Int → Int}
    (rule : ∀ (i j : Int) (t u : Tok) (s : Shared) (Q : Value → Shared → Prop) (E : Value → Shared → Prop), Q (.int (g i j) s.toks) { s with toks := s.toks + 1 } → wpAny (model X.prog X.w) X.A (f (.int i t) (.int j u)) Q E s) :
    OpR X f (rI0 fun i j => .int (g i j)) := by
  intro pins s σ H x y v u Q I rx ry h
  obtain ⟨i, j, rfl, rfl, q⟩ := h
  obtain ⟨t, rfl⟩ := rx
  obtain ⟨t', rfl⟩ := ry
  exact rule i j t t' s _ _ ⟨.int (g i j), H, I.tok _, ⟨_, rfl⟩, q⟩
theorem opB0 {f : Value → Value → Sem Value} {g : Int → Int → Bool}
    (rule : ∀ (i j : Int) (t u : Tok) (s : Shared) (Q : Value → Shared → Prop) (E : Value → Shared → Prop), Q (.bool (g i j)) s → wpAny (model X.prog X.w) X.A (f (.int i t) (.int j u)) Q E s) :
    OpR X f (rI0 fun i j => .bl (g i j)) := by
  intro pins s σ H x y v u Q I rx ry h
  obtain ⟨i, j, rfl, rfl, q⟩ := h
  obtain ⟨t, rfl⟩ := rx
  obtain ⟨t', rfl⟩ := ry
  exact rule i j t t' s _ _ ⟨.bl (g i j), H, I, rfl, q⟩

def CDiv (i j : Int) : Prop := 0 < j ∧ j < 1073741824
def CPow (i j : Int) : Prop := 0 ≤ j ∧ j ≤ 1000000 ∧ i.natAbs < 2 ^ 64
def CMul (i j : Int) : Prop := (-(2 ^ 64) < i ∧ i < 2 ^ 64) ∨ (-(2 ^ 64) < j ∧ j < 2 ^ 64)
theorem CMul.ok {i j : Int} (h : CMul i j) : IntMulOk i j := by
  rcases h with ⟨h1, h2⟩ | ⟨h1, h2⟩
  · exact .of_left (intBits_le_64 h1 h2)
  · exact .of_right (intBits_le_64 h1 h2)

theorem op_add : OpR X (binaryOp .Add) (rI0 fun i j => .int (i + j)) := opI0 fun _ _ _ _ _ _ _ q => add_int q
theorem op_mul : OpR X (binaryOp .Mult) (rI CMul fun i j => .int (i * j)) := opI fun _ _ _ _ _ _ _ hc q => mul_int q hc.ok
/-- // by a positive divisor -/
theorem op_fdiv : OpR X (binaryOp .FloorDiv) (rI CDiv fun i j => .int (i / j)) := opI fun i j _ _ _ _ _ hc q => by
  have h1 : (0 : Int) < j := hc.1
  have h2 : j < 1073741824 := hc.2
  exact floordiv_int (by omega) (by rw [Int.fdiv_eq_ediv_of_nonneg i (by omega)]; exact q) (.inl (PyProof.noPylong_small (by omega)))
/-- % by a positive divisor of any size -/
theorem op_mod : OpR X (binaryOp .Mod) (rI (fun _ j => 0 < j) fun i j => .int (i % j)) := opI fun i j _ _ _ _ _ hc q => by
  have h1 : (0 : Int) < j := hc
  exact mod_int' (by omega) (by rw [Int.fmod_eq_emod_of_nonneg i (by omega)]; exact q)
theorem op_pow : OpR X (binaryOp .Pow) (rI CPow fun i j => .int (i ^ j.toNat)) := opI fun _ _ _ _ _ _ _ hc q => pow_int_small hc.1 hc.2.1 hc.2.2 q


theorem unI {f : Value → Sem Value} {g : Int → Int}
    (rule : ∀ (i : Int) (t : Tok) (s : Shared) (Q : Value → Shared → Prop) (E : Value → Shared → Prop), Q (.int (g i) s.toks) { s with toks := s.toks + 1 } → wpAny (model X.prog X.w) X.A (f (.int i t)) Q E s) :
    UnR X f (rU fun i => .int (g i)) := by
  intro pins s σ H x v Q I rx h
  obtain ⟨i, rfl, q⟩ := h
  obtain ⟨t, rfl⟩ := rx
  exact rule i t s _ _ ⟨.int (g i), H, I.tok _, ⟨_, rfl⟩, q⟩
theorem un_neg : UnR X (unaryOp .USub) (rU fun i => .int (-i)) := unI fun _ _ _ _ _ q => neg_int q

/-! ### bools among ints: n += (a < b) -/
end

/-! ### comparisons -/
/-- the scalars that == tells apart as data does -/
def scal : V → V → Bool
  | .non, .non => true | .non, .int _ => true | .int _, .non => true | .non, .bl _ => true | .bl _, .non => true | .non, .str _ => true | .str _, .non => true
  | .int _, .int _ => true | .bl _, .bl _ => true | .str _, .str _ => true | .byt _, .byt _ => true
  | .int _, .str _ => true | .str _, .int _ => true | .bl _, .str _ => true | .str _, .bl _ => true
  | _, _ => false
def rEq : R2 := fun x y H Q => scal x y = true ∧ Q (.bl (decide (x = y))) H
def rNe : R2 := fun x y H Q => scal x y = true ∧ Q (.bl (!decide (x = y))) H

theorem dec_int {i j : Int} : decide (V.int i = V.int j) = (i == j) := by
  rw [Bool.eq_iff_iff]
  simp
theorem dec_bl {i j : Bool} : decide (V.bl i = V.bl j) = (i == j) := by
  rw [Bool.eq_iff_iff]
  simp
theorem dec_str {i j : Str} : decide (V.str i = V.str j) = (i == j) := by
  rw [Bool.eq_iff_iff]
  simp
theorem dec_byt {i j : Array UInt8} : decide (V.byt i = V.byt j) = (i.toList == j.toList) := by
  rw [Bool.eq_iff_iff]
  cases i
  cases j
  simp

section
variable {X : Cx} {a b c : Expr} {ta tb tc : TE} {pos : Pos}
theorem fin_bl {pins : List (Addr × Obj)} {σ : St} {H : Hp} {s : Shared} {Q : VK} {k k' : Bool} (I : Inv X pins σ H s) (q : Q (.bl k) H) (e : k = k') : EP X pins σ Q (.bool k') s := by
  subst e
  exact ⟨.bl k, H, I, rfl, q⟩
theorem op_eq : OpR X (compareOp .Eq) rEq := by
  intro pins s σ H x y v u Q I rx ry h
  obtain ⟨hs, q⟩ := h
  cases x with
  | non =>
    cases rx
    cases y with
    | non => cases ry; exact PySem.EqNone.eq_none_none (fin_bl I q (by simp))
    | bl j => cases ry; exact PySem.EqNone.eq_none_bool (fin_bl I q (by simp))
    | int j => obtain ⟨t', rfl⟩ := ry; exact PySem.EqNone.eq_none_int (fin_bl I q (by simp))
    | str j => obtain ⟨t', rfl⟩ := ry; exact PySem.EqNone.eq_none_str (fin_bl I q (by simp))
    | _ => exact absurd (show false = true from hs) Bool.false_ne_true
  | bl i =>
    cases rx
    cases y with
    | non => cases ry; exact PySem.EqNone.eq_bool_none (fin_bl I q (by simp))
    | bl j => cases ry; exact eq_bool (fin_bl I q dec_bl)
    | str j => obtain ⟨t', rfl⟩ := ry; exact PySem.EqMixed.eq_bool_str (fin_bl I q (by simp))
    | _ => exact absurd (show false = true from hs) Bool.false_ne_true
  | int i =>
    obtain ⟨t, rfl⟩ := rx
    cases y with
    | non => cases ry; exact PySem.EqNone.eq_int_none (fin_bl I q (by simp))
    | int j => obtain ⟨t', rfl⟩ := ry; exact eq_int (fin_bl I q dec_int)
    | str j => obtain ⟨t', rfl⟩ := ry; exact PySem.EqMixed.eq_int_str (fin_bl I q (by simp))
    | _ => exact absurd (show false = true from hs) Bool.false_ne_true
  | str i =>
    obtain ⟨t, rfl⟩ := rx
    cases y with
    | non => cases ry; exact PySem.EqNone.eq_str_none (fin_bl I q (by simp))
    | bl j => cases ry; exact PySem.EqMixed.eq_str_bool (fin_bl I q (by simp))
    | int j => obtain ⟨t', rfl⟩ := ry; exact PySem.EqMixed.eq_str_int (fin_bl I q (by simp))
    | str j => obtain ⟨t', rfl⟩ := ry; exact eq_str (fin_bl I q dec_str)
    | _ => exact absurd (show false = true from hs) Bool.false_ne_true
  | byt i =>
    obtain ⟨t, rfl⟩ := rx
    cases y with
    | byt j => obtain ⟨t', rfl⟩ := ry; exact PySem.W.eq_bytes (fin_bl I q dec_byt)
    | _ => exact absurd (show false = true from hs) Bool.false_ne_true
  | _ => cases y <;> exact absurd (show false = true from hs) Bool.false_ne_true
theorem op_ne : OpR X (compareOp .NotEq) rNe := by
  intro pins s σ H x y v u Q I rx ry h
  obtain ⟨hs, q⟩ := h
  cases x with
  | non =>
    cases rx
    cases y with
    | non => cases ry; exact PySem.EqNone.ne_none_none (fin_bl I q (by simp))
    | bl j => cases ry; exact PySem.EqNone.ne_none_bool (fin_bl I q (by simp))
    | int j => obtain ⟨t', rfl⟩ := ry; exact PySem.EqNone.ne_none_int (fin_bl I q (by simp))
    | str j => obtain ⟨t', rfl⟩ := ry; exact PySem.EqNone.ne_none_str (fin_bl I q (by simp))
    | _ => exact absurd (show false = true from hs) Bool.false_ne_true
  | bl i =>
    cases rx
    cases y with
    | non => cases ry; exact PySem.EqNone.ne_bool_none (fin_bl I q (by simp))
    | bl j => cases ry; exact ne_bool (fin_bl I q (congrArg not dec_bl))
    | str j => obtain ⟨t', rfl⟩ := ry; exact PySem.EqMixed.ne_bool_str (fin_bl I q (by simp))
    | _ => exact absurd (show false = true from hs) Bool.false_ne_true
  | int i =>
    obtain ⟨t, rfl⟩ := rx
    cases y with
    | non => cases ry; exact PySem.EqNone.ne_int_none (fin_bl I q (by simp))
    | int j => obtain ⟨t', rfl⟩ := ry; exact ne_int (fin_bl I q (congrArg not dec_int))
    | str j => obtain ⟨t', rfl⟩ := ry; exact PySem.EqMixed.ne_int_str (fin_bl I q (by simp))
    | _ => exact absurd (show false = true from hs) Bool.false_ne_true
  | str i =>
    obtain ⟨t, rfl⟩ := rx
    cases y with
    | non => cases ry; exact PySem.EqNone.ne_str_none (fin_bl I q (by simp))
    | bl j => cases ry; exact PySem.EqMixed.ne_str_bool (fin_bl I q (by simp))
    | int j => obtain ⟨t', rfl⟩ := ry; exact PySem.EqMixed.ne_str_int (fin_bl I q (by simp))
    | str j => obtain ⟨t', rfl⟩ := ry; exact ne_str (fin_bl I q (congrArg not dec_str))
    | _ => exact absurd (show false = true from hs) Bool.false_ne_true
  | byt i =>
    obtain ⟨t, rfl⟩ := rx
    cases y with
    | byt j => obtain ⟨t', rfl⟩ := ry; exact PySem.W.ne_bytes (fin_bl I q (congrArg not dec_byt))
    | _ => exact absurd (show false = true from hs) Bool.false_ne_true
  | _ => cases y <;> exact absurd (show false = true from hs) Bool.false_ne_true

theorem op_lt : OpR X (compareOp .Lt) (rI0 fun i j => .bl (decide (i < j))) := opB0 fun _ _ _ _ _ _ _ q => lt_int q
theorem op_le : OpR X (compareOp .LtE) (rI0 fun i j => .bl (decide (i ≤ j))) := opB0 fun _ _ _ _ _ _ _ q => le_int q
theorem op_gt : OpR X (compareOp .Gt) (rI0 fun i j => .bl (decide (j < i))) := opB0 fun _ _ _ _ _ _ _ q => gt_int q




theorem nomark (b : Expr) {op : CmpOp} (h : op ≠ .In := by decide) (h2 : op ≠ .NotIn := by decide) : behindInMarks op b = false := by
  have e1 : (op == CmpOp.In) = false := by cases op <;> first | rfl | exact absurd rfl h
  have e2 : (op == CmpOp.NotIn) = false := by cases op <;> first | rfl | exact absurd rfl h2
  cases b <;> simp [behindInMarks, e1, e2]
/-- a comparison as a value; hm: nomark b, or (for in, not in) by with_unfolding_all rfl -/
theorem pe_cmpR {op : CmpOp} {r : R2} (ho : OpR X (compareOp op) r) (ha : PE X a ta) (hb : PE X b tb) (hm : behindInMarks op b = false) : PE X (.Compare a [op] [b] pos) (tOp r ta tb) := by
  intro pins s σ H Q I h
  exact wpAny_Compare1 (binT ha hb I h fun v u s2 x y H2 I2 rx ry q => ho pins s2 σ H2 x y v u Q I2 rx ry q) hm
/-- a reading of a value as a test -/
def tTest (t : TE) : TT := fun σ H Q => t σ H fun x H' => ∃ k, x = .bl k ∧ Q k H'
theorem pt_cmpR {op : CmpOp} {r : R2} (ho : OpR X (compareOp op) r) (ha : PE X a ta) (hb : PE X b tb) (hm : behindInMarks op b = false) : PT X (.Compare a [op] [b] pos) (tTest (tOp r ta tb)) := by
  intro pins s σ H Q I h
  refine wpAny_isTrue_Compare1 (thn (ha pins s σ H _ I h) fun v s1 ⟨x, H1, I1, r1, q1⟩ => thn (hb pins s1 σ H1 _ I1 q1) fun u s2 ⟨y, H2, I2, r2, q2⟩ =>
    thn (ho pins s2 σ H2 x y v u _ I2 r1 r2 q2) fun c s3 ⟨z, H3, I3, r3, k, e, q3⟩ => ?_) hm
  subst e
  cases r3
  exact wpAny_truthy_bool ⟨H3, I3, q3⟩

/-! ### truth -/
theorem line63 : (sizeLine : Nat) < 2 ^ 63 := by rw [sizeLine_eq]; decide

/-! ### strs and bytes -/
theorem op_add_str : OpR X (binaryOp .Add) (fun x y H Q => ∃ i j, x = .str i ∧ y = .str j ∧ i.length + j.length ≤ sizeLine ∧ Q (.str (i ++ j)) H) := by
  intro pins s σ H x y v u Q I rx ry h
  obtain ⟨i, j, rfl, rfl, hz, q⟩ := h
  obtain ⟨t, rfl⟩ := rx
  obtain ⟨t', rfl⟩ := ry
  exact wpAny_pos I.tk (add_str (fun t' tk ht => ⟨.str (i ++ j), H, I.tok _, ⟨_, rfl⟩, q⟩) hz)


/-! ### scalar builtins, by CallR -/
theorem vals1 {x : V} {us : List Value} (r : Vals [x] us) : ∃ u, us = [u] ∧ RelV x u := by
  cases r with
  | cons r1 r2 => cases r2; exact ⟨_, rfl, r1⟩
end
end L2

namespace L2
open PySem PySem.Spec PyProof.Rows

/-! ### an instance, its attributes a map -/
structure ObjM (h : Heap) (x dx C : Addr) (mA : Str → Option Value) : Prop where
  obj : h.get? x = some (PySem.W.instObj C dx)
  ns : h.Ns1 dx mA
  ne : dx ≠ x

theorem lookIn_ns {h : Heap} {dx : Addr} {mA : Str → Option Value} (n : h.Ns1 dx mA) : ∃ od, h.get? dx = some od ∧ ∀ name, PySem.W.lookIn name od = some (mA name) := by
  obtain ⟨o, es, ep, ho, hd, hk, _, hm⟩ := n
  refine ⟨o, ho, fun name => ?_⟩
  have e := hm name
  unfold nsFind findBy at e
  rw [← Array.find?_toList] at e
  unfold PySem.W.lookIn
  rw [hd]
  dsimp only
  split
  · rename_i y q
    rw [q] at e
    exact congrArg some e
  · rename_i q
    rw [q] at e
    have a : es.toList.any (·.refKey) = false := by
      rw [List.any_eq_false]
      intro y hy
      obtain ⟨z, t, hkey⟩ := hk y (Array.mem_toList_iff.mp hy)
      simp [DictEntry.refKey, hkey]
    have a' : ¬ es.toList.any (·.refKey) = true := by rw [a]; exact Bool.false_ne_true
    rw [if_neg a']
    exact congrArg some e

theorem ObjM.look {h : Heap} {x dx C : Addr} {mA : Str → Option Value} (I : ObjM h x dx C mA) : ∃ od, PySem.W.InstAt h x (PySem.W.instObj C dx) C (some od) ∧ ∀ name, PySem.W.lookIn name od = some (mA name) :=
  let ⟨od, ho, hl⟩ := lookIn_ns I.ns
  ⟨od, ⟨I.obj, rfl, rfl, ho⟩, hl⟩

section
variable {prog : Program} {w : World} {A : Around} {E : Value → Shared → Prop} {s : Shared} {K : PySem.W.Frag} {x dx C f : Addr} {mA : Str → Option Value} {name : Str} {v : Value}

theorem get_map {expr : Bool} {Q : Value → Shared → Prop} (X : K.In s.heap) (I : ObjM s.heap x dx C mA) (hg : PySem.W.plainGet K C name = true) (hh : PySem.W.hasDictIn K C = true)
    (ha : PySem.W.findIn K (.ref C) name = some none) (hv : mA name = some v) (hv' : PySem.W.handedIn v = true) (h : Q v { s with toks := s.toks + 1 }) :
    wpAny (model prog w) A (getAttr (.ref x) name expr) Q E s := by
  obtain ⟨od, J, hl⟩ := I.look
  exact PySem.W.get_value X J (PySem.W.plainGet_of hg).1 (PySem.W.findObj_own hh ha rfl (by rw [hl, hv])) hv' h


theorem get_meth {pl : Sem Bool} {Q : Value × List Value → Shared → Prop} (X : K.In s.heap) (I : ObjM s.heap x dx C mA) (hg : PySem.W.plainGet K C name = true)
    (hf : PySem.W.findIn K (.ref C) name = some (some (.ref f))) (ht : PySem.W.isFn K (.ref f) = true) (hv : mA name = none) (h : Q (.ref f, [.ref x]) s) :
    wpAny (model prog w) A (getMethod (.ref x) name pl) Q E s := by
  obtain ⟨od, J, hl⟩ := I.look
  exact PySem.W.method_fn X J (PySem.W.plainGet_of hg).1 (PySem.W.plainGet_of hg).2 hf (beq_iff_eq.mp ht) (by show (PySem.W.lookIn name od).map (·.isSome) = some false; rw [hl, hv]; rfl) h

theorem set_map {ns : List Str} {Q : Unit → Shared → Prop} (X : K.In s.heap) (I : ObjM s.heap x dx C mA)
    (hs : PySem.W.findIn K (.ref C) "__setattr__" = some (some (.builtin "object.__setattr__"))) (hp : PySem.W.plainOver K C = true) (ht : PySem.W.takerIn K C name = some none) (hh : PySem.W.hasDictIn K C = true)
    (hw : PySem.Within mA ns) (hsz : ns.length ≤ sizeLine)
    (h : ∀ h', ObjM h' x dx C (fun y => if y = name then some v else mA y) → Heap.SameBut dx s.heap h' → Q () { s with heap := h', toks := s.toks + 2 }) :
    wpAny (model prog w) A (setAttr (.ref x) name v) Q E s := by
  obtain ⟨od, J, hl⟩ := I.look
  refine PySem.W.set_plain X J hs (PySem.W.osa_open (s := { s with toks := s.toks + 1 }) (r := none) X J hp ht fun b => ?_)
  obtain ⟨cd, hc, hd'⟩ := PySem.W.any_some hh
  have hx : s.heap.get? x = some ⟨.ref C, some dx, .plain, #[]⟩ := I.obj
  refine wpAny_bind (wpAny_pure (wpAny_bind (wpAny_bind (wpAny_loadPart hx (wpAny_bind (PySem.W.Looks.here (s := { s with toks := s.toks + 1 }) (PySem.W.looks_clsIn X hc) ?_))))))
  rw [hd']
  refine wpAny_pure (a := some dx) (wpAny_bind (wpAny_pure (wpAny_bind ?_)))
  refine wpAny_nsSet1 (s := { s with toks := s.toks + 1 }) I.ns fun h' hn2 hs2 => ?_
  obtain ⟨oD, esD, epD, hoD, hdD, hcD⟩ := hn2.count (PySem.Within.cons name v hw)
  refine wpAny_bind (wpAny_lookBehind hoD (by rw [hdD]; exact pastItsLine_dict (Nat.le_trans hcD (by rw [List.length_cons]; omega))) ?_)
  exact wpAny_pure (h _ ⟨(hs2.2 _ (Ne.symm I.ne)).trans I.obj, hn2, I.ne⟩ hs2)

/-- C(..): the dict at the heap's end, the instance behind it; then its __init__ -/
theorem make_map {R : Result → Shared → Prop} {vs : List Value} {kw : List (Str × Value)} (X : K.In s.heap) (hm : PySem.W.makesIn K C = true)
    (hi : PySem.W.findIn K (.ref C) "__init__" = some (some (.ref f))) (hf : PySem.W.typeIn K (.ref f) = some (.type "function"))
    (h : codeAny (model prog w) (A.under (.builtin "type.__call__" ⟨.ref C :: vs, kw⟩)) (.call (.ref f) ⟨.ref (s.heap.objs.size + 1) :: vs, kw⟩) (PySem.W.InitBack (s.heap.objs.size + 1) R)
      { s with heap := (s.heap.push PySem.W.emptyDict).push (PySem.W.instObj C s.heap.objs.size) }) :
    codeAny (model prog w) A (.call (.ref C) ⟨vs, kw⟩) R s := by
  obtain ⟨hh, g, d, t, os⟩ := s
  exact PySem.W.make_core (PySem.W.makes_of X hm) (PySem.W.looks_findIn X hi) (fun self => PySem.W.bind_fn X self hf) (.inl rfl) h
end

/-! ### the attributes as a list of pairs -/
def putF (f : Str) (v : V) : List (Str × V) → List (Str × V)
  | [] => [(f, v)]
  | (g, x) :: r => if g = f then (g, v) :: r else (g, x) :: putF f v r
theorem lookup_putF (f g : Str) (v : V) : ∀ fs : List (Str × V), (putF f v fs).lookup g = if g = f then some v else fs.lookup g
  | [] => by
    show List.lookup g [(f, v)] = _
    by_cases h : g = f
    · have hb : (g == f) = true := beq_iff_eq.mpr h
      simp only [List.lookup, hb, if_pos h]
    · have hb : (g == f) = false := beq_eq_false_iff_ne.mpr h
      simp only [List.lookup, hb, if_neg h]
  | (k, x) :: r => by
    have ih := lookup_putF f g v r
    rw [show putF f v ((k, x) :: r) = (if k = f then (k, v) :: r else (k, x) :: putF f v r) from rfl]
    by_cases hk : k = f
    · rw [if_pos hk]
      by_cases h : g = k
      · have hb : (g == k) = true := beq_iff_eq.mpr h
        simp only [List.lookup, hb, if_pos (h.trans hk)]
      · have hb : (g == k) = false := beq_eq_false_iff_ne.mpr h
        simp only [List.lookup, hb, if_neg (fun e : g = f => h (e.trans hk.symm))]
    · rw [if_neg hk]
      by_cases h : g = k
      · have hb : (g == k) = true := beq_iff_eq.mpr h
        simp only [List.lookup, hb, if_neg (fun e : g = f => hk (h.symm.trans e))]
      · have hb : (g == k) = false := beq_eq_false_iff_ne.mpr h
        simp only [List.lookup, hb]
        exact ih
theorem keys_putF (f : Str) (v : V) : ∀ fs : List (Str × V), f ∈ (putF f v fs).map (·.1) ∧ ∀ g, g ∈ fs.map (·.1) → g ∈ (putF f v fs).map (·.1)
  | [] => ⟨by simp [putF], fun g h => by simp at h⟩
  | (k, x) :: r => by
    obtain ⟨i1, i2⟩ := keys_putF f v r
    rw [show putF f v ((k, x) :: r) = (if k = f then (k, v) :: r else (k, x) :: putF f v r) from rfl]
    by_cases hk : k = f
    · rw [if_pos hk]
      subst hk
      exact ⟨by simp, fun g h => by simpa using h⟩
    · rw [if_neg hk]
      refine ⟨?_, fun g h => ?_⟩
      · rw [List.map_cons]
        exact List.mem_cons_of_mem _ i1
      · rw [List.map_cons] at h ⊢
        rcases List.mem_cons.mp h with e | e
        · exact List.mem_cons.mpr (.inl e)
        · exact List.mem_cons_of_mem _ (i2 g e)
theorem length_putF (f : Str) (v : V) : ∀ fs : List (Str × V), (putF f v fs).length ≤ fs.length + 1
  | [] => by simp [putF]
  | (k, x) :: r => by
    have ih := length_putF f v r
    rw [show putF f v ((k, x) :: r) = (if k = f then (k, v) :: r else (k, x) :: putF f v r) from rfl]
    by_cases hk : k = f
    · rw [if_pos hk, List.length_cons, List.length_cons]; omega
    · rw [if_neg hk, List.length_cons, List.length_cons]; omega

theorem RelO.some_of {v : V} {o : Option Value} (r : RelO (some v) o) : ∃ u, o = some u ∧ RelV v u := by
  cases o with
  | none => exact (show False from r).elim
  | some u => exact ⟨u, rfl, r⟩
theorem RelO.none_of {o : Option Value} (r : RelO none o) : o = none := by
  cases o with
  | none => rfl
  | some u => exact (show False from r).elim
theorem handed_of {v : V} {u : Value} (r : RelV v u) : PySem.W.handedIn u = true := by
  cases v with
  | non => cases (show u = Value.none from r); rfl
  | bl b => cases (show u = Value.bool b from r); rfl
  | int i => obtain ⟨t, e⟩ := (show ∃ t, u = Value.int i t from r); cases e; rfl
  | str x => obtain ⟨t, e⟩ := (show ∃ t, u = Value.str x t from r); cases e; rfl
  | byt b => obtain ⟨t, e⟩ := (show ∃ t, u = Value.bytes b t from r); cases e; rfl
  | flt b => obtain ⟨t, e⟩ := (show ∃ t, u = Value.float b t from r); cases e; rfl
  | ref a => cases (show u = Value.ref a from r); rfl
  | ty n => cases (show u = Value.type n from r); rfl

section
variable {P : Program} {w : World} {H H' : Hp} {h h' : Heap} {a C dx : Addr} {fs fs' : List (Str × V)}
theorem ins_get (hok : HOk P w H h) (e : H a = some (.ins C dx fs)) : ∃ mA, ObjM h a dx C mA ∧ (∀ f, RelO (fs.lookup f) (mA f)) ∧ PySem.Within mA (fs.map (·.1)) ∧ fs.length ≤ 1000 ∧ H dx = some (.own a) := by
  obtain ⟨d, z, ne, ob, mA, n, r, q⟩ := (show ObjOk P w H h a (.ins C dx fs) from hok a _ e)
  exact ⟨mA, ⟨ob, n, ne⟩, r, q, z, d⟩
end

/-! ### what of the text a class must have -/
structure Cls (K : PySem.W.Frag) (C : Addr) : Prop where
  pg : PySem.W.plainGet K C Str.empty = true
  hd : PySem.W.hasDictIn K C = true
  po : PySem.W.plainOver K C = true
  sa : PySem.W.findIn K (.ref C) "__setattr__" = some (some (.builtin "object.__setattr__"))
theorem Cls.get {K : PySem.W.Frag} {C : Addr} (c : Cls K C) (f : Str) : PySem.W.plainGet K C f = true := c.pg
/-- no class of it has the name -/
def NoAttr (K : PySem.W.Frag) (C : Addr) (f : Str) : Prop := PySem.W.findIn K (.ref C) f = some none
theorem NoAttr.taker {K : PySem.W.Frag} {C : Addr} {f : Str} (n : NoAttr K C f) : PySem.W.takerIn K C f = some none := by
  unfold PySem.W.takerIn
  rw [show PySem.W.findIn K (.ref C) f = some none from n]
  rfl
/-- a method: a plain def of the class or of one above it -/
structure Meth (K : PySem.W.Frag) (C : Addr) (m : Str) (f : Addr) : Prop where
  at_ : PySem.W.findIn K (.ref C) m = some (some (.ref f))
  fn : PySem.W.isFn K (.ref f) = true
  kp : PySem.W.keepIn K (.ref f) = true

section
variable {X : Cx} {pins : List (Addr × Obj)} {σ : St} {H : Hp} {s : Shared} {a C dx : Addr} {fs : List (Str × V)} {f : Str} {v : V} {A : Around} {E : Value → Shared → Prop}

theorem getattr_ok {b : Bool} {Q : Value → Shared → Prop} (I : Inv X pins σ H s) (e : H a = some (.ins C dx fs)) (c : Cls X.K C) (n : NoAttr X.K C f) (l : fs.lookup f = some v)
    (h : ∀ u s', Inv X pins σ H s' → RelV v u → Q u s') : wpAny (model X.prog X.w) A (getAttr (.ref a) f b) Q E s := by
  obtain ⟨mA, O, r, _, _, _⟩ := ins_get I.hok e
  obtain ⟨u, hu, ru⟩ := RelO.some_of (v := v) (o := mA f) (by rw [← l]; exact r f)
  exact get_map I.kIn O (c.get f) c.hd n hu (handed_of ru) (h u _ (I.tok _) ru)


theorem getmeth_ok {m : Str} {g : Addr} {pl : Sem Bool} {Q : Value × List Value → Shared → Prop} (I : Inv X pins σ H s) (e : H a = some (.ins C dx fs)) (c : Cls X.K C) (k : Meth X.K C m g) (l : fs.lookup m = none)
    (h : Q (.ref g, [.ref a]) s) : wpAny (model X.prog X.w) A (getMethod (.ref a) m pl) Q E s := by
  obtain ⟨mA, O, r, _, _, _⟩ := ins_get I.hok e
  have hn : mA m = none := RelO.none_of (by rw [← l]; exact r m)
  exact get_meth I.kIn O (c.get m) k.at_ k.fn hn h

theorem setattr_ok {y : V} {u : Value} {Q : Unit → Shared → Prop} (I : Inv X pins σ H s) (e : H a = some (.ins C dx fs)) (c : Cls X.K C) (n : NoAttr X.K C f) (hl : fs.length < 1000) (ry : RelV y u)
    (h : ∀ s', Inv X pins σ (upd H a (.ins C dx (putF f y fs))) s' → Q () s') : wpAny (model X.prog X.w) A (setAttr (.ref a) f u) Q E s := by
  obtain ⟨mA, O, r, wi, _, ho⟩ := ins_get I.hok e
  have hz : (fs.map (·.1)).length ≤ sizeLine := by rw [List.length_map, sizeLine_eq]; omega
  refine set_map I.kIn O c.sa c.po n.taker c.hd wi hz fun h' O' sb => h _ ?_
  have hd : ∃ o, h'.get? dx = some o := let ⟨o, _, _, e', _⟩ := O'.ns; ⟨o, e'⟩
  refine I.write (x := a) (e := dx) (by rw [e]; exact True.intro) (.inr ho) (fun b q hb z => (sb.2 b hb).trans z) hd ?_
  refine ⟨by rw [upd_ne O.ne]; exact ho, ?_, O.ne, O'.obj, _, O'.ns, fun g => ?_, fun g hg => ?_⟩
  · have := length_putF f y fs; omega
  · show RelO ((putF f y fs).lookup g) (if g = f then some u else mA g)
    rw [lookup_putF]
    by_cases q : g = f
    · rw [if_pos q, if_pos q]; exact ry
    · rw [if_neg q, if_neg q]; exact r g
  · by_cases q : g = f
    · rw [q]; exact (keys_putF f y fs).1
    · refine (keys_putF f y fs).2 g (wi g fun z => hg ?_)
      show (if g = f then some u else mA g) = none
      rw [if_neg q]; exact z

/-- a new instance, tracked, without attributes -/
theorem Inv.made (I : Inv X pins σ H s) : Inv X pins σ (upd (upd H s.heap.objs.size (.own (s.heap.objs.size + 1))) (s.heap.objs.size + 1) (.ins C s.heap.objs.size []))
    { s with heap := (s.heap.push PySem.W.emptyDict).push (PySem.W.instObj C s.heap.objs.size) } := by
  have e1 : (s.heap.push PySem.W.emptyDict).get? s.heap.objs.size = some PySem.W.emptyDict := Heap.get?_push_size s.heap rfl
  have e2 : ((s.heap.push PySem.W.emptyDict).push (PySem.W.instObj C s.heap.objs.size)).get? (s.heap.objs.size + 1) = some (PySem.W.instObj C s.heap.objs.size) := by
    have := Heap.get?_push_size (s.heap.push PySem.W.emptyDict) (o := PySem.W.instObj C s.heap.objs.size) rfl
    rwa [Heap.size_push] at this
  have e3 : (s.heap.push PySem.W.emptyDict).Ns s.heap.objs.size (fun _ => none) := ⟨PySem.W.emptyDict, #[], _, e1, rfl, (fun e he => absurd he (by simp)), fun _ => rfl⟩
  have I1 := I.laid (a := s.heap.objs.size) (o := .own (s.heap.objs.size + 1)) (h' := s.heap.push PySem.W.emptyDict) (t' := s.toks) (fun b u q => Heap.get?_push_of_some _ q) (Nat.le_refl _) ⟨_, e1⟩
  refine I1.laid (a := s.heap.objs.size + 1) (o := .ins C s.heap.objs.size []) (t' := s.toks) (fun b u q => Heap.get?_push_of_some _ q) (Nat.le_of_eq (Heap.size_push _ _)) ?_
  have ne : s.heap.objs.size ≠ s.heap.objs.size + 1 := Nat.ne_of_lt (Nat.lt_succ_self _)
  refine ⟨by rw [upd_ne ne, upd_same], Nat.zero_le _, ne, e2, fun _ => none, (Heap.Ns1.of_empty e3).at fun o q => Heap.get?_push_of_some _ q, fun _ => True.intro, fun y hy => absurd rfl hy⟩

/-- e.f where nothing but the object is asked: through attributeBase (super) and the last hold -/
theorem attr_of {prog : Program} {w : World} {env : Env} {e : Expr} {f : Str} {pos : Pos} {s : Shared} {Q : Value → Shared → Prop} (hb : attributeBase e f env (eval e env) = eval e env)
    (h : wpAny (model prog w) A (eval e env) (fun o s₁ => wpAny (model prog w) A (getAttr o f true) Q E s₁) E s) : wpAny (model prog w) A (eval (.Attribute e f pos) env) Q E s :=
  Attribute_any_ h (by rw [arm_eval_Attribute, hb])
end

/-! ### readings and rules -/
/-- e.f, an attribute of the instance -/
def tFld (K : PySem.W.Frag) (ta : TE) (f : Str) : TE := fun σ H Q => ta σ H fun x H1 => ∃ a C dx fs v, x = .ref a ∧ H1 a = some (.ins C dx fs) ∧ Cls K C ∧ NoAttr K C f ∧ fs.lookup f = some v ∧ Q v H1
/-- e.f = value -/
def sFld (K : PySem.W.Frag) (ta tv : TE) (f : Str) : TS := fun D σ H => tv σ H fun y H1 => ta σ H1 fun x H2 => ∃ a C dx fs, x = .ref a ∧ H2 a = some (.ins C dx fs) ∧ Cls K C ∧ NoAttr K C f ∧ fs.length < 1000 ∧
  D.nx σ (upd H2 a (.ins C dx (putF f y fs)))
/-- an augmented operator on two values -/
def InOp (X : Cx) (op : Operator) (rd : V → V → Hp → VK → Prop) : Prop :=
  ∀ (pins : List (Addr × Obj)) (s : Shared) (σ : St) (H : Hp) (x y : V) (u v : Value) (Q : VK), Inv X pins σ H s → RelV x u → RelV y v → rd x y H Q → wpAny (model X.prog X.w) X.A (inplaceOp op u v) (EP X pins σ Q) X.xe s
/-- e.f op= value -/
def sFldAug (K : PySem.W.Frag) (ta tv : TE) (rd : V → V → Hp → VK → Prop) (f : Str) : TS := fun D σ H => ta σ H fun x H1 => ∃ a C dx fs v, x = .ref a ∧ H1 a = some (.ins C dx fs) ∧ Cls K C ∧ NoAttr K C f ∧ fs.lookup f = some v ∧
  tv σ H1 fun y H2 => rd v y H2 fun z H3 => ∃ dx' fs', H3 a = some (.ins C dx' fs') ∧ fs'.length < 1000 ∧ D.nx σ (upd H3 a (.ins C dx' (putF f z fs')))

section
variable {X : Cx} {o e value : Expr} {f : Str} {pos pos' tpos : Pos} {ta tv : TE}
theorem pe_fld (he : PE X e ta) (hb : attributeBase e f X.env (eval e X.env) = eval e X.env) : PE X (.Attribute e f pos) (tFld X.K ta f) := by
  intro pins s σ H Q I h
  refine attr_of hb (thn (he pins s σ H _ I h) fun u s1 ⟨x, H1, I1, rx, a, C, dx, fs, v, ex, ea, c, n, l, q⟩ => ?_)
  subst ex
  obtain rfl : u = Value.ref a := rx
  exact getattr_ok I1 ea c n l fun u' s2 I2 ru => ⟨v, H1, I2, ru, q⟩
theorem ps_fld (ha : PE X o ta) (hv : PE X value tv) (hs : swapsWith value (some (.Attribute o f pos')) pos.line X.env = pure false) : PS X (.Assign [.Attribute o f pos'] value pos) (sFld X.K ta tv f) := by
  intro pins s σ H D I h
  refine plainObj_wpAny_Assign_Attribute (thn (hv pins s σ H _ I h) fun u s1 ⟨y, H1, I1, ry, q⟩ => thn (ha pins s1 σ H1 _ I1 q) fun ov s2 ⟨x, H2, I2, rx, a, C, dx, fs, ex, ea, c, n, l, q2⟩ => ?_) hs
  subst ex
  obtain rfl : ov = Value.ref a := rx
  exact setattr_ok I2 ea c n l ry fun s3 I3 => ⟨σ, _, I3, q2⟩
theorem ps_fldaug {op : Operator} {rd : V → V → Hp → VK → Prop} (ha : PE X o ta) (hv : PE X value tv) (hop : InOp X op rd) : PS X (.AugAssign (.Attribute o f tpos) op value pos) (sFldAug X.K ta tv rd f) := by
  intro pins s σ H D I h
  refine wpAny_AugAssign_AttributeAny (thn (ha pins s σ H _ I h) fun ov s1 ⟨x, H1, I1, rx, a, C, dx, fs, v, ex, ea, c, n, l, q⟩ => ?_)
  subst ex
  obtain rfl : ov = Value.ref a := rx
  refine getattr_ok I1 ea c n l fun u s2 I2 ru => thn (hv pins s2 σ H1 _ I2 q) fun w3 s3 ⟨y, H2, I3, ry, q3⟩ => thn (hop pins s3 σ H2 v y u w3 _ I3 ru ry q3) fun w4 s4 ⟨z, H3, I4, rz, dx', fs', ea', l', q4⟩ => ?_
  exact setattr_ok I4 ea' c n l' rz fun s5 I5 => ⟨σ, _, I5, q4⟩
def rAdd : V → V → Hp → VK → Prop := fun x y H Q => ∃ i j, x = .int i ∧ y = .int j ∧ Q (.int (i + j)) H
theorem in_add : InOp X .Add rAdd := by
  rintro pins s σ H x y u v Q I rx ry ⟨i, j, rfl, rfl, q⟩
  obtain ⟨t, rfl⟩ := (show ∃ t, u = Value.int i t from rx)
  obtain ⟨t', rfl⟩ := (show ∃ t', v = Value.int j t' from ry)
  exact PyProof.Rows.iadd_int ⟨.int (i + j), H, I.tok _, ⟨_, rfl⟩, q⟩

end

/-! ### isinstance -/
section
variable {X : Cx} {pins : List (Addr × Obj)} {σ : St} {H : Hp} {s : Shared} {A : Around} {E : Value → Shared → Prop} {Q : Value → Shared → Prop} {c : Value} {b : Bool}
/-- the type of a value, as the fragment's deciders take it; for an instance its class -/
inductive TyOf (K : PySem.W.Frag) (H : Hp) : V → Value → Prop where
  | non : TyOf K H .non (.type "NoneType")
  | bl (x : Bool) : TyOf K H (.bl x) (.type "bool")
  | int (i : Int) : TyOf K H (.int i) (.type "int")
  | str (x : Str) : TyOf K H (.str x) (.type "str")
  | flt (x : UInt64) : TyOf K H (.flt x) (.type "float")
  | lst {a : Addr} {xs : List V} (e : H a = some (.lst xs)) : TyOf K H (.ref a) (.type "list")
  | frz {a : Addr} {o : Obj} {xs : List V} (e : H a = some (.frz o (.lst xs))) : TyOf K H (.ref a) (.type "list")
  | tup {a : Addr} {xs : List V} (e : H a = some (.tup xs)) : TyOf K H (.ref a) (.type "tuple")
  | dK {a : Addr} {kvs : List (Key × V)} (e : H a = some (.dK kvs)) : TyOf K H (.ref a) (.type "dict")
  | dT {a : Addr} {kvs : List (List Key × V)} (e : H a = some (.dT kvs)) : TyOf K H (.ref a) (.type "dict")
  | ins {a C dx : Addr} {fs : List (Str × V)} (e : H a = some (.ins C dx fs)) (cl : Cls K C) (ha : PySem.W.findIn K (.ref C) "__class__" = some (some (.builtin "object.__class__")))
      (hn : PySem.W.specialIn K (.builtin "object.__class__") "__get__" = some (some (.builtin "getset_descriptor.__get__"))) (htk : PySem.W.takesIn K (.builtin "object.__class__") = some true)
      (hm : PySem.W.mroIn K C (.type "object") = some true) : TyOf K H (.ref a) (.ref C)
/-- isinstance(x, c) for one class c, a built-in or an own one: kitOne's answer -/
theorem isinst_ok {x : V} {u t : Value} (I : Inv X pins σ H s) (rx : RelV x u) (ty : TyOf X.K H x t) (e : PySem.W.kitOne X.K t c = some b) (h : ∀ tk, Q (.bool b) { s with toks := tk }) :
    wpAny (model X.prog X.w) A (call (.builtin "isinstance") [u, c]) Q E s := by
  cases ty with
  | non => cases (show u = Value.none from rx); exact PySem.W.kia_one PySem.W.kitx_none I.kIn True.intro e (fun z => nomatch z) h
  | bl y => cases (show u = Value.bool y from rx); exact PySem.W.kia_one PySem.W.kitx_bool I.kIn True.intro e (fun z => nomatch z) h
  | int i => obtain ⟨t, q⟩ := (show ∃ t, u = Value.int i t from rx); cases q; exact PySem.W.kia_one PySem.W.kitx_int I.kIn True.intro e (fun z => nomatch z) h
  | str y => obtain ⟨t, q⟩ := (show ∃ t, u = Value.str y t from rx); cases q; exact PySem.W.kia_one PySem.W.kitx_str I.kIn True.intro e (fun z => nomatch z) h
  | flt y => obtain ⟨t, q⟩ := (show ∃ t, u = Value.float y t from rx); cases q; exact PySem.W.kia_one PySem.W.kitx_float I.kIn True.intro e (fun z => nomatch z) h
  | @lst a xs ea =>
    cases (show u = Value.ref a from rx)
    obtain ⟨_, _, n, _, h1⟩ := (show ObjOk X.prog X.w H s.heap a (.lst xs) from I.hok a _ ea)
    exact PySem.W.kia_one PySem.W.kitx_list I.kIn ⟨_, h1, rfl⟩ e (fun z => nomatch z) h
  | @frz a ob xs ea =>
    cases (show u = Value.ref a from rx)
    obtain ⟨_, _, _, n, _, h1⟩ := (show ObjOk X.prog X.w H s.heap a (.frz ob (.lst xs)) from I.hok a _ ea)
    exact PySem.W.kia_one PySem.W.kitx_list I.kIn ⟨_, h1, rfl⟩ e (fun z => nomatch z) h
  | @tup a xs ea =>
    cases (show u = Value.ref a from rx)
    obtain ⟨_, _, _, p⟩ := (show ObjOk X.prog X.w H s.heap a (.tup xs) from I.hok a _ ea)
    obtain ⟨o, h1, h2, _⟩ := p
    exact PySem.W.kia_one PySem.W.kitx_tuple I.kIn ⟨o, h1, h2⟩ e (fun z => nomatch z) h
  | @dK a kvs ea =>
    cases (show u = Value.ref a from rx)
    obtain ⟨_, _, vs, _, p⟩ := (show ObjOk X.prog X.w H s.heap a (.dK kvs) from I.hok a _ ea)
    obtain ⟨o, es, ep, h1, h2, _⟩ := p
    exact PySem.W.kia_one PySem.W.kitx_dict I.kIn ⟨o, h1, h2.1⟩ e (fun z => nomatch z) h
  | @dT a kvs ea =>
    cases (show u = Value.ref a from rx)
    obtain ⟨_, _, xs, _, o, es, ep, h1, h2, _⟩ := (show ObjOk X.prog X.w H s.heap a (.dT kvs) from I.hok a _ ea)
    exact PySem.W.kia_one PySem.W.kitx_dict I.kIn ⟨o, h1, h2.1⟩ e (fun z => nomatch z) h
  | @ins a C dx fs ea cl ha hn htk hm =>
    cases (show u = Value.ref a from rx)
    obtain ⟨mA, O, _⟩ := ins_get I.hok ea
    obtain ⟨od, J, _⟩ := O.look
    exact PySem.W.kia_one (PySem.W.kitx_own (cl.get _) cl.hd ha hn htk hm) I.kIn J e (fun z => nomatch z) h
end
end L2

namespace L2
open PySem PySem.Spec PyProof.Rows

/-! ### room -/
structure Room (k : Nat) (A : Around) : Prop where
  hd : A.handled = none
  dp : A.depth + 3 * k + 5 < recursionLimit
  un : A.units + 16 * k + 200 < cLine
theorem Room.mono {j k : Nat} {A : Around} (r : Room k A) (h : j ≤ k) : Room j A := ⟨r.hd, by have := r.dp; omega, by have := r.un; omega⟩
theorem Room.deeper {k : Nat} {A : Around} (r : Room (k + 1) A) (env : Env) : Room k (A.deeper env) :=
  ⟨r.hd, by have := r.dp; show A.depth + 1 + 3 * k + 5 < _; omega, by have := r.un; show A.units + 3 + 16 * k + 200 < _; omega⟩
theorem make_depth {A : Around} {C : Addr} {us : List Value} {kw : List (Str × Value)} : (A.under (.builtin "type.__call__" ⟨.ref C :: us, kw⟩)).depth = A.depth + 1 := by
  first | rfl | simp [Around.under, Code.weight, Code.isCreation, Code.isGuard, Code.isCaller, Code.frames, Code.isFrame, guardIds]
theorem make_units {A : Around} {C : Addr} {us : List Value} {kw : List (Str × Value)} : (A.under (.builtin "type.__call__" ⟨.ref C :: us, kw⟩)).units = A.units + 1 := by
  first | rfl | simp [Around.under, Code.cUnits, Code.frames, Code.isFrame]
theorem Room.make {k : Nat} {A : Around} (r : Room (k + 1) A) (C : Addr) (us : List Value) (kw : List (Str × Value)) : Room k (A.under (.builtin "type.__call__" ⟨.ref C :: us, kw⟩)) :=
  ⟨r.hd, by have := r.dp; rw [make_depth]; omega, by have := r.un; rw [make_units]; omega⟩
theorem Room.depth {k : Nat} {A : Around} (r : Room k A) : A.depth < recursionLimit := by have := r.dp; omega

/-! ### argument lists and displays -/
def tNil : TA := fun _ H Q => Q [] H
def tCons (ta : TE) (tr : TA) : TA := fun σ H Q => ta σ H fun x H1 => tr σ H1 fun xs H2 => Q (x :: xs) H2
section
variable {X : Cx} {e : Expr} {es : List Expr} {te : TE} {t : TA} {pos : Pos}
theorem pa_nil : PA X [] tNil := fun _ _ _ _ H Q I h => Calls.spliced_nil ⟨[], H, I, .nil, h⟩
theorem pa_cons (ha : PE X e te) (hr : PA X es t) (hs : starEach (e :: es) X.env = (false, eval e X.env) :: starEach es X.env := by rfl) : PA X (e :: es) (tCons te t) := by
  intro pos pins s σ H Q I h
  rw [hs]
  show wpAny _ _ (spliced ((false, eval e X.env) :: backTo pos (starEach es X.env))) _ _ s
  refine Calls.spliced_cons (thn (ha pins s σ H _ I h) fun u s1 ⟨x, H1, I1, r1, q1⟩ => ?_)
  exact thn (hr pos pins s1 σ H1 _ I1 q1) fun us s2 ⟨xs, H2, I2, r2, q2⟩ => ⟨x :: xs, H2, I2, .cons r1 r2, q2⟩

/-- a tuple, a list of written items -/
def tTup (t : TA) : TE := fun σ H Q => t σ H fun xs H1 => xs.length ≤ sizeLine ∧ ∀ p, H1 p = none → Q (.ref p) (upd H1 p (.tup xs))
def tLst (t : TA) : TE := fun σ H Q => t σ H fun xs H1 => xs.length ≤ sizeLine ∧ ∀ p, H1 p = none → Q (.ref p) (upd H1 p (.lst xs))
theorem pe_tup {x1} (h : PA X es t) : PE X (.Tuple es x1 pos) (tTup t) := by
  intro pins s σ H Q I hq
  refine wpAny_Tuple_spliced (thn (h pos pins s σ H _ I hq) fun us s1 ⟨xs, H1, I1, r, z, q⟩ => ⟨by rw [← r.length]; exact z, ?_⟩)
  have hf : H1 s1.heap.objs.size = none := I1.hok.fresh (Nat.le_refl _)
  refine ⟨.ref s1.heap.objs.size, upd H1 s1.heap.objs.size (.tup xs), I1.laid (t' := s1.toks) (fun b u e => Heap.get?_push_of_some _ e) (Nat.le_refl _) ?_, rfl, q _ hf⟩
  exact ⟨z, us, r, ⟨_, Heap.get?_push_size _ rfl, rfl, _, rfl⟩⟩
theorem pe_lst (h : PA X es t) : PE X (.List es pos) (tLst t) := by
  intro pins s σ H Q I hq
  refine wpAny_List_spliced (thn (h pos pins s σ H _ I hq) fun us s1 ⟨xs, H1, I1, r, z, q⟩ => ⟨by rw [← r.length]; exact z, ?_⟩)
  have hf : H1 s1.heap.objs.size = none := I1.hok.fresh (Nat.le_refl _)
  refine ⟨.ref s1.heap.objs.size, upd H1 s1.heap.objs.size (.lst xs), I1.laid (t' := s1.toks) (fun b u e => Heap.get?_push_of_some _ e) (Nat.le_refl _) ?_, rfl, q _ hf⟩
  exact ⟨z, us, 0, r, Heap.get?_push_size _ rfl⟩
end

/-! ### what a def promises -/
/-- a def's promise: the bound arguments in the parameters' order, the heap, the wanted end, the wanted exception -/
abbrev Sp := List V → Hp → VK → XK → Prop
/-- how an exception lies behind a call (file 08 gives it): the callers' frames, abstract heap and state ahead of the call, the wish, the exception, the state -/
abbrev CXT := List Env → Hp → Shared → XK → Value → Shared → Prop

/-- the state at a call -/
structure Env0 (P : Program) (w : World) (K : PySem.W.Frag) (mg : Str → Option Value) (base : Heap) (A : Around) (outer : List Env) (s : Shared) (H : Hp) : Prop where
  frames : A.frames = some outer
  mod : Mod K mg base
  bs : ∀ b o, base.get? b = some o → s.heap.get? b = some o ∧ H b = none
  bsz : base.objs.size ≤ s.heap.objs.size
  funs : s.heap.FunFrames base outer
  frf : ∀ b ∈ frs outer, H b = none
  hok : HOk P w H s.heap
  bare : AllBare s.gens
  tk : 0 < s.toks
/-- a call's end -/
def CE (outer : List Env) (P : Program) (w : World) (H : Hp) (s : Shared) (Q : VK) (u : Value) (s' : Shared) : Prop :=
  ∃ v H', s'.os = s.os ∧ AllBare s'.gens ∧ Un (frs outer) [] H H' s.heap s'.heap ∧ HOk P w H' s'.heap ∧ RelV v u ∧ Q v H' ∧ 0 < s'.toks
def CR (CX : CXT) (outer : List Env) (P : Program) (w : World) (H : Hp) (s : Shared) (Q : VK) (E : XK) (r : Result) (s' : Shared) : Prop :=
  match r with
  | .ok (.ret u) => CE outer P w H s Q u s'
  | .ok _ => False
  | .error e => CX outer H s E e s'
structure FnOk (P : Program) (w : World) (K : PySem.W.Frag) (mg : Str → Option Value) (base : Heap) (CX : CXT) (k : Nat) (f : Addr) (fd : FuncData) (ps : List Str) (sp : Sp) : Prop where
  len : ∀ vs H Q E, sp vs H Q E → vs.length = ps.length
  run : ∀ (A : Around) (outer : List Env) (s : Shared) (H : Hp) (args : Args) (us : List Value) (vs : List V) (Q : VK) (E : XK), Room k A → Env0 P w K mg base A outer s H → BindsTo s fd args (ps.zip us) → Vals vs us → sp vs H Q E →
    codeAny (model P w) A (.call (.ref f) args) (CR CX outer P w H s Q E) s
theorem FnOk.mono {P : Program} {w : World} {K : PySem.W.Frag} {mg : Str → Option Value} {base : Heap} {CX : CXT} {j k : Nat} {f : Addr} {fd : FuncData} {ps : List Str} {sp : Sp} (F : FnOk P w K mg base CX j f fd ps sp) (h : j ≤ k) :
    FnOk P w K mg base CX k f fd ps sp := ⟨F.len, fun A outer s H args us vs Q E hr => F.run A outer s H args us vs Q E (hr.mono h)⟩
/-- a weaker promise -/
theorem FnOk.imp {P : Program} {w : World} {K : PySem.W.Frag} {mg : Str → Option Value} {base : Heap} {CX : CXT} {k : Nat} {f : Addr} {fd : FuncData} {ps : List Str} {sp sp' : Sp} (F : FnOk P w K mg base CX k f fd ps sp)
    (h : ∀ vs H Q E, sp' vs H Q E → sp vs H Q E) : FnOk P w K mg base CX k f fd ps sp' :=
  ⟨fun vs H Q E q => F.len vs H Q E (h _ _ _ _ q), fun A outer s H args us vs Q E hr he hb hv hs => F.run A outer s H args us vs Q E hr he hb hv (h _ _ _ _ hs)⟩

theorem Env0.make {P : Program} {w : World} {K : PySem.W.Frag} {mg : Str → Option Value} {base : Heap} {A : Around} {outer : List Env} {s : Shared} {H : Hp} (e : Env0 P w K mg base A outer s H) (C : Addr) (us : List Value) (kw : List (Str × Value)) :
    Env0 P w K mg base (A.under (.builtin "type.__call__" ⟨.ref C :: us, kw⟩)) outer s H := ⟨by first | exact e.frames | (simpa [Around.under, Code.envs, Code.isFrame, pushEnvs] using e.frames), e.mod, e.bs, e.bsz, e.funs, e.frf, e.hok, e.bare, e.tk⟩

section
variable {X : Cx} {pins : List (Addr × Obj)} {σ : St} {H : Hp} {s s' : Shared}
/-- from a body: what a callee wants -/
theorem Inv.env0 (I : Inv X pins σ H s) : Env0 X.prog X.w X.K X.mg X.base X.A X.stack s H :=
  ⟨I.ok.frames, I.ok.mod, I.bs, Nat.le_trans I.ok.bsz I.sz, I.stack, I.stkFree, I.hok, I.bare, I.tk⟩
/-- behind a call -/
theorem Inv.after {Q : VK} {u : Value} (I : Inv X pins σ H s) (h : CE X.stack X.prog X.w H s Q u s') : EP X pins σ Q u s' := by
  obtain ⟨v, H', os, bare, un, hok, r, q, ht⟩ := h
  obtain ⟨hh, g, d, t, os'⟩ := s'
  obtain rfl : os' = s.os := os
  exact ⟨v, H', I.call (h' := hh) (g' := g) (d' := d) (t' := t) (ch := []) un hok bare (fun b z => absurd z (by simp)), r, q⟩
end

/-! ### calls -/
/-- f(..): the written arguments, then the defaults dvs; E: what is wanted of an exception -/
def tCall (sp : Sp) (dvs : List V) (E : XK) (t : TA) : TE := fun σ H Q => t σ H fun vs H1 => sp (vs ++ dvs) H1 Q E
/-- o.m(..) of an instance of the class at C -/
def tMeth (C : Addr) (m : Str) (sp : Sp) (dvs : List V) (E : XK) (ta : TE) (t : TA) : TE := fun σ H Q => ta σ H fun x H1 => ∃ a dx fs, x = .ref a ∧ H1 a = some (.ins C dx fs) ∧ fs.lookup m = none ∧
  t σ H1 fun vs H2 => sp (x :: (vs ++ dvs)) H2 Q E
/-- C(..): a new instance and its dict, then __init__ -/
def tMake (C : Addr) (sp : Sp) (dvs : List V) (E : XK) (t : TA) : TE := fun σ H Q => t σ H fun vs H1 => ∀ x dx, H1 x = none → H1 dx = none → dx ≠ x →
  sp (.ref x :: (vs ++ dvs)) (upd (upd H1 dx (.own x)) x (.ins C dx [])) (fun v H2 => v = .non ∧ Q (.ref x) H2) E

/-- how the parameters are bound: us the positional arguments, kw the keywords' values by name, ds the defaults that fill up -/
def Binds (K : PySem.W.Frag) (fd : FuncData) (ps : List Str) (ds : List Value) : Prop :=
  ∀ (s : Shared) (us : List Value), K.In s.heap → (us ++ ds).length = ps.length → BindsTo s fd ⟨us, []⟩ (ps.zip (us ++ ds))
/-- every parameter is given -/
theorem Binds.all {K : PySem.W.Frag} {fd : FuncData} {ps : List Str} (h : ∀ us : List Value, us.length = ps.length → bindArgs fd ⟨us, []⟩ = pure (ps.zip us)) : Binds K fd ps [] := fun s us _ hl => by
  rw [List.append_nil] at hl ⊢
  exact .of_eq (h us hl)

/-- an exception of a callee reaches what this body wants of exceptions -/
def Passes (CX : CXT) (X : Cx) (E : XK) : Prop := ∀ (pins : List (Addr × Obj)) (σ : St) (H : Hp) (s : Shared) (e : Value) (s' : Shared), Inv X pins σ H s → CX X.stack H s E e s' → X.xe e s'

section
variable {X : Cx} {CX : CXT} {k : Nat} {f C : Addr} {fd : FuncData} {ps : List Str} {sp : Sp} {dvs : List V} {ds : List Value} {E : XK} {x m : Str} {p pos apos : Pos} {e o : Expr} {es : List Expr} {ta : TE} {t : TA}

/-- the callee runs -/
theorem run_fn {pins : List (Addr × Obj)} {σ : St} {H : Hp} {s : Shared} {Q : VK} {us : List Value} {vs : List V} (F : FnOk X.prog X.w X.K X.mg X.base CX k f fd ps sp) (hr : Room k X.A) (hb : Binds X.K fd ps ds) (hd : Vals dvs ds) (hx : Passes CX X E)
    (I : Inv X pins σ H s) (r : Vals vs us) (h : sp (vs ++ dvs) H Q E) : wpAny (model X.prog X.w) X.A (call (.ref f) us) (EP X pins σ Q) X.xe s := by
  have r2 : Vals (vs ++ dvs) (us ++ ds) := r.append hd
  have hl : (us ++ ds).length = ps.length := by rw [← r2.length]; exact F.len _ _ _ _ h
  refine wpAny_call (codeAny_mono (F.run X.A X.stack s H ⟨us, []⟩ (us ++ ds) (vs ++ dvs) Q E hr I.env0 (hb s us I.kIn hl) r2 h) fun r s' hq => ?_)
  cases r with
  | error e => exact hx pins σ H s e s' I hq
  | ok fl =>
    cases fl with
    | ret u => exact I.after hq
    | next => exact False.elim hq
    | brk => exact False.elim hq
    | cont => exact False.elim hq

theorem pe_call (F : FnOk X.prog X.w X.K X.mg X.base CX k f fd ps sp) (hr : Room k X.A) (hg : Gl X x) (hm : X.mg x = some (.ref f)) (hk : PySem.W.keepIn X.K (.ref f) = true) (hb : Binds X.K fd ps ds) (hd : Vals dvs ds) (hx : Passes CX X E)
    (ha : PA X (e :: es) t) (hdb : (x == ("__debug__" : Str)) = false := by decide) (he : starEach (e :: es) X.env = (false, eval e X.env) :: starEach es X.env := by rfl) (hpl : (backTo pos (starEach es X.env)).any (·.1) = false := by rfl) :
    PE X (.Call (.Name x p) (e :: es) [] pos) (tCall sp dvs E t) := by
  intro pins s σ H Q I h
  refine wpAny_Call_Name_kw (ld_glob I hg hm ?_ hdb)
  refine PySem.W.callWith_K (h₀ := X.base) I.ok.mod.kin hk (thn (ha pos pins s σ H _ I h) fun us s1 ⟨vs, H1, I1, r, q⟩ => ⟨I1.kIn, ?_⟩) he hpl
  exact run_fn F hr hb hd hx I1 r q

/-- o.m() -/
theorem pe_meth0 {pl : Sem Bool} (he : PE X o ta) (c : Cls X.K C) (hm : Meth X.K C m f) (F : FnOk X.prog X.w X.K X.mg X.base CX k f fd ps sp) (hr : Room k X.A) (hb : Binds X.K fd ps ds) (hd : Vals dvs ds) (hx : Passes CX X E)
    (ht : eval (.Call (.Attribute o m apos) [] [] pos) X.env = (do
      let ov ← eval o X.env
      standAt apos.atName
      let (f, first) ← holding [ov] (getMethod ov m pl)
      callWith pos f first (backTo pos (starEach [] X.env)) (backToKw pos (keywordEach [] X.env))) := by rfl) :
    PE X (.Call (.Attribute o m apos) [] [] pos) (tMeth C m sp dvs E ta tNil) := by
  intro pins s σ H Q I h
  refine PySem.W.methodCall_KW (pl := pl) (thn (he pins s σ H _ I h) fun u s1 ⟨x, H1, I1, rx, a, dx, fs, ex, ea, l, q⟩ => ?_) ht
  subst ex
  obtain rfl : u = Value.ref a := rx
  refine getmeth_ok I1 ea c hm l ?_
  exact PySem.W.callWith_K0 (first := [.ref a]) I1.kIn hm.kp (run_fn (us := [.ref a]) (vs := [.ref a]) F hr hb hd hx I1 (.cons rfl .nil) q)

/-- what a class must have to be made -/
structure Mk (K : PySem.W.Frag) (C f : Addr) : Prop where
  makes : PySem.W.makesIn K C = true
  init : PySem.W.findIn K (.ref C) "__init__" = some (some (.ref f))
  fn : PySem.W.isFn K (.ref f) = true
  kp : PySem.W.keepIn K (.ref C) = true

theorem run_make {pins : List (Addr × Obj)} {σ : St} {H : Hp} {s : Shared} {Q : VK} {us : List Value} {vs : List V} (M : Mk X.K C f) (F : FnOk X.prog X.w X.K X.mg X.base CX k f fd ps sp) (hr : Room (k + 1) X.A) (hb : Binds X.K fd ps ds) (hd : Vals dvs ds)
    (hx : Passes CX X E) (I : Inv X pins σ H s) (r : Vals vs us)
    (h : ∀ x dx, H x = none → H dx = none → dx ≠ x → sp (.ref x :: (vs ++ dvs)) (upd (upd H dx (.own x)) x (.ins C dx [])) (fun v H2 => v = .non ∧ Q (.ref x) H2) E) :
    wpAny (model X.prog X.w) X.A (call (.ref C) us) (EP X pins σ Q) X.xe s := by
  have hq := h (s.heap.objs.size + 1) s.heap.objs.size (I.hok.fresh (Nat.le_succ _)) (I.hok.fresh (Nat.le_refl _)) (Nat.ne_of_lt (Nat.lt_succ_self _))
  have I2 := Inv.made (C := C) I
  have r2 : Vals (V.ref (s.heap.objs.size + 1) :: (vs ++ dvs)) (Value.ref (s.heap.objs.size + 1) :: (us ++ ds)) := .cons rfl (r.append hd)
  have hl : (Value.ref (s.heap.objs.size + 1) :: us ++ ds).length = ps.length := by
    have e := r2.length
    rw [F.len _ _ _ _ hq] at e
    exact e.symm
  refine wpAny_call (make_map (f := f) I.kIn M.makes M.init (beq_iff_eq.mp M.fn) (codeAny_mono (F.run _ X.stack _ _ ⟨Value.ref (s.heap.objs.size + 1) :: us, []⟩ (Value.ref (s.heap.objs.size + 1) :: (us ++ ds)) _ _ E (hr.make C us [])
    (I2.env0.make C us []) (hb _ (Value.ref (s.heap.objs.size + 1) :: us) I2.kIn hl) r2 hq) fun r s' hq' => ?_))
  cases r with
  | error e => exact hx pins σ _ _ e s' I2 hq'
  | ok fl =>
    cases fl with
    | ret u =>
      obtain ⟨v, H', I3, rv, ev, q3⟩ := I2.after hq'
      subst ev
      exact ⟨rv, ⟨V.ref (s.heap.objs.size + 1), H', I3, rfl, q3⟩⟩
    | next => exact False.elim hq'
    | brk => exact False.elim hq'
    | cont => exact False.elim hq'
theorem pe_make (M : Mk X.K C f) (F : FnOk X.prog X.w X.K X.mg X.base CX k f fd ps sp) (hr : Room (k + 1) X.A) (hg : Gl X x) (hm : X.mg x = some (.ref C)) (hb : Binds X.K fd ps ds) (hd : Vals dvs ds) (hx : Passes CX X E)
    (ha : PA X (e :: es) t) (hdb : (x == ("__debug__" : Str)) = false := by decide) (he : starEach (e :: es) X.env = (false, eval e X.env) :: starEach es X.env := by rfl) (hpl : (backTo pos (starEach es X.env)).any (·.1) = false := by rfl) :
    PE X (.Call (.Name x p) (e :: es) [] pos) (tMake C sp dvs E t) := by
  intro pins s σ H Q I h
  refine wpAny_Call_Name_kw (ld_glob I hg hm ?_ hdb)
  refine PySem.W.callWith_K (h₀ := X.base) I.ok.mod.kin M.kp (thn (ha pos pins s σ H _ I h) fun us s1 ⟨vs, H1, I1, r, q⟩ => ⟨I1.kIn, ?_⟩) he hpl
  exact run_make M F hr hb hd hx I1 r q
end

/-! ### keywords -/
section
variable {X : Cx} {CX : CXT} {k : Nat} {f C : Addr} {fd : FuncData} {ps ks : List Str} {sp : Sp} {E : XK} {x m : Str} {p pos apos kpos : Pos} {e o : Expr} {es : List Expr} {kws : List Keyword} {te ta : TE} {t tk : TA} {nm : Option Str}

variable {g : List Value → List Value → List Value} {gV : List V → List V → List V}
end

/-! ### a def's body keeps its promise -/
/-- names: the parameters first -/
structure FnScope (N P : List Str) (sc : Scope) : Prop where
  kind : sc.kind = .function
  co : sc.isCoroutine = false
  gen : sc.isGenerator = false
  nd : N.Nodup
  pre : N.take P.length = P
  par : ∀ x ∈ P, sc.names.lookup x = some .local ∨ sc.names.lookup x = some .cell
  nofree : ∀ y ∈ sc.names, y.2 ≠ .free

theorem bindL_out {kindOf : Str → Option NameKind} {x : Str} : ∀ {binds : List (Str × Value)} {m : Str → Option Value}, (∀ v, (x, v) ∉ binds) → bindL kindOf binds m x = m x
  | [], _, _ => rfl
  | (n, v) :: r, m, h => by
    unfold bindL
    rw [bindL_out fun w hw => h w (List.mem_cons_of_mem _ hw)]
    split
    · have : x ≠ n := by rintro rfl; exact h v List.mem_cons_self
      simp [this]
    · rfl
theorem bindC_out {kindOf : Str → Option NameKind} {x : Str} : ∀ {binds : List (Str × Value)} {m : Str → Option Value}, (∀ v, (x, v) ∉ binds) → bindC kindOf binds m x = m x
  | [], _, _ => rfl
  | (n, v) :: r, m, h => by
    unfold bindC
    rw [bindC_out fun w hw => h w (List.mem_cons_of_mem _ hw)]
    split
    · rfl
    · have : x ≠ n := by rintro rfl; exact h v List.mem_cons_self
      simp [this]
theorem bindL_get {kindOf : Str → Option NameKind} {x : Str} {v : Value} : ∀ {P : List Str} {vs : List Value} {i : Nat} {m : Str → Option Value}, P.Nodup → P[i]? = some x → vs[i]? = some v → kindOf x = some .local →
    bindL kindOf (P.zip vs) m x = some v
  | [], _, _, _, _, h, _, _ => by simp at h
  | _ :: _, [], _, _, _, _, h, _ => by simp at h
  | p :: P, w :: vs, 0, m, nd, h1, h2, hk => by
    simp at h1 h2; subst h1; subst h2
    show bindL kindOf ((p, w) :: P.zip vs) m p = _
    unfold bindL
    rw [bindL_out fun v hv => (List.nodup_cons.mp nd).1 (List.of_mem_zip hv).1, if_pos hk]
    simp
  | p :: P, w :: vs, i + 1, m, nd, h1, h2, hk => by
    show bindL kindOf ((p, w) :: P.zip vs) m x = _
    unfold bindL
    exact bindL_get (i := i) (List.nodup_cons.mp nd).2 (by simpa using h1) (by simpa using h2) hk
theorem bindC_get {kindOf : Str → Option NameKind} {x : Str} {v : Value} : ∀ {P : List Str} {vs : List Value} {i : Nat} {m : Str → Option Value}, P.Nodup → P[i]? = some x → vs[i]? = some v → kindOf x ≠ some .local →
    bindC kindOf (P.zip vs) m x = some v
  | [], _, _, _, _, h, _, _ => by simp at h
  | _ :: _, [], _, _, _, _, h, _ => by simp at h
  | p :: P, w :: vs, 0, m, nd, h1, h2, hk => by
    simp at h1 h2; subst h1; subst h2
    show bindC kindOf ((p, w) :: P.zip vs) m p = _
    unfold bindC
    rw [bindC_out fun v hv => (List.nodup_cons.mp nd).1 (List.of_mem_zip hv).1, if_neg hk]
    simp
  | p :: P, w :: vs, i + 1, m, nd, h1, h2, hk => by
    show bindC kindOf ((p, w) :: P.zip vs) m x = _
    unfold bindC
    exact bindC_get (i := i) (List.nodup_cons.mp nd).2 (by simpa using h1) (by simpa using h2) hk

/-- the names' values at the entry -/
def start (N : List Str) (vs : List V) : St := vs.map some ++ List.replicate (N.length - vs.length) none

/-- the context of a def's body, at its entry; an exception leaves the frame, then lies as CX says -/
def cxOf (CX : CXT) (P : Program) (w : World) (K : PySem.W.Frag) (mg : Str → Option Value) (base : Heap) (N : List Str) (qual : Str) (scope : Scope) (f : Addr) (cd : Value) (A : Around) (outer : List Env) (s : Shared) (H : Hp) (E : XK) : Cx where
  prog := P
  w := w
  K := K
  mg := mg
  base := base
  A := A.deeper (envOfC qual scope s.heap.objs.size f cd)
  N := N
  s₀ := s
  H₀ := H
  env := envOfC qual scope s.heap.objs.size f cd
  outer := outer
  stack := envOfC qual scope s.heap.objs.size f cd :: outer
  ex := []
  calm := true
  fn := fun _ => true
  pn := []
  xe := fun e s' => wpAny (model P w) (A.deeper (envOfC qual scope s.heap.objs.size f cd)) (leaving (envOfC qual scope s.heap.objs.size f cd) e) (fun _ s'' => CX outer H s E e s'') (fun e' s'' => CX outer H s E e' s'') s'

theorem cell_has {sc : Scope} {n : Nat} {x : Str} (h : sc.names.lookup x = some .cell) : ∃ c, (cellsFrom n sc.names []).lookup x = some c := by
  have q := PySem.W.cellsFrom_some sc.names n [] (.inl h)
  exact Option.isSome_iff_exists.mp q

theorem inv_start {CX : CXT} {P : Program} {w : World} {K : PySem.W.Frag} {mg : Str → Option Value} {base : Heap} {N ps : List Str} {qual : Str} {scope : Scope} {f : Addr} {cd : Value} {A : Around} {outer : List Env} {s s1 : Shared} {H : Hp} {E : XK} {us : List Value} {vs : List V}
    (S : FnScope N ps scope) (hd : A.handled = none) (e0 : Env0 P w K mg base A outer s H) (hl : vs.length = ps.length) (r : Vals vs us)
    (x : InCallC s s.heap.objs.size (bindL (envOfC qual scope s.heap.objs.size f cd).kindOf (ps.zip us) fun _ => none) (cellsFrom (s.heap.objs.size + 1) scope.names []) (bindC (envOfC qual scope s.heap.objs.size f cd).kindOf (ps.zip us) fun _ => none) s1) (ht : 0 < s1.toks) :
    Inv (cxOf CX P w K mg base N qual scope f cd A outer s H E) [] (start N vs) H s1 := by
  have hpl : ps.length ≤ N.length := by have := congrArg List.length S.pre; rw [List.length_take] at this; omega
  obtain ⟨h1, tk, rfl, hk⟩ := x.done
  have noA : ∀ b : Addr, b ∉ (cxOf CX P w K mg base N qual scope f cd A outer s H E).ex := fun b z => absurd (show b ∈ ([] : List Addr) from z) (by simp)
  refine ⟨⟨e0.mod, S.kind, rfl, rfl, Nat.le_refl _, fun y z c h1 h2 => ?_, fun y hy => ?_, fun y c _ h => ?_, fun _ => hd, Around.frames_deeper e0.frames, .inr ⟨rfl, rfl⟩, fun b z => absurd z (noA b), e0.bs, e0.bsz, fun b _ _ => noA b, fun b z => absurd z (noA b), e0.funs, e0.frf⟩,
    rfl, e0.bare, Un.kept hk, ⟨_, x.toInCall.ns, fun i y v h1 h2 h3 => ?_⟩, fun y c h => ⟨_, x.cell y c h⟩, e0.hok.fresh (Nat.le_refl _), fun y c h => ?_, fun p hp => absurd (show p ∈ ([] : List (Addr × Obj)) from hp) (by simp), e0.hok.kept hk, ?_, ht⟩
  · exact name_of_addr x.apart (PySem.mem_of_lookup h1) (PySem.mem_of_lookup h2)
  · have hy : scope.names.lookup y = some .cell ∨ scope.names.lookup y = some .free := hy
    rcases hy with hy | hy
    · exact cell_has hy
    · exact absurd rfl (S.nofree _ (PySem.mem_of_lookup hy))
  · exact Nat.le_of_lt (x.above y c (PySem.mem_of_lookup h))
  · have hi : i < vs.length := by
      unfold start at h2
      by_cases hi : i < vs.length
      · exact hi
      · rw [List.getElem?_append_right (by simpa using hi)] at h2
        rw [List.getElem?_replicate] at h2
        split at h2 <;> cases h2
    have ha : vs[i]? = some v := by
      unfold start at h2
      rw [List.getElem?_append_left (by simpa using hi), List.getElem?_map] at h2
      cases e : vs[i]? with
      | none => rw [e] at h2; cases h2
      | some a => rw [e] at h2; cases h2; rfl
    obtain ⟨u, hu, rv⟩ := r.get ha
    have hp : ps[i]? = some y := by
      rw [← S.pre, List.getElem?_take_of_lt (by omega)]; exact h1
    have ndP : ps.Nodup := by rw [← S.pre]; exact S.nd.sublist (List.take_sublist _ _)
    refine ⟨u, rv, ?_⟩
    rcases S.par y (List.mem_of_getElem? hp) with k | k
    · exact .inl ⟨k, bindL_get ndP hp hu k⟩
    · obtain ⟨c, e⟩ := cell_has (n := s.heap.objs.size + 1) k
      refine .inr ⟨.inl k, c, e, ?_⟩
      have q := x.cell y c e
      rw [bindC_get ndP hp hu (by show scope.names.lookup y ≠ _; rw [k]; decide)] at q
      exact q
  · exact e0.hok.fresh (Nat.le_of_lt (x.above y c (PySem.mem_of_lookup h)))
  · unfold start
    show _ = N.length
    rw [List.length_append, List.length_map, List.length_replicate]
    omega

/-- THE RULE: a def (or a method) of the text, by its body. The body's reading t is chosen for each entry; it is run at the parameters' values -/
theorem fn_of {CX : CXT} {P : Program} {w : World} {K : PySem.W.Frag} {mg : Str → Option Value} {base : Heap} {k : Nat} {f : Addr} {name qual : Str} {params : Arguments} {body : List Stmt} {scope : Scope} {dV kV doc pm cdv ct oc : Value} {an od : Option Addr}
    {osl : Array (Option Value)} {N ps : List Str} {sp : Sp} (lk : K.lookup f = some ⟨oc, od, .func (PySem.W.fnOf name qual params body scope dV kV doc pm an cdv ct), osl⟩) (hcd : PySem.W.codeIn K cdv qual = true) (S : FnScope N ps scope)
    (len : ∀ vs H Q E, sp vs H Q E → vs.length = ps.length)
    (hbody : ∀ (A : Around) (outer : List Env) (s : Shared) (H : Hp) (vs : List V) (Q : VK) (E : XK), Room k (A.deeper (envOfC qual scope s.heap.objs.size f cdv)) → sp vs H Q E →
      ∃ t, PSs (cxOf CX P w K mg base N qual scope f cdv A outer s H E) body t ∧ t { nx := fun _ H' => Q .non H', rt := Q } (start N vs) H) :
    FnOk P w K mg base CX (k + 1) f (PySem.W.fnOf name qual params body scope dV kV doc pm an cdv ct) ps sp := by
  refine ⟨len, fun A outer s H args us vs Q E hr e0 hb r hsp => ?_⟩
  have hl := len _ _ _ _ hsp
  have KX : K.In s.heap := e0.mod.kin.keeps fun b o e => (e0.bs b o e).1
  have lim : s.heap.NoLimit := e0.mod.nolimit.keeps fun b o e => (e0.bs b o e).1
  have hkind : ∀ y ∈ ps.zip us, scope.names.lookup y.1 = some .local ∨ (scope.names.lookup y.1 = some .cell ∧ ((cellsFrom (s.heap.objs.size + 1) scope.names []).lookup y.1).isSome = true) := fun ⟨n, v⟩ hy => by
    rcases S.par n (List.of_mem_zip hy).1 with q | q
    · exact .inl q
    · exact .inr ⟨q, PySem.W.cellsFrom_some _ _ _ (.inl q)⟩
  refine codeAny_call_function hr.depth (KX _ _ lk) rfl S.co S.gen rfl (PySem.W.codeRec_of KX hcd) (hb _ _ _ _ ?_)
  refine wpAny_pos e0.tk (wpAny_newFunctionEnv_cells S.kind hkind fun env he s1 x htk => ?_)
  subst he
  refine ⟨lim.keeps x.toInCall.keep, codeAny_func ?_⟩
  obtain ⟨t, ht, hq⟩ := hbody A outer s H vs Q E (hr.deeper _) hsp
  have I : Inv (cxOf CX P w K mg base N qual scope f cdv A outer s H E) [] (start N vs) H s1 := inv_start S hr.hd e0 hl r x htk
  refine wpAny_mono (ht [] s1 (start N vs) H _ I hq) (fun fl s' hs => ?_) fun e s' hs => hs
  have fin : ∀ {σ' : St} {H' : Hp} {v : V} {u : Value}, Inv (cxOf CX P w K mg base N qual scope f cdv A outer s H E) [] σ' H' s' → RelV v u → Q v H' → CE outer P w H s Q u s' :=
    fun {σ' H' v u} J rv q => ⟨v, H', J.os, J.bare, J.base, J.hok, rv, q, J.tk⟩
  cases fl with
  | ret u =>
    obtain ⟨v, σ', H', J, rv, q⟩ := hs
    exact fin J rv q
  | next =>
    obtain ⟨σ', H', J, q⟩ := hs
    exact fin (v := V.non) (u := Value.none) J rfl q
  | brk =>
    obtain ⟨_, _, _, q⟩ := hs
    exact False.elim q
  | cont =>
    obtain ⟨_, _, _, q⟩ := hs
    exact False.elim q
end L2

namespace L2
open PySem PySem.Spec PyProof.Rows
section
variable {X : Cx} {x : Str} {p pos : Pos} {e : Expr} {es : List Expr} {t : TA} {id T : String} {r : List V → Hp → VK → Prop}

def tCB (r : List V → Hp → VK → Prop) (t : TA) : TE := fun σ H Q => t σ H fun vs H1 => r vs H1 Q
/-- f(e, ..), f a built-in function -/
theorem pe_callB (hc : CallR X (.builtin id) r) (hg : Gl X x) (hm : X.mg x = none) (hv : bootBuiltins x = some (.builtin id)) (ha : PA X (e :: es) t) (hn : x ≠ "__name__" := by decide) (hdb : (x == ("__debug__" : Str)) = false := by decide)
    (he : starEach (e :: es) X.env = (false, eval e X.env) :: starEach es X.env := by rfl) (hpl : (backTo pos (starEach es X.env)).any (·.1) = false := by rfl) : PE X (.Call (.Name x p) (e :: es) [] pos) (tCB r t) := by
  intro pins s σ H Q I h
  refine wpAny_Call_Name_kw (ld_blt I hg hm hv ?_ hn hdb)
  exact PyProof.Rows.callWith_builtin1 (thn (ha pos pins s σ H _ I h) fun us s1 ⟨vs, H1, I1, r1, q1⟩ => hc pins s1 σ H1 vs us Q I1 r1 q1) he hpl
/-- T(e, ..), T a built-in type -/
theorem pe_callTy (hc : CallR X (.type T) r) (hg : Gl X x) (hm : X.mg x = none) (hv : bootBuiltins x = some (.type T)) (ha : PA X (e :: es) t) (hn : x ≠ "__name__" := by decide) (hdb : (x == ("__debug__" : Str)) = false := by decide)
    (he : starEach (e :: es) X.env = (false, eval e X.env) :: starEach es X.env := by rfl) (hpl : (backTo pos (starEach es X.env)).any (·.1) = false := by rfl) : PE X (.Call (.Name x p) (e :: es) [] pos) (tCB r t) := by
  intro pins s σ H Q I h
  refine wpAny_Call_Name_kw (ld_blt I hg hm hv ?_ hn hdb)
  exact PyProof.Rows.callWith_type1 (thn (ha pos pins s σ H _ I h) fun us s1 ⟨vs, H1, I1, r1, q1⟩ => hc pins s1 σ H1 vs us Q I1 r1 q1) he hpl
end
end L2

namespace L2
open PySem PySem.Spec PyProof.Rows

/-! ### lists of pairs as tables -/
section
variable {κ : Type} [DecidableEq κ]
def valV (kvs : List (κ × V)) (k : κ) : Option V := (kvs.find? fun kv => decide (kv.1 = k)).map (·.2)

theorem valV_pos {p : κ × V} {r : List (κ × V)} {k : κ} (e : p.1 = k) : valV (p :: r) k = some p.2 := by simp [valV, List.find?_cons, e]
theorem valV_neg {p : κ × V} {r : List (κ × V)} {k : κ} (e : ¬ p.1 = k) : valV (p :: r) k = valV r k := by simp [valV, List.find?_cons, e]

theorem RelO.isSome_eq {o : Option V} {u : Option Value} (r : RelO o u) : o.isSome = u.isSome := by
  cases o with
  | none => cases u with
    | none => rfl
    | some _ => exact (show False from r).elim
  | some _ => cases u with
    | none => exact (show False from r).elim
    | some _ => rfl

/-- raw tables of the same keys -/
theorem KV.val {kvs : List (κ × V)} {vs : List (κ × Value)} (r : KV kvs vs) (k : κ) : RelO (valV kvs k) (valueAt vs k) := by
  unfold KV at r
  induction r with
  | nil => exact True.intro
  | @cons p q ps qs h t ih =>
    obtain ⟨h1, h2⟩ := h
    by_cases e : p.1 = k
    · have e' : q.1 = k := h1.symm.trans e
      have b : valueAt (q :: qs) k = some q.2 := by simp [valueAt, List.find?_cons, e']
      rw [valV_pos e, b]; exact h2
    · have e' : ¬ q.1 = k := fun z => e (h1.trans z)
      have b : valueAt (q :: qs) k = valueAt qs k := by simp [valueAt, List.find?_cons, e']
      rw [valV_neg e, b]; exact ih
end


/-! ### a tracked dict, its keys ints and texts or tuples of these -/
theorem kV_is {P : Program} {w : World} {k : Key} {u : Value} (r : RelV (kV k) u) : (mixKind P w).is k u = true := by
  cases k with
  | inl i => obtain ⟨t, e⟩ := (show ∃ t, u = Value.int i t from r); subst e; exact mixKind_int P w i t
  | inr x => obtain ⟨t, e⟩ := (show ∃ t, u = Value.str x t from r); subst e; exact mixKind_str P w x t


section
variable {P : Program} {w : World} {H : Hp} {h : Heap} {a : Addr}
theorem rd_of {u : HO} (ok : HOk P w H h) (e : Rd H a u) : ObjOk P w H h a u := e.ok ok
theorem dk_rd {kvs : List (Key × V)} (ok : HOk P w H h) (e : Rd H a (.dK kvs)) : kvs.length ≤ sizeLine ∧ (a == sysModules) = false ∧ ∃ vs, KV kvs vs ∧ h.DictOf (mixKind P w) a vs :=
  show ObjOk P w H h a (.dK kvs) from rd_of ok e
end



section
variable {X : Cx} {pins : List (Addr × Obj)} {σ : St} {H : Hp} {s : Shared} {a : Addr} {y v : V} {u r : Value} {o : Option V} {A : Around} {E : Value → Shared → Prop}


end

section
variable {X : Cx} {pins : List (Addr × Obj)} {σ : St} {H : Hp} {s : Shared} {a : Addr} {kvs : List (Key × V)} {k : Key} {u : Value} {A : Around} {E : Value → Shared → Prop}
end


/-! ### readings and rules -/



section
variable {X : Cx} {o i e value : Expr} {pos pos' tpos : Pos} {td ty tv : TE}
end


/-! ### displays -/
section
variable {X : Cx} {pos : Pos}
end




/-! ### methods -/


section
variable {X : Cx} {pins : List (Addr × Obj)} {σ : St} {H : Hp} {s : Shared} {a : Addr} {y d : V} {u r : Value} {o : Option V} {A : Around} {E : Value → Shared → Prop}
end

section
variable {X : Cx} {o e f : Expr} {apos cpos : Pos} {td ty tx : TE}
end

/-! ### dict(d): a copy -/
section
variable {X : Cx} {pins : List (Addr × Obj)} {σ : St} {H : Hp} {s : Shared} {a : Addr} {kvs : List (Key × V)} {A : Around} {E : Value → Shared → Prop}
end


section
variable {X : Cx} {pins : List (Addr × Obj)} {σ : St} {H : Hp} {s : Shared} {a : Addr} {y : V} {u : Value} {A : Around} {E : Value → Shared → Prop}
end
end L2

namespace HT
open PySem PyProof.Rows



section
open PySem.SeqAt
open PySem.AutoSeq1 (wpAny_loadPart')
open PySem.MeetsSeq PySem.MeetsSeq2 PySem.MeetsSeq3

end

section
variable {prog : Program} {w : World} {A : Around} {E : Value → Shared → Prop} {s : Shared}



/-! ### t[a:b], not the whole -/
/-- a slice's bound as a place among n (d where it is left out) -/
def sIx (n d : Nat) : Option Int → Nat
  | none => d
  | some v => if v < 0 then (v + (n : Int)).toNat else min v.toNat n
theorem sIx_none (n d : Nat) : sIx n d none = d := rfl
theorem sIx_nat (n d k : Nat) : sIx n d (some (k : Int)) = min k n := by
  show (if (k : Int) < 0 then ((k : Int) + (n : Int)).toNat else min (k : Int).toNat n) = min k n
  rw [if_neg (by omega), Int.toNat_natCast]

end
end HT

namespace L2
open PySem PySem.Spec PyProof.Rows

/-! ### the parts of a slice -/
abbrev TO := St → Hp → (Option Int → Hp → Prop) → Prop
/-- a slice's part (left out, or an int) -/
def PO (X : Cx) (e : Option Expr) (t : TO) : Prop :=
  ∀ (pins : List (Addr × Obj)) (s : Shared) (σ : St) (H : Hp) (Q : Option Int → Hp → Prop), Inv X pins σ H s → t σ H Q →
    wpAny (model X.prog X.w) X.A (evalPart e X.env) (fun u s' => ∃ o H', Inv X pins σ H' s' ∧ IsPart u o ∧ Q o H') X.xe s
def tNoPart : TO := fun _ H Q => Q none H
def tPart (t : TE) : TO := fun σ H Q => t σ H fun x H1 => ∃ i, x = .int i ∧ Q (some i) H1


section
variable {X : Cx} {e : Expr} {te : TE} {lo hi : Option Expr} {tl th : TO} {pos p2 : Pos}

theorem po_none : PO X none tNoPart := by
  intro pins s σ H Q I h
  rw [evalPart_none]
  exact wpAny_pure ⟨none, H, I, .none, h⟩
theorem po_some (h : PE X e te) : PO X (some e) (tPart te) := by
  intro pins s σ H Q I hw
  rw [evalPart_some]
  refine thn (h pins s σ H _ I hw) fun u s1 ⟨x, H1, I1, r1, q1⟩ => ?_
  obtain ⟨i, rfl, q⟩ := q1
  obtain ⟨t, rfl⟩ := r1
  exact ⟨some i, H1, I1, .int i t, q⟩

/-- what a slice of a value is, by values: the slice object stands at sl -/
def SlR (X : Cx) (r : V → Option Int → Option Int → Hp → VK → Prop) : Prop :=
  ∀ (pins : List (Addr × Obj)) (s : Shared) (σ : St) (H : Hp) (x : V) (v vl vu : Value) (lo hi : Option Int) (sl : Addr) (Q : VK), Inv X pins σ H s → RelV x v → s.heap.IsSliceOf sl vl vu .none → IsPart vl lo → IsPart vu hi → r x lo hi H Q →
    ∃ T id, typeLookup (.type T) "__getitem__" = pure (some (.builtin id)) ∧ s.TypeIs v T ∧ wpAny (model X.prog X.w) X.A (getItem v (.ref sl)) (EP X pins σ Q) X.xe s
theorem SlR.or {r r' : V → Option Int → Option Int → Hp → VK → Prop} (h : SlR X r) (h' : SlR X r') : SlR X (fun x lo hi H Q => r x lo hi H Q ∨ r' x lo hi H Q) := by
  intro pins s σ H x v vl vu lo hi sl Q I rx hs pl pu q
  rcases q with q | q
  · exact h pins s σ H x v vl vu lo hi sl Q I rx hs pl pu q
  · exact h' pins s σ H x v vl vu lo hi sl Q I rx hs pl pu q
def tSl (r : V → Option Int → Option Int → Hp → VK → Prop) (te : TE) (tl th : TO) : TE := fun σ H Q => te σ H fun x H1 => tl σ H1 fun l H2 => th σ H2 fun u H3 => r x l u H3 Q
/-- a[lo:hi], any a -/
theorem pe_slice {r : V → Option Int → Option Int → Hp → VK → Prop} (hr : SlR X r) (he : PE X e te) (hl : PO X lo tl) (hu : PO X hi th) : PE X (.Subscript e (.Slice lo hi none p2) pos) (tSl r te tl th) := by
  intro pins s σ H Q I h
  refine Subscript_ (thn (he pins s σ H _ I h) fun v s1 ⟨x, H1, I1, r1, q1⟩ => ?_)
  refine wpAny_Slice (thn (hl pins s1 σ H1 _ I1 q1) fun vl s2 ⟨l, H2, I2, pl, q2⟩ => thn (hu pins s2 σ H2 _ I2 q2) fun vu s3 ⟨u, H3, I3, pu, q3⟩ => ?_)
  rw [evalPart_none]
  refine wpAny_pure ?_
  have I4 : Inv X pins σ H3 { s3 with heap := s3.heap.push { cls := .type "slice", data := .fields #[vl, vu, .none] } } := I3.kept (t' := s3.toks) fun b ob q => Heap.get?_push_of_some _ q
  obtain ⟨T, id, hT, ht, hg⟩ := hr pins { s3 with heap := s3.heap.push { cls := .type "slice", data := .fields #[vl, vu, .none] } } σ H3 x v vl vu l u s3.heap.objs.size Q I4 r1 (Heap.IsSliceOf.new ..) pl pu q3
  show wpAny (model X.prog X.w) X.A (subscriptTail e (.Slice lo hi none p2) v (.ref s3.heap.objs.size)) (EP X pins σ Q) X.xe { s3 with heap := s3.heap.push { cls := .type "slice", data := .fields #[vl, vu, .none] } }
  exact tail_any (ops := [.ref s3.heap.objs.size, v]) ht hT hg (by with_unfolding_all rfl)

/-- the items of xs[lo:hi] -/
def cutV (xs : List V) (lo hi : Option Int) : List V := (xs.drop (HT.sIx xs.length 0 lo)).take (HT.sIx xs.length xs.length hi - HT.sIx xs.length 0 lo)
theorem cutV_length (xs : List V) (lo hi : Option Int) : (cutV xs lo hi).length ≤ xs.length := by
  unfold cutV
  rw [List.length_take, List.length_drop]
  omega

/-! ### t < u, t + u -/
end
end L2

namespace L2
open PySem PySem.Spec PyProof.Rows

/-! ### places -/
/-- the place that an index of any sign means -/
def ixN (n : Nat) (i : Int) : Option Nat := if 0 ≤ i then (if i < n then some i.toNat else none) else if -(n : Int) ≤ i then some (i + n).toNat else none
def atI {α : Type} (xs : List α) (i : Int) : Option α := (ixN xs.length i).bind fun j => xs[j]?
theorem ixN_seq {n : Nat} {i : Int} {j : Nat} (h : ixN n i = some j) : seqIndex? i n = some j ∧ j < n ∧ -(n : Int) ≤ i ∧ i < n := by
  unfold ixN at h
  by_cases h0 : 0 ≤ i
  · rw [if_pos h0] at h
    by_cases h1 : i < n
    · rw [if_pos h1] at h
      have e : i.toNat = j := Option.some.inj h
      exact ⟨by rw [seqIndex_of h0 h1, e], by omega, by omega, h1⟩
    · rw [if_neg h1] at h; cases h
  · rw [if_neg h0] at h
    by_cases h1 : -(n : Int) ≤ i
    · rw [if_pos h1] at h
      have e : (i + n).toNat = j := Option.some.inj h
      exact ⟨by rw [seqIndex_neg (by omega) h1, e], by omega, h1, by omega⟩
    · rw [if_neg h1] at h; cases h
theorem atI_get {α : Type} {xs : List α} {i : Int} {v : α} (h : atI xs i = some v) : ∃ j, seqIndex? i xs.length = some j ∧ xs[j]? = some v ∧ j < xs.length ∧ -(xs.length : Int) ≤ i ∧ i < xs.length := by
  unfold atI at h
  cases e : ixN xs.length i with
  | none => rw [e] at h; cases h
  | some j =>
    rw [e] at h
    obtain ⟨h1, h2, h3, h4⟩ := ixN_seq e
    exact ⟨j, h1, h, h2, h3, h4⟩
theorem atI_nat {α : Type} {xs : List α} {j : Nat} {v : α} (h : xs[j]? = some v) : atI xs (j : Int) = some v := by
  have hj : j < xs.length := (List.getElem?_eq_some_iff.mp h).1
  have e : ixN xs.length (j : Int) = some j := by
    unfold ixN
    rw [if_pos (by omega), if_pos (by omega)]; simp
  unfold atI; rw [e]; exact h
theorem atI_last {α : Type} (xs : List α) (v : α) : atI (xs ++ [v]) (-1) = some v := by
  have hl : (xs ++ [v]).length = xs.length + 1 := by simp
  have e : ixN (xs ++ [v]).length (-1) = some xs.length := by
    unfold ixN
    rw [hl, if_neg (by decide), if_pos (by omega)]
    congr 1
    omega
  unfold atI
  rw [e]
  show (xs ++ [v])[xs.length]? = some v
  simp

/-! ### what may be subscripted -/
/-- what stands as an index of a plain subscript -/
def PlainIx (b : Expr) : Prop := ∀ o i, subscripted b false o i = operate [o, i] (getItem o i)
/-- a subscript by values -/
def IxR (X : Cx) (r : R2) : Prop :=
  ∀ (value slice : Expr) (pins : List (Addr × Obj)) (s : Shared) (σ : St) (H : Hp) (x y : V) (v u : Value) (Q : VK), Inv X pins σ H s → RelV x v → RelV y u → r x y H Q →
    subscripted slice false v u = operate [v, u] (getItem v u) → wpAny (model X.prog X.w) X.A (subscriptTail value slice v u) (EP X pins σ Q) X.xe s
/-- a call of a builtin's method by values: the receiver, the arguments -/
def MtR (X : Cx) (id : String) (r : V → List V → Hp → VK → Prop) : Prop :=
  ∀ (pins : List (Addr × Obj)) (s : Shared) (σ : St) (H : Hp) (x : V) (xs : List V) (v : Value) (us : List Value) (Q : VK), Inv X pins σ H s → RelV x v → Vals xs us → r x xs H Q →
    wpAny (model X.prog X.w) X.A (call (.builtin id) (v :: us)) (EP X pins σ Q) X.xe s
section
variable {X : Cx} {a b : Expr} {ta tb : TE} {pos : Pos}
/-- a[b] -/
theorem pe_ix {r : R2} (hr : IxR X r) (ha : PE X a ta) (hb : PE X b tb) (hs : PlainIx b) : PE X (.Subscript a b pos) (tOp r ta tb) := by
  intro pins s σ H Q I h
  exact Subscript_ (binT ha hb I h fun v u s2 x y H2 I2 rx ry q => hr a b pins s2 σ H2 x y v u Q I2 rx ry q (hs _ _))

def rIxL (K : PySem.W.Frag) : R2 := fun x y H Q => ∃ p xs i v, x = .ref p ∧ y = .int i ∧ SqL K H p xs ∧ atI xs i = some v ∧ Q v H
def rIxT (K : PySem.W.Frag) : R2 := fun x y H Q => ∃ p xs i v, x = .ref p ∧ y = .int i ∧ SqT K H p xs ∧ atI xs i = some v ∧ Q v H
def rIxS : R2 := fun x y H Q => ∃ z i c, x = .str z ∧ y = .int i ∧ z.length ≤ sizeLine ∧ atI z.cps.toList i = some c ∧ Q (.str ⟨#[c]⟩) H
theorem ix_list : IxR X (rIxL X.K) := by
  intro value slice pins s σ H x y v u Q I rx ry h hs
  obtain ⟨p, xs, i, z, rfl, rfl, hq, he, q⟩ := h
  cases rx
  obtain ⟨t, rfl⟩ := ry
  obtain ⟨its, r, pl, hz⟩ := I.list hq
  obtain ⟨j, h1, h2, h3, h4, h5⟩ := atI_get he
  obtain ⟨w, ew, rw'⟩ := r.get h2
  have hl := r.length
  have hn := line63
  have fin : EP X pins σ Q w s := ⟨z, H, I, rw', q⟩
  by_cases h0 : 0 ≤ i
  · have hj : i.toNat = j := by
      rw [seqIndex_of h0 h5] at h1
      exact Option.some.inj h1
    exact item_listR pl.isList h0 (by omega) (by rw [hj]; simpa using ew) fin hs
  · have hj : (i + (its.toArray.size : Int)).toNat = j := by
      rw [seqIndex_neg (by omega) h4] at h1
      rw [List.size_toArray, ← hl]
      exact Option.some.inj h1
    exact subscriptTail_builtinR (x := w) pl.isList.typeIs slot_list_getitem.lookup
      (wpAny_getItem_list_neg (Q := fun r s' => r = w ∧ EP X pins σ Q r s') pl.isList (by omega) (by rw [List.size_toArray] <;> omega) (by omega) (by rw [hj]; simpa using ew) ⟨rfl, fin⟩) hs
theorem ix_tup : IxR X (rIxT X.K) := by
  intro value slice pins s σ H x y v u Q I rx ry h hs
  obtain ⟨p, xs, i, z, rfl, rfl, hq, he, q⟩ := h
  cases rx
  obtain ⟨t, rfl⟩ := ry
  obtain ⟨its, r, pl, hz⟩ := I.tuple hq
  obtain ⟨j, h1, h2, h3, h4, h5⟩ := atI_get he
  obtain ⟨w, ew, rw'⟩ := r.get h2
  have hl := r.length
  have hn := line63
  have fin : EP X pins σ Q w s := ⟨z, H, I, rw', q⟩
  exact subscriptTail_builtinR (x := w) pl.typeIs slot_tuple_getitem.lookup
    (getItem_tuple (j := j) (Q := fun r s' => r = w ∧ EP X pins σ Q r s') pl (by omega) (by omega) (by rw [List.size_toArray, ← hl]; exact h1) (by simpa using ew) ⟨rfl, fin⟩) hs
theorem ix_str : IxR X rIxS := by
  intro value slice pins s σ H x y v u Q I rx ry h hs
  obtain ⟨z, i, c, rfl, rfl, hz, he, q⟩ := h
  obtain ⟨t, rfl⟩ := rx
  obtain ⟨t', rfl⟩ := ry
  obtain ⟨j, h1, h2, h3, h4, h5⟩ := atI_get he
  have hl : z.cps.toList.length = z.length := by simp [Str.length]
  rw [hl] at h1 h4 h5
  have hn := line63
  exact tail_any (typeIs_str s z t) slot_str_getitem.lookup (getItem_str (c := c) (by
    have e1 : decide (i < -(2 ^ 63 : Int)) = false := decide_eq_false (by omega)
    have e2 : decide (i ≥ 2 ^ 63) = false := decide_eq_false (by omega)
    rw [e1, e2, Bool.or_false]) (by rw [h1]; simpa using h2) ⟨.str ⟨#[c]⟩, H, I.tok _, ⟨_, rfl⟩, q⟩) hs

/-! ### xs[i] = v, any sign -/
/-- the list's object behind a store -/
theorem mapSeq_set (its : List Value) (n j : Nat) (u : Value) : Obj.mapSeq (·.setIfInBounds j u) { cls := .type "list", data := .seq its.toArray n } = { cls := .type "list", data := .seq (its.set j u).toArray n } := by
  simp [Obj.mapSeq]
theorem Inv.lst {pins : List (Addr × Obj)} {σ : St} {H : Hp} {s : Shared} {p : Addr} {xs : List V} (I : Inv X pins σ H s) (h : H p = some (.lst xs)) :
    ∃ (its : List Value) (n : Nat), Vals xs its ∧ s.heap.get? p = some { cls := .type "list", data := .seq its.toArray n } ∧ xs.length ≤ sizeLine := by
  obtain ⟨z, its, n, r, e⟩ := I.hok p _ h
  exact ⟨its, n, r, e, z⟩
/-- the list at p is written by an update of its object -/
theorem Inv.lstUpd {pins : List (Addr × Obj)} {σ : St} {H : Hp} {s : Shared} {p : Addr} {xs ys : List V} {its its' : List Value} {n n' : Nat} {f : Obj → Obj} (I : Inv X pins σ H s) (h : H p = some (.lst xs))
    (ho : s.heap.get? p = some { cls := .type "list", data := .seq its.toArray n }) (hf : f { cls := .type "list", data := .seq its.toArray n } = { cls := .type "list", data := .seq its'.toArray n' }) (r : Vals ys its') (hz : ys.length ≤ sizeLine) (t : Nat) (ht : 0 < t := by (first | assumption | exact Nat.succ_pos _ | exact Inv.tk (by assumption) | exact Nat.lt_of_lt_of_le (Inv.tk (by assumption)) (Nat.le_add_right _ _) | exact Nat.lt_of_lt_of_le (Inv.tk (by assumption)) (by assumption))) :
    Inv X pins σ (upd H p (.lst ys)) { s with heap := s.heap.update p f, toks := t } := by
  have e : (s.heap.update p f).get? p = some { cls := .type "list", data := .seq its'.toArray n' } := by
    rw [Heap.get?_update_self f ho (by rw [hf] <;> rfl), hf]
  refine I.write (x := p) (e := p) (by rw [h]; trivial) (.inl rfl) (fun b u hb q => (Heap.get?_update_other _ _ (Ne.symm hb)).trans q) ⟨_, e⟩ ?_
  exact ⟨hz, its', n', r, e⟩
def rSetL : V → V → V → Hp → (Hp → Prop) → Prop := fun o i v H Q => ∃ p xs k j, o = .ref p ∧ i = .int k ∧ H p = some (.lst xs) ∧ ixN xs.length k = some j ∧ Q (upd H p (.lst (xs.set j v)))
theorem set_list : PSet X rSetL := by
  intro pins s σ H o i v ov iv u Q I ro ri rv h
  obtain ⟨p, xs, k, j, rfl, rfl, hp, hj, q⟩ := h
  cases ro
  obtain ⟨t, rfl⟩ := ri
  obtain ⟨its, n, r, ho, hz⟩ := I.lst hp
  obtain ⟨h1, h2, h3, h4⟩ := ixN_seq hj
  have hl := r.length
  have hn := line63
  have I' : Inv X pins σ (upd H p (.lst (xs.set j v))) { s with heap := s.heap.update p (Obj.mapSeq (·.setIfInBounds j u)) } :=
    I.lstUpd hp ho (mapSeq_set its n j u) (r.set rv j) (by rw [List.length_set]; exact hz) s.toks
  by_cases h0 : 0 ≤ k
  · have hk : k.toNat = j := by
      rw [seqIndex_of h0 h4] at h1
      exact Option.some.inj h1
    exact PySem.W.ki_setAt ho h0 (by omega) (by rw [List.size_toArray, ← hl]; exact h4) (by rw [hk]; exact ⟨_, I', q⟩)
  · have hk : (k + (its.toArray.size : Int)).toNat = j := by
      rw [seqIndex_neg (by omega) h3] at h1
      rw [List.size_toArray, ← hl]
      exact Option.some.inj h1
    exact PySem.W.ki_setBack ho (by omega) (by rw [List.size_toArray, ← hl]; exact h3) (by omega) (by rw [hk]; exact ⟨_, I', q⟩)

/-! ### slices -/
theorem slice_bounds (lo hi : Option Int) (n : Nat) : (sliceBounds lo hi none n).1 = ((HT.sIx n 0 lo : Nat) : Int) ∧ (sliceBounds lo hi none n).2.1 = ((HT.sIx n n hi : Nat) : Int) ∧ (sliceBounds lo hi none n).2.2 = 1 := by
  refine ⟨?_, ?_, rfl⟩
  · cases lo with
    | none => simp [sliceBounds, HT.sIx]
    | some i =>
      simp only [sliceBounds, HT.sIx, Option.getD_none, show (1 : Int) > 0 by decide, if_true]
      by_cases h : i < 0
      · simp only [h, if_true] <;> omega
      · simp only [h, if_false] <;> omega
  · cases hi with
    | none => simp [sliceBounds, HT.sIx]
    | some i =>
      simp only [sliceBounds, HT.sIx, Option.getD_none, show (1 : Int) > 0 by decide, if_true]
      by_cases h : i < 0
      · simp only [h, if_true] <;> omega
      · simp only [h, if_false] <;> omega
theorem slicePick_cut (its : List Value) (lo hi : Option Int) : slicePick its.toArray lo hi none = ((its.drop (HT.sIx its.length 0 lo)).take (HT.sIx its.length its.length hi - HT.sIx its.length 0 lo)).toArray := by
  obtain ⟨h1, h2, h3⟩ := slice_bounds lo hi its.toArray.size
  unfold slicePick
  rw [h1, h2, h3]
  simp only [sliceRange_one, pick_run, List.size_toArray] <;> rfl
/-- xs[lo:hi] of a list: a new list -/
def rSlL (K : PySem.W.Frag) : V → Option Int → Option Int → Hp → VK → Prop := fun x lo hi H Q => ∃ a xs, x = .ref a ∧ SqL K H a xs ∧ ∀ p, H p = none → Q (.ref p) (upd H p (.lst (cutV xs lo hi)))
theorem sl_list : SlR X (rSlL X.K) := by
  intro pins s σ H x v vl vu lo hi sl Q I rx hs pl pu h
  obtain ⟨a, xs, rfl, hx, q⟩ := h
  cases rx
  obtain ⟨its, r, ht, hz⟩ := I.list hx
  have hlen := r.length
  refine ⟨"list", _, slot_list_getitem.lookup, ht.isList.typeIs, ?_⟩
  refine wpAny_getItem_list_slice ht.isList hs pl pu .none (by simp) ?_ (by rw [List.size_toArray] <;> omega)
  rw [slicePick_cut, ← hlen]
  refine ⟨.ref s.heap.objs.size, _, I.laid (t' := s.toks) (o := .lst (cutV xs lo hi)) (fun b ob q => Heap.get?_push_of_some _ q) (Nat.le_refl _) ?_, rfl, q _ (I.hok.fresh (Nat.le_refl _))⟩
  exact ⟨Nat.le_trans (cutV_length xs lo hi) hz, _, 0, (r.drop (HT.sIx xs.length 0 lo)).take (HT.sIx xs.length xs.length hi - HT.sIx xs.length 0 lo), Heap.get?_push_size _ rfl⟩

/-! ### in, not in: flat items -/
def flatV : V → Bool
  | .non => true
  | .bl _ => true
  | .int _ => true
  | .str _ => true
  | _ => false
/-- == of flat values -/
def eqV : V → V → Bool
  | .non, .non => true
  | .bl a, .bl b => a == b
  | .bl a, .int b => (if a then 1 else 0) == b
  | .int a, .bl b => a == (if b then 1 else 0)
  | .int a, .int b => a == b
  | .str a, .str b => a == b
  | _, _ => false
theorem eqAt_V {A : Around} {s : Shared} {y x : V} {u v : Value} (ry : RelV y u) (rx : RelV x v) (fy : flatV y = true) (fx : flatV x = true) : SeqAt.EqAt A s u v (eqV y x) := by
  cases y with
  | non =>
    cases ry
    cases x with
    | non => cases rx; exact SeqAt.EqAt.same _
    | bl b => cases rx; exact SeqAt.EqAt.none_bool b
    | int b => obtain ⟨t, rfl⟩ := rx; exact SeqAt.EqAt.none_int b t
    | str b => obtain ⟨t, rfl⟩ := rx; exact SeqAt.EqAt.none_str b t
    | _ => exact absurd (show false = true from fx) Bool.false_ne_true
  | bl a =>
    cases ry
    cases x with
    | non => cases rx; exact SeqAt.EqAt.bool_none a
    | bl b => cases rx; exact SeqAt.EqAt.bool_bool a b
    | int b => obtain ⟨t, rfl⟩ := rx; exact SeqAt.EqAt.bool_int a b t
    | str b => obtain ⟨t, rfl⟩ := rx; exact SeqAt.EqAt.bool_str a b t
    | _ => exact absurd (show false = true from fx) Bool.false_ne_true
  | int a =>
    obtain ⟨t', rfl⟩ := ry
    cases x with
    | non => cases rx; exact SeqAt.EqAt.int_none a t'
    | bl b => cases rx; exact SeqAt.EqAt.int_bool a t' b
    | int b => obtain ⟨t, rfl⟩ := rx; exact SeqAt.EqAt.int_int a t' b t
    | str b => obtain ⟨t, rfl⟩ := rx; exact SeqAt.EqAt.int_str a t' b t
    | _ => exact absurd (show false = true from fx) Bool.false_ne_true
  | str a =>
    obtain ⟨t', rfl⟩ := ry
    cases x with
    | non => cases rx; exact SeqAt.EqAt.str_none a t'
    | bl b => cases rx; exact SeqAt.EqAt.str_bool a t' b
    | int b => obtain ⟨t, rfl⟩ := rx; exact SeqAt.EqAt.str_int a t' b t
    | str b => obtain ⟨t, rfl⟩ := rx; exact SeqAt.EqAt.str_str a t' b t
    | _ => exact absurd (show false = true from fx) Bool.false_ne_true
  | _ => exact absurd (show false = true from fy) Bool.false_ne_true
/-- the items' answers, read off the values (a value's own answer does not lean on its token) -/
def eqU (x : V) (u : Value) : Bool := match u with
  | .none => eqV .non x
  | .bool b => eqV (.bl b) x
  | .int i _ => eqV (.int i) x
  | .str z _ => eqV (.str z) x
  | _ => false
theorem eqU_of {x y : V} {u : Value} (r : RelV y u) (f : flatV y = true) : eqU x u = eqV y x := by
  cases y with
  | non => cases r; rfl
  | bl b => cases r; rfl
  | int i => obtain ⟨t, rfl⟩ := r; rfl
  | str z => obtain ⟨t, rfl⟩ := r; rfl
  | _ => exact absurd (show false = true from f) Bool.false_ne_true
theorem any_eqU {x : V} : ∀ {xs : List V} {us : List Value}, Vals xs us → xs.all flatV = true → us.any (eqU x) = xs.any fun y => eqV y x
  | _, _, .nil, _ => rfl
  | y :: xs, u :: us, .cons r t, f => by
    rw [List.all_cons, Bool.and_eq_true] at f
    rw [List.any_cons, List.any_cons, eqU_of r f.1, any_eqU t f.2]
theorem mem_eqAt {A : Around} {s : Shared} {x : V} {v : Value} (rx : RelV x v) (fx : flatV x = true) : ∀ {xs : List V} {us : List Value}, Vals xs us → xs.all flatV = true → ∀ u ∈ us, SeqAt.EqAt A s u v (eqU x u)
  | _, _, .nil, _ => fun u hu => by cases hu
  | y :: xs, u :: us, .cons r t, f => fun u' hu => by
    rw [List.all_cons, Bool.and_eq_true] at f
    rcases List.mem_cons.mp hu with rfl | hu
    · rw [eqU_of r f.1]; exact eqAt_V r rx f.1 fx
    · exact mem_eqAt rx fx t f.2 u' hu
def inV (x : V) (xs : List V) : Bool := xs.any fun y => eqV y x
/-- x in a list or tuple of flat items -/
def rIn (K : PySem.W.Frag) (neg : Bool) : R2 := fun x y H Q => ∃ p xs, y = .ref p ∧ (SqL K H p xs ∨ SqT K H p xs) ∧ flatV x = true ∧ xs.all flatV = true ∧ Q (.bl (if neg then !inV x xs else inV x xs)) H
theorem op_in_seq : OpR X (compareOp .In) (rIn X.K false) := by
  intro pins s σ H x y v u Q I rx ry h
  obtain ⟨p, xs, rfl, hq, fx, fs, q⟩ := h
  cases ry
  rcases hq with hq | hq
  · obtain ⟨its, r, pl, hz⟩ := I.list hq
    refine SeqAt.in_listAt (eqU x) pl.isList (fun w hw => mem_eqAt rx fx r fs w (by simpa using hw)) ⟨.bl _, H, I, rfl, ?_⟩
    rw [show its.toArray.any (eqU x) = its.any (eqU x) by simp, any_eqU r fs]
    exact q
  · obtain ⟨its, r, pl, hz⟩ := I.tuple hq
    refine SeqAt.in_tupleAt (eqU x) pl (fun w hw => mem_eqAt rx fx r fs w (by simpa using hw)) ⟨.bl _, H, I, rfl, ?_⟩
    rw [show its.toArray.any (eqU x) = its.any (eqU x) by simp, any_eqU r fs]
    exact q

/-! ### len, list(x), tuple(x) of any list or tuple that is read -/
theorem call_len_seq : CallR X (.builtin "len") (fun xs H Q => ∃ p ys, xs = [.ref p] ∧ (SqL X.K H p ys ∨ SqT X.K H p ys) ∧ Q (.int ys.length) H) := by
  intro pins s σ H xs us Q I r h
  obtain ⟨p, ys, rfl, hq, q⟩ := h
  obtain ⟨u, rfl, rx⟩ := vals1 r
  cases rx
  have hn := line63
  rcases hq with hq | hq
  · obtain ⟨its, r', pl, hz⟩ := I.list hq
    have hlen := r'.length
    exact Calls.call_len_list pl.isList (by simp only [List.size_toArray] <;> omega) ⟨.int ys.length, H, I.tok _, ⟨s.toks + 1, by rw [List.size_toArray, hlen]⟩, q⟩
  · obtain ⟨its, r', pl, hz⟩ := I.tuple hq
    have hlen := r'.length
    exact len_tuple pl (by simp only [List.size_toArray] <;> omega) ⟨.int ys.length, H, I.tok _, ⟨s.toks + 1, by rw [List.size_toArray, hlen]⟩, q⟩
theorem call_len_str : CallR X (.builtin "len") (fun xs H Q => ∃ z, xs = [.str z] ∧ z.length ≤ sizeLine ∧ Q (.int z.length) H) := by
  intro pins s σ H xs us Q I r h
  obtain ⟨z, rfl, hz, q⟩ := h
  obtain ⟨u, rfl, t, rfl⟩ := vals1 r
  have hn := line63
  exact len_str (by omega) ⟨.int z.length, H, I.tok _, ⟨_, rfl⟩, q⟩
theorem call_list_of : CallR X (.type "list") (fun xs H Q => ∃ p ys, xs = [.ref p] ∧ (SqL X.K H p ys ∨ SqT X.K H p ys) ∧ ∀ l, H l = none → Q (.ref l) (upd H l (.lst ys))) := by
  intro pins s σ H xs us Q I r h
  obtain ⟨p, ys, rfl, hq, q⟩ := h
  obtain ⟨u, rfl, rx⟩ := vals1 r
  cases rx
  have fin : ∀ (its : List Value), Vals ys its → ys.length ≤ sizeLine → ∀ (h' : Heap) (c' : Nat), (∀ b o', s.heap.get? b = some o' → h'.get? b = some o') →
      h'.get? s.heap.objs.size = some { cls := .type "list", dict := none, data := .seq its.toArray c', slots := #[] } → EP X pins σ Q (.ref s.heap.objs.size) { s with heap := h' } := fun its r' hz h' c' kp e =>
    ⟨.ref s.heap.objs.size, _, I.laid (t' := s.toks) kp (Nat.le_refl _) (show ObjOk X.prog X.w _ h' _ (.lst ys) from ⟨hz, its, c', r', e⟩), rfl, q _ (I.hok.fresh (Nat.le_refl _))⟩
  rcases hq with hq | hq
  · obtain ⟨its, r', pl, hz⟩ := I.list hq
    have hlen := r'.length
    obtain ⟨o, ho, hc, n, hd⟩ := pl.isList
    exact call_list_seq p (.inl rfl) ho hc hd (fun h' c' kp e => fin its r' hz h' c' kp e) (by simp only [List.size_toArray] <;> omega)
  · obtain ⟨its, r', pl, hz⟩ := I.tuple hq
    have hlen := r'.length
    obtain ⟨o, ho, hc, n, hd⟩ := pl
    exact call_list_seq p (.inr rfl) ho hc hd (fun h' c' kp e => fin its r' hz h' c' kp e) (by simp only [List.size_toArray] <;> omega)

/-! ### the call of a builtin's method: o.m(..) -/
/-- the value is of that builtin type -/
def tyV (K : PySem.W.Frag) (T : String) (x : V) (H : Hp) : Prop := match x with
  | .str _ => T = "str"
  | .int _ => T = "int"
  | .ref p => (T = "list" ∧ ∃ xs, SqL K H p xs) ∨ (T = "tuple" ∧ ∃ o, K.lookup p = some o ∧ o.cls = .type "tuple" ∧ o.dict = none) ∨
      (T = "dict" ∧ ((∃ kvs, H p = some (.dK kvs)) ∨ ∃ kvs, H p = some (.dT kvs))) ∨ (T = "set" ∧ ∃ S n, H p = some (.set S n))
  | _ => False
theorem tyV_is {pins : List (Addr × Obj)} {σ : St} {H : Hp} {s : Shared} {T : String} {x : V} {v : Value} (I : Inv X pins σ H s) (r : RelV x v) (ty : tyV X.K T x H) :
    s.TypeIs v T ∧ ∀ a, v = .ref a → ∃ ob, s.heap.get? a = some ob ∧ ob.dict = none := by
  cases x with
  | str z =>
    obtain ⟨t, rfl⟩ := r
    cases (show T = "str" from ty)
    exact ⟨typeIs_str s z t, fun _ e => nomatch e⟩
  | int i =>
    obtain ⟨t, rfl⟩ := r
    cases (show T = "int" from ty)
    exact ⟨typeIs_int s i t, fun _ e => nomatch e⟩
  | ref p =>
    cases r
    rcases ty with ⟨rfl, xs, hq⟩ | ⟨rfl, o, hk, hc, hd⟩ | ⟨rfl, hk⟩ | ⟨rfl, S, n, hk⟩
    · obtain ⟨its, _, pl, _⟩ := I.list hq
      refine ⟨pl.isList.typeIs, fun a e => ?_⟩
      cases e
      obtain ⟨o, n, e, c, hd, _⟩ := pl
      exact ⟨o, e, hd⟩
    · refine ⟨⟨o, I.kIn p o hk, hc⟩, fun a e => ?_⟩
      cases e
      exact ⟨o, I.kIn _ o hk, hd⟩
    · have z : ∃ o, s.heap.get? p = some o ∧ o.ExactDict := by
        rcases hk with ⟨kvs, hk⟩ | ⟨kvs, hk⟩
        · obtain ⟨_, _, _, _, o, _, _, e, ex, _⟩ := I.hok p _ hk
          exact ⟨o, e, ex⟩
        · obtain ⟨_, _, _, _, o, _, _, e, ex, _⟩ := I.hok p _ hk
          exact ⟨o, e, ex⟩
      obtain ⟨o, e, ex⟩ := z
      refine ⟨⟨o, e, ex.1⟩, fun a e2 => ?_⟩
      cases e2
      exact ⟨o, e, ex.2.1⟩
    · obtain ⟨o, _, _, _, e, ex, _⟩ := I.hok p _ hk
      refine ⟨⟨o, e, ex.1⟩, fun a e2 => ?_⟩
      cases e2
      exact ⟨o, e, ex.2.1⟩
  | _ => exact False.elim ty
def tBM0 (K : PySem.W.Frag) (T : String) (r : V → List V → Hp → VK → Prop) (to : TE) : TE := fun σ H Q => to σ H fun x H1 => tyV K T x H1 ∧ r x [] H1 Q
def tBM (K : PySem.W.Frag) (T : String) (r : V → List V → Hp → VK → Prop) (to : TE) (t : TA) : TE := fun σ H Q => to σ H fun x H1 => tyV K T x H1 ∧ t σ H1 fun xs H2 => r x xs H2 Q
variable {o e : Expr} {es : List Expr} {to : TE} {t : TA} {name : Str} {apos cpos : Pos} {T id : String} {r : V → List V → Hp → VK → Prop}
theorem pe_bm0 (pa : PlainAttrs T) (slot : Slot T name id) (hty : typeOf (.builtin id) = pure (.type "method_descriptor")) (hm : MtR X id r) (ho : PE X o to)
    (hbase : attributeBase o name X.env (eval o X.env) = eval o X.env := by rfl) (hline : (apos.endLine == cpos.line) = true := by rfl) : PE X (.Call (.Attribute o name apos) [] [] cpos) (tBM0 X.K T r to) := by
  intro pins s σ H Q I h
  refine wpAny_Call_method0_late hbase hline (thn (ho pins s σ H _ I h) fun v s1 ⟨x, H1, I1, r1, ty, q1⟩ => ?_)
  obtain ⟨h1, h2⟩ := tyV_is I1 r1 ty
  exact ⟨T, id, pa, slot, hty, h1, h2, Calls.callWith_builtin rfl (PySem.evalArgs_none (hm pins s1 σ H1 x [] v [] Q I1 r1 .nil q1))⟩
theorem pe_bm (pa : PlainAttrs T) (slot : Slot T name id) (hty : typeOf (.builtin id) = pure (.type "method_descriptor")) (hm : MtR X id r) (ho : PE X o to) (ha : PA X (e :: es) t)
    (hbase : attributeBase o name X.env (eval o X.env) = eval o X.env := by rfl)
    (hfew : ((backTo cpos (starEach (e :: es) X.env)).all (fun x => !x.1) && (backToKw cpos (keywordEach [] X.env)).all (fun x => x.1.isSome)
      && decide ((e :: es).length + ([] : List Keyword).length + (if ([] : List Keyword).isEmpty then 0 else 1) < 30)) = true := by rfl)
    (hline : (apos.endLine == cpos.line) = true := by rfl) (hs : starEach (e :: es) X.env = (false, eval e X.env) :: starEach es X.env := by rfl) (hplain : (backTo cpos (starEach es X.env)).any (·.1) = false := by rfl) :
    PE X (.Call (.Attribute o name apos) (e :: es) [] cpos) (tBM X.K T r to t) := by
  intro pins s σ H Q I h
  refine wpAny_Call_method_late hbase hfew hline rfl (thn (ho pins s σ H _ I h) fun v s1 ⟨x, H1, I1, r1, ty, q1⟩ => ?_)
  obtain ⟨h1, h2⟩ := tyV_is I1 r1 ty
  refine ⟨T, id, pa, slot, hty, h1, h2, ?_⟩
  have hA := ha cpos pins s1 σ H1 _ I1 q1
  rw [hs] at hA ⊢
  refine Calls.callWith_builtin (by show (false || (backTo cpos (starEach es X.env)).any (·.1)) = false; rw [hplain] <;> rfl) (Calls.evalArgs_plain ?_)
  exact thn hA fun us s2 ⟨vs, H2, I2, r2, q2⟩ => hm pins s2 σ H2 x vs v us Q I2 r1 r2 q2
/- xs.append(e), list.index on a module's tuple .. are MtR facts of 06m -/
end
end L2

namespace L2
open PySem PySem.Spec PyProof.Rows

def MtM (X : Cx) (id : String) (r : V → List V → Hp → VK → Prop) : Prop :=
  ∀ (pins : List (Addr × Obj)) (s : Shared) (σ : St) (H : Hp) (x : V) (xs : List V) (v : Value) (us : List Value) (Q : VK), Inv X pins σ H s → RelV x v → Vals xs us → r x xs H Q →
    wpAny (model X.prog X.w) X.A (call (.builtin id) (v :: us)) (EP X pins σ Q) X.xe s

/-! ### lists of values -/
theorem Vals.one : ∀ {x : V} {us : List Value}, Vals [x] us → ∃ u, us = [u] ∧ RelV x u
  | _, _, .cons r .nil => ⟨_, rfl, r⟩
theorem Vals.two : ∀ {x y : V} {us : List Value}, Vals [x, y] us → ∃ u v, us = [u, v] ∧ RelV x u ∧ RelV y v
  | _, _, _, .cons r (.cons q .nil) => ⟨_, _, rfl, r, q⟩
theorem Vals.zero : ∀ {us : List Value}, Vals [] us → us = []
  | _, .nil => rfl
theorem Vals.dropLast {xs : List V} {us : List Value} (h : Vals xs us) : Vals xs.dropLast us.dropLast := by
  induction h with
  | nil => exact .nil
  | cons r t ih =>
    cases t with
    | nil => exact .nil
    | cons q t' => exact .cons r ih
theorem erase_last {α : Type} (l : List α) : l.eraseIdx (l.length - 1) = l.dropLast := by
  induction l with
  | nil => rfl
  | cons a r ih =>
    cases r with
    | nil => rfl
    | cons b r =>
      have e : (a :: b :: r).length - 1 = ((b :: r).length - 1) + 1 := by
        have h1 : (a :: b :: r).length = r.length + 2 := rfl
        have h2 : (b :: r).length = r.length + 1 := rfl
        omega
      rw [e, List.eraseIdx_cons_succ, ih]
      all_goals rfl

section
variable {X : Cx} {pins : List (Addr × Obj)} {σ : St} {H : Hp} {s : Shared} {l b : Addr} {xs ys zs : List V}

/-! ### the two steps: a tracked list is rewritten, a new list is laid -/
theorem Inv.lset {its its' : List Value} {n : Nat} {f : Array Value → Array Value} {t' : Nat} (I : Inv X pins σ H s) (hH : H l = some (.lst xs))
    (e : s.heap.get? l = some { cls := .type "list", data := .seq its.toArray n }) (hf : f its.toArray = its'.toArray) (hv : Vals ys its') (hz : ys.length ≤ sizeLine) (ht : 0 < t' := by (first | assumption | exact Nat.succ_pos _ | exact Inv.tk (by assumption) | exact Nat.lt_of_lt_of_le (Inv.tk (by assumption)) (Nat.le_add_right _ _) | exact Nat.lt_of_lt_of_le (Inv.tk (by assumption)) (by assumption))) :
    Inv X pins σ (upd H l (.lst ys)) { s with heap := s.heap.update l (Obj.mapSeq f), toks := t' } := by
  have q := PySem.IsL.update e f
  rw [hf] at q
  refine I.write (x := l) (e := l) (by rw [hH]; exact trivial) (.inl rfl) (fun b' u hb hu => (Heap.get?_update_other s.heap (Obj.mapSeq f) (Ne.symm hb)).trans hu) ⟨_, q⟩ ?_
  exact ⟨hz, its', _, hv, q⟩
theorem Inv.lnew {its : List Value} {t' : Nat} (I : Inv X pins σ H s) (hv : Vals ys its) (hz : ys.length ≤ sizeLine) (ht : 0 < t' := by (first | assumption | exact Nat.succ_pos _ | exact Inv.tk (by assumption) | exact Nat.lt_of_lt_of_le (Inv.tk (by assumption)) (Nat.le_add_right _ _) | exact Nat.lt_of_lt_of_le (Inv.tk (by assumption)) (by assumption))) :
    Inv X pins σ (upd H s.heap.objs.size (.lst ys)) { s with heap := s.heap.push { cls := .type "list", data := .seq its.toArray }, toks := t' } :=
  I.laid (fun _ _ q => Heap.get?_push_of_some _ q) (Nat.le_refl _) ⟨hz, its, 0, hv, Heap.get?_push_size _ rfl⟩
theorem Inv.fresh (I : Inv X pins σ H s) : H s.heap.objs.size = none := I.hok.fresh (Nat.le_refl _)
theorem Inv.lstM (I : Inv X pins σ H s) (hH : H l = some (.lst xs)) : xs.length ≤ sizeLine ∧ ∃ (its : List Value) (n : Nat), Vals xs its ∧ xs.length = its.length ∧ s.heap.get? l = some { cls := .type "list", data := .seq its.toArray n } := by
  obtain ⟨z, its, n, r, e⟩ := I.hok l _ hH
  exact ⟨z, its, n, r, r.length, e⟩

end

section
variable {X : Cx}

/-! ### methods -/
def rAppend : V → List V → Hp → VK → Prop := fun x vs H Q => ∃ l xs y, x = .ref l ∧ vs = [y] ∧ H l = some (.lst xs) ∧ xs.length < sizeLine ∧ Q .non (upd H l (.lst (xs ++ [y])))
theorem mt_append : MtM X "list.append" rAppend := by
  intro pins s σ H x vs v us Q I rx rv h
  obtain ⟨l, xs, y, rfl, rfl, hH, hz, q⟩ := h
  cases rx
  obtain ⟨u, rfl, ru⟩ := rv.one
  obtain ⟨z, its, n, r, hl, e⟩ := I.lstM hH
  refine call_meets F.slot_list_append ⟨_, e, rfl⟩ F.entry_list_append (F.args_list_append_2 _ _) (PySem.list_append l its.toArray n u (by rw [List.size_toArray]; omega)) ⟨e, ?_⟩
  refine ⟨.non, _, I.lset (its' := its ++ [u]) hH e (by simp) (r.append (.cons ru .nil)) ?_, rfl, q⟩
  rw [List.length_append, List.length_singleton]
  omega


def rPop : V → List V → Hp → VK → Prop := fun x vs H Q => ∃ l xs y, x = .ref l ∧ vs = [] ∧ H l = some (.lst xs) ∧ xs[xs.length - 1]? = some y ∧ Q y (upd H l (.lst xs.dropLast))
theorem mt_pop : MtM X "list.pop" rPop := by
  intro pins s σ H x vs v us Q I rx rv h
  obtain ⟨l, xs, y, rfl, rfl, hH, hy, q⟩ := h
  cases rx
  have hus := rv.zero
  subst hus
  obtain ⟨z, its, n, r, hl, e⟩ := I.lstM hH
  obtain ⟨u, hu, ru⟩ := r.get hy
  have hy' : its.toArray[its.toArray.size - 1]? = some u := by
    show its.toArray[its.length - 1]? = some u
    rw [← Array.getElem?_toList, ← hl]
    exact hu
  refine call_meets F.slot_list_pop ⟨_, e, rfl⟩ F.entry_list_pop (F.args_list_pop_1 _) (MeetsSeq.list_pop_last l its.toArray n u hy' (by rw [List.size_toArray]; omega)) ⟨e, ?_⟩
  refine ⟨y, _, I.lset (its' := its.dropLast) hH e ?_ r.dropLast ?_, ru, q⟩
  · show its.toArray.eraseIdxIfInBounds (its.toArray.size - 1) = its.dropLast.toArray
    rw [List.size_toArray, List.eraseIdxIfInBounds_toArray, erase_last]
  · rw [List.length_dropLast]
    omega




/-! ### list + list, list += list, list * int -/
def rCat : R2 := fun x y H Q => ∃ l b xs zs, x = .ref l ∧ y = .ref b ∧ H l = some (.lst xs) ∧ H b = some (.lst zs) ∧ xs.length + zs.length ≤ sizeLine ∧ ∀ p, H p = none → Q (.ref p) (upd H p (.lst (xs ++ zs)))
theorem op_cat : OpR X (binaryOp .Add) rCat := by
  intro pins s σ H x y v u Q I rx ry h
  obtain ⟨l, b, xs, zs, rfl, rfl, hH, hB, hz, q⟩ := h
  cases rx
  cases ry
  obtain ⟨z, its, n, r, hl, e⟩ := I.lstM hH
  obtain ⟨z2, its2, n2, r2, hl2, e2⟩ := I.lstM hB
  refine PySem.P.add_list e e2 ?_ (by rw [List.size_toArray, List.size_toArray]; omega)
  have ea : its.toArray ++ its2.toArray = (its ++ its2).toArray := by simp
  rw [ea]
  exact ⟨.ref _, _, I.lnew (t' := s.toks) (r.append r2) (by rw [List.length_append]; omega), rfl, q _ I.fresh⟩

/-! ### del xs[i] -/
end

/-! ### xs[a:b] = ys -/
section
variable {prog : Program} {w : World} {A : Around} {E : Value → Shared → Prop} {s : Shared}
set_option maxRecDepth 100000 in
end

section
variable {X : Cx}
end
end L2

namespace Att
open PySem PySem.W PySem.Calls PyProof.Rows

/-! ### the script -/
theorem ints_of_wellAll {P : Params} {h : Heap} : ∀ (ns : List Int) (vs : List Value), WellAll P h vs (ns.map WData.int) → IntsAre vs ns := by
  intro ns
  induction ns with
  | nil =>
    intro vs w
    rw [List.map_nil] at w
    cases w
    exact .nil
  | cons n ns ih =>
    intro vs w
    rw [List.map_cons] at w
    cases w with
    | cons a b =>
      cases a
      exact .cons _ _ (ih _ b)

theorem script_of {l : OpenLaw} {n : Nat} (hn : l.most = some n) {P : Params} {h : Heap} {args : List WData} {vals : List Value}
    (hpre : l.row.toRowW.claim.pre args = true) (hwl : WellAll P h vals args) :
    ∃ a vs ns, vals = [Value.ref a] ∧ args = [WData.list (ns.map WData.int)] ∧ h.get? a = some { cls := .type "list", data := .seq vs.toArray } ∧ IntsAre vs ns ∧ ns.length ≤ n := by
  have hsh : WShape.hasAll [] args [.list .int] = true := (pre_splitW hpre).1
  have hc : l.pre.holds [] { args := args } = true := (pre_splitW hpre).2
  obtain ⟨d, r, rfl, h1, h2⟩ := hasAllW_cons hsh
  obtain rfl := hasAllW_nil h2
  obtain ⟨xs, rfl, h3⟩ := hasW_list h1
  obtain ⟨ns, rfl⟩ := items_int h3
  have hlen : ns.length ≤ n := by
    unfold OpenLaw.pre at hc
    have h4 : (WTm.not (.lt (.lit (.int (n : Int))) (.len (.arg 0)))).holds [] { args := [.list (ns.map .int)] } = true := by
      have h4 := (holds_andW hc).1
      rw [hn] at h4
      exact h4
    have h5 := condW_of h4 (w_not (w_lt w_lit (w_len_list (w_arg rfl))))
    rw [List.length_map] at h5
    refine Nat.le_of_not_lt fun q => ?_
    have q' : (n : Int) < ((ns.length : Nat) : Int) := by omega
    first
      | (rw [decide_eq_true q'] at h5; exact absurd h5 (by decide))
      | (simp at h5; omega)
  cases hwl with
  | cons w1 w2 =>
    cases w2
    cases w1 with
    | list ho hall => exact ⟨_, _, ns, rfl, rfl, ho, ints_of_wellAll ns _ hall, hlen⟩

theorem post_true (l : OpenLaw) (args : List WData) : l.row.toRowW.claim.post args (.bool true) args = true :=
  postW_of (r := l.row.toRowW) (X := (true == true))
    (show WShape.has [] (.bool true) .bool = true by first | rfl | decide | simp [WShape.has, WShape.arms, WShape.armsAll])
    (show (WTm.eq .res (.lit (.bool true))).value [] { args := args, res := some (.bool true), after := args } = some (.bool (true == true)) from w_eq_bool (w_res rfl) w_lit) rfl

/-! ### the attachment: holds_open's last premise (the goal 'hc' behind k_head) from a wpAny of the law's body -/


theorem attach_callZ {l : OpenLaw} {n : Nat} {q : Program} {loose : List Str} {XP : (Str → Option Value) → Heap → Prop} {as0 : List Addr} {N t : Nat} {K : Params → Frag} {d : DefRec}
    (hn : l.most = some n) (hdf : d.params.defaults = []) (ek : ∀ P, as0 = (K P).map (·.1)) (htk : 0 < t)
    (call : ∀ (w : World) (s₀ s₁ : Shared) (mg mb : Str → Option Value) (fa : Addr) (o : Obj) (pm cd doc : Value) (a : Addr) (vs : List Value) (ns : List Int),
      Ground q loose [] XP w s₀ mg mb s₁.heap → (K w.params).In s₁.heap → 0 < s₁.toks →
      s₁.heap.get? fa = some o → o.data = .func (docDef d.name d.params d.body d.scope pm cd doc) → s₁.heap.CodeRec cd d.name → mg d.name = some (.ref fa) →
      s₁.heap.get? a = some { cls := .type "list", data := .seq vs.toArray } → IntsAre vs ns → ns.length ≤ n → s₁.gens = #[] →
      codeAny (model l.prog w) callerA (.call (.ref fa) ⟨[.ref a], []⟩) (fun r s' => r = .ok (.ret (.bool true)) ∧ OldK s₁.heap s'.heap ∧ s'.os = s₁.os ∧ AllBare s'.gens) s₁) :
    WalkX q loose XP (X.obsZ as0) (X.valZ K N t) l.row.toRowW d [] (fun f vs => PySem.call f vs) := by
  intro w s₀ s₁ mg mb G Y fa o pm cd doc dV kV ho hd hcd hD hmg hg args vals as L hpre hlay hrd hwl hlo
  obtain rfl : dV = .none := Dflts.none hD hdf
  obtain rfl : kV = .none := Dflts.noKw hD
  obtain ⟨a, vs, ns, rfl, rfl, hobj, hints, hlen⟩ := script_of hn hpre hwl
  obtain ⟨_, zi, _, zt⟩ := X.z_facts ek Y
  have eP : ∀ ns : List Int, ofPy (PyData.list (ns.map PyData.int)) = WData.list (ns.map WData.int) := fun ns => by
    simp only [ofPy]
    congr 1
    induction ns with
    | nil => simp [ofPys]
    | cons n r ih => simp only [List.map_cons, ofPys, ofPy, ih]
  rw [← eP] at L
  have KX := InK.keeps w s₀.heap s₁.heap zi L.keeps
  have tk1 : 0 < s₁.toks := Nat.lt_of_lt_of_le htk (X.script_toks L zt)
  refine enter_call (codeAny_mono (call w s₀ s₁ mg mb fa o pm cd doc a vs ns G KX tk1 ho (fd_plain hd) hcd hmg hobj hints hlen hg) fun r s' hq => ?_)
  obtain ⟨rfl, h2, h3, h4⟩ := hq
  exact ⟨.inl ⟨.bool true, .bool true, [], rfl, fun _ => rfl, .bool true, post_true l _, fun _ => ⟨List.Pairwise.nil, fun _ hm => (nomatch hm)⟩⟩, h2, h3, h4⟩


/-! ### rules over ANY heap (no ledger) from facts about the written part K: the library's own take a ledger (News) for what they write -/
section
variable {prog : Program} {w : World} {A : Around} {E : Value → Shared → Prop} {s : Shared} {K : Frag}





/-! the whole heap as the ledger: makes every rule that writes through a ledger a rule over any heap -/

end
end Att

namespace L2
open PySem PySem.Spec PyProof.Rows

theorem vals_ints : ∀ {vs : List Value} {ns : List Int}, IntsAre vs ns → Vals (ns.map V.int) vs
  | _, _, .nil => .nil
  | _, _, .cons n t h => .cons ⟨t, rfl⟩ (vals_ints h)

/-- nothing is tracked but the script, known to the object (or it is an object of the module) -/
def Only (H : Hp) : Prop := ∀ b, H b = none ∨ ∃ o xs, H b = some (.frz o (.lst xs))

/-- THE HEAD: the law's promise, at the heap behind the top. F, the promise of the law's def, may use that base is part of the heap (so K.In base, base.Ns mainGlobals mg stand in Mod) -/
theorem law_call {P : Program} {w : World} {K : PySem.W.Frag} {mg mb : Str → Option Value} {CX : CXT} {k : Nat} {fa a : Addr} {fd : FuncData} {x : Str} {sp : Sp} {s₁ : Shared} {vs : List Value} {ns : List Int}
    (KX : K.In s₁.heap) (hns : s₁.heap.Ns mainGlobals mg) (hb : s₁.heap.Ns builtinsNs mb) (hbb : ∀ x : Str, x ≠ "__name__" → mb x = bootBuiltins x) (hlim : s₁.heap.NoLimit) (hg : s₁.gens = #[]) (htk : 0 < s₁.toks)
    (ha : s₁.heap.get? a = some { cls := .type "list", data := .seq vs.toArray }) (hi : IntsAre vs ns) (hl : ns.length ≤ sizeLine) (hr : Room k callerA)
    (F : ∀ base : Heap, K.In base → base.Ns mainGlobals mg → FnOk P w K mg base CX k fa fd [x] sp) (hbind : ∀ (s : Shared) (u : Value), BindsTo s fd ⟨[u], []⟩ [(x, u)])
    (hsp : ∀ H : Hp, Only H → SqL K H a (ns.map V.int) → sp [.ref a] H (fun v _ => v = .bl true) fun _ _ _ => False)
    (hCX : ∀ H e s', CX [] H s₁ (fun _ _ _ => False) e s' → False) :
    codeAny (model P w) callerA (.call (.ref fa) ⟨[.ref a], []⟩) (fun r s' => r = .ok (.ret (.bool true)) ∧ OldK s₁.heap s'.heap ∧ s'.os = s₁.os ∧ AllBare s'.gens) s₁ := by
  have rv := vals_ints hi
  have lenV := hi.length
  -- from an abstract heap in which nothing but the script may be tracked
  have core : ∀ H : Hp, Only H → SqL K H a (ns.map V.int) → HOk P w H s₁.heap → (∀ b, H b ≠ none → b = a) → (H a ≠ none → K.lookup a = none) →
      codeAny (model P w) callerA (.call (.ref fa) ⟨[.ref a], []⟩) (fun r s' => r = .ok (.ret (.bool true)) ∧ OldK s₁.heap s'.heap ∧ s'.os = s₁.os ∧ AllBare s'.gens) s₁ := by
    intro H hO hS hok hA hK
    have base_of : ∀ {b : Addr} {o : Obj}, s₁.heap.get? b = some o → H b = none → (hidT s₁.heap H).get? b = some o := fun e n => hidT_get e n
    have noA : ∀ {b : Addr} {o : Obj} {es : Array DictEntry} {ep : Nat}, s₁.heap.get? b = some o → o.data = .dict es ep → H b = none := fun {b o es ep} e d => by
      cases q : H b with
      | none => rfl
      | some u =>
        have e' : b = a := hA b (by rw [q]; simp)
        subst e'
        rw [ha] at e; cases e
        have d' : Data.seq vs.toArray _ = Data.dict es ep := d
        cases d'
    have nsK : ∀ {b : Addr} {m : Str → Option Value}, s₁.heap.Ns b m → (hidT s₁.heap H).Ns b m := fun {b m} ⟨o, es, ep, e, d, r⟩ => ⟨o, es, ep, base_of e (noA e d), d, r⟩
    have hKb : K.In (hidT s₁.heap H) := fun b o e => base_of (KX b o e) (by
      cases q : H b with
      | none => rfl
      | some u =>
        have e' : b = a := hA b (by rw [q]; simp)
        subst e'
        rw [hK (by rw [q]; simp)] at e; cases e)
    have hM : Mod K mg (hidT s₁.heap H) := ⟨hKb, nsK hns, ⟨mb, nsK hb, hbb⟩, let ⟨mc, h1, h2⟩ := hlim; ⟨mc, nsK h1, h2⟩⟩
    have e0 : Env0 P w K mg (hidT s₁.heap H) callerA [] s₁ H := ⟨rfl, hM, fun b o e => of_hidT e, Nat.le_of_eq (hidT_size _ _), trivial, fun b hb => absurd (show b ∈ ([] : List Addr) from hb) (by simp), hok, .of_eq hg, htk⟩
    refine codeAny_mono ((F _ hKb (nsK hns)).run callerA [] s₁ H ⟨[.ref a], []⟩ [.ref a] [.ref a] _ _ hr e0 (hbind s₁ (.ref a)) (.cons rfl .nil) (hsp H hO hS)) fun r s' h => ?_
    cases r with
    | error e => exact (hCX H e s' h).elim
    | ok fl =>
      cases fl with
      | next => exact False.elim h
      | brk => exact False.elim h
      | cont => exact False.elim h
      | ret u =>
        obtain ⟨v, H', os, bare, un, hok', r', q, _⟩ := h
        have q' : v = .bl true := q
        subst q'
        obtain rfl : u = Value.bool true := r'
        refine ⟨rfl, OldK.of_keep fun b o e => ?_, os, bare⟩
        cases q : H b with
        | none => exact un.keep b o e q (by intro z; exact absurd (show b ∈ ([] : List Addr) from z) (by simp)) (by simp)
        | some u =>
          rcases hO b with z | ⟨ob, xs, z⟩
          · rw [q] at z; cases z
          · have z2 := un.frzs b ob _ z
            obtain ⟨e1, _⟩ := hok b _ z
            obtain ⟨e2, _⟩ := hok' b _ z2
            rw [e] at e1; cases e1
            exact e2
  cases hk : K.lookup a with
  | some o =>
    -- the script is one of the module's own objects
    have e := KX a o hk
    rw [ha] at e
    cases e
    refine core (fun _ => none) (fun _ => .inl rfl) (.inr ⟨_, vs.toArray, _, hk, rfl, rfl, rfl, by rw [List.size_toArray, lenV]; exact hl, by simpa using rv⟩) (fun b u z => by have z' : (none : Option HO) = some u := z; cases z') (fun b z => absurd rfl z) fun z => absurd rfl z
  | none =>
    refine core (fun b => if b = a then some (.frz { cls := .type "list", data := .seq vs.toArray } (.lst (ns.map V.int))) else none) (fun b => ?_) (.inl (.inr ⟨{ cls := .type "list", data := .seq vs.toArray }, if_pos rfl⟩)) (fun b u z => ?_) (fun b z => ?_) fun _ => hk
    · by_cases hb : b = a
      · exact .inr ⟨_, _, if_pos hb⟩
      · exact .inl (if_neg hb)
    · by_cases hb : b = a
      · have z' := (if_pos hb).symm.trans z
        cases z'
        subst hb
        exact ⟨ha, by rw [List.length_map]; exact hl, vs, _, rv, ha⟩
      · have z' := (if_neg hb).symm.trans z
        cases z'
    · by_cases hb : b = a
      · exact hb
      · exact absurd (if_neg hb) z
end L2

namespace L2
open PySem PySem.Spec PyProof.Rows


theorem walk_ofZ {l : PySem.W.OpenLaw} {n k : Nat} {q : Program} {loose : List Str} {XP : (Str → Option Value) → Heap → Prop} {as0 : List Addr} {N t : Nat} {d : DefRec} {K : Params → PySem.W.Frag} {CX : CXT} {sp : PySem.W.Frag → Sp} {x : Str}
    (hn : l.most = some n) (hn2 : n ≤ sizeLine) (hdf : d.params.defaults = []) (hr : Room k callerA) (ek : ∀ P, as0 = (K P).map (·.1)) (htk : 0 < t)
    (F : ∀ (w : World) (mg : Str → Option Value) (fa : Addr) (h : Heap), (K w.params).In h → h.Ns mainGlobals mg → mg d.name = some (.ref fa) →
      ∃ fd : FuncData, (∀ (s : Shared) (u : Value), BindsTo s fd ⟨[u], []⟩ [(x, u)]) ∧
        ∀ base : Heap, (K w.params).In base → base.Ns mainGlobals mg → FnOk l.prog w (K w.params) mg base CX k fa fd [x] (sp (K w.params)))
    (hsp : ∀ (K : PySem.W.Frag) (H : Hp) (a : Addr) (ns : List Int), ns.length ≤ n → Only H → SqL K H a (ns.map V.int) → sp K [.ref a] H (fun v _ => v = .bl true) fun _ _ _ => False)
    (hCX : ∀ (H : Hp) (s : Shared) (e : Value) (s' : Shared), CX [] H s (fun _ _ _ => False) e s' → False) :
    PySem.W.WalkX q loose XP (PySem.W.X.obsZ as0) (PySem.W.X.valZ K N t) l.row.toRowW d [] (fun f vs => PySem.call f vs) := by
  refine Att.attach_callZ hn hdf ek htk fun w s₀ s₁ mg mb fa o pm cd doc a vs ns G KX tk ho hd hcd hmg hobj hints hlen hg => ?_
  obtain ⟨fd, hb, hF⟩ := F w mg fa _ KX G.T.g hmg
  exact law_call KX G.T.g G.T.b G.T.builtins G.T.nolimit hg tk hobj hints (Nat.le_trans hlen hn2) hr hF hb (fun H hO hS => hsp (K w.params) H a ns hlen hO hS) fun H e s' => hCX H s₁ e s'
end L2



/-! SHORT WORDS over the layer: a def of the text, its body, what a loop and a test want. -/
namespace L2
open PySem PySem.Spec PyProof.Rows

/-! ### the text by places -/
def defArgs (s : Stmt) : Arguments := match s with
  | .FunctionDef _ a _ _ _ _ _ _ _ _ => a
  | _ => { posonlyargs := [], args := [], vararg := none, kwonlyargs := [], kw_defaults := [], kwarg := none, defaults := [] }
def defBody (s : Stmt) : List Stmt := match s with
  | .FunctionDef _ _ b _ _ _ _ _ _ _ => b
  | _ => []
def defScope (s : Stmt) : Scope := match s with
  | .FunctionDef _ _ _ _ _ _ sc _ _ _ => sc
  | _ => { kind := .function, names := [], isGenerator := false, isCoroutine := false }

/-! ### no exception leaves a def -/
abbrev CX0 : CXT := fun _ _ _ _ _ _ => False
abbrev E0 : XK := fun _ _ _ => False
theorem pass0 {X : Cx} : Passes CX0 X E0 := fun _ _ _ _ _ _ _ h => h.elim

/-! ### a def (or method) of the text as it stands behind the top -/
structure Fun (K : PySem.W.Frag) (x qual : Str) (st : Stmt) (f : Addr) (fd : FuncData) : Prop where
  ex : ∃ (oc : Value) (od : Option Addr) (kV doc pm : Value) (an : Option Addr) (cdv ct : Value) (osl : Array (Option Value)),
    fd = PySem.W.fnOf x qual (defArgs st) (defBody st) (defScope st) .none kV doc pm an cdv ct ∧ K.lookup f = some ⟨oc, od, .func fd, osl⟩ ∧ PySem.W.codeIn K cdv qual = true
  kp : PySem.W.keepIn K (.ref f) = true
section
variable {P : Program} {w : World} {K : PySem.W.Frag} {mg : Str → Option Value} {base : Heap}
/-- THE RULE for a def: its body as a term of rules, and the reading of that term -/
theorem Fun.ok {x qual : Str} {st : Stmt} {f : Addr} {fd : FuncData} {N ps : List Str} {k : Nat} {sp : Sp} (F : Fun K x qual st f fd) (S : FnScope N ps (defScope st)) (len : ∀ vs H Q E, sp vs H Q E → vs.length = ps.length)
    (hbody : ∀ (cdv : Value) (A : Around) (outer : List Env) (s : Shared) (H : Hp) (vs : List V) (Q : VK) (E : XK), Room k (A.deeper (envOfC qual (defScope st) s.heap.objs.size f cdv)) → sp vs H Q E →
      ∃ t, PSs (cxOf CX0 P w K mg base N qual (defScope st) f cdv A outer s H E).nox (defBody st) t ∧ t { nx := fun _ H' => Q .non H', rt := Q } (start N vs) H) : FnOk P w K mg base CX0 (k + 1) f fd ps sp := by
  obtain ⟨oc, od, kV, doc, pm, an, cdv, ct, osl, rfl, lk, hcd⟩ := F.ex
  refine fn_of lk hcd S len fun A outer s H vs Q E hr hsp => ?_
  obtain ⟨t, h, q⟩ := hbody cdv A outer s H vs Q E hr hsp
  exact ⟨t, h.nox, q⟩
theorem fun_mk {x qual : Str} {st : Stmt} {f : Addr} {oc : Value} {od an : Option Addr} {osl : Array (Option Value)} {kV doc pm cdv ct : Value} (l : K.lookup f = some ⟨oc, od, .func (PySem.W.fnOf x qual (defArgs st) (defBody st) (defScope st) .none kV doc pm an cdv ct), osl⟩)
    (c : PySem.W.codeIn K cdv qual = true) (k : PySem.W.keepIn K (.ref f) = true) : Fun K x qual st f (PySem.W.fnOf x qual (defArgs st) (defBody st) (defScope st) .none kV doc pm an cdv ct) := ⟨⟨oc, od, kV, doc, pm, an, cdv, ct, osl, rfl, l, c⟩, k⟩
end
theorem small1000 {n : Nat} (h : n ≤ 1000) : n < sizeLine := Nat.lt_of_le_of_lt h (by decide)

/-! ### expressions in short: the name that stands in the i-th slot -/
section
variable {X : Cx}
theorem pv (i : Nat) {x : Str} {pos : Pos} (hN : X.N[i]? = some x := by rfl) (hv : Vis X.env.scope x := by first | exact Or.inl rfl | exact Or.inr (Or.inl rfl) | exact Or.inr (Or.inr rfl)) (hd : (x == ("__debug__" : Str)) = false := by decide)
    (hcd : (x == ("__classdict__" : Str)) = false := by decide) : PE X (.Name x pos) (tVar i) := pe_var hN hv hd hcd
end

/-! ### tests -/

/-! ### heaps -/

/-! ### a dict's pairs: keys that differ -/
section
variable {κ : Type} [DecidableEq κ]
end
end L2

set_option maxHeartbeats 8000000

namespace L2
open PySem PySem.Spec PyProof.Rows

/-! ### list comprehensions -/
def clGo (env : Env) : List (Str × NameKind) → List (Str × Addr) → List (Str × Addr)
  | [], cs => cs
  | (n, k) :: r, cs => clGo env r (if k == .free then (n, (env.cells.lookup n).getD 0) :: cs else cs)
def clOf (scope : Scope) (env : Env) : List (Str × Addr) := clGo env scope.names []
theorem clGo_mem {env : Env} : ∀ {names : List (Str × NameKind)} {cs : List (Str × Addr)} {p : Str × Addr}, p ∈ clGo env names cs → p ∈ cs ∨ ((p.1, NameKind.free) ∈ names ∧ p.2 = (env.cells.lookup p.1).getD 0)
  | [], _, _, h => .inl h
  | (n, k) :: r, cs, p, h => by
    rcases clGo_mem (names := r) h with q | ⟨q, e⟩
    · by_cases hk : (k == NameKind.free) = true
      · rw [if_pos hk] at q
        rcases List.mem_cons.mp q with rfl | q
        · have : k = .free := by simpa using hk
          exact .inr ⟨by rw [this]; exact List.mem_cons_self, rfl⟩
        · exact .inl q
      · rw [if_neg hk] at q; exact .inl q
    · exact .inr ⟨List.mem_cons_of_mem _ q, e⟩
theorem clGo_has {env : Env} {x : Str} : ∀ {names : List (Str × NameKind)} {cs : List (Str × Addr)}, ((∃ c, (x, c) ∈ cs) ∨ (x, NameKind.free) ∈ names) → ∃ c, (x, c) ∈ clGo env names cs
  | [], _, .inl h => h
  | [], _, .inr h => by simp at h
  | (n, k) :: r, cs, h => by
    refine clGo_has (names := r) ?_
    rcases h with ⟨c, h⟩ | h
    · left
      by_cases hk : (k == NameKind.free) = true
      · rw [if_pos hk]; exact ⟨c, List.mem_cons_of_mem _ h⟩
      · rw [if_neg hk]; exact ⟨c, h⟩
    · rcases List.mem_cons.mp h with e | h
      · left
        injection e with e1 e2
        subst e1; subst e2
        exact ⟨_, List.mem_cons_self⟩
      · exact .inr h
theorem lookup_of_key {x : Str} : ∀ {l : List (Str × Addr)} {c : Addr}, (x, c) ∈ l → ∃ c', l.lookup x = some c'
  | (n, d) :: r, c, h => by
    rw [List.lookup_cons]
    cases hx : x == n with
    | true => exact ⟨d, rfl⟩
    | false =>
      rcases List.mem_cons.mp h with e | h
      · injection e with e1 _; subst e1; simp at hx
      · exact lookup_of_key h
theorem closureFor_clOf {scope : Scope} {env : Env} (h : ∀ n, (n, NameKind.free) ∈ scope.names → ∃ c, env.cells.lookup n = some c) : closureFor scope env = pure (clOf scope env) := by
  unfold closureFor clOf
  have key : ∀ (names : List (Str × NameKind)) (cs : List (Str × Addr)), (∀ n, (n, NameKind.free) ∈ names → ∃ c, env.cells.lookup n = some c) →
      (forIn names cs fun x (r : List (Str × Addr)) => (match x with | (name, kind) => if kind == NameKind.free then do let a ← cellOf env name; pure (ForInStep.yield ((name, a) :: r)) else pure (ForInStep.yield r) : Sem (ForInStep (List (Str × Addr))))) = pure (clGo env names cs) := by
    intro names
    induction names with
    | nil => intro cs _; rfl
    | cons p r ih =>
      intro cs hf
      obtain ⟨n, k⟩ := p
      rw [List.forIn_cons]
      cases hk : k == NameKind.free with
      | true =>
        have hk' : k = .free := by simpa using hk
        subst hk'
        obtain ⟨c, hc⟩ := hf n List.mem_cons_self
        have e : cellOf env n = pure c := by unfold cellOf; rw [hc]
        simp only [beq_self_eq_true, if_true, e]
        have e2 : clGo env ((n, NameKind.free) :: r) cs = clGo env r ((n, c) :: cs) := by show clGo env r _ = _; rw [hc]; rfl
        rw [e2]
        exact ih ((n, c) :: cs) fun m hm => hf m (List.mem_cons_of_mem _ hm)
      | false =>
        simp only [hk, Bool.false_eq_true, if_false]
        have e2 : clGo env ((n, k) :: r) cs = clGo env r cs := by show clGo env r (if (k == NameKind.free) = true then _ else _) = _; rw [hk]; rfl
        rw [e2]
        exact ih cs fun m hm => hf m (List.mem_cons_of_mem _ hm)
  exact (congrArg (· >>= pure) (key scope.names [] h))
theorem lookup_relabel {env : Env} {x : Str} : ∀ {names : List (Str × NameKind)},
    (names.map fun (n, k) => if (k == NameKind.free && env.scope.kind == .function && env.kindOf n == some .cell) then (n, NameKind.cell) else (n, k)).lookup x
      = (names.lookup x).map fun k => if (k == NameKind.free && env.scope.kind == .function && env.kindOf x == some .cell) then NameKind.cell else k
  | [] => rfl
  | (n, k) :: r => by
    have ih := @lookup_relabel env x r
    show List.lookup x ((if (k == NameKind.free && env.scope.kind == .function && env.kindOf n == some .cell) = true then (n, NameKind.cell) else (n, k)) :: _) = _
    cases hx : x == n with
    | true =>
      have hx' : x = n := by simpa using hx
      subst hx'
      by_cases hc : (k == NameKind.free && env.scope.kind == .function && env.kindOf x == some .cell) = true
      · rw [if_pos hc]; simp only [List.lookup_cons, beq_self_eq_true, Option.map_some]; rw [if_pos hc]
      · rw [if_neg hc]; simp only [List.lookup_cons, beq_self_eq_true, Option.map_some]; rw [if_neg hc]
    | false =>
      by_cases hc : (k == NameKind.free && env.scope.kind == .function && env.kindOf n == some .cell) = true
      · rw [if_pos hc]; simp only [List.lookup_cons, hx]; exact ih
      · rw [if_neg hc]; simp only [List.lookup_cons, hx]; exact ih

/-- the block's own context -/
def Cx.comp (X : Cx) (scope : Scope) (T : List Str) (C : Addr) (fp : List Addr) (s₀ : Shared) (H₀ : Hp) : Cx :=
  { X with N := X.N ++ T, s₀ := s₀, H₀ := H₀, env := compEnvC scope (clOf scope X.env) C X.env, outer := X.stack, ex := fp, fn := fun _ => false, xe := fun _ _ => False }

structure CompScope (X : Cx) (scope : Scope) : Prop where
  kind : scope.kind = .function
  nocell : ∀ y ∈ scope.names, y.2 ≠ .cell
  names : ∀ y ∈ scope.names, y.2 = .local → scope.names.lookup y.1 = some .local
  free : ∀ n, scope.names.lookup n = some .free → X.env.kindOf n = some .cell ∨ X.env.kindOf n = some .free
  freeM : ∀ n, (n, NameKind.free) ∈ scope.names → X.env.kindOf n = some .cell ∨ X.env.kindOf n = some .free
  apart : ∀ x ∈ X.N, scope.names.lookup x ≠ some .local

section
variable {X : Cx} {scope : Scope} {pins : List (Addr × Obj)} {σ : St} {H : Hp} {s : Shared}
theorem CompScope.clo (S : CompScope X scope) (I : Inv X pins σ H s) : closureFor scope X.env = pure (clOf scope X.env) :=
  closureFor_clOf fun n h => I.ok.has n (S.freeM n h)
theorem CompScope.cl_old (S : CompScope X scope) (I : Inv X pins σ H s) {x : Str} {c : Addr} (h : (clOf scope X.env).lookup x = some c) : X.env.cells.lookup x = some c := by
  rcases clGo_mem (PySem.mem_of_lookup h) with q | ⟨q, e⟩
  · simp at q
  · obtain ⟨d, hd⟩ := I.ok.has x (S.freeM x q)
    have e' : c = (X.env.cells.lookup x).getD 0 := e
    rw [hd] at e' ⊢
    rw [e']; rfl
theorem CompScope.cl_has (_ : CompScope X scope) {x : Str} (h : scope.names.lookup x = some .free) : ∃ c, (clOf scope X.env).lookup x = some c := by
  obtain ⟨c, hc⟩ := clGo_has (env := X.env) (names := scope.names) (cs := []) (x := x) (.inr (PySem.mem_of_lookup h))
  exact lookup_of_key hc
theorem CompScope.kindOf (S : CompScope X scope) {C : Addr} {x : Str} (h : (compEnvC scope (clOf scope X.env) C X.env).kindOf x = some .cell ∨ (compEnvC scope (clOf scope X.env) C X.env).kindOf x = some .free) : scope.names.lookup x = some .free := by
  have e : (compEnvC scope (clOf scope X.env) C X.env).kindOf x = (scope.names.lookup x).map fun k => if (k == NameKind.free && X.env.scope.kind == .function && X.env.kindOf x == some .cell) then NameKind.cell else k := lookup_relabel
  rw [e] at h
  cases hl : scope.names.lookup x with
  | none => rw [hl] at h; rcases h with h | h <;> cases h
  | some k =>
    rw [hl] at h
    cases k with
    | free => rfl
    | cell => exact absurd rfl (S.nocell _ (PySem.mem_of_lookup hl))
    | _ => rcases h with h | h <;> cases h
theorem CompScope.vis (S : CompScope X scope) {C : Addr} {x : Str} (hx : x ∈ X.N) (h : Vis (compEnvC scope (clOf scope X.env) C X.env).scope x) : scope.names.lookup x = some .free := by
  rcases h with h | h | h
  · exfalso
    have e : (compEnvC scope (clOf scope X.env) C X.env).kindOf x = (scope.names.lookup x).map fun k => if (k == NameKind.free && X.env.scope.kind == .function && X.env.kindOf x == some .cell) then NameKind.cell else k := lookup_relabel
    have h' : (compEnvC scope (clOf scope X.env) C X.env).kindOf x = some .local := h
    rw [e] at h'
    cases hl : scope.names.lookup x with
    | none => rw [hl] at h'; cases h'
    | some k =>
      rw [hl] at h'
      have h' : (if (k == NameKind.free && X.env.scope.kind == .function && X.env.kindOf x == some .cell) = true then NameKind.cell else k) = .local := Option.some.inj h'
      split at h'
      · cases h'
      · subst h'
        exact S.apart x hx hl
  · exact S.kindOf (C := C) (.inl h)
  · exact S.kindOf (C := C) (.inr h)
theorem CompScope.back (S : CompScope X scope) {C : Addr} {x : Str} (h : scope.names.lookup x = some .free) : (compEnvC scope (clOf scope X.env) C X.env).kindOf x = some .cell ∨ (compEnvC scope (clOf scope X.env) C X.env).kindOf x = some .free := by
  have e : (compEnvC scope (clOf scope X.env) C X.env).kindOf x = (scope.names.lookup x).map fun k => if (k == NameKind.free && X.env.scope.kind == .function && X.env.kindOf x == some .cell) then NameKind.cell else k := lookup_relabel
  rw [e, h]
  show some (if _ then _ else _) = _ ∨ some (if _ then _ else _) = _
  split
  · exact .inl rfl
  · exact .inr rfl
end

/-- the tests of a comprehension -/
def PF (X : Cx) (ifs : List Expr) (t : TT) : Prop :=
  ∀ (pins : List (Addr × Obj)) (s : Shared) (σ : St) (H : Hp) (Q : Bool → Hp → Prop), Inv X pins σ H s → t σ H Q →
    wpAny (model X.prog X.w) X.A (forIn ifs true fun c r => if r = true then do let ok ← isTrue c X.env (eval c X.env); pure (ForInStep.yield ok) else pure (ForInStep.yield r)) (TP X pins σ Q) X.xe s
def tYes : TT := fun _ H Q => Q true H
theorem pf_nil {X : Cx} : PF X [] tYes := fun _ _ _ H _ I h => wpAny_pure ⟨H, I, h⟩
theorem pf_one {X : Cx} {c : Expr} {t : TT} (hc : PT X c t) : PF X [c] t := by
  intro pins s σ H Q I h
  rw [List.forIn_cons]
  simp only [if_true]
  refine wpAny_bind (wpAny_bind (thn (hc pins s σ H Q I h) fun b s1 q => wpAny_pure ?_))
  exact wpAny_pure q

theorem codeAny_compLoop_go {prog : Program} {w : World} {A : Around} {R : Result → Shared → Prop} {s : Shared} {elt target iter : Expr} {ifs : List Expr} {scope : Scope} {pos : Pos} {it acc : Value} {env : Env} (I : Nat → Shared → Prop)
    (turn : ∀ n s, I n s → wpAny (model prog w) A (pyNext it) (fun r s₁ => match r with
      | none => R (.ok .next) s₁
      | some v => wpAny (model prog w) A (letOwnedTupleGo target it v) (fun _ s₁ => wpAny (model prog w) A (assign target env v) (fun _ s₂ =>
          wpAny (model prog w) A (forIn ifs true fun c r => if r = true then do let ok ← isTrue c env (eval c env); pure (ForInStep.yield ok) else pure (ForInStep.yield r)) (fun ok s₃ =>
            if ok = true then wpAny (model prog w) A (eval elt env) (fun x s₄ =>
              wpAny (model prog w) A (call (.builtin "list.append") [acc, x]) (fun _ s₅ => ∃ m, m < n ∧ I m s₅) (fun _ _ => False) s₄) (fun _ _ => False) s₃
            else ∃ m, m < n ∧ I m s₃) (fun _ _ => False) s₂) (fun _ _ => False) s₁) (fun _ _ => False) s₁) (fun _ _ => False) s)
    (n : Nat) (h : I n s) :
    codeAny (model prog w) A (.compLoop (.ListComp elt [⟨target, iter, ifs, 0⟩] scope pos) 0 it acc env) R s := by
  refine codeAny_loop rfl I (fun n s hI => ?_) n h
  show wpAny _ A ((compTurn (.ListComp elt [⟨target, iter, ifs, 0⟩] scope pos) 0 it acc env).onRaise (fun x => do noteFrame x env; theTreesLotGoes x)) _ _ s
  refine wpAny_noted ?_
  rw [compTurn_list]
  refine wpAny_bind (wpAny_standAt (wpAny_bind (wpAny_mono (turn n s hI) (fun r s₁ h₁ => ?_) fun _ _ h' => h'.elim)))
  cases r with
  | none => exact wpAny_pure h₁
  | some v =>
    refine wpAny_bind (wpAny_mono h₁ (fun _ s₁ h₁ => ?_) fun _ _ h' => h'.elim)
    refine wpAny_bind (wpAny_mono h₁ (fun _ s₂ h₂ => wpAny_bind (wpAny_mono h₂ (fun ok s₃ h₃ => ?_) fun _ _ h' => h'.elim)) fun _ _ h' => h'.elim)
    cases ok with
    | false => exact wpAny_pure ⟨rfl, h₃⟩
    | true =>
      exact wpAny_bind (wpAny_bind (wpAny_mono h₃ (fun x s₄ h₄ => wpAny_bind (wpAny_mono h₄ (fun _ s₅ h₅ => wpAny_pure (wpAny_pure ⟨rfl, h₅⟩)) fun _ _ h' => h'.elim)) fun _ _ h' => h'.elim))
end L2

namespace L2
open PySem PySem.Spec PyProof.Rows
/-- W: the invariant by the turn, a measure, what has been gathered -/
def tLC (n : Nat) (wi : TI) (g : TG) (tc : TT) (te : TE) : TE := fun σ H Q => wi σ H fun J H1 => ∃ W : Nat → Nat → List V → Hp → Prop, (∃ m, W 0 m [] H1) ∧ ∀ i m ys H, W i m ys H →
  (J.stop i H ∧ ys.length ≤ sizeLine ∧ ∀ D, H D = none → Q (.ref D) (upd H D (.lst ys))) ∨
  (J.go i H ∧ ys.length < sizeLine ∧ ∀ x H', J.yld i H x H' → g x (σ ++ List.replicate n none) H' fun σ2 H2 => tc σ2 H2 fun b H3 =>
    if b = true then te σ2 H3 fun y H4 => ∃ m', m' < m ∧ W (i + 1) m' (ys ++ [y]) H4 else ∃ m', m' < m ∧ W (i + 1) m' ys H3)
/-- a target that leaves the outer slots -/
def Outer (g : TG) (n k : Nat) : Prop := ∀ (σ : St), σ.length = n → ∀ x H Q, g x (σ ++ List.replicate k none) H Q →
  g x (σ ++ List.replicate k none) H fun σ2 H2 => ((σ2.length = n + k ∧ ∀ (i : Nat) v, (σ ++ List.replicate k none)[i]? = some (some v) → σ2[i]? = some (some v)) ∧ Q σ2 H2)

section
variable {X : Cx} {scope : Scope} {T : List Str} {elt target iter : Expr} {ifs : List Expr} {wi : TI} {g : TG} {tc : TT} {te : TE}
theorem ltN {h : Heap} {b : Addr} {o : Obj} (e : h.get? b = some o) : @LT.lt Nat instLTNat b h.objs.size := Heap.lt_size e
theorem neN {a b : Addr} (h : @Ne Nat a b) : a ≠ b := h
theorem leN {a b : Addr} (h : @LE.le Nat instLENat a b) : a ≤ b := h
theorem lst_push (its : List Value) (n : Nat) (u : Value) : ∃ n', Obj.mapSeq (·.push u) { cls := .type "list", data := .seq its.toArray n } = ({ cls := .type "list", data := .seq (its ++ [u]).toArray n' } : Obj) :=
  ⟨_, by simp [Obj.mapSeq]; rfl⟩
theorem append_acc {prog : Program} {w : World} {A : Around} {E : Value → Shared → Prop} {s : Shared} {D : Addr} {its : List Value} {n : Nat} {u : Value} {Q : Value → Shared → Prop} (hD : s.heap.get? D = some { cls := .type "list", data := .seq its.toArray n })
    (hz : its.length ≤ sizeLine) (h : ∀ h' n', Heap.SameBut D s.heap h' → h'.get? D = some { cls := .type "list", data := .seq (its ++ [u]).toArray n' } → Q .none { s with heap := h' }) :
    wpAny (model prog w) A (call (.builtin "list.append") [.ref D, u]) Q E s := by
  have hl : s.heap.IsList D its.toArray := ⟨_, hD, rfl, n, rfl⟩
  refine wpAny_call_entry slot_list_append hl.typeIs entry_list_append ?_ (args_list_append _ _)
  show wpAny _ _ (updateSeq D (·.push u) >>= fun _ => ret .none) _ _ s
  refine wpAny_bind ?_
  obtain ⟨n', e'⟩ := lst_push its n u
  refine wpAny_updateSeq (f := (·.push u)) hD rfl (wpAny_pure ⟨.none, rfl, h _ n' (Heap.SameBut.update ..) ?_⟩) (by rw [List.size_toArray]; exact hz) (by rw [Array.size_push, List.size_toArray]; exact Nat.succ_le_succ hz)
  rw [← e']
  exact Heap.get?_update_self _ hD (by rw [e']; rfl)

theorem comp_block {pins : List (Addr × Obj)} {σ : St} {Q : VK} {E : Value → Shared → Prop} {pos : Pos} {itv : Value} {s₂ : Shared} {RR : Value → Addr → Result → Shared → Prop}
    (S : CompScope X scope) (hc : X.calm = true)
    (hg : ∀ C fp s₀ H₀, PG (X.comp scope T C fp s₀ H₀) target g) (hgo : Outer g X.N.length T.length) (hf : ∀ C fp s₀ H₀, PF (X.comp scope T C fp s₀ H₀) ifs tc) (he : ∀ C fp s₀ H₀, PE (X.comp scope T C fp s₀ H₀) elt te)
    (h : PIE X pins σ target (fun J H1 => ∃ W : Nat → Nat → List V → Hp → Prop, (∃ m, W 0 m [] H1) ∧ ∀ i m ys H, W i m ys H →
      (J.stop i H ∧ ys.length ≤ sizeLine ∧ ∀ D, H D = none → Q (.ref D) (upd H D (.lst ys))) ∨
      (J.go i H ∧ ys.length < sizeLine ∧ ∀ x H', J.yld i H x H' → g x (σ ++ List.replicate T.length none) H' fun σ2 H2 => tc σ2 H2 fun b H3 =>
        if b = true then te σ2 H3 fun y H4 => ∃ m', m' < m ∧ W (i + 1) m' (ys ++ [y]) H4 else ∃ m', m' < m ∧ W (i + 1) m' ys H3)) itv s₂)
    (hRR : ∀ D C s' H' m', Inv X pins σ H' s' → FpOk X pins H' C → s'.heap.Ns C m' → Q (.ref D) H' → RR (.ref D) C (.ok .next) s') :
    wpAny (model X.prog X.w) X.A (newList []) (fun acc s₃ => wpAny (model X.prog X.w) X.A (newFunctionEnv scope X.env.globals (clOf scope X.env) [] X.env.qual none .none (some X.env)) (fun cenv s₄ =>
      codeAny (model X.prog X.w) X.A (.compStart (.ListComp elt [⟨target, iter, ifs, 0⟩] scope pos) 0 itv acc { cenv with scope := relabel scope X.env }) (RR acc cenv.locals) s₄) E s₃) E s₂ := by
  obtain ⟨it, fp, tn, J, H2, rfl, I2, Tn, st2, f2, W, ⟨m0, w0⟩, turn⟩ := h
  refine wpAny_newObj_type (wpAny_newFunctionEnv S.nocell (by intro y hy; simp at hy) (fun h₁ hns₁ hsb₁ => ?_) S.kind)
  dsimp only at hns₁ hsb₁ ⊢
  generalize hH2 : s₂.heap.push { cls := .type "list", dict := none, data := .seq ([] : List Value).toArray } = G at hns₁ hsb₁ ⊢
  have hC : G.objs.size = s₂.heap.objs.size + 1 := by rw [← hH2, Heap.size_push]
  obtain ⟨D, eD⟩ : ∃ D, s₂.heap.objs.size = D := ⟨_, rfl⟩
  obtain ⟨C, eC⟩ : ∃ C, G.objs.size = C := ⟨_, rfl⟩
  rw [eD] at hC ⊢
  rw [eC] at hC hns₁ hsb₁ ⊢
  have hDC : D ≠ C := by omega
  have old : ∀ b o, s₂.heap.get? b = some o → h₁.get? b = some o := fun b o e => by
    have hb := ltN e
    exact hsb₁.extBut b o (neN (by omega)) (Heap.get?_push_of_some _ (hH2 ▸ Heap.get?_push_of_some _ e))
  have hacc : h₁.get? D = some { cls := .type "list", data := .seq ([] : List Value).toArray 0 } := by
    refine hsb₁.extBut _ _ hDC (Heap.get?_push_of_some _ ?_)
    rw [← hH2, ← eD]
    exact Heap.get?_push_size _ rfl
  have fpo : ∀ b ∈ fp, @LT.lt Nat instLTNat b s₂.heap.objs.size := fun b hb => by
    obtain ⟨o, e, _⟩ := Tn.obj _ _ st2 b hb
    exact ltN e
  have ilt : @LT.lt Nat instLTNat X.env.locals s₂.heap.objs.size := I2.lt
  have isz : X.s₀.heap.objs.size ≤ s₂.heap.objs.size := I2.sz
  have HD : H2 D = none := I2.hok.fresh (leN (by omega))
  have HC : H2 C = none := I2.hok.fresh (leN (by omega))
  have nfs : ∀ b : Addr, @LE.le Nat instLENat s₂.heap.objs.size b → b ∉ frs X.stack := fun b hb z => by
    have q := I2.stkSub b z
    rcases List.mem_cons.mp q with q | q
    · rw [← q] at ilt; exact absurd ilt (Nat.not_lt.mpr hb)
    · exact I2.nofs hb q
  have cellLt : ∀ x c, X.env.cells.lookup x = some c → @LT.lt Nat instLTNat c s₂.heap.objs.size := fun x c e => by
    obtain ⟨v, q⟩ := I2.cell x c e
    exact q.lt
  let X' : Cx := X.comp scope T C fp s₂ H2
  have ok' : X'.Ok := {
    mod := I2.ok.mod, kind := S.kind, glob := I2.ok.glob, blt := I2.ok.blt
    above := leN (by show @LE.le Nat instLENat s₂.heap.objs.size C; omega)
    inj := fun x y c h1 h2 => I2.ok.inj x y c (S.cl_old I2 h1) (S.cl_old I2 h2)
    has := fun x hx => S.cl_has (S.kindOf hx)
    cab := fun x c hx => absurd (show false = true from hx) (by simp)
    hd := I2.ok.hd, frames := I2.ok.frames, stk := .inl rfl
    exf := fun b hb => ⟨neN (by have := fpo b hb; show @Ne Nat b C; omega), fun x c e => (f2 b hb).2.2.2.2.1 x c (S.cl_old I2 e)⟩
    bs := I2.bs, bsz := Nat.le_trans I2.ok.bsz I2.sz
    noex := fun b o e hb => by
      obtain ⟨e0, n0⟩ := I2.ok.bs b o e
      rcases (f2 b hb).2.2.2.1 with q | q
      · exact I2.ok.noex b o e q
      · have q' : @LE.le Nat instLENat X.s₀.heap.objs.size b := q
        have := ltN e0; omega
    exfs := fun b hb z => by
      rcases List.mem_cons.mp (I2.stkSub b z) with q | q
      · exact (f2 b hb).2.1 q
      · exact (f2 b hb).2.2.1 q
    funs := I2.stack, frf := I2.stkFree }
  have I4 : ∀ tk, 0 < tk → Inv X' pins (σ ++ List.replicate T.length none) H2 { s₂ with heap := h₁, toks := tk } := fun tk htk => {
    tk := htk, ok := ok', os := rfl, bare := I2.bare, base := Un.kept old
    loc := ⟨_, hns₁, fun i x v e1 e2 e3 => by
      have hi : i < σ.length := by
        by_cases hi : i < σ.length
        · exact hi
        · rw [List.getElem?_append_right (by omega), List.getElem?_replicate] at e2
          split at e2 <;> cases e2
      rw [List.getElem?_append_left hi] at e2
      have hi' : i < X.N.length := by rw [← I2.len]; exact hi
      have e1' : X.N[i]? = some x := by
        have : (X.N ++ T)[i]? = some x := e1
        rw [List.getElem?_append_left hi'] at this; exact this
      have hfr := S.vis (List.mem_of_getElem? e1') e3
      obtain ⟨m, hn, hl⟩ := I2.loc
      have hk := S.free x hfr
      obtain ⟨u, r, l⟩ := hl i x v e1' e2 (.inr hk)
      refine ⟨u, r, .inr ⟨S.back hfr, ?_⟩⟩
      rcases l with ⟨l, _⟩ | ⟨_, c, e, z⟩
      · rw [l] at hk; rcases hk with q | q <;> cases q
      · obtain ⟨c', e'⟩ := S.cl_has hfr
        have e'' := S.cl_old I2 e'
        rw [e] at e''; cases e''
        exact ⟨c, e', z.keeps old⟩⟩
    cell := fun x c e => by
      obtain ⟨v, z⟩ := I2.cell x c (S.cl_old I2 e)
      exact ⟨v, z.keeps old⟩
    free := HC, freeC := fun x c e => I2.freeC x c (S.cl_old I2 e)
    pin := fun p hp => by
      obtain ⟨a, b, c, d, e⟩ := I2.pin p hp
      have hlt := ltN a
      refine ⟨old _ _ a, b, neN (by show @Ne Nat p.1 C; omega), fun z => ?_, e⟩
      rcases List.mem_cons.mp (I2.stkSub _ z) with q | q
      · exact c q
      · exact d q
    hok := I2.hok.kept old
    len := by show (σ ++ _).length = (X.N ++ T).length; rw [List.length_append, List.length_append, List.length_replicate, I2.len] }
  have fpk : ∀ (pins' : List (Addr × Obj)) (H' : Hp), (∀ p ∈ pins', p ∈ pins ∨ p.1 = D) → (∀ b ∈ fp, H' b = none) → ∀ b ∈ fp, FpOk X' pins' H' b := fun pins' H' hp hn b hb => by
    obtain ⟨_, q1, q2, q3, q4, q5⟩ := f2 b hb
    have hlt := fpo b hb
    refine ⟨hn b hb, neN (by show @Ne Nat b C; omega), ok'.exfs b hb, .inl hb, (ok'.exf b hb).2, fun p hpp => ?_⟩
    rcases List.mem_append.mp hpp with z | z
    · exact q5 p (List.mem_append_left _ z)
    · rcases hp p z with z | z
      · exact q5 p (List.mem_append_right _ z)
      · rw [z]; exact neN (by omega)
  have stay : Tn.keep = Tn.keep := rfl
  have loop : ∀ s₃ : Shared, s₃ = { s₂ with heap := h₁, toks := s₂.toks + ([] : List (Str × Value)).length } →
      codeAny (model X.prog X.w) X.A (.compLoop (.ListComp elt [⟨target, iter, ifs, 0⟩] scope pos) 0 (.ref it) (.ref D) X'.env) (RR (.ref D) C) s₃ := by
    rintro s₃ rfl
    refine codeAny_compLoop_go (fun n s' => ∃ i σ' H' ys its k, Inv X' pins σ' H' s' ∧ (σ'.length = X.N.length + T.length ∧ ∀ (i : Nat) v, (σ ++ List.replicate T.length none)[i]? = some (some v) → σ'[i]? = some (some v)) ∧
      s'.heap.get? D = some { cls := .type "list", data := .seq (its : List Value).toArray k } ∧ Vals ys its ∧ H' D = none ∧ tn i s'.heap ∧ (∀ b ∈ fp, H' b = none) ∧ W i n ys H') ?_ m0
      ⟨0, _, H2, [], [], 0, I4 _ I2.tk, ⟨by rw [List.length_append, List.length_replicate, I2.len], fun _ _ e => e⟩, hacc, .nil, HD, Tn.keep _ _ _ st2 fun b _ o e => old b o e, fun b hb => (f2 b hb).1, w0⟩
    rintro n s3 ⟨i, σ3, H3, ys, its, k, I3, ⟨hl3, hs3⟩, hD3, hv3, hH3, st3, fr3, w3⟩
    have hlen : its.length = ys.length := hv3.length.symm
    have D_fs : D ∉ X'.fs := nfs D (by omega)
    have DC' : D ≠ X'.env.locals := hDC
    -- D is pinned while the block runs
    have I3p : Inv X' (pins ++ [(D, { cls := .type "list", data := .seq its.toArray k })]) (σ ++ List.replicate T.length none) H3 s3 :=
      (I3.weak (by rw [hl3, List.length_append, List.length_replicate, I2.len]) hs3).pins_of fun p hp => by
        rcases List.mem_append.mp hp with z | z
        · exact I3.pin p (List.mem_append_right _ z)
        · have e := List.mem_singleton.mp z
          subst e
          exact ⟨hD3, hH3, DC', D_fs, fun v z => by cases z⟩
    have pinsD : ∀ p ∈ pins ++ [(D, ({ cls := .type "list", data := .seq its.toArray k } : Obj))], p ∈ pins ∨ p.1 = D := fun p hp => by
      rcases List.mem_append.mp hp with z | z
      · exact .inl z
      · exact .inr (by rw [List.mem_singleton.mp z])
    rcases turn i n ys H3 w3 with ⟨stop, hz, qn⟩ | ⟨go, hz, step⟩
    · refine thn (Tn.done X' rfl rfl rfl hc i _ s3 _ H3 _ I3p (fpk _ H3 pinsD fr3) st3 stop) fun r s4 ⟨hr, I4'⟩ => ?_
      subst hr
      obtain ⟨hD4, hH4, _⟩ := I4'.pin (D, _) (List.mem_append_right _ (List.mem_append_right _ List.mem_cons_self))
      obtain ⟨m', hn', _⟩ := I4'.loc
      have un : Un (frs X.stack) fp H2 (upd H3 D (.lst ys)) s₂.heap s4.heap := {
        keep := I4'.base.keep, slot := I4'.base.slot
        free := fun b o e n hx => by
          have := ltN e
          rw [upd_ne (neN (by omega))]
          exact I4'.base.free b o e n hx
        there := I4'.base.there
        tups := fun b xs e => by rw [upd_ne (fun z => by rw [z, HD] at e; cases e)]; exact I4'.base.tups b xs e
        frzs := fun b o u e => by rw [upd_ne (fun z => by rw [z, HD] at e; cases e)]; exact I4'.base.frzs b o u e
        tbls := fun b ps e => by rw [upd_ne (fun z => by rw [z, HD] at e; cases e)]; exact I4'.base.tbls b ps e }
      have hok : HOk X.prog X.w (upd H3 D (.lst ys)) s4.heap := fun b u e => by
        by_cases hb : b = D
        · subst hb
          rw [upd_same] at e; cases e
          exact ⟨hz, its, k, hv3, hD4⟩
        · rw [upd_ne hb] at e
          refine (I4'.hok b u e).stay (fun _ _ _ q => q) (fun c q => ?_) fun c xs q => ?_
          · rw [upd_ne (ne_of_none q hH3)]; exact q
          · rw [upd_ne (ne_of_none q hH3)]; exact q
      have I5 : Inv X pins σ (upd H3 D (.lst ys)) s4 := I2.call' (ch := fp) I4'.os un hok I4'.bare fun b hb => ⟨(f2 b hb).2.2.2.1, (f2 b hb).2.1, (f2 b hb).2.2.2.2.1, (f2 b hb).2.2.2.2.2⟩
      refine hRR D C s4 _ m' I5 ?_ hn' (qn D hH3)
      refine ⟨by rw [upd_ne (Ne.symm hDC)]; exact I4'.free, ?_, ?_, .inr ?_, fun x c e => ?_, fun p hp => ?_⟩
      · exact neN (by omega)
      · exact I2.nofs (leN (by omega))
      · exact leN (by omega)
      · exact neN (by have := cellLt x c e; omega)
      · exact neN (by have := ltN (I2.pin p hp).1; omega)
    · refine thn (Tn.item X' rfl rfl rfl hc i _ s3 _ H3 _ I3p (fpk _ H3 pinsD fr3) st3 go) fun r s4 ⟨u, hr, h4⟩ => ?_
      subst hr
      refine thn h4 fun _ s5 ⟨x, H5, I5, r5, y5, st5, fr5⟩ => ?_
      have I5' := I5.pinned (fpk _ H5 pinsD fr5) (Tn.obj _ _ st5)
      refine wpAny_mono ((hg C fp s₂ H2) _ s5 _ H5 x u _ I5' r5 (hgo σ I2.len x H5 _ (step x H5 y5))) (fun _ s6 ⟨σ6, H6, I6, ⟨hl6, hs6⟩, q6⟩ => ?_) fun _ _ z => z
      refine wpAny_mono ((hf C fp s₂ H2) _ s6 σ6 H6 _ I6 q6) (fun b s7 ⟨H7, I7, q7⟩ => ?_) fun _ _ z => z
      have fin : ∀ {s8 : Shared} {H8 : Hp} (I8 : Inv X' ((pins ++ [(D, { cls := .type "list", data := .seq its.toArray k })]) ++ pinsAt fp s5.heap) σ6 H8 s8), tn (i + 1) s8.heap ∧ (∀ b ∈ fp, H8 b = none) ∧ s8.heap.get? D = some { cls := .type "list", data := .seq its.toArray k } ∧ H8 D = none ∧ Inv X' pins σ6 H8 s8 := fun {s8 H8} I8 => by
        refine ⟨Tn.keep _ _ _ st5 fun b hb o e => (I8.pin (b, o) (List.mem_append_right _ (List.mem_append_right _ (mem_pinsAt hb e)))).1, fun b hb => ?_, ?_, ?_, I8.unpinned.unpinned⟩
        · obtain ⟨o, e, d⟩ := Tn.obj _ _ st5 b hb
          exact (I8.pin (b, o) (List.mem_append_right _ (List.mem_append_right _ (mem_pinsAt hb e)))).2.1
        · exact (I8.pin (D, _) (List.mem_append_right _ (List.mem_append_left _ (List.mem_append_right _ List.mem_cons_self)))).1
        · exact (I8.pin (D, _) (List.mem_append_right _ (List.mem_append_left _ (List.mem_append_right _ List.mem_cons_self)))).2.1
      cases b with
      | false =>
        rw [if_neg Bool.false_ne_true] at q7 ⊢
        obtain ⟨m', hm, w7⟩ := q7
        obtain ⟨a1, a2, a3, a4, a5⟩ := fin I7
        exact ⟨m', hm, i + 1, σ6, H7, ys, its, k, a5, ⟨hl6, hs6⟩, a3, hv3, a4, a1, a2, w7⟩
      | true =>
        rw [if_pos rfl] at q7 ⊢
        refine wpAny_mono ((he C fp s₂ H2) _ s7 σ6 H7 _ I7 q7) (fun v s8 ⟨y, H8, I8, r8, m', hm, w8⟩ => ?_) fun _ _ z => z
        obtain ⟨a1, a2, a3, a4, a5⟩ := fin I8
        refine append_acc a3 (by omega) fun h9 k9 hs9 hD9 => ?_
        have nD : ∀ b ∈ fp, b ≠ D := fun b hb => neN (by have := fpo b hb; omega)
        refine ⟨m', hm, i + 1, σ6, H8, ys ++ [y], its ++ [v], k9, ?_, ⟨hl6, hs6⟩, hD9, hv3.append (.cons r8 .nil), a4, Tn.keep _ _ _ a1 fun b hb o e => (hs9.2 b (nD b hb)).trans e, a2, w8⟩
        exact a5.turned (t' := s8.toks) (it := D) (fun b o hb e => (hs9.2 b hb).trans e) a4 DC' (.inr (leN (by show @LE.le Nat instLENat s₂.heap.objs.size D; omega))) (fun x c e => neN (by have := cellLt x c (S.cl_old I2 e); omega)) fun p hp => neN (by
          have := ltN (I2.pin p hp).1; omega)
  exact codeAny_compStart_list (loop _ rfl) (Tn.self _ _ _ _ _ (Tn.keep _ _ _ st2 fun b _ o e => old b o e) (loop _ rfl))
end
end L2
namespace L2
open PySem PySem.Spec PyProof.Rows
section
variable {X : Cx} {scope : Scope} {T : List Str} {elt target iter : Expr} {ifs : List Expr} {wi : TI} {g : TG} {tc : TT} {te : TE}
theorem pe_lc (T : List Str) {pos : Pos} (S : CompScope X scope) (hc : X.calm = true) (hi : PI X target iter wi) (hg : ∀ C fp s₀ H₀, PG (X.comp scope T C fp s₀ H₀) target g) (hgo : Outer g X.N.length T.length)
    (hf : ∀ C fp s₀ H₀, PF (X.comp scope T C fp s₀ H₀) ifs tc) (he : ∀ C fp s₀ H₀, PE (X.comp scope T C fp s₀ H₀) elt te)
    (hs : ∀ x, foldedSetIterable iter X.env x = pure x := by intro _; rfl) : PE X (.ListComp elt [⟨target, iter, ifs, 0⟩] scope pos) (tLC T.length wi g tc te) := by
  intro pins s σ H Q I h
  rw [eval_ListComp]
  refine wpAny_comprehension_free (use := none) rfl hs (S.clo I) S.kind S.names (thn (hi pins s σ H _ I h) fun v s1 h1 => thn h1 fun itv s2 h2 => ?_)
  refine comp_block (RR := fun acc C => compPost (model X.prog X.w) X.A X.xe none (EP X pins σ Q) acc C) S hc hg hgo hf he h2 ?_
  intro D C s' H' m' I' f' hn q
  exact ⟨m', hn, fun h' hs' => ⟨.ref D, H', I'.turned (t' := s'.toks) (it := C) (fun b o hb e => (hs'.2 b hb).trans e) f'.1 (Ne.symm (Ne.symm f'.2.1)) f'.2.2.2.1 f'.2.2.2.2.1 f'.2.2.2.2.2, rfl, q⟩⟩
theorem ps_setLC (T : List Str) {i : Nat} {x : Str} {px lp pos : Pos} (hN : X.N.Nodup) (hix : X.N[i]? = some x) (hx : Loc X.env.scope x) (S : CompScope X scope) (hc : X.calm = true) (hi : PI X target iter wi)
    (hg : ∀ C fp s₀ H₀, PG (X.comp scope T C fp s₀ H₀) target g) (hgo : Outer g X.N.length T.length)
    (hf : ∀ C fp s₀ H₀, PF (X.comp scope T C fp s₀ H₀) ifs tc) (he : ∀ C fp s₀ H₀, PE (X.comp scope T C fp s₀ H₀) elt te)
    (hsw : swapsWith (.ListComp elt [⟨target, iter, ifs, 0⟩] scope lp) (some (.Name x px)) pos.line X.env = pure true := by rfl)
    (hfn : X.fn x = true ∨ X.env.scope.names.lookup x = some .local := by first | exact .inl rfl | exact .inr rfl | assumption)
    (hs : ∀ x, foldedSetIterable iter X.env x = pure x := by intro _; rfl) : PS X (.Assign [.Name x px] (.ListComp elt [⟨target, iter, ifs, 0⟩] scope lp) pos) (tAsg (tLC T.length wi g tc te) (gName i)) := by
  intro pins s σ H D I h
  rw [exec_Assign_Name_used _ _ _ _ hsw]
  refine wpAny_bind (wpAny_standAt (wpAny_bind ?_))
  show wpAny _ X.A (do let _ ← comprehension (.ListComp elt [⟨target, iter, ifs, 0⟩] scope lp) scope X.env _ (newList []) false (eval iter X.env) (some (assign (.Name x px) X.env))) _ _ s
  refine wpAny_bind (wpAny_mono (wpAny_comprehension_free (use := some (assign (.Name x px) X.env)) (Q := fun _ s' => SP X pins D .next s') rfl hs (S.clo I) S.kind S.names
    (thn (hi pins s σ H _ I h) fun v s1 h1 => thn h1 fun itv s2 h2 => ?_)) (fun _ s' hq => wpAny_pure (wpAny_pure hq)) fun _ _ e => e)
  refine comp_block (RR := fun acc C => compPost (model X.prog X.w) X.A X.xe (some (assign (.Name x px) X.env)) (fun _ s' => SP X pins D .next s') acc C) (pins := pins) (σ := σ) (Q := fun x H1 => gName i x σ H1 D.nx) S hc hg hgo hf he h2 ?_
  intro A C s' H' m' I' f' hn q
  show wpAny _ X.A (assign (.Name x px) X.env (.ref A)) _ _ s'
  refine wpAny_assign_Name (store_ok2 I' hN hix hx (v := .ref A) rfl (fun s'' I'' ⟨a, hs, ha⟩ _ => ?_) hfn)
  have hCa : C ≠ a := by
    rcases ha with z | z
    · rw [z]; exact f'.2.1
    · exact fun e => f'.2.2.2.2.1 x a z e.symm
  exact ⟨m', hn.sameBut hs hCa, fun h' hs' => ⟨_, H', I''.turned (t' := s''.toks) (it := C) (fun b o hb e => (hs'.2 b hb).trans e) f'.1 f'.2.1 f'.2.2.2.1 f'.2.2.2.2.1 f'.2.2.2.2.2, q⟩⟩
end
/-- the comprehension's scope is in order, decided -/
def compOk (outer : Scope) (N : List Str) (sc : Scope) : Bool :=
  decide (sc.kind = .function) && sc.names.all (fun p => decide (p.2 ≠ .cell) && (decide (p.2 ≠ .local) || decide (sc.names.lookup p.1 = some .local)) && (decide (p.2 ≠ .free) || (decide (outer.names.lookup p.1 = some .cell) || decide (outer.names.lookup p.1 = some .free))))
    && N.all (fun x => decide (sc.names.lookup x ≠ some .local))
theorem compOk.mk {X : Cx} {sc : Scope} (h : compOk X.env.scope X.N sc = true) : CompScope X sc := by
  unfold compOk at h
  rw [Bool.and_eq_true, Bool.and_eq_true, List.all_eq_true, List.all_eq_true] at h
  obtain ⟨⟨h1, h2⟩, h3⟩ := h
  have fm : ∀ n, (n, NameKind.free) ∈ sc.names → X.env.kindOf n = some .cell ∨ X.env.kindOf n = some .free := fun n hn => by
    have q := h2 _ hn
    simp only [Bool.and_eq_true, Bool.or_eq_true, decide_eq_true_eq] at q
    rcases q.2 with z | z
    · exact absurd rfl z
    · exact z
  refine ⟨of_decide_eq_true h1, fun y hy => ?_, fun y hy e => ?_, fun n hn => fm n (PySem.mem_of_lookup hn), fm, fun x hx => of_decide_eq_true (h3 x hx)⟩
  · have q := h2 _ hy
    simp only [Bool.and_eq_true, Bool.or_eq_true, decide_eq_true_eq] at q
    exact q.1.1
  · have q := h2 _ hy
    simp only [Bool.and_eq_true, Bool.or_eq_true, decide_eq_true_eq] at q
    rcases q.1.2 with z | z
    · exact absurd e z
    · exact z
/-- one name -/
theorem outer_name (n : Nat) : Outer (gName n) n 1 := by
  intro σ hl x H Q h
  refine ⟨⟨by simp [hl], fun i v e => ?_⟩, h⟩
  by_cases hi : i = n
  · subst hi
    rw [List.getElem?_append_right (by omega)] at e
    simp [hl] at e
  · rw [List.getElem?_set_ne (Ne.symm hi)]; exact e
end L2

namespace L2
open PySem PySem.Spec PyProof.Rows
/-! ### one rule for each sign of the language, by what stands there -/
section
variable {X : Cx}
def uAdd : R2 := fun x y H Q => match x, y with
  | .int i, .int j => Q (.int (i + j)) H
  | .str a, .str b => a.length + b.length ≤ sizeLine ∧ Q (.str (a ++ b)) H
  | .ref l, .ref b => ∃ xs zs, H l = some (.lst xs) ∧ H b = some (.lst zs) ∧ xs.length + zs.length ≤ sizeLine ∧ ∀ p, H p = none → Q (.ref p) (upd H p (.lst (xs ++ zs)))
  | _, _ => False
theorem op_uAdd : OpR X (binaryOp .Add) uAdd := by
  intro pins s σ H x y v u Q I rx ry h
  cases x <;> cases y <;> first
    | exact False.elim h
    | exact op_add pins s σ H _ _ v u Q I rx ry ⟨_, _, rfl, rfl, h⟩
    | exact op_add_str pins s σ H _ _ v u Q I rx ry ⟨_, _, rfl, rfl, h.1, h.2⟩
    | (obtain ⟨xs, zs, h1, h2, h3, h4⟩ := h; exact op_cat pins s σ H _ _ v u Q I rx ry ⟨_, _, xs, zs, rfl, rfl, h1, h2, h3, h4⟩)

/-- a dict of the module's top -/
def KD (K : PySem.W.Frag) (P : Program) (w : World) (a : Addr) (kvs : List (Key × V)) : Prop :=
  (a == sysModules) = false ∧ kvs.length ≤ sizeLine ∧ ∀ h : Heap, K.In h → ∃ vs, KV kvs vs ∧ h.DictOf (mixKind P w) a vs
/-- x[y]: a text, a list, a tuple by a place; a dict by a key -/
def uIx (K : PySem.W.Frag) (P : Program) (w : World) : R2 := fun x y H Q => match x, y with
  | .str z, .int i => z.length ≤ sizeLine ∧ ∃ c, atI z.cps.toList i = some c ∧ Q (.str ⟨#[c]⟩) H
  | .ref p, .int i => ∃ xs v, (SqL K H p xs ∨ SqT K H p xs) ∧ atI xs i = some v ∧ Q v H
  | .ref p, .str k => ∃ kvs v, (Rd H p (.dK kvs) ∨ KD K P w p kvs) ∧ valV kvs (Sum.inr k) = some v ∧ Q v H
  | _, _ => False
theorem d_tail {value slice : Expr} {pins : List (Addr × Obj)} {s : Shared} {σ : St} {H : Hp} {a : Addr} {u : Value} {vs : List (Key × Value)} {k : Key} {w' : Value} {v : V} {Q : VK} (I : Inv X pins σ H s) (dd : s.heap.DictOf (mixKind X.prog X.w) a vs) (hk : keyIs k u = true)
    (hw : valueAt vs k = some w') (r : RelV v w') (q : Q v H) (hs : subscripted slice false (.ref a) u = operate [.ref a, u] (getItem (.ref a) u)) : wpAny (model X.prog X.w) X.A (subscriptTail value slice (.ref a) u) (EP X pins σ Q) X.xe s :=
  tail_any dd.typeIs PySem.F.slot_dict_getitem.lookup (wpAny_getItem_of hk dd.mapOf hw ⟨v, H, I.tok _, r, q⟩) hs
theorem ix_u : IxR X (uIx X.K X.prog X.w) := by
  intro value slice pins s σ H x y v u Q I rx ry q hs
  cases x with
  | str z =>
    cases y with
    | int i =>
      obtain ⟨h1, c, h2, h3⟩ := q
      exact ix_str value slice pins s σ H _ _ v u Q I rx ry ⟨z, i, c, rfl, rfl, h1, h2, h3⟩ hs
    | _ => exact q.elim
  | ref p =>
    cases y with
    | int i =>
      obtain ⟨xs, w', h1, h2, h3⟩ := q
      rcases h1 with h1 | h1
      · exact ix_list value slice pins s σ H _ _ v u Q I rx ry ⟨p, xs, i, w', rfl, rfl, h1, h2, h3⟩ hs
      · exact ix_tup value slice pins s σ H _ _ v u Q I rx ry ⟨p, xs, i, w', rfl, rfl, h1, h2, h3⟩ hs
    | str k =>
      obtain ⟨kvs, w', h1, h2, h3⟩ := q
      have ry' : RelV (kV (Sum.inr k)) u := ry
      cases (show v = Value.ref p from rx)
      rcases h1 with h1 | h1
      · obtain ⟨z, hd, vs, rel, dd⟩ := dk_rd I.hok h1
        obtain ⟨w2, hw, rw'⟩ := RelO.some_of (v := w') (o := valueAt vs (Sum.inr k)) (by rw [← h2]; exact rel.val _)
        exact d_tail I dd (kV_is (P := X.prog) (w := X.w) ry') hw rw' h3 hs
      · obtain ⟨hd, z, dd⟩ := h1
        obtain ⟨vs, rel, dd⟩ := dd s.heap I.kIn
        obtain ⟨w2, hw, rw'⟩ := RelO.some_of (v := w') (o := valueAt vs (Sum.inr k)) (by rw [← h2]; exact rel.val _)
        exact d_tail I dd (kV_is (P := X.prog) (w := X.w) ry') hw rw' h3 hs
    | _ => exact q.elim
  | _ => cases y <;> exact q.elim

/-- len -/
def uLen (K : PySem.W.Frag) : List V → Hp → VK → Prop := fun xs H Q => match xs with
  | [.str z] => z.length ≤ sizeLine ∧ Q (.int z.length) H
  | [.ref p] => ∃ ys, (SqL K H p ys ∨ SqT K H p ys) ∧ Q (.int ys.length) H
  | _ => False
theorem call_uLen : CallR X (.builtin "len") (uLen X.K) := by
  intro pins s σ H xs us Q I r h
  match xs, h with
  | [.str z], h => exact call_len_str pins s σ H _ us Q I r ⟨z, rfl, h.1, h.2⟩
  | [.ref p], h =>
    obtain ⟨ys, h1, h2⟩ := h
    exact call_len_seq pins s σ H _ us Q I r ⟨p, ys, rfl, h1, h2⟩


/-! ### data, and == of it -/
inductive Da where
  | s (v : V)
  | tup (xs : List Da)
  | lst (xs : List Da)
mutual
def Da.eq : Da → Da → Bool
  | .s v, .s w => eqV v w
  | .tup xs, .tup ys => Da.eqs xs ys
  | .lst xs, .lst ys => Da.eqs xs ys
  | _, _ => false
def Da.eqs : List Da → List Da → Bool
  | [], [] => true
  | x :: xs, y :: ys => Da.eq x y && Da.eqs xs ys
  | _, _ => false
end
def RepN (K : PySem.W.Frag) (H : Hp) : Nat → V → Da → Prop
  | 0, v, d => d = .s v ∧ flatV v = true
  | n + 1, v, d => (d = .s v ∧ flatV v = true) ∨ (∃ a xs ds, v = .ref a ∧ d = .tup ds ∧ SqT K H a xs ∧ Paired (RepN K H n) xs ds) ∨ (∃ a xs ds, v = .ref a ∧ d = .lst ds ∧ SqL K H a xs ∧ Paired (RepN K H n) xs ds)
theorem Da.eqs_range : ∀ (ds es : List Da), ((List.range (min ds.length es.length)).all (fun j => Da.eq (ds.getD j (.s .non)) (es.getD j (.s .non))) && ds.length == es.length) = Da.eqs ds es
  | [], [] => by simp [Da.eqs]
  | [], e :: es => by simp [Da.eqs]
  | d :: ds, [] => by simp [Da.eqs]
  | d :: ds, e :: es => by
    have ih := Da.eqs_range ds es
    rw [Da.eqs, ← ih]
    have : min (d :: ds).length (e :: es).length = min ds.length es.length + 1 := by simp only [List.length_cons]; omega
    rw [this, List.range_succ_eq_map, List.all_cons, List.all_map]
    have h2 : ((d :: ds).length == (e :: es).length) = (ds.length == es.length) := by simp
    rw [h2, Bool.and_assoc]
    rfl
theorem Paired.at {α β : Type} {F : α → β → Prop} : ∀ {xs : List α} {ys : List β} {j : Nat} {x : α} {y : β}, Paired F xs ys → xs[j]? = some x → ys[j]? = some y → F x y
  | _, _, _, _, _, .nil, h, _ => by simp at h
  | _, _, 0, _, _, .cons r _, h1, h2 => by simp at h1 h2; subst h1 h2; exact r
  | _, _, j + 1, _, _, .cons _ t, h1, h2 => Paired.at (j := j) t (by simpa using h1) (by simpa using h2)
theorem eqV_refl : ∀ {v : V}, flatV v = true → eqV v v = true
  | .non, _ => rfl
  | .bl _, _ => by simp [eqV]
  | .int _, _ => by simp [eqV]
  | .str _, _ => by simp [eqV]
section
variable {pins : List (Addr × Obj)} {σ : St} {H : Hp} {s : Shared}
theorem flat_noref {a : Addr} (h : flatV (.ref a) = true) : False := by simp [flatV] at h
theorem Inv.notBoth (I : Inv X pins σ H s) {a : Addr} {xs ys : List V} (h : SqT X.K H a xs) (h' : SqL X.K H a ys) : False := by
  obtain ⟨its, _, ⟨o, e, c, _⟩, _⟩ := I.tuple h
  obtain ⟨its', _, ⟨o', n', e', c', _⟩, _⟩ := I.list h'
  rw [e] at e'; cases e'
  rw [c] at c'
  injection c' with c'
  exact absurd c' (by decide)
/-- equal to itself -/
theorem eq_self (I : Inv X pins σ H s) : ∀ (n : Nat) {m : Nat} {x : V} {d e : Da}, RepN X.K H n x d → RepN X.K H m x e → Da.eq d e = true
  | 0, m, x, d, e, h1, h2 => by
    obtain ⟨rfl, f⟩ := h1
    cases m with
    | zero => obtain ⟨rfl, _⟩ := h2; exact eqV_refl f
    | succ m =>
      rcases h2 with ⟨rfl, _⟩ | ⟨a, xs, ds, rfl, _⟩ | ⟨a, xs, ds, rfl, _⟩
      · exact eqV_refl f
      · exact (flat_noref f).elim
      · exact (flat_noref f).elim
  | n + 1, m, x, d, e, h1, h2 => by
    have both : ∀ {xs : List V} {ds es : List Da} {m : Nat}, Paired (RepN X.K H n) xs ds → Paired (RepN X.K H m) xs es → Da.eqs ds es = true := by
      intro xs ds es m p
      induction p generalizing es with
      | nil => intro q; cases q; rfl
      | cons r t ih =>
        intro q
        cases q with
        | cons r' t' => rw [Da.eqs, eq_self I n r r', ih t']; rfl
    rcases h1 with ⟨rfl, f⟩ | ⟨a, xs, ds, rfl, rfl, hs, hp⟩ | ⟨a, xs, ds, rfl, rfl, hs, hp⟩
    · cases m with
      | zero => obtain ⟨rfl, _⟩ := h2; exact eqV_refl f
      | succ m =>
        rcases h2 with ⟨rfl, _⟩ | ⟨a, xs, ds, rfl, _⟩ | ⟨a, xs, ds, rfl, _⟩
        · exact eqV_refl f
        · exact (flat_noref f).elim
        · exact (flat_noref f).elim
    · cases m with
      | zero => exact (flat_noref h2.2).elim
      | succ m =>
        rcases h2 with ⟨_, f⟩ | ⟨a', ys, es, e1, rfl, hs', hp'⟩ | ⟨a', ys, es, e1, rfl, hs', hp'⟩
        · exact (flat_noref f).elim
        · cases e1
          cases I.tuple_inj hs hs'
          exact both hp hp'
        · cases e1
          exact (I.notBoth hs hs').elim
    · cases m with
      | zero => exact (flat_noref h2.2).elim
      | succ m =>
        rcases h2 with ⟨_, f⟩ | ⟨a', ys, es, e1, rfl, hs', hp'⟩ | ⟨a', ys, es, e1, rfl, hs', hp'⟩
        · exact (flat_noref f).elim
        · cases e1
          exact (I.notBoth hs' hs).elim
        · cases e1
          cases I.list_inj hs hs'
          exact both hp hp'
theorem plain_list {h : Heap} {a : Addr} {its : Array Value} (p : PlainL h a its) : h.IsList a its := let ⟨o, n, e, c, _, d⟩ := p; ⟨o, e, c, n, d⟩
/-- the items' comparisons -/
theorem items_eq {A : Around} {n m : Nat} {xs ys : List V} {ds es : List Da} {us vs : List Value} (px : Paired (RepN X.K H n) xs ds) (py : Paired (RepN X.K H m) ys es) (vx : Vals xs us) (vy : Vals ys vs)
    (ih : ∀ {x y : V} {d e : Da} {u v : Value}, RepN X.K H n x d → RepN X.K H m y e → RelV x u → RelV y v → SeqAt.EqAt A.in1 s u v (Da.eq d e)) :
    ∀ j (h1 : j < us.toArray.size) (h2 : j < vs.toArray.size), SeqAt.EqAt A.in1 s us.toArray[j] vs.toArray[j] (Da.eq (ds.getD j (.s .non)) (es.getD j (.s .non))) := by
  intro j h1 h2
  have l1 := px.length; have l2 := py.length; have l3 := vx.length; have l4 := vy.length
  rw [List.size_toArray] at h1 h2
  have q1 : xs[j]? = some xs[j] := List.getElem?_eq_getElem (by omega)
  have q2 : ys[j]? = some ys[j] := List.getElem?_eq_getElem (by omega)
  have q3 : ds[j]? = some ds[j] := List.getElem?_eq_getElem (by omega)
  have q4 : es[j]? = some es[j] := List.getElem?_eq_getElem (by omega)
  have q5 : us[j]? = some us[j] := List.getElem?_eq_getElem (by omega)
  have q6 : vs[j]? = some vs[j] := List.getElem?_eq_getElem (by omega)
  rw [List.getD_eq_getElem?_getD, List.getD_eq_getElem?_getD, q3, q4]
  exact ih (Paired.at px q1 q3) (Paired.at py q2 q4) (Paired.at vx q1 q5) (Paired.at vy q2 q6)
theorem rc_tuples {A : Around} {n m : Nat} {a b : Addr} {xs ys : List V} {ds es : List Da} (I : Inv X pins σ H s) (hu : A.units < cLine) (sx : SqT X.K H a xs) (sy : SqT X.K H b ys) (px : Paired (RepN X.K H n) xs ds) (py : Paired (RepN X.K H m) ys es)
    (ih : ∀ {x y : V} {d e : Da} {u v : Value}, RepN X.K H n x d → RepN X.K H m y e → RelV x u → RelV y v → SeqAt.EqAt A.in1 s u v (Da.eq d e)) : SeqAt.RcAt A s (.ref a) (.ref b) (Da.eqs ds es) := by
  obtain ⟨us, vx, tx, _⟩ := I.tuple sx
  obtain ⟨vs, vy, ty, _⟩ := I.tuple sy
  have q := SeqAt.RcAt.tuples tx ty hu (items_eq px py vx vy ih)
  rw [List.size_toArray, List.size_toArray, ← vx.length, ← vy.length, px.length, py.length, Da.eqs_range] at q
  exact q
theorem rc_lists {A : Around} {n m : Nat} {a b : Addr} {xs ys : List V} {ds es : List Da} (I : Inv X pins σ H s) (hu : A.units < cLine) (sx : SqL X.K H a xs) (sy : SqL X.K H b ys) (px : Paired (RepN X.K H n) xs ds) (py : Paired (RepN X.K H m) ys es)
    (ih : ∀ {x y : V} {d e : Da} {u v : Value}, RepN X.K H n x d → RepN X.K H m y e → RelV x u → RelV y v → SeqAt.EqAt A.in1 s u v (Da.eq d e)) : SeqAt.RcAt A s (.ref a) (.ref b) (Da.eqs ds es) := by
  obtain ⟨us, vx, tx, _⟩ := I.list sx
  obtain ⟨vs, vy, ty, _⟩ := I.list sy
  by_cases hz : us.toArray.size = vs.toArray.size
  · have q := SeqAt.RcAt.lists (plain_list tx) (plain_list ty) hz hu (items_eq px py vx vy ih)
    have hz' : ds.length = es.length := by rw [← px.length, ← py.length, vx.length, vy.length]; simpa using hz
    have e := Da.eqs_range ds es
    rw [hz', Nat.min_self] at e
    rw [← hz'] at e
    rw [List.size_toArray, ← vx.length, px.length] at q
    simp only [beq_self_eq_true, Bool.and_true] at e
    rw [e] at q
    exact q
  · have q := SeqAt.RcAt.lists_lengths (plain_list tx) (plain_list ty) (by simpa using hz) hu
    have hz' : ds.length ≠ es.length := by
      rw [← px.length, ← py.length, vx.length, vy.length]
      intro z; exact hz (by simpa using z)
    have e := Da.eqs_range ds es
    have f : (ds.length == es.length) = false := by simpa using hz'
    rw [f, Bool.and_false] at e
    rw [← e]
    exact q
theorem eqAt_D (I : Inv X pins σ H s) : ∀ (n : Nat) {m : Nat} {A : Around} {x y : V} {d e : Da} {u v : Value}, A.units + n < cLine → RepN X.K H n x d → RepN X.K H m y e → RelV x u → RelV y v → SeqAt.EqAt A s u v (Da.eq d e) := by
  have flatRef : ∀ {A : Around} {x : V} {u : Value} {b : Addr} {ys : List V}, A.units < cLine → flatV x = true → RelV x u → (SqT X.K H b ys ∨ SqL X.K H b ys) → SeqAt.EqAt A s u (.ref b) false ∧ SeqAt.EqAt A s (.ref b) u false := by
    intro A x u b ys hu f r h
    have h' : (∃ its, s.heap.IsTuple b its) ∨ ∃ its, s.heap.IsList b its := by
      rcases h with h | h
      · obtain ⟨its, _, t, _⟩ := I.tuple h; exact .inl ⟨_, t⟩
      · obtain ⟨its, _, t, _⟩ := I.list h; exact .inr ⟨_, plain_list t⟩
    cases x with
    | non => cases r; rcases h' with ⟨_, t⟩ | ⟨_, t⟩; exact ⟨.none_tuple t hu, .tuple_none t hu⟩; exact ⟨.none_list t hu, .list_none t hu⟩
    | bl k => cases r; rcases h' with ⟨_, t⟩ | ⟨_, t⟩; exact ⟨.bool_tuple k t hu, .tuple_bool k t hu⟩; exact ⟨.bool_list k t hu, .list_bool k t hu⟩
    | int k => obtain ⟨tk, rfl⟩ := r; rcases h' with ⟨_, t⟩ | ⟨_, t⟩; exact ⟨.int_tuple k tk t hu, .tuple_int k tk t hu⟩; exact ⟨.int_list k tk t hu, .list_int k tk t hu⟩
    | str k => obtain ⟨tk, rfl⟩ := r; rcases h' with ⟨_, t⟩ | ⟨_, t⟩; exact ⟨.str_tuple k tk t hu, .tuple_str k tk t hu⟩; exact ⟨.str_list k tk t hu, .list_str k tk t hu⟩
    | _ => simp [flatV] at f
  intro n
  induction n with
  | zero =>
    intro m A x y d e u v hu h1 h2 rx ry
    obtain ⟨rfl, f⟩ := h1
    cases m with
    | zero => obtain ⟨rfl, f'⟩ := h2; exact eqAt_V rx ry f f'
    | succ m =>
      rcases h2 with ⟨rfl, f'⟩ | ⟨b, ys, es, rfl, rfl, sy, py⟩ | ⟨b, ys, es, rfl, rfl, sy, py⟩
      · exact eqAt_V rx ry f f'
      · cases ry; exact (flatRef (by omega) f rx (.inl sy)).1
      · cases ry; exact (flatRef (by omega) f rx (.inr sy)).1
  | succ n ih =>
    intro m A x y d e u v hu h1 h2 rx ry
    have hin : A.in1.units + n < cLine := by show A.units + 1 + n < cLine; omega
    rcases h1 with ⟨rfl, f⟩ | ⟨a, xs, ds, rfl, rfl, sx, px⟩ | ⟨a, xs, ds, rfl, rfl, sx, px⟩
    · cases m with
      | zero => obtain ⟨rfl, f'⟩ := h2; exact eqAt_V rx ry f f'
      | succ m =>
        rcases h2 with ⟨rfl, f'⟩ | ⟨b, ys, es, rfl, rfl, sy, py⟩ | ⟨b, ys, es, rfl, rfl, sy, py⟩
        · exact eqAt_V rx ry f f'
        · cases ry; exact (flatRef (by omega) f rx (.inl sy)).1
        · cases ry; exact (flatRef (by omega) f rx (.inr sy)).1
    · cases rx
      cases m with
      | zero => obtain ⟨rfl, f'⟩ := h2; exact (flatRef (by omega) f' ry (.inl sx)).2
      | succ m =>
        rcases h2 with ⟨rfl, f'⟩ | ⟨b, ys, es, rfl, rfl, sy, py⟩ | ⟨b, ys, es, rfl, rfl, sy, py⟩
        · exact (flatRef (by omega) f' ry (.inl sx)).2
        · cases ry
          by_cases hab : a = b
          · subst hab
            cases I.tuple_inj sx sy
            have e : Da.eq (.tup ds) (.tup es) = true := eq_self I (n + 1) (m := m + 1) (x := .ref a) (.inr (.inl ⟨a, xs, ds, rfl, rfl, sx, px⟩)) (.inr (.inl ⟨a, xs, es, rfl, rfl, sy, py⟩))
            rw [e]; exact .same _
          · exact .of_refs hab (rc_tuples I (by omega) sx sy px py fun h1 h2 r1 r2 => ih hin h1 h2 r1 r2)
        · cases ry
          obtain ⟨us, vx, tx, _⟩ := I.tuple sx
          obtain ⟨vs, vy, ty, _⟩ := I.list sy
          exact .tuple_list tx (plain_list ty) (by omega)
    · cases rx
      cases m with
      | zero => obtain ⟨rfl, f'⟩ := h2; exact (flatRef (by omega) f' ry (.inr sx)).2
      | succ m =>
        rcases h2 with ⟨rfl, f'⟩ | ⟨b, ys, es, rfl, rfl, sy, py⟩ | ⟨b, ys, es, rfl, rfl, sy, py⟩
        · exact (flatRef (by omega) f' ry (.inr sx)).2
        · cases ry
          obtain ⟨us, vx, tx, _⟩ := I.list sx
          obtain ⟨vs, vy, ty, _⟩ := I.tuple sy
          exact .list_tuple (plain_list tx) ty (by omega)
        · cases ry
          by_cases hab : a = b
          · subst hab
            cases I.list_inj sx sy
            have e : Da.eq (.lst ds) (.lst es) = true := eq_self I (n + 1) (m := m + 1) (x := .ref a) (.inr (.inr ⟨a, xs, ds, rfl, rfl, sx, px⟩)) (.inr (.inr ⟨a, xs, es, rfl, rfl, sy, py⟩))
            rw [e]; exact .same _
          · exact .of_refs hab (rc_lists I (by omega) sx sy px py fun h1 h2 r1 r2 => ih hin h1 h2 r1 r2)
end
/-- ==: scalars; data of at most k steps down -/
def uEq (K : PySem.W.Frag) (k : Nat) : R2 := fun x y H Q => match x, y with
  | .ref a, .ref b => ∃ n m d e, n ≤ k ∧ RepN K H n (.ref a) d ∧ RepN K H m (.ref b) e ∧ Q (.bl (Da.eq d e)) H
  | x, y => scal x y = true ∧ Q (.bl (decide (x = y))) H
theorem op_uEq {k : Nat} (hu : X.A.units + k < cLine) : OpR X (compareOp .Eq) (uEq X.K k) := by
  intro pins s σ H x y v u Q I rx ry h
  cases x with
  | ref a =>
    cases y with
    | ref b =>
      obtain ⟨n, m, d, e, hn, h1, h2, q⟩ := h
      cases rx; cases ry
      have fin : ∀ {k : Bool}, k = Da.eq d e → SeqAt.RcAt X.A s (.ref a) (.ref b) k → wpAny (model X.prog X.w) X.A (compareOp .Eq (.ref a) (.ref b)) (EP X pins σ Q) X.xe s := fun {k} e' r =>
        r X.prog X.w X.xe (EP X pins σ Q) (by rw [e']; exact ⟨.bl _, H, I, rfl, q⟩)
      cases n with
      | zero => exact (flat_noref h1.2).elim
      | succ n =>
        cases m with
        | zero => exact (flat_noref h2.2).elim
        | succ m =>
          have hin : X.A.in1.units + n < cLine := by show X.A.units + 1 + n < cLine; omega
          rcases h1 with ⟨_, f⟩ | ⟨a', xs, ds, e1, rfl, sx, px⟩ | ⟨a', xs, ds, e1, rfl, sx, px⟩
          · exact (flat_noref f).elim
          · cases e1
            rcases h2 with ⟨_, f⟩ | ⟨b', ys, es, e2, rfl, sy, py⟩ | ⟨b', ys, es, e2, rfl, sy, py⟩
            · exact (flat_noref f).elim
            · cases e2
              exact fin rfl (rc_tuples I (by omega) sx sy px py fun h1 h2 r1 r2 => eqAt_D I n hin h1 h2 r1 r2)
            · cases e2
              obtain ⟨us, vx, tx, _⟩ := I.tuple sx
              obtain ⟨vs, vy, ty, _⟩ := I.list sy
              exact fin rfl (.tuple_list tx (plain_list ty) (by omega))
          · cases e1
            rcases h2 with ⟨_, f⟩ | ⟨b', ys, es, e2, rfl, sy, py⟩ | ⟨b', ys, es, e2, rfl, sy, py⟩
            · exact (flat_noref f).elim
            · cases e2
              obtain ⟨us, vx, tx, _⟩ := I.list sx
              obtain ⟨vs, vy, ty, _⟩ := I.tuple sy
              exact fin rfl (.list_tuple (plain_list tx) ty (by omega))
            · cases e2
              exact fin rfl (rc_lists I (by omega) sx sy px py fun h1 h2 r1 r2 => eqAt_D I n hin h1 h2 r1 r2)
    | _ => exact op_eq pins s σ H _ _ v u Q I rx ry h
  | _ => cases y <;> exact op_eq pins s σ H _ _ v u Q I rx ry h
end

/-- a list, a tuple, a dict of the top by its name; a type's name -/
theorem pe_gr {X : Cx} {x : Str} {c : Addr} {pos : Pos} (hg : Gl X x) (hm : X.mg x = some (.ref c)) (hd : (x == ("__debug__" : Str)) = false := by decide) : PE X (.Name x pos) (tC (.ref c)) := pe_glob hg hm (v := .ref c) rfl hd
theorem pe_ty {X : Cx} {x : Str} {T : String} {pos : Pos} (hg : Gl X x) (hm : X.mg x = none) (hv : bootBuiltins x = some (.type T)) (hn : x ≠ "__name__" := by decide) (hd : (x == ("__debug__" : Str)) = false := by decide) : PE X (.Name x pos) (tC (.ty T)) := pe_bltn hg hm hv (v := .ty T) rfl hn hd
/-! ### a def of the text, as its callers see it -/
structure Cal (P : Program) (w : World) (K : PySem.W.Frag) (mg : Str → Option Value) (base : Heap) (k : Nat) (x : Str) (ps : List Str) (sp : Sp) : Prop where
  ex : ∃ f fd, FnOk P w K mg base CX0 k f fd ps sp ∧ Binds K fd ps [] ∧ PySem.W.keepIn K (.ref f) = true ∧ mg x = some (.ref f)
theorem pe_c {X : Cx} {k : Nat} {x : Str} {ps : List Str} {sp : Sp} {e : Expr} {es : List Expr} {t : TA} {p pos : Pos} (c : Cal X.prog X.w X.K X.mg X.base k x ps sp) (hr : Room k X.A) (hg : Gl X x) (ha : PA X (e :: es) t) (hdb : (x == ("__debug__" : Str)) = false := by decide)
    (he : starEach (e :: es) X.env = (false, eval e X.env) :: starEach es X.env := by rfl) (hpl : (backTo pos (starEach es X.env)).any (·.1) = false := by rfl) : PE X (.Call (.Name x p) (e :: es) [] pos) (tCall sp [] E0 t) := by
  obtain ⟨f, fd, F, b, kp, m⟩ := c.ex
  exact pe_call F hr hg m kp b .nil pass0 ha hdb he hpl
theorem Cal.mono {P : Program} {w : World} {K : PySem.W.Frag} {mg : Str → Option Value} {base : Heap} {j k : Nat} {x : Str} {ps : List Str} {sp : Sp} (c : Cal P w K mg base j x ps sp) (h : j ≤ k) : Cal P w K mg base k x ps sp := by
  obtain ⟨f, fd, F, b, kp, m⟩ := c.ex
  exact ⟨f, fd, F.mono h, b, kp, m⟩
end L2

namespace L2
open PySem PySem.Spec PyProof.Rows
theorem bt_isinstance : bootBuiltins "isinstance" = some (.builtin "isinstance") := by decide +kernel
theorem bt_list : bootBuiltins "list" = some (.type "list") := by decide +kernel
theorem bt_len : bootBuiltins "len" = some (.builtin "len") := by decide +kernel
theorem huK {A : Around} {k : Nat} (hr : Room k A) : A.units + 128 < cLine := by have := hr.un; omega
theorem small {n : Nat} (h : n ≤ 1000) : n ≤ sizeLine := Nat.le_of_lt (small1000 h)
/-- a def that keeps its promise at every depth -/
theorem Cal.of {P : Program} {w : World} {K : PySem.W.Frag} {mg : Str → Option Value} {base : Heap} {k : Nat} {x : Str} {ps : List Str} {sp : Sp} {f : Addr} {fd : FuncData} (F : FnOk P w K mg base CX0 k f fd ps sp) (b : Binds K fd ps []) (kp : PySem.W.keepIn K (.ref f) = true) (m : mg x = some (.ref f)) :
    Cal P w K mg base k x ps sp := ⟨f, fd, F, b, kp, m⟩
/-- nothing is promised -/
theorem FnOk.never {P : Program} {w : World} {K : PySem.W.Frag} {mg : Str → Option Value} {base : Heap} {k : Nat} {ps : List Str} {sp : Sp} {f : Addr} {fd : FuncData} (no : ∀ vs H Q E, ¬ sp vs H Q E) : FnOk P w K mg base CX0 k f fd ps sp :=
  ⟨fun vs H Q E h => absurd h (no vs H Q E), fun A outer s H args us vs Q E _ _ _ _ h => absurd h (no vs H Q E)⟩
/-! ### the same with the part of the top, the program and the world by name (within comprehensions) -/
section
variable {X : Cx} (K : PySem.W.Frag) (P : Program) (w : World)
end
end L2

namespace L2
open PySem PySem.Spec PyProof.Rows
/-! ### what stands at the top -/
structure DefIn (K : PySem.W.Frag) (x : Str) (st : Stmt) : Prop where
  ex : ∃ (f : Addr) (kV doc pm : Value) (an : Option Addr) (cdv ct : Value), PySem.W.nsIn K mainGlobals x = some (some (.ref f)) ∧ Fun K x x st f (PySem.W.fnOf x x (defArgs st) (defBody st) (defScope st) .none kV doc pm an cdv ct)
theorem def_in {K : PySem.W.Frag} {x : Str} {st : Stmt} {f : Addr} {oc : Value} {od an : Option Addr} {osl : Array (Option Value)} {kV doc pm cdv ct : Value} (a : PySem.W.nsIn K mainGlobals x = some (some (.ref f)))
    (l : K.lookup f = some ⟨oc, od, .func (PySem.W.fnOf x x (defArgs st) (defBody st) (defScope st) .none kV doc pm an cdv ct), osl⟩) (c : PySem.W.codeIn K cdv x = true) (k : PySem.W.keepIn K (.ref f) = true) : DefIn K x st :=
  ⟨f, kV, doc, pm, an, cdv, ct, a, fun_mk (st := st) l c k⟩
theorem DefIn.use {K : PySem.W.Frag} {x : Str} {st : Stmt} {ps : List Str} {h : Heap} {mg : Str → Option Value} (D : DefIn K x st) (X : K.In h) (G : h.Ns mainGlobals mg)
    (hb : ∀ (kV doc pm : Value) (an : Option Addr) (cdv ct : Value) (us : List Value), us.length = ps.length → bindArgs (PySem.W.fnOf x x (defArgs st) (defBody st) (defScope st) .none kV doc pm an cdv ct) ⟨us, []⟩ = pure (ps.zip us)) :
    ∃ f fd, Fun K x x st f fd ∧ Binds K fd ps [] ∧ mg x = some (.ref f) := by
  obtain ⟨f, kV, doc, pm, an, cdv, ct, a, F⟩ := D.ex
  exact ⟨f, _, F, Binds.all (hb kV doc pm an cdv ct), PySem.W.mg_of X G a⟩
/-- a dict of texts by texts -/
def rowOf (w : World) (r : Str × Tok × Str × Tok) : DictEntry := ⟨hashStr w r.1, .str r.1 r.2.1, .str r.2.2.1 r.2.2.2⟩
theorem kd_in {K : PySem.W.Frag} {P : Program} {w : World} {c : Addr} {ep : Nat} (rows : List (Str × Tok × Str × Tok)) (l : K.lookup c = some ⟨.type "dict", none, .dict (rows.map (rowOf w)).toArray ep, #[]⟩) (hs : (c == sysModules) = false) (hz : rows.length ≤ 1000) (nd : (rows.map fun r => (Sum.inr r.1 : Key)).Nodup) :
    KD K P w c (rows.map fun r => (Sum.inr r.1, .str r.2.2.1)) := by
  refine ⟨hs, by rw [List.length_map]; exact small hz, fun h X => ⟨rows.map fun r => (Sum.inr r.1, .str r.2.2.1 r.2.2.2), ?_, _, _, ep, X c _ l, ⟨rfl, rfl, rfl⟩, rfl, ?_, ?_, ?_⟩⟩
  · unfold KV
    clear l hz nd
    induction rows with
    | nil => exact .nil
    | cons r t ih => exact .cons ⟨rfl, _, rfl⟩ ih
  · intro e he
    have he' : e ∈ rows.map (rowOf w) := by simpa using he
    obtain ⟨r, _, rfl⟩ := List.mem_map.mp he'
    exact ⟨Sum.inr r.1, keyIs_str r.1 r.2.1, rfl⟩
  · show Pairs _ (rows.map (rowOf w)).toArray.toList _
    rw [List.toList_toArray]
    clear l hz nd
    induction rows with
    | nil => exact .nil
    | cons r t ih => exact .cons (keyIs_str r.1 r.2.1) rfl ih
  · rw [List.map_map]; exact nd
end L2
namespace Words
open PySem L2
/-! ### words as data -/
inductive Wd where
  | leaf (t : Bool) (n : Str)
  | node (e : Bool) (l r : Wd)
def kL : Bool → Str
  | false => "plain"
  | true => "turned"
def kN : Bool → Str
  | false => "both"
  | true => "either"
def Wd.turn : Wd → Wd
  | .leaf t n => .leaf (!t) n
  | .node e l r => .node (!e) l.turn r.turn
def Wd.depth : Wd → Nat
  | .leaf _ _ => 1
  | .node _ l r => max l.depth r.depth + 1
def Wd.leaves : Wd → Nat
  | .leaf _ _ => 1
  | .node _ l r => l.leaves + r.leaves
theorem Wd.turn_turn : ∀ w : Wd, w.turn.turn = w
  | .leaf t n => by simp [Wd.turn]
  | .node e l r => by simp [Wd.turn, Wd.turn_turn l, Wd.turn_turn r]
theorem Wd.depth_turn : ∀ w : Wd, w.turn.depth = w.depth
  | .leaf t n => rfl
  | .node e l r => by simp [Wd.turn, Wd.depth, Wd.depth_turn l, Wd.depth_turn r]
theorem Wd.leaves_pos : ∀ w : Wd, 1 ≤ w.leaves
  | .leaf _ _ => Nat.le_refl _
  | .node _ l r => by have := Wd.leaves_pos l; show 1 ≤ l.leaves + r.leaves; omega
theorem Wd.depth_le : ∀ w : Wd, w.depth ≤ w.leaves
  | .leaf _ _ => Nat.le_refl _
  | .node _ l r => by
    have := Wd.depth_le l; have := Wd.depth_le r; have := Wd.leaves_pos l; have := Wd.leaves_pos r
    show max l.depth r.depth + 1 ≤ l.leaves + r.leaves; omega
def enc : Wd → Da
  | .leaf t n => .tup [.s (.str (kL t)), .s (.str n)]
  | .node e l r => .tup [.s (.str (kN e)), enc l, enc r]
theorem enc_refl : ∀ w : Wd, Da.eq (enc w) (enc w) = true
  | .leaf t n => by simp [enc, Da.eq, Da.eqs, eqV]
  | .node e l r => by simp [enc, Da.eq, Da.eqs, eqV, enc_refl l, enc_refl r]
/-- a NAME -/
def NameOk (x : Str) : Prop := 1 ≤ x.length ∧ x.length ≤ 8 ∧ ∀ c ∈ x.cps.toList, 97 ≤ c ∧ c ≤ 122
def Wd.ok : Wd → Prop
  | .leaf _ n => NameOk n
  | .node _ l r => l.ok ∧ r.ok
def sumL (ws : List Wd) : Nat := (ws.map Wd.leaves).sum
theorem sumL_nil : sumL [] = 0 := rfl
theorem sumL_append (a b : List Wd) : sumL (a ++ b) = sumL a + sumL b := by simp [sumL]
theorem sumL_cons (w : Wd) (b : List Wd) : sumL (w :: b) = w.leaves + sumL b := by simp [sumL]
end Words

namespace L2
open PySem PySem.Spec PyProof.Rows
section
variable {X : Cx} {pins : List (Addr × Obj)} {σ : St} {H : Hp} {s : Shared}
theorem rn_tuples {A : Around} {n m : Nat} {a b : Addr} {xs ys : List V} {ds es : List Da} (I : Inv X pins σ H s) (hu : A.units < cLine) (sx : SqT X.K H a xs) (sy : SqT X.K H b ys) (px : Paired (RepN X.K H n) xs ds) (py : Paired (RepN X.K H m) ys es)
    (ih : ∀ {x y : V} {d e : Da} {u v : Value}, RepN X.K H n x d → RepN X.K H m y e → RelV x u → RelV y v → SeqAt.EqAt A.in1 s u v (Da.eq d e)) : SeqAt.RcNeAt A s (.ref a) (.ref b) (!Da.eqs ds es) := by
  obtain ⟨us, vx, tx, _⟩ := I.tuple sx
  obtain ⟨vs, vy, ty, _⟩ := I.tuple sy
  have q := SeqAt.RcNeAt.tuples tx ty hu (items_eq px py vx vy ih)
  rw [List.size_toArray, List.size_toArray, ← vx.length, ← vy.length, px.length, py.length, Da.eqs_range] at q
  exact q
theorem rn_lists {A : Around} {n m : Nat} {a b : Addr} {xs ys : List V} {ds es : List Da} (I : Inv X pins σ H s) (hu : A.units < cLine) (sx : SqL X.K H a xs) (sy : SqL X.K H b ys) (px : Paired (RepN X.K H n) xs ds) (py : Paired (RepN X.K H m) ys es)
    (ih : ∀ {x y : V} {d e : Da} {u v : Value}, RepN X.K H n x d → RepN X.K H m y e → RelV x u → RelV y v → SeqAt.EqAt A.in1 s u v (Da.eq d e)) : SeqAt.RcNeAt A s (.ref a) (.ref b) (!Da.eqs ds es) := by
  obtain ⟨us, vx, tx, _⟩ := I.list sx
  obtain ⟨vs, vy, ty, _⟩ := I.list sy
  by_cases hz : us.toArray.size = vs.toArray.size
  · have q := SeqAt.RcNeAt.lists (plain_list tx) (plain_list ty) hz hu (items_eq px py vx vy ih)
    have hz' : ds.length = es.length := by rw [← px.length, ← py.length, vx.length, vy.length]; simpa using hz
    have e := Da.eqs_range ds es
    rw [hz', Nat.min_self] at e
    rw [← hz'] at e
    rw [List.size_toArray, ← vx.length, px.length] at q
    simp only [beq_self_eq_true, Bool.and_true] at e
    rw [e] at q
    exact q
  · have q := SeqAt.RcNeAt.lists_lengths (plain_list tx) (plain_list ty) (by simpa using hz) hu
    have hz' : ds.length ≠ es.length := by
      rw [← px.length, ← py.length, vx.length, vy.length]
      intro z; exact hz (by simpa using z)
    have e := Da.eqs_range ds es
    have f : (ds.length == es.length) = false := by simpa using hz'
    rw [f, Bool.and_false] at e
    rw [← e]
    exact q
end
section
variable {X : Cx}
/-- != -/
def uNe (K : PySem.W.Frag) (k : Nat) : R2 := fun x y H Q => match x, y with
  | .ref a, .ref b => ∃ n m d e, n ≤ k ∧ RepN K H n (.ref a) d ∧ RepN K H m (.ref b) e ∧ Q (.bl (!Da.eq d e)) H
  | x, y => scal x y = true ∧ Q (.bl (!decide (x = y))) H
theorem op_uNe {k : Nat} (hu : X.A.units + k < cLine) : OpR X (compareOp .NotEq) (uNe X.K k) := by
  intro pins s σ H x y v u Q I rx ry h
  cases x with
  | ref a =>
    cases y with
    | ref b =>
      obtain ⟨n, m, d, e, hn, h1, h2, q⟩ := h
      cases rx; cases ry
      have fin : ∀ {k : Bool}, k = (!Da.eq d e) → SeqAt.RcNeAt X.A s (.ref a) (.ref b) k → wpAny (model X.prog X.w) X.A (compareOp .NotEq (.ref a) (.ref b)) (EP X pins σ Q) X.xe s := fun {k} e' r =>
        r X.prog X.w X.xe (EP X pins σ Q) (by rw [e']; exact ⟨.bl _, H, I, rfl, q⟩)
      cases n with
      | zero => exact (flat_noref h1.2).elim
      | succ n =>
        cases m with
        | zero => exact (flat_noref h2.2).elim
        | succ m =>
          have hin : X.A.in1.units + n < cLine := by show X.A.units + 1 + n < cLine; omega
          rcases h1 with ⟨_, f⟩ | ⟨a', xs, ds, e1, rfl, sx, px⟩ | ⟨a', xs, ds, e1, rfl, sx, px⟩
          · exact (flat_noref f).elim
          · cases e1
            rcases h2 with ⟨_, f⟩ | ⟨b', ys, es, e2, rfl, sy, py⟩ | ⟨b', ys, es, e2, rfl, sy, py⟩
            · exact (flat_noref f).elim
            · cases e2
              exact fin rfl (rn_tuples I (by omega) sx sy px py fun h1 h2 r1 r2 => eqAt_D I n hin h1 h2 r1 r2)
            · cases e2
              obtain ⟨us, vx, tx, _⟩ := I.tuple sx
              obtain ⟨vs, vy, ty, _⟩ := I.list sy
              exact fin rfl (.tuple_list tx (plain_list ty) (by omega))
          · cases e1
            rcases h2 with ⟨_, f⟩ | ⟨b', ys, es, e2, rfl, sy, py⟩ | ⟨b', ys, es, e2, rfl, sy, py⟩
            · exact (flat_noref f).elim
            · cases e2
              obtain ⟨us, vx, tx, _⟩ := I.list sx
              obtain ⟨vs, vy, ty, _⟩ := I.tuple sy
              exact fin rfl (.list_tuple (plain_list tx) ty (by omega))
            · cases e2
              exact fin rfl (rn_lists I (by omega) sx sy px py fun h1 h2 r1 r2 => eqAt_D I n hin h1 h2 r1 r2)
    | _ => exact op_ne pins s σ H _ _ v u Q I rx ry h
  | _ => cases y <;> exact op_ne pins s σ H _ _ v u Q I rx ry h
end
end L2

namespace Words
open PySem L2
theorem encL_refl : ∀ ws : List Wd, Da.eqs (ws.map enc) (ws.map enc) = true
  | [] => rfl
  | w :: r => by rw [List.map_cons, Da.eqs, enc_refl, encL_refl r]; rfl
end Words

namespace L2
open PySem PySem.Spec PyProof.Rows
/-! ### exceptions of one's own classes -/
theorem ObjOk.get {P : Program} {w : World} {H : Hp} {h : Heap} {a : Addr} {o : HO} (x : ObjOk P w H h a o) : ∃ ob, h.get? a = some ob := by
  cases o with
  | lst xs => obtain ⟨_, _, _, _, e⟩ := x; exact ⟨_, e⟩
  | tup xs => obtain ⟨_, _, _, _, e, _⟩ := x; exact ⟨_, e⟩
  | dK kvs => obtain ⟨_, _, _, _, o, _, _, e, _⟩ := x; exact ⟨_, e⟩
  | dT kvs => obtain ⟨_, _, _, _, o, _, _, e, _⟩ := x; exact ⟨_, e⟩
  | set S n => obtain ⟨o, _, _, _, e, _⟩ := x; exact ⟨_, e⟩
  | ins C dx fs => obtain ⟨_, _, _, e, _⟩ := x; exact ⟨_, e⟩
  | own y => exact x
  | xd fs => obtain ⟨_, ⟨_, _, _, e, _⟩, _⟩ := x; exact ⟨_, e⟩
  | rng lo hi => obtain ⟨_, _, _, e⟩ := x; exact ⟨_, e⟩
  | frz ob u => obtain ⟨e, _⟩ := x; exact ⟨_, e⟩
  | tbl ps => exact ⟨_, show h.get? a = some _ from x⟩
  | met f y => exact ⟨_, show h.get? a = some _ from x⟩
  | ext φ => obtain ⟨_, e, _⟩ := x; exact e
/-- the exception at a, of the class at C: new since h0, not tracked; tr: its traceback has begun (at T) -/
def Lies (h0 h : Heap) (H : Hp) (a C : Addr) (tr : Option Addr) : Prop :=
  h0.get? a = none ∧ H a = none ∧ ∃ oe vs a0, h.get? a = some oe ∧ oe.cls = .ref C ∧ oe.data = .fields vs ∧ vs[0]? = some a0 ∧
    match tr with
    | none => vs[1]? = some .none
    | some T => vs[1]? = some (.ref T) ∧ h0.get? T = none ∧ H T = none ∧ T ≠ a ∧ ∃ oT ts, h.get? T = some oT ∧ oT.data = .fields ts ∧ ts[3]? = some .none
def hidL (a : Addr) (tr : Option Addr) (fs : List Addr) : List Addr := a :: (tr.toList ++ fs)
section
variable {X : Cx} {pins : List (Addr × Obj)} {σ : St} {H : Hp} {s : Shared} {a C : Addr} {tr : Option Addr}
theorem mem_frs {l : List Env} {env : Env} {b : Addr} (h : env ∈ l) (e : env.frame = some b) : b ∈ frs l := List.mem_filterMap.mpr ⟨env, h, e⟩
/-- what else changes when a frame is noted in the traceback of a: nothing -/
theorem left_ok (I : Inv X pins σ H s) (hs : X.stack = X.env :: X.outer) (hx : X.ex = []) (new : X.s₀.heap.get? a = none) (free : H a = none) (newT : ∀ T, tr = some T → X.s₀.heap.get? T = none ∧ H T = none) {a0 fl : Value} {h' : Heap}
    (k1 : (PySem.W.hideAll s.heap (hidL a tr (frs X.stack))).StaysIn h') (k2 : h'.FunFrames (PySem.W.hideAll s.heap (hidL a tr (frs X.stack))) X.stack) (k3 : h'.TracedAtW (PySem.W.hideAll s.heap (hidL a tr (frs X.stack))) a (.ref C) a0 fl)
    (k4 : ∀ b o, s.heap.get? b = some o → (∀ vs, o.data ≠ .fields vs) → ∃ sl, h'.get? b = some { o with slots := sl }) :
    Un X.fs [] X.H₀ H X.s₀.heap h' ∧ HOk X.prog X.w H h' ∧ ∃ T, (∀ b o, s.heap.get? b = some o → (∀ T0, tr = some T0 → b ≠ T0) → b ≠ T) ∧ X.s₀.heap.get? T = none ∧ H T = none ∧ T ≠ a ∧ ∃ oe vs oT ts, h'.get? a = some oe ∧ oe.cls = .ref C ∧ vs[0]? = some a0 ∧ oe.data = .fields vs ∧ vs[1]? = some (.ref T) ∧ h'.get? T = some oT ∧ oT.data = .fields ts ∧ ts[3]? = some fl := by
  have kp : ∀ b o, s.heap.get? b = some o → b ∉ hidL a tr (frs X.stack) → h'.get? b = some o := fun b o e n => k1 b o (PySem.W.hideAll_get _ e n)
  have sl : ∀ b o, s.heap.get? b = some o → b ∈ frs X.stack → ∃ sl, h'.get? b = some { o with slots := sl } := fun b o e hb => by
    obtain ⟨_, o', e', nf⟩ := I.stack.mem hb
    rw [e] at e'; cases e'
    exact k4 b o e nf
  have hidN : ∀ b, b ∈ hidL a tr (frs X.stack) → H b = none := fun b hb => by
    rcases List.mem_cons.mp hb with e | hb
    · rw [e]; exact free
    · rcases List.mem_append.mp hb with q | q
      · exact (newT b (by simpa using q)).2
      · exact I.stkFree b q
  have notHid : ∀ b o, X.s₀.heap.get? b = some o → b ∉ X.fs → b ∉ hidL a tr (frs X.stack) := fun b o e nb hb => by
    rcases List.mem_cons.mp hb with q | hb
    · rw [q, new] at e; cases e
    · rcases List.mem_append.mp hb with q | q
      · rw [(newT b (by simpa using q)).1] at e; cases e
      · rcases List.mem_cons.mp (I.stkSub b q) with q | q
        · exact absurd (Nat.lt_of_lt_of_le (Heap.lt_size e) I.ok.above) (by rw [q]; exact Nat.lt_irrefl _)
        · exact nb q
  have fsub : ∀ b, b ∈ X.fs → b ∈ frs X.stack := fun b hb => by
    rw [hs]
    unfold frs
    rw [List.filterMap_cons]
    split
    · exact hb
    · exact List.mem_cons_of_mem _ hb
  have noex : ∀ b : Addr, b ∉ X.ex := fun b => by rw [hx]; simp
  have hokk : HOk X.prog X.w H h' := fun b u e => (I.hok b u e).stay (fun c w' hc q => kp c w' q fun hm => by
      have n := hidN c hm
      rcases hc with z | z
      · rw [z, e] at n; cases n
      · rw [z] at n; cases n) (fun _ q => q) fun _ _ q => q
  refine ⟨⟨fun b o e n hb _ => ?_, fun b o e n hb _ => ?_, fun b o e n _ => I.base.free b o e n (noex b), fun b o e _ => ?_, I.base.tups, I.base.frzs, I.base.tbls⟩, hokk, ?_⟩
  · exact kp b o (I.base.keep b o e n hb (noex b)) (notHid b o e hb)
  · obtain ⟨z, e1⟩ := I.base.slot b o e n hb (noex b)
    obtain ⟨z', e2⟩ := sl b _ e1 (fsub b hb)
    exact ⟨z', e2⟩
  · obtain ⟨o', e1⟩ := I.base.there b o e (noex b)
    by_cases hb : b ∈ X.fs
    · obtain ⟨z', e2⟩ := sl b _ e1 (fsub b hb)
      exact ⟨_, e2⟩
    · exact ⟨o', kp b o' e1 (notHid b o e hb)⟩
  · obtain ⟨oe', vs', T, oT, ts, he', ⟨hc', h0'⟩, hd', h1', hnT, hTa, hT, hdT, h3⟩ := k3
    have inn : ∀ o, s.heap.get? T = some o → T ∈ hidL a tr (frs X.stack) := fun o e => by
      by_cases q : T ∈ hidL a tr (frs X.stack)
      · exact q
      · rw [PySem.W.hideAll_get _ e q] at hnT; cases hnT
    have nfr : T ∉ frs X.stack := fun hb => by
      obtain ⟨_, o', e', nf⟩ := k2.mem hb
      rw [hT] at e'; cases e'
      exact nf ts hdT
    refine ⟨T, fun b o e ne z => ?_, ?_, ?_, hTa, oe', vs', oT, ts, he', hc', h0', hd', h1', hT, hdT, h3⟩
    · subst z
      rcases List.mem_cons.mp (inn o e) with z | z
      · exact hTa z
      · rcases List.mem_append.mp z with z | z
        · exact ne b (by simpa using z) rfl
        · exact nfr z
    · cases q : X.s₀.heap.get? T with
      | none => rfl
      | some o =>
        obtain ⟨o', e1⟩ := I.base.there T o q (noex T)
        rcases List.mem_cons.mp (inn o' e1) with z | z
        · exact absurd z hTa
        · rcases List.mem_append.mp z with z | z
          · rw [(newT T (by simpa using z)).1] at q; cases q
          · exact absurd z nfr
    · cases q : H T with
      | none => rfl
      | some u =>
        obtain ⟨o', e1⟩ := (I.hok T u q).get
        have := hidN T (inn o' e1)
        rw [q] at this; cases this
/-- the frame is left: the traceback grows, nothing else changes -/
theorem leave_ok {M : Model} {Q : Unit → Shared → Prop} {E : Value → Shared → Prop} (I : Inv X pins σ H s) (hs : X.stack = X.env :: X.outer) (hf : X.env.frame = some X.env.locals) (hx : X.ex = []) (L : Lies X.s₀.heap s.heap H a C tr)
    (h : ∀ h' T, Un X.fs [] X.H₀ H X.s₀.heap h' → HOk X.prog X.w H h' → Lies X.s₀.heap h' H a C (some T) → Q () { s with heap := h' }) : wpAny M X.A (leaving X.env (.ref a)) Q E s := by
  have L0 := L
  obtain ⟨new, free, oe, vs, b0, he, hc, hd, h0, htr⟩ := L0
  have fr : s.heap.FunFrames (PySem.W.hideAll s.heap (hidL a tr (frs X.stack))) X.stack := PySem.W.funFrames_hide I.stack fun env he b hb => List.mem_cons_of_mem _ (List.mem_append_right _ (mem_frs he hb))
  have st : (PySem.W.hideAll s.heap (hidL a tr (frs X.stack))).StaysIn s.heap := fun b o e => PySem.W.of_hideAll _ e
  have na : (PySem.W.hideAll s.heap (hidL a tr (frs X.stack))).get? a = none := PySem.W.hideAll_none _ List.mem_cons_self
  have hfr : X.A.frames = some (X.env :: X.outer) := by rw [← hs]; exact I.ok.frames
  have go : ∀ h', Heap.LeftW (PySem.W.hideAll s.heap (hidL a tr (frs X.stack))) (X.env :: X.outer) a (.ref C) b0 s.heap h' → Q () { s with heap := h' } := fun h' ⟨k1, k2, k3, k4⟩ => by
    obtain ⟨u, hok, T, _, n1, n2, ne, oe', vs', oT, ts, e1, e2, e3, e4, e5, e6, e7, e8⟩ := left_ok I hs hx new free (by intro T e; subst e; exact ⟨htr.2.1, htr.2.2.1⟩) k1 (by rw [hs]; rw [hs] at k2; exact k2) k3.at k4
    exact h h' T u hok ⟨new, free, oe', vs', b0, e1, e2, e4, e3, e5, n1, n2, ne, oT, ts, e6, e7, e8⟩
  have nT : ∀ T, tr = some T → (PySem.W.hideAll s.heap (hidL a tr (frs X.stack))).get? T = none := fun T e => by subst e; exact PySem.W.hideAll_none _ (List.mem_cons_of_mem _ (List.mem_append_left _ (by simp)))
  generalize PySem.W.hideAll s.heap (hidL a tr (frs X.stack)) = base at fr st na go nT
  rw [hs] at fr
  cases tr with
  | none => exact wpAny_leaving_firstW hfr fr hf he st na hd htr h0 (by rw [hc]; exact go)
  | some T =>
    obtain ⟨h1, _, _, hTa, oT, ts, hT, hdT, h3⟩ := htr
    exact wpAny_leaving_nextW hfr fr hf ⟨oe, vs, T, oT, ts, he, ⟨hc, h0⟩, hd, h1, nT T rfl, hTa, hT, hdT, h3⟩ st na go
end
end L2

namespace L2
open PySem PySem.Spec PyProof.Rows
/-- how an exception of one's own class lies behind a call -/
def CXE (P : Program) (w : World) : CXT := fun outer H s E e s' => ∃ a C T H', e = .ref a ∧ s'.os = s.os ∧ AllBare s'.gens ∧ Un (frs outer) [] H H' s.heap s'.heap ∧ HOk P w H' s'.heap ∧ Lies s.heap s'.heap H' a C (some T) ∧ E (.ref C) none H' ∧ 0 < s'.toks
/-- what stands apart from all that the body holds -/
def Apart (X : Cx) (a : Addr) : Prop := a ≠ X.env.locals ∧ (∀ x c, X.env.cells.lookup x = some c → c ≠ a) ∧ ∀ p ∈ X.pn, p.1 ≠ a
/-- the wish for an exception, by the names' values where it was met -/
abbrev X1 := St → Value → Hp → Prop
def Takes (X : Cx) (E1 : X1) : Prop := ∀ (pins : List (Addr × Obj)) (σ : St) (H : Hp) (s : Shared) (a C : Addr) (tr : Option Addr), Inv X pins σ H s → Lies X.s₀.heap s.heap H a C tr → Apart X a → (∀ T, tr = some T → Apart X T) → E1 σ (.ref C) H → X.xe (.ref a) s
section
variable {X : Cx} {pins : List (Addr × Obj)} {σ : St} {H H' : Hp} {s s' : Shared} {a b C T : Addr} {tr : Option Addr} {E1 : X1}
theorem Inv.apart (I : Inv X pins σ H s) (h : s.heap.get? b = none) : Apart X b := by
  refine ⟨fun e => ?_, fun x c e z => ?_, fun p hp z => ?_⟩
  · obtain ⟨m, ⟨o, _, _, ho, _⟩, _⟩ := I.loc
    rw [← e, h] at ho; cases ho
  · obtain ⟨v, o, ho, _⟩ := I.cell x c e
    rw [z, h] at ho; cases ho
  · obtain ⟨e, _⟩ := I.pin p (List.mem_append_left _ hp)
    rw [z, h] at e; cases e
theorem Inv.news (I : Inv X pins σ H s) (hx : X.ex = []) (h : s.heap.get? b = none) : X.s₀.heap.get? b = none := by
  cases q : X.s₀.heap.get? b with
  | none => rfl
  | some o =>
    obtain ⟨o', e⟩ := I.base.there b o q (by rw [hx]; simp)
    rw [h] at e; cases e
/-- a callee's exception -/
theorem Takes.pass (t : Takes X E1) (hx : X.ex = []) {e : Value} (I : Inv X pins σ H s) (h : CXE X.prog X.w X.stack H s (fun c _ H' => E1 σ c H') e s') : X.xe e s' := by
  obtain ⟨a, C, T, H', rfl, ho, hg, u, hok, ⟨new, free, oe, vs, a0, he, hc, hd, h0, h1, nT, fT, rest⟩, q, htk⟩ := h
  have I' : Inv X pins σ H' s' := I.call' (ch := []) ho u hok hg (fun b z => absurd z (by simp))
  exact t pins σ H' s' a C (some T) I' ⟨I.news hx new, free, oe, vs, a0, he, hc, hd, h0, h1, I.news hx nT, fT, rest⟩ (I.apart new) (fun T' e => by cases e; exact I.apart nT) q
theorem run_fnX {k : Nat} {f : Addr} {fd : FuncData} {ps : List Str} {sp : Sp} {Q : VK} {us : List Value} {vs : List V} (F : FnOk X.prog X.w X.K X.mg X.base (CXE X.prog X.w) k f fd ps sp) (hr : Room k X.A) (hb : Binds X.K fd ps []) (ht : Takes X E1) (hx : X.ex = [])
    (I : Inv X pins σ H s) (r : Vals vs us) (h : sp vs H Q (fun c _ H' => E1 σ c H')) : wpAny (model X.prog X.w) X.A (call (.ref f) us) (EP X pins σ Q) X.xe s := by
  have hl : (us ++ []).length = ps.length := by rw [List.append_nil, ← r.length]; exact F.len _ _ _ _ h
  refine wpAny_call (codeAny_mono (F.run X.A X.stack s H ⟨us, []⟩ us vs Q _ hr I.env0 (by have := hb s us I.kIn hl; rw [List.append_nil] at this; exact this) r h) fun r s' hq => ?_)
  cases r with
  | error e => exact ht.pass hx I hq
  | ok fl =>
    cases fl with
    | ret u => exact I.after hq
    | next => exact False.elim hq
    | brk => exact False.elim hq
    | cont => exact False.elim hq
end
/-- f(..) that may raise -/
def tCallX (sp : Sp) (E1 : X1) (t : TA) : TE := fun σ H Q => t σ H fun vs H1 => sp vs H1 Q fun c _ H' => E1 σ c H'
section
variable {X : Cx} {k : Nat} {f C : Addr} {fd : FuncData} {ps : List Str} {sp : Sp} {E1 : X1} {x : Str} {p pos : Pos} {e : Expr} {es : List Expr} {t : TA}
theorem pe_callX (F : FnOk X.prog X.w X.K X.mg X.base (CXE X.prog X.w) k f fd ps sp) (hr : Room k X.A) (hg : Gl X x) (hm : X.mg x = some (.ref f)) (hk : PySem.W.keepIn X.K (.ref f) = true) (hb : Binds X.K fd ps []) (ht : Takes X E1) (hx : X.ex = [])
    (ha : PA X (e :: es) t) (hdb : (x == ("__debug__" : Str)) = false := by decide) (he : starEach (e :: es) X.env = (false, eval e X.env) :: starEach es X.env := by rfl) (hpl : (backTo pos (starEach es X.env)).any (·.1) = false := by rfl) :
    PE X (.Call (.Name x p) (e :: es) [] pos) (tCallX sp E1 t) := by
  intro pins s σ H Q I h
  refine wpAny_Call_Name_kw (ld_glob I hg hm ?_ hdb)
  refine PySem.W.callWith_K (h₀ := X.base) I.ok.mod.kin hk (thn (ha pos pins s σ H _ I h) fun us s1 ⟨vs, H1, I1, r, q⟩ => ⟨I1.kIn, ?_⟩) he hpl
  exact run_fnX F hr hb ht hx I1 r q
end
/-- the context of a def's body takes exceptions: they leave the frame -/
theorem takes_cx {P : Program} {w : World} {K : PySem.W.Frag} {mg : Str → Option Value} {base : Heap} {N : List Str} {qual : Str} {scope : Scope} {f : Addr} {cd : Value} {A : Around} {outer : List Env} {s : Shared} {H : Hp} {E : XK} :
    Takes (cxOf (CXE P w) P w K mg base N qual scope f cd A outer s H E) fun _ c H' => E c none H' := by
  intro pins σ H' s' a C tr I L _ _ q
  refine leave_ok (X := cxOf (CXE P w) P w K mg base N qual scope f cd A outer s H E) I rfl rfl rfl L fun h' T u hok L' => ?_
  exact ⟨a, C, T, H', rfl, I.os, I.bare, u, hok, L', q, I.tk⟩
/-- a class of exceptions of one's own -/
structure XCls (K : PySem.W.Frag) (C : Addr) : Prop where
  ex : ∃ (nm q : Str) (N : Addr) (bs bm : List Value) (hdct : Bool) (sn : List Str) (sub : List Value) (ab : Bool) (col : Option Bool) (dd : Option Addr) (k0 k1 k2 k3 k5 : Option Value) (B Bn newId nid initId inN : String) (bmB bmN : List Value),
    ExcBaseFacts Bn newId inN bmN ∧ bmB.contains (.type Bn) = true ∧ ExcBaseFacts B nid initId bmB ∧
    ∀ h, K.In h → h.get? C = some (excClassObj nm q C N bs bm hdct sn sub ab col dd k0 k1 k2 k3 k5 newId) ∧ (∃ mN, h.Ns N mN ∧ mN "__init__" = none) ∧ OwnTail h bmB bm
theorem xcls_of {K : PySem.W.Frag} {C : Addr} {bmB bmN : List Value} {B Bn newId nid initId inN : String} (q : PySem.W.excIn K C bmB newId = true) (Fn : ExcBaseFacts Bn newId inN bmN) (hBn : bmB.contains (.type Bn) = true) (F : ExcBaseFacts B nid initId bmB) : XCls K C := by
  unfold PySem.W.excIn at q
  split at q
  · rename_i dd cd sl ho
    split at q
    · rename_i C' bm k0 k1 k2 k3 n k5 hm hs
      simp only [Bool.and_eq_true, beq_iff_eq, Bool.not_eq_true'] at q
      obtain ⟨⟨⟨⟨⟨rfl, rfl⟩, hdel⟩, ht⟩, hok⟩, hni⟩ := q
      obtain ⟨nm, bs, mro, ns, qn, hd, sn, sub, ab, col, del⟩ := cd
      dsimp only at hm hdel hok hni
      subst hm hdel
      have hsl : sl = #[k0, k1, k2, k3, some (.builtin n), k5] := by
        obtain ⟨l⟩ := sl
        simp only at hs
        rw [hs]
      subst hsl
      exact ⟨nm, qn, ns, bs, bm, hd, sn, sub, ab, col, dd, k0, k1, k2, k3, k5, B, Bn, n, nid, initId, inN, bmB, bmN, Fn, hBn, F, fun h X => ⟨X _ _ ho, ⟨_, .of_isNs (PySem.W.isNs_of_in X hok), PySem.W.nsMap_none_of_in X hok hni⟩, PySem.W.tail_of_in X ht⟩⟩
    · cases q
  · cases q
def tRaise (C : Addr) (E1 : X1) (t : TA) : TS := fun _ σ H => t σ H fun vs H1 => vs.length ≤ sizeLine ∧ E1 σ (.ref C) H1
theorem ps_raise {X : Cx} {C : Addr} {E1 : X1} {x : Str} {np cpos pos : Pos} {e : Expr} {es : List Expr} {t : TA} (c : XCls X.K C) (hg : Gl X x) (hm : X.mg x = some (.ref C)) (hc : X.calm = true) (ht : Takes X E1) (hx : X.ex = []) (ha : PA X (e :: es) t) (hdb : (x == ("__debug__" : Str)) = false := by decide)
    (he : starEach (e :: es) X.env = (false, eval e X.env) :: starEach es X.env := by rfl) (hpl : (backTo cpos (starEach es X.env)).any (·.1) = false := by rfl) :
    PS X (.Raise (some (.Call (.Name x np) (e :: es) [] cpos)) none pos) (tRaise C E1 t) := by
  intro pins s σ H D I h
  obtain ⟨nm, q, N, bs, bm, hdct, sn, sub, ab, col, dd, k0, k1, k2, k3, k5, B, Bn, newId, nid, initId, inN, bmB, bmN, Fn, hBn, F, all⟩ := c.ex
  obtain ⟨_, ⟨mN, hn, hni⟩, ow⟩ := all X.base I.ok.mod.kin
  refine wpAny_Raise_call_subU (C := C) (nm := nm) (q := q) (N := N) (bs := bs) (bm := bm) (hdct := hdct) (sn := sn) (sub := sub) (ab := ab) (col := col) (dd := dd) (k0 := k0) (k1 := k1) (k2 := k2) (k3 := k3) (k5 := k5) Fn hBn F (mN := mN) (ow.hasType F.hasBase) (I.ok.hd hc)
    (by rw [he]; show (false || (backTo cpos (starEach es X.env)).any (·.1)) = false; rw [hpl]; rfl) hni (ld_glob I hg hm ⟨rfl, ?_⟩ hdb)
  rw [he]
  have ha' := ha cpos pins s σ H _ I h
  rw [he] at ha'
  refine Calls.evalArgs_plain (thn ha' fun us s2 ⟨vs, H1, I1, r, hl, q1⟩ => ⟨rfl, by rw [← r.length]; exact hl, (all _ I1.kIn).1, hn.keeps I1.bk, (all _ I1.kIn).2.2, fun h' a hm => ?_⟩)
  obtain ⟨t0, e1, _, _⟩ := hm.there
  have I2 : Inv X pins σ H1 { s2 with heap := h' } := I1.kept (t' := s2.toks) hm.keeps
  have fr : H1 a = none := by
    cases z : H1 a with
    | none => rfl
    | some u =>
      obtain ⟨o, eo⟩ := (I1.hok a u z).get
      rw [hm.new] at eo; cases eo
  exact ht pins σ H1 _ a C none I2 ⟨I1.news hx hm.new, fr, _, _, .ref t0, e1, rfl, rfl, rfl, rfl⟩ (I1.apart hm.new) (fun T z => nomatch z) q1
end L2

namespace L2
open PySem PySem.Spec PyProof.Rows
section
variable {X : Cx} {pins : List (Addr × Obj)} {σ : St} {H : Hp} {s : Shared} {a C T : Addr} {tr : Option Addr} {h' : Heap}
/-- all that a body holds is as it was, where only a, its traceback and the frames' slots have changed -/
theorem inv_noted (I : Inv X pins σ H s) (hx : X.ex = []) (hf : X.stack = X.env :: X.outer) (un : Un X.fs [] X.H₀ H X.s₀.heap h') (hok : HOk X.prog X.w H h')
    (k1 : (PySem.W.hideAll s.heap (hidL a tr (frs X.stack))).StaysIn h') (k4 : ∀ b o, s.heap.get? b = some o → (∀ vs, o.data ≠ .fields vs) → ∃ sl, h'.get? b = some { o with slots := sl })
    (pa : ∀ p ∈ X.pn ++ pins, p.1 ≠ a ∧ ∀ T, tr = some T → p.1 ≠ T) : Inv X pins σ H { s with heap := h' } := by
  have cl : ∀ {c : Addr} {v : Option Value}, s.heap.IsCell c v → h'.IsCell c v := fun {c v} ⟨o, ho, hd⟩ => by
    obtain ⟨sl, e⟩ := k4 c o ho fun vs q => by rw [hd] at q; cases q
    exact ⟨_, e, hd⟩
  obtain ⟨m, hn, hl⟩ := id I.loc
  have hn' : h'.Ns X.env.locals m := by
    obtain ⟨o, es, ep, ho, hd, r⟩ := hn
    obtain ⟨sl, e⟩ := k4 _ o ho fun vs q => by rw [hd] at q; cases q
    exact ⟨_, es, ep, e, hd, r⟩
  refine ⟨I.ok, I.os, I.bare, by rw [hx]; exact un, ⟨m, hn', fun i x v e1 e2 e3 => ?_⟩, fun x c e => ?_, I.free, I.freeC, fun p hp => ?_, hok, I.len, I.tk⟩
  · obtain ⟨u, ru, lk⟩ := hl i x v e1 e2 e3
    refine ⟨u, ru, ?_⟩
    rcases lk with lk | ⟨k, c, e, z⟩
    · exact .inl lk
    · exact .inr ⟨k, c, e, cl z⟩
  · obtain ⟨v, z⟩ := I.cell x c e
    exact ⟨v, cl z⟩
  · obtain ⟨e, n, ne, nf, d⟩ := I.pin p hp
    refine ⟨k1 _ _ (PySem.W.hideAll_get _ e fun hm => ?_), n, ne, nf, d⟩
    rcases List.mem_cons.mp hm with z | z
    · exact (pa p hp).1 z
    · rcases List.mem_append.mp z with z | z
      · exact (pa p hp).2 p.1 (by simpa using z) rfl
      · rcases List.mem_cons.mp (I.stkSub _ z) with z | z
        · exact ne z
        · exact nf z
/-- an exception is met: the frame is noted, its flight is over -/
theorem note_ok {M : Model} {Q : Unit → Shared → Prop} {E : Value → Shared → Prop} (I : Inv X pins σ H s) (hs : X.stack = X.env :: X.outer) (hf : X.env.frame = some X.env.locals) (hx : X.ex = []) (L : Lies X.s₀.heap s.heap H a C tr)
    (pa : ∀ p ∈ X.pn ++ pins, p.1 ≠ a ∧ ∀ T, tr = some T → p.1 ≠ T)
    (h : ∀ h' T, Inv X pins σ H { s with heap := h' } → Lies X.s₀.heap h' H a C (some T) → (∀ p ∈ X.pn ++ pins, p.1 ≠ T) → Q () { s with heap := h' }) :
    wpAny M X.A (noteFrame (.ref a) X.env) (fun _ s₂ => wpAny M X.A (setFlight (.ref a) none) Q E s₂) E s := by
  obtain ⟨new, free, oe, vs, b0, he, hc, hd, h0, htr⟩ := id L
  have newT : ∀ T, tr = some T → X.s₀.heap.get? T = none ∧ H T = none := by intro T e; subst e; exact ⟨htr.2.1, htr.2.2.1⟩
  have fr : s.heap.FunFrames (PySem.W.hideAll s.heap (hidL a tr (frs X.stack))) X.stack := PySem.W.funFrames_hide I.stack fun env he b hb => List.mem_cons_of_mem _ (List.mem_append_right _ (mem_frs he hb))
  have st : (PySem.W.hideAll s.heap (hidL a tr (frs X.stack))).StaysIn s.heap := fun b o e => PySem.W.of_hideAll _ e
  have na : (PySem.W.hideAll s.heap (hidL a tr (frs X.stack))).get? a = none := PySem.W.hideAll_none _ List.mem_cons_self
  have hfr : X.A.frames = some (X.env :: X.outer) := by rw [← hs]; exact I.ok.frames
  have nT : ∀ T, tr = some T → (PySem.W.hideAll s.heap (hidL a tr (frs X.stack))).get? T = none := fun T e => by subst e; exact PySem.W.hideAll_none _ (List.mem_cons_of_mem _ (List.mem_append_left _ (by simp)))
  have go : ∀ h', Heap.NotedW (PySem.W.hideAll s.heap (hidL a tr (frs X.stack))) (X.env :: X.outer) a (.ref C) b0 (rawInt X.env.locals) s.heap h' → wpAny M X.A (setFlight (.ref a) none) Q E { s with heap := h' } := fun h' ⟨k1, k2, k3, k4⟩ => by
    rw [← hs] at k2
    obtain ⟨u, hok, T, apT, n1, n2, ne, oe', vs', oT, ts, e1, e2, e3, e4, e5, e6, e7, e8⟩ := left_ok I hs hx new free newT k1 k2 k3 k4
    have I2 : Inv X pins σ H { s with heap := h' } := inv_noted I hx hs u hok k1 k4 pa
    have paT : ∀ p ∈ X.pn ++ pins, p.1 ≠ T := fun p hp => by
      obtain ⟨e, _⟩ := I.pin p hp
      exact apT p.1 _ e (pa p hp).2
    have fr2 : h'.FunFrames (PySem.W.hideAll h' (hidL a (some T) (frs X.stack))) X.stack := PySem.W.funFrames_hide I2.stack fun env he b hb => List.mem_cons_of_mem _ (List.mem_append_right _ (mem_frs he hb))
    refine wpAny_setFlight_noneW (s := { s with heap := h' }) (base := PySem.W.hideAll h' (hidL a (some T) (frs X.stack))) (l := X.stack) (e := a) (cls := .ref C) (a0 := b0) (fl := rawInt X.env.locals) (fun b o e => PySem.W.of_hideAll _ e) fr2
      ⟨oe', vs', T, oT, ts, e1, ⟨e2, e3⟩, e4, e5, PySem.W.hideAll_none _ (List.mem_cons_of_mem _ (List.mem_append_left _ (by simp))), ne, e6, e7, e8⟩ fun h3 j1 j2 j3 j4 => ?_
    have j4' : ∀ b o, h'.get? b = some o → (∀ vs, o.data ≠ .fields vs) → ∃ sl, h3.get? b = some { o with slots := sl } := fun b o e q => ⟨o.slots, j4 b o e q⟩
    obtain ⟨u', hok', T', apT', n1', n2', ne', oe2, vs2, oT2, ts2, f1, f2, f3, f4, f5, f6, f7, f8⟩ := left_ok (s := { s with heap := h' }) (tr := some T) I2 hs hx new free (fun T0 e => by cases e; exact ⟨n1, n2⟩) j1 j2 j3.at j4'
    have I3 : Inv X pins σ H { s with heap := h3 } := inv_noted (s := { s with heap := h' }) (h' := h3) (tr := some T) I2 hx hs u' hok' j1 j4' fun p hp => ⟨(pa p hp).1, fun T0 e => by cases e; exact paT p hp⟩
    refine h h3 T' I3 ⟨new, free, oe2, vs2, b0, f1, f2, f4, f3, f5, n1', n2', ne', oT2, ts2, f6, f7, f8⟩ fun p hp => ?_
    obtain ⟨e, _⟩ := I2.pin p hp
    exact apT' p.1 _ e fun T0 z => by cases z; exact paT p hp
  generalize PySem.W.hideAll s.heap (hidL a tr (frs X.stack)) = base at fr st na go nT
  rw [hs] at fr
  cases tr with
  | none =>
    unfold noteFrame
    simp only [hf]
    refine wpAny_bind (wpAny_field he hd htr ?_)
    rw [if_neg (by decide)]
    exact wpAny_entryW hfr fr hf he st na hd (Array.getElem?_eq_some_iff.mp htr).1 h0 (by rw [hc]; exact go)
  | some T =>
    obtain ⟨h1, _, _, hTa, oT, ts, hT, hdT, h3⟩ := htr
    exact wpAny_noteFrame_onW hfr fr hf ⟨oe, vs, T, oT, ts, he, ⟨hc, h0⟩, hd, h1, nT T rfl, hTa, hT, hdT, h3⟩ st na go
end
end L2

namespace L2
open PySem PySem.Spec PyProof.Rows
/-- a try's body: other pins that last, another wish for exceptions -/
abbrev Cx.tr (X : Cx) (pn : List (Addr × Obj)) (xe : Value → Shared → Prop) : Cx := { X with pn := pn, xe := xe }
/-- an except suite -/
abbrev Cx.hnd (X : Cx) (a : Addr) : Cx := { X with A := X.A.mark (some (.ref a)), calm := false, xe := fun _ _ => False }
theorem Cx.Ok.tr {X : Cx} (ok : X.Ok) (pn : List (Addr × Obj)) (xe : Value → Shared → Prop) : (X.tr pn xe).Ok :=
  ⟨ok.mod, ok.kind, ok.glob, ok.blt, ok.above, ok.inj, ok.has, ok.cab, ok.hd, ok.frames, ok.stk, ok.exf, ok.bs, ok.bsz, ok.noex, ok.exfs, ok.funs, ok.frf⟩
theorem Cx.Ok.untr {X : Cx} {pn : List (Addr × Obj)} {xe : Value → Shared → Prop} (ok : (X.tr pn xe).Ok) : X.Ok :=
  ⟨ok.mod, ok.kind, ok.glob, ok.blt, ok.above, ok.inj, ok.has, ok.cab, ok.hd, ok.frames, ok.stk, ok.exf, ok.bs, ok.bsz, ok.noex, ok.exfs, ok.funs, ok.frf⟩
theorem Cx.Ok.hnd {X : Cx} (ok : X.Ok) (a : Addr) : (X.hnd a).Ok :=
  ⟨ok.mod, ok.kind, ok.glob, ok.blt, ok.above, ok.inj, ok.has, ok.cab, (fun z => nomatch z), ok.frames, ok.stk, ok.exf, ok.bs, ok.bsz, ok.noex, ok.exfs, ok.funs, ok.frf⟩
section
variable {X : Cx} {pins : List (Addr × Obj)} {σ : St} {H : Hp} {s : Shared} {a C T : Addr}
theorem Inv.tr (I : Inv X pins σ H s) (xe : Value → Shared → Prop) : Inv (X.tr (X.pn ++ pins) xe) [] σ H s := ⟨I.ok.tr _ _, I.os, I.bare, I.base, I.loc, I.cell, I.free, I.freeC, (fun p hp => I.pin p (by simpa using hp)), I.hok, I.len, I.tk⟩
theorem Inv.untr {pins' : List (Addr × Obj)} {xe : Value → Shared → Prop} (I : Inv (X.tr (X.pn ++ pins) xe) pins' σ H s) : Inv X pins σ H s := ⟨I.ok.untr, I.os, I.bare, I.base, I.loc, I.cell, I.free, I.freeC, (fun p hp => I.pin p (List.mem_append_left _ hp)), I.hok, I.len, I.tk⟩
theorem Inv.hnd (I : Inv X pins σ H s) (a : Addr) : Inv (X.hnd a) pins σ H s := ⟨I.ok.hnd a, I.os, I.bare, I.base, I.loc, I.cell, I.free, I.freeC, I.pin, I.hok, I.len, I.tk⟩
theorem Inv.unhnd (ok : X.Ok) (I : Inv (X.hnd a) pins σ H s) : Inv X pins σ H s := ⟨ok, I.os, I.bare, I.base, I.loc, I.cell, I.free, I.freeC, I.pin, I.hok, I.len, I.tk⟩
theorem SP.untr {D : Ends} {xe : Value → Shared → Prop} {f : Flow} {s' : Shared} (h : SP (X.tr (X.pn ++ pins) xe) [] D f s') : SP X pins D f s' := by
  cases f with
  | next => obtain ⟨σ', H', J, q⟩ := h; exact ⟨σ', H', J.untr, q⟩
  | brk => obtain ⟨σ', H', J, q⟩ := h; exact ⟨σ', H', J.untr, q⟩
  | cont => obtain ⟨σ', H', J, q⟩ := h; exact ⟨σ', H', J.untr, q⟩
  | ret u => obtain ⟨v, σ', H', J, r, q⟩ := h; exact ⟨v, σ', H', J.untr, r, q⟩
/-- a name is unbound -/
theorem unname_ok {M : Model} {A : Around} {E : Value → Shared → Prop} {i : Nat} {n : Str} {pos : Pos} {Q : Unit → Shared → Prop} (I : Inv X pins σ H s) (hN : X.N.Nodup) (hi : X.N[i]? = some n) (hk : X.env.scope.names.lookup n = some .local)
    (h : ∀ s', Inv X pins (σ.set i none) H s' → Q () s') : wpAny M A (do bindName X.env n .none; unbindBehindTheSuite X.env n pos) Q E s := by
  obtain ⟨m, hn, hl⟩ := id I.loc
  have hcls : (X.env.scope.kind == .class || (X.env.scope.kind == .module && X.env.locals != X.env.globals)) = false := by rw [I.ok.kind]; rfl
  refine wpAny_nameGoes_keeps hk hn hcls fun h' v hn' hs => h _ ?_
  obtain ⟨oL, _, _, hoL, _⟩ := id hn
  have neL : ∀ b o, X.s₀.heap.get? b = some o → b ≠ X.env.locals := fun b o e => Nat.ne_of_lt (Nat.lt_of_lt_of_le (Heap.lt_size e) I.ok.above)
  refine ⟨I.ok, I.os, I.bare, ⟨fun b o e n hb hx => ?_, fun b o e n hb hx => ?_, I.base.free, fun b o e hx => ?_, I.base.tups, I.base.frzs, I.base.tbls⟩, ⟨_, hn', fun j y v' e1 e2 e3 => ?_⟩, fun y c e => ?_, I.free, I.freeC, fun p hp => ?_, fun b ob e => ?_, by simpa using I.len, by first | exact I.tk | exact Nat.succ_pos _⟩
  · exact (hs.2 b (neL b o e)).trans (I.base.keep b o e n hb hx)
  · obtain ⟨sl, e1⟩ := I.base.slot b o e n hb hx
    exact ⟨sl, (hs.2 b (neL b o e)).trans e1⟩
  · obtain ⟨o', e1⟩ := I.base.there b o e hx
    exact ⟨o', (hs.2 b (neL b o e)).trans e1⟩
  · by_cases hj : j = i
    · subst hj
      have hjσ : j < σ.length := by rw [I.len]; exact (List.getElem?_eq_some_iff.mp hi).1
      rw [List.getElem?_set_self hjσ] at e2
      cases e2
    · rw [List.getElem?_set_ne (Ne.symm hj)] at e2
      obtain ⟨u', r', q⟩ := hl j y v' e1 e2 e3
      refine ⟨u', r', ?_⟩
      rcases q with ⟨k, e⟩ | ⟨k, c, e, z⟩
      · refine .inl ⟨k, ?_⟩
        have : y ≠ n := fun e => hj (nodup_ix hN e1 (e ▸ hi))
        simp [this, e]
      · exact .inr ⟨k, c, e, z.sameBut hs (I.cne y c e)⟩
  · obtain ⟨w', z⟩ := I.cell y c e
    exact ⟨w', z.sameBut hs (I.cne y c e)⟩
  · obtain ⟨e, n, ne, nf, d⟩ := I.pin p hp
    exact ⟨(hs.2 p.1 ne).trans e, n, ne, nf, d⟩
  · refine (I.hok b ob e).stay (fun c w' hc q => (hs.2 c ?_).trans q) (fun _ q => q) fun _ _ q => q
    rintro rfl
    rcases hc with z | z
    · rw [← z, I.free] at e; cases e
    · rw [I.free] at z; cases z
/-- the exception is held from now on -/
theorem track_ok {oe : Obj} (I : Inv X pins σ H s) (hx : X.ex = []) (new : X.s₀.heap.get? a = none) (free : H a = none) (he : s.heap.get? a = some oe) (ap : Apart X a) (pa : ∀ p ∈ X.pn ++ pins, p.1 ≠ a) : Inv X pins σ (upd H a (.frz oe (.own 0))) s := by
  refine ⟨I.ok, I.os, I.bare, ⟨I.base.keep, I.base.slot, fun b o e n hb => ?_, I.base.there, fun b xs e => ?_, fun b o u e => ?_, fun b ps e => ?_⟩, I.loc, I.cell, ?_, fun x c e => ?_, fun p hp => ?_, fun b u e => ?_, I.len, I.tk⟩
  · rw [upd_ne (fun z => by rw [z, new] at e; cases e)]; exact I.base.free b o e n hb
  · have := I.base.tups b xs e
    rw [upd_ne (fun z => by rw [z, free] at this; cases this)]; exact this
  · have := I.base.frzs b o u e
    rw [upd_ne (fun z => by rw [z, free] at this; cases this)]; exact this
  · obtain ⟨more, this⟩ := I.base.tbls b ps e
    exact ⟨more, by rw [upd_ne (fun z => by rw [z, free] at this; cases this)]; exact this⟩
  · rw [upd_ne (Ne.symm ap.1)]; exact I.free
  · rw [upd_ne (ap.2.1 x c e)]; exact I.freeC x c e
  · obtain ⟨e, n, ne, nf, d⟩ := I.pin p hp
    exact ⟨e, by rw [upd_ne (pa p hp)]; exact n, ne, nf, d⟩
  · by_cases z : b = a
    · subst z
      rw [upd_same] at e; cases e
      exact ⟨he, oe, he⟩
    · rw [upd_ne z] at e
      exact (I.hok b u e).stay (fun _ _ _ q => q) (fun c q => by rw [upd_ne (fun z => by rw [z, free] at q; cases q)]; exact q) fun c xs q => by rw [upd_ne (fun z => by rw [z, free] at q; cases q)]; exact q
/-- its flight is over (once more) -/
theorem flight_ok {M : Model} {A : Around} {Q : Unit → Shared → Prop} {E : Value → Shared → Prop} (I : Inv X pins σ H s) (hs : X.stack = X.env :: X.outer) (hx : X.ex = []) (L : Lies X.s₀.heap s.heap H a C (some T))
    (pa : ∀ p ∈ X.pn ++ pins, p.1 ≠ a ∧ p.1 ≠ T) (h : ∀ h' T', Inv X pins σ H { s with heap := h' } → Lies X.s₀.heap h' H a C (some T') → Q () { s with heap := h' }) : wpAny M A (setFlight (.ref a) none) Q E s := by
  obtain ⟨new, free, oe, vs, b0, he, hc, hd, h0, h1, n1, n2, ne, oT, ts, hT, hdT, h3⟩ := L
  have fr2 : s.heap.FunFrames (PySem.W.hideAll s.heap (hidL a (some T) (frs X.stack))) X.stack := PySem.W.funFrames_hide I.stack fun env he b hb => List.mem_cons_of_mem _ (List.mem_append_right _ (mem_frs he hb))
  refine wpAny_setFlight_noneW (base := PySem.W.hideAll s.heap (hidL a (some T) (frs X.stack))) (l := X.stack) (e := a) (cls := .ref C) (a0 := b0) (fl := .none) (fun b o e => PySem.W.of_hideAll _ e) fr2
    ⟨oe, vs, T, oT, ts, he, ⟨hc, h0⟩, hd, h1, PySem.W.hideAll_none _ (List.mem_cons_of_mem _ (List.mem_append_left _ (by simp))), ne, hT, hdT, h3⟩ fun h3 j1 j2 j3 j4 => ?_
  have j4' : ∀ b o, s.heap.get? b = some o → (∀ vs, o.data ≠ .fields vs) → ∃ sl, h3.get? b = some { o with slots := sl } := fun b o e q => ⟨o.slots, j4 b o e q⟩
  obtain ⟨u', hok', T', apT', n1', n2', ne', oe2, vs2, oT2, ts2, f1, f2, f3, f4, f5, f6, f7, f8⟩ := left_ok (tr := some T) I hs hx new free (fun T0 e => by cases e; exact ⟨n1, n2⟩) j1 j2 j3.at j4'
  exact h h3 T' (inv_noted (tr := some T) I hx hs u' hok' j1 j4' fun p hp => ⟨(pa p hp).1, fun T0 e => by cases e; exact (pa p hp).2⟩) ⟨new, free, oe2, vs2, b0, f1, f2, f4, f3, f5, n1', n2', ne', oT2, ts2, f6, f7, f8⟩
end
end L2

namespace L2
open PySem PySem.Spec PyProof.Rows
/-- behind an except suite its name is unbound -/
def Dh (i : Nat) (D : Ends) : Ends where
  nx := fun σ H => D.nx (σ.set i none) H
  rt := D.rt
  bk := fun σ H => D.bk (σ.set i none) H
  ct := fun σ H => D.ct (σ.set i none) H
/-- what is wanted of an exception that the body meets: the suite takes it -/
def hndX (K : PySem.W.Frag) (Dc : Addr) (i : Nat) (th : TS) (D : Ends) : X1 := fun σ c H => ∃ C, c = .ref C ∧ PySem.W.exmOne K (.ref C) (.ref Dc) = some true ∧ ∀ a oe, H a = none → oe.cls = .ref C → th (Dh i D) (σ.set i (some (.ref a))) (upd H a (.frz oe (.own 0)))
/-- try: body except Dc as name: suite -/
def tTry (K : PySem.W.Frag) (Dc : Addr) (i : Nat) (tb : X1 → TS) (th : TS) : TS := fun D σ H => tb (hndX K Dc i th D) D σ H
theorem ps_try {X : Cx} {Dc : Addr} {i : Nat} {n x : Str} {np hpos pos : Pos} {body suite : List Stmt} {b₀ : Stmt} {tb : X1 → TS} {th : TS} (hs : X.stack = X.env :: X.outer) (hf : X.env.frame = some X.env.locals) (hx : X.ex = []) (hN : X.N.Nodup) (hi : X.N[i]? = some n)
    (hk : X.env.scope.names.lookup n = some .local) (hg : Gl X x) (hm : X.mg x = some (.ref Dc)) (hb : ∀ (pn : List (Addr × Obj)) (xe : Value → Shared → Prop) (E1 : X1), Takes (X.tr pn xe) E1 → PSs (X.tr pn xe) body (tb E1)) (hh : ∀ a, PSs (X.hnd a) (b₀ :: suite) th)
    (hdb : (x == ("__debug__" : Str)) = false := by decide) : PS X (.Try body [.ExceptHandler (some (.Name x np)) (some n) (b₀ :: suite) hpos] [] [] pos) (tTry X.K Dc i tb th) := by
  intro pins s σ H D I h
  have tk : Takes (X.tr (X.pn ++ pins) (fun e s' => ∃ pins' σ' H' a C tr, e = .ref a ∧ Inv X pins σ' H' s' ∧ Lies X.s₀.heap s'.heap H' a C tr ∧ Apart (X.tr (X.pn ++ pins') X.xe) a ∧ (∀ p ∈ X.pn ++ pins, p.1 ≠ a) ∧ (∀ T, tr = some T → ∀ p ∈ X.pn ++ pins, p.1 ≠ T) ∧ hndX X.K Dc i th D σ' (.ref C) H'))
      (hndX X.K Dc i th D) := fun pins' σ' H' s' a C tr I' L ap apT q => ⟨[], σ', H', a, C, tr, rfl, I'.untr, L, ⟨ap.1, ap.2.1, fun p hp => ap.2.2 p (by
        have hp : p ∈ X.pn ++ [] := hp
        rw [List.append_nil] at hp
        exact List.mem_append_left _ hp)⟩, ap.2.2, fun T e => (apT T e).2.2, q⟩
  refine wpAny_Try_except (wpAny_mono (hb _ _ _ tk [] s σ H D (I.tr _) h) (fun f s1 h1 => ?_) fun e s1 h1 => ?_)
  · have h2 := SP.untr h1
    cases f with
    | next => exact wpAny_execs_nil h2
    | brk => exact h2
    | cont => exact h2
    | ret u => exact h2
  · obtain ⟨pins', σ', H', a, C, tr, rfl, I1, L, ap, pa, paT, C', ec, em, q⟩ := h1
    cases ec
    refine note_ok I1 hs hf hx L (fun p hp => ⟨pa p hp, fun T e => paT T e p hp⟩) fun h' T I2 L2 paT2 => ?_
    refine wpAny_handleBy_cons (codeAny_handlers_test ?_) (by intro q; cases q)
    refine ld_glob (X := X.hnd a) (I2.hnd a) hg hm ?_ hdb
    obtain ⟨_, _, oe, vs, a0, he, hc, _⟩ := id L2
    have LT : PySem.W.Looks (model X.prog X.w) h' (typeOf (.ref a)) (.ref C) := hc ▸ (PySem.W.Looks.ld he).andThen .now
    refine PySem.W.exm_one (K := X.K) I2.kIn LT em _ _ _ _ (fun _ _ e => e) ?_
    refine codeAny_handlers_suite_as ?_
    refine flight_ok I2 hs hx L2 (fun p hp => ⟨pa p hp, paT2 p hp⟩) fun h3 T' I3 L3 => ?_
    obtain ⟨new, free, oe3, vs3, a3, he3, hc3, _⟩ := L3
    have I4 := track_ok I3 hx new free he3 ⟨ap.1, ap.2.1, fun p hp => pa p (List.mem_append_left _ hp)⟩ pa
    refine store_ok (X := X.hnd a) (I4.hnd a) hN hi (.inl hk) (v := .ref a) (u := .ref a) rfl (fun s5 I5 => ?_) (.inr hk)
    refine wpAny_mono (hh a pins s5 _ _ (Dh i D) I5 (q a oe3 free hc3)) (fun f s6 h6 => ?_) fun e s6 z => z.elim
    cases f with
    | next => obtain ⟨σ6, H6, J, q6⟩ := h6; exact unname_ok (J.unhnd I.ok) hN hi hk fun s7 I7 => ⟨_, H6, I7, q6⟩
    | brk => obtain ⟨σ6, H6, J, q6⟩ := h6; exact unname_ok (J.unhnd I.ok) hN hi hk fun s7 I7 => ⟨_, H6, I7, q6⟩
    | cont => obtain ⟨σ6, H6, J, q6⟩ := h6; exact unname_ok (J.unhnd I.ok) hN hi hk fun s7 I7 => ⟨_, H6, I7, q6⟩
    | ret u => obtain ⟨v, σ6, H6, J, r, q6⟩ := h6; exact unname_ok (J.unhnd I.ok) hN hi hk fun s7 I7 => ⟨v, _, H6, I7, r, q6⟩
end L2

namespace L2
open PySem PySem.Spec PyProof.Rows PySem.W
structure XAt (K : Frag) (C : Addr) : Prop where
  ga : findIn K (.ref C) "__getattribute__" = some (some (.builtin "BaseException.__getattribute__"))
  gt : findIn K (.ref C) "__getattr__" = some none
  cl : findIn K (.ref C) "__class__" = some (some (.builtin "object.__class__"))
  ge : specialIn K (.builtin "object.__class__") "__get__" = some (some (.builtin "getset_descriptor.__get__"))
  tk : takesIn K (.builtin "object.__class__") = some true
  mo : mroIn K C (.type "object") = some true
  be : subIn K (.ref C) (.type "BaseException") = some true
theorem ga_bind (self : Value) : bindSpecial (.builtin "BaseException.__getattribute__") self = pure (.builtin "BaseException.__getattribute__", [self]) := by
  have hop : withoutEnding? "BaseException.__getattribute__" "#opaque" = none := by decide +kernel
  have hdat : withoutEnding? "BaseException.__getattribute__" "#data" = none := by decide +kernel
  have hk : builtinKind "BaseException.__getattribute__" = some .slot := by decide +kernel
  simp only [bindSpecial, typeOf, builtinType, hop, hdat, hk]; rfl
/-- the exception's object: its class, no class itself -/
def ExAt (h : Heap) (a C : Addr) : Prop := ∃ o, h.get? a = some o ∧ o.cls = .ref C
theorem ExAt.type {M : Model} {h : Heap} {a C : Addr} (I : ExAt h a C) : Looks M h (typeOf (.ref a)) (.ref C) := by
  obtain ⟨o, h1, h2⟩ := I
  exact h2 ▸ (Looks.ld h1).andThen .now
open Builtin.ObjectAttr in
theorem xc_find {M : Model} {K : Frag} {h : Heap} {a C : Addr} (c : XAt K C) (X : K.In h) : Looks M h (find (.ref a) (.ref C) "__class__") (.bind (.builtin "getset_descriptor.__get__") (.builtin "object.__class__")) := by
  have L1 := looks_findIn (M := M) X c.cl
  have L2 := looks_specialIn (M := M) X c.ge
  have L3 := looks_takesIn (M := M) X c.tk
  refine L1.andThen (L2.andThen ?_)
  exact (show Looks M h (dataDescriptor? (some (.builtin "object.__class__")) (some (.builtin "getset_descriptor.__get__"))) (some (.builtin "getset_descriptor.__get__", .builtin "object.__class__")) from L3.andThen .now).andThen (Looks.tag .now)
section
variable {prog : Program} {w : World} {A : Around} {E : Value → Shared → Prop} {s : Shared} {K : Frag} {a C : Addr}
open Builtin Builtin.ObjectAttr Builtin.Getset_descriptor in
theorem xc_get {R : Result → Shared → Prop} {tp : Value} (X : K.In s.heap) (I : ExAt s.heap a C) (hm : mroIn K C (.type "object") = some true)
    (h : R (.ok (.ret (.ref C))) s) : codeAny (model prog w) A (.call (.builtin "getset_descriptor.__get__") ⟨[.builtin "object.__class__", .ref a, tp], []⟩) R s := by
  obtain ⟨hh, g, dr, t, os⟩ := s
  have L0 := I.type (M := model prog w)
  have L1 := looks_mroIn (M := model prog w) X hm
  refine codeAny_call_builtin KF.slot_gs.plain KF.entry_gs (KF.slot_gs.check _ _ _ _ _ _ _ _ KF.type_class (KF.args_gs _ _ _) ?_)
  unfold Builtin.«getset_descriptor.__get__» descrGet
  rw [dga_obj]
  refine wpAny_bind (wpAny_pure ?_)
  unfold descrGetter descrCheckInstance descrNameAndClass isInstance
  simp only [KF.owner_class]
  repeat lk
  refine ⟨Code.quiet_builtin _ (by decide +kernel), codeAny_builtin KF.entry_class ?_⟩
  unfold Builtin.«object.__class__» shownTypeOf
  repeat lk
  exact h
theorem xc_entry {tk : Tok} {Q : Fin → Shared → Prop} (c : XAt K C) (X : K.In s.heap) (I : ExAt s.heap a C) (h : Q (.done (.ret (.ref C))) s) :
    wpAny (model prog w) A (Builtin.«object.__getattribute__» ⟨[.ref a, .str "__class__" tk], []⟩) Q E s := by
  obtain ⟨hh, g, d, t, os⟩ := s
  have L0 := I.type (M := model prog w)
  have L1 := xc_find (M := model prog w) (a := a) c X
  unfold Builtin.«object.__getattribute__»
  repeat (first | with_reducible refine wpAny_call ?_ | lk)
  refine xc_get X I c.mo ?_
  repeat lk
  exact h
theorem xc_check {Q : Unit → Shared → Prop} {nameV : Value} (c : XAt K C) (X : K.In s.heap) (I : ExAt s.heap a C) (hq : Q () s) : wpAny (model prog w) A (checkBuiltinCall "BaseException.__getattribute__" ⟨[.ref a, nameV], []⟩) Q E s := by
  obtain ⟨hh, g, d, t, os⟩ := s
  have L0 := I.type (M := model prog w)
  have L1 := looks_subIn (M := model prog w) X c.be
  have hk : builtinKind "BaseException.__getattribute__" = some .slot := by decide +kernel
  have hsplit : splitId "BaseException.__getattribute__" = some ("BaseException", "__getattribute__") := by decide +kernel
  have ha := F.args_bexc_ga (.ref a) nameV
  simp only [checkBuiltinCall, hk, hsplit]
  refine wpAny_bind ?_
  unfold isInstance
  repeat lk
  exact hq
theorem xc_by {tk : Tok} {Q : Value → Shared → Prop} (c : XAt K C) (X : K.In s.heap) (I : ExAt s.heap a C) (h : Q (.ref C) s) : wpAny (model prog w) A (getAttrBy (.ref a) (.str "__class__" tk) false) Q E s := by
  obtain ⟨hh, g, d, t, os⟩ := s
  have L0 := I.type (M := model prog w)
  have L1 := looks_findIn (M := model prog w) X c.ga
  have L2 := looks_findIn (M := model prog w) X c.gt
  have f3 := ga_bind (.ref a)
  unfold getAttrBy
  repeat (first | with_reducible refine wpAny_call ?_ | with_reducible refine wpAny_attempt ?_ | lk)
  refine codeAny_call_builtin (by decide +kernel) F.entry_bexc_ga (xc_check c X I (xc_entry c X I ?_))
  exact handed_on rfl h
theorem xc_attr {Q : Option Value → Shared → Prop} (c : XAt K C) (X : K.In s.heap) (I : ExAt s.heap a C) (h : Q (some (.ref C)) { s with toks := s.toks + 1 }) : wpAny (model prog w) A (getAttr? (.ref a) "__class__") Q E s := by
  unfold getAttr? getAttrBy?
  refine wpAny_bind (wpAny_mkText (wpAny_bind (wpAny_attempt (xc_by (s := { s with toks := s.toks + 1 }) c X I ?_))))
  exact wpAny_pure h
end
/-- a held exception, for isinstance -/
theorem kitx_exc {K : Frag} {a C : Addr} (c : XAt K C) (hcl : (clsIn K C).isSome = true) : KitX K (.ref a) (.ref C) (fun h => ExAt h a C) where
  ty := fun _ _ _ I => I.type
  it := fun _ _ X _ => by
    unfold clsIn at hcl
    split at hcl
    · rename_i c' d' cd' sl' ho
      intro A' Q' E' s' k q
      unfold isType loadHead
      exact wpAny_bind (wpAny_loadPart (k _ _ (X _ _ ho)) (wpAny_pure q))
    · cases hcl
  ne := fun h tp dd its n sl X htp => by
    refine Bool.eq_false_iff.mpr fun q => ?_
    have e : C = tp := Value.ref.inj (beq_iff_eq.mp q)
    subst e
    unfold clsIn at hcl
    split at hcl
    · rename_i c' d' cd' sl' ho
      have z := (X _ _ ho).symm.trans htp
      cases z
    · cases hcl
  ca := fun X I k => xc_attr c X I k
end L2

namespace L2
open PySem PySem.Spec PyProof.Rows
/-- a class as a value -/
def clsV : V → Option Value
  | .ref D => some (.ref D)
  | .ty T => some (.type T)
  | _ => none
theorem clsV_rel {v : V} {u c : Value} (h : clsV v = some c) (r : RelV v u) : u = c := by
  cases v with
  | ref D => cases h; exact r
  | ty T => cases h; exact r
  | _ => cases h
theorem clsV_all : ∀ {vs : List V} {us cs : List Value}, vs.map clsV = cs.map some → Vals vs us → us = cs
  | [], _, [], _, .nil => rfl
  | [], _, _ :: _, h, _ => by cases h
  | _ :: _, _, [], h, _ => by cases h
  | v :: vs, _, c :: cs, h, .cons r t => by
    rw [List.map_cons, List.map_cons] at h
    obtain ⟨h1, h2⟩ := List.cons.inj h
    rw [clsV_rel h1 r, clsV_all h2 t]
/-- what is held of a class of exceptions, for isinstance -/
structure XHd (K : PySem.W.Frag) (C : Addr) : Prop where
  at_ : XAt K C
  cls : (PySem.W.clsIn K C).isSome = true
def HeldX (K : PySem.W.Frag) (H : Hp) (a C : Addr) : Prop := ∃ oe, H a = some (.frz oe (.own 0)) ∧ oe.cls = .ref C
def uInstX (K : PySem.W.Frag) : List V → Hp → VK → Prop := fun xs H Q => ∃ a C v, xs = [.ref a, v] ∧ HeldX K H a C ∧ XHd K C ∧
  ((∃ u b, clsV v = some u ∧ PySem.W.kitOne K (.ref C) u = some b ∧ Q (.bl b) H) ∨ (∃ tp ws us b, v = .ref tp ∧ SqT K H tp ws ∧ ws.map clsV = us.map some ∧ PySem.W.kitAny K (.ref C) us = some b ∧ Q (.bl b) H))
theorem call_instX {X : Cx} : CallR X (.builtin "isinstance") (uInstX X.K) := by
  intro pins s σ H xs us Q I r h
  obtain ⟨a, C, v, rfl, ⟨oe, ha, hc⟩, hd, h⟩ := h
  obtain ⟨u1, u2, rfl, r1, r2⟩ := Vals.two r
  cases (show u1 = Value.ref a from r1)
  obtain ⟨he, _⟩ := (show ObjOk X.prog X.w H s.heap a (.frz oe (.own 0)) from I.hok a _ ha)
  have ex : ExAt s.heap a C := ⟨oe, he, hc⟩
  rcases h with ⟨c, b, e, k, q⟩ | ⟨tp, ws, cs, b, rfl, ht, e, k, q⟩
  · cases clsV_rel e r2
    exact wpAny_pos I.tk (PySem.W.kia_one (kitx_exc hd.at_ hd.cls) I.kIn ex k (fun z => nomatch z) fun tk ht => ⟨.bl b, H, I.tok _, rfl, q⟩)
  · cases (show u2 = Value.ref tp from r2)
    obtain ⟨its, rv, ⟨o, h1, h2, n, h3⟩, _⟩ := I.tuple ht
    cases clsV_all e rv
    obtain ⟨oc, od, odt, osl⟩ := o
    dsimp only at h2 h3
    subst h2 h3
    exact wpAny_pos I.tk (PySem.W.kia_tup (kitx_exc hd.at_ hd.cls) I.kIn ex h1 k (fun z => nomatch z) fun tk ht => ⟨.bl b, H, I.tok _, rfl, q⟩)
end L2

namespace L3
open PySem L2
/-! ### values with their tuples inside; a heap of what can be changed -/
inductive Y where
  | non | bl (b : Bool) | int (i : Int) | str (x : Str) | ref (a : Addr) | ty (n : String) | cd (kvs : List (Str × Str)) | tup (ys : List Y) | sq (ys : List Y)
inductive LO where
  | lst (ys : List Y) | dct (kvs : List (Key × Y)) | ins (C : Addr) (fs : List (Str × Y)) | exc (C : Addr)
abbrev LHp := Addr → Option LO
def updL (L : LHp) (a : Addr) (o : LO) : LHp := fun b => if b = a then some o else L b
theorem updL_same {L : LHp} {a : Addr} {o : LO} : updL L a o a = some o := by unfold updL; rw [if_pos rfl]
theorem updL_ne {L : LHp} {a b : Addr} {o : LO} (h : b ≠ a) : updL L a o b = L b := by unfold updL; rw [if_neg h]
theorem updL_updL {L : LHp} {a : Addr} {o u : LO} : updL (updL L a o) a u = updL L a u := by
  funext b; unfold updL; split <;> rfl
theorem neL {L : LHp} {a b : Addr} {o : LO} (h : L a = some o) (h' : L b = none) : a ≠ b := by
  intro e; subst e; rw [h] at h'; cases h'
theorem neL' {L : LHp} {a b : Addr} {o u : LO} (h : L a = some o) (h' : L b = some u) (d : o ≠ u) : a ≠ b := by
  intro e; subst e; rw [h] at h'; exact d (Option.some.inj h')
structure G3 where
  K : PySem.W.Frag
  P : Program
  w : World
abbrev _root_.L2.Cx.g3 (X : Cx) : G3 := ⟨X.K, X.prog, X.w⟩
/-- a list that nobody changes: the script, a list of the top -/
def SqF (K : PySem.W.Frag) (H : Hp) (a : Addr) (xs : List V) : Prop := (∃ o, H a = some (.frz o (.lst xs))) ∨
  ∃ (o : Obj) (its : Array Value) (n : Nat), K.lookup a = some o ∧ o.cls = .type "list" ∧ o.dict = none ∧ o.data = .seq its n ∧ its.size ≤ sizeLine ∧ Vals xs its.toList
theorem SqF.sq {K : PySem.W.Frag} {H : Hp} {a : Addr} {xs : List V} (h : SqF K H a xs) : SqL K H a xs := by
  rcases h with ⟨o, h⟩ | h
  · exact .inl (.inr ⟨o, h⟩)
  · exact .inr h
mutual
def RV (G : G3) (H : Hp) : Y → V → Prop
  | .non, v => v = .non
  | .bl b, v => v = .bl b
  | .int i, v => v = .int i
  | .str x, v => v = .str x
  | .ref a, v => v = .ref a
  | .ty n, v => v = .ty n
  | .cd kvs, v => ∃ a, v = .ref a ∧ KD G.K G.P G.w a (kvs.map fun p => (Sum.inr p.1, V.str p.2))
  | .tup ys, v => ∃ a xs, v = .ref a ∧ SqT G.K H a xs ∧ RVs G H ys xs
  | .sq ys, v => ∃ a xs, v = .ref a ∧ SqF G.K H a xs ∧ RVs G H ys xs
def RVs (G : G3) (H : Hp) : List Y → List V → Prop
  | [], xs => xs = []
  | y :: ys, xs => ∃ x xs', xs = x :: xs' ∧ RV G H y x ∧ RVs G H ys xs'
end
/-- what never changes stays -/
def Imm : HO → Bool
  | .tup _ => true
  | .frz _ _ => true
  | _ => false
def TSt (H H' : Hp) : Prop := ∀ a u, Imm u = true → H a = some u → H' a = some u
theorem TSt.refl (H : Hp) : TSt H H := fun _ _ _ h => h
theorem TSt.trans {H H1 H2 : Hp} (a : TSt H H1) (b : TSt H1 H2) : TSt H H2 := fun c u i h => b c u i (a c u i h)
theorem TSt.new {H : Hp} {p : Addr} {o : HO} (h : H p = none) : TSt H (upd H p o) := fun _ _ _ q => by rw [upd_ne (ne_of_none q h)]; exact q
theorem TSt.lst {H : Hp} {p : Addr} {zs : List V} {o : HO} (h : H p = some (.lst zs)) : TSt H (upd H p o) := fun a u i q => by
  rw [upd_ne ?_]; exact q
  rintro rfl
  rw [h] at q; cases q; cases i
theorem SqT.ts {K : PySem.W.Frag} {H H' : Hp} {a : Addr} {xs : List V} (h : SqT K H a xs) (t : TSt H H') : SqT K H' a xs := by
  rcases h with (h | ⟨o, h⟩) | h
  · exact .inl (.inl (t _ _ rfl h))
  · exact .inl (.inr ⟨o, t _ _ rfl h⟩)
  · exact .inr h
theorem SqF.ts {K : PySem.W.Frag} {H H' : Hp} {a : Addr} {xs : List V} (h : SqF K H a xs) (t : TSt H H') : SqF K H' a xs := by
  rcases h with ⟨o, h⟩ | h
  · exact .inl ⟨o, t _ _ rfl h⟩
  · exact .inr h
mutual
theorem RV.ts {G : G3} {H H' : Hp} (t : TSt H H') : ∀ {y : Y} {v : V}, RV G H y v → RV G H' y v
  | .non, _, h => h
  | .bl _, _, h => h
  | .int _, _, h => h
  | .str _, _, h => h
  | .ref _, _, h => h
  | .ty _, _, h => h
  | .cd _, _, h => h
  | .tup _, _, ⟨a, xs, e, s, r⟩ => ⟨a, xs, e, SqT.ts s t, RVs.ts t r⟩
  | .sq _, _, ⟨a, xs, e, s, r⟩ => ⟨a, xs, e, s.ts t, RVs.ts t r⟩
theorem RVs.ts {G : G3} {H H' : Hp} (t : TSt H H') : ∀ {ys : List Y} {xs : List V}, RVs G H ys xs → RVs G H' ys xs
  | [], _, h => h
  | _ :: _, _, ⟨x, xs', e, r, s⟩ => ⟨x, xs', e, RV.ts t r, RVs.ts t s⟩
end
theorem RVs.length {G : G3} {H : Hp} : ∀ {ys : List Y} {xs : List V}, RVs G H ys xs → ys.length = xs.length
  | [], _, h => by cases h; rfl
  | _ :: _, _, ⟨x, xs', e, _, s⟩ => by subst e; simp [RVs.length s]
theorem RVs.get {G : G3} {H : Hp} : ∀ {ys : List Y} {xs : List V} {i : Nat} {y : Y}, RVs G H ys xs → ys[i]? = some y → ∃ x, xs[i]? = some x ∧ RV G H y x
  | [], _, _, _, _, h => by simp at h
  | _ :: _, _, 0, _, ⟨x, xs', e, r, _⟩, h => by subst e; simp at h; subst h; exact ⟨x, rfl, r⟩
  | _ :: _, _, i + 1, _, ⟨x, xs', e, _, s⟩, h => by
    subst e
    obtain ⟨x', q, r⟩ := RVs.get (i := i) s (by simpa using h)
    exact ⟨x', by simpa using q, r⟩
theorem RVs.app {G : G3} {H : Hp} : ∀ {ys zs : List Y} {xs us : List V}, RVs G H ys xs → RVs G H zs us → RVs G H (ys ++ zs) (xs ++ us)
  | [], _, _, _, h, q => by cases h; exact q
  | _ :: _, _, _, _, ⟨x, xs', e, r, s⟩, q => by subst e; exact ⟨x, xs' ++ _, rfl, r, RVs.app s q⟩
theorem RVs.one {G : G3} {H : Hp} {y : Y} {x : V} (r : RV G H y x) : RVs G H [y] [x] := ⟨x, [], rfl, r, rfl⟩
theorem RVs.take {G : G3} {H : Hp} : ∀ {ys : List Y} {xs : List V} (n : Nat), RVs G H ys xs → RVs G H (ys.take n) (xs.take n)
  | [], _, n, h => by cases h; simp [RVs]
  | _ :: _, _, 0, _ => by simp [RVs]
  | _ :: _, _, n + 1, ⟨x, xs', e, r, s⟩ => by subst e; exact ⟨x, xs'.take n, rfl, r, RVs.take n s⟩
theorem RVs.drop {G : G3} {H : Hp} : ∀ {ys : List Y} {xs : List V} (n : Nat), RVs G H ys xs → RVs G H (ys.drop n) (xs.drop n)
  | [], _, n, h => by cases h; simp [RVs]
  | _ :: _, _, 0, h => h
  | _ :: _, _, n + 1, ⟨x, xs', e, r, s⟩ => by subst e; exact RVs.drop n s
theorem RVs.setY {G : G3} {H : Hp} {y : Y} {x : V} (r : RV G H y x) : ∀ {ys : List Y} {xs : List V} (i : Nat), RVs G H ys xs → RVs G H (ys.set i y) (xs.set i x)
  | [], _, _, h => by cases h; simp [RVs]
  | _ :: _, _, 0, ⟨x', xs', e, _, s⟩ => by subst e; exact ⟨x, xs', rfl, r, s⟩
  | _ :: _, _, i + 1, ⟨x', xs', e, q, s⟩ => by subst e; exact ⟨x', xs'.set i x, rfl, q, RVs.setY r i s⟩
theorem RVs.dropLast {G : G3} {H : Hp} {ys : List Y} {xs : List V} (h : RVs G H ys xs) : RVs G H ys.dropLast xs.dropLast := by
  rw [List.dropLast_eq_take, List.dropLast_eq_take, h.length]; exact h.take _
/-- what stands in the heap -/
def RO (G : G3) (H : Hp) (a : Addr) : LO → Prop
  | .lst ys => ∃ xs, H a = some (.lst xs) ∧ RVs G H ys xs
  | .dct kvs => ∃ xs, H a = some (.dK xs) ∧ Paired (fun (p : Key × Y) (q : Key × V) => p.1 = q.1 ∧ RV G H p.2 q.2) kvs xs
  | .ins C fs => ∃ dx xs, H a = some (.ins C dx xs) ∧ Paired (fun (p : Str × Y) (q : Str × V) => p.1 = q.1 ∧ RV G H p.2 q.2) fs xs
  | .exc C => HeldX G.K H a C
def RelH (G : G3) (H : Hp) (L : LHp) : Prop := ∀ a o, L a = some o → RO G H a o
theorem RO.ex {G : G3} {H : Hp} {a : Addr} : ∀ {o : LO}, RO G H a o → ∃ u, H a = some u
  | .lst _, ⟨_, h, _⟩ => ⟨_, h⟩
  | .dct _, ⟨_, h, _⟩ => ⟨_, h⟩
  | .ins _ _, ⟨_, _, h, _⟩ => ⟨_, h⟩
  | .exc _, ⟨_, h, _⟩ => ⟨_, h⟩
theorem RelH.none {G : G3} {H : Hp} {L : LHp} (h : RelH G H L) {p : Addr} (hp : H p = none) : L p = none := by
  cases e : L p with
  | none => rfl
  | some o => obtain ⟨u, q⟩ := (h p o e).ex; rw [hp] at q; cases q
theorem RO.keep {G : G3} {H H' : Hp} (t : TSt H H') {a : Addr} (e : H' a = H a) : ∀ {o : LO}, RO G H a o → RO G H' a o
  | .lst _, ⟨xs, h, r⟩ => ⟨xs, e.trans h, r.ts t⟩
  | .dct _, ⟨xs, h, r⟩ => ⟨xs, e.trans h, Paired.mapP r fun _ _ ⟨a, b⟩ => ⟨a, b.ts t⟩⟩
  | .ins _ _, ⟨dx, xs, h, r⟩ => ⟨dx, xs, e.trans h, Paired.mapP r fun _ _ ⟨a, b⟩ => ⟨a, b.ts t⟩⟩
  | .exc _, ⟨o, h, c⟩ => ⟨o, e.trans h, c⟩
/-- a new thing that is not told -/
theorem RelH.skip {G : G3} {H : Hp} {L : LHp} (h : RelH G H L) {p : Addr} {o : HO} (hp : H p = .none) : RelH G (upd H p o) L := fun a u e => by
  obtain ⟨x, q⟩ := (h a u e).ex
  exact (h a u e).keep (TSt.new hp) (upd_ne (ne_of_none q hp))
/-- a new list -/
theorem RelH.newL {G : G3} {H : Hp} {L : LHp} (h : RelH G H L) {p : Addr} {ys : List Y} {xs : List V} (hp : H p = .none) (r : RVs G H ys xs) : RelH G (upd H p (.lst xs)) (updL L p (.lst ys)) := fun a u e => by
  by_cases c : a = p
  · subst c
    rw [updL_same] at e; cases e
    exact ⟨xs, upd_same, r.ts (TSt.new hp)⟩
  · rw [updL_ne c] at e
    exact (h a u e).keep (TSt.new hp) (upd_ne c)
/-- a list changed -/
theorem RelH.setL {G : G3} {H : Hp} {L : LHp} (h : RelH G H L) {p : Addr} {ys : List Y} {xs zs : List V} (hp : H p = some (.lst zs)) (r : RVs G H ys xs) : RelH G (upd H p (.lst xs)) (updL L p (.lst ys)) := fun a u e => by
  by_cases c : a = p
  · subst c
    rw [updL_same] at e; cases e
    exact ⟨xs, upd_same, r.ts (TSt.lst hp)⟩
  · rw [updL_ne c] at e
    exact (h a u e).keep (TSt.lst hp) (upd_ne c)
def LSub (L L' : LHp) : Prop := ∀ a o, L a = some o → L' a = some o
theorem LSub.refl (L : LHp) : LSub L L := fun _ _ h => h
theorem LSub.trans {L L1 L2 : LHp} (a : LSub L L1) (b : LSub L1 L2) : LSub L L2 := fun c o h => b c o (a c o h)
theorem LSub.new {L : LHp} {p : Addr} {o : LO} (h : L p = none) : LSub L (updL L p o) := fun a u e => by rw [updL_ne (neL e h)]; exact e
theorem RelH.sub {G : G3} {H : Hp} {L L' : LHp} (h : RelH G H L') (s : LSub L L') : RelH G H L := fun a o e => h a o (s a o e)
/-! ### frames -/
abbrev St3 := List (Option Y)
structure RelS (G : G3) (H : Hp) (σ : St) (τ : St3) : Prop where
  len : σ.length = τ.length
  get : ∀ (i : Nat) y, τ[i]? = some (some y) → ∃ v, σ[i]? = some (some v) ∧ RV G H y v
theorem RelS.ts {G : G3} {H H' : Hp} {σ : St} {τ : St3} (h : RelS G H σ τ) (t : TSt H H') : RelS G H' σ τ :=
  ⟨h.len, fun i y e => let ⟨v, a, b⟩ := h.get i y e; ⟨v, a, b.ts t⟩⟩
theorem RelS.set {G : G3} {H : Hp} {σ : St} {τ : St3} (h : RelS G H σ τ) {i : Nat} {v : V} {y : Y} (r : RV G H y v) : RelS G H (σ.set i (some v)) (τ.set i (some y)) := by
  refine ⟨by simp [h.len], fun j z e => ?_⟩
  by_cases c : i = j
  · subst c
    have hi : i < τ.length := by
      by_cases q : i < τ.length
      · exact q
      · rw [List.getElem?_eq_none (by simp; omega)] at e; cases e
    rw [List.getElem?_set_self hi] at e
    cases e
    exact ⟨v, List.getElem?_set_self (by rw [h.len]; exact hi), r⟩
  · rw [List.getElem?_set_ne c] at e ⊢
    exact h.get j z e
theorem RelS.more {G : G3} {H : Hp} {σ : St} {τ : St3} (h : RelS G H σ τ) (n : Nat) : RelS G H (σ ++ List.replicate n none) (τ ++ List.replicate n none) := by
  refine ⟨by simp [h.len], fun j z e => ?_⟩
  by_cases c : j < τ.length
  · rw [List.getElem?_append_left c] at e
    rw [List.getElem?_append_left (by rw [h.len]; exact c)]
    exact h.get j z e
  · rw [List.getElem?_append_right (by omega), List.getElem?_replicate] at e
    split at e <;> cases e
/-- what the reader knows of a slot may be forgotten -/
def get3 : St3 → Nat → Option Y
  | [], _ => none
  | o :: _, 0 => o
  | _ :: r, i + 1 => get3 r i
theorem get3_eq : ∀ (τ : St3) (i : Nat) {y : Y}, get3 τ i = some y → τ[i]? = some (some y)
  | [], _, _, h => by cases h
  | o :: _, 0, _, h => by simp [get3] at h; simp [h]
  | _ :: r, i + 1, _, h => by simp only [List.getElem?_cons_succ]; exact get3_eq r i h
/-! ### readings -/
abbrev YK := Y → LHp → Prop
abbrev TE3 := St3 → LHp → YK → Prop
abbrev TT3 := St3 → LHp → (Bool → LHp → Prop) → Prop
abbrev TA3 := St3 → LHp → (List Y → LHp → Prop) → Prop
structure Ends3 where
  nx : St3 → LHp → Prop
  rt : YK
  bk : St3 → LHp → Prop := fun _ _ => False
  ct : St3 → LHp → Prop := fun _ _ => False
abbrev TS3 := Ends3 → St3 → LHp → Prop
abbrev TG3 := Y → St3 → LHp → (St3 → LHp → Prop) → Prop
abbrev TI3 := St3 → LHp → (List Y → (LHp → Prop) → LHp → Prop) → Prop
abbrev R23 := Y → Y → LHp → YK → Prop
/-- behind a step -/
def Aft (G : G3) (H : Hp) (Q3 : YK) (Q : VK) : Prop := ∀ v H' y L', TSt H H' → RelH G H' L' → RV G H' y v → Q3 y L' → Q v H'
def AftB (G : G3) (H : Hp) (Q3 : Bool → LHp → Prop) (Q : Bool → Hp → Prop) : Prop := ∀ b H' L', TSt H H' → RelH G H' L' → Q3 b L' → Q b H'
def AftA (G : G3) (H : Hp) (Q3 : List Y → LHp → Prop) (Q : List V → Hp → Prop) : Prop := ∀ vs H' ys L', TSt H H' → RelH G H' L' → RVs G H' ys vs → Q3 ys L' → Q vs H'
def AftS (G : G3) (H : Hp) (Q3 : St3 → LHp → Prop) (Q : St → Hp → Prop) : Prop := ∀ σ H' τ L', TSt H H' → RelS G H' σ τ → RelH G H' L' → Q3 τ L' → Q σ H'
theorem Aft.ts {G : G3} {H H' : Hp} {Q3 : YK} {Q : VK} (h : Aft G H Q3 Q) (t : TSt H H') : Aft G H' Q3 Q := fun v H2 y L' t2 => h v H2 y L' (t.trans t2)
theorem AftB.ts {G : G3} {H H' : Hp} {Q3 : Bool → LHp → Prop} {Q : Bool → Hp → Prop} (h : AftB G H Q3 Q) (t : TSt H H') : AftB G H' Q3 Q := fun v H2 L' t2 => h v H2 L' (t.trans t2)
theorem AftS.ts {G : G3} {H H' : Hp} {Q3 : St3 → LHp → Prop} {Q : St → Hp → Prop} (h : AftS G H Q3 Q) (t : TSt H H') : AftS G H' Q3 Q := fun v H2 y L' t2 => h v H2 y L' (t.trans t2)
structure AftD (G : G3) (H : Hp) (D3 : Ends3) (D : Ends) : Prop where
  nx : AftS G H D3.nx D.nx
  rt : Aft G H D3.rt D.rt
  bk : AftS G H D3.bk D.bk
  ct : AftS G H D3.ct D.ct
theorem AftD.ts {G : G3} {H H' : Hp} {D3 : Ends3} {D : Ends} (h : AftD G H D3 D) (t : TSt H H') : AftD G H' D3 D := ⟨h.nx.ts t, h.rt.ts t, h.bk.ts t, h.ct.ts t⟩
def upE (G : G3) (t : TE3) : TE := fun σ H Q => ∃ τ L Q3, RelS G H σ τ ∧ RelH G H L ∧ t τ L Q3 ∧ Aft G H Q3 Q
def upT (G : G3) (t : TT3) : TT := fun σ H Q => ∃ τ L Q3, RelS G H σ τ ∧ RelH G H L ∧ t τ L Q3 ∧ AftB G H Q3 Q
def upA (G : G3) (t : TA3) : TA := fun σ H Q => ∃ τ L Q3, RelS G H σ τ ∧ RelH G H L ∧ t τ L Q3 ∧ AftA G H Q3 Q
def upS (G : G3) (t : TS3) : L2.TS := fun D σ H => ∃ τ L D3, RelS G H σ τ ∧ RelH G H L ∧ t D3 τ L ∧ AftD G H D3 D
def upG (G : G3) (g : TG3) : TG := fun v σ H Q => ∃ y τ L Q3, RV G H y v ∧ RelS G H σ τ ∧ RelH G H L ∧ g y τ L Q3 ∧ AftS G H Q3 Q
/-- what an iterator yields, one by one, as long as keep holds -/
structure Yields (G : G3) (H₀ : Hp) (J : It) (ys : List Y) (keep : LHp → Prop) : Prop where
  go : ∀ i H L, TSt H₀ H → RelH G H L → keep L → i < ys.length → J.go i H
  yld : ∀ i H L x H' y, TSt H₀ H → RelH G H L → keep L → ys[i]? = some y → J.yld i H x H' → TSt H H' ∧ RelH G H' L ∧ RV G H' y x
  stop : ∀ H L, TSt H₀ H → RelH G H L → keep L → J.stop ys.length H
def upI (G : G3) (wi : TI3) : TI := fun σ H R => ∃ τ L R3, RelS G H σ τ ∧ RelH G H L ∧ wi τ L R3 ∧ ∀ J H' ys keep L', TSt H H' → RelH G H' L' → Yields G H' J ys keep → R3 ys keep L' → R J H'
def upR (G : G3) (r3 : R23) : R2 := fun x y H Q => ∃ x3 y3 L Q3, RV G H x3 x ∧ RV G H y3 y ∧ RelH G H L ∧ r3 x3 y3 L Q3 ∧ Aft G H Q3 Q
def upL (G : G3) (r3 : List Y → LHp → YK → Prop) : List V → Hp → VK → Prop := fun xs H Q => ∃ ys L Q3, RVs G H ys xs ∧ RelH G H L ∧ r3 ys L Q3 ∧ Aft G H Q3 Q
def upU (G : G3) (r3 : Y → LHp → YK → Prop) : V → Hp → VK → Prop := fun x H Q => ∃ y L Q3, RV G H y x ∧ RelH G H L ∧ r3 y L Q3 ∧ Aft G H Q3 Q
theorem PE.imp {X : Cx} {e : Expr} {t u : TE} (h : PE X e t) (q : ∀ σ H Q, u σ H Q → t σ H Q) : PE X e u := fun pins s σ H Q I z => h pins s σ H Q I (q σ H Q z)
theorem PT.imp {X : Cx} {e : Expr} {t u : TT} (h : PT X e t) (q : ∀ σ H Q, u σ H Q → t σ H Q) : PT X e u := fun pins s σ H Q I z => h pins s σ H Q I (q σ H Q z)
theorem PW.imp {X : Cx} {e : Expr} {t u : TT} (h : PW X e t) (q : ∀ σ H Q, u σ H Q → t σ H Q) : PW X e u := fun wh pins s σ H Q I z => h wh pins s σ H Q I (q σ H Q z)
theorem PA.imp {X : Cx} {e : List Expr} {t u : TA} (h : PA X e t) (q : ∀ σ H Q, u σ H Q → t σ H Q) : PA X e u := fun pos pins s σ H Q I z => h pos pins s σ H Q I (q σ H Q z)
theorem PS.imp {X : Cx} {e : Stmt} {t u : L2.TS} (h : PS X e t) (q : ∀ D σ H, u D σ H → t D σ H) : PS X e u := fun pins s σ H Q I z => h pins s σ H Q I (q _ σ H z)
theorem PSs.imp {X : Cx} {e : List Stmt} {t u : L2.TS} (h : PSs X e t) (q : ∀ D σ H, u D σ H → t D σ H) : PSs X e u := fun pins s σ H Q I z => h pins s σ H Q I (q _ σ H z)
theorem PF.imp {X : Cx} {e : List Expr} {t u : TT} (h : PF X e t) (q : ∀ σ H Q, u σ H Q → t σ H Q) : PF X e u := fun pins s σ H Q I z => h pins s σ H Q I (q σ H Q z)
end L3

namespace L3
open PySem L2
/-! ### the readings -/
def yite (b : Bool) (A B : Prop) : Prop := match b with
  | true => A
  | false => B
theorem yite_T {b : Bool} {A B : Prop} (e : b = true) (h : A) : yite b A B := by rw [e]; exact h
theorem yite_F {b : Bool} {A B : Prop} (e : b = false) (h : B) : yite b A B := by rw [e]; exact h
theorem yite_dec {p : Prop} [Decidable p] {A B : Prop} (h : p → A) (k : ¬p → B) : yite (decide p) A B := by
  by_cases c : p
  · rw [decide_eq_true c]; exact h c
  · rw [decide_eq_false c]; exact k c
/-- turned or not -/
def nb (neg b : Bool) : Bool := match neg with
  | true => !b
  | false => b
def yVar (i : Nat) (τ : St3) (L : LHp) (Q : YK) : Prop := match get3 τ i with
  | some y => Q y L
  | none => False
def yC (y : Y) (_ : St3) (L : LHp) (Q : YK) : Prop := Q y L
def yOp (r : R23) (ta tb : TE3) (τ : St3) (L : LHp) (Q : YK) : Prop := ta τ L fun x L1 => tb τ L1 fun y L2 => r x y L2 Q
def yUn (r : Y → LHp → YK → Prop) (ta : TE3) (τ : St3) (L : LHp) (Q : YK) : Prop := ta τ L fun x L1 => r x L1 Q
def yI (C : Int → Int → Prop) (g : Int → Int → Y) (x y : Y) (L : LHp) (Q : YK) : Prop := match x, y with
  | .int i, .int j => C i j ∧ Q (g i j) L
  | _, _ => False
def yI0 (g : Int → Int → Y) (x y : Y) (L : LHp) (Q : YK) : Prop := match x, y with
  | .int i, .int j => Q (g i j) L
  | _, _ => False
def yNeg (x : Y) (L : LHp) (Q : YK) : Prop := match x with
  | .int i => Q (.int (-i)) L
  | _ => False
/-- the items of a list or a tuple -/
def seqOf (L : LHp) : Y → Option (List Y)
  | .tup ys => some ys
  | .sq ys => some ys
  | .ref a => match L a with
    | some (.lst ys) => some ys
    | _ => none
  | _ => none
@[irreducible] def lstK (L : LHp) (a : Addr) (k : List Y → Prop) : Prop := match L a with
  | some (.lst ys) => k ys
  | _ => False
theorem lstK_inv {L : LHp} {a : Addr} {k : List Y → Prop} (h : lstK L a k) : ∃ ys, L a = some (.lst ys) ∧ k ys := by
  unfold lstK at h
  split at h
  · rename_i ys e; exact ⟨ys, e, h⟩
  · exact h.elim
theorem lstK_of {L : LHp} {a : Addr} {k : List Y → Prop} {ys : List Y} (e : L a = some (.lst ys)) (h : k ys) : lstK L a k := by
  unfold lstK; rw [e]; exact h
def seqK (L : LHp) (x : Y) (k : List Y → Prop) : Prop := match x with
  | .tup ys => k ys
  | .sq ys => k ys
  | .ref a => lstK L a k
  | _ => False
theorem seqOf_lst {L : LHp} {a : Addr} {ys : List Y} (h : L a = some (.lst ys)) : seqOf L (.ref a) = some ys := by
  show (match L a with | some (.lst ys) => some ys | _ => none) = some ys
  rw [h]
theorem seqK_inv {L : LHp} {x : Y} {k : List Y → Prop} (h : seqK L x k) : ∃ ys, seqOf L x = some ys ∧ k ys := by
  cases x with
  | tup ys => exact ⟨ys, rfl, h⟩
  | sq ys => exact ⟨ys, rfl, h⟩
  | ref a => obtain ⟨ys, e, q⟩ := lstK_inv h; exact ⟨ys, seqOf_lst e, q⟩
  | _ => exact h.elim
theorem seqOf_inv {L : LHp} {a : Addr} {ys : List Y} (h : seqOf L (.ref a) = some ys) : L a = some (.lst ys) := by
  have h' : (match L a with | some (.lst ys) => some ys | _ => none) = some ys := h
  split at h'
  · rename_i e; cases h'; exact e
  · cases h'
theorem seqK_of {L : LHp} {x : Y} {k : List Y → Prop} {ys : List Y} (e : seqOf L x = some ys) (h : k ys) : seqK L x k := by
  cases x with
  | tup zs => cases e; exact h
  | sq zs => cases e; exact h
  | ref a => exact lstK_of (seqOf_inv e) h
  | _ => cases e
theorem seqL_of {L : LHp} {a : Addr} {k : List Y → Prop} {ys : List Y} (e : L a = some (.lst ys)) (h : k ys) : seqK L (.ref a) k := seqK_of (seqOf_lst e) h
def yAdd (x y : Y) (L : LHp) (Q : YK) : Prop := match x, y with
  | .int i, .int j => Q (.int (i + j)) L
  | .str a, .str b => a.length + b.length ≤ sizeLine ∧ Q (.str (a ++ b)) L
  | .ref a, .ref b => ∃ ys zs, L a = some (.lst ys) ∧ L b = some (.lst zs) ∧ ys.length + zs.length ≤ sizeLine ∧ ∀ p, L p = none → Q (.ref p) (updL L p (.lst (ys ++ zs)))
  | _, _ => False
def atK {α : Type} (L : LHp) (Q : α → LHp → Prop) : Option α → Prop
  | some v => Q v L
  | none => False
def valY (kvs : List (Key × Y)) (k : Key) : Option Y := (kvs.find? fun p => decide (p.1 = k)).map (·.2)
@[irreducible] def dctK (L : LHp) (a : Addr) (k : List (Key × Y) → Prop) : Prop := match L a with
  | some (.dct kvs) => k kvs
  | _ => False
theorem dctK_inv {L : LHp} {a : Addr} {k : List (Key × Y) → Prop} (h : dctK L a k) : ∃ kvs, L a = some (.dct kvs) ∧ k kvs := by
  unfold dctK at h
  split at h
  · rename_i ys e; exact ⟨ys, e, h⟩
  · exact h.elim
def yIx (x y : Y) (L : LHp) (Q : YK) : Prop := match x, y with
  | .str z, .int i => z.length ≤ sizeLine ∧ atK L (fun c L => Q (.str ⟨#[c]⟩) L) (atI z.cps.toList i)
  | .cd kvs, .str k => atK L (fun s L => Q (.str s) L) (kvs.lookup k)
  | .ref a, .str k => dctK L a fun kvs => atK L Q (valY kvs (.inr k))
  | x, .int i => seqK L x fun ys => atK L Q (atI ys i)
  | _, _ => False
def yLen (xs : List Y) (L : LHp) (Q : YK) : Prop := match xs with
  | [.str z] => z.length ≤ sizeLine ∧ Q (.int z.length) L
  | [x] => seqK L x fun ys => Q (.int ys.length) L
  | _ => False
/-- isinstance: the type of a value; bool is an int -/
inductive Ty3 where
  | non | bool | int | str | tuple | list | dict
def Ty3.nm : Ty3 → String
  | .non => "NoneType"
  | .bool => "bool"
  | .int => "int"
  | .str => "str"
  | .tuple => "tuple"
  | .list => "list"
  | .dict => "dict"
def tyY (L : LHp) : Y → Option Ty3
  | .non => some .non
  | .bl _ => some .bool
  | .int _ => some .int
  | .str _ => some .str
  | .tup _ => some .tuple
  | .sq _ => some .list
  | .ref a => match L a with
    | some (.lst _) => some .list
    | some (.dct _) => some .dict
    | _ => none
  | _ => none
theorem tyL {L : LHp} {a : Addr} {ys : List Y} (h : L a = some (.lst ys)) : tyY L (.ref a) = some .list := by
  show (match L a with | some (.lst _) => some Ty3.list | some (.dct _) => some .dict | _ => none) = some .list
  rw [h]
def instB : Ty3 → Ty3 → Bool
  | .bool, .int => true
  | .bool, .bool => true
  | .int, .int => true
  | .str, .str => true
  | .tuple, .tuple => true
  | .list, .list => true
  | .dict, .dict => true
  | .non, .non => true
  | _, _ => false
@[irreducible] def tyK (L : LHp) (a : Addr) (k : Ty3 → Prop) : Prop := match tyY L (.ref a) with
  | some T => k T
  | none => False
theorem tyK_inv {L : LHp} {a : Addr} {k : Ty3 → Prop} (h : tyK L a k) : ∃ T, tyY L (.ref a) = some T ∧ k T := by
  unfold tyK at h
  split at h
  · rename_i T e; exact ⟨T, e, h⟩
  · exact h.elim
theorem tyK_lst {L : LHp} {a : Addr} {ys : List Y} {k : Ty3 → Prop} (e : L a = some (.lst ys)) (h : k .list) : tyK L a k := by unfold tyK; rw [tyL e]; exact h
def tyKY (L : LHp) (x : Y) (k : Ty3 → Prop) : Prop := match x with
  | .non => k .non
  | .bl _ => k .bool
  | .int _ => k .int
  | .str _ => k .str
  | .tup _ => k .tuple
  | .sq _ => k .list
  | .ref a => tyK L a k
  | _ => False
theorem tyKY_inv {L : LHp} {x : Y} {k : Ty3 → Prop} (h : tyKY L x k) : ∃ T, tyY L x = some T ∧ k T := by
  cases x with
  | ref a => exact tyK_inv h
  | ty n => exact h.elim
  | cd k => exact h.elim
  | _ => exact ⟨_, rfl, h⟩
def yInst (S : Ty3) (te : TE3) (τ : St3) (L : LHp) (Q : YK) : Prop := te τ L fun x L1 => tyKY L1 x fun T => Q (.bl (instB T S)) L1
/-! flat values -/
def flatY : Y → Bool
  | .non => true
  | .bl _ => true
  | .int _ => true
  | .str _ => true
  | _ => false
def toV : Y → V
  | .non => .non
  | .bl b => .bl b
  | .int i => .int i
  | .str x => .str x
  | _ => .ty "?"
theorem RV.flat {G : G3} {H : Hp} : ∀ {y : Y} {v : V}, flatY y = true → RV G H y v → v = toV y
  | .non, _, _, h => h
  | .bl _, _, _, h => h
  | .int _, _, _, h => h
  | .str _, _, _, h => h
theorem toV_flat : ∀ {y : Y}, flatY y = true → flatV (toV y) = true
  | .non, _ => rfl
  | .bl _, _ => rfl
  | .int _, _ => rfl
  | .str _, _ => rfl
theorem RVs.flat {G : G3} {H : Hp} : ∀ {ys : List Y} {xs : List V}, ys.all flatY = true → RVs G H ys xs → xs = ys.map toV
  | [], _, _, h => h
  | y :: ys, _, f, ⟨x, xs', e, r, s⟩ => by
    rw [List.all_cons, Bool.and_eq_true] at f
    rw [e, r.flat f.1, s.flat f.2]; rfl
def listY : Y → Bool
  | .ref _ => true
  | .sq _ => true
  | _ => false
def DatN (L : LHp) : Nat → Y → Da → Prop
  | 0, y, d => flatY y = true ∧ d = .s (toV y)
  | n + 1, y, d => (flatY y = true ∧ d = .s (toV y)) ∨ (∃ ys ds, y = .tup ys ∧ d = .tup ds ∧ Paired (DatN L n) ys ds) ∨ (∃ ys ds, listY y = true ∧ d = .lst ds ∧ seqOf L y = some ys ∧ Paired (DatN L n) ys ds)
def refY : Y → Bool
  | .ref _ => true
  | .tup _ => true
  | .sq _ => true
  | _ => false
def yEq (neg : Bool) (x y : Y) (L : LHp) (Q : YK) : Prop := match x, y with
  | .int i, .int j => Q (.bl (nb neg (decide (i = j)))) L
  | .str i, .str j => Q (.bl (nb neg (decide (i = j)))) L
  | .bl i, .bl j => Q (.bl (nb neg (decide (i = j)))) L
  | x, y => refY x = true ∧ refY y = true ∧ ∃ n m d e, n ≤ 128 ∧ DatN L n x d ∧ DatN L m y e ∧ Q (.bl (nb neg (Da.eq d e))) L
def yB (t : TE3) (τ : St3) (L : LHp) (Q : Bool → LHp → Prop) : Prop := t τ L fun x L1 => match x with
  | .bl c => Q c L1
  | _ => False
def yAnd (t u : TT3) (τ : St3) (L : LHp) (Q : Bool → LHp → Prop) : Prop := t τ L fun c L1 => yite c (u τ L1 Q) (Q false L1)
def yOr (t u : TT3) (τ : St3) (L : LHp) (Q : Bool → LHp → Prop) : Prop := t τ L fun c L1 => yite c (Q true L1) (u τ L1 Q)
def yNot (t : TT3) (τ : St3) (L : LHp) (Q : Bool → LHp → Prop) : Prop := t τ L fun c L1 => Q (!c) L1
def yAndV (ta tb : TE3) (τ : St3) (L : LHp) (Q : YK) : Prop := ta τ L fun x L1 => match x with
  | .bl c => yite c (tb τ L1 Q) (Q (.bl false) L1)
  | _ => False
def yNotV (ta : TE3) (τ : St3) (L : LHp) (Q : YK) : Prop := ta τ L fun x L1 => match x with
  | .bl c => Q (.bl (!c)) L1
  | _ => False
def yIf (t : TT3) (ta tb : TE3) (τ : St3) (L : LHp) (Q : YK) : Prop := t τ L fun c L1 => yite c (ta τ L1 Q) (tb τ L1 Q)
def yNil (_ : St3) (L : LHp) (Q : List Y → LHp → Prop) : Prop := Q [] L
def yCons (ta : TE3) (tr : TA3) (τ : St3) (L : LHp) (Q : List Y → LHp → Prop) : Prop := ta τ L fun x L1 => tr τ L1 fun xs L2 => Q (x :: xs) L2
def yTup (t : TA3) (τ : St3) (L : LHp) (Q : YK) : Prop := t τ L fun ys L1 => match Nat.ble ys.length 1000 with
  | true => Q (.tup ys) L1
  | false => False
def yLst (t : TA3) (τ : St3) (L : LHp) (Q : YK) : Prop := t τ L fun ys L1 => match Nat.ble ys.length 1000 with
  | true => ∀ p, L1 p = none → Q (.ref p) (updL L1 p (.lst ys))
  | false => False
def yCB (r : List Y → LHp → YK → Prop) (t : TA3) (τ : St3) (L : LHp) (Q : YK) : Prop := t τ L fun vs L1 => r vs L1 Q
/-- a slice's end -/
abbrev TO3 := St3 → LHp → (Option Int → LHp → Prop) → Prop
def yNoPart (_ : St3) (L : LHp) (Q : Option Int → LHp → Prop) : Prop := Q none L
def yPart (t : TE3) (τ : St3) (L : LHp) (Q : Option Int → LHp → Prop) : Prop := t τ L fun x L1 => match x with
  | .int i => Q (some i) L1
  | _ => False
def cutY (xs : List Y) (lo hi : Option Int) : List Y := (xs.drop (HT.sIx xs.length 0 lo)).take (HT.sIx xs.length xs.length hi - HT.sIx xs.length 0 lo)
def ySlL (x : Y) (lo hi : Option Int) (L : LHp) (Q : YK) : Prop := match x with
  | .ref a => lstK L a fun ys => ∀ p, L p = none → Q (.ref p) (updL L p (.lst (cutY ys lo hi)))
  | .sq ys => ∀ p, L p = none → Q (.ref p) (updL L p (.lst (cutY ys lo hi)))
  | _ => False
def ySl (r : Y → Option Int → Option Int → LHp → YK → Prop) (te : TE3) (tl th : TO3) (τ : St3) (L : LHp) (Q : YK) : Prop := te τ L fun x L1 => tl τ L1 fun l L2 => th τ L2 fun u L3 => r x l u L3 Q
/-! statements -/
def ySeq (t u : TS3) (D : Ends3) (τ : St3) (L : LHp) : Prop := t { D with nx := u D } τ L
def yNext (D : Ends3) (τ : St3) (L : LHp) : Prop := D.nx τ L
def yDrop (te : TE3) (D : Ends3) (τ : St3) (L : LHp) : Prop := te τ L fun _ L1 => D.nx τ L1
def yRet (te : TE3) (D : Ends3) (τ : St3) (L : LHp) : Prop := te τ L D.rt
def yIfS (c : TT3) (t u : TS3) (D : Ends3) (τ : St3) (L : LHp) : Prop := c τ L fun b L1 => yite b (t D τ L1) (u D τ L1)
def yAsg (te : TE3) (g : TG3) (D : Ends3) (τ : St3) (L : LHp) : Prop := te τ L fun x L1 => g x τ L1 D.nx
def set3 : St3 → Nat → Y → St3
  | [], _, _ => []
  | _ :: r, 0, y => some y :: r
  | o :: r, i + 1, y => o :: set3 r i y
theorem set3_eq : ∀ (τ : St3) (i : Nat) (y : Y), set3 τ i y = τ.set i (some y)
  | [], _, _ => rfl
  | _ :: _, 0, _ => rfl
  | o :: r, i + 1, y => by rw [set3, set3_eq r i y]; rfl
def gyName (i : Nat) (y : Y) (τ : St3) (L : LHp) (Q : St3 → LHp → Prop) : Prop := Q (set3 τ i y) L
/-- what is of no use behind a turn may be forgotten -/
def Frg {α : Type} (W : α → LHp → Prop) (x : α) (L : LHp) : Prop := ∃ L', LSub L' L ∧ W x L'
theorem frg {α : Type} {W : α → LHp → Prop} {x : α} {L : LHp} (h : W x L) : Frg W x L := ⟨L, LSub.refl L, h⟩
theorem frgS {α : Type} {W : α → LHp → Prop} {x : α} {L L' : LHp} (s : LSub L' L) (h : W x L') : Frg W x L := ⟨L', s, h⟩
def yWhile (c : TT3) (tb : TS3) (D : Ends3) (τ : St3) (L : LHp) : Prop := ∃ W : Nat → St3 → LHp → Prop, (∃ m, W m τ L) ∧ ∀ m τ L, W m τ L →
  c τ L fun b L1 => yite b (∃ N : St3 → LHp → Prop, (∀ τ' L', N τ' L' → ∃ m', m' < m ∧ W m' τ' L') ∧ tb { D with nx := Frg N, ct := Frg N, bk := D.nx } τ L1) (D.nx τ L1)
/-- a for over these items -/
@[irreducible] def forK (ys : List Y) (keep : LHp → Prop) (g : TG3) (tb : TS3) (D : Ends3) (τ : St3) (L1 : LHp) : Prop := ∃ W : Nat → St3 → LHp → Prop, W 0 τ L1 ∧ (∀ i τ L, W i τ L → keep L) ∧
  (∀ i y τ L, ys[i]? = some y → W i τ L → g y τ L fun τ2 L2 => tb { D with nx := Frg (W (i + 1)), ct := Frg (W (i + 1)), bk := D.nx } τ2 L2) ∧ ∀ τ L, W ys.length τ L → D.nx τ L
theorem forK_mk {ys : List Y} {keep : LHp → Prop} {g : TG3} {tb : TS3} {D : Ends3} {τ : St3} {L1 : LHp} (h : ∃ W : Nat → St3 → LHp → Prop, W 0 τ L1 ∧ (∀ i τ L, W i τ L → keep L) ∧
  (∀ i y τ L, ys[i]? = some y → W i τ L → g y τ L fun τ2 L2 => tb { D with nx := Frg (W (i + 1)), ct := Frg (W (i + 1)), bk := D.nx } τ2 L2) ∧ ∀ τ L, W ys.length τ L → D.nx τ L) : forK ys keep g tb D τ L1 := by unfold forK; exact h
theorem forK_inv {ys : List Y} {keep : LHp → Prop} {g : TG3} {tb : TS3} {D : Ends3} {τ : St3} {L1 : LHp} (h : forK ys keep g tb D τ L1) : ∃ W : Nat → St3 → LHp → Prop, W 0 τ L1 ∧ (∀ i τ L, W i τ L → keep L) ∧
  (∀ i y τ L, ys[i]? = some y → W i τ L → g y τ L fun τ2 L2 => tb { D with nx := Frg (W (i + 1)), ct := Frg (W (i + 1)), bk := D.nx } τ2 L2) ∧ ∀ τ L, W ys.length τ L → D.nx τ L := by unfold forK at h; exact h
def yFor (wi : TI3) (g : TG3) (tb : TS3) (D : Ends3) (τ : St3) (L : LHp) : Prop := wi τ L fun ys keep L1 => forK ys keep g tb D τ L1
@[irreducible] def lisK (L : LHp) (a : Addr) (R : List Y → (LHp → Prop) → LHp → Prop) : Prop := match L a with
  | some (.lst ys) => R ys (fun L => L a = some (.lst ys)) L
  | _ => False
theorem lisK_of {L : LHp} {a : Addr} {R : List Y → (LHp → Prop) → LHp → Prop} {ys : List Y} (h : L a = some (.lst ys)) (q : ∀ keep : LHp → Prop, (∀ L', L' a = L a → keep L') → R ys keep L) : lisK L a R := by
  unfold lisK
  rw [h]
  exact q _ fun L' e' => e'.trans h
theorem lisK_inv {L : LHp} {a : Addr} {R : List Y → (LHp → Prop) → LHp → Prop} (h : lisK L a R) : ∃ ys keep, seqOf L (.ref a) = some ys ∧ keep L ∧ (∀ L', keep L' → seqOf L' (.ref a) = some ys) ∧ R ys keep L := by
  unfold lisK at h
  split at h
  · rename_i ys e; exact ⟨ys, _, seqOf_lst e, e, fun L' e' => seqOf_lst e', h⟩
  · exact h.elim
def iyList (tl : TE3) (τ : St3) (L : LHp) (R : List Y → (LHp → Prop) → LHp → Prop) : Prop := tl τ L fun x L1 => match x with
  | .ref a => lisK L1 a R
  | .sq ys => R ys (fun _ => True) L1
  | _ => False
def intsY (lo : Int) (n : Nat) : List Y := (List.range n).map fun k => .int (lo + (k : Nat))
def iyRng1 (ta : TA3) (τ : St3) (L : LHp) (R : List Y → (LHp → Prop) → LHp → Prop) : Prop := ta τ L fun vs L1 => match vs with
  | [.int j] => (-(2 ^ 62) ≤ j ∧ j < 2 ^ 62) ∧ R (intsY 0 j.toNat) (fun _ => True) L1
  | _ => False
def yYes (_ : St3) (L : LHp) (Q : Bool → LHp → Prop) : Prop := Q true L
@[irreducible] def lcK (ys : List Y) (keep : LHp → Prop) (n : Nat) (g : TG3) (tc : TT3) (te : TE3) (τ : St3) (L1 : LHp) (Q : YK) : Prop := ys.length < sizeLine ∧ ∃ W : Nat → List Y → LHp → Prop, W 0 [] L1 ∧ (∀ i zs L, W i zs L → keep L) ∧
  (∀ i y zs L, ys[i]? = some y → W i zs L → g y (τ ++ List.replicate n none) L fun τ2 L2 => tc τ2 L2 fun b L3 => yite b (te τ2 L3 fun z L4 => Frg (W (i + 1)) (zs ++ [z]) L4) (Frg (W (i + 1)) zs L3)) ∧
  ∀ zs L, W ys.length zs L → ∀ p, L p = none → Q (.ref p) (updL L p (.lst zs))
theorem lcK_mk {ys : List Y} {keep : LHp → Prop} {n : Nat} {g : TG3} {tc : TT3} {te : TE3} {τ : St3} {L1 : LHp} {Q : YK} (h : ys.length < sizeLine ∧ ∃ W : Nat → List Y → LHp → Prop, W 0 [] L1 ∧ (∀ i zs L, W i zs L → keep L) ∧
  (∀ i y zs L, ys[i]? = some y → W i zs L → g y (τ ++ List.replicate n none) L fun τ2 L2 => tc τ2 L2 fun b L3 => yite b (te τ2 L3 fun z L4 => Frg (W (i + 1)) (zs ++ [z]) L4) (Frg (W (i + 1)) zs L3)) ∧
  ∀ zs L, W ys.length zs L → ∀ p, L p = none → Q (.ref p) (updL L p (.lst zs))) : lcK ys keep n g tc te τ L1 Q := by unfold lcK; exact h
theorem lcK_inv {ys : List Y} {keep : LHp → Prop} {n : Nat} {g : TG3} {tc : TT3} {te : TE3} {τ : St3} {L1 : LHp} {Q : YK} (h : lcK ys keep n g tc te τ L1 Q) : ys.length < sizeLine ∧ ∃ W : Nat → List Y → LHp → Prop, W 0 [] L1 ∧ (∀ i zs L, W i zs L → keep L) ∧
  (∀ i y zs L, ys[i]? = some y → W i zs L → g y (τ ++ List.replicate n none) L fun τ2 L2 => tc τ2 L2 fun b L3 => yite b (te τ2 L3 fun z L4 => Frg (W (i + 1)) (zs ++ [z]) L4) (Frg (W (i + 1)) zs L3)) ∧
  ∀ zs L, W ys.length zs L → ∀ p, L p = none → Q (.ref p) (updL L p (.lst zs)) := by unfold lcK at h; exact h
def yLC (n : Nat) (wi : TI3) (g : TG3) (tc : TT3) (te : TE3) (τ : St3) (L : LHp) (Q : YK) : Prop := wi τ L fun ys keep L1 => lcK ys keep n g tc te τ L1 Q
abbrev Sp3 := List Y → LHp → YK → Prop
def yCall (sp : Sp3) (t : TA3) (τ : St3) (L : LHp) (Q : YK) : Prop := t τ L fun ys L1 => sp ys L1 Q
/-- methods of lists -/
def yAppend (x : Y) (vs : List Y) (L : LHp) (Q : YK) : Prop := match x, vs with
  | .ref a, [v] => lstK L a fun ys => ys.length < sizeLine ∧ Q .non (updL L a (.lst (ys ++ [v])))
  | _, _ => False
def yPop (x : Y) (vs : List Y) (L : LHp) (Q : YK) : Prop := match x, vs with
  | .ref a, [] => lstK L a fun ys => atK L (fun v L => Q v (updL L a (.lst ys.dropLast))) (ys[ys.length - 1]?)
  | _, _ => False
end L3

namespace L3
open PySem L2
section
variable {G : G3} {H : Hp} {L : LHp}
theorem OpR.imp {X : Cx} {f : Value → Value → Sem Value} {r r' : R2} (h : OpR X f r) (q : ∀ x y H Q, r' x y H Q → r x y H Q) : OpR X f r' := fun pins s σ H x y v u Q I rx ry z => h pins s σ H x y v u Q I rx ry (q x y H Q z)
theorem UnR.imp {X : Cx} {f : Value → Sem Value} {r r' : V → Hp → VK → Prop} (h : UnR X f r) (q : ∀ x H Q, r' x H Q → r x H Q) : UnR X f r' := fun pins s σ H x v Q I rx z => h pins s σ H x v Q I rx (q x H Q z)
theorem CallR.imp {X : Cx} {f : Value} {r r' : List V → Hp → VK → Prop} (h : CallR X f r) (q : ∀ x H Q, r' x H Q → r x H Q) : CallR X f r' := fun pins s σ H x v Q I rx z => h pins s σ H x v Q I rx (q x H Q z)
theorem IxR.imp {X : Cx} {r r' : R2} (h : IxR X r) (q : ∀ x y H Q, r' x y H Q → r x y H Q) : IxR X r' := fun value slice pins s σ H x y v u Q I rx ry z => h value slice pins s σ H x y v u Q I rx ry (q x y H Q z)
theorem MtM.imp {X : Cx} {id : String} {r r' : V → List V → Hp → VK → Prop} (h : MtM X id r) (q : ∀ x xs H Q, r' x xs H Q → r x xs H Q) : MtM X id r' := fun pins s σ H x xs v us Q I rx ry z => h pins s σ H x xs v us Q I rx ry (q x xs H Q z)
/-- a sequence, as the layer reads it -/
theorem seq_sq {y : Y} {v : V} {ys : List Y} (rl : RelH G H L) (r : RV G H y v) (h : seqOf L y = some ys) : ∃ p xs, v = .ref p ∧ (SqL G.K H p xs ∨ SqT G.K H p xs) ∧ RVs G H ys xs := by
  cases y with
  | tup zs =>
    obtain ⟨a, xs, e, s, q⟩ := r
    cases h
    exact ⟨a, xs, e, .inr s, q⟩
  | sq zs =>
    obtain ⟨a, xs, e, s, q⟩ := r
    cases h
    exact ⟨a, xs, e, .inl s.sq, q⟩
  | ref a =>
    cases (show v = .ref a from r)
    have h' : (match L a with | some (.lst ys) => some ys | _ => none) = some ys := h
    split at h'
    · rename_i zs e
      cases h'
      obtain ⟨xs, e2, q⟩ := rl a _ e
      exact ⟨a, xs, rfl, .inl (SqL.of e2), q⟩
    · cases h'
  | _ => cases h
theorem atI_rv {ys : List Y} {xs : List V} {i : Int} {y : Y} (s : RVs G H ys xs) (h : atI ys i = some y) : ∃ x, atI xs i = some x ∧ RV G H y x := by
  unfold atI at h ⊢
  rw [← s.length]
  cases e : ixN ys.length i with
  | none => rw [e] at h; cases h
  | some j =>
    rw [e] at h
    exact s.get (i := j) h
end
section
variable {X : Cx} {a b c e : Expr} {ta tb tc te : TE3} {pos : Pos}
abbrev QE (X : Cx) (e : Expr) (t : TE3) : Prop := PE X e (upE X.g3 t)
abbrev QT (X : Cx) (e : Expr) (t : TT3) : Prop := PT X e (upT X.g3 t)
abbrev QW (X : Cx) (e : Expr) (t : TT3) : Prop := PW X e (upT X.g3 t)
abbrev QA (X : Cx) (es : List Expr) (t : TA3) : Prop := PA X es (upA X.g3 t)
abbrev QS (X : Cx) (st : Stmt) (t : TS3) : Prop := PS X st (upS X.g3 t)
abbrev QSs (X : Cx) (st : List Stmt) (t : TS3) : Prop := PSs X st (upS X.g3 t)
abbrev QG (X : Cx) (e : Expr) (g : TG3) : Prop := PG X e (upG X.g3 g)
abbrev QI (X : Cx) (tg it : Expr) (w : TI3) : Prop := PI X tg it (upI X.g3 w)
abbrev QF (X : Cx) (es : List Expr) (t : TT3) : Prop := PF X es (upT X.g3 t)
theorem QE.of_var {i : Nat} (h : PE X e (tVar i)) : QE X e (yVar i) := PE.imp h fun σ H Q ⟨τ, L, Q3, rs, rl, z, k⟩ => by
  unfold yVar at z
  split at z
  · rename_i y ey
    obtain ⟨v, ev, rv⟩ := rs.get i y (get3_eq _ _ ey)
    exact ⟨v, ev, k v H y L (TSt.refl _) rl rv z⟩
  · exact z.elim
theorem QE.of_c {v : V} {y : Y} (h : PE X e (tC v)) (q : ∀ H, RV X.g3 H y v) : QE X e (yC y) := PE.imp h fun σ H Q ⟨τ, L, Q3, rs, rl, z, k⟩ => k v H y L (TSt.refl _) rl (q H) z
theorem qv (i : Nat) {x : Str} {pos : Pos} (hN : X.N[i]? = some x := by rfl) (hv : Vis X.env.scope x := by first | exact Or.inl rfl | exact Or.inr (Or.inl rfl) | exact Or.inr (Or.inr rfl)) (hd : (x == ("__debug__" : Str)) = false := by decide)
    (hcd : (x == ("__classdict__" : Str)) = false := by decide) : QE X (.Name x pos) (yVar i) := QE.of_var (pv i hN hv hd hcd)
theorem qe_non {j : Nat} : QE X (.Constant .none j pos) (yC .non) := QE.of_c pe_non fun _ => rfl
theorem qe_bl {b : Bool} {j : Nat} : QE X (.Constant (.bool b) j pos) (yC (.bl b)) := QE.of_c pe_bl fun _ => rfl
theorem qe_int {i : Int} {j : Nat} : QE X (.Constant (.int i) j pos) (yC (.int i)) := QE.of_c pe_int fun _ => rfl
theorem qe_str {x : Str} {j : Nat} : QE X (.Constant (.str x) j pos) (yC (.str x)) := QE.of_c pe_str fun _ => rfl
theorem qe_gr {x : Str} {c : Addr} {y : Y} (hg : Gl X x) (hm : X.mg x = some (.ref c)) (q : ∀ H, RV X.g3 H y (.ref c)) (hd : (x == ("__debug__" : Str)) = false := by decide) : QE X (.Name x pos) (yC y) := QE.of_c (pe_gr hg hm hd) q
theorem up_op {G : G3} {r : R23} {ta tb : TE3} (σ : St) (H : Hp) (Q : VK) : upE G (yOp r ta tb) σ H Q → tOp (upR G r) (upE G ta) (upE G tb) σ H Q := fun ⟨τ, L, Q3, rs, rl, z, k⟩ =>
  ⟨τ, L, _, rs, rl, z, fun v H1 y L1 t1 rl1 rv1 z1 => ⟨τ, L1, _, rs.ts t1, rl1, z1, fun v2 H2 y2 L2 t2 rl2 rv2 z2 => ⟨y, y2, L2, Q3, rv1.ts t2, rv2, rl2, z2, k.ts (t1.trans t2)⟩⟩⟩
theorem qe_op {op : Operator} {r : R23} (h : OpR X (binaryOp op) (upR X.g3 r)) (ha : QE X a ta) (hb : QE X b tb) : QE X (.BinOp a op b pos) (yOp r ta tb) := PE.imp (pe_op h ha hb) up_op
theorem qe_ix {r : R23} (h : IxR X (upR X.g3 r)) (ha : QE X a ta) (hb : QE X b tb) (hp : PlainIx b) : QE X (.Subscript a b pos) (yOp r ta tb) := PE.imp (pe_ix h ha hb hp) up_op
theorem qe_cmpR {op : CmpOp} {r : R23} (h : OpR X (compareOp op) (upR X.g3 r)) (ha : QE X a ta) (hb : QE X b tb) (hm : behindInMarks op b = false) : QE X (.Compare a [op] [b] pos) (yOp r ta tb) := PE.imp (pe_cmpR h ha hb hm) up_op
theorem up_B {G : G3} {t : TE3} (σ : St) (H : Hp) (Q : Bool → Hp → Prop) : upT G (yB t) σ H Q → tTest (upE G t) σ H Q := fun ⟨τ, L, Q3, rs, rl, z, k⟩ =>
  ⟨τ, L, _, rs, rl, z, fun v H1 y L1 t1 rl1 rv1 z1 => by
    cases y with
    | bl b => exact ⟨b, rv1, k b H1 L1 t1 rl1 z1⟩
    | _ => exact z1.elim⟩
theorem up_tB {G : G3} {t : TE3} (σ : St) (H : Hp) (Q : Bool → Hp → Prop) : upT G (yB t) σ H Q → L2.tB (upE G t) σ H Q := up_B σ H Q
theorem qt_cmpR {op : CmpOp} {r : R23} (h : OpR X (compareOp op) (upR X.g3 r)) (ha : QE X a ta) (hb : QE X b tb) (hm : behindInMarks op b = false) : QT X (.Compare a [op] [b] pos) (yB (yOp r ta tb)) :=
  PT.imp (pt_cmpR h ha hb hm) fun σ H Q q => by
    have q' := up_B σ H Q q
    obtain ⟨τ, L, Q3, rs, rl, z, k⟩ := q'
    exact up_op σ H _ ⟨τ, L, Q3, rs, rl, z, k⟩
theorem qt_val (h : QE X e te) (he : ∀ whole, isTrue e X.env whole = (do let v ← whole; standAt e.pos; holding [v] (truthy v)) := by intro _; rfl) : QT X e (yB te) := PT.imp (pt_val h he) up_tB
theorem OpI {f : Value → Value → Sem Value} {C : Int → Int → Prop} {g : Int → Int → V} {g3 : Int → Int → Y} (h : OpR X f (rI C g)) (e : ∀ i j H, RV X.g3 H (g3 i j) (g i j)) : OpR X f (upR X.g3 (yI C g3)) := OpR.imp h fun x y H Q ⟨x3, y3, L, Q3, rx, ry, rl, z, k⟩ => by
  cases x3 with
  | int i =>
    cases y3 with
    | int j => exact ⟨i, j, rx, ry, z.1, k _ H _ L (TSt.refl _) rl (e i j H) z.2⟩
    | _ => exact z.elim
  | _ => cases y3 <;> exact z.elim
theorem OpI0 {f : Value → Value → Sem Value} {g : Int → Int → V} {g3 : Int → Int → Y} (h : OpR X f (rI0 g)) (e : ∀ i j H, RV X.g3 H (g3 i j) (g i j)) : OpR X f (upR X.g3 (yI0 g3)) := OpR.imp h fun x y H Q ⟨x3, y3, L, Q3, rx, ry, rl, z, k⟩ => by
  cases x3 with
  | int i =>
    cases y3 with
    | int j => exact ⟨i, j, rx, ry, k _ H _ L (TSt.refl _) rl (e i j H) z⟩
    | _ => exact z.elim
  | _ => cases y3 <;> exact z.elim
theorem q_mul : OpR X (binaryOp .Mult) (upR X.g3 (yI CMul fun i j => .int (i * j))) := OpI op_mul fun _ _ _ => rfl
theorem q_fdiv : OpR X (binaryOp .FloorDiv) (upR X.g3 (yI CDiv fun i j => .int (i / j))) := OpI op_fdiv fun _ _ _ => rfl
theorem q_mod : OpR X (binaryOp .Mod) (upR X.g3 (yI (fun _ j => 0 < j) fun i j => .int (i % j))) := OpI op_mod fun _ _ _ => rfl
theorem q_pow : OpR X (binaryOp .Pow) (upR X.g3 (yI CPow fun i j => .int (i ^ j.toNat))) := OpI op_pow fun _ _ _ => rfl
theorem q_lt : OpR X (compareOp .Lt) (upR X.g3 (yI0 fun i j => .bl (decide (i < j)))) := OpI0 op_lt fun _ _ _ => rfl
theorem q_le : OpR X (compareOp .LtE) (upR X.g3 (yI0 fun i j => .bl (decide (i ≤ j)))) := OpI0 op_le fun _ _ _ => rfl
theorem q_gt : OpR X (compareOp .Gt) (upR X.g3 (yI0 fun i j => .bl (decide (j < i)))) := OpI0 op_gt fun _ _ _ => rfl
theorem q_add : OpR X (binaryOp .Add) (upR X.g3 yAdd) := OpR.imp op_uAdd fun x y H Q ⟨x3, y3, L, Q3, rx, ry, rl, z, k⟩ => by
  cases x3 with
  | int i =>
    cases y3 with
    | int j => cases rx; cases ry; exact k _ H _ L (TSt.refl _) rl (by rfl) z
    | _ => exact z.elim
  | str i =>
    cases y3 with
    | str j => cases rx; cases ry; exact ⟨z.1, k _ H _ L (TSt.refl _) rl (by rfl) z.2⟩
    | _ => exact z.elim
  | ref a =>
    cases y3 with
    | ref b =>
      cases rx; cases ry
      obtain ⟨ys, zs, e1, e2, hz, q⟩ := z
      obtain ⟨xs, h1, r1⟩ := rl a _ e1
      obtain ⟨us, h2, r2⟩ := rl b _ e2
      refine ⟨xs, us, h1, h2, by rw [← r1.length, ← r2.length]; exact hz, fun p hp => ?_⟩
      exact k _ _ _ _ (TSt.new hp) (rl.newL hp (r1.app r2)) (by rfl) (q p (rl.none hp))
    | _ => exact z.elim
  | _ => cases y3 <;> exact z.elim
theorem lookup_valV {kvs : List (Str × Str)} {k x : Str} (h : kvs.lookup k = some x) : valV (kvs.map fun p => ((Sum.inr p.1 : Key), V.str p.2)) (Sum.inr k) = some (V.str x) := by
  induction kvs with
  | nil => simp at h
  | cons p r ih =>
    obtain ⟨a, b⟩ := p
    unfold valV
    rw [List.map_cons, List.find?_cons]
    rw [List.lookup_cons] at h
    by_cases c : k = a
    · subst c
      simp at h
      simp [h]
    · have c1 : (k == a) = false := by simpa using c
      rw [c1] at h
      have c2 : decide ((Sum.inr a : Key) = Sum.inr k) = false := decide_eq_false fun z => c (Sum.inr.inj z).symm
      simp only [c2]
      exact ih h
theorem pair_valY {G : G3} {H : Hp} {kvs : List (Key × Y)} {xs : List (Key × V)} {k : Key} {y : Y} (p : Paired (fun (p : Key × Y) (q : Key × V) => p.1 = q.1 ∧ RV G H p.2 q.2) kvs xs) (h : valY kvs k = some y) : ∃ x, valV xs k = some x ∧ RV G H y x := by
  induction p with
  | nil => cases h
  | @cons a b _ _ r t ih =>
    obtain ⟨ka, ya⟩ := a
    obtain ⟨kb, vb⟩ := b
    obtain ⟨e, r⟩ := r
    cases (show ka = kb from e)
    unfold valY at h
    unfold valV
    rw [List.find?_cons] at h ⊢
    by_cases c : ka = k
    · have c' : decide (ka = k) = true := decide_eq_true c
      simp only [c'] at h ⊢
      cases h
      exact ⟨vb, rfl, r⟩
    · have c' : decide (ka = k) = false := decide_eq_false c
      simp only [c'] at h ⊢
      exact ih h
theorem q_ixK (K : PySem.W.Frag) (P : Program) (w : World) (hK : X.K = K := by rfl) (hP : X.prog = P := by rfl) (hw : X.w = w := by rfl) : IxR X (upR ⟨K, P, w⟩ yIx) := by
  subst hK hP hw
  refine IxR.imp ix_u fun x y H Q ⟨x3, y3, L, Q3, rx, ry, rl, z, k⟩ => ?_
  have seq : ∀ {i : Int} {x3 : Y}, RV X.g3 H x3 x → y = .int i → (seqK L x3 fun ys => atK L Q3 (atI ys i)) → uIx X.K X.prog X.w x y H Q := by
    intro i x3 rx ey z
    subst ey
    obtain ⟨ys, es, z⟩ := seqK_inv z
    obtain ⟨p, xs, e, sq, rv⟩ := seq_sq rl rx es
    subst e
    cases ea : atI ys i with
    | none => rw [ea] at z; exact z.elim
    | some y =>
      rw [ea] at z
      obtain ⟨x, ex, rvx⟩ := atI_rv rv ea
      exact ⟨xs, x, sq, ex, k _ H _ L (TSt.refl _) rl rvx z⟩
  cases x3 with
  | str s =>
    cases y3 with
    | int i =>
      cases rx; cases ry
      obtain ⟨z1, z2⟩ := z
      cases ea : atI s.cps.toList i with
      | none => rw [ea] at z2; exact z2.elim
      | some c => rw [ea] at z2; exact ⟨z1, c, ea, k _ H _ L (TSt.refl _) rl (by rfl) z2⟩
    | _ => exact z.elim
  | cd kvs =>
    cases y3 with
    | str s =>
      obtain ⟨a, ea, kd⟩ := rx
      cases ea; cases ry
      have z' : atK L (fun s L => Q3 (.str s) L) (kvs.lookup s) := z
      cases el : kvs.lookup s with
      | none => rw [el] at z'; exact z'.elim
      | some t => rw [el] at z'; exact ⟨_, _, .inr kd, lookup_valV el, k _ H _ L (TSt.refl _) rl (by rfl) z'⟩
    | int i => exact z.elim
    | _ => exact z.elim
  | ref a =>
    cases y3 with
    | int i => exact seq (x3 := .ref a) rx ry z
    | str s =>
      cases rx; cases ry
      obtain ⟨kvs, e, z'⟩ := dctK_inv z
      obtain ⟨xs, e2, pr⟩ := rl a _ e
      cases ev : valY kvs (Sum.inr s) with
      | none => rw [ev] at z'; exact z'.elim
      | some y =>
        rw [ev] at z'
        obtain ⟨x, ex, rx⟩ := pair_valY pr ev
        exact ⟨xs, x, .inl (.inl e2), ex, k _ H _ L (TSt.refl _) rl rx z'⟩
    | _ => exact z.elim
  | tup ys =>
    cases y3 with
    | int i => exact seq (x3 := .tup ys) rx ry z
    | _ => exact z.elim
  | sq ys =>
    cases y3 with
    | int i => exact seq (x3 := .sq ys) rx ry z
    | _ => exact z.elim
  | _ => cases y3 <;> exact z.elim
theorem RVs.inv1 {G : G3} {H : Hp} {y : Y} {xs : List V} (h : RVs G H [y] xs) : ∃ x, xs = [x] ∧ RV G H y x := by
  obtain ⟨x, xs', e, r, s⟩ := h
  cases (show xs' = [] from s)
  exact ⟨x, e, r⟩
theorem q_lenK (K : PySem.W.Frag) (P : Program) (w : World) (hK : X.K = K := by rfl) (hP : X.prog = P := by rfl) (hw : X.w = w := by rfl) : CallR X (.builtin "len") (upL ⟨K, P, w⟩ yLen) := by
  subst hK hP hw
  refine CallR.imp call_uLen fun xs H Q ⟨ys, L, Q3, rv, rl, z, k⟩ => ?_
  unfold yLen at z
  split at z
  · obtain ⟨x, rfl, r⟩ := rv.inv1
    cases r
    exact ⟨z.1, k _ H _ L (TSt.refl _) rl (by rfl) z.2⟩
  · rename_i y _
    obtain ⟨x, rfl, r⟩ := rv.inv1
    obtain ⟨ys, es, z⟩ := seqK_inv z
    obtain ⟨p, us, e, sq, rw'⟩ := seq_sq rl r es
    subst e
    refine ⟨us, sq, ?_⟩
    rw [← rw'.length]
    exact k _ H _ L (TSt.refl _) rl (by rfl) z
  · exact z.elim
theorem q_neg : UnR X (unaryOp .USub) (upU X.g3 yNeg) := UnR.imp un_neg fun x H Q ⟨y, L, Q3, rv, rl, z, k⟩ => by
  cases y with
  | int i => exact ⟨i, rv, k _ H _ L (TSt.refl _) rl (by rfl) z⟩
  | _ => exact z.elim
theorem qe_un {op : UnaryOp} {r : Y → LHp → YK → Prop} (h : UnR X (unaryOp op) (upU X.g3 r)) (ha : QE X a ta) : QE X (.UnaryOp op a pos) (yUn r ta) := PE.imp (pe_un h ha) fun σ H Q ⟨τ, L, Q3, rs, rl, z, k⟩ =>
  ⟨τ, L, _, rs, rl, z, fun v H1 y L1 t1 rl1 rv1 z1 => ⟨y, L1, Q3, rv1, rl1, z1, k.ts t1⟩⟩
end
end L3

namespace L3
open PySem L2
section
variable {X : Cx} {a b c e : Expr} {ta tb tc te : TE3} {pos : Pos}
theorem seq_list {G : G3} {H : Hp} {L : LHp} {a : Addr} {ys : List Y} (rl : RelH G H L) (h : seqOf L (.ref a) = some ys) : ∃ xs, SqL G.K H a xs ∧ RVs G H ys xs := by
  have h' : (match L a with | some (.lst ys) => some ys | _ => none) = some ys := h
  split at h'
  · rename_i e
    cases h'
    obtain ⟨xs, e2, q⟩ := rl a _ e
    exact ⟨xs, SqL.of e2, q⟩
  · cases h'
/-- a list, changed or not -/
theorem seq_listY {G : G3} {H : Hp} {L : LHp} {y : Y} {v : V} {ys : List Y} (rl : RelH G H L) (r : RV G H y v) (hy : listY y = true) (h : seqOf L y = some ys) : ∃ a xs, v = .ref a ∧ SqL G.K H a xs ∧ RVs G H ys xs := by
  cases y with
  | ref a => obtain ⟨xs, s, q⟩ := seq_list rl h; exact ⟨a, xs, r, s, q⟩
  | sq zs => obtain ⟨a, xs, e, s, q⟩ := r; cases h; exact ⟨a, xs, e, s.sq, q⟩
  | _ => cases hy
/-! ### isinstance -/
theorem tup_types {G : G3} {H : Hp} {L : LHp} {y : Y} {v : V} {u : Value} {T : Ty3} {pins : List (Addr × Obj)} {σ : L2.St} {s : Shared} (I : Inv X pins σ H s) (rl : RelH X.g3 H L) (r : RV X.g3 H y v) (ru : RelV v u) (h : tyY L y = some T)
    {A : Around} {E : Value → Shared → Prop} {Q : Value → Shared → Prop} {c : Value} {b : Bool} (e : PySem.W.kitOne X.K (.type T.nm) c = some b) (hq : ∀ tk, Q (.bool b) { s with toks := tk }) :
    wpAny (model X.prog X.w) A (call (.builtin "isinstance") [u, c]) Q E s := by
  cases y with
  | non => cases h; cases r; exact isinst_ok I ru .non e hq
  | bl b => cases h; cases r; exact isinst_ok I ru (.bl _) e hq
  | int i => cases h; cases r; exact isinst_ok I ru (.int _) e hq
  | str x => cases h; cases r; exact isinst_ok I ru (.str _) e hq
  | tup ys =>
    cases h
    obtain ⟨a, xs, rfl, sq, _⟩ := r
    cases (show u = Value.ref a from ru)
    obtain ⟨its, _, ⟨o, h1, h2, _⟩, _⟩ := I.tuple sq
    exact PySem.W.kia_one PySem.W.kitx_tuple I.kIn ⟨o, h1, h2⟩ e (fun z => nomatch z) hq
  | sq ys =>
    cases h
    obtain ⟨a, xs, rfl, sq, _⟩ := r
    cases (show u = Value.ref a from ru)
    obtain ⟨its, _, ⟨o, n, h1, h2, _⟩, _⟩ := I.list sq.sq
    exact PySem.W.kia_one PySem.W.kitx_list I.kIn ⟨o, h1, h2⟩ e (fun z => nomatch z) hq
  | ref a =>
    cases (show v = .ref a from r)
    have h' : (match L a with | some (.lst _) => some Ty3.list | some (.dct _) => some .dict | _ => none) = some T := h
    split at h'
    · rename_i ys el
      cases h'
      obtain ⟨xs, e2, _⟩ := rl a _ el
      exact isinst_ok I ru (.lst e2) e hq
    · rename_i kvs el
      cases h'
      obtain ⟨xs, e2, _⟩ := rl a _ el
      exact isinst_ok I ru (.dK e2) e hq
    · cases h'
  | _ => cases h
theorem kit_tys (K : PySem.W.Frag) : ∀ T S : Ty3, PySem.W.kitOne K (.type T.nm) (.type S.nm) = some (instB T S) := by
  intro T S
  cases T <;> cases S <;> rfl
def uInst3 (G : G3) (S : Ty3) : List V → Hp → VK → Prop := fun xs H Q => ∃ y v L Q3 T, xs = [v, .ty S.nm] ∧ RV G H y v ∧ RelH G H L ∧ tyY L y = some T ∧ Q3 (.bl (instB T S)) L ∧ Aft G H Q3 Q
theorem q_inst (S : Ty3) : CallR X (.builtin "isinstance") (uInst3 X.g3 S) := by
  intro pins s σ H xs us Q I r h
  obtain ⟨y, v, L, Q3, T, rfl, rv, rl, ty, q, k⟩ := h
  obtain ⟨u, c, rfl, r1, r2⟩ := Vals.two r
  cases (show c = Value.type S.nm from r2)
  exact wpAny_pos I.tk (tup_types (G := X.g3) I rl rv r1 ty (kit_tys _ T S) fun tk ht => ⟨.bl _, H, I.tok _, rfl, k _ H _ L (TSt.refl _) rl (by rfl) q⟩)
theorem qe_inst {p p1 : Pos} {xT : Str} (S : Ty3) (hg : Gl X "isinstance") (hm : X.mg "isinstance" = none) (hgT : Gl X xT) (hmT : X.mg xT = none) (hvT : bootBuiltins xT = some (.type S.nm)) (ha : QE X a ta)
    (hn : xT ≠ "__name__" := by decide) (hd : (xT == ("__debug__" : Str)) = false := by decide)
    (hs : starEach [a, .Name xT p1] X.env = (false, eval a X.env) :: starEach [.Name xT p1] X.env := by rfl) (hs2 : starEach [.Name xT p1] X.env = (false, eval (.Name xT p1) X.env) :: starEach [] X.env := by rfl)
    (hp : (backTo pos (starEach [.Name xT p1] X.env)).any (·.1) = false := by rfl) :
    QE X (.Call (.Name "isinstance" p) [a, .Name xT p1] [] pos) (yInst S ta) := by
  refine PE.imp (pe_callB (q_inst S) hg hm bt_isinstance (pa_cons ha (pa_cons (pe_ty hgT hmT hvT hn hd) pa_nil hs2) hs) (by decide) (by decide) hs hp) ?_
  rintro σ H Q ⟨τ, L, Q3, rs, rl, z, k⟩
  refine ⟨τ, L, _, rs, rl, z, fun v H1 y L1 t1 rl1 rv1 z1 => ?_⟩
  obtain ⟨T, et, z1⟩ := tyKY_inv z1
  exact ⟨y, v, L1, Q3, T, rfl, rv1, rl1, et, z1, k.ts t1⟩
/-! ### in -/
def yInS (neg : Bool) (x y : Y) (L : LHp) (Q : YK) : Prop := seqK L y fun ys => flatY x = true ∧ ys.all flatY = true ∧ Q (.bl (nb neg (inV (toV x) (ys.map toV)))) L
theorem q_in (neg : Bool) {op : CmpOp} (h : OpR X (compareOp op) (rIn X.K neg)) : OpR X (compareOp op) (upR X.g3 (yInS neg)) := OpR.imp h fun x y H Q ⟨x3, y3, L, Q3, rx, ry, rl, z, k⟩ => by
  obtain ⟨ys, es, f1, f2, q⟩ := seqK_inv z
  obtain ⟨p, xs, e, sq, rv⟩ := seq_sq rl ry es
  rw [rx.flat f1]
  rw [rv.flat f2] at sq
  refine ⟨p, _, e, sq, toV_flat f1, ?_, ?_⟩
  · rw [List.all_map, List.all_eq_true]
    intro y hy
    exact toV_flat (List.all_eq_true.mp f2 y hy)
  · have : (if neg = true then !inV (toV x3) (ys.map toV) else inV (toV x3) (ys.map toV)) = (nb neg (inV (toV x3) (ys.map toV))) := by cases neg <;> simp [nb]
    rw [this]
    exact k _ H _ L (TSt.refl _) rl (by rfl) q
theorem q_inS (K : PySem.W.Frag) (P : Program) (w : World) (hK : X.K = K := by rfl) (hP : X.prog = P := by rfl) (hw : X.w = w := by rfl) : OpR X (compareOp .In) (upR ⟨K, P, w⟩ (yInS false)) := by subst hK hP hw; exact q_in false op_in_seq
/-! ### == -/
theorem DatN.rep {G : G3} {H : Hp} {L : LHp} (rl : RelH G H L) : ∀ {n : Nat} {y : Y} {d : Da} {v : V}, DatN L n y d → RV G H y v → RepN G.K H n v d
  | 0, y, d, v, ⟨f, e⟩, r => by
    rw [r.flat f]; exact ⟨e, toV_flat f⟩
  | n + 1, y, d, v, h, r => by
    have both : ∀ {ys : List Y} {ds : List Da} {xs : List V}, Paired (DatN L n) ys ds → RVs G H ys xs → Paired (RepN G.K H n) xs ds := by
      intro ys ds xs p
      induction p generalizing xs with
      | nil => intro r; cases (show xs = [] from r); exact .nil
      | cons q t ih =>
        rintro ⟨x, xs', rfl, r1, r2⟩
        exact .cons (DatN.rep rl q r1) (ih r2)
    rcases h with ⟨f, e⟩ | ⟨ys, ds, rfl, rfl, p⟩ | ⟨ys, ds, hy, rfl, es, p⟩
    · rw [r.flat f]; exact .inl ⟨e, toV_flat f⟩
    · obtain ⟨a, xs, rfl, sq, rv⟩ := r
      exact .inr (.inl ⟨a, xs, ds, rfl, rfl, sq, both p rv⟩)
    · obtain ⟨a, xs, rfl, sq, rv⟩ := seq_listY rl r hy es
      exact .inr (.inr ⟨a, xs, ds, rfl, rfl, sq, both p rv⟩)
theorem eq_refs {G : G3} {H : Hp} {y : Y} {v : V} (h : refY y = true) (r : RV G H y v) : ∃ a, v = .ref a := by
  cases y with
  | ref a => exact ⟨a, r⟩
  | tup ys => obtain ⟨a, xs, e, _⟩ := r; exact ⟨a, e⟩
  | sq ys => obtain ⟨a, xs, e, _⟩ := r; exact ⟨a, e⟩
  | _ => cases h
theorem q_eqK (K : PySem.W.Frag) (P : Program) (w : World) (hu : X.A.units + 128 < cLine) (hK : X.K = K := by rfl) (hP : X.prog = P := by rfl) (hw : X.w = w := by rfl) : OpR X (compareOp .Eq) (upR ⟨K, P, w⟩ (yEq false)) := by
  subst hK hP hw
  refine OpR.imp (op_uEq hu) fun x y H Q ⟨x3, y3, L, Q3, rx, ry, rl, z, k⟩ => ?_
  unfold yEq at z
  split at z
  · rename_i i j
    cases rx; cases ry
    refine ⟨rfl, ?_⟩
    have : decide (V.int i = V.int j) = nb false (decide (i = j)) := by rw [Bool.eq_iff_iff]; simp [nb]
    rw [this]
    exact k _ H _ L (TSt.refl _) rl (by rfl) z
  · rename_i i j
    cases rx; cases ry
    refine ⟨rfl, ?_⟩
    have : decide (V.str i = V.str j) = nb false (decide (i = j)) := by rw [Bool.eq_iff_iff]; simp [nb]
    rw [this]
    exact k _ H _ L (TSt.refl _) rl (by rfl) z
  · rename_i i j
    cases rx; cases ry
    refine ⟨rfl, ?_⟩
    have : decide (V.bl i = V.bl j) = nb false (decide (i = j)) := by rw [Bool.eq_iff_iff]; simp [nb]
    rw [this]
    exact k _ H _ L (TSt.refl _) rl (by rfl) z
  · obtain ⟨f1, f2, n, m, d, e, hn, h1, h2, q⟩ := z
    obtain ⟨a, rfl⟩ := eq_refs f1 rx
    obtain ⟨b, rfl⟩ := eq_refs f2 ry
    have q : Q3 (.bl (Da.eq d e)) L := q
    exact ⟨n, m, d, e, hn, h1.rep rl rx, h2.rep rl ry, k _ H _ L (TSt.refl _) rl (by rfl) q⟩
theorem q_neK (K : PySem.W.Frag) (P : Program) (w : World) (hu : X.A.units + 128 < cLine) (hK : X.K = K := by rfl) (hP : X.prog = P := by rfl) (hw : X.w = w := by rfl) : OpR X (compareOp .NotEq) (upR ⟨K, P, w⟩ (yEq true)) := by
  subst hK hP hw
  refine OpR.imp (op_uNe hu) fun x y H Q ⟨x3, y3, L, Q3, rx, ry, rl, z, k⟩ => ?_
  unfold yEq at z
  split at z
  · rename_i i j
    cases rx; cases ry
    refine ⟨rfl, ?_⟩
    have : (!decide (V.int i = V.int j)) = nb true (decide (i = j)) := by show _ = !_; congr 1; rw [Bool.eq_iff_iff]; simp
    rw [this]
    exact k _ H _ L (TSt.refl _) rl (by rfl) z
  · rename_i i j
    cases rx; cases ry
    refine ⟨rfl, ?_⟩
    have : (!decide (V.str i = V.str j)) = nb true (decide (i = j)) := by show _ = !_; congr 1; rw [Bool.eq_iff_iff]; simp
    rw [this]
    exact k _ H _ L (TSt.refl _) rl (by rfl) z
  · rename_i i j
    cases rx; cases ry
    refine ⟨rfl, ?_⟩
    have : (!decide (V.bl i = V.bl j)) = nb true (decide (i = j)) := by show _ = !_; congr 1; rw [Bool.eq_iff_iff]; simp
    rw [this]
    exact k _ H _ L (TSt.refl _) rl (by rfl) z
  · obtain ⟨f1, f2, n, m, d, e, hn, h1, h2, q⟩ := z
    obtain ⟨a, rfl⟩ := eq_refs f1 rx
    obtain ⟨b, rfl⟩ := eq_refs f2 ry
    have q : Q3 (.bl (!Da.eq d e)) L := q
    exact ⟨n, m, d, e, hn, h1.rep rl rx, h2.rep rl ry, k _ H _ L (TSt.refl _) rl (by rfl) q⟩
/-! ### None -/
end
end L3

namespace L3
open PySem L2
section
variable {X : Cx} {a b c e : Expr} {es rest : List Expr} {ta tb tc te : TE3} {tA tB : TT3} {tr : TA3} {pos : Pos}
theorem qw_and1 (h : QT X a tA) : QW X (.BoolOp .And [a] pos) tA := pw_and1 h
theorem qw_or1 (h : QT X a tA) : QW X (.BoolOp .Or [a] pos) tA := pw_or1 h
theorem qw_and (h : QT X a tA) (k : QW X (.BoolOp .And (b :: rest) pos) tB) : QW X (.BoolOp .And (a :: b :: rest) pos) (yAnd tA tB) := PW.imp (pw_and h k) fun σ H Q ⟨τ, L, Q3, rs, rl, z, k⟩ =>
  ⟨τ, L, _, rs, rl, z, fun c H1 L1 t1 rl1 z1 => by
    cases c with
    | true => rw [if_pos rfl]; exact ⟨τ, L1, Q3, rs.ts t1, rl1, z1, k.ts t1⟩
    | false => rw [if_neg Bool.false_ne_true]; exact k _ H1 L1 t1 rl1 z1⟩
theorem qw_or (h : QT X a tA) (k : QW X (.BoolOp .Or (b :: rest) pos) tB) : QW X (.BoolOp .Or (a :: b :: rest) pos) (yOr tA tB) := PW.imp (pw_or h k) fun σ H Q ⟨τ, L, Q3, rs, rl, z, k⟩ =>
  ⟨τ, L, _, rs, rl, z, fun c H1 L1 t1 rl1 z1 => by
    cases c with
    | true => rw [if_pos rfl]; exact k _ H1 L1 t1 rl1 z1
    | false => rw [if_neg Bool.false_ne_true]; exact ⟨τ, L1, Q3, rs.ts t1, rl1, z1, k.ts t1⟩⟩
theorem qw_pt (h : QW X a tA) : QT X a tA := PW.pt h
theorem qt_not (h : QT X a tA) : QT X (.UnaryOp .Not a pos) (yNot tA) := PT.imp (pt_not h) fun σ H Q ⟨τ, L, Q3, rs, rl, z, k⟩ =>
  ⟨τ, L, _, rs, rl, z, fun c H1 L1 t1 rl1 z1 => k _ H1 L1 t1 rl1 z1⟩
theorem qe_one {op : BoolOp} (h : QE X a ta) : QE X (.BoolOp op [a] pos) ta := pe_one h
theorem qe_and (h : QE X a ta) (k : QE X (.BoolOp .And (b :: rest) pos) tb) : QE X (.BoolOp .And (a :: b :: rest) pos) (yAndV ta tb) := PE.imp (pe_and h k) fun σ H Q ⟨τ, L, Q3, rs, rl, z, k⟩ =>
  ⟨τ, L, _, rs, rl, z, fun v H1 y L1 t1 rl1 rv1 z1 => by
    cases y with
    | bl c =>
      refine ⟨c, rv1, ?_⟩
      have z2 : yite c (tb τ L1 Q3) (Q3 (.bl false) L1) := z1
      cases c with
      | true => rw [if_pos rfl]; exact ⟨τ, L1, Q3, rs.ts t1, rl1, z2, k.ts t1⟩
      | false => rw [if_neg Bool.false_ne_true]; exact k _ H1 _ L1 t1 rl1 (by rfl) z2
    | _ => exact z1.elim⟩
theorem qe_not (h : QE X a ta) : QE X (.UnaryOp .Not a pos) (yNotV ta) := PE.imp (pe_not h) fun σ H Q ⟨τ, L, Q3, rs, rl, z, k⟩ =>
  ⟨τ, L, _, rs, rl, z, fun v H1 y L1 t1 rl1 rv1 z1 => by
    cases y with
    | bl c => exact ⟨c, rv1, k _ H1 _ L1 t1 rl1 (by rfl) z1⟩
    | _ => exact z1.elim⟩
theorem qe_ifExp (h : QT X c tA) (ha : QE X a ta) (hb : QE X b tb) : QE X (.IfExp c a b pos) (yIf tA ta tb) := PE.imp (pe_ifExp h ha hb) fun σ H Q ⟨τ, L, Q3, rs, rl, z, k⟩ =>
  ⟨τ, L, _, rs, rl, z, fun c H1 L1 t1 rl1 z1 => by
    cases c with
    | true => rw [if_pos rfl]; exact ⟨τ, L1, Q3, rs.ts t1, rl1, z1, k.ts t1⟩
    | false => rw [if_neg Bool.false_ne_true]; exact ⟨τ, L1, Q3, rs.ts t1, rl1, z1, k.ts t1⟩⟩
theorem qa_nil : QA X [] yNil := PA.imp pa_nil fun σ H Q ⟨τ, L, Q3, rs, rl, z, k⟩ => k _ H _ L (TSt.refl _) rl (by rfl) z
theorem qa_cons (h : QE X e te) (ht : QA X es tr) (hs : starEach (e :: es) X.env = (false, eval e X.env) :: starEach es X.env := by rfl) : QA X (e :: es) (yCons te tr) := PA.imp (pa_cons h ht hs) fun σ H Q ⟨τ, L, Q3, rs, rl, z, k⟩ =>
  ⟨τ, L, _, rs, rl, z, fun v H1 y L1 t1 rl1 rv1 z1 => ⟨τ, L1, _, rs.ts t1, rl1, z1, fun vs H2 ys L2 t2 rl2 rv2 z2 => k (v :: vs) H2 (y :: ys) L2 (t1.trans t2) rl2 ⟨v, vs, rfl, rv1.ts t2, rv2⟩ z2⟩⟩
theorem qe_tup {x1 : Nat} (h : QA X es tr) : QE X (.Tuple es x1 pos) (yTup tr) := PE.imp (pe_tup h) fun σ H Q ⟨τ, L, Q3, rs, rl, z, k⟩ =>
  ⟨τ, L, _, rs, rl, z, fun vs H1 ys L1 t1 rl1 rv1 z1 => by
    cases e : Nat.ble ys.length 1000 with
    | false => rw [e] at z1; exact z1.elim
    | true =>
      rw [e] at z1
      have := Nat.le_of_ble_eq_true e
      refine ⟨small (by rw [← rv1.length]; exact this), fun p hp => ?_⟩
      exact k _ _ (.tup ys) L1 (t1.trans (TSt.new hp)) (rl1.skip hp) ⟨p, vs, rfl, SqT.of upd_same, rv1.ts (TSt.new hp)⟩ z1⟩
theorem qe_lst (h : QA X es tr) : QE X (.List es pos) (yLst tr) := PE.imp (pe_lst h) fun σ H Q ⟨τ, L, Q3, rs, rl, z, k⟩ =>
  ⟨τ, L, _, rs, rl, z, fun vs H1 ys L1 t1 rl1 rv1 z1 => by
    cases e : Nat.ble ys.length 1000 with
    | false => rw [e] at z1; exact z1.elim
    | true =>
      rw [e] at z1
      have := Nat.le_of_ble_eq_true e
      refine ⟨small (by rw [← rv1.length]; exact this), fun p hp => ?_⟩
      exact k _ _ _ _ (t1.trans (TSt.new hp)) (rl1.newL hp rv1) (by rfl) (z1 p (rl1.none hp))⟩
theorem qe_callB {x : Str} {p : Pos} {id : String} {r : List Y → LHp → YK → Prop} (hc : CallR X (.builtin id) (upL X.g3 r)) (hg : Gl X x) (hm : X.mg x = none) (hv : bootBuiltins x = some (.builtin id)) (h : QA X (e :: es) tr)
    (hn : x ≠ "__name__" := by decide) (hd : (x == ("__debug__" : Str)) = false := by decide) (hs : starEach (e :: es) X.env = (false, eval e X.env) :: starEach es X.env := by rfl) (hp : (backTo pos (starEach es X.env)).any (·.1) = false := by rfl) :
    QE X (.Call (.Name x p) (e :: es) [] pos) (yCB r tr) := PE.imp (pe_callB hc hg hm hv h hn hd hs hp) fun σ H Q ⟨τ, L, Q3, rs, rl, z, k⟩ =>
  ⟨τ, L, _, rs, rl, z, fun vs H1 ys L1 t1 rl1 rv1 z1 => ⟨ys, L1, Q3, rv1, rl1, z1, k.ts t1⟩⟩
/-! ### slices -/
def upO (G : G3) (t : TO3) : TO := fun σ H Q => ∃ τ L Q3, RelS G H σ τ ∧ RelH G H L ∧ t τ L Q3 ∧ ∀ (o : Option Int) H' L', TSt H H' → RelH G H' L' → Q3 o L' → Q o H'
abbrev QO (X : Cx) (e : Option Expr) (t : TO3) : Prop := PO X e (upO X.g3 t)
theorem PO.imp {X : Cx} {e : Option Expr} {t u : TO} (h : PO X e t) (q : ∀ σ H Q, u σ H Q → t σ H Q) : PO X e u := fun pins s σ H Q I z => h pins s σ H Q I (q σ H Q z)
theorem SlR.imp {X : Cx} {r r' : V → Option Int → Option Int → Hp → VK → Prop} (h : SlR X r) (q : ∀ x lo hi H Q, r' x lo hi H Q → r x lo hi H Q) : SlR X r' := by
  intro pins s σ H x v vl vu lo hi sl Q I rx hs pl pu z
  exact h pins s σ H x v vl vu lo hi sl Q I rx hs pl pu (q _ _ _ _ _ z)
theorem qo_none : QO X none yNoPart := PO.imp po_none fun σ H Q ⟨τ, L, Q3, rs, rl, z, k⟩ => k _ H L (TSt.refl _) rl z
theorem qo_some (h : QE X e te) : QO X (some e) (yPart te) := PO.imp (po_some h) fun σ H Q ⟨τ, L, Q3, rs, rl, z, k⟩ =>
  ⟨τ, L, _, rs, rl, z, fun v H1 y L1 t1 rl1 rv1 z1 => by
    cases y with
    | int i => exact ⟨i, rv1, k _ H1 L1 t1 rl1 z1⟩
    | _ => exact z1.elim⟩
def upSl (G : G3) (r : Y → Option Int → Option Int → LHp → YK → Prop) : V → Option Int → Option Int → Hp → VK → Prop := fun x lo hi H Q => ∃ y L Q3, RV G H y x ∧ RelH G H L ∧ r y lo hi L Q3 ∧ Aft G H Q3 Q
theorem qe_slice {lo hi : Option Expr} {tl th : TO3} {p2 : Pos} {r : Y → Option Int → Option Int → LHp → YK → Prop} (h : SlR X (upSl X.g3 r)) (ha : QE X a ta) (hl : QO X lo tl) (hh : QO X hi th) : QE X (.Subscript a (.Slice lo hi none p2) pos) (ySl r ta tl th) :=
  PE.imp (pe_slice h ha hl hh) fun σ H Q ⟨τ, L, Q3, rs, rl, z, k⟩ =>
  ⟨τ, L, _, rs, rl, z, fun v H1 y L1 t1 rl1 rv1 z1 => ⟨τ, L1, _, rs.ts t1, rl1, z1, fun o H2 L2 t2 rl2 z2 => ⟨τ, L2, _, rs.ts (t1.trans t2), rl2, z2, fun o' H3 L3 t3 rl3 z3 => ⟨y, L3, Q3, rv1.ts (t2.trans t3), rl3, z3, k.ts (t1.trans (t2.trans t3))⟩⟩⟩⟩
theorem cutY_rv {G : G3} {H : Hp} {ys : List Y} {xs : List V} (r : RVs G H ys xs) (lo hi : Option Int) : RVs G H (cutY ys lo hi) (cutV xs lo hi) := by
  unfold cutY cutV
  rw [r.length]
  exact (r.drop _).take _
theorem q_slL (K : PySem.W.Frag) (P : Program) (w : World) (hK : X.K = K := by rfl) (hP : X.prog = P := by rfl) (hw : X.w = w := by rfl) : SlR X (upSl ⟨K, P, w⟩ ySlL) := by
  subst hK hP hw
  refine SlR.imp sl_list fun x lo hi H Q ⟨y, L, Q3, rv, rl, z, k⟩ => ?_
  cases y with
  | ref a =>
    obtain ⟨ys, es, z'⟩ := lstK_inv z
    obtain ⟨xs, sq, r⟩ := seq_list rl (seqOf_lst es)
    exact ⟨a, xs, rv, sq, fun p hp => k _ _ _ _ (TSt.new hp) (rl.newL hp (cutY_rv r lo hi)) (by rfl) (z' p (rl.none hp))⟩
  | sq ys =>
    obtain ⟨a, xs, e, sf, r⟩ := rv
    exact ⟨a, xs, e, sf.sq, fun p hp => k _ _ _ _ (TSt.new hp) (rl.newL hp (cutY_rv r lo hi)) (by rfl) (z p (rl.none hp))⟩
  | _ => exact z.elim
end
section
variable {X : Cx} {a b c e tg iter : Expr} {es : List Expr} {ta tb tc te : TE3} {tA tB : TT3} {tr : TA3} {pos : Pos} {st : Stmt} {rest body orelse : List Stmt} {t u : TS3}
theorem qss_nil : QSs X [] yNext := PSs.imp pss_nil fun D σ H ⟨τ, L, D3, rs, rl, z, k⟩ => k.nx _ H _ L (TSt.refl _) rs rl z
theorem qss_one (h : QS X st t) : QSs X [st] t := pss_one h
theorem qss_cons (h : QS X st t) (k : QSs X rest u) : QSs X (st :: rest) (ySeq t u) := PSs.imp (pss_cons h k) fun D σ H ⟨τ, L, D3, rs, rl, z, k⟩ =>
  ⟨τ, L, { D3 with nx := u D3 }, rs, rl, z, fun σ1 H1 τ1 L1 t1 rs1 rl1 z1 => ⟨τ1, L1, D3, rs1, rl1, z1, k.ts t1⟩, k.rt, k.bk, k.ct⟩
theorem qs_expr (h : QE X e te) (hs : swapsWith e none pos.line X.env = pure false := by rfl) : QS X (.Expr e pos) (yDrop te) := PS.imp (ps_expr h hs) fun D σ H ⟨τ, L, D3, rs, rl, z, k⟩ =>
  ⟨τ, L, _, rs, rl, z, fun v H1 y L1 t1 rl1 rv1 z1 => k.nx _ H1 _ L1 t1 (rs.ts t1) rl1 z1⟩
theorem qs_ret (h : QE X e te) : QS X (.Return (some e) pos) (yRet te) := PS.imp (ps_ret h) fun D σ H ⟨τ, L, D3, rs, rl, z, k⟩ => ⟨τ, L, _, rs, rl, z, k.rt⟩
theorem qs_if (h : QT X c tA) (ha : QSs X body t) (hb : QSs X orelse u) : QS X (.If c body orelse pos) (yIfS tA t u) := PS.imp (ps_if h ha hb) fun D σ H ⟨τ, L, D3, rs, rl, z, k⟩ =>
  ⟨τ, L, _, rs, rl, z, fun c H1 L1 t1 rl1 z1 => by
    cases c with
    | true => rw [if_pos rfl]; exact ⟨τ, L1, D3, rs.ts t1, rl1, z1, k.ts t1⟩
    | false => rw [if_neg Bool.false_ne_true]; exact ⟨τ, L1, D3, rs.ts t1, rl1, z1, k.ts t1⟩⟩
theorem qs_set {i : Nat} {x : Str} {pos' : Pos} (hN : X.N.Nodup) (hix : X.N[i]? = some x) (hx : Loc X.env.scope x) (h : QE X e te) (hsw : swapsWith e (some (.Name x pos')) pos.line X.env = pure false := by rfl)
    (hfn : X.fn x = true ∨ X.env.scope.names.lookup x = some .local := by first | exact .inl rfl | exact .inr rfl | assumption) : QS X (.Assign [.Name x pos'] e pos) (yAsg te (gyName i)) := PS.imp (ps_set hN hix hx h hsw hfn) fun D σ H ⟨τ, L, D3, rs, rl, z, k⟩ =>
  ⟨τ, L, _, rs, rl, z, fun v H1 y L1 t1 rl1 rv1 z1 => k.nx _ H1 _ L1 t1 (show RelS _ _ _ (set3 τ i y) by rw [set3_eq]; exact (rs.ts t1).set rv1) rl1 z1⟩
theorem PG.imp {X : Cx} {e : Expr} {t u : TG} (h : PG X e t) (q : ∀ v σ H Q, u v σ H Q → t v σ H Q) : PG X e u := fun pins s σ H x v Q I r z => h pins s σ H x v Q I r (q _ _ _ _ z)
theorem qg_name {i : Nat} {x : Str} (hN : X.N.Nodup) (hix : X.N[i]? = some x) (hx : Loc X.env.scope x) (hfn : X.fn x = true ∨ X.env.scope.names.lookup x = some .local := by first | exact .inl rfl | exact .inr rfl | assumption) : QG X (.Name x pos) (gyName i) :=
  PG.imp (pg_name hN hix hx hfn) fun v σ H Q ⟨y, τ, L, Q3, rv, rs, rl, z, k⟩ => k _ H _ L (TSt.refl _) (show RelS _ _ _ (set3 τ i y) by rw [set3_eq]; exact rs.set rv) rl z
/-! ### loops -/
theorem qs_while (hp : PassesOwn (model X.prog X.w) X.A X.env X.xe) (h : QT X c tA) (hb : QSs X body t) : QS X (.While c body [] pos) (yWhile tA t) := PS.imp (ps_while hp h hb) fun D σ H ⟨τ, L, D3, rs, rl, ⟨W, ⟨m0, w0⟩, turn⟩, k⟩ => by
  refine ⟨fun m σ1 H1 => ∃ τ1 L1, TSt H H1 ∧ RelS X.g3 H1 σ1 τ1 ∧ RelH X.g3 H1 L1 ∧ W m τ1 L1, ⟨m0, τ, L, TSt.refl _, rs, rl, w0⟩, ?_⟩
  rintro m σ1 H1 ⟨τ1, L1, t1, rs1, rl1, w1⟩
  refine ⟨τ1, L1, _, rs1, rl1, turn m τ1 L1 w1, fun b H2 L2 t2 rl2 z2 => ?_⟩
  cases b with
  | false => rw [if_neg Bool.false_ne_true]; exact k.nx _ H2 _ L2 (t1.trans t2) (rs1.ts t2) rl2 z2
  | true =>
    rw [if_pos rfl]
    obtain ⟨N, hN, z2⟩ := z2
    refine ⟨fun σ' H' => ∃ τ' L', TSt H H' ∧ RelS X.g3 H' σ' τ' ∧ RelH X.g3 H' L' ∧ N τ' L', ?_, ?_⟩
    · rintro σ' H' ⟨τ', L', t', rs', rl', n'⟩
      obtain ⟨m', hm, w'⟩ := hN τ' L' n'
      exact ⟨m', hm, τ', L', t', rs', rl', w'⟩
    · have nx : AftS X.g3 H2 (Frg N) (fun σ' H' => ∃ τ' L', TSt H H' ∧ RelS X.g3 H' σ' τ' ∧ RelH X.g3 H' L' ∧ N τ' L') := fun σ' H' τ' L' t' rs' rl' ⟨L5, s5, n'⟩ => ⟨τ', L5, (t1.trans t2).trans t', rs', rl'.sub s5, n'⟩
      have k2 := k.ts (t1.trans t2)
      exact ⟨τ1, L2, _, rs1.ts t2, rl2, z2, nx, k2.rt, k2.nx, nx⟩
theorem qs_for {g : TG3} {wi : TI3} (hp : PassesOwn (model X.prog X.w) X.A X.env X.xe) (hc : X.calm = true) (hi : QI X tg iter wi) (hg : QG X tg g) (hb : QSs X body t) (hs : ∀ x, foldedSetIterable iter X.env x = pure x := by intro _; rfl) :
    QS X (.For tg iter body [] pos) (yFor wi g t) := PS.imp (ps_for hp hc hi hg hb hs) fun D σ H ⟨τ, L, D3, rs, rl, z, k⟩ => by
  refine ⟨τ, L, _, rs, rl, z, fun J H1 ys keep L1 t1 rl1 yl zz => ?_⟩
  obtain ⟨W, w0, wk, turn, fin⟩ := forK_inv zz
  refine ⟨fun i m σ' H' => ∃ τ' L', i + m = ys.length ∧ TSt H1 H' ∧ RelS X.g3 H' σ' τ' ∧ RelH X.g3 H' L' ∧ W i τ' L', ⟨ys.length, τ, L1, by omega, TSt.refl _, rs.ts t1, rl1, w0⟩, ?_⟩
  rintro i m σ2 H2 ⟨τ2, L2, him, t2, rs2, rl2, w2⟩
  by_cases hlt : i < ys.length
  · refine .inr ⟨yl.go i H2 L2 t2 rl2 (wk i τ2 L2 w2) hlt, fun σ' H' => ∃ τ' L', TSt H1 H' ∧ RelS X.g3 H' σ' τ' ∧ RelH X.g3 H' L' ∧ W (i + 1) τ' L', ?_, ?_⟩
    · rintro σ' H' ⟨τ', L', t', rs', rl', w'⟩
      exact ⟨m - 1, by omega, τ', L', by omega, t', rs', rl', w'⟩
    · intro x H3 y3
      have ey : ys[i]? = some ys[i] := List.getElem?_eq_getElem hlt
      obtain ⟨t3, rl3, rv3⟩ := yl.yld i H2 L2 x H3 _ t2 rl2 (wk i τ2 L2 w2) ey y3
      refine ⟨ys[i], τ2, L2, _, rv3, rs2.ts t3, rl3, turn i _ τ2 L2 ey w2, fun σ4 H4 τ4 L4 t4 rs4 rl4 z4 => ?_⟩
      have nx : AftS X.g3 H4 (Frg (W (i + 1))) (fun σ' H' => ∃ τ' L', TSt H1 H' ∧ RelS X.g3 H' σ' τ' ∧ RelH X.g3 H' L' ∧ W (i + 1) τ' L') := fun σ' H' τ' L' t' rs' rl' ⟨L5, s5, n'⟩ => ⟨τ', L5, ((t2.trans t3).trans t4).trans t', rs', rl'.sub s5, n'⟩
      have k2 := k.ts (t1.trans ((t2.trans t3).trans t4))
      exact ⟨τ4, L4, _, rs4, rl4, z4, nx, k2.rt, k2.nx, nx⟩
  · have e : i = ys.length := by omega
    subst e
    exact .inl ⟨yl.stop H2 L2 t2 rl2 (wk _ τ2 L2 w2), k.nx _ H2 _ L2 (t1.trans t2) rs2 rl2 (fin τ2 L2 w2)⟩
theorem PI.imp {X : Cx} {tg e : Expr} {t u : TI} (h : PI X tg e t) (q : ∀ σ H Q, u σ H Q → t σ H Q) : PI X tg e u := fun pins s σ H Q I z => h pins s σ H Q I (q σ H Q z)
theorem yields_list {G : G3} {H₀ : Hp} {a : Addr} {ys : List Y} {keep : LHp → Prop} (h : ∀ H L, TSt H₀ H → RelH G H L → keep L → ∃ xs, SqL G.K H a xs ∧ RVs G H ys xs) : Yields G H₀ (Itl G.K a) ys keep where
  go := fun i H L t rl kp hi => by
    obtain ⟨xs, sq, r⟩ := h H L t rl kp
    have : i < xs.length := by rw [← r.length]; exact hi
    exact ⟨xs, xs[i], sq, List.getElem?_eq_getElem this⟩
  yld := fun i H L x H' y t rl kp hy ⟨e, f⟩ => by
    subst e
    obtain ⟨xs, sq, r⟩ := h _ L t rl kp
    obtain ⟨x', e', rv⟩ := r.get hy
    have := f xs sq
    rw [e'] at this; cases this
    exact ⟨TSt.refl _, rl, rv⟩
  stop := fun H L t rl kp => by
    obtain ⟨xs, sq, r⟩ := h H L t rl kp
    exact ⟨xs, sq, by rw [r.length]; exact Nat.le_refl _⟩
theorem qi_list (h : QE X e te) : QI X tg e (iyList te) := PI.imp (pi_list h) fun σ H R ⟨τ, L, R3, rs, rl, z, k⟩ => by
  refine ⟨τ, L, _, rs, rl, z, fun v H1 y L1 t1 rl1 rv1 z1 => ?_⟩
  cases y with
  | ref a =>
    obtain ⟨ys, keep, es, kp, hk, z2⟩ := lisK_inv z1
    have hy : ∀ H L, TSt H1 H → RelH X.g3 H L → keep L → ∃ xs, SqL X.K H a xs ∧ RVs X.g3 H ys xs := fun H L _ rl e => seq_list rl (hk L e)
    obtain ⟨xs, sq, _⟩ := hy H1 L1 (TSt.refl _) rl1 kp
    exact ⟨a, rv1, ⟨xs, sq⟩, k _ H1 ys _ L1 t1 rl1 (yields_list hy) z2⟩
  | sq ys =>
    obtain ⟨a, xs, e, sf, r⟩ := rv1
    exact ⟨a, e, ⟨xs, sf.sq⟩, k _ H1 ys (fun _ => True) L1 t1 rl1 (yields_list fun H L t _ _ => ⟨xs, (sf.ts t).sq, r.ts t⟩) z1⟩
  | _ => exact z1.elim
theorem yields_ints {G : G3} {H₀ : Hp} (lo : Int) (n : Nat) : Yields G H₀ (Itr lo n) (intsY lo n) (fun _ => True) where
  go := fun i H L t rl kp hi => show i < n by simpa [intsY] using hi
  yld := fun i H L x H' y t rl kp hy ⟨e, f⟩ => by
    subst e f
    refine ⟨TSt.refl _, rl, ?_⟩
    unfold intsY at hy
    rw [List.getElem?_map] at hy
    obtain ⟨z, ez, e⟩ := Option.map_eq_some_iff.mp hy
    have := List.getElem?_range (i := i) (n := n) (by
      by_cases c : i < n
      · exact c
      · rw [List.getElem?_eq_none (by simp; omega)] at ez; cases ez)
    rw [this] at ez; cases ez
    subst e
    rfl
  stop := fun H L t rl kp => by simp [intsY, Itr]
theorem qi_range1 {p : Pos} (hg : Gl X "range") (hm : X.mg "range" = none) (h : QA X [a] tr) (hs : starEach [a] X.env = [(false, eval a X.env)] := by rfl) : QI X tg (.Call (.Name "range" p) [a] [] pos) (iyRng1 tr) :=
  PI.imp (pi_range1 hg hm h hs) fun σ H R ⟨τ, L, R3, rs, rl, z, k⟩ => by
  refine ⟨τ, L, _, rs, rl, z, fun vs H1 ys L1 t1 rl1 rv1 z1 => ?_⟩
  split at z1
  · rename_i j
    obtain ⟨x, rfl, r⟩ := rv1.inv1
    cases r
    exact ⟨j, rfl, z1.1.1, z1.1.2, k _ H1 _ _ L1 t1 rl1 (yields_ints 0 _) z1.2⟩
  · exact z1.elim
end
end L3

namespace L3
open PySem L2
section
variable {X : Cx} {scope : Scope} {T : List Str} {elt target iter c e o : Expr} {ifs es : List Expr} {wi : TI3} {g : TG3} {tA : TT3} {te to : TE3} {tr : TA3} {pos : Pos}
theorem qf_nil : QF X [] yYes := PF.imp pf_nil fun σ H Q ⟨τ, L, Q3, rs, rl, z, k⟩ => k _ H L (TSt.refl _) rl z
theorem qf_one (h : QT X c tA) : QF X [c] tA := pf_one h
theorem up_lc {G : G3} {n : Nat} {g2 : TG} (hg2 : ∀ v σ H Q, upG G g v σ H Q → g2 v σ H Q) (σ : L2.St) (H : Hp) (Q : VK) : upE G (yLC n wi g tA te) σ H Q → tLC n (upI G wi) g2 (upT G tA) (upE G te) σ H Q := fun ⟨τ, L, Q3, rs, rl, z, k⟩ => by
  refine ⟨τ, L, _, rs, rl, z, fun J H1 ys keep L1 t1 rl1 yl zz => ?_⟩
  obtain ⟨hz, W, w0, wk, turn, fin⟩ := lcK_inv zz
  refine ⟨fun i m vs H' => ∃ zs L', i + m = ys.length ∧ zs.length ≤ i ∧ TSt H1 H' ∧ RVs G H' zs vs ∧ RelH G H' L' ∧ W i zs L', ⟨ys.length, [], L1, by omega, Nat.le_refl _, TSt.refl _, rfl, rl1, w0⟩, ?_⟩
  rintro i m vs H2 ⟨zs, L2, him, hzi, t2, rv2, rl2, w2⟩
  by_cases hlt : i < ys.length
  · refine .inr ⟨yl.go i H2 L2 t2 rl2 (wk i zs L2 w2) hlt, by rw [← rv2.length]; omega, ?_⟩
    intro x H3 y3
    have ey : ys[i]? = some ys[i] := List.getElem?_eq_getElem hlt
    obtain ⟨t3, rl3, rv3⟩ := yl.yld i H2 L2 x H3 _ t2 rl2 (wk i zs L2 w2) ey y3
    refine hg2 _ _ _ _ ⟨ys[i], _, L2, _, rv3, (rs.ts ((t1.trans t2).trans t3)).more n, rl3, turn i _ zs L2 ey w2, fun σ4 H4 τ4 L4 t4 rs4 rl4 z4 => ?_⟩
    refine ⟨τ4, L4, _, rs4, rl4, z4, fun b H5 L5 t5 rl5 z5 => ?_⟩
    cases b with
    | true =>
      rw [if_pos rfl]
      refine ⟨τ4, L5, _, rs4.ts t5, rl5, z5, fun v6 H6 y6 L6 t6 rl6 rv6 ⟨L7, s7, z6⟩ => ?_⟩
      have tt := ((t3.trans t4).trans t5).trans t6
      exact ⟨m - 1, by omega, zs ++ [y6], L7, by omega, by rw [List.length_append, List.length_singleton]; omega, t2.trans tt, (rv2.ts tt).app (RVs.one rv6), rl6.sub s7, z6⟩
    | false =>
      rw [if_neg Bool.false_ne_true]
      have tt := (t3.trans t4).trans t5
      obtain ⟨L7, s7, z6⟩ := z5
      exact ⟨m - 1, by omega, zs, L7, by omega, by omega, t2.trans tt, rv2.ts tt, rl5.sub s7, z6⟩
  · have ei : i = ys.length := by omega
    subst ei
    refine .inl ⟨yl.stop H2 L2 t2 rl2 (wk _ zs L2 w2), by rw [← rv2.length]; omega, fun D hD => ?_⟩
    exact k _ _ _ _ ((t1.trans t2).trans (TSt.new hD)) (rl2.newL hD rv2) (by rfl) (fin zs L2 w2 D (rl2.none hD))
/-- a comprehension's target -/
structure TGx (X : Cx) (scope : Scope) (T : List Str) (target : Expr) (g : TG3) : Prop where
  ex : ∃ g2 : TG, (∀ C fp s₀ H₀, PG (X.comp scope T C fp s₀ H₀) target g2) ∧ Outer g2 X.N.length T.length ∧ ∀ v σ H Q, upG X.g3 g v σ H Q → g2 v σ H Q
theorem up_name {G : G3} (i : Nat) (v : V) (σ : L2.St) (H : Hp) (Q : L2.St → Hp → Prop) : upG G (gyName i) v σ H Q → gName i v σ H Q := fun ⟨y, τ, L, Q3, rv, rs, rl, z, k⟩ =>
  k _ H _ L (TSt.refl _) (show RelS _ _ _ (set3 τ i y) by rw [set3_eq]; exact rs.set rv) rl z
theorem tgx_name {x : Str} {p : Pos} (hN : (X.N ++ [x]).Nodup) (hl : ∀ C fp s₀ H₀, Loc (X.comp scope [x] C fp s₀ H₀).env.scope x) (hfn : ∀ C fp s₀ H₀, (X.comp scope [x] C fp s₀ H₀).env.scope.names.lookup x = some .local) : TGx X scope [x] (.Name x p) (gyName X.N.length) :=
  ⟨gName X.N.length, fun C fp s₀ H₀ => pg_name (X := X.comp scope [x] C fp s₀ H₀) hN (by show (X.N ++ [x])[X.N.length]? = some x; simp) (hl C fp s₀ H₀) (.inr (hfn C fp s₀ H₀)), outer_name _, up_name _⟩
theorem qe_lc (T : List Str) (S : CompScope X scope) (hc : X.calm = true) (hi : QI X target iter wi) (hg : TGx X scope T target g)
    (hf : ∀ C fp s₀ H₀, QF (X.comp scope T C fp s₀ H₀) ifs tA) (he : ∀ C fp s₀ H₀, QE (X.comp scope T C fp s₀ H₀) elt te)
    (hs : ∀ x, foldedSetIterable iter X.env x = pure x := by intro _; rfl) : QE X (.ListComp elt [⟨target, iter, ifs, 0⟩] scope pos) (yLC T.length wi g tA te) := by
  obtain ⟨g2, h1, h2, h3⟩ := hg.ex
  exact PE.imp (pe_lc T S hc hi h1 h2 hf he hs) (up_lc h3)
theorem qs_setLC (T : List Str) {i : Nat} {x : Str} {px lp : Pos} (hN : X.N.Nodup) (hix : X.N[i]? = some x) (hx : Loc X.env.scope x) (S : CompScope X scope) (hc : X.calm = true) (hi : QI X target iter wi)
    (hg : TGx X scope T target g) (hf : ∀ C fp s₀ H₀, QF (X.comp scope T C fp s₀ H₀) ifs tA) (he : ∀ C fp s₀ H₀, QE (X.comp scope T C fp s₀ H₀) elt te)
    (hsw : swapsWith (.ListComp elt [⟨target, iter, ifs, 0⟩] scope lp) (some (.Name x px)) pos.line X.env = pure true := by rfl)
    (hfn : X.fn x = true ∨ X.env.scope.names.lookup x = some .local := by first | exact .inl rfl | exact .inr rfl | assumption)
    (hs : ∀ x, foldedSetIterable iter X.env x = pure x := by intro _; rfl) : QS X (.Assign [.Name x px] (.ListComp elt [⟨target, iter, ifs, 0⟩] scope lp) pos) (yAsg (yLC T.length wi g tA te) (gyName i)) := by
  obtain ⟨g2, h1, h2, h3⟩ := hg.ex
  refine PS.imp (ps_setLC (tc := upT X.g3 tA) (te := upE X.g3 te) T hN hix hx S hc hi h1 h2 hf he hsw hfn hs) fun D σ H ⟨τ, L, D3, rs, rl, z, k⟩ => ?_
  refine up_lc h3 σ H _ ⟨τ, L, _, rs, rl, z, fun v H1 y L1 t1 rl1 rv1 z1 => ?_⟩
  exact k.nx _ H1 _ L1 t1 (show RelS _ _ _ (set3 τ i y) by rw [set3_eq]; exact (rs.ts t1).set rv1) rl1 z1
/-! ### calls of defs -/
def dn (G : G3) (sp : Sp3) : Sp := fun vs H Q _ => ∃ ys L Q3, RVs G H ys vs ∧ RelH G H L ∧ sp ys L Q3 ∧ Aft G H Q3 Q
abbrev Cal3 (P : Program) (w : World) (K : PySem.W.Frag) (mg : Str → Option Value) (base : Heap) (k : Nat) (x : Str) (ps : List Str) (sp : Sp3) : Prop := Cal P w K mg base k x ps (dn ⟨K, P, w⟩ sp)
abbrev Fn3 (P : Program) (w : World) (K : PySem.W.Frag) (mg : Str → Option Value) (base : Heap) (k : Nat) (f : Addr) (fd : FuncData) (ps : List Str) (sp : Sp3) : Prop := FnOk P w K mg base CX0 k f fd ps (dn ⟨K, P, w⟩ sp)
theorem qe_c {k : Nat} {x : Str} {ps : List Str} {sp : Sp3} {p : Pos} (c : Cal3 X.prog X.w X.K X.mg X.base k x ps sp) (hr : Room k X.A) (hg : Gl X x) (ha : QA X (e :: es) tr) (hdb : (x == ("__debug__" : Str)) = false := by decide)
    (he : starEach (e :: es) X.env = (false, eval e X.env) :: starEach es X.env := by rfl) (hpl : (backTo pos (starEach es X.env)).any (·.1) = false := by rfl) : QE X (.Call (.Name x p) (e :: es) [] pos) (yCall sp tr) :=
  PE.imp (pe_c c hr hg ha hdb he hpl) fun σ H Q ⟨τ, L, Q3, rs, rl, z, k⟩ =>
  ⟨τ, L, _, rs, rl, z, fun vs H1 ys L1 t1 rl1 rv1 z1 => ⟨ys, L1, Q3, by rw [List.append_nil]; exact rv1, rl1, z1, k.ts t1⟩⟩
/-- what is told behind a def: what it made besides may be forgotten -/
def Fin3 (Q : YK) : YK := fun y L => ∃ L2, LSub L2 L ∧ Q y L2
def start3 (N : List Str) (ys : List Y) : St3 := ys.map some ++ List.replicate (N.length - ys.length) none
theorem start_rel {G : G3} {H : Hp} {N : List Str} {ys : List Y} {vs : List V} (r : RVs G H ys vs) : RelS G H (L2.start N vs) (start3 N ys) := by
  unfold L2.start start3
  rw [← r.length]
  refine RelS.more ⟨by simp [r.length], fun i y e => ?_⟩ _
  rw [List.getElem?_map] at e
  obtain ⟨y', e1, e2⟩ := Option.map_eq_some_iff.mp e
  cases e2
  obtain ⟨x, ex, rx⟩ := r.get e1
  exact ⟨x, by rw [List.getElem?_map, ex]; rfl, rx⟩
theorem ok3 {P : Program} {w : World} {K : PySem.W.Frag} {mg : Str → Option Value} {base : Heap} {x qual : Str} {st : Stmt} {f : Addr} {fd : FuncData} {N ps : List Str} {k : Nat} {sp : Sp3} (F : Fun K x qual st f fd) (S : FnScope N ps (defScope st)) (len : ∀ ys L Q, sp ys L Q → ys.length = ps.length)
    (hbody : ∀ (cdv : Value) (A : Around) (outer : List Env) (s : Shared) (H : Hp) (E : XK), Room k (A.deeper (PyProof.Rows.envOfC qual (defScope st) s.heap.objs.size f cdv)) →
      ∃ t, QSs (cxOf CX0 P w K mg base N qual (defScope st) f cdv A outer s H E).nox (defBody st) t ∧ ∀ ys L Q, sp ys L Q → t { nx := fun _ L' => Fin3 Q .non L', rt := Fin3 Q } (start3 N ys) L) : Fn3 P w K mg base (k + 1) f fd ps sp := by
  refine F.ok S (fun vs H Q E ⟨ys, L, Q3, rv, rl, z, _⟩ => by rw [← rv.length]; exact len ys L Q3 z) fun cdv A outer s H vs Q E hr ⟨ys, L, Q3, rv, rl, z, k⟩ => ?_
  obtain ⟨t, ht, q⟩ := hbody cdv A outer s H E hr
  refine ⟨_, ht, start3 N ys, L, _, start_rel rv, rl, q ys L Q3 z, ?_⟩
  refine ⟨fun σ H' τ L' t' rs' rl' ⟨L2, s2, q2⟩ => k .non H' .non L2 t' (rl'.sub s2) (by rfl) q2, fun v H' y L' t' rl' rv' ⟨L2, s2, q2⟩ => k v H' y L2 t' (rl'.sub s2) rv' q2, fun _ _ _ _ _ _ _ z => z.elim, fun _ _ _ _ _ _ _ z => z.elim⟩
/-! ### methods of lists -/
def upM (G : G3) (r : Y → List Y → LHp → YK → Prop) : V → List V → Hp → VK → Prop := fun x xs H Q => ∃ y ys L Q3, RV G H y x ∧ RVs G H ys xs ∧ RelH G H L ∧ r y ys L Q3 ∧ Aft G H Q3 Q
theorem q_append : MtM X "list.append" (upM X.g3 yAppend) := MtM.imp mt_append fun x xs H Q ⟨y, ys, L, Q3, r1, r2, rl, z, k⟩ => by
  unfold yAppend at z
  split at z
  · rename_i a v
    obtain ⟨zs, e, z⟩ := lstK_inv z
    obtain ⟨us, e2, r⟩ := rl a _ e
    obtain ⟨v', rfl, rv⟩ := r2.inv1
    exact ⟨a, us, v', r1, rfl, e2, by rw [← r.length]; exact z.1, k _ _ _ _ (TSt.lst e2) (rl.setL e2 (r.app (RVs.one rv))) (by rfl) z.2⟩
  · exact z.elim
theorem q_pop : MtM X "list.pop" (upM X.g3 yPop) := MtM.imp mt_pop fun x xs H Q ⟨y, ys, L, Q3, r1, r2, rl, z, k⟩ => by
  unfold yPop at z
  split at z
  · rename_i a
    obtain ⟨zs, e, z⟩ := lstK_inv z
    obtain ⟨us, e2, r⟩ := rl a _ e
    cases (show xs = [] from r2)
    cases el : zs[zs.length - 1]? with
    | none => rw [el] at z; exact z.elim
    | some v =>
      rw [el] at z
      obtain ⟨u, eu, ru⟩ := r.get el
      rw [r.length] at eu
      exact ⟨a, us, u, r1, rfl, e2, eu, k _ _ _ _ (TSt.lst e2) (rl.setL e2 r.dropLast) (ru.ts (TSt.lst e2)) z⟩
  · exact z.elim
theorem tyV_seq {G : G3} {H : Hp} {L : LHp} {a : Addr} {ys : List Y} (rl : RelH G H L) (h : seqOf L (.ref a) = some ys) : tyV G.K "list" (.ref a) H := by
  obtain ⟨xs, sq, _⟩ := seq_list rl h
  exact .inl ⟨rfl, xs, sq⟩
def yBL (r : Y → List Y → LHp → YK → Prop) (to : TE3) (t : TA3) (τ : St3) (L : LHp) (Q : YK) : Prop := to τ L fun x L1 => match x with
  | .ref a => seqK L1 (.ref a) fun _ => t τ L1 fun xs L2 => r (.ref a) xs L2 Q
  | _ => False
theorem qe_bl1 {id : String} {name : Str} {apos cpos : Pos} {r : Y → List Y → LHp → YK → Prop} (h2 : Slot "list" name id) (h3 : typeOf (.builtin id) = pure (.type "method_descriptor")) (hm : MtM X id (upM X.g3 r)) (ho : QE X o to) (ha : QA X (e :: es) tr)
    (h4 : attributeBase o name X.env (eval o X.env) = eval o X.env := by rfl)
    (h5 : ((backTo cpos (starEach (e :: es) X.env)).all (fun x => !x.1) && (backToKw cpos (keywordEach [] X.env)).all (fun x => x.1.isSome) && decide ((e :: es).length + ([] : List Keyword).length + (if ([] : List Keyword).isEmpty = true then 0 else 1) < 30)) = true := by rfl)
    (h6 : (apos.endLine == cpos.line) = true := by rfl) (h7 : starEach (e :: es) X.env = (false, eval e X.env) :: starEach es X.env := by rfl) (h8 : (backTo cpos (starEach es X.env)).any (·.1) = false := by rfl) :
    QE X (.Call (.Attribute o name apos) (e :: es) [] cpos) (yBL r to tr) := PE.imp (pe_bm PySem.F.plainAttrs_list h2 h3 hm ho ha h4 h5 h6 h7 h8) fun σ H Q ⟨τ, L, Q3, rs, rl, z, k⟩ =>
  ⟨τ, L, _, rs, rl, z, fun v H1 y L1 t1 rl1 rv1 z1 => by
    split at z1
    · rename_i a
      obtain ⟨ys, es, z1⟩ := seqK_inv z1
      exact ⟨by cases rv1; exact tyV_seq rl1 es, τ, L1, _, rs.ts t1, rl1, z1, fun vs H2 ys L2 t2 rl2 rv2 z2 => ⟨.ref a, ys, L2, Q3, rv1.ts t2, rv2, rl2, z2, k.ts (t1.trans t2)⟩⟩
    · exact z1.elim⟩
theorem qe_bl0 {id : String} {name : Str} {apos cpos : Pos} {r : Y → List Y → LHp → YK → Prop} (h2 : Slot "list" name id) (h3 : typeOf (.builtin id) = pure (.type "method_descriptor")) (hm : MtM X id (upM X.g3 r)) (ho : QE X o to)
    (h4 : attributeBase o name X.env (eval o X.env) = eval o X.env := by rfl) (h6 : (apos.endLine == cpos.line) = true := by rfl) :
    QE X (.Call (.Attribute o name apos) [] [] cpos) (yBL r to yNil) := PE.imp (pe_bm0 PySem.F.plainAttrs_list h2 h3 hm ho h4 h6) fun σ H Q ⟨τ, L, Q3, rs, rl, z, k⟩ =>
  ⟨τ, L, _, rs, rl, z, fun v H1 y L1 t1 rl1 rv1 z1 => by
    split at z1
    · rename_i a
      obtain ⟨ys, es, z1⟩ := seqK_inv z1
      exact ⟨by cases rv1; exact tyV_seq rl1 es, .ref a, [], L1, Q3, rv1, rfl, rl1, z1, k.ts t1⟩
    · exact z1.elim⟩
theorem qe_append {apos cpos : Pos} (ho : QE X o to) (ha : QA X (e :: es) tr) (h4 : attributeBase o "append" X.env (eval o X.env) = eval o X.env := by rfl)
    (h5 : ((backTo cpos (starEach (e :: es) X.env)).all (fun x => !x.1) && (backToKw cpos (keywordEach [] X.env)).all (fun x => x.1.isSome) && decide ((e :: es).length + ([] : List Keyword).length + (if ([] : List Keyword).isEmpty = true then 0 else 1) < 30)) = true := by rfl)
    (h6 : (apos.endLine == cpos.line) = true := by rfl) (h7 : starEach (e :: es) X.env = (false, eval e X.env) :: starEach es X.env := by rfl) (h8 : (backTo cpos (starEach es X.env)).any (·.1) = false := by rfl) :
    QE X (.Call (.Attribute o "append" apos) (e :: es) [] cpos) (yBL yAppend to tr) := qe_bl1 PySem.F.slot_list_append PySem.F.type_list_append q_append ho ha h4 h5 h6 h7 h8
theorem qe_pop {apos cpos : Pos} (ho : QE X o to) (h4 : attributeBase o "pop" X.env (eval o X.env) = eval o X.env := by rfl) (h6 : (apos.endLine == cpos.line) = true := by rfl) :
    QE X (.Call (.Attribute o "pop" apos) [] [] cpos) (yBL yPop to yNil) := qe_bl0 PySem.F.slot_list_pop PySem.F.type_list_pop q_pop ho h4 h6
end
end L3

namespace L3
open PySem L2
abbrev yMul : R23 := yI CMul fun i j => .int (i * j)
abbrev yFdiv : R23 := yI CDiv fun i j => .int (i / j)
abbrev yMod : R23 := yI (fun _ j => 0 < j) fun i j => .int (i % j)
abbrev yPow : R23 := yI CPow fun i j => .int (i ^ j.toNat)
abbrev yLt : R23 := yI0 fun i j => .bl (decide (i < j))
abbrev yLe : R23 := yI0 fun i j => .bl (decide (i ≤ j))
abbrev yGt : R23 := yI0 fun i j => .bl (decide (j < i))
/-- a constant of the top -/
structure TopC (G : G3) (mg : Str → Option Value) (x : Str) (y : Y) : Prop where
  ex : ∃ c, mg x = some (.ref c) ∧ ∀ H, RV G H y (.ref c)
theorem qe_top {X : Cx} {x : Str} {y : Y} {pos : Pos} (t : TopC X.g3 X.mg x y) (hg : Gl X x) (hd : (x == ("__debug__" : Str)) = false := by decide) : QE X (.Name x pos) (yC y) := by
  obtain ⟨c, hm, q⟩ := t.ex
  exact qe_gr hg hm q hd
/-! ### a dict of written texts -/
/-! ### an item of a written list, of a written dict -/
theorem seqOf_sub {L L' : LHp} (s : LSub L L') {y : Y} {ys : List Y} (h : seqOf L y = some ys) : seqOf L' y = some ys := by
  cases y with
  | tup zs => exact h
  | sq zs => exact h
  | ref a =>
    have h' : (match L a with | some (.lst ys) => some ys | _ => none) = some ys := h
    split at h'
    · rename_i e; cases h'; exact seqOf_lst (s _ _ e)
    · cases h'
  | _ => cases h
def Pure3 (t : TE3) : Prop := ∀ τ L Q, t τ L Q → ∃ v, Q v L ∧ ∀ L' Q', LSub L L' → Q' v L' → t τ L' Q'
theorem pu_var (i : Nat) : Pure3 (yVar i) := fun τ L Q h => by
  unfold yVar at h ⊢
  split at h
  · rename_i y e; exact ⟨y, h, fun L' Q' _ q => q⟩
  · exact h.elim
theorem pu_c (y : Y) : Pure3 (yC y) := fun _ _ _ h => ⟨y, h, fun _ _ _ q => q⟩
theorem pu_I {C : Int → Int → Prop} {g : Int → Int → Y} {ta tb : TE3} (ha : Pure3 ta) (hb : Pure3 tb) : Pure3 (yOp (yI C g) ta tb) := fun τ L Q h => by
  obtain ⟨x, h1, k1⟩ := ha τ L _ h
  obtain ⟨y, h2, k2⟩ := hb τ L _ h1
  cases x with
  | int i =>
    cases y with
    | int j => exact ⟨g i j, h2.2, fun L' Q' s q => k1 L' _ s (k2 L' _ s ⟨h2.1, q⟩)⟩
    | _ => exact h2.elim
  | _ => cases y <;> exact h2.elim
theorem atK_inv {α : Type} {L : LHp} {Q : α → LHp → Prop} {o : Option α} (h : atK L Q o) : ∃ v, o = some v ∧ Q v L := by
  cases o with
  | none => exact h.elim
  | some v => exact ⟨v, rfl, h⟩
def yPick (t : TA3) (ti : TE3) (τ : St3) (L : LHp) (Q : YK) : Prop := t τ L fun ys L1 => match Nat.ble ys.length 1000 with
  | true => ti τ L1 fun i L2 => match i with
    | .int i => atK L2 Q (atI ys i)
    | _ => False
  | false => False
theorem qe_pick {X : Cx} {es : List Expr} {b : Expr} {tr : TA3} {tb : TE3} {pos lp : Pos} (h : QA X es tr) (hb : QE X b tb) (pu : Pure3 tb) (hp : PlainIx b) : QE X (.Subscript (.List es lp) b pos) (yPick tr tb) := PE.imp (pe_ix (q_ixK X.K X.prog X.w) (pe_lst h) hb hp) fun σ H Q ⟨τ, L, Q3, rs, rl, z, k⟩ => by
  refine ⟨τ, L, _, rs, rl, z, fun vs H1 ys L1 t1 rl1 rv1 z1 => ?_⟩
  cases e : Nat.ble ys.length 1000 with
  | false => rw [e] at z1; exact z1.elim
  | true =>
    rw [e] at z1
    have := Nat.le_of_ble_eq_true e
    refine ⟨small (by rw [← rv1.length]; exact this), fun p hp => ?_⟩
    obtain ⟨v, zv, kv⟩ := pu τ L1 _ z1
    have sb : LSub L1 (updL L1 p (.lst ys)) := LSub.new (rl1.none hp)
    refine ⟨τ, updL L1 p (.lst ys), fun v' L' => v' = v ∧ L' = updL L1 p (.lst ys), rs.ts (t1.trans (TSt.new hp)), rl1.newL hp rv1, kv _ _ sb ⟨rfl, rfl⟩, ?_⟩
    rintro v2 H2 y2 L2 t2 rl2 rv2 ⟨rfl, rfl⟩
    refine ⟨.ref p, y2, _, fun y L' => L' = updL L1 p (.lst ys) ∧ Q3 y L1, rfl, rv2, rl2, ?_, ?_⟩
    · cases y2 with
      | int i =>
        obtain ⟨u, eu, qu⟩ := atK_inv zv
        refine seqL_of updL_same ?_
        rw [eu]
        exact ⟨rfl, qu⟩
      | _ => exact zv.elim
    · rintro v3 H3 y3 L3 t3 rl3 rv3 ⟨rfl, q3⟩
      exact k v3 H3 y3 L1 (t1.trans ((TSt.new hp).trans (t2.trans t3))) (rl3.sub sb) rv3 q3
/-! ### the forms one uses -/
theorem ints_at {lo : Int} {n i : Nat} {y : Y} (h : (intsY lo n)[i]? = some y) : i < n ∧ y = .int (lo + i) := by
  unfold intsY at h
  rw [List.getElem?_map] at h
  obtain ⟨z, ez, e⟩ := Option.map_eq_some_iff.mp h
  have hi : i < n := by
    by_cases c : i < n
    · exact c
    · rw [List.getElem?_eq_none (by simp; omega)] at ez; cases ez
  rw [List.getElem?_range hi] at ez; cases ez
  exact ⟨hi, e.symm⟩
theorem ints_len (lo : Int) (n : Nat) : (intsY lo n).length = n := by simp [intsY]
theorem for_rng {lo : Int} {n : Nat} {g : TG3} {tb : TS3} {D : Ends3} {τ : St3} {L : LHp} (W : Nat → St3 → LHp → Prop) (h0 : W 0 τ L)
    (hs : ∀ i τ L, i < n → W i τ L → g (.int (lo + i)) τ L fun τ2 L2 => tb { D with nx := Frg (W (i + 1)), ct := Frg (W (i + 1)), bk := D.nx } τ2 L2) (hd : ∀ τ L, W n τ L → D.nx τ L) : forK (intsY lo n) (fun _ => True) g tb D τ L := by
  refine forK_mk ⟨W, h0, fun _ _ _ _ => trivial, fun i y τ L e w => ?_, fun τ L w => hd τ L (by rw [ints_len] at w; exact w)⟩
  obtain ⟨hi, rfl⟩ := ints_at e
  exact hs i τ L hi w
theorem seqOf_ex {L : LHp} {a : Addr} {ys : List Y} (h : seqOf L (.ref a) = some ys) : ∃ o, L a = some o := by
  have h' : (match L a with | some (.lst ys) => some ys | _ => none) = some ys := h
  split at h'
  · rename_i e; exact ⟨_, e⟩
  · cases h'
theorem seqOf_ne {L : LHp} {a p : Addr} {ys : List Y} (h : seqOf L (.ref a) = some ys) (hp : L p = none) : a ≠ p := by
  obtain ⟨o, e⟩ := seqOf_ex h; exact neL e hp
theorem pop_go {τ : St3} {L : LHp} {a : Addr} {ys : List Y} {v : Y} {Q : YK} (e : L a = some (.lst (ys ++ [v]))) (q : Q v (updL L a (.lst ys))) : seqK L (.ref a) (fun _ => yNil τ L fun xs L2 => yPop (.ref a) xs L2 Q) := by
  refine seqL_of e (lstK_of e ?_)
  have : (ys ++ [v])[(ys ++ [v]).length - 1]? = some v := by simp
  rw [this, List.dropLast_concat]
  exact q
/-- over a list that the body leaves as it is -/
theorem for_lst {g : TG3} {tb : TS3} {D : Ends3} {τ : St3} {L : LHp} {a : Addr} {ys : List Y} (h : seqOf L (.ref a) = some ys) (W : Nat → St3 → LHp → Prop) (h0 : W 0 τ L) (hk : ∀ i τ L', W i τ L' → L' a = L a)
    (hs : ∀ i y τ L, ys[i]? = some y → W i τ L → g y τ L fun τ2 L2 => tb { D with nx := Frg (W (i + 1)), ct := Frg (W (i + 1)), bk := D.nx } τ2 L2) (hd : ∀ τ L, W ys.length τ L → D.nx τ L) :
    lisK L a fun ys keep L1 => forK ys keep g tb D τ L1 := lisK_of (seqOf_inv h) fun keep kp => forK_mk ⟨W, h0, fun i τ L' w => kp L' (hk i τ L' w), hs, hd⟩
/-- a comprehension that changes nothing, by an invariant of what it gathers -/
theorem lc_inv {ys : List Y} {keep : LHp → Prop} {L : LHp} {n : Nat} {g : TG3} {tc : TT3} {te : TE3} {τ : St3} {Q : YK} (I : Nat → List Y → Prop) (hz : ys.length < sizeLine) (hk : keep L) (h0 : I 0 [])
    (turn : ∀ (i : Nat) y zs, ys[i]? = some y → I i zs → g y (τ ++ List.replicate n none) L fun τ2 L2 => tc τ2 L2 fun b L3 => yite b (te τ2 L3 fun z L4 => Frg (fun zs L' => L' = L ∧ I (i + 1) zs) (zs ++ [z]) L4) (Frg (fun zs L' => L' = L ∧ I (i + 1) zs) zs L3))
    (hq : ∀ zs, I ys.length zs → ∀ p, L p = none → Q (.ref p) (updL L p (.lst zs))) : lcK ys keep n g tc te τ L Q := by
  refine lcK_mk ⟨hz, fun i zs L' => L' = L ∧ I i zs, ⟨rfl, h0⟩, ?_, ?_, ?_⟩
  · rintro i zs L' ⟨rfl, _⟩; exact hk
  · rintro i y zs L' ey ⟨rfl, hI⟩
    exact turn i y zs ey hI
  · rintro zs L' ⟨rfl, hI⟩ p hp
    exact hq zs hI p hp
theorem lc_rng {lo : Int} {m : Nat} {L : LHp} {n : Nat} {g : TG3} {tc : TT3} {te : TE3} {τ : St3} {Q : YK} (I : Nat → List Y → Prop) (hz : m < sizeLine) (h0 : I 0 [])
    (turn : ∀ (i : Nat) zs, i < m → I i zs → g (.int (lo + i)) (τ ++ List.replicate n none) L fun τ2 L2 => tc τ2 L2 fun b L3 => yite b (te τ2 L3 fun z L4 => Frg (fun zs L' => L' = L ∧ I (i + 1) zs) (zs ++ [z]) L4) (Frg (fun zs L' => L' = L ∧ I (i + 1) zs) zs L3))
    (hq : ∀ zs, I m zs → ∀ p, L p = none → Q (.ref p) (updL L p (.lst zs))) : lcK (intsY lo m) (fun _ => True) n g tc te τ L Q := by
  refine lc_inv (keep := fun _ => True) I (by rw [ints_len]; exact hz) trivial h0 (fun i y zs e hI => ?_) fun zs hI => hq zs (by rw [ints_len] at hI; exact hI)
  obtain ⟨hi, rfl⟩ := ints_at e
  exact turn i zs hi hI
theorem cutY_from (ys : List Y) (n : Nat) : cutY ys (some ((n : Nat) : Int)) none = ys.drop n := by
  unfold cutY
  rw [HT.sIx_nat, HT.sIx_none]
  by_cases h : n ≤ ys.length
  · rw [Nat.min_eq_left h, List.take_of_length_le (by rw [List.length_drop]; omega)]
  · rw [Nat.min_eq_right (by omega), List.drop_of_length_le (Nat.le_refl _), List.drop_of_length_le (by omega), List.take_nil]
theorem cutY_to (ys : List Y) (n : Nat) : cutY ys none (some ((n : Nat) : Int)) = ys.take n := by
  unfold cutY
  rw [HT.sIx_nat, HT.sIx_none, List.drop_zero, Nat.sub_zero]
  by_cases h : n ≤ ys.length
  · rw [Nat.min_eq_left h]
  · rw [Nat.min_eq_right (by omega), List.take_of_length_le (Nat.le_refl _), List.take_of_length_le (by omega)]
theorem atI_map {ws : List α} {f : α → Y} {i : Nat} {w : α} (h : ws[i]? = some w) : atI (ws.map f) (i : Int) = some (f w) := atI_nat (by rw [List.getElem?_map, h]; rfl)
/-- a comprehension that changes nothing, by what each turn tells -/
theorem lc_pure {ys : List Y} {keep : LHp → Prop} {L : LHp} {n : Nat} {g : TG3} {tc : TT3} {te : TE3} {τ : St3} {Q : YK} (f : Y → Option Y) (hz : ys.length < sizeLine) (hk : keep L)
    (turn : ∀ (i : Nat) y (W : List Y → LHp → Prop) zs, ys[i]? = some y → W (zs ++ (f y).toList) L → g y (τ ++ List.replicate n none) L fun τ2 L2 => tc τ2 L2 fun b L3 => yite b (te τ2 L3 fun z L4 => Frg W (zs ++ [z]) L4) (Frg W zs L3))
    (hq : ∀ p, L p = none → Q (.ref p) (updL L p (.lst (ys.filterMap f)))) : lcK ys keep n g tc te τ L Q := by
  refine lcK_mk ⟨hz, fun i zs L' => L' = L ∧ zs = (ys.take i).filterMap f, ⟨rfl, by simp⟩, ?_, ?_, ?_⟩
  · rintro i zs L' ⟨rfl, _⟩; exact hk
  · rintro i y zs L' ey ⟨rfl, rfl⟩
    refine turn i y _ _ ey ⟨rfl, ?_⟩
    rw [List.take_succ, ey, List.filterMap_append]
    congr 1
  · rintro zs L' ⟨rfl, rfl⟩ p hp
    rw [List.take_length]
    exact hq p hp
/-- a body's run -/
def run3 (t : TS3) (n : Nat) (ys : List Y) (L : LHp) (Q : YK) : Prop := t { nx := fun _ L' => Fin3 Q .non L', rt := Fin3 Q } (ys.map some ++ List.replicate (n - ys.length) none) L
theorem fin {Q : YK} {y : Y} {L : LHp} (h : Q y L) : Fin3 Q y L := ⟨L, LSub.refl L, h⟩
theorem finS {Q : YK} {y : Y} {L L' : LHp} (s : LSub L L') (h : Q y L) : Fin3 Q y L' := ⟨L, s, h⟩
theorem Fn3.never {P : Program} {w : World} {K : PySem.W.Frag} {mg : Str → Option Value} {base : Heap} {k : Nat} {ps : List Str} {sp : Sp3} {f : Addr} {fd : FuncData} (no : ∀ ys L Q, ¬ sp ys L Q) : Fn3 P w K mg base k f fd ps sp :=
  FnOk.never fun vs H Q E ⟨ys, L, Q3, _, _, z, _⟩ => no ys L Q3 z
end L3
namespace L3
open PySem L2
theorem LSub.upd {L L' : LHp} {a : Addr} {o : LO} (s : LSub L L') (h : L a = none) : LSub L (updL L' a o) := fun b u e => by
  rw [updL_ne (neL e h)]; exact s b u e
theorem LSub.put {L L' : LHp} {a : Addr} {o : LO} (s : LSub L L') (h : L' a = some o) : LSub (updL L a o) L' := fun b u e => by
  by_cases c : b = a
  · subst c; rw [updL_same] at e; cases e; exact h
  · rw [updL_ne c] at e; exact s b u e
/-! ### the law itself -/
def sp_law : Sp3 := fun ys L Q => ∃ ns : List Int, ys = [.sq (ns.map Y.int)] ∧ ns.length ≤ 63 ∧ L = (fun _ => none) ∧ ∀ L', Q (.bl true) L'
def spTop (K : PySem.W.Frag) : Sp := fun vs H Q _ => ∃ (a : Addr) (ns : List Int), vs = [.ref a] ∧ SqF K H a (ns.map V.int) ∧ ns.length ≤ 63 ∧ ∀ H', Q (.bl true) H'
theorem rvs_ints {G : G3} {H : Hp} : ∀ ns : List Int, RVs G H (ns.map Y.int) (ns.map V.int)
  | [] => rfl
  | _ :: r => ⟨_, _, rfl, rfl, rvs_ints r⟩
theorem top_dn {G : G3} {vs : List V} {H : Hp} {Q : VK} {E : XK} (h : spTop G.K vs H Q E) : dn G sp_law vs H Q E := by
  obtain ⟨a, ns, rfl, hs, hl, q⟩ := h
  refine ⟨[.sq (ns.map Y.int)], fun _ => none, fun y _ => y = .bl true, RVs.one ⟨a, _, rfl, hs, rvs_ints ns⟩, (fun _ _ e => by cases e), ⟨ns, rfl, hl, rfl, fun _ => rfl⟩, ?_⟩
  rintro v H' y L' _ _ rv rfl
  cases rv
  exact q H'
theorem top_start : ∀ (K : PySem.W.Frag) (H : Hp) (a : Addr) (ns : List Int), ns.length ≤ 63 → Only H → SqL K H a (ns.map V.int) → spTop K [.ref a] H (fun v _ => v = .bl true) fun _ _ _ => False := by
  intro K H a ns hl hO hS
  refine ⟨a, ns, rfl, ?_, hl, fun _ => rfl⟩
  rcases hS with (h | ⟨o, h⟩) | h
  · rcases hO a with z | ⟨o, xs, z⟩ <;> rw [h] at z <;> cases z
  · exact .inl ⟨o, h⟩
  · exact .inr h
end L3

namespace L2
open PySem PySem.Spec PyProof.Rows
/-! ### records of one's own that turn, several at once; with a new thing laid -/
section
variable {X : Cx} {pins : List (Addr × Obj)} {σ : L2.St} {H : Hp} {s : Shared} {h' : Heap}
end
/-! ### enumerate over a list -/
end L2
namespace L3
open PySem L2
end L3

namespace L2
open PySem PySem.Spec PyProof.Rows
/-! ### zip over two lists or tuples -/
section
variable {prog : Program} {w : World} {A : Around} {E : Value → Shared → Prop} {s : Shared}
end
end L2

namespace L2
open PySem PySem.Spec PyProof.Rows
section
variable {prog : Program} {w : World} {A : Around} {E : Value → Shared → Prop} {s : Shared}
end
section
variable {X : Cx} {pins : List (Addr × Obj)} {σ : L2.St} {H : Hp} {s : Shared}
end
end L2
namespace L3
open PySem L2
end L3

namespace L3
open PySem L2
/-! ### list(x) -/
def yListOf (xs : List Y) (L : LHp) (Q : YK) : Prop := match xs with
  | [x] => seqK L x fun ys => ∀ p, L p = none → Q (.ref p) (updL L p (.lst ys))
  | _ => False
theorem q_listOf {X : Cx} : CallR X (.type "list") (upL X.g3 yListOf) := CallR.imp call_list_of fun xs H Q ⟨ys, L, Q3, rv, rl, z, k⟩ => by
  unfold yListOf at z
  split at z
  · rename_i x
    obtain ⟨u, rfl, ru⟩ := rv.inv1
    obtain ⟨zs, ez, z⟩ := seqK_inv z
    obtain ⟨p, us, e, sq, r⟩ := seq_sq rl ru ez
    subst e
    exact ⟨p, us, rfl, sq, fun l hl => k _ _ _ _ (TSt.new hl) (rl.newL hl r) (by rfl) (z l (rl.none hl))⟩
  · exact z.elim
theorem qe_callT {X : Cx} {x : Str} {T : String} {e : Expr} {es : List Expr} {tr : TA3} {p pos : Pos} {r : List Y → LHp → YK → Prop} (hc : CallR X (.type T) (upL X.g3 r)) (hg : Gl X x) (hm : X.mg x = none) (hv : bootBuiltins x = some (.type T)) (h : QA X (e :: es) tr)
    (hn : x ≠ "__name__" := by decide) (hd : (x == ("__debug__" : Str)) = false := by decide) (hs : starEach (e :: es) X.env = (false, eval e X.env) :: starEach es X.env := by rfl) (hp : (backTo pos (starEach es X.env)).any (·.1) = false := by rfl) :
    QE X (.Call (.Name x p) (e :: es) [] pos) (yCB r tr) := PE.imp (pe_callTy hc hg hm hv h hn hd hs hp) fun σ H Q ⟨τ, L, Q3, rs, rl, z, k⟩ =>
  ⟨τ, L, _, rs, rl, z, fun vs H1 ys L1 t1 rl1 rv1 z1 => ⟨ys, L1, Q3, rv1, rl1, z1, k.ts t1⟩⟩
/-! ### pop at a place -/
end L3

namespace L2
open PySem PySem.Spec PyProof.Rows
section
variable {X : Cx}
/-! ### slices of texts -/
def rSlS : V → Option Int → Option Int → Hp → VK → Prop := fun x lo hi H Q => ∃ z, x = .str z ∧ z.length ≤ sizeLine ∧ Q (.str (Txt.slice z lo hi)) H
theorem sl_str : SlR X rSlS := by
  intro pins s σ H x v vl vu lo hi sl Q I rx hs pl pu h
  obtain ⟨z, rfl, hz, q⟩ := h
  obtain ⟨t, rfl⟩ := rx
  obtain ⟨l, rfl, hl⟩ : ∃ l : Option (Int × Tok), vl = partValue l ∧ l.map (·.1) = lo := by
    cases pl with
    | none => exact ⟨none, rfl, rfl⟩
    | int i t => exact ⟨some (i, t), rfl, rfl⟩
  obtain ⟨u, rfl, hu⟩ : ∃ u : Option (Int × Tok), vu = partValue u ∧ u.map (·.1) = hi := by
    cases pu with
    | none => exact ⟨none, rfl, rfl⟩
    | int i t => exact ⟨some (i, t), rfl, rfl⟩
  subst hl hu
  refine ⟨"str", _, F.slot_str_getitem.lookup, typeIs_str _ _ _, wpAny_pos I.tk (wpAny_getItem_str_slice (l := l) (u := u) (st := none) hs rfl ?_)⟩
  exact post_val_or_str ⟨Nat.le_trans (Txt.slice_le z _ _) hz, fun t' k ht => ⟨.str _, H, I.tok _, ⟨t', rfl⟩, q⟩⟩
/-! ### join -/
theorem strsAre_of {zs : List Str} : ∀ {us : List Value}, Vals (zs.map V.str) us → StrsAre us zs := by
  induction zs with
  | nil => intro us r; rw [List.map_nil] at r; cases r; exact .nil
  | cons z zs ih =>
    intro us r
    rw [List.map_cons] at r
    cases r with
    | cons r1 r2 =>
      obtain ⟨t, e⟩ := r1
      subst e
      exact .cons z t (ih r2)
def rJoin (K : PySem.W.Frag) : V → List V → Hp → VK → Prop := fun x vs H Q => ∃ z a zs, x = .str z ∧ vs = [.ref a] ∧ SqL K H a ((zs : List Str).map V.str) ∧ (zs.map (·.length)).sum + zs.length * z.length ≤ 16777216 ∧ Q (.str (Txt.join z zs)) H
theorem mt_join : MtM X "str.join" (rJoin X.K) := by
  intro pins s σ H x vs v us Q I rx rv h
  obtain ⟨z, a, zs, rfl, rfl, hq, hz, q⟩ := h
  obtain ⟨t, rfl⟩ := rx
  obtain ⟨u, rfl, ru⟩ := rv.one
  cases ru
  obtain ⟨its, r, p, _⟩ := I.list hq
  exact wpAny_pos I.tk (PyProof.Rows.join_list p.isList (by simpa using strsAre_of r) hz fun t' k ht => ⟨.str _, H, I.tok _, ⟨t', rfl⟩, q⟩)
end
end L2

namespace L3
open PySem L2
/-- x[lo:hi]: a text, a list -/
def ySlU (x : Y) (lo hi : Option Int) (L : LHp) (Q : YK) : Prop := match x with
  | .str z => z.length ≤ sizeLine ∧ Q (.str (Txt.slice z lo hi)) L
  | x => ySlL x lo hi L Q
theorem q_slU {X : Cx} (K : PySem.W.Frag) (P : Program) (w : World) (hK : X.K = K := by rfl) (hP : X.prog = P := by rfl) (hw : X.w = w := by rfl) : SlR X (upSl ⟨K, P, w⟩ ySlU) := by
  refine SlR.imp (sl_str.or (q_slL K P w hK hP hw)) fun x lo hi H Q ⟨y, L, Q3, rv, rl, z, k⟩ => ?_
  cases y with
  | str s => exact .inl ⟨s, rv, z.1, k _ H _ L (TSt.refl _) rl (by rfl) z.2⟩
  | _ => exact .inr ⟨_, L, Q3, rv, rl, z, k⟩
/-! ### methods of texts -/
def yBS (r : Y → List Y → LHp → YK → Prop) (to : TE3) (t : TA3) (τ : St3) (L : LHp) (Q : YK) : Prop := to τ L fun x L1 => match x with
  | .str z => t τ L1 fun xs L2 => r (.str z) xs L2 Q
  | _ => False
theorem qe_bs1 {X : Cx} {o e : Expr} {es : List Expr} {to : TE3} {tr : TA3} {id : String} {name : Str} {apos cpos : Pos} {r : Y → List Y → LHp → YK → Prop} (h2 : Slot "str" name id) (h3 : typeOf (.builtin id) = pure (.type "method_descriptor")) (hm : MtM X id (upM X.g3 r)) (ho : QE X o to) (ha : QA X (e :: es) tr)
    (h4 : attributeBase o name X.env (eval o X.env) = eval o X.env := by rfl)
    (h5 : ((backTo cpos (starEach (e :: es) X.env)).all (fun x => !x.1) && (backToKw cpos (keywordEach [] X.env)).all (fun x => x.1.isSome) && decide ((e :: es).length + ([] : List Keyword).length + (if ([] : List Keyword).isEmpty = true then 0 else 1) < 30)) = true := by rfl)
    (h6 : (apos.endLine == cpos.line) = true := by rfl) (h7 : starEach (e :: es) X.env = (false, eval e X.env) :: starEach es X.env := by rfl) (h8 : (backTo cpos (starEach es X.env)).any (·.1) = false := by rfl) :
    QE X (.Call (.Attribute o name apos) (e :: es) [] cpos) (yBS r to tr) := PE.imp (pe_bm PySem.F.plainAttrs_str h2 h3 hm ho ha h4 h5 h6 h7 h8) fun σ H Q ⟨τ, L, Q3, rs, rl, z, k⟩ =>
  ⟨τ, L, _, rs, rl, z, fun v H1 y L1 t1 rl1 rv1 z1 => by
    split at z1
    · rename_i s
      cases rv1
      exact ⟨rfl, τ, L1, _, rs.ts t1, rl1, z1, fun vs H2 ys L2 t2 rl2 rv2 z2 => ⟨.str s, ys, L2, Q3, rfl, rv2, rl2, z2, k.ts (t1.trans t2)⟩⟩
    · exact z1.elim⟩
theorem rvs_strs {G : G3} {H : Hp} : ∀ {zs : List Str} {xs : List V}, RVs G H (zs.map Y.str) xs → xs = zs.map V.str
  | [], _, h => h
  | z :: r, _, ⟨x, xs', e, q, s⟩ => by rw [e, show x = V.str z from q, rvs_strs s]; rfl
def yJoin (x : Y) (vs : List Y) (L : LHp) (Q : YK) : Prop := match x, vs with
  | .str z, [.ref a] => lstK L a fun ys => ∃ zs, ys = zs.map Y.str ∧ (zs.map (·.length)).sum + zs.length * z.length ≤ 16777216 ∧ Q (.str (Txt.join z zs)) L
  | _, _ => False
theorem q_join {X : Cx} : MtM X "str.join" (upM X.g3 yJoin) := MtM.imp mt_join fun x xs H Q ⟨y, ys, L, Q3, r1, r2, rl, z, k⟩ => by
  unfold yJoin at z
  split at z
  · rename_i s a
    obtain ⟨us, e, zs, rfl, hz, z⟩ := lstK_inv z
    obtain ⟨ws, e2, r⟩ := rl a _ e
    obtain ⟨u, rfl, ru⟩ := r2.inv1
    cases ru
    rw [rvs_strs r] at e2
    exact ⟨s, a, zs, r1, rfl, SqL.of e2, hz, k _ H _ L (TSt.refl _) rl (by rfl) z⟩
  · exact z.elim
theorem qe_join {X : Cx} {o e : Expr} {es : List Expr} {to : TE3} {tr : TA3} {apos cpos : Pos} (ho : QE X o to) (ha : QA X (e :: es) tr) (h4 : attributeBase o "join" X.env (eval o X.env) = eval o X.env := by rfl)
    (h5 : ((backTo cpos (starEach (e :: es) X.env)).all (fun x => !x.1) && (backToKw cpos (keywordEach [] X.env)).all (fun x => x.1.isSome) && decide ((e :: es).length + ([] : List Keyword).length + (if ([] : List Keyword).isEmpty = true then 0 else 1) < 30)) = true := by rfl)
    (h6 : (apos.endLine == cpos.line) = true := by rfl) (h7 : starEach (e :: es) X.env = (false, eval e X.env) :: starEach es X.env := by rfl) (h8 : (backTo cpos (starEach es X.env)).any (·.1) = false := by rfl) :
    QE X (.Call (.Attribute o "join" apos) (e :: es) [] cpos) (yBS yJoin to tr) := qe_bs1 PySem.F.slot_str_join PySem.F.type_str_join q_join ho ha h4 h5 h6 h7 h8
/-! ### isinstance with two types -/
/-! ### a statement behind which ways meet -/
def ySeqJ (t u : TS3) (D : Ends3) (τ : St3) (L : LHp) : Prop := ∃ J : St3 → LHp → Prop, t { D with nx := J } τ L ∧ ∀ τ' L', J τ' L' → u D τ' L'
theorem qss_consJ {X : Cx} {st : Stmt} {rest : List Stmt} {t u : TS3} (h : QS X st t) (k : QSs X rest u) : QSs X (st :: rest) (ySeqJ t u) := PSs.imp (pss_cons h k) fun D σ H ⟨τ, L, D3, rs, rl, ⟨J, z, q⟩, k⟩ =>
  ⟨τ, L, { D3 with nx := J }, rs, rl, z, fun σ1 H1 τ1 L1 t1 rs1 rl1 z1 => ⟨τ1, L1, D3, rs1, rl1, q τ1 L1 z1, k.ts t1⟩, k.rt, k.bk, k.ct⟩
end L3

namespace L3
open PySem L2
/-! ### exceptions, by classes and the heap of lists -/
abbrev X3 := St3 → Addr → LHp → Prop
abbrev Sp3X := List Y → LHp → YK → (Addr → LHp → Prop) → Prop
def upX (G : G3) (E3 : X3) : X1 := fun σ c H => ∃ C τ L, c = .ref C ∧ RelS G H σ τ ∧ RelH G H L ∧ E3 τ C L
def AftX (G : G3) (H : Hp) (E3 : Addr → LHp → Prop) (E : XK) : Prop := ∀ C H' L', TSt H H' → RelH G H' L' → E3 C L' → E (.ref C) none H'
def dnX (G : G3) (sp : Sp3X) : Sp := fun vs H Q E => ∃ ys L Q3 E3, RVs G H ys vs ∧ RelH G H L ∧ sp ys L Q3 E3 ∧ Aft G H Q3 Q ∧ AftX G H E3 E
/-- what is told of an exception: what was made besides may be forgotten -/
def FinX (E3 : Addr → LHp → Prop) : X3 := fun _ C L => ∃ L2, LSub L2 L ∧ E3 C L2
abbrev Fn3X (P : Program) (w : World) (K : PySem.W.Frag) (mg : Str → Option Value) (base : Heap) (k : Nat) (f : Addr) (fd : FuncData) (ps : List Str) (sp : Sp3X) : Prop := FnOk P w K mg base (CXE P w) k f fd ps (dnX ⟨K, P, w⟩ sp)
/-- a def that may raise, as its callers see it -/
structure Cal3X (P : Program) (w : World) (K : PySem.W.Frag) (mg : Str → Option Value) (base : Heap) (k : Nat) (x : Str) (ps : List Str) (sp : Sp3X) : Prop where
  ex : ∃ f fd, Fn3X P w K mg base k f fd ps sp ∧ Binds K fd ps [] ∧ PySem.W.keepIn K (.ref f) = true ∧ mg x = some (.ref f)
theorem Cal3X.mono {P : Program} {w : World} {K : PySem.W.Frag} {mg : Str → Option Value} {base : Heap} {j k : Nat} {x : Str} {ps : List Str} {sp : Sp3X} (c : Cal3X P w K mg base j x ps sp) (h : j ≤ k) : Cal3X P w K mg base k x ps sp := by
  obtain ⟨f, fd, F, b, kp, m⟩ := c.ex
  exact ⟨f, fd, F.mono h, b, kp, m⟩
theorem Inv.tst {X : Cx} {pins : List (Addr × Obj)} {σ : L2.St} {H : Hp} {s : Shared} (I : Inv X pins σ H s) : TSt X.H₀ H := fun a u i e => by
  cases u with
  | tup xs => exact I.base.tups a xs e
  | frz o u => exact I.base.frzs a o u e
  | _ => cases i
/-- a def's body takes them -/
theorem takes3 {P : Program} {w : World} {K : PySem.W.Frag} {mg : Str → Option Value} {base : Heap} {N : List Str} {qual : Str} {scope : Scope} {f : Addr} {cd : Value} {A : Around} {outer : List Env} {s : Shared} {H : Hp} {E : XK} {E3 : Addr → LHp → Prop} (h : AftX ⟨K, P, w⟩ H E3 E) :
    Takes (cxOf (CXE P w) P w K mg base N qual scope f cd A outer s H E) (upX ⟨K, P, w⟩ (FinX E3)) := by
  intro pins σ H' s' a C tr I L ap apT ⟨C', τ, L', ec, rs, rl, L2, sb, q⟩
  cases ec
  exact takes_cx pins σ H' s' a C tr I L ap apT (h C H' L2 (Inv.tst I) (rl.sub sb) q)
/-- f(..) that may raise -/
def yCallX (sp : Sp3X) (E3 : X3) (t : TA3) (τ : St3) (L : LHp) (Q : YK) : Prop := t τ L fun ys L1 => sp ys L1 Q (E3 τ)
def yRaise (C : Addr) (E3 : X3) (t : TA3) (_ : Ends3) (τ : St3) (L : LHp) : Prop := t τ L fun ys L1 => ys.length ≤ 1000 ∧ E3 τ C L1
section
variable {X : Cx} {e : Expr} {es : List Expr} {tr : TA3} {pos : Pos} {E3 : X3}
theorem qe_cX {k : Nat} {x : Str} {ps : List Str} {sp : Sp3X} {p : Pos} (c : Cal3X X.prog X.w X.K X.mg X.base k x ps sp) (hr : Room k X.A) (hg : Gl X x) (ht : Takes X (upX X.g3 E3)) (hx : X.ex = []) (ha : QA X (e :: es) tr) (hdb : (x == ("__debug__" : Str)) = false := by decide)
    (he : starEach (e :: es) X.env = (false, eval e X.env) :: starEach es X.env := by rfl) (hpl : (backTo pos (starEach es X.env)).any (·.1) = false := by rfl) : QE X (.Call (.Name x p) (e :: es) [] pos) (yCallX sp E3 tr) := by
  obtain ⟨f, fd, F, b, kp, m⟩ := c.ex
  refine PE.imp (pe_callX F hr hg m kp b ht hx ha hdb he hpl) fun σ H Q ⟨τ, L, Q3, rs, rl, z, k⟩ => ?_
  exact ⟨τ, L, _, rs, rl, z, fun vs H1 ys L1 t1 rl1 rv1 z1 => ⟨ys, L1, Q3, E3 τ, rv1, rl1, z1, k.ts t1, fun C H' L' t' rl' q => ⟨C, τ, L', rfl, rs.ts (t1.trans t'), rl', q⟩⟩⟩
theorem qs_raise {C : Addr} {x : Str} {np cpos : Pos} (c : XCls X.K C) (hg : Gl X x) (hm : X.mg x = some (.ref C)) (hc : X.calm = true) (ht : Takes X (upX X.g3 E3)) (hx : X.ex = []) (ha : QA X (e :: es) tr) (hdb : (x == ("__debug__" : Str)) = false := by decide)
    (he : starEach (e :: es) X.env = (false, eval e X.env) :: starEach es X.env := by rfl) (hpl : (backTo cpos (starEach es X.env)).any (·.1) = false := by rfl) :
    QS X (.Raise (some (.Call (.Name x np) (e :: es) [] cpos)) none pos) (yRaise C E3 tr) := PS.imp (ps_raise c hg hm hc ht hx ha hdb he hpl) fun D σ H ⟨τ, L, D3, rs, rl, z, k⟩ =>
  ⟨τ, L, _, rs, rl, z, fun vs H1 ys L1 t1 rl1 rv1 ⟨hl, z1⟩ => ⟨small (by rw [← rv1.length]; exact hl), C, τ, L1, rfl, rs.ts t1, rl1, z1⟩⟩
end
/-- THE RULE for a def that may raise -/
theorem ok3X {P : Program} {w : World} {K : PySem.W.Frag} {mg : Str → Option Value} {base : Heap} {x qual : Str} {st : Stmt} {f : Addr} {fd : FuncData} {N ps : List Str} {k : Nat} {sp : Sp3X} {t : X3 → TS3} (F : Fun K x qual st f fd) (S : FnScope N ps (defScope st)) (len : ∀ ys L Q E, sp ys L Q E → ys.length = ps.length)
    (hbody : ∀ (cdv : Value) (A : Around) (outer : List Env) (s : Shared) (H : Hp) (E : XK) (E3 : X3), Room k (A.deeper (PyProof.Rows.envOfC qual (defScope st) s.heap.objs.size f cdv)) →
      Takes (cxOf (CXE P w) P w K mg base N qual (defScope st) f cdv A outer s H E) (upX ⟨K, P, w⟩ E3) → QSs (cxOf (CXE P w) P w K mg base N qual (defScope st) f cdv A outer s H E) (defBody st) (t E3))
    (vc : ∀ ys L Q E, sp ys L Q E → t (FinX E) { nx := fun _ L' => Fin3 Q .non L', rt := Fin3 Q } (start3 N ys) L) : Fn3X P w K mg base (k + 1) f fd ps sp := by
  obtain ⟨oc, od, kV, doc, pm, an, cdv, ct, osl, rfl, lk, hcd⟩ := F.ex
  refine fn_of lk hcd S (fun vs H Q E ⟨ys, L, Q3, E3, rv, rl, z, _⟩ => by rw [← rv.length]; exact len ys L Q3 E3 z) fun A outer s H vs Q E hr ⟨ys, L, Q3, E3, rv, rl, z, k, kx⟩ => ?_
  refine ⟨_, hbody cdv A outer s H E (FinX E3) hr (takes3 kx), start3 N ys, L, _, start_rel rv, rl, vc ys L Q3 E3 z, ?_⟩
  exact ⟨fun σ H' τ L' t' rs' rl' ⟨L2, s2, q2⟩ => k .non H' .non L2 t' (rl'.sub s2) (by rfl) q2, fun v H' y L' t' rl' rv' ⟨L2, s2, q2⟩ => k v H' y L2 t' (rl'.sub s2) rv' q2, fun _ _ _ _ _ _ _ z => z.elim, fun _ _ _ _ _ _ _ z => z.elim⟩
end L3

namespace L3
open PySem L2
def clr3 : St3 → Nat → St3
  | [], _ => []
  | _ :: r, 0 => none :: r
  | o :: r, i + 1 => o :: clr3 r i
theorem clr3_eq : ∀ (τ : St3) (i : Nat), clr3 τ i = τ.set i none
  | [], _ => rfl
  | _ :: _, 0 => rfl
  | o :: r, i + 1 => by rw [clr3, clr3_eq r i]; rfl
theorem RelS.clr {G : G3} {H : Hp} {σ : L2.St} {τ : St3} (h : RelS G H σ τ) (i : Nat) : RelS G H (σ.set i none) (clr3 τ i) := by
  rw [clr3_eq]
  refine ⟨by simpa using h.len, fun j y e => ?_⟩
  by_cases hj : i = j
  · subst hj
    rw [List.getElem?_set] at e
    simp at e
  · rw [List.getElem?_set_ne hj] at e ⊢
    exact h.get j y e
def Dh3 (i : Nat) (D : Ends3) : Ends3 where
  nx := fun τ L => D.nx (clr3 τ i) L
  rt := D.rt
  bk := fun τ L => D.bk (clr3 τ i) L
  ct := fun τ L => D.ct (clr3 τ i) L
def AftX1 (G : G3) (H : Hp) (E3 : X3) (E1 : X1) : Prop := ∀ σ' C H' τ' L', TSt H H' → RelS G H' σ' τ' → RelH G H' L' → E3 τ' C L' → E1 σ' (.ref C) H'
def upSX (G : G3) (t : X3 → TS3) : X1 → L2.TS := fun E1 D σ H => ∃ τ L D3 E3, RelS G H σ τ ∧ RelH G H L ∧ t E3 D3 τ L ∧ AftD G H D3 D ∧ AftX1 G H E3 E1
/-- a try's body -/
def QB (X : Cx) (body : List Stmt) (t : X3 → TS3) : Prop := ∀ (pn : List (Addr × Obj)) (xe : Value → Shared → Prop) (E1 : X1), Takes (X.tr pn xe) E1 → PSs (X.tr pn xe) body (upSX X.g3 t E1)
def yTry (K : PySem.W.Frag) (Dc : Addr) (i : Nat) (tb : X3 → TS3) (th : TS3) (D : Ends3) (τ : St3) (L : LHp) : Prop :=
  tb (fun τ' C L' => PySem.W.exmOne K (.ref C) (.ref Dc) = some true ∧ ∀ a, L' a = none → th (Dh3 i D) (set3 τ' i (.ref a)) (updL L' a (.exc C))) D τ L
section
variable {X : Cx} {e : Expr} {es : List Expr} {tr : TA3} {pos cp : Pos}
theorem qb_expr {k : Nat} {x : Str} {ps : List Str} {sp : Sp3X} {p : Pos} (c : Cal3X X.prog X.w X.K X.mg X.base k x ps sp) (hr : Room k X.A) (hg : Gl X x) (hx : X.ex = []) (ha : ∀ pn xe, QA (X.tr pn xe) (e :: es) tr) (hdb : (x == ("__debug__" : Str)) = false := by decide)
    (he : starEach (e :: es) X.env = (false, eval e X.env) :: starEach es X.env := by rfl) (hpl : (backTo cp (starEach es X.env)).any (·.1) = false := by rfl) (hs : swapsWith (.Call (.Name x p) (e :: es) [] cp) none pos.line X.env = pure false := by rfl) :
    QB X [.Expr (.Call (.Name x p) (e :: es) [] cp) pos] (fun E3 => yDrop (yCallX sp E3 tr)) := by
  obtain ⟨f, fd, F, b, kp, m⟩ := c.ex
  intro pn xe E1 ht
  refine PSs.imp (pss_one (ps_expr (pe_callX (X := X.tr pn xe) F hr hg m kp b ht hx (ha pn xe) hdb he hpl) hs)) fun D σ H ⟨τ, L, D3, E3, rs, rl, z, k, kx⟩ => ?_
  exact ⟨τ, L, _, rs, rl, z, fun vs H1 ys L1 t1 rl1 rv1 z1 => ⟨ys, L1, _, E3 τ, rv1, rl1, z1, (fun v H2 y L2 t2 rl2 rv2 z2 => k.nx _ H2 _ L2 (t1.trans t2) (rs.ts (t1.trans t2)) rl2 z2), fun C H' L' t' rl' q => kx σ C H' τ L' (t1.trans t') (rs.ts (t1.trans t')) rl' q⟩⟩
theorem qs_try {Dc : Addr} {i : Nat} {n x : Str} {np hpos : Pos} {body suite : List Stmt} {b₀ : Stmt} {tb : X3 → TS3} {th : TS3} (hs : X.stack = X.env :: X.outer) (hf : X.env.frame = some X.env.locals) (hx : X.ex = []) (hN : X.N.Nodup) (hi : X.N[i]? = some n)
    (hk : X.env.scope.names.lookup n = some .local) (hg : Gl X x) (hm : X.mg x = some (.ref Dc)) (hb : QB X body tb) (hh : ∀ a, QSs (X.hnd a) (b₀ :: suite) th)
    (hdb : (x == ("__debug__" : Str)) = false := by decide) : QS X (.Try body [.ExceptHandler (some (.Name x np)) (some n) (b₀ :: suite) hpos] [] [] pos) (yTry X.K Dc i tb th) :=
  PS.imp (ps_try (tb := upSX X.g3 tb) (th := upS X.g3 th) hs hf hx hN hi hk hg hm hb hh hdb) fun D σ H ⟨τ, L, D3, rs, rl, z, k⟩ => by
  show upSX X.g3 tb (hndX X.K Dc i (upS X.g3 th) D) D σ H
  refine ⟨τ, L, D3, _, rs, rl, z, k, fun σ' C H' τ' L' t' rs' rl' ⟨em, q⟩ => ⟨C, rfl, em, fun a oe ha hc => ?_⟩⟩
  have ta : TSt H' (upd H' a (.frz oe (.own 0))) := TSt.new ha
  refine ⟨set3 τ' i (.ref a), updL L' a (.exc C), Dh3 i D3, by rw [set3_eq]; exact (rs'.ts ta).set rfl, fun b u e => ?_, q a (rl'.none ha), ?_⟩
  · by_cases c : b = a
    · subst c
      rw [updL_same] at e; cases e
      exact ⟨oe, upd_same, hc⟩
    · rw [updL_ne c] at e
      exact (rl' b u e).keep ta (upd_ne c)
  · have k2 := k.ts (t'.trans ta)
    exact ⟨fun σ2 H2 τ2 L2 t2 rs2 rl2 z2 => k2.nx _ H2 _ L2 t2 (rs2.clr i) rl2 z2, k2.rt, fun σ2 H2 τ2 L2 t2 rs2 rl2 z2 => k2.bk _ H2 _ L2 t2 (rs2.clr i) rl2 z2, fun σ2 H2 τ2 L2 t2 rs2 rl2 z2 => k2.ct _ H2 _ L2 t2 (rs2.clr i) rl2 z2⟩
end
end L3

namespace L3
open PySem L2
@[irreducible] def excK (L : LHp) (a : Addr) (k : Addr → Prop) : Prop := match L a with
  | some (.exc C) => k C
  | _ => False
theorem excK_of {L : LHp} {a C : Addr} {k : Addr → Prop} (e : L a = some (.exc C)) (h : k C) : excK L a k := by unfold excK; rw [e]; exact h
theorem excK_inv {L : LHp} {a : Addr} {k : Addr → Prop} (h : excK L a k) : ∃ C, L a = some (.exc C) ∧ k C := by
  unfold excK at h
  split at h
  · rename_i C e; exact ⟨C, e, h⟩
  · exact h.elim
/-- isinstance of a held exception: one class, several -/
def yInstX (K : PySem.W.Frag) (u : Value) (te : TE3) (τ : St3) (L : LHp) (Q : YK) : Prop := te τ L fun x L1 => match x with
  | .ref a => excK L1 a fun C => XHd K C ∧ ∃ b, PySem.W.kitOne K (.ref C) u = some b ∧ Q (.bl b) L1
  | _ => False
section
variable {X : Cx} {a e : Expr} {es : List Expr} {ta : TE3} {pos p pt : Pos} {v : V} {vs : List V}
theorem qe_instX {c : Expr} {u : Value} (hg : Gl X "isinstance") (hm : X.mg "isinstance" = none) (ha : QE X a ta) (hc : PE X c (tC v)) (hv : clsV v = some u)
    (hs : starEach [a, c] X.env = (false, eval a X.env) :: starEach [c] X.env := by rfl) (hs2 : starEach [c] X.env = (false, eval c X.env) :: starEach [] X.env := by rfl) (hp : (backTo pos (starEach [c] X.env)).any (·.1) = false := by rfl) :
    QE X (.Call (.Name "isinstance" p) [a, c] [] pos) (yInstX X.K u ta) := by
  refine PE.imp (pe_callB call_instX hg hm bt_isinstance (pa_cons ha (pa_cons hc pa_nil hs2) hs) (by decide) (by decide) hs hp) ?_
  rintro σ H Q ⟨τ, L, Q3, rs, rl, z, k⟩
  refine ⟨τ, L, _, rs, rl, z, fun w H1 y L1 t1 rl1 rv1 z1 => ?_⟩
  cases y with
  | ref b =>
    obtain ⟨C, e, hd, bb, kk, q⟩ := excK_inv z1
    cases rv1
    exact ⟨b, C, v, rfl, rl1 b _ e, hd, .inl ⟨u, bb, hv, kk, k _ H1 _ L1 t1 rl1 (by rfl) q⟩⟩
  | _ => exact z1.elim
end
end L3

namespace L3
open PySem L2
def noX : X3 := fun _ _ _ => False
theorem takes0 {X : Cx} : Takes X (upX X.g3 noX) := fun _ _ _ _ _ _ _ _ _ _ _ ⟨_, _, _, _, _, _, z⟩ => z.elim
theorem bt_ValueError : bootBuiltins "ValueError" = some (.type "ValueError") := by decide +kernel
end L3
namespace L3
open PySem L2 PySem.W
/-- a class under ValueError -/
theorem xcls_value {K : Frag} {C : Addr} (q : excIn K C [.type "ValueError", .type "Exception", .type "BaseException", .type "object"] "ValueError.__new__" = true) : XCls K C := xcls_of q PySem.F.excBase_ValueError (by decide +kernel) PySem.F.excBase_ValueError
section
variable {K : Frag} {C D : Addr} {t c : Value} {b : Bool}
theorem kit_blt {T : String} (hm : kitMeta T = true) (h3 : subIn K (.ref C) (.type T) = some b) : kitOne K (.ref C) (.type T) = some b := by
  unfold kitOne
  rw [if_neg (by intro q; cases beq_iff_eq.mp q)]
  unfold kitCls
  simp only [hm, if_true]
  exact h3
theorem exm_own {cd : ClassData} (h0 : subIn K (.ref D) (.type "BaseException") = some true) (h1 : clsIn K D = some cd) (h2 : typeIn K (.ref D) = some (.type "type")) (h3 : subIn K (.ref C) (.ref D) = some b) : exmOne K (.ref C) (.ref D) = some b := by
  unfold exmOne
  rw [if_pos (by rw [h0]; rfl)]
  unfold kitCls
  simp only [h1, h2, Option.isSome_some, beq_self_eq_true, Bool.and_self, if_true]
  exact h3
theorem xhd_of {cd : ClassData} (ga : findIn K (.ref C) "__getattribute__" = some (some (.builtin "BaseException.__getattribute__"))) (gt : findIn K (.ref C) "__getattr__" = some none) (cl : findIn K (.ref C) "__class__" = some (some (.builtin "object.__class__")))
    (ge : specialIn K (.builtin "object.__class__") "__get__" = some (some (.builtin "getset_descriptor.__get__"))) (tk : takesIn K (.builtin "object.__class__") = some true) (mo : mroIn K C (.type "object") = some true) (be : subIn K (.ref C) (.type "BaseException") = some true) (h : clsIn K C = some cd) : XHd K C :=
  ⟨⟨ga, gt, cl, ge, tk, mo, be⟩, by rw [h]; rfl⟩
end
end L3

namespace L2
open PySem PySem.Spec PyProof.Rows
/-! ### chains of comparisons, of any length -/
def PCh (X : Cx) (ops : List CmpOp) (es : List Expr) (t : V → TE) : Prop := ∀ (pos : Pos) (pins : List (Addr × Obj)) (s : Shared) (σ : St) (H : Hp) (x : V) (v : Value) (Q : VK), Inv X pins σ H s → RelV x v → t x σ H Q → wpAny (model X.prog X.w) X.A (compareChain pos v ops (evalEach es X.env)) (EP X pins σ Q) X.xe s
def tLast (r : R2) (tb : TE) : V → TE := fun x σ H Q => tb σ H fun y H1 => r x y H1 Q
def tLink (r : R2) (tb : TE) (u : V → TE) : V → TE := fun x σ H Q => tb σ H fun y H1 => r x y H1 fun z H2 => ∃ k, z = .bl k ∧ (if k = true then u y σ H2 Q else Q (.bl false) H2)
section
variable {X : Cx} {a b c : Expr} {es : List Expr} {ta tb : TE} {op op' : CmpOp} {ops : List CmpOp} {r : R2} {u : V → TE} {pos : Pos}
theorem pch_last (ho : OpR X (compareOp op) r) (hb : PE X b tb) : PCh X [op] [b] (tLast r tb) := by
  intro pos pins s σ H x v Q I rx h
  exact chain_last (thn (hb pins s σ H _ I h) fun w' s1 ⟨y, H1, I1, r1, q1⟩ => ho pins s1 σ H1 x y v w' Q I1 rx r1 q1)
theorem pch_link (ho : OpR X (compareOp op) r) (hb : PE X b tb) (ht : PCh X (op' :: ops) (c :: es) u) : PCh X (op :: op' :: ops) (b :: c :: es) (tLink r tb u) := by
  intro pos pins s σ H x v Q I rx h
  refine chain_link (thn (hb pins s σ H _ I h) fun w' s1 ⟨y, H1, I1, r1, q1⟩ => thn (ho pins s1 σ H1 x y v w' _ I1 rx r1 q1) fun d s2 ⟨z, H2, I2, r2, k, e, q2⟩ => ?_)
  subst e
  cases r2
  refine wpAny_truthy_bool ?_
  cases k with
  | false => exact ite_ff ⟨.bl false, H2, I2, rfl, q2⟩
  | true => exact ite_tt (ht pos pins s2 σ H2 y w' Q I2 r1 q2)
theorem pe_chainN (ha : PE X a ta) (h : PCh X (op :: op' :: ops) (b :: c :: es) u) (hm : lastMarks (op :: op' :: ops) (b :: c :: es) = false) : PE X (.Compare a (op :: op' :: ops) (b :: c :: es) pos) (fun σ H Q => ta σ H fun x H1 => u x σ H1 Q) := by
  intro pins s σ H Q I hh
  exact Compare_chain (thn (ha pins s σ H _ I hh) fun v s1 ⟨x, H1, I1, r1, q1⟩ => h pos pins s1 σ H1 x v Q I1 r1 q1) hm
end
end L2
namespace L3
open PySem L2
def yChain (ta : TE3) (u : Y → TE3) (τ : St3) (L : LHp) (Q : YK) : Prop := ta τ L fun x L1 => u x τ L1 Q
def yLast (r : R23) (tb : TE3) (x : Y) (τ : St3) (L : LHp) (Q : YK) : Prop := tb τ L fun y L1 => r x y L1 Q
def yLink (r : R23) (tb : TE3) (u : Y → TE3) (x : Y) (τ : St3) (L : LHp) (Q : YK) : Prop := tb τ L fun y L1 => r x y L1 fun z L2 => match z with
  | .bl k => yite k (u y τ L2 Q) (Q (.bl false) L2)
  | _ => False
def upC (G : G3) (u : Y → TE3) : V → TE := fun x σ H Q => ∃ y τ L Q3, RV G H y x ∧ RelS G H σ τ ∧ RelH G H L ∧ u y τ L Q3 ∧ Aft G H Q3 Q
theorem PCh.imp {X : Cx} {ops : List CmpOp} {es : List Expr} {t u : V → TE} (h : PCh X ops es t) (q : ∀ x σ H Q, u x σ H Q → t x σ H Q) : PCh X ops es u := fun pos pins s σ H x v Q I r z => h pos pins s σ H x v Q I r (q _ _ _ _ z)
theorem up_last {G : G3} {r : R23} {tb : TE3} (x : V) (σ : L2.St) (H : Hp) (Q : VK) : upC G (yLast r tb) x σ H Q → tLast (upR G r) (upE G tb) x σ H Q := fun ⟨y, τ, L, Q3, rv, rs, rl, z, k⟩ =>
  ⟨τ, L, _, rs, rl, z, fun v H1 y1 L1 t1 rl1 rv1 z1 => ⟨y, y1, L1, Q3, rv.ts t1, rv1, rl1, z1, k.ts t1⟩⟩
theorem up_link {G : G3} {r : R23} {tb : TE3} {u : Y → TE3} (x : V) (σ : L2.St) (H : Hp) (Q : VK) : upC G (yLink r tb u) x σ H Q → tLink (upR G r) (upE G tb) (upC G u) x σ H Q := fun ⟨y, τ, L, Q3, rv, rs, rl, z, k⟩ =>
  ⟨τ, L, _, rs, rl, z, fun v H1 y1 L1 t1 rl1 rv1 z1 => ⟨y, y1, L1, _, rv.ts t1, rv1, rl1, z1, fun v2 H2 y2 L2 t2 rl2 rv2 z2 => by
    cases y2 with
    | bl kk =>
      refine ⟨kk, rv2, ?_⟩
      have z3 : yite kk (u y1 τ L2 Q3) (Q3 (.bl false) L2) := z2
      cases kk with
      | true => rw [if_pos rfl]; exact ⟨y1, τ, L2, Q3, rv1.ts t2, rs.ts (t1.trans t2), rl2, z3, k.ts (t1.trans t2)⟩
      | false => rw [if_neg Bool.false_ne_true]; exact k _ H2 _ L2 (t1.trans t2) rl2 (by rfl) z3
    | _ => exact z2.elim⟩⟩
section
variable {X : Cx} {a b c : Expr} {es : List Expr} {ta tb : TE3} {op op' : CmpOp} {ops : List CmpOp} {r : R23} {u : Y → TE3} {pos : Pos}
theorem qch_last (ho : OpR X (compareOp op) (upR X.g3 r)) (hb : QE X b tb) : PCh X [op] [b] (upC X.g3 (yLast r tb)) := PCh.imp (pch_last ho hb) up_last
theorem qch_link (ho : OpR X (compareOp op) (upR X.g3 r)) (hb : QE X b tb) (ht : PCh X (op' :: ops) (c :: es) (upC X.g3 u)) : PCh X (op :: op' :: ops) (b :: c :: es) (upC X.g3 (yLink r tb u)) := PCh.imp (pch_link ho hb ht) up_link
theorem up_chain {G : G3} (σ : L2.St) (H : Hp) (Q : VK) : upE G (yChain ta u) σ H Q → (fun σ H Q => upE G ta σ H fun x H1 => upC G u x σ H1 Q) σ H Q := fun ⟨τ, L, Q3, rs, rl, z, k⟩ =>
  ⟨τ, L, _, rs, rl, z, fun v H1 y L1 t1 rl1 rv1 z1 => ⟨y, τ, L1, Q3, rv1, rs.ts t1, rl1, z1, k.ts t1⟩⟩
theorem qe_chain (ha : QE X a ta) (h : PCh X (op :: op' :: ops) (b :: c :: es) (upC X.g3 u)) (hm : lastMarks (op :: op' :: ops) (b :: c :: es) = false := by with_unfolding_all rfl) : QE X (.Compare a (op :: op' :: ops) (b :: c :: es) pos) (yChain ta u) := PE.imp (pe_chainN ha h hm) up_chain
end
end L3

namespace L2
open PySem PySem.Spec PyProof.Rows
theorem vals_bl : ∀ {bs : List Bool} {us : List Value}, Vals (bs.map V.bl) us → us = bs.map Value.bool
  | [], _, .nil => rfl
  | b :: bs, _, .cons r t => by
    cases (show _ = Value.bool b from r)
    rw [vals_bl t]; rfl
section
variable {X : Cx}
theorem call_all (hc : X.calm = true := by rfl) : CallR X (.builtin "all") (fun xs H Q => ∃ (a : Addr) (bs : List Bool), xs = [.ref a] ∧ SqL X.K H a (bs.map V.bl) ∧ Q (.bl (bs.all id)) H) := by
  intro pins s σ H xs us Q I r h
  obtain ⟨a, bs, rfl, sq, q⟩ := h
  obtain ⟨u, rfl, ru⟩ := vals1 r
  cases ru
  obtain ⟨its, rv, pl, _⟩ := I.list sq
  cases vals_bl rv
  have hl := plain_list pl
  have hlt : a < s.heap.objs.size := by obtain ⟨_, e, _⟩ := hl; exact Heap.lt_size e
  refine wpAny_pos I.tk (call_all_walk (wpAny_pyIter_list hl ?_))
  refine ⟨s.heap.objs.size, [s.heap.objs.size, a], [s.heap.objs.size], (bs.map Value.bool).toArray.size, _, _, fun i => (bs[i]?).getD true, rfl, Walks.list (A := X.A.in1) (I.ok.hd hc) _ a (Nat.ne_of_lt hlt) (bs.map Value.bool).toArray,
    ⟨⟨_, Heap.get?_push_size _ rfl, rfl, rfl⟩, hl.push _⟩, fun i v s' Q' E' hP hQ => ?_, fun h' tk hk ht => ?_⟩
  · have hP : (bs.map Value.bool).toArray[i]? = some v := hP
    rw [List.getElem?_toArray, List.getElem?_map] at hP
    obtain ⟨b, e, rfl⟩ := Option.map_eq_some_iff.mp hP
    have hQ : Q' ((bs[i]?).getD true) s' := hQ
    rw [e] at hQ
    exact wpAny_truthy_bool hQ
  · have e : ((List.range (bs.map Value.bool).toArray.size).all fun i => (bs[i]?).getD true) = bs.all id := by
      rw [List.size_toArray, List.length_map]; exact PyProof.Rows.LSm.range_all bs
    rw [e]
    exact ⟨.bl _, H, I.kept (h' := h') (t' := tk) (PyProof.Rows.LSm.kept_iter hk), rfl, q⟩
end
end L2
namespace L3
open PySem L2
def blsY : List Y → Option (List Bool)
  | [] => some []
  | .bl b :: r => (blsY r).map (b :: ·)
  | _ :: _ => none
theorem blsY_map (bs : List Bool) : blsY (bs.map Y.bl) = some bs := by
  induction bs with
  | nil => rfl
  | cons b r ih => show (blsY (r.map Y.bl)).map (b :: ·) = _; rw [ih]; rfl
theorem blsY_rel {G : G3} {H : Hp} : ∀ {ys : List Y} {xs : List V} {bs : List Bool}, blsY ys = some bs → RVs G H ys xs → xs = bs.map V.bl
  | [], _, _, h, r => by cases h; exact r
  | y :: ys, _, bs, h, ⟨x, xs', e, r1, r2⟩ => by
    cases y with
    | bl b =>
      have h' : (blsY ys).map (b :: ·) = some bs := h
      obtain ⟨cs, e1, rfl⟩ := Option.map_eq_some_iff.mp h'
      cases (show x = V.bl b from r1)
      rw [e, blsY_rel e1 r2]; rfl
    | _ => cases h
def yAll (xs : List Y) (L : LHp) (Q : YK) : Prop := match xs with
  | [y] => listY y = true ∧ seqK L y fun ys => atK L (fun bs L => Q (.bl (List.all bs id)) L) (blsY ys)
  | _ => False
theorem q_all {X : Cx} (hc : X.calm = true := by rfl) : CallR X (.builtin "all") (upL X.g3 yAll) := CallR.imp (call_all hc) fun xs H Q ⟨ys, L, Q3, rv, rl, z, k⟩ => by
  unfold yAll at z
  split at z
  · rename_i y
    obtain ⟨x, rfl, r⟩ := rv.inv1
    obtain ⟨hy, z⟩ := z
    obtain ⟨zs, es, z⟩ := seqK_inv z
    obtain ⟨bs, eb, z⟩ := atK_inv z
    obtain ⟨a, us, rfl, sq, rr⟩ := seq_listY rl r hy es
    cases blsY_rel eb rr
    exact ⟨a, bs, rfl, sq, k _ H _ L (TSt.refl _) rl (by rfl) z⟩
  · exact z.elim
theorem bt_all : bootBuiltins "all" = some (.builtin "all") := by decide +kernel
end L3

namespace L3
open PySem L2
/-! ### dicts by ints or texts that are filled step by step -/
theorem pair_len {α β : Type} {R : α → β → Prop} {l : List α} {m : List β} (p : Paired R l m) : l.length = m.length := by
  induction p with
  | nil => rfl
  | cons _ _ ih => rw [List.length_cons, List.length_cons, ih]
section
variable {X : Cx} {o i value : Expr} {td ti tv : TE3} {pos pos' : Pos}
end
end L3

namespace L3
open PySem L2
/-! ### an item of a list is stored; a list is unpacked -/
def ySetL (to ti tv : TE3) (D : Ends3) (τ : St3) (L : LHp) : Prop := tv τ L fun v L1 => to τ L1 fun x L2 => ti τ L2 fun y L3 => match x, y with
  | .ref a, .int i => lstK L3 a fun ys => atK L3 (fun j L => D.nx τ (updL L a (.lst (ys.set j v)))) (ixN ys.length i)
  | _, _ => False
section
variable {X : Cx} {o i value : Expr} {to ti tv : TE3} {pos pos' : Pos}
theorem qs_setL (ho : QE X o to) (hi : QE X i ti) (hv : QE X value tv)
    (ha : ∀ v, assign (.Subscript o i pos') X.env v = (do
      let ov ← holding [v] (eval o X.env)
      let iv ← holding [v, ov] (eval i X.env)
      standAt pos'
      holding [v, ov, iv] (setItem ov iv v)
      release [v, ov, iv] []) := by intro _; rfl)
    (h1 : swapsWithSole [.Subscript o i pos'] value pos.line X.env = pure false := by rfl) (h2 : swappedStores [.Subscript o i pos'] value X.env = pure none := by rfl)
    (h3 : (assignEach [.Subscript o i pos'] X.env).map (·.2) = [assign (.Subscript o i pos') X.env] := by rfl) : QS X (.Assign [.Subscript o i pos'] value pos) (ySetL to ti tv) :=
  PS.imp (ps_asg hv (pg_sub ho hi set_list ha) h1 h2 h3) fun D σ H ⟨τ, L, D3, rs, rl, z, k⟩ =>
  ⟨τ, L, _, rs, rl, z, fun v H1 vy L1 t1 rl1 rv1 z1 => ⟨τ, L1, _, rs.ts t1, rl1, z1, fun x H2 xy L2 t2 rl2 rv2 z2 => ⟨τ, L2, _, rs.ts (t1.trans t2), rl2, z2, fun w H3 y L3 t3 rl3 rv3 z3 => by
    split at z3
    · rename_i a ii
      obtain ⟨ys, e, z4⟩ := lstK_inv z3
      obtain ⟨j, ej, q⟩ := atK_inv z4
      obtain ⟨xs, e2, r⟩ := rl3 a _ e
      cases (show x = V.ref a from rv2)
      cases (show w = V.int ii from rv3)
      have tt : TSt H3 (upd H3 a (.lst (xs.set j v))) := TSt.lst e2
      exact ⟨a, xs, ii, j, rfl, rfl, e2, by rw [← r.length]; exact ej, k.nx _ _ _ _ (((t1.trans t2).trans t3).trans tt) (rs.ts (((t1.trans t2).trans t3).trans tt)) (rl3.setL e2 (RVs.setY (rv1.ts (t2.trans t3)) j r)) q⟩
    · exact z3.elim⟩⟩⟩
end
end L3

namespace L2
open PySem PySem.Spec PyProof.Rows
/-! ### f-strings of texts -/
def tFmt (te : TE) : TE := fun σ H Q => te σ H fun x H1 => ∃ y, x = .str y ∧ y.length ≤ sizeLine ∧ Q (.str y) H1
def PJ (X : Cx) (es : List Expr) (t : Str → TE) : Prop := ∀ (pins : List (Addr × Obj)) (s : Shared) (σ : St) (H : Hp) (out : Str) (Q : VK), Inv X pins σ H s → t out σ H Q → wpAny (model X.prog X.w) X.A (joinParts out (evalEach es X.env)) (EP X pins σ Q) X.xe s
def tJNil : Str → TE := fun out _ H Q => out.length ≤ sizeLine ∧ Q (.str out) H
def tJCons (te : TE) (u : Str → TE) : Str → TE := fun out σ H Q => te σ H fun x H1 => ∃ y, x = .str y ∧ (out ++ y).length ≤ sizeLine ∧ u (out ++ y) σ H1 Q
section
variable {X : Cx} {e v₁ v₂ : Expr} {es : List Expr} {te : TE} {u : Str → TE} {pos : Pos}
theorem pe_fmt (h : PE X e te) : PE X (.FormattedValue e (-1) none pos) (tFmt te) := by
  intro pins s σ H Q I hh
  refine FormattedValue_plain (thn (h pins s σ H _ I hh) fun v s1 ⟨x, H1, I1, r1, y, ey, hy, q⟩ => ?_)
  subst ey
  obtain ⟨t, rfl⟩ := (show ∃ t, v = Value.str y t from r1)
  exact wpAny_pos I1.tk (formatField_str (fun t' tk ht => ⟨.str y, H1, I1.tok _, ⟨t', rfl⟩, q⟩) hy)
theorem pj_nil : PJ X [] tJNil := fun pins s σ H out Q I ⟨hl, q⟩ => joinParts_nil ⟨.str out, H, I.tok _, ⟨_, rfl⟩, q⟩ hl
theorem pj_cons (h : PE X e te) (t : PJ X es u) : PJ X (e :: es) (tJCons te u) := by
  intro pins s σ H out Q I hh
  refine joinParts_cons (thn (h pins s σ H _ I hh) fun v s1 ⟨x, H1, I1, r1, y, ey, hl, q⟩ => ?_)
  subst ey
  obtain ⟨tk, rfl⟩ := (show ∃ t, v = Value.str y t from r1)
  exact ⟨hl, t pins s1 σ H1 _ Q I1 q⟩
theorem pe_fstr (h : PJ X (v₁ :: v₂ :: es) u) : PE X (.JoinedStr (v₁ :: v₂ :: es) pos) (u Str.empty) := fun pins s σ H Q I hh => JoinedStr_many (h pins s σ H _ Q I hh)
end
end L2
namespace L3
open PySem L2
def yFmt (te : TE3) (τ : St3) (L : LHp) (Q : YK) : Prop := te τ L fun x L1 => match x with
  | .str y => y.length ≤ sizeLine ∧ Q (.str y) L1
  | _ => False
def yJNil (out : Str) (_ : St3) (L : LHp) (Q : YK) : Prop := out.length ≤ sizeLine ∧ Q (.str out) L
def yJCons (te : TE3) (u : Str → TE3) (out : Str) (τ : St3) (L : LHp) (Q : YK) : Prop := te τ L fun x L1 => match x with
  | .str y => (out ++ y).length ≤ sizeLine ∧ u (out ++ y) τ L1 Q
  | _ => False
def yFStr (u : Str → TE3) (τ : St3) (L : LHp) (Q : YK) : Prop := u Str.empty τ L Q
theorem PJ.imp {X : Cx} {es : List Expr} {t u : Str → TE} (h : PJ X es t) (q : ∀ out σ H Q, u out σ H Q → t out σ H Q) : PJ X es u := fun pins s σ H out Q I z => h pins s σ H out Q I (q _ _ _ _ z)
section
variable {X : Cx} {e v₁ v₂ : Expr} {es : List Expr} {te : TE3} {u : Str → TE3} {pos : Pos}
theorem qe_fmt (h : QE X e te) : QE X (.FormattedValue e (-1) none pos) (yFmt te) := PE.imp (pe_fmt h) fun σ H Q ⟨τ, L, Q3, rs, rl, z, k⟩ =>
  ⟨τ, L, _, rs, rl, z, fun v H1 y L1 t1 rl1 rv1 z1 => by
    cases y with
    | str s => exact ⟨s, rv1, z1.1, k _ H1 _ L1 t1 rl1 (by rfl) z1.2⟩
    | _ => exact z1.elim⟩
theorem qj_nil : PJ X [] (fun out => upE X.g3 (yJNil out)) := PJ.imp pj_nil fun out σ H Q ⟨τ, L, Q3, rs, rl, z, k⟩ => ⟨z.1, k _ H _ L (TSt.refl _) rl (by rfl) z.2⟩
theorem qj_cons (h : QE X e te) (t : PJ X es (fun out => upE X.g3 (u out))) : PJ X (e :: es) (fun out => upE X.g3 (yJCons te u out)) := PJ.imp (pj_cons h t) fun out σ H Q ⟨τ, L, Q3, rs, rl, z, k⟩ =>
  ⟨τ, L, _, rs, rl, z, fun v H1 y L1 t1 rl1 rv1 z1 => by
    cases y with
    | str s => exact ⟨s, rv1, z1.1, τ, L1, Q3, rs.ts t1, rl1, z1.2, k.ts t1⟩
    | _ => exact z1.elim⟩
theorem qe_fstr (h : PJ X (v₁ :: v₂ :: es) (fun out => upE X.g3 (u out))) : QE X (.JoinedStr (v₁ :: v₂ :: es) pos) (yFStr u) := pe_fstr h
end
end L3

namespace L3
open PySem L2
/-! ### instances of the text's own classes -/
@[irreducible] def insK (L : LHp) (a : Addr) (k : Addr → List (Str × Y) → Prop) : Prop := match L a with
  | some (.ins C fs) => k C fs
  | _ => False
theorem insK_of {L : LHp} {a C : Addr} {fs : List (Str × Y)} {k : Addr → List (Str × Y) → Prop} (e : L a = some (.ins C fs)) (h : k C fs) : insK L a k := by unfold insK; rw [e]; exact h
theorem insK_inv {L : LHp} {a : Addr} {k : Addr → List (Str × Y) → Prop} (h : insK L a k) : ∃ C fs, L a = some (.ins C fs) ∧ k C fs := by
  unfold insK at h
  split at h
  · rename_i C fs e; exact ⟨C, fs, e, h⟩
  · exact h.elim
abbrev PrF (G : G3) (H : Hp) : List (Str × Y) → List (Str × V) → Prop := Paired fun (p : Str × Y) (q : Str × V) => p.1 = q.1 ∧ RV G H p.2 q.2
theorem prf_get {G : G3} {H : Hp} {fs : List (Str × Y)} {xs : List (Str × V)} (p : PrF G H fs xs) {f : Str} {y : Y} (h : fs.lookup f = some y) : ∃ v, xs.lookup f = some v ∧ RV G H y v := by
  induction p with
  | nil => cases h
  | @cons a b _ _ r t ih =>
    obtain ⟨ka, ya⟩ := a; obtain ⟨kb, vb⟩ := b
    obtain ⟨e, r⟩ := r
    cases (show ka = kb from e)
    rw [List.lookup_cons] at h ⊢
    cases c : (f == ka) with
    | true => rw [c] at h; cases h; exact ⟨vb, rfl, r⟩
    | false => rw [c] at h; exact ih h
theorem prf_none {G : G3} {H : Hp} {fs : List (Str × Y)} {xs : List (Str × V)} (p : PrF G H fs xs) {f : Str} (h : fs.lookup f = none) : xs.lookup f = none := by
  induction p with
  | nil => rfl
  | @cons a b _ _ r t ih =>
    obtain ⟨ka, ya⟩ := a; obtain ⟨kb, vb⟩ := b
    obtain ⟨e, r⟩ := r
    cases (show ka = kb from e)
    rw [List.lookup_cons] at h ⊢
    cases c : (f == ka) with
    | true => rw [c] at h; cases h
    | false => rw [c] at h; exact ih h
def putFY (f : Str) (y : Y) : List (Str × Y) → List (Str × Y)
  | [] => [(f, y)]
  | (g, x) :: r => if g = f then (g, y) :: r else (g, x) :: putFY f y r
theorem prf_put {G : G3} {H : Hp} {fs : List (Str × Y)} {xs : List (Str × V)} (p : PrF G H fs xs) (f : Str) {y : Y} {v : V} (r : RV G H y v) : PrF G H (putFY f y fs) (putF f v xs) := by
  induction p with
  | nil => exact .cons ⟨rfl, r⟩ .nil
  | @cons a b _ _ r' t ih =>
    obtain ⟨ka, ya⟩ := a; obtain ⟨kb, vb⟩ := b
    obtain ⟨e, q⟩ := r'
    cases (show ka = kb from e)
    unfold putFY putF
    by_cases c : ka = f
    · rw [if_pos c, if_pos c]; exact .cons ⟨rfl, r⟩ t
    · rw [if_neg c, if_neg c]; exact .cons ⟨rfl, q⟩ ih
theorem TSt.ins {H : Hp} {p C dx : Addr} {zs : List (Str × V)} {o : HO} (h : H p = some (.ins C dx zs)) : TSt H (upd H p o) := fun a u i q => by
  rw [upd_ne ?_]; exact q
  rintro rfl
  rw [h] at q; cases q; cases i
/-- o.f; o.f = e -/
def yFld (K : PySem.W.Frag) (f : Str) (te : TE3) (τ : St3) (L : LHp) (Q : YK) : Prop := te τ L fun x L1 => match x with
  | .ref a => insK L1 a fun C fs => Cls K C ∧ NoAttr K C f ∧ atK L1 Q (fs.lookup f)
  | _ => False
def ySetF (K : PySem.W.Frag) (f : Str) (to tv : TE3) (D : Ends3) (τ : St3) (L : LHp) : Prop := tv τ L fun v L1 => to τ L1 fun x L2 => match x with
  | .ref a => insK L2 a fun C fs => Cls K C ∧ NoAttr K C f ∧ fs.length < 1000 ∧ D.nx τ (updL L2 a (.ins C (putFY f v fs)))
  | _ => False
/-- o.m() ; C(..) -/
def yMeth0 (C : Addr) (m : Str) (sp : Sp3) (to : TE3) (τ : St3) (L : LHp) (Q : YK) : Prop := to τ L fun x L1 => match x with
  | .ref a => insK L1 a fun C' fs => C' = C ∧ fs.lookup m = none ∧ sp [.ref a] L1 Q
  | _ => False
def yMake (C : Addr) (sp : Sp3) (t : TA3) (τ : St3) (L : LHp) (Q : YK) : Prop := t τ L fun ys L1 => ∀ x, L1 x = none → sp (.ref x :: ys) (updL L1 x (.ins C [])) fun v L2 => v = .non ∧ Q (.ref x) L2
section
variable {X : Cx} {o e value : Expr} {es : List Expr} {to te tv : TE3} {tr : TA3} {pos pos' apos p : Pos} {f m x : Str} {C g : Addr}
theorem qe_fld (h : QE X e te) (hb : attributeBase e f X.env (eval e X.env) = eval e X.env := by rfl) : QE X (.Attribute e f pos) (yFld X.K f te) := PE.imp (pe_fld h hb) fun σ H Q ⟨τ, L, Q3, rs, rl, z, k⟩ =>
  ⟨τ, L, _, rs, rl, z, fun v H1 y L1 t1 rl1 rv1 z1 => by
    split at z1
    · rename_i a
      obtain ⟨C, fs, e, c, n, z2⟩ := insK_inv z1
      obtain ⟨y, ey, q⟩ := atK_inv z2
      obtain ⟨dx, xs, e2, pr⟩ := rl1 a _ e
      obtain ⟨w, ew, rw'⟩ := prf_get pr ey
      exact ⟨a, C, dx, xs, w, rv1, e2, c, n, ew, k _ H1 _ L1 t1 rl1 rw' q⟩
    · exact z1.elim⟩
theorem qs_setF (ho : QE X o to) (hv : QE X value tv) (hs : swapsWith value (some (.Attribute o f pos')) pos.line X.env = pure false := by rfl) : QS X (.Assign [.Attribute o f pos'] value pos) (ySetF X.K f to tv) := PS.imp (ps_fld ho hv hs) fun D σ H ⟨τ, L, D3, rs, rl, z, k⟩ =>
  ⟨τ, L, _, rs, rl, z, fun v H1 vy L1 t1 rl1 rv1 z1 => ⟨τ, L1, _, rs.ts t1, rl1, z1, fun w H2 y L2 t2 rl2 rv2 z2 => by
    split at z2
    · rename_i a
      obtain ⟨C, fs, e, c, n, hl, q⟩ := insK_inv z2
      obtain ⟨dx, xs, e2, pr⟩ := rl2 a _ e
      have tt : TSt H2 (upd H2 a (.ins C dx (putF f v xs))) := TSt.ins e2
      refine ⟨a, C, dx, xs, rv2, e2, c, n, by rw [← pair_len pr]; exact hl, k.nx _ _ _ _ ((t1.trans t2).trans tt) (rs.ts ((t1.trans t2).trans tt)) (fun b u eb => ?_) q⟩
      by_cases cc : b = a
      · subst cc
        rw [updL_same] at eb; cases eb
        exact ⟨dx, _, upd_same, Paired.mapP (prf_put pr f (rv1.ts t2)) fun _ _ ⟨h1, h2⟩ => ⟨h1, h2.ts tt⟩⟩
      · rw [updL_ne cc] at eb
        exact (rl2 b u eb).keep tt (upd_ne cc)
    · exact z2.elim⟩⟩
theorem qe_meth0 {pl : Sem Bool} {k : Nat} {fd : FuncData} {ps : List Str} {sp : Sp3} (ho : QE X o to) (c : Cls X.K C) (hm : Meth X.K C m g) (F : Fn3 X.prog X.w X.K X.mg X.base k g fd ps sp) (hr : Room k X.A) (hb : Binds X.K fd ps [])
    (ht : eval (.Call (.Attribute o m apos) [] [] pos) X.env = (do
      let ov ← eval o X.env
      standAt apos.atName
      let (f, first) ← holding [ov] (getMethod ov m pl)
      callWith pos f first (backTo pos (starEach [] X.env)) (backToKw pos (keywordEach [] X.env))) := by rfl) :
    QE X (.Call (.Attribute o m apos) [] [] pos) (yMeth0 C m sp to) := PE.imp (pe_meth0 (pl := pl) ho c hm F hr hb .nil pass0 ht) fun σ H Q ⟨τ, L, Q3, rs, rl, z, k⟩ =>
  ⟨τ, L, _, rs, rl, z, fun v H1 y L1 t1 rl1 rv1 z1 => by
    split at z1
    · rename_i a
      obtain ⟨C', fs, e, ec, n, q⟩ := insK_inv z1
      subst ec
      obtain ⟨dx, xs, e2, pr⟩ := rl1 a _ e
      cases (show v = V.ref a from rv1)
      exact ⟨a, dx, xs, rfl, e2, prf_none pr n, [.ref a], L1, Q3, RVs.one rfl, rl1, q, k.ts t1⟩
    · exact z1.elim⟩
theorem qe_make {k : Nat} {fd : FuncData} {ps : List Str} {sp : Sp3} (M : Mk X.K C g) (F : Fn3 X.prog X.w X.K X.mg X.base k g fd ps sp) (hr : Room (k + 1) X.A) (hg : Gl X x) (hm : X.mg x = some (.ref C)) (hb : Binds X.K fd ps []) (ha : QA X (e :: es) tr)
    (hdb : (x == ("__debug__" : Str)) = false := by decide) (he : starEach (e :: es) X.env = (false, eval e X.env) :: starEach es X.env := by rfl) (hpl : (backTo pos (starEach es X.env)).any (·.1) = false := by rfl) :
    QE X (.Call (.Name x p) (e :: es) [] pos) (yMake C sp tr) := PE.imp (pe_make M F hr hg hm hb .nil pass0 ha hdb he hpl) fun σ H Q ⟨τ, L, Q3, rs, rl, z, k⟩ =>
  ⟨τ, L, _, rs, rl, z, fun vs H1 ys L1 t1 rl1 rv1 z1 => fun x dx hx hdx ne => by
    have ta : TSt H1 (upd H1 dx (.own x)) := TSt.new hdx
    have hx' : upd H1 dx (.own x) x = none := by rw [upd_ne (Ne.symm ne)]; exact hx
    have tt : TSt H1 (upd (upd H1 dx (.own x)) x (.ins C dx [])) := ta.trans (TSt.new hx')
    refine ⟨.ref x :: ys, updL L1 x (.ins C []), _, ⟨.ref x, vs ++ [], by simp, rfl, by rw [List.append_nil]; exact rv1.ts tt⟩, fun b u eb => ?_, z1 x (rl1.none hx), fun v H2 y L2 t2 rl2 rv2 ⟨ev, q⟩ => ?_⟩
    · by_cases cc : b = x
      · subst cc
        rw [updL_same] at eb; cases eb
        exact ⟨dx, [], upd_same, .nil⟩
      · rw [updL_ne cc] at eb
        have nd : b ≠ dx := fun z => by
          obtain ⟨w, ew⟩ := (rl1 b u eb).ex
          rw [z, hdx] at ew; cases ew
        exact (rl1 b u eb).keep tt (by rw [upd_ne cc, upd_ne nd])
    · subst ev
      exact ⟨rv2, k _ H2 _ L2 (t1.trans (tt.trans t2)) rl2 (by rfl) q⟩⟩
end
end L3

namespace L3
open PySem L2
/-- o.f += e, ints -/
def yAugF (K : PySem.W.Frag) (f : Str) (to tv : TE3) (D : Ends3) (τ : St3) (L : LHp) : Prop := to τ L fun x L1 => match x with
  | .ref a => insK L1 a fun C fs => Cls K C ∧ NoAttr K C f ∧ atK L1 (fun v L1 => match v with
    | .int i => tv τ L1 fun y L2 => match y with
      | .int j => insK L2 a fun C' fs' => C' = C ∧ fs'.length < 1000 ∧ D.nx τ (updL L2 a (.ins C (putFY f (.int (i + j)) fs')))
      | _ => False
    | _ => False) (fs.lookup f)
  | _ => False
theorem qs_augF {X : Cx} {o value : Expr} {to tv : TE3} {pos tpos : Pos} {f : Str} (ho : QE X o to) (hv : QE X value tv) : QS X (.AugAssign (.Attribute o f tpos) .Add value pos) (yAugF X.K f to tv) := PS.imp (ps_fldaug ho hv in_add) fun D σ H ⟨τ, L, D3, rs, rl, z, k⟩ =>
  ⟨τ, L, _, rs, rl, z, fun v H1 y L1 t1 rl1 rv1 z1 => by
    split at z1
    · rename_i a
      obtain ⟨C, fs, e, c, n, z2⟩ := insK_inv z1
      obtain ⟨y, ey, z3⟩ := atK_inv z2
      obtain ⟨dx, xs, e2, pr⟩ := rl1 a _ e
      obtain ⟨w, ew, rw'⟩ := prf_get pr ey
      split at z3
      · rename_i i
        cases (show w = V.int i from rw')
        refine ⟨a, C, dx, xs, .int i, rv1, e2, c, n, ew, τ, L1, _, rs.ts t1, rl1, z3, fun v2 H2 y2 L2 t2 rl2 rv2 z4 => ?_⟩
        split at z4
        · rename_i j
          obtain ⟨C', fs', e', ec, hl, q⟩ := insK_inv z4
          subst ec
          obtain ⟨dx', xs', e3, pr'⟩ := rl2 a _ e'
          have tt : TSt H2 (upd H2 a (.ins C' dx' (putF f (.int (i + j)) xs'))) := TSt.ins e3
          refine ⟨i, j, rfl, rv2, dx', xs', e3, by rw [← pair_len pr']; exact hl, k.nx _ _ _ _ ((t1.trans t2).trans tt) (rs.ts ((t1.trans t2).trans tt)) (fun b u eb => ?_) q⟩
          by_cases cc : b = a
          · subst cc
            rw [updL_same] at eb; cases eb
            exact ⟨dx', _, upd_same, Paired.mapP (prf_put pr' f (y := .int (i + j)) rfl) fun _ _ ⟨h1, h2⟩ => ⟨h1, h2.ts tt⟩⟩
          · rw [updL_ne cc] at eb
            exact (rl2 b u eb).keep tt (upd_ne cc)
        · exact z4.elim
      · exact z3.elim
    · exact z1.elim⟩
/-- an int or a text of the top -/
structure TopV (mg : Str → Option Value) (x : Str) (y : Y) : Prop where
  ex : ∃ u, mg x = some u ∧ RelV (toV y) u ∧ ∀ G H, RV G H y (toV y)
theorem qe_topV {X : Cx} {x : Str} {y : Y} {pos : Pos} (t : TopV X.mg x y) (hg : Gl X x) (hd : (x == ("__debug__" : Str)) = false := by decide) : QE X (.Name x pos) (yC y) := by
  obtain ⟨u, hm, r, q⟩ := t.ex
  exact QE.of_c (pe_glob hg hm r hd) (fun H => q X.g3 H)
end L3

namespace L3
open PySem L2
/-! ### `<` of two lists of whole numbers -/
open PySem.AutoSeq1 (wpAny_loadPart')
open MeetsSeq MeetsSeq2 MeetsSeq3 SeqRoads2
end L3

namespace L2
open PySem PySem.Spec PyProof.Rows
/-! ### over the signs of a text (ASCII) -/
def Its (x : Str) : It := ⟨fun i _ => i < x.cps.size, fun i H v H' => H' = H ∧ ∃ c, x.cps[i]? = some c ∧ v = .str ⟨#[c]⟩, fun i _ => x.cps.size ≤ i⟩
theorem turn_str {P : Program} {w : World} {K : PySem.W.Frag} {tg : Expr} (x : Str) (t : Tok) (it : Addr) : Turn P w K tg (Its x) [it] it (fun i h => h.IsStrIter it "str_ascii_iterator" x t i) where
  mem := by simp
  obj := fun i h st b hb => by
    have e : b = it := by simpa using hb
    subst e
    obtain ⟨o, e, c, d⟩ := st
    exact ⟨o, e, fun v z => by rw [d] at z; cases z⟩
  keep := fun i h h' st k => let ⟨o, e, r⟩ := st; ⟨o, k it (by simp) o e, r⟩
  item := by
    intro X hP hw hK hc i pins s σ H E I hf st hg
    subst hP hw hK
    have hg : i < x.cps.size := hg
    obtain ⟨f0, f1, f2, f3, f4, f5⟩ := hf it (by simp)
    refine wpAny_pyNext_ascii_item st (c := x.cps[i]) (by simp [hg]) fun h' st' sb => ?_
    have I1 : Inv X pins σ H { s with heap := h', toks := s.toks + 1 } := I.turned (fun b o hb e => (sb.2 b hb).trans e) f0 f1 f3 f4 f5
    obtain ⟨o, e, c, d⟩ := id st'
    exact ⟨_, rfl, go_of (s := { s with heap := h', toks := s.toks + 1 }) e c d (by decide) ⟨.str ⟨#[x.cps[i]]⟩, H, I1, ⟨_, rfl⟩, ⟨rfl, _, by simp [hg], rfl⟩, st', fun b hb => (hf b hb).1⟩⟩
  done := by
    intro X hP hw hK hc i pins s σ H E I hf st hg
    subst hP hw hK
    have hg : x.cps.size ≤ i := hg
    obtain ⟨f0, f1, f2, f3, f4, f5⟩ := hf it (by simp)
    exact wpAny_pyNext_ascii_end (I.ok.hd hc) st (by simp; omega) fun h' eb => ⟨rfl, I.turned (t' := s.toks) (fun b o hb e => eb b o hb e) f0 f1 f3 f4 f5⟩
  self := fun _ _ _ _ _ st h => wpAny_pyIter_striter_ascii st h
def iStr (te : TE) : TI := fun σ H R => te σ H fun v H1 => ∃ x, v = .str x ∧ x.cps.all (· < 128) = true ∧ R (Its x) H1
theorem pi_str {X : Cx} {tg e : Expr} {te : TE} (he : PE X e te) : PI X tg e (iStr te) := by
  intro pins s σ H R I h
  refine thn (he pins s σ H _ I h) fun v s1 ⟨y, H1, I1, r1, x, ey, ha, q⟩ => ?_
  subst ey
  obtain ⟨t, rfl⟩ := (show ∃ t, v = Value.str x t from r1)
  refine wpAny_pyIter_ascii ha ?_
  refine ⟨s1.heap.objs.size, [s1.heap.objs.size], _, _, H1, rfl, I1.kept (t' := s1.toks) fun b o e => Heap.get?_push_of_some _ e, turn_str x t _, ⟨_, Heap.get?_push_size _ rfl, rfl, rfl⟩, fun b hb => ?_, q⟩
  have e : b = s1.heap.objs.size := by simpa using hb
  subst e
  exact I1.fpOk (Nat.le_refl _) (I1.hok.fresh (Nat.le_refl _))
/-! ### split at a text -/
theorem split_at {prog : Program} {w : World} {A : Around} {E : Value → Shared → Prop} {s : Shared} {x y : Str} {t u : Tok} {Q : Value → Shared → Prop} (hy : (y.length == 0) = false)
    (hq : ∀ l k, l.map (·.1) = Txt.split x y → Q (.ref s.heap.objs.size) { s with heap := s.heap.push { cls := .type "list", data := .seq (strValues l).toArray }, toks := k })
    (hsz : x.length ≤ sizeLine) (hsz2 : (Builtin.Str.partsBetween x (Builtin.Str.occurrences x y 0 x.length (x.length + 1)) y.length).length ≤ sizeLine) :
    wpAny (model prog w) A (call (.builtin "str.split") [.str x t, .str y u]) Q E s := by
  cases h1 : (decide (x.length < y.length) || decide (Builtin.Str.strKind x < Builtin.Str.strKind y))
  · cases hf : (Builtin.Str.occurrences x y 0 x.length (x.length + 1)).isEmpty
    · refine call_meets F.slot_str_split (typeIs_str _ _ _) F.entry_str_split (F.args_str_split_2 _ _) (meets_str_split_sep x y t u h1 hy hf hsz hsz2) ?_
      show wants Q E _ { s with toks := _, heap := s.heap.push { cls := .type "list", data := .seq (strsFrom s.toks (Builtin.Str.partsBetween x (Builtin.Str.occurrences x y 0 x.length (x.length + 1)) y.length)).toArray } }
      rw [strsFrom_eq]
      exact hq (numbered s.toks _) _ ((numbered_texts _ _).trans ((if_neg (ne_true_of_eq_false h1)).trans (if_neg (ne_true_of_eq_false hf))).symm)
    · exact call_meets F.slot_str_split (typeIs_str _ _ _) F.entry_str_split (F.args_str_split_2 _ _) (meets_str_split_not_found x y t u h1 hy hf)
        (hq [(x, t)] s.toks ((if_neg (ne_true_of_eq_false h1)).trans (if_pos hf)).symm)
  · exact call_meets F.slot_str_split (typeIs_str _ _ _) F.entry_str_split (F.args_str_split_2 _ _) (meets_str_split_cannot_occur x y t u h1)
      (hq [(x, t)] s.toks (if_pos h1).symm)
def rSplit : V → List V → Hp → VK → Prop := fun v vs H Q => ∃ x y, v = .str x ∧ vs = [.str y] ∧ (y.length == 0) = false ∧ x.length ≤ 100000 ∧ ∀ p, H p = none → Q (.ref p) (upd H p (.lst ((Txt.split x y).map V.str)))
theorem vals_strs : ∀ l : List (Str × Tok), Vals ((l.map (·.1)).map V.str) (strValues l)
  | [] => .nil
  | (x, t) :: r => .cons ⟨t, rfl⟩ (vals_strs r)
theorem parts_len (x : Str) (cuts : List Nat) (w : Nat) : (Builtin.Str.partsBetween x cuts w).length = cuts.length + 1 := by
  unfold Builtin.Str.partsBetween
  simp
theorem mt_split {X : Cx} : MtM X "str.split" rSplit := by
  intro pins s σ H v vs u us Q I ru rv ⟨x, y, ev, evs, hy, hz, q⟩
  subst ev evs
  obtain ⟨t, rfl⟩ := (show ∃ t, u = Value.str x t from ru)
  obtain ⟨u', rfl, t', rfl⟩ := rv.one
  have hocc := StrLaws.occ_length_le x y 0 x.length (x.length + 1)
  have hsz : ∀ n, n ≤ 200000 → n ≤ sizeLine := fun n h => Nat.le_trans h (by decide)
  refine wpAny_pos I.tk (split_at hy (fun l k e ht => ?_) (hsz _ (by omega)) (hsz _ (by rw [parts_len]; omega)))
  have hl : ((Txt.split x y).map V.str).length ≤ sizeLine := by
    refine hsz _ ?_
    rw [List.length_map]
    unfold Txt.split
    split
    · show 1 ≤ 200000; decide
    · split
      · show 1 ≤ 200000; decide
      · rw [parts_len]; omega
  refine ⟨.ref s.heap.objs.size, _, I.lnew (t' := k) ?_ hl, rfl, q _ I.fresh⟩
  rw [← e]
  exact vals_strs l
end L2

namespace Txs
open PySem PySem.Builtin.Str
/-! ### texts as lists of signs: cut at a sign, a sign replaced -/
def spl (c : Nat) : List Nat → List (List Nat)
  | [] => [[]]
  | d :: r => if d = c then [] :: spl c r else match spl c r with
    | [] => [[d]]
    | h :: t => (d :: h) :: t
theorem spl_ex (c : Nat) : ∀ l, ∃ h t, spl c l = h :: t
  | [] => ⟨_, _, rfl⟩
  | d :: r => by
    unfold spl
    by_cases e : d = c
    · rw [if_pos e]; exact ⟨_, _, rfl⟩
    · rw [if_neg e]
      obtain ⟨h, t, q⟩ := spl_ex c r
      rw [q]; exact ⟨_, _, rfl⟩
theorem spl_yes {c d : Nat} {r : List Nat} (e : d = c) : spl c (d :: r) = [] :: spl c r := by rw [spl, if_pos e]
theorem spl_no {c d : Nat} {r h : List Nat} {t : List (List Nat)} (e : ¬ d = c) (q : spl c r = h :: t) : spl c (d :: r) = (d :: h) :: t := by rw [spl, if_neg e, q]
theorem spl_app (c : Nat) : ∀ a b, spl c (a ++ c :: b) = spl c a ++ spl c b
  | [], b => by rw [List.nil_append, spl_yes rfl]; rfl
  | d :: a, b => by
    rw [List.cons_append]
    have ih := spl_app c a b
    by_cases e : d = c
    · rw [spl_yes e, spl_yes e, ih]; rfl
    · obtain ⟨h, t, q⟩ := spl_ex c a
      rw [q] at ih
      rw [spl_no e q, spl_no e (h := h) (t := t ++ spl c b) ih]
      rfl
theorem spl_one {c : Nat} : ∀ {l : List Nat}, c ∉ l → spl c l = [l]
  | [], _ => rfl
  | d :: r, h => by
    have q := spl_one (c := c) (l := r) fun z => h (List.mem_cons_of_mem _ z)
    exact spl_no (fun e => h (by rw [e]; exact List.mem_cons_self ..)) q
def idx (c : Nat) : Nat → List Nat → List Nat
  | _, [] => []
  | a, d :: r => if d = c then a :: idx c (a + 1) r else idx c (a + 1) r
theorem one_len (c : Nat) : (⟨#[c]⟩ : Str).length = 1 := rfl
theorem subAt_one (x : Str) (c a : Nat) : subAt x ⟨#[c]⟩ a = ((x.cps.toList.drop a).take 1 == [c]) := by rw [StrLaws.subAt_eq]; rfl
theorem occ_go (x : Str) (c : Nat) : ∀ (r : List Nat) (a : Nat) (st : Array Nat × Nat), x.cps.toList.drop a = r → a + r.length = x.length → st.snd ≤ a → st.fst.size ≤ a →
    (forIn (List.range' a (r.length + 1)) st (StrLaws.occBody x ⟨#[c]⟩ x.length (x.length + 1))).run.fst.toList = st.fst.toList ++ idx c a r
  | [], a, st, hr, hn, h1, h2 => by
    have hn : a = x.length := by simpa using hn
    rw [List.length_nil, List.range'_succ, List.forIn_cons]
    unfold StrLaws.occBody
    rw [if_neg (by rw [one_len]; omega)]
    simp [idx]
  | d :: r, a, st, hr, hn, h1, h2 => by
    have hr' : x.cps.toList.drop (a + 1) = r := by rw [← List.tail_drop, hr]; rfl
    have hn' : a + 1 + r.length = x.length := by rw [← hn, List.length_cons]; omega
    rw [List.length_cons, List.range'_succ, List.forIn_cons]
    have hs : subAt x ⟨#[c]⟩ a = (d == c) := by rw [subAt_one, hr]; simp
    unfold idx
    by_cases e : d = c
    · rw [if_pos e]
      have go := occ_go x c r (a + 1) (st.fst.push a, a + 1) hr' hn' (Nat.le_refl _) (by rw [Array.size_push]; omega)
      have hb : StrLaws.occBody x ⟨#[c]⟩ x.length (x.length + 1) a st = pure (ForInStep.yield (st.fst.push a, a + 1)) := by
        unfold StrLaws.occBody
        rw [if_pos ⟨⟨⟨by rw [List.length_cons] at hn; omega, h1⟩, by rw [one_len]; rw [List.length_cons] at hn; omega⟩, by rw [hs]; simpa using e⟩]
        rfl
      rw [hb]
      refine Eq.trans go ?_
      rw [Array.toList_push, List.append_assoc]
      rfl
    · rw [if_neg e]
      have go := occ_go x c r (a + 1) st hr' hn' (by omega) (by omega)
      have hb : StrLaws.occBody x ⟨#[c]⟩ x.length (x.length + 1) a st = pure (ForInStep.yield (st.fst, st.snd)) := by
        unfold StrLaws.occBody
        rw [if_neg (by rintro ⟨_, z⟩; rw [hs] at z; exact e (by simpa using z))]
      rw [hb]
      exact go
theorem len_list (x : Str) : x.cps.toList.length = x.length := by simp [Str.length]
theorem occ_one (x : Str) (c : Nat) : occurrences x ⟨#[c]⟩ 0 x.length (x.length + 1) = idx c 0 x.cps.toList := by
  rw [StrLaws.occ_eq]
  have := occ_go x c x.cps.toList 0 (#[], 0) (by simp) (by rw [len_list]; omega) (Nat.le_refl _) (Nat.le_refl _)
  rw [len_list] at this
  rw [Nat.sub_zero, this]
  simp
def glue1 (p : List Nat) : List (List Nat) → List (List Nat)
  | [] => []
  | h :: t => (p ++ h) :: t
theorem parts_go (x : Str) (c : Nat) : ∀ (r : List Nat) (a b : Nat), x.cps.toList.drop b = r → b + r.length = x.length → a ≤ b →
    (StrLaws.partsFrom x 1 a (idx c b r)).map (fun s => s.cps.toList) = glue1 ((x.cps.toList.drop a).take (b - a)) (spl c r)
  | [], a, b, hr, hn, hab => by
    have hn : b = x.length := by simpa using hn
    show [(strSub x a x.length).cps.toList] = [(x.cps.toList.drop a).take (b - a) ++ []]
    rw [StrLaws.strSub_toList, hn, List.append_nil]
  | d :: r, a, b, hr, hn, hab => by
    have hr' : x.cps.toList.drop (b + 1) = r := by rw [← List.tail_drop, hr]; rfl
    have hn' : b + 1 + r.length = x.length := by rw [← hn, List.length_cons]; omega
    unfold idx
    by_cases e : d = c
    · rw [if_pos e, spl_yes e]
      have go := parts_go x c r (b + 1) (b + 1) hr' hn' (Nat.le_refl _)
      show (strSub x a b).cps.toList :: (StrLaws.partsFrom x 1 (b + 1) (idx c (b + 1) r)).map (fun s => s.cps.toList) = ((x.cps.toList.drop a).take (b - a) ++ []) :: spl c r
      rw [go, StrLaws.strSub_toList, List.append_nil, Nat.sub_self, List.take_zero]
      obtain ⟨h, t, q⟩ := spl_ex c r
      rw [q]; rfl
    · rw [if_neg e]
      have go := parts_go x c r a (b + 1) hr' hn' (by omega)
      obtain ⟨h, t, q⟩ := spl_ex c r
      rw [go, q, spl_no e q]
      have hp : (x.cps.toList.drop a).take (b + 1 - a) = (x.cps.toList.drop a).take (b - a) ++ [d] := by
        have h1 : (x.cps.toList.drop a)[b - a]? = some d := by
          rw [List.getElem?_drop]
          have : (x.cps.toList.drop b)[0]? = some d := by rw [hr]; rfl
          rw [List.getElem?_drop] at this
          have e2 : a + (b - a) = b + 0 := by omega
          rw [e2]; exact this
        have e3 : b + 1 - a = (b - a) + 1 := by omega
        rw [e3, List.take_succ, h1]; rfl
      rw [hp]
      show ((x.cps.toList.drop a).take (b - a) ++ [d] ++ h) :: t = ((x.cps.toList.drop a).take (b - a) ++ d :: h) :: t
      rw [List.append_assoc]; rfl
theorem parts_one (x : Str) (c : Nat) : (partsBetween x (occurrences x ⟨#[c]⟩ 0 x.length (x.length + 1)) 1).map (fun s => s.cps.toList) = spl c x.cps.toList := by
  rw [StrLaws.partsBetween_eq, occ_one]
  have := parts_go x c x.cps.toList 0 0 (by simp) (by rw [len_list]; omega) (Nat.le_refl _)
  rw [this]
  obtain ⟨h, t, q⟩ := spl_ex c x.cps.toList
  rw [q]; simp [glue1]
theorem idx_nil {c : Nat} : ∀ {l : List Nat} {a : Nat}, idx c a l = [] → c ∉ l
  | [], _, _ => by simp
  | d :: r, a, h => by
    unfold idx at h
    by_cases e : d = c
    · rw [if_pos e] at h; cases h
    · rw [if_neg e] at h
      intro z
      rcases List.mem_cons.mp z with z | z
      · exact e z.symm
      · exact idx_nil h z
theorem kind_one (x : Str) (c : Nat) (hc : c < 256) : ¬ Builtin.Str.strKind x < Builtin.Str.strKind ⟨#[c]⟩ := by
  have h1 : Builtin.Str.strKind ⟨#[c]⟩ = 1 := by unfold Builtin.Str.strKind; simp [hc]
  have h2 : 1 ≤ Builtin.Str.strKind x := by unfold Builtin.Str.strKind; split <;> (try split) <;> decide
  omega
/-- split at one sign -/
theorem split_one (x : Str) (c : Nat) (hc : c < 256) : (Txt.split x ⟨#[c]⟩).map (fun s => s.cps.toList) = spl c x.cps.toList := by
  unfold Txt.split
  have hk := kind_one x c hc
  by_cases h0 : x.length < 1
  · have e : x.cps.toList = [] := List.length_eq_zero_iff.mp (by rw [len_list]; omega)
    rw [if_pos (by rw [one_len]; simp [h0])]
    simp [e, spl]
  · rw [if_neg (by rw [one_len]; simp [h0, hk])]
    by_cases h1 : (occurrences x ⟨#[c]⟩ 0 x.length (x.length + 1)).isEmpty = true
    · rw [if_pos h1]
      rw [occ_one] at h1
      rw [spl_one (idx_nil (List.isEmpty_iff.mp h1))]; rfl
    · rw [if_neg h1]
      exact parts_one x c
def gl (z : List Nat) : List (List Nat) → List Nat
  | [] => []
  | p :: r => p ++ r.flatMap fun q => z ++ q
theorem foldl_gl (z : Str) : ∀ (r : List Str) (acc : Array Nat), (r.foldl (fun acc p => acc ++ z.cps ++ p.cps) acc).toList = acc.toList ++ (r.map fun s => s.cps.toList).flatMap fun q => z.cps.toList ++ q
  | [], acc => by simp
  | p :: r, acc => by
    rw [List.foldl_cons, foldl_gl z r]
    simp [List.append_assoc]
theorem glued_list (z : Str) (ps : List Str) : (glued z ps).cps.toList = gl z.cps.toList (ps.map fun s => s.cps.toList) := by
  cases ps with
  | nil => rfl
  | cons p r =>
    show ((r.foldl (fun acc p => acc ++ z.cps ++ p.cps) p.cps)).toList = _
    rw [foldl_gl]; rfl
theorem gl_spl (z : List Nat) (c : Nat) : ∀ l, gl z (spl c l) = l.flatMap fun d => if d = c then z else [d]
  | [] => rfl
  | d :: r => by
    have ih := gl_spl z c r
    obtain ⟨h, t, q⟩ := spl_ex c r
    rw [q] at ih
    rw [List.flatMap_cons, ← ih]
    by_cases e : d = c
    · rw [spl_yes e, q, if_pos e]
      show [] ++ (h :: t).flatMap (fun q => z ++ q) = z ++ (h ++ t.flatMap fun q => z ++ q)
      rw [List.flatMap_cons, List.nil_append, List.append_assoc]
    · rw [spl_no e q, if_neg e]
      rfl
/-- one sign replaced -/
theorem replace_one (x z : Str) (c : Nat) : (Txt.replace x ⟨#[c]⟩ z).cps.toList = x.cps.toList.flatMap fun d => if d = c then z.cps.toList else [d] := by
  unfold Txt.replace
  by_cases h : ((occurrences x ⟨#[c]⟩ 0 x.length (x.length + 1)).isEmpty || ((⟨#[c]⟩ : Str).length == 0 && z.length == 0)) = true
  · rw [if_pos h]
    have h' : (occurrences x ⟨#[c]⟩ 0 x.length (x.length + 1)).isEmpty = true := by simpa [one_len] using h
    rw [occ_one] at h'
    rw [← gl_spl, spl_one (idx_nil (List.isEmpty_iff.mp h'))]
    simp [gl]
  · rw [if_neg h, glued_list, one_len, parts_one, gl_spl]
/-! ### words between blanks; signs spread -/
def wds (l : List Nat) : List (List Nat) := (spl 32 l).filter fun w => !w.isEmpty
theorem wds_app (a b : List Nat) : wds (a ++ 32 :: b) = wds a ++ wds b := by unfold wds; rw [spl_app, List.filter_append]
theorem wds_one {l : List Nat} (h : 32 ∉ l) (h0 : l ≠ []) : wds l = [l] := by
  unfold wds
  rw [spl_one h]
  cases l with
  | nil => exact absurd rfl h0
  | cons d r => rfl
def spr1 (m : Nat) (l : List Nat) : List Nat := l.flatMap fun d => if d = m then [32, m, 32] else [d]
def spr (ms l : List Nat) : List Nat := l.flatMap fun d => if d ∈ ms then [32, d, 32] else [d]
theorem spr_nil (l : List Nat) : spr [] l = l := by
  unfold spr
  induction l with
  | nil => rfl
  | cons d r ih => rw [List.flatMap_cons, ih, if_neg (by simp)]; rfl
theorem spr_snoc {ms : List Nat} {m : Nat} (h32 : m ≠ 32) (hm : m ∉ ms) (l : List Nat) : spr1 m (spr ms l) = spr (ms ++ [m]) l := by
  unfold spr1 spr
  rw [List.flatMap_assoc]
  congr 1
  funext d
  by_cases e : d ∈ ms
  · have ne : d ≠ m := fun z => hm (z ▸ e)
    rw [if_pos e, if_pos (List.mem_append_left _ e)]
    simp [ne, Ne.symm h32]
  · rw [if_neg e]
    by_cases e2 : d = m
    · subst e2
      rw [if_pos (by simp)]
      simp
    · rw [if_neg (by simp [e, e2])]
      simp [e2]
end Txs

namespace L2
open PySem PySem.Spec PyProof.Rows
theorem wpAny_ge {α : Type} {M : PySem.Model} {A : Around} {t : Sem α} {Q : α → Shared → Prop} {E : Value → Shared → Prop} {s : Shared} (h : wpAny M A t (fun a s' => s.toks ≤ s'.toks → Q a s') (fun e s' => s.toks ≤ s'.toks → E e s') s) : wpAny M A t Q E s :=
  wpAny_mono (wpAny_toks h) (fun _ _ z => z.1 z.2) fun _ _ z => z.1 z.2
theorem ns_same {h : Heap} {a : Addr} {m m' : Str → Option Value} (x : h.Ns a m) (y : h.Ns a m') : m = m' := by
  obtain ⟨o, es, ep, e, d, _, r⟩ := x
  obtain ⟨o', es', ep', e', d', _, r'⟩ := y
  rw [e] at e'; cases e'
  rw [d] at d'; cases d'
  funext n
  rw [← r n, ← r' n]
theorem spread_text (c : Nat) : ((Str.empty ++ (" " : Str)) ++ (⟨#[c]⟩ : Str)) ++ (" " : Str) = ⟨#[32, c, 32]⟩ := by
  apply Str.ext' <;> rfl
section
variable {X : Cx} {pins : List (Addr × Obj)} {σ : St} {H : Hp} {s : Shared} {isp imk c j1 j2 : Nat} {sp mk : Str} {x : Str} {u : Tok} {m : Str → Option Value} {p1 p3 p4 p5 p6 p7 p8 p9 p10 apos cpos pos : Pos} {Q : Flow → Shared → Prop}
/-- spaced = spaced.replace(mark, f' {mark} ') where the mark's token is known to be an older one -/
theorem repl_stmt (I : Inv X pins σ H s) (hN : X.N.Nodup) (hisp : X.N[isp]? = some sp) (ksp : X.env.scope.names.lookup sp = some .local) (kmk : X.env.scope.names.lookup mk = some .local)
    (hx : σ[isp]? = some (some (.str x))) (hns : s.heap.Ns X.env.locals m) (hm : m mk = some (.str ⟨#[c]⟩ u)) (hu : 0 < u) (hu2 : u < s.toks) (hz : x.length ≤ 100000)
    (hq : ∀ s', Inv X pins (σ.set isp (some (.str (Txt.replace x ⟨#[c]⟩ ⟨#[32, c, 32]⟩)))) H s' → Q .next s')
    (d1 : (sp == ("__debug__" : Str)) = false) (d2 : (mk == ("__debug__" : Str)) = false) (hline : (apos.endLine == cpos.line) = true)
    (hs : swapsWith (.Call (.Attribute (.Name sp p4) "replace" apos) [.Name mk p5, .JoinedStr [.Constant (.str " ") j1 p6, .FormattedValue (.Name mk p7) (-1) none p8, .Constant (.str " ") j2 p9] p10] [] cpos) (some (.Name sp p3)) pos.line X.env = pure false)
    (hbase : attributeBase (.Name sp p4) "replace" X.env (eval (.Name sp p4) X.env) = eval (.Name sp p4) X.env)
    (hst : starEach [.Name mk p5, .JoinedStr [.Constant (.str " ") j1 p6, .FormattedValue (.Name mk p7) (-1) none p8, .Constant (.str " ") j2 p9] p10] X.env = [(false, eval (.Name mk p5) X.env), (false, eval (.JoinedStr [.Constant (.str " ") j1 p6, .FormattedValue (.Name mk p7) (-1) none p8, .Constant (.str " ") j2 p9] p10) X.env)]) :
    wpAny (model X.prog X.w) X.A (exec (.Assign [.Name sp p3] (.Call (.Attribute (.Name sp p4) "replace" apos) [.Name mk p5, .JoinedStr [.Constant (.str " ") j1 p6, .FormattedValue (.Name mk p7) (-1) none p8, .Constant (.str " ") j2 p9] p10] [] cpos) pos) X.env) Q X.xe s := by
  obtain ⟨m0, hn0, hl0⟩ := id I.loc
  obtain ⟨u0, r0, l0⟩ := hl0 isp sp _ hisp hx (.inl ksp)
  cases ns_same hn0 hns
  obtain ⟨t, rfl⟩ := (show ∃ t, u0 = Value.str x t from r0)
  have hmsp : m sp = some (.str x t) := by
    rcases l0 with ⟨_, e⟩ | ⟨z, _⟩
    · exact e
    · have e : X.env.kindOf sp = some .local := ksp
      rcases z with z | z <;> rw [e] at z <;> cases z
  refine wpAny_Assign_Name (wpAny_Call_method_late hbase ?few hline rfl (wpAny_Name (wpAny_loadName_local I.ok.kind ksp hns hmsp ?_) d1)) hs
  case few => rw [hst]; rfl
  refine ⟨"str", "str.replace", F.plainAttrs_str, F.slot_str_replace, F.type_str_replace, typeIs_str _ _ _, (fun _ e => nomatch e), ?_⟩
  rw [hst]
  refine Calls.callWith_builtin rfl (Calls.evalArgs_plain ?_)
  refine Calls.spliced_cons (wpAny_Name (wpAny_loadName_local I.ok.kind kmk hns hm ?_) d2)
  refine Calls.spliced_cons (JoinedStr_many (pos := p10) (joinParts_cons (Calls.Constant_str ⟨by decide, ?_⟩)))
  refine joinParts_cons (FormattedValue_plain (pos := p8) (wpAny_Name (wpAny_loadName_local (s := { s with toks := s.toks + 1 }) I.ok.kind kmk hns hm ?_) d2))
  refine wpAny_ge (formatField_str (fun t' tk hge => ⟨by show 2 ≤ sizeLine; decide, ?_⟩) (by show 1 ≤ sizeLine; decide))
  refine joinParts_cons (Calls.Constant_str ⟨by show 3 ≤ sizeLine; decide, ?_⟩)
  refine joinParts_nil ?_ (by show 3 ≤ sizeLine; decide)
  refine Calls.spliced_nil ?_
  have hge : s.toks + 1 ≤ tk := hge
  rw [spread_text]
  have htk : 0 < tk + 1 + 1 := Nat.succ_pos _
  have I2 : Inv X pins σ H { s with toks := tk + 1 + 1 } := I.tok _
  refine wpAny_pos I2.tk (SC.replace (Nat.ne_of_gt hu) (Nat.succ_ne_zero _) (fun e => absurd hu2 (by rw [e]; exact Nat.not_lt.mpr (Nat.le_trans (Nat.le_succ _) (Nat.le_trans hge (Nat.le_succ _))))) ?_ ?_ fun t2 k2 hk2 => ?_)
  · apply beq_eq_false_iff_ne.mpr
    intro e
    have := congrArg (fun z : Str => z.cps.size) e
    simp at this
  · show x.length + (x.length + 1) * 3 ≤ 16777216; omega
  · exact store_ok (v := .str (Txt.replace x ⟨#[c]⟩ ⟨#[32, c, 32]⟩)) (I2.tok k2 hk2) hN hisp (.inl ksp) ⟨t2, rfl⟩ (fun s' I' => hq s' I') (.inr ksp)
end
/-- for mark in MARKS: spaced = spaced.replace(mark, f' {mark} ') -/
def tMarks (isp imk : Nat) (ms : List Nat) : TS := fun D σ H => ∃ x y : Str, σ[isp]? = some (some (.str x)) ∧ x.length ≤ 30000 ∧ y.cps.toList = Txs.spr ms x.cps.toList ∧ ∀ mv, D.nx ((σ.set imk mv).set isp (some (.str y))) H
theorem spr_len (ms : List Nat) (l : List Nat) : (Txs.spr ms l).length ≤ 3 * l.length := by
  unfold Txs.spr
  induction l with
  | nil => simp
  | cons d r ih =>
    rw [List.flatMap_cons, List.length_append, List.length_cons]
    have : (if d ∈ ms then [32, d, 32] else [d]).length ≤ 3 := by split <;> simp
    omega
theorem ps_marks {X : Cx} {isp imk j1 j2 : Nat} {sp mk marks : Str} {iter : Expr} {p1 p3 p4 p5 p6 p7 p8 p9 p10 apos cpos pos posA : Pos} (hp : PassesOwn (model X.prog X.w) X.A X.env X.xe) (hc : X.calm = true) (hit : PE X iter (tC (.str marks)))
    (hasc : marks.cps.all (· < 128) = true) (h32 : 32 ∉ marks.cps.toList) (hnd : marks.cps.toList.Nodup)
    (hN : X.N.Nodup) (hisp : X.N[isp]? = some sp) (himk : X.N[imk]? = some mk) (hne : isp ≠ imk) (ksp : X.env.scope.names.lookup sp = some .local) (kmk : X.env.scope.names.lookup mk = some .local)
    (d1 : (sp == ("__debug__" : Str)) = false := by decide) (d2 : (mk == ("__debug__" : Str)) = false := by decide) (hline : (apos.endLine == cpos.line) = true := by rfl)
    (hs : swapsWith (.Call (.Attribute (.Name sp p4) "replace" apos) [.Name mk p5, .JoinedStr [.Constant (.str " ") j1 p6, .FormattedValue (.Name mk p7) (-1) none p8, .Constant (.str " ") j2 p9] p10] [] cpos) (some (.Name sp p3)) posA.line X.env = pure false := by rfl)
    (hbase : attributeBase (.Name sp p4) "replace" X.env (eval (.Name sp p4) X.env) = eval (.Name sp p4) X.env := by rfl)
    (hst : starEach [.Name mk p5, .JoinedStr [.Constant (.str " ") j1 p6, .FormattedValue (.Name mk p7) (-1) none p8, .Constant (.str " ") j2 p9] p10] X.env = [(false, eval (.Name mk p5) X.env), (false, eval (.JoinedStr [.Constant (.str " ") j1 p6, .FormattedValue (.Name mk p7) (-1) none p8, .Constant (.str " ") j2 p9] p10) X.env)] := by rfl)
    (hfs : ∀ x, foldedSetIterable iter X.env x = pure x := by intro _; rfl) :
    PS X (.For (.Name mk p1) iter [.Assign [.Name sp p3] (.Call (.Attribute (.Name sp p4) "replace" apos) [.Name mk p5, .JoinedStr [.Constant (.str " ") j1 p6, .FormattedValue (.Name mk p7) (-1) none p8, .Constant (.str " ") j2 p9] p10] [] cpos) posA] [] pos) (tMarks isp imk marks.cps.toList) := by
  intro pins s σ H D I ⟨x, y, hx, hz, hy, q⟩
  refine wpAny_For (thn (hit pins s σ H (fun v H' => v = .str marks ∧ H' = H) I ⟨rfl, rfl⟩) fun v s1 ⟨yv, H1, I1, r1, ev, eH⟩ => ?_) hfs
  subst ev eH
  obtain ⟨t, rfl⟩ := (show ∃ t, v = Value.str marks t from r1)
  refine wpAny_pyIter_ascii hasc ?_
  generalize eit : s1.heap.objs.size = it
  have I2 : Inv X pins σ H1 { s1 with heap := s1.heap.push { cls := .type "str_ascii_iterator", data := .fields #[.str marks t, .int 0 0] } } := I1.kept (t' := s1.toks) fun b o e => Heap.get?_push_of_some _ e
  have st2 : (s1.heap.push { cls := .type "str_ascii_iterator", data := .fields #[.str marks t, .int 0 0] }).IsStrIter it "str_ascii_iterator" marks t 0 := by
    rw [← eit]; exact ⟨_, Heap.get?_push_size _ rfl, rfl, rfl⟩
  have stat : ∀ b ∈ [it], FpOk X pins H1 b := fun b hb => by
    have e : b = s1.heap.objs.size := by rw [eit]; simpa using hb
    subst e
    exact I1.fpOk (Nat.le_refl _) (I1.hok.fresh (Nat.le_refl _))
  have T := turn_str (P := X.prog) (w := X.w) (K := X.K) (tg := .Name mk p1) marks t it
  have ml : marks.cps.toList.length = marks.cps.size := by simp
  have hlen : isp < σ.length := (List.getElem?_eq_some_iff.mp hx).1
  have setself : ∀ {τ : St} {k : Nat} {o : Option V}, τ[k]? = some o → τ.set k o = τ := fun {τ k o} h => by
    apply List.ext_getElem?
    intro j
    by_cases c : k = j
    · subst c; rw [List.getElem?_set_self (List.getElem?_eq_some_iff.mp h).1, h]
    · rw [List.getElem?_set_ne c]
  have self : ∃ mv, σ = (σ.set imk mv).set isp (some (.str x)) := by
    cases hmk : σ[imk]? with
    | none =>
      refine ⟨none, ?_⟩
      have e : σ.set imk none = σ := List.set_eq_of_length_le (List.getElem?_eq_none_iff.mp hmk)
      rw [e, setself hx]
    | some mv => exact ⟨mv, by rw [setself hmk, setself hx]⟩
  obtain ⟨mv0, e0⟩ := self
  refine codeAny_forLoop_any (fun n s' => ∃ i mv, ∃ xi : Str, n = marks.cps.size - i ∧ i ≤ marks.cps.size ∧ xi.cps.toList = Txs.spr (marks.cps.toList.take i) x.cps.toList ∧ Inv X pins ((σ.set imk mv).set isp (some (.str xi))) H1 s' ∧ s'.heap.IsStrIter it "str_ascii_iterator" marks t i) ?_ marks.cps.size
    ⟨0, mv0, x, by simp, Nat.zero_le _, by rw [List.take_zero, Txs.spr_nil], by rw [← e0]; exact I2, st2⟩
  rintro n s3 ⟨i, mv, xi, rfl, hi, hxi, I3, st3⟩
  obtain ⟨f0, f1, f2, f3, f4, f5⟩ := stat it (by simp)
  by_cases hlt : i < marks.cps.size
  · refine wpAny_passesOwn hp (wpAny_pyNext_ascii_item st3 (c := marks.cps[i]) (by simp [hlt]) fun h' st' sb => ?_)
    have hci : marks.cps.toList[i]? = some marks.cps[i] := by simp [hlt]
    have hcm : marks.cps[i] ∈ marks.cps.toList := List.mem_of_getElem? hci
    generalize hcc : marks.cps[i] = c at hci hcm
    have I4 : Inv X pins ((σ.set imk mv).set isp (some (.str xi))) H1 { s3 with heap := h', toks := s3.toks + 1 } := I3.turned (fun b o hb e => (sb.2 b hb).trans e) f0 f1 f3 f4 f5
    obtain ⟨o, eo, co, dob⟩ := id st'
    refine wpAny_passesOwn hp (go_of (s := { s3 with heap := h', toks := s3.toks + 1 }) eo co dob (by decide) ?_)
    have I5 := I4.pinned stat (T.obj (i + 1) _ st')
    refine wpAny_passesOwn hp (wpAny_assign_Name (wpAny_ge (store_ok2 I5 hN himk (.inl kmk) (v := .str ⟨#[c]⟩) ⟨_, rfl⟩ (fun s6 I6 _ hm hge => ?_) (.inr kmk))))
    obtain ⟨m', hn', hm'⟩ := hm kmk
    have hx6 : (((σ.set imk mv).set isp (some (.str xi))).set imk (some (V.str ⟨#[c]⟩)))[isp]? = some (some (.str xi)) := by
      rw [List.getElem?_set_ne (Ne.symm hne), List.getElem?_set_self (by rw [List.length_set]; exact hlen)]
    have hzi : xi.length ≤ 100000 := by
      have h1 := spr_len (marks.cps.toList.take i) x.cps.toList
      rw [← hxi, Txs.len_list, Txs.len_list] at h1
      omega
    have hnew : (Txt.replace xi ⟨#[c]⟩ ⟨#[32, c, 32]⟩).cps.toList = Txs.spr (marks.cps.toList.take (i + 1)) x.cps.toList := by
      rw [Txs.replace_one, hxi]
      have hni : c ∉ marks.cps.toList.take i := by
        intro hin
        have h1 : marks.cps.toList.take (i + 1) = marks.cps.toList.take i ++ [c] := by rw [List.take_succ, hci]; rfl
        have h2 : (marks.cps.toList.take (i + 1)).Nodup := hnd.sublist (List.take_sublist _ _)
        rw [h1] at h2
        exact (List.nodup_append.mp h2).2.2 c hin c (by simp) rfl
      have := Txs.spr_snoc (ms := marks.cps.toList.take i) (m := c) (fun e => h32 (e ▸ hcm)) hni x.cps.toList
      rw [List.take_succ, hci]
      exact this
    refine wpAny_passesOwn hp (wpAny_execs_cons (repl_stmt I6 hN hisp ksp kmk hx6 hn' hm' I3.tk (Nat.lt_of_lt_of_le (Nat.lt_succ_self _) hge) hzi (fun s7 I7 => ?_) d1 d2 hline hs hbase hst))
    refine wpAny_execs_nil ⟨marks.cps.size - (i + 1), by omega, i + 1, some (.str ⟨#[c]⟩), _, rfl, hlt, hnew, ?_, ?_⟩
    · have e : ((((σ.set imk mv).set isp (some (.str xi))).set imk (some (V.str ⟨#[c]⟩))).set isp (some (.str (Txt.replace xi ⟨#[c]⟩ ⟨#[32, c, 32]⟩)))) = (σ.set imk (some (V.str ⟨#[c]⟩))).set isp (some (.str (Txt.replace xi ⟨#[c]⟩ ⟨#[32, c, 32]⟩))) := by
        rw [List.set_comm _ _ hne, List.set_set, List.set_set]
      rw [← e]
      exact I7.unpinned
    · exact T.keep _ _ _ st' fun b hb o e => (I7.pin (b, o) (List.mem_append_right _ (List.mem_append_right _ (mem_pinsAt hb e)))).1
  · have ei : i = marks.cps.size := by omega
    subst ei
    refine wpAny_passesOwn hp (thn (T.done X rfl rfl rfl hc _ pins s3 _ H1 X.xe I3 stat st3 (Nat.le_refl _)) fun r s4 ⟨hr, I4⟩ => ?_)
    subst hr
    have ey : xi = y := by
      apply Str.ext'
      apply Array.toList_inj.mp
      rw [hxi, hy, ← ml, List.take_length]
    subst ey
    exact wpAny_execs_nil ⟨_, H1, I4, q mv⟩
end L2
namespace L3
open PySem L2
/-! ### the same in layer 3 -/
def chY (x : Str) : List Y := x.cps.toList.map fun c => Y.str ⟨#[c]⟩
theorem yields_str {G : G3} {H₀ : Hp} (x : Str) : Yields G H₀ (Its x) (chY x) (fun _ => True) where
  go := fun i H L t rl kp hi => show i < x.cps.size by simpa [chY] using hi
  yld := fun i H L v H' y t rl kp hy ⟨e, c, ec, ev⟩ => by
    subst e ev
    refine ⟨TSt.refl _, rl, ?_⟩
    unfold chY at hy
    rw [List.getElem?_map] at hy
    obtain ⟨z, ez, e⟩ := Option.map_eq_some_iff.mp hy
    rw [Array.getElem?_toList, ec] at ez
    cases ez
    subst e
    rfl
  stop := fun H L t rl kp => by show x.cps.size ≤ (chY x).length; simp [chY]
def iyStr (te : TE3) (τ : St3) (L : LHp) (R : List Y → (LHp → Prop) → LHp → Prop) : Prop := te τ L fun x L1 => match x with
  | .str z => z.cps.all (· < 128) = true ∧ R (chY z) (fun _ => True) L1
  | _ => False
theorem qi_str {X : Cx} {tg e : Expr} {te : TE3} (h : QE X e te) : QI X tg e (iyStr te) := PI.imp (pi_str h) fun σ H R ⟨τ, L, R3, rs, rl, z, k⟩ => by
  refine ⟨τ, L, _, rs, rl, z, fun v H1 y L1 t1 rl1 rv1 z1 => ?_⟩
  cases y with
  | str x => exact ⟨x, rv1, z1.1, k _ H1 _ _ L1 t1 rl1 (yields_str x) z1.2⟩
  | _ => exact z1.elim
def ySplit (x : Y) (vs : List Y) (L : LHp) (Q : YK) : Prop := match x, vs with
  | .str z, [.str y] => (y.length == 0) = false ∧ z.length ≤ 100000 ∧ ∀ p, L p = none → Q (.ref p) (updL L p (.lst ((Txt.split z y).map Y.str)))
  | _, _ => False
theorem rvs_strY {G : G3} {H : Hp} : ∀ zs : List Str, RVs G H (zs.map Y.str) (zs.map V.str)
  | [] => rfl
  | _ :: r => ⟨_, _, rfl, rfl, rvs_strY r⟩
theorem q_split {X : Cx} : MtM X "str.split" (upM X.g3 ySplit) := MtM.imp mt_split fun x xs H Q ⟨y, ys, L, Q3, r1, r2, rl, z, k⟩ => by
  unfold ySplit at z
  split at z
  · rename_i a b
    obtain ⟨v', rfl, rv⟩ := r2.inv1
    cases rv
    cases r1
    exact ⟨a, b, rfl, rfl, z.1, z.2.1, fun p hp => k _ _ _ _ (TSt.new hp) (rl.newL hp (rvs_strY _)) (by rfl) (z.2.2 p (rl.none hp))⟩
  · exact z.elim
theorem qe_split {X : Cx} {o e : Expr} {es : List Expr} {to : TE3} {tr : TA3} {apos cpos : Pos} (ho : QE X o to) (ha : QA X (e :: es) tr) (h4 : attributeBase o "split" X.env (eval o X.env) = eval o X.env := by rfl)
    (h5 : ((backTo cpos (starEach (e :: es) X.env)).all (fun x => !x.1) && (backToKw cpos (keywordEach [] X.env)).all (fun x => x.1.isSome) && decide ((e :: es).length + ([] : List Keyword).length + (if ([] : List Keyword).isEmpty = true then 0 else 1) < 30)) = true := by rfl)
    (h6 : (apos.endLine == cpos.line) = true := by rfl) (h7 : starEach (e :: es) X.env = (false, eval e X.env) :: starEach es X.env := by rfl) (h8 : (backTo cpos (starEach es X.env)).any (·.1) = false := by rfl) :
    QE X (.Call (.Attribute o "split" apos) (e :: es) [] cpos) (yBS ySplit to tr) := qe_bs1 PySem.F.slot_str_split PySem.F.type_str_split q_split ho ha h4 h5 h6 h7 h8
def setO3 : St3 → Nat → Option Y → St3
  | [], _, _ => []
  | _ :: r, 0, y => y :: r
  | o :: r, i + 1, y => o :: setO3 r i y
theorem setO3_eq : ∀ (τ : St3) (i : Nat) (y : Option Y), setO3 τ i y = τ.set i y
  | [], _, _ => rfl
  | _ :: _, 0, _ => rfl
  | o :: r, i + 1, y => by rw [setO3, setO3_eq r i y]; rfl
/-- the marks are spread -/
def yMarks (isp imk : Nat) (ms : List Nat) (D : Ends3) (τ : St3) (L : LHp) : Prop := match get3 τ isp with
  | some (.str x) => x.length ≤ 30000 ∧ D.nx (set3 (setO3 τ imk none) isp (.str ⟨(Txs.spr ms x.cps.toList).toArray⟩)) L
  | _ => False
theorem qs_marks {X : Cx} {isp imk j1 j2 : Nat} {sp mk marks : Str} {iter : Expr} {p1 p3 p4 p5 p6 p7 p8 p9 p10 apos cpos pos posA : Pos} (hp : PassesOwn (model X.prog X.w) X.A X.env X.xe) (hc : X.calm = true) (hit : PE X iter (tC (.str marks)))
    (hasc : marks.cps.all (· < 128) = true) (h32 : 32 ∉ marks.cps.toList) (hnd : marks.cps.toList.Nodup)
    (hN : X.N.Nodup) (hisp : X.N[isp]? = some sp) (himk : X.N[imk]? = some mk) (hne : isp ≠ imk) (ksp : X.env.scope.names.lookup sp = some .local) (kmk : X.env.scope.names.lookup mk = some .local)
    (d1 : (sp == ("__debug__" : Str)) = false := by decide) (d2 : (mk == ("__debug__" : Str)) = false := by decide) (hline : (apos.endLine == cpos.line) = true := by rfl)
    (hs : swapsWith (.Call (.Attribute (.Name sp p4) "replace" apos) [.Name mk p5, .JoinedStr [.Constant (.str " ") j1 p6, .FormattedValue (.Name mk p7) (-1) none p8, .Constant (.str " ") j2 p9] p10] [] cpos) (some (.Name sp p3)) posA.line X.env = pure false := by rfl)
    (hbase : attributeBase (.Name sp p4) "replace" X.env (eval (.Name sp p4) X.env) = eval (.Name sp p4) X.env := by rfl)
    (hst : starEach [.Name mk p5, .JoinedStr [.Constant (.str " ") j1 p6, .FormattedValue (.Name mk p7) (-1) none p8, .Constant (.str " ") j2 p9] p10] X.env = [(false, eval (.Name mk p5) X.env), (false, eval (.JoinedStr [.Constant (.str " ") j1 p6, .FormattedValue (.Name mk p7) (-1) none p8, .Constant (.str " ") j2 p9] p10) X.env)] := by rfl)
    (hfs : ∀ x, foldedSetIterable iter X.env x = pure x := by intro _; rfl) :
    QS X (.For (.Name mk p1) iter [.Assign [.Name sp p3] (.Call (.Attribute (.Name sp p4) "replace" apos) [.Name mk p5, .JoinedStr [.Constant (.str " ") j1 p6, .FormattedValue (.Name mk p7) (-1) none p8, .Constant (.str " ") j2 p9] p10] [] cpos) posA] [] pos) (yMarks isp imk marks.cps.toList) :=
  PS.imp (ps_marks hp hc hit hasc h32 hnd hN hisp himk hne ksp kmk d1 d2 hline hs hbase hst hfs) fun D σ H ⟨τ, L, D3, rs, rl, z, k⟩ => by
  unfold yMarks at z
  split at z
  · rename_i x ex
    obtain ⟨v, ev, rv⟩ := rs.get isp _ (get3_eq τ isp ex)
    cases (show v = V.str x from rv)
    refine ⟨x, ⟨(Txs.spr marks.cps.toList x.cps.toList).toArray⟩, ev, z.1, rfl, fun mv => k.nx _ H _ L (TSt.refl _) ?_ rl z.2⟩
    rw [set3_eq, setO3_eq]
    refine RelS.set ?_ rfl
    refine ⟨by rw [List.length_set, List.length_set]; exact rs.len, fun j y e => ?_⟩
    by_cases hj : imk = j
    · subst hj
      by_cases hl : imk < τ.length
      · rw [List.getElem?_set_self hl] at e; cases e
      · rw [List.getElem?_eq_none (by rw [List.length_set]; omega)] at e; cases e
    · rw [List.getElem?_set_ne hj] at e ⊢
      exact rs.get j y e
  · exact z.elim
end L3

namespace L2
open PySem PySem.Spec PyProof.Rows
section
variable {X : Cx}
theorem op_le_str : OpR X (compareOp .LtE) (fun x y H Q => ∃ i j, x = .str i ∧ y = .str j ∧ Q (.bl (!decide (j.cps.toList < i.cps.toList))) H) := by
  intro pins s σ H x y v u Q I rx ry h
  obtain ⟨i, j, rfl, rfl, q⟩ := h
  obtain ⟨t, rfl⟩ := rx
  obtain ⟨t', rfl⟩ := ry
  exact PySem.P.le_str (fin_bl I q rfl)
/-- a text within the keys of a dict of the top -/
theorem op_in_kd (neg : Bool) : OpR X (compareOp (if neg then .NotIn else .In)) (fun x y H Q => ∃ k a kvs, x = .str k ∧ y = .ref a ∧ KD X.K X.prog X.w a kvs ∧ Q (.bl (if neg then !(valV kvs (Sum.inr k)).isSome else (valV kvs (Sum.inr k)).isSome)) H) := by
  intro pins s σ H x y v u Q I rx ry ⟨k, a, kvs, ex, ey, kd, q⟩
  subst ex ey
  cases (show u = Value.ref a from ry)
  have rx' : RelV (kV (Sum.inr k)) v := rx
  obtain ⟨hd, z, dd⟩ := kd
  obtain ⟨vs, rel, dd⟩ := dd s.heap I.kIn
  have e := (rel.val (Sum.inr k)).isSome_eq
  cases neg with
  | false =>
    refine wpAny_in_of (kV_is (P := X.prog) (w := X.w) rx') hd dd.mapOf ?_
    rw [← e]
    exact ⟨.bl _, H, I.tok _, rfl, q⟩
  | true =>
    refine wpAny_notIn_of (kV_is (P := X.prog) (w := X.w) rx') hd dd.mapOf ?_
    rw [← e]
    exact ⟨.bl _, H, I.tok _, rfl, q⟩
end
end L2
namespace L3
open PySem L2
abbrev leS (i j : Str) : Bool := !decide (j.cps.toList < i.cps.toList)
def yLeS (x y : Y) (L : LHp) (Q : YK) : Prop := match x, y with
  | .str i, .str j => Q (.bl (leS i j)) L
  | _, _ => False
theorem q_leS {X : Cx} : OpR X (compareOp .LtE) (upR X.g3 yLeS) := OpR.imp op_le_str fun x y H Q ⟨x3, y3, L, Q3, rx, ry, rl, z, k⟩ => by
  unfold yLeS at z
  split at z
  · cases rx; cases ry
    exact ⟨_, _, rfl, rfl, k _ H _ L (TSt.refl _) rl (by rfl) z⟩
  · exact z.elim
theorem valV_lookup (kvs : List (Str × Str)) (k : Str) : (valV (kvs.map fun p => ((Sum.inr p.1 : Key), V.str p.2)) (Sum.inr k)).isSome = (kvs.lookup k).isSome := by
  cases h : kvs.lookup k with
  | some x => rw [lookup_valV h]; rfl
  | none =>
    induction kvs with
    | nil => rfl
    | cons p r ih =>
      obtain ⟨a, b⟩ := p
      rw [List.lookup_cons] at h
      unfold valV
      rw [List.map_cons, List.find?_cons]
      by_cases c : k = a
      · subst c; simp at h
      · have c1 : (k == a) = false := by simpa using c
        rw [c1] at h
        have c2 : decide ((Sum.inr a : Key) = Sum.inr k) = false := decide_eq_false fun z => c (Sum.inr.inj z).symm
        simp only [c2]
        exact ih h
def yInC (neg : Bool) (x y : Y) (L : LHp) (Q : YK) : Prop := match x, y with
  | .str k, .cd kvs => Q (.bl (nb neg (kvs.lookup k).isSome)) L
  | _, _ => False
theorem q_ninC {X : Cx} (K : PySem.W.Frag) (P : Program) (w : World) (hK : X.K = K := by rfl) (hP : X.prog = P := by rfl) (hw : X.w = w := by rfl) : OpR X (compareOp .NotIn) (upR ⟨K, P, w⟩ (yInC true)) := by
  subst hK hP hw
  refine OpR.imp (op_in_kd true) fun x y H Q ⟨x3, y3, L, Q3, rx, ry, rl, z, k⟩ => ?_
  unfold yInC at z
  split at z
  · rename_i kk kvs
    cases rx
    obtain ⟨a, rfl, kd⟩ := ry
    refine ⟨kk, a, _, rfl, rfl, kd, ?_⟩
    rw [if_pos rfl, valV_lookup]
    exact k _ H _ L (TSt.refl _) rl (by rfl) z
  · exact z.elim
end L3

namespace L3
open PySem L2
/-! ### methods and makers as their callers see them -/
def clsBody (s : Stmt) : List Stmt := match s with
  | .ClassDef _ _ _ b _ _ _ _ _ _ _ => b
  | _ => []
structure CalM (P : Program) (w : World) (K : PySem.W.Frag) (mg : Str → Option Value) (base : Heap) (k : Nat) (C : Addr) (m : Str) (ps : List Str) (sp : Sp3) : Prop where
  ex : ∃ g fd, Meth K C m g ∧ Fn3 P w K mg base k g fd ps sp ∧ Binds K fd ps []
structure CalI (P : Program) (w : World) (K : PySem.W.Frag) (mg : Str → Option Value) (base : Heap) (k : Nat) (C : Addr) (ps : List Str) (sp : Sp3) : Prop where
  ex : ∃ g fd, Mk K C g ∧ (∃ j, k = j + 1 ∧ Fn3 P w K mg base j g fd ps sp) ∧ Binds K fd ps []
theorem CalM.mono {P : Program} {w : World} {K : PySem.W.Frag} {mg : Str → Option Value} {base : Heap} {j k : Nat} {C : Addr} {m : Str} {ps : List Str} {sp : Sp3} (c : CalM P w K mg base j C m ps sp) (h : j ≤ k) : CalM P w K mg base k C m ps sp := by
  obtain ⟨g, fd, M, F, b⟩ := c.ex
  exact ⟨g, fd, M, F.mono h, b⟩
theorem CalI.mono {P : Program} {w : World} {K : PySem.W.Frag} {mg : Str → Option Value} {base : Heap} {j k : Nat} {C : Addr} {ps : List Str} {sp : Sp3} (c : CalI P w K mg base j C ps sp) (h : j ≤ k) : CalI P w K mg base k C ps sp := by
  obtain ⟨g, fd, M, ⟨i, e, F⟩, b⟩ := c.ex
  subst e
  exact ⟨g, fd, M, ⟨k - 1, by omega, F.mono (by omega)⟩, b⟩
section
variable {X : Cx} {o e : Expr} {es : List Expr} {to : TE3} {tr : TA3} {pos apos p : Pos} {m x : Str} {C : Addr} {k : Nat} {ps : List Str} {sp : Sp3}
theorem qe_m0 {pl : Sem Bool} (cm : CalM X.prog X.w X.K X.mg X.base k C m ps sp) (hr : Room k X.A) (c : Cls X.K C) (ho : QE X o to)
    (ht : eval (.Call (.Attribute o m apos) [] [] pos) X.env = (do
      let ov ← eval o X.env
      standAt apos.atName
      let (f, first) ← holding [ov] (getMethod ov m pl)
      callWith pos f first (backTo pos (starEach [] X.env)) (backToKw pos (keywordEach [] X.env))) := by rfl) :
    QE X (.Call (.Attribute o m apos) [] [] pos) (yMeth0 C m sp to) := by
  obtain ⟨g, fd, M, F, b⟩ := cm.ex
  exact qe_meth0 (pl := pl) ho c M F hr b ht
theorem qe_mk (ci : CalI X.prog X.w X.K X.mg X.base k C ps sp) (hr : Room k X.A) (hg : Gl X x) (hm : X.mg x = some (.ref C)) (ha : QA X (e :: es) tr)
    (hdb : (x == ("__debug__" : Str)) = false := by decide) (he : starEach (e :: es) X.env = (false, eval e X.env) :: starEach es X.env := by rfl) (hpl : (backTo pos (starEach es X.env)).any (·.1) = false := by rfl) :
    QE X (.Call (.Name x p) (e :: es) [] pos) (yMake C sp tr) := by
  obtain ⟨g, fd, M, ⟨j, ej, F⟩, b⟩ := ci.ex
  subst ej
  exact qe_make M F hr hg hm b ha hdb he hpl
end
/-- a method of the text -/
structure MethIn (K : PySem.W.Frag) (C : Addr) (x qual : Str) (st : Stmt) : Prop where
  ex : ∃ (f : Addr) (kV doc pm : Value) (an : Option Addr) (cdv ct : Value), PySem.W.findIn K (.ref C) x = some (some (.ref f)) ∧ PySem.W.isFn K (.ref f) = true ∧ Fun K x qual st f (PySem.W.fnOf x qual (defArgs st) (defBody st) (defScope st) .none kV doc pm an cdv ct)
theorem meth_in {K : PySem.W.Frag} {C : Addr} {x qual : Str} {st : Stmt} {f : Addr} {oc : Value} {od an : Option Addr} {osl : Array (Option Value)} {kV doc pm cdv ct : Value} (a : PySem.W.findIn K (.ref C) x = some (some (.ref f)))
    (l : K.lookup f = some ⟨oc, od, .func (PySem.W.fnOf x qual (defArgs st) (defBody st) (defScope st) .none kV doc pm an cdv ct), osl⟩) (c : PySem.W.codeIn K cdv qual = true) (k : PySem.W.keepIn K (.ref f) = true) (i : PySem.W.isFn K (.ref f) = true) : MethIn K C x qual st :=
  ⟨f, kV, doc, pm, an, cdv, ct, a, i, fun_mk (st := st) l c k⟩
theorem MethIn.use {K : PySem.W.Frag} {C : Addr} {x qual : Str} {st : Stmt} {ps : List Str} (D : MethIn K C x qual st)
    (hb : ∀ (kV doc pm : Value) (an : Option Addr) (cdv ct : Value) (us : List Value), us.length = ps.length → bindArgs (PySem.W.fnOf x qual (defArgs st) (defBody st) (defScope st) .none kV doc pm an cdv ct) ⟨us, []⟩ = pure (ps.zip us)) :
    ∃ f fd, Fun K x qual st f fd ∧ Binds K fd ps [] ∧ Meth K C x f := by
  obtain ⟨f, kV, doc, pm, an, cdv, ct, a, i, F⟩ := D.ex
  exact ⟨f, _, F, Binds.all (hb kV doc pm an cdv ct), ⟨a, i, F.kp⟩⟩
theorem pe_topS {X : Cx} {x z : Str} {pos : Pos} (t : TopV X.mg x (.str z)) (hg : Gl X x) (hd : (x == ("__debug__" : Str)) = false := by decide) : PE X (.Name x pos) (tC (.str z)) := by
  obtain ⟨u, hm, r, _⟩ := t.ex
  exact pe_glob hg hm r hd
end L3

namespace L2
open PySem PySem.Spec PyProof.Rows
/-! ### a text so many times -/
def mulL (z : Str) (n : Nat) : List Nat := (List.replicate n z.cps.toList).flatten
def mulS (z : Str) (n : Nat) : Str := ⟨(mulL z n).toArray⟩
theorem foldl_flat (xs : List (Array Nat)) : ∀ acc : Array Nat, (xs.foldl (· ++ ·) acc).toList = acc.toList ++ (xs.map Array.toList).flatten := by
  induction xs with
  | nil => intro acc; simp
  | cons a r ih => intro acc; rw [List.foldl_cons, ih]; simp [List.append_assoc]
theorem mulS_eq (z : Str) (n : Nat) : (⟨(List.replicate n z.cps).foldl (· ++ ·) #[]⟩ : Str) = mulS z n := by
  apply Str.ext'
  apply Array.toList_inj.mp
  show ((List.replicate n z.cps).foldl (· ++ ·) #[]).toList = (mulL z n).toArray.toList
  rw [foldl_flat]
  simp [mulL]
theorem mulL_len (z : Str) (n : Nat) : (mulL z n).length = n * z.length := by
  unfold mulL
  induction n with
  | zero => simp
  | succ n ih => rw [List.replicate_succ, List.flatten_cons, List.length_append, ih, Txs.len_list, Nat.succ_mul, Nat.add_comm]
theorem op_mul_str {X : Cx} : OpR X (binaryOp .Mult) (fun x y H Q => ∃ z, ∃ n : Nat, x = .str z ∧ y = .int n ∧ n ≤ 1000 ∧ z.length ≤ 100 ∧ Q (.str (mulS z n)) H) := by
  intro pins s σ H x y v u Q I rx ry ⟨z, n, ex, ey, hn, hz, q⟩
  subst ex ey
  obtain ⟨t, rfl⟩ := (show ∃ t, v = Value.str z t from rx)
  obtain ⟨t', rfl⟩ := (show ∃ t, u = Value.int n t from ry)
  have hlen : z.length * n ≤ 100000 := Nat.mul_le_mul (by omega : z.length ≤ 100) hn
  refine PySem.P.mul_str ?_ ?_ ?_ ?_
  · rw [decide_eq_false (by omega), decide_eq_false (by omega)]; rfl
  · intro h1 _ h2
    have : (1000 : Int) ≤ (2 ^ 63 - 1) / ((n : Int)) := Int.le_ediv_of_mul_le (by omega) (by omega)
    omega
  · intro _ _
    unfold Builtin.Str.tooLong
    exact decide_eq_false (by
      have e : (n : Int).toNat = n := rfl
      rw [e]
      exact Nat.not_lt.mpr (Nat.le_trans hlen (by decide)))
  · split
    · rename_i h
      have : n = 0 := by omega
      subst this
      have e : Str.empty = mulS z 0 := rfl
      rw [e]
      exact ⟨by show 0 ≤ _; exact Nat.zero_le _, ⟨.str (mulS z 0), H, I.tok _, ⟨_, rfl⟩, q⟩⟩
    · split
      · rename_i h1 h2
        have e : z = mulS z n := by
          rcases Bool.or_eq_true_iff.mp h2 with h | h
          · have hn1 : n = 1 := by have : (n : Int) = 1 := by simpa using h
                                   omega
            subst hn1
            apply Str.ext'
            show z.cps = (mulL z 1).toArray
            simp [mulL]
          · have hz0 : z.cps.toList = [] := List.length_eq_zero_iff.mp (by rw [Txs.len_list]; simpa using h)
            apply Str.ext'
            apply Array.toList_inj.mp
            show z.cps.toList = (mulL z n).toArray.toList
            rw [hz0]
            simp only [mulL, hz0]
            simp
        have hgo : EP X pins σ Q (.str z t) s := ⟨.str (mulS z n), H, I, ⟨t, by rw [← e]⟩, q⟩
        exact hgo
      · have en : (n : Int).toNat = n := rfl
        rw [en, mulS_eq]
        refine ⟨?_, ⟨.str (mulS z n), H, I.tok _, ⟨_, rfl⟩, q⟩⟩
        show (mulL z n).toArray.size ≤ sizeLine
        rw [List.size_toArray, mulL_len, Nat.mul_comm]
        exact Nat.le_trans hlen (by decide)
end L2
namespace L3
open PySem L2
def yMulS (x y : Y) (L : LHp) (Q : YK) : Prop := match x, y with
  | .str z, .int n => (0 ≤ n ∧ n ≤ 1000 ∧ z.length ≤ 100) ∧ Q (.str (mulS z n.toNat)) L
  | _, _ => False
theorem q_mulS {X : Cx} : OpR X (binaryOp .Mult) (upR X.g3 yMulS) := OpR.imp op_mul_str fun x y H Q ⟨x3, y3, L, Q3, rx, ry, rl, z, k⟩ => by
  unfold yMulS at z
  split at z
  · rename_i s n
    cases rx; cases ry
    obtain ⟨⟨h0, h1, h2⟩, q⟩ := z
    have en : n = ((n.toNat : Nat) : Int) := by omega
    exact ⟨s, n.toNat, rfl, by rw [← en], by omega, h2, k _ H _ L (TSt.refl _) rl (by rfl) q⟩
  · exact z.elim
end L3

namespace L2
open PySem PySem.Spec PyProof.Rows
/-! ### f-strings: !r of a text, an int -/
def tFmtR (te : TE) : TE := fun σ H Q => te σ H fun x H1 => ∃ y, x = .str y ∧ y.cps.all (· < 128) = true ∧ y.length ≤ 40000 ∧ ∀ s : Str, s.length ≤ 500000 → Q (.str s) H1
def tFmtI (te : TE) : TE := fun σ H Q => te σ H fun x H1 => ∃ i : Int, x = .int i ∧ i.natAbs.log2 < 1920 ∧ Q (.str (toString i)) H1
section
variable {X : Cx} {e : Expr} {te : TE} {pos : Pos}
theorem pe_fmtR (h : PE X e te) : PE X (.FormattedValue e 114 none pos) (tFmtR te) := by
  intro pins s σ H Q I hh
  refine wpAny_FormattedValue_repr (thn (h pins s σ H _ I hh) fun v s1 ⟨x, H1, I1, r1, y, ey, ha, hy, q⟩ => ?_)
  subst ey
  obtain ⟨t, rfl⟩ := (show ∃ t, v = Value.str y t from r1)
  have hl : (reprText y).length ≤ 10 * y.length + 2 := StrLaws.reprText_len y fun c hc => by
    have := ha
    rw [← Array.all_toList, List.all_eq_true] at this
    have := of_decide_eq_true (this c hc)
    exact Nat.lt_trans this (by decide)
  refine wpAny_pyReprObj_str ?_ (Nat.le_trans hl (Nat.le_trans (by omega : _ ≤ 400002) (by decide)))
  have I2 : Inv X pins σ H1 { s1 with toks := s1.toks + 1 } := I1.tok _
  exact wpAny_pos I2.tk (formatField_str (fun t' tk ht => ⟨.str _, H1, I2.tok _ ht, ⟨t', rfl⟩, q _ (by omega)⟩) (Nat.le_trans hl (Nat.le_trans (by omega : _ ≤ 400002) (by decide))))
theorem pe_fmtI (h : PE X e te) : PE X (.FormattedValue e (-1) none pos) (tFmtI te) := by
  intro pins s σ H Q I hh
  refine FormattedValue_plain (thn (h pins s σ H _ I hh) fun v s1 ⟨x, H1, I1, r1, i, ey, hi, q⟩ => ?_)
  subst ey
  obtain ⟨t, rfl⟩ := (show ∃ t, v = Value.int i t from r1)
  exact formatField_int_small hi ⟨.str _, H1, I1.tok _, ⟨_, rfl⟩, q⟩
end
end L2
namespace L3
open PySem L2
def yFmtR (te : TE3) (τ : St3) (L : LHp) (Q : YK) : Prop := te τ L fun x L1 => match x with
  | .str y => y.cps.all (· < 128) = true ∧ y.length ≤ 40000 ∧ ∀ s : Str, s.length ≤ 500000 → Q (.str s) L1
  | _ => False
def yFmtI (te : TE3) (τ : St3) (L : LHp) (Q : YK) : Prop := te τ L fun x L1 => match x with
  | .int i => i.natAbs.log2 < 1920 ∧ Q (.str (toString i)) L1
  | _ => False
section
variable {X : Cx} {e : Expr} {te : TE3} {pos : Pos}
theorem qe_fmtR (h : QE X e te) : QE X (.FormattedValue e 114 none pos) (yFmtR te) := PE.imp (pe_fmtR h) fun σ H Q ⟨τ, L, Q3, rs, rl, z, k⟩ =>
  ⟨τ, L, _, rs, rl, z, fun v H1 y L1 t1 rl1 rv1 z1 => by
    cases y with
    | str s => exact ⟨s, rv1, z1.1, z1.2.1, fun s' h => k _ H1 _ L1 t1 rl1 (by rfl) (z1.2.2 s' h)⟩
    | _ => exact z1.elim⟩
theorem qe_fmtI (h : QE X e te) : QE X (.FormattedValue e (-1) none pos) (yFmtI te) := PE.imp (pe_fmtI h) fun σ H Q ⟨τ, L, Q3, rs, rl, z, k⟩ =>
  ⟨τ, L, _, rs, rl, z, fun v H1 y L1 t1 rl1 rv1 z1 => by
    cases y with
    | int i => exact ⟨i, rv1, z1.1, k _ H1 _ L1 t1 rl1 (by rfl) z1.2⟩
    | _ => exact z1.elim⟩
end
theorem Fn3X.never {P : Program} {w : World} {K : PySem.W.Frag} {mg : Str → Option Value} {base : Heap} {k : Nat} {ps : List Str} {sp : Sp3X} {f : Addr} {fd : FuncData} (no : ∀ ys L Q E, ¬ sp ys L Q E) : Fn3X P w K mg base k f fd ps sp :=
  ⟨fun vs H Q E ⟨ys, L, Q3, E3, _, _, z, _⟩ => absurd z (no ys L Q3 E3), fun A outer s H args us vs Q E _ _ _ _ ⟨ys, L, Q3, E3, _, _, z, _⟩ => absurd z (no ys L Q3 E3)⟩
end L3

namespace L2
open PySem PySem.Spec PyProof.Rows
/-! ### isalpha -/
/-! ### a text in a text -/
end L2
namespace L3
open PySem L2 PySem.Spec PyProof.Rows
end L3

namespace L2
open PySem PySem.Spec PyProof.Rows
/-! ### an exception out of a comprehension -/
/-- as Lies: its traceback lies at T and bears the mark fl -/
def LiesF (h0 h : Heap) (H : Hp) (a C T : Addr) (fl : Value) : Prop :=
  h0.get? a = none ∧ H a = none ∧ ∃ oe vs a0, h.get? a = some oe ∧ oe.cls = .ref C ∧ oe.data = .fields vs ∧ vs[0]? = some a0 ∧
    vs[1]? = some (.ref T) ∧ h0.get? T = none ∧ H T = none ∧ T ≠ a ∧ ∃ oT ts, h.get? T = some oT ∧ oT.data = .fields ts ∧ ts[3]? = some fl
/-- the body takes exceptions that its own frame has noted -/
def TakesF (X : Cx) (Ex : Value → Hp → Prop) : Prop := ∀ (pins : List (Addr × Obj)) (σ : St) (H : Hp) (s : Shared) (a C T : Addr), Inv X pins σ H s → LiesF X.s₀.heap s.heap H a C T (rawInt X.env.locals) → (∀ p ∈ X.pn ++ pins, p.1 ≠ a ∧ p.1 ≠ T) → Ex (.ref C) H → X.xe (.ref a) s
section
variable {X : Cx} {pins : List (Addr × Obj)} {σ : St} {H : Hp} {s : Shared} {a C T : Addr} {tr : Option Addr}
theorem noteF_ok {M : Model} {Q : Unit → Shared → Prop} {E : Value → Shared → Prop} (I : Inv X pins σ H s) (hs : X.stack = X.env :: X.outer) (hf : X.env.frame = some X.env.locals) (hx : X.ex = []) (L : Lies X.s₀.heap s.heap H a C tr)
    (pa : ∀ p ∈ X.pn ++ pins, p.1 ≠ a ∧ ∀ T, tr = some T → p.1 ≠ T)
    (h : ∀ h' T, Inv X pins σ H { s with heap := h' } → LiesF X.s₀.heap h' H a C T (rawInt X.env.locals) → (∀ b o, s.heap.get? b = some o → (∀ T0, tr = some T0 → b ≠ T0) → b ≠ T) →
      (∀ b o, s.heap.get? b = some o → (∀ vs, o.data ≠ .fields vs) → ∃ sl, h'.get? b = some { o with slots := sl }) → Q () { s with heap := h' }) :
    wpAny M X.A (noteFrame (.ref a) X.env) Q E s := by
  obtain ⟨new, free, oe, vs, b0, he, hc, hd, h0, htr⟩ := id L
  have newT : ∀ T, tr = some T → X.s₀.heap.get? T = none ∧ H T = none := by intro T e; subst e; exact ⟨htr.2.1, htr.2.2.1⟩
  have fr : s.heap.FunFrames (PySem.W.hideAll s.heap (hidL a tr (frs X.stack))) X.stack := PySem.W.funFrames_hide I.stack fun env he b hb => List.mem_cons_of_mem _ (List.mem_append_right _ (mem_frs he hb))
  have st : (PySem.W.hideAll s.heap (hidL a tr (frs X.stack))).StaysIn s.heap := fun b o e => PySem.W.of_hideAll _ e
  have na : (PySem.W.hideAll s.heap (hidL a tr (frs X.stack))).get? a = none := PySem.W.hideAll_none _ List.mem_cons_self
  have hfr : X.A.frames = some (X.env :: X.outer) := by rw [← hs]; exact I.ok.frames
  have nT : ∀ T, tr = some T → (PySem.W.hideAll s.heap (hidL a tr (frs X.stack))).get? T = none := fun T e => by subst e; exact PySem.W.hideAll_none _ (List.mem_cons_of_mem _ (List.mem_append_left _ (by simp)))
  have go : ∀ h', Heap.NotedW (PySem.W.hideAll s.heap (hidL a tr (frs X.stack))) (X.env :: X.outer) a (.ref C) b0 (rawInt X.env.locals) s.heap h' → Q () { s with heap := h' } := fun h' ⟨k1, k2, k3, k4⟩ => by
    rw [← hs] at k2
    obtain ⟨u, hok, T, apT, n1, n2, ne, oe', vs', oT, ts, e1, e2, e3, e4, e5, e6, e7, e8⟩ := left_ok I hs hx new free newT k1 k2 k3 k4
    exact h h' T (inv_noted I hx hs u hok k1 k4 pa) ⟨new, free, oe', vs', b0, e1, e2, e4, e3, e5, n1, n2, ne, oT, ts, e6, e7, e8⟩ apT k4
  generalize PySem.W.hideAll s.heap (hidL a tr (frs X.stack)) = base at fr st na go nT
  rw [hs] at fr
  cases tr with
  | none =>
    unfold noteFrame
    simp only [hf]
    refine wpAny_bind (wpAny_field he hd htr ?_)
    rw [if_neg (by decide)]
    exact wpAny_entryW hfr fr hf he st na hd (Array.getElem?_eq_some_iff.mp htr).1 h0 (by rw [hc]; exact go)
  | some T =>
    obtain ⟨h1, _, _, hTa, oT, ts, hT, hdT, h3⟩ := htr
    exact wpAny_noteFrame_onW hfr fr hf ⟨oe, vs, T, oT, ts, he, ⟨hc, h0⟩, hd, h1, nT T rfl, hTa, hT, hdT, h3⟩ st na go
theorem flightF_ok {M : Model} {A : Around} {Q : Unit → Shared → Prop} {E : Value → Shared → Prop} {fl : Value} (I : Inv X pins σ H s) (hs : X.stack = X.env :: X.outer) (hx : X.ex = []) (L : LiesF X.s₀.heap s.heap H a C T fl)
    (pa : ∀ p ∈ X.pn ++ pins, p.1 ≠ a ∧ p.1 ≠ T) (h : ∀ h' T', Inv X pins σ H { s with heap := h' } → Lies X.s₀.heap h' H a C (some T') → Q () { s with heap := h' }) : wpAny M A (setFlight (.ref a) none) Q E s := by
  obtain ⟨new, free, oe, vs, b0, he, hc, hd, h0, h1, n1, n2, ne, oT, ts, hT, hdT, h3⟩ := L
  have fr2 : s.heap.FunFrames (PySem.W.hideAll s.heap (hidL a (some T) (frs X.stack))) X.stack := PySem.W.funFrames_hide I.stack fun env he b hb => List.mem_cons_of_mem _ (List.mem_append_right _ (mem_frs he hb))
  refine wpAny_setFlight_noneW (base := PySem.W.hideAll s.heap (hidL a (some T) (frs X.stack))) (l := X.stack) (e := a) (cls := .ref C) (a0 := b0) (fl := fl) (fun b o e => PySem.W.of_hideAll _ e) fr2
    ⟨oe, vs, T, oT, ts, he, ⟨hc, h0⟩, hd, h1, PySem.W.hideAll_none _ (List.mem_cons_of_mem _ (List.mem_append_left _ (by simp))), ne, hT, hdT, h3⟩ fun h3 j1 j2 j3 j4 => ?_
  have j4' : ∀ b o, s.heap.get? b = some o → (∀ vs, o.data ≠ .fields vs) → ∃ sl, h3.get? b = some { o with slots := sl } := fun b o e q => ⟨o.slots, j4 b o e q⟩
  obtain ⟨u', hok', T', apT', n1', n2', ne', oe2, vs2, oT2, ts2, f1, f2, f3, f4, f5, f6, f7, f8⟩ := left_ok (tr := some T) I hs hx new free (fun T0 e => by cases e; exact ⟨n1, n2⟩) j1 j2 j3.at j4'
  exact h h3 T' (inv_noted (tr := some T) I hx hs u' hok' j1 j4' fun p hp => ⟨(pa p hp).1, fun T0 e => by cases e; exact (pa p hp).2⟩) ⟨new, free, oe2, vs2, b0, f1, f2, f4, f3, f5, n1', n2', ne', oT2, ts2, f6, f7, f8⟩
end
/-- the context of a def's body takes them -/
theorem takesF_cx {P : Program} {w : World} {K : PySem.W.Frag} {mg : Str → Option Value} {base : Heap} {N : List Str} {qual : Str} {scope : Scope} {f : Addr} {cd : Value} {A : Around} {outer : List Env} {s : Shared} {H : Hp} {E : XK} :
    TakesF (cxOf (CXE P w) P w K mg base N qual scope f cd A outer s H E) fun c H' => E c none H' := by
  intro pins σ H' s' a C T I L pa q
  obtain ⟨new, free, oe, vs, b0, he, hc, hd, h0, h1, n1, n2, ne, oT, ts, hT, hdT, h3⟩ := id L
  show wpAny _ _ (leaving _ (.ref a)) _ _ s'
  unfold leaving
  refine wpAny_bind (wpAny_noteFrame_againW (base := s.heap) (e := a) (cls := .ref C) (a0 := b0) rfl ⟨oe, vs, T, oT, ts, he, ⟨hc, h0⟩, hd, h1, n1, ne, hT, hdT, h3⟩ ?_)
  refine flightF_ok (X := cxOf (CXE P w) P w K mg base N qual scope f cd A outer s H E) I rfl rfl L pa fun h' T' I2 L2 => ?_
  exact ⟨a, C, T', H', rfl, I2.os, I2.bare, I2.base, I2.hok, L2, q, I2.tk⟩
/-! ### the comprehension's own end -/
def cpost (M : Model) (A : Around) (E : Value → Shared → Prop) (Q : Value → Shared → Prop) (acc : Value) (cenv : Env) (r : Result) (s' : Shared) : Prop :=
  ∃ m, s'.heap.Ns cenv.locals m ∧ ∀ h', Heap.SameBut cenv.locals s'.heap h' → match r with
    | .ok _ => Q acc { s' with heap := h' }
    | .error x => wpAny M A (PySem.passOn "comprehension.variables-let-go" x cenv : Sem Value) (fun _ _ => False) E { s' with heap := h' }
theorem compr_ok {M : Model} {A : Around} {E : Value → Shared → Prop} {s : Shared} {env : Env} {e : Expr} {scope : Scope} {pos : Pos} {nw fst : Sem Value} {g : Comprehension} {gs : List Comprehension} {cl : List (Str × Addr)} {Q : Value → Shared → Prop}
    (h1 : clausesOf e = g :: gs) (h2 : ∀ x, foldedSetIterable g.iter env x = pure x) (h3 : closureFor scope env = pure cl) (h4 : scope.kind = .function) (h5 : ∀ x ∈ scope.names, x.2 = .local → scope.names.lookup x.1 = some .local)
    (h : wpAny M A fst (fun x s1 => wpAny M A (pyIter x) (fun it s2 => wpAny M A nw (fun acc s3 => wpAny M A (newFunctionEnv scope env.globals cl [] env.qual none .none (some env)) (fun cenv s4 =>
      codeAny M A (.compStart e 0 it acc { cenv with scope := relabel scope env }) (cpost M A E Q acc { cenv with scope := relabel scope env }) s4) E s3) E s2) E s1) E s) : wpAny M A (comprehension e scope env pos nw false fst none) Q E s := by
  unfold comprehension
  rw [h3, h1]
  refine wpAny_bind (thn h fun x s1 q1 => ?_)
  refine wpAny_bind (wpAny_standAt (wpAny_bind (wpAny_of_eq (h2 x) ?_)))
  refine wpAny_bind (wpAny_holding (thn q1 fun it s2 q2 => ?_))
  refine wpAny_standIf (wpAny_bind (thn q2 fun acc s3 q3 => ?_))
  refine wpAny_bind (wpAny_pure (wpAny_bind (thn q3 fun cenv s4 q4 => ?_)))
  dsimp only
  have hv : ∀ y ∈ (scope.names.filter fun y => (y.2 == .local || y.2 == .cell) && y.1 != (".0" : Str)).reverse, y.2 = .local → Env.kindOf { cenv with scope := relabel scope env } y.1 = some .local :=
    fun y hy hl => lookup_relabel_local (h5 y (List.mem_filter.mp (List.mem_reverse.mp hy)).1 hl)
  refine wpAny_holding (wpAny_bind (wpAny_attempt (wpAny_holding (wpAny_run (codeAny_mono q4 fun r s' hr => ?_)))))
  obtain ⟨m, hn, hr⟩ := hr
  cases r with
  | ok f => exact wpAny_bind (wpAny_holding (wpAny_comp_letGo (cenv := { cenv with scope := relabel scope env }) h4 _ s' m hv hn fun h' m' _ hs' => wpAny_pure (hr h' hs')))
  | error x => exact wpAny_bind (wpAny_holding (wpAny_comp_letGo (cenv := { cenv with scope := relabel scope env }) h4 _ s' m hv hn fun h' m' _ hs' => wpAny_mono (hr h' hs') (fun _ _ f => f.elim) fun _ _ y => y))
theorem codeAny_compLoop_x {prog : Program} {w : World} {A : Around} {R : Result → Shared → Prop} {s : Shared} {elt target iter : Expr} {ifs : List Expr} {scope : Scope} {pos : Pos} {it acc : Value} {env : Env} (I : Nat → Shared → Prop)
    (turn : ∀ n s, I n s → wpAny (model prog w) A (pyNext it) (fun r s₁ => match r with
      | none => R (.ok .next) s₁
      | some v => wpAny (model prog w) A (letOwnedTupleGo target it v) (fun _ s₁ => wpAny (model prog w) A (assign target env v) (fun _ s₂ =>
          wpAny (model prog w) A (forIn ifs true fun c r => if r = true then do let ok ← isTrue c env (eval c env); pure (ForInStep.yield ok) else pure (ForInStep.yield r)) (fun ok s₃ =>
            if ok = true then wpAny (model prog w) A (eval elt env) (fun x s₄ =>
              wpAny (model prog w) A (call (.builtin "list.append") [acc, x]) (fun _ s₅ => ∃ m, m < n ∧ I m s₅) (fun _ _ => False) s₄) (notedBy (model prog w) A env fun x s' => R (.error x) s') s₃
            else ∃ m, m < n ∧ I m s₃) (fun _ _ => False) s₂) (fun _ _ => False) s₁) (fun _ _ => False) s₁) (fun _ _ => False) s)
    (n : Nat) (h : I n s) :
    codeAny (model prog w) A (.compLoop (.ListComp elt [⟨target, iter, ifs, 0⟩] scope pos) 0 it acc env) R s := by
  refine codeAny_loop rfl I (fun n s hI => ?_) n h
  show wpAny _ A ((compTurn (.ListComp elt [⟨target, iter, ifs, 0⟩] scope pos) 0 it acc env).onRaise (fun x => do noteFrame x env; theTreesLotGoes x)) _ _ s
  refine wpAny_noted ?_
  rw [compTurn_list]
  refine wpAny_bind (wpAny_standAt (wpAny_bind (wpAny_mono (turn n s hI) (fun r s₁ h₁ => ?_) fun _ _ h' => h'.elim)))
  cases r with
  | none => exact wpAny_pure h₁
  | some v =>
    refine wpAny_bind (wpAny_mono h₁ (fun _ s₁ h₁ => ?_) fun _ _ h' => h'.elim)
    refine wpAny_bind (wpAny_mono h₁ (fun _ s₂ h₂ => wpAny_bind (wpAny_mono h₂ (fun ok s₃ h₃ => ?_) fun _ _ h' => h'.elim)) fun _ _ h' => h'.elim)
    cases ok with
    | false => exact wpAny_pure ⟨rfl, h₃⟩
    | true =>
      exact wpAny_bind (wpAny_bind (wpAny_mono h₃ (fun x s₄ h₄ => wpAny_bind (wpAny_mono h₄ (fun _ s₅ h₅ => wpAny_pure (wpAny_pure ⟨rfl, h₅⟩)) fun _ _ h' => h'.elim)) fun _ _ h' => h'))
section
variable {X : Cx} {scope : Scope} {T : List Str} {elt target iter : Expr} {ifs : List Expr} {wi : TI} {g : TG} {tc : TT} {te : TE}
/-- an exception leaves the block: the frame is noted, the block's names go -/
theorem comp_leaves {pins : List (Addr × Obj)} {σ σ0 : St} {H2 H9 : Hp} {s₂ s9 : Shared} {C a Cl : Addr} {tr : Option Addr} {Ex : Value → Hp → Prop} {Q : Value → Shared → Prop} {acc : Value} {cenv : Env} {m9 : Str → Option Value}
    (I2 : Inv X pins σ0 H2 s₂) (hx : X.ex = []) (hsk : X.stack = X.env :: X.outer) (hfr : X.env.frame = some X.env.locals) (tx : TakesF X Ex) (I10 : Inv X pins σ H9 s9) (fC : H9 C = none) (CL : C ≠ X.env.locals) (CS : X.s₀.heap.objs.size ≤ C)
    (CC : ∀ x c, X.env.cells.lookup x = some c → c ≠ C) (CP : ∀ p ∈ X.pn ++ pins, p.1 ≠ C) (hn9 : s9.heap.Ns C m9) (L9 : Lies s₂.heap s9.heap H9 a Cl tr) (apC : a ≠ C) (apT : ∀ T, tr = some T → T ≠ C) (q9 : Ex (.ref Cl) H9)
    (ec : cenv.locals = C := by rfl) (ef : cenv.frame = X.env.frame := by rfl) :
    notedBy (model X.prog X.w) X.A cenv (fun x s' => cpost (model X.prog X.w) X.A X.xe Q acc cenv (.error x) s') (.ref a) s9 := by
  have nf : noteFrame (.ref a) cenv = noteFrame (.ref a) X.env := by unfold noteFrame PySem.frameOf; rw [ef]
  unfold notedBy
  rw [nf]
  obtain ⟨new, free, oe, vs, b0, he, hc, hd, h0, htr⟩ := id L9
  have newT : ∀ T0, tr = some T0 → s₂.heap.get? T0 = none := by intro T0 e; subst e; exact htr.2.1
  have L10 : Lies X.s₀.heap s9.heap H9 a Cl tr := by
    refine ⟨I2.news hx new, free, oe, vs, b0, he, hc, hd, h0, ?_⟩
    cases tr with
    | none => exact htr
    | some T0 => exact ⟨htr.1, I2.news hx htr.2.1, htr.2.2⟩
  have pa : ∀ p ∈ X.pn ++ pins, p.1 ≠ a ∧ ∀ T0, tr = some T0 → p.1 ≠ T0 := fun p hp => by
    have e := (I2.pin p hp).1
    exact ⟨(fun z => by rw [z, new] at e; cases e), fun T0 t z => by rw [z, newT T0 t] at e; cases e⟩
  refine noteF_ok I10 hsk hfr hx L10 pa fun h' T1 I11 L11 apT1 k4 => ?_
  obtain ⟨o9, es9, ep9, ho9, hd9, r9⟩ := id hn9
  have hC1 : C ≠ T1 := apT1 C o9 ho9 fun T0 e z => apT T0 e z.symm
  have hn' : h'.Ns C m9 := by
    obtain ⟨sl, e⟩ := k4 C o9 ho9 fun ws q => by rw [hd9] at q; cases q
    exact ⟨_, es9, ep9, e, hd9, r9⟩
  have paT : ∀ p ∈ X.pn ++ pins, p.1 ≠ a ∧ p.1 ≠ T1 := fun p hp => ⟨(pa p hp).1, apT1 p.1 _ (I10.pin p hp).1 (pa p hp).2⟩
  subst ec
  refine ⟨m9, hn', fun h2 hs2 => ?_⟩
  obtain ⟨n1, f1, oe1, vs1, c0, he1, hc1, hd1, h01, h11, nT1, fT1, ne1, oT1, ts1, hT1, hdT1, h31⟩ := id L11
  have he2 : h2.get? a = some oe1 := (hs2.2 a apC).trans he1
  have hT2 : h2.get? T1 = some oT1 := (hs2.2 T1 (Ne.symm hC1)).trans hT1
  have tk9 := I10.tk
  have I12 : Inv X pins σ H9 { s9 with heap := h2 } := Inv.turned (s := { s9 with heap := h' }) (t' := s9.toks) (it := cenv.locals) I11 (fun b o hb e => (hs2.2 b hb).trans e) fC CL (.inr CS) CC CP tk9
  have L12 : LiesF X.s₀.heap h2 H9 a Cl T1 (rawInt X.env.locals) := ⟨n1, f1, oe1, vs1, c0, he2, hc1, hd1, h01, h11, nT1, fT1, ne1, oT1, ts1, hT2, hdT1, h31⟩
  show wpAny _ X.A (PySem.passOn _ _ _) _ _ { s9 with heap := h2 }
  unfold PySem.passOn
  refine wpAny_bind (wpAny_field he2 hd1 h11 ?_)
  rw [if_neg (show ¬ ((Value.ref T1 == Value.none) = true) from by simp)]
  unfold setFlight
  refine wpAny_bind (wpAny_bind (wpAny_field he2 hd1 h11 ?_))
  rw [if_pos (show (Value.ref T1 != Value.none) = true from by simp)]
  refine wpAny_setField hT2 hdT1 (Array.getElem?_eq_some_iff.mp h31).1 (wpAny_throw ?_)
  have ev : (cenv.frame.elim Value.none fun f => rawInt f) = rawInt X.env.locals := by rw [ef, hfr]; rfl
  have eh : h2.update T1 (Obj.mapFields (·.setIfInBounds 3 (cenv.frame.elim Value.none fun f => rawInt f))) = h2 := by
    rw [ev]; exact Heap.update_setField_same h2 T1 oT1 ts1 3 _ hT2 hdT1 h31
  show X.xe (.ref a) { s9 with heap := h2.update T1 (Obj.mapFields (·.setIfInBounds 3 (cenv.frame.elim Value.none fun f => rawInt f))) }
  rw [eh]
  exact tx pins σ H9 _ a Cl T1 I12 L12 paT q9
theorem comp_blockX {pins : List (Addr × Obj)} {σ : St} {Q : VK} {E : Value → Shared → Prop} {pos : Pos} {itv : Value} {s₂ : Shared} {Ex : Value → Hp → Prop}
    (S : CompScope X scope) (hc : X.calm = true)
    (hg : ∀ C fp s₀ H₀, PG (X.comp scope T C fp s₀ H₀) target g) (hgo : Outer g X.N.length T.length) (hf : ∀ C fp s₀ H₀, PF (X.comp scope T C fp s₀ H₀) ifs tc) (hx : X.ex = []) (hsk : X.stack = X.env :: X.outer) (hfr : X.env.frame = some X.env.locals) (tx : TakesF X Ex)
    (he : ∀ C fp s₀ H₀ pn xe, (∀ b ∈ fp, ∃ o, (b, o) ∈ pn) → Takes ((X.comp scope T C fp s₀ H₀).tr pn xe) (fun _ c H => Ex c H) → PE ((X.comp scope T C fp s₀ H₀).tr pn xe) elt te)
    (h : PIE X pins σ target (fun J H1 => ∃ W : Nat → Nat → List V → Hp → Prop, (∃ m, W 0 m [] H1) ∧ ∀ i m ys H, W i m ys H →
      (J.stop i H ∧ ys.length ≤ sizeLine ∧ ∀ D, H D = none → Q (.ref D) (upd H D (.lst ys))) ∨
      (J.go i H ∧ ys.length < sizeLine ∧ ∀ x H', J.yld i H x H' → g x (σ ++ List.replicate T.length none) H' fun σ2 H2 => tc σ2 H2 fun b H3 =>
        if b = true then te σ2 H3 fun y H4 => ∃ m', m' < m ∧ W (i + 1) m' (ys ++ [y]) H4 else ∃ m', m' < m ∧ W (i + 1) m' ys H3)) itv s₂)
    :
    wpAny (model X.prog X.w) X.A (newList []) (fun acc s₃ => wpAny (model X.prog X.w) X.A (newFunctionEnv scope X.env.globals (clOf scope X.env) [] X.env.qual none .none (some X.env)) (fun cenv s₄ =>
      codeAny (model X.prog X.w) X.A (.compStart (.ListComp elt [⟨target, iter, ifs, 0⟩] scope pos) 0 itv acc { cenv with scope := relabel scope X.env }) (cpost (model X.prog X.w) X.A X.xe (EP X pins σ Q) acc { cenv with scope := relabel scope X.env }) s₄) E s₃) E s₂ := by
  obtain ⟨it, fp, tn, J, H2, rfl, I2, Tn, st2, f2, W, ⟨m0, w0⟩, turn⟩ := h
  refine wpAny_newObj_type (wpAny_newFunctionEnv S.nocell (by intro y hy; simp at hy) (fun h₁ hns₁ hsb₁ => ?_) S.kind)
  dsimp only at hns₁ hsb₁ ⊢
  generalize hH2 : s₂.heap.push { cls := .type "list", dict := none, data := .seq ([] : List Value).toArray } = G at hns₁ hsb₁ ⊢
  have hC : G.objs.size = s₂.heap.objs.size + 1 := by rw [← hH2, Heap.size_push]
  obtain ⟨D, eD⟩ : ∃ D, s₂.heap.objs.size = D := ⟨_, rfl⟩
  obtain ⟨C, eC⟩ : ∃ C, G.objs.size = C := ⟨_, rfl⟩
  rw [eD] at hC ⊢
  rw [eC] at hC hns₁ hsb₁ ⊢
  have hDC : D ≠ C := by omega
  have old : ∀ b o, s₂.heap.get? b = some o → h₁.get? b = some o := fun b o e => by
    have hb := ltN e
    exact hsb₁.extBut b o (neN (by omega)) (Heap.get?_push_of_some _ (hH2 ▸ Heap.get?_push_of_some _ e))
  have hacc : h₁.get? D = some { cls := .type "list", data := .seq ([] : List Value).toArray 0 } := by
    refine hsb₁.extBut _ _ hDC (Heap.get?_push_of_some _ ?_)
    rw [← hH2, ← eD]
    exact Heap.get?_push_size _ rfl
  have fpo : ∀ b ∈ fp, @LT.lt Nat instLTNat b s₂.heap.objs.size := fun b hb => by
    obtain ⟨o, e, _⟩ := Tn.obj _ _ st2 b hb
    exact ltN e
  have ilt : @LT.lt Nat instLTNat X.env.locals s₂.heap.objs.size := I2.lt
  have isz : X.s₀.heap.objs.size ≤ s₂.heap.objs.size := I2.sz
  have HD : H2 D = none := I2.hok.fresh (leN (by omega))
  have HC : H2 C = none := I2.hok.fresh (leN (by omega))
  have nfs : ∀ b : Addr, @LE.le Nat instLENat s₂.heap.objs.size b → b ∉ frs X.stack := fun b hb z => by
    have q := I2.stkSub b z
    rcases List.mem_cons.mp q with q | q
    · rw [← q] at ilt; exact absurd ilt (Nat.not_lt.mpr hb)
    · exact I2.nofs hb q
  have cellLt : ∀ x c, X.env.cells.lookup x = some c → @LT.lt Nat instLTNat c s₂.heap.objs.size := fun x c e => by
    obtain ⟨v, q⟩ := I2.cell x c e
    exact q.lt
  have CL : C ≠ X.env.locals := neN (by omega)
  have CS : X.s₀.heap.objs.size ≤ C := leN (by omega)
  have CC : ∀ x c, X.env.cells.lookup x = some c → c ≠ C := fun x c e => neN (by have := cellLt x c e; omega)
  have CP : ∀ p ∈ X.pn ++ pins, p.1 ≠ C := fun p hp => neN (by have := ltN (I2.pin p hp).1; omega)
  let X' : Cx := X.comp scope T C fp s₂ H2
  have ok' : X'.Ok := {
    mod := I2.ok.mod, kind := S.kind, glob := I2.ok.glob, blt := I2.ok.blt
    above := leN (by show @LE.le Nat instLENat s₂.heap.objs.size C; omega)
    inj := fun x y c h1 h2 => I2.ok.inj x y c (S.cl_old I2 h1) (S.cl_old I2 h2)
    has := fun x hx => S.cl_has (S.kindOf hx)
    cab := fun x c hx => absurd (show false = true from hx) (by simp)
    hd := I2.ok.hd, frames := I2.ok.frames, stk := .inl rfl
    exf := fun b hb => ⟨neN (by have := fpo b hb; show @Ne Nat b C; omega), fun x c e => (f2 b hb).2.2.2.2.1 x c (S.cl_old I2 e)⟩
    bs := I2.bs, bsz := Nat.le_trans I2.ok.bsz I2.sz
    noex := fun b o e hb => by
      obtain ⟨e0, n0⟩ := I2.ok.bs b o e
      rcases (f2 b hb).2.2.2.1 with q | q
      · exact I2.ok.noex b o e q
      · have q' : @LE.le Nat instLENat X.s₀.heap.objs.size b := q
        have := ltN e0; omega
    exfs := fun b hb z => by
      rcases List.mem_cons.mp (I2.stkSub b z) with q | q
      · exact (f2 b hb).2.1 q
      · exact (f2 b hb).2.2.1 q
    funs := I2.stack, frf := I2.stkFree }
  have I4 : ∀ tk, 0 < tk → Inv X' pins (σ ++ List.replicate T.length none) H2 { s₂ with heap := h₁, toks := tk } := fun tk htk => {
    tk := htk, ok := ok', os := rfl, bare := I2.bare, base := Un.kept old
    loc := ⟨_, hns₁, fun i x v e1 e2 e3 => by
      have hi : i < σ.length := by
        by_cases hi : i < σ.length
        · exact hi
        · rw [List.getElem?_append_right (by omega), List.getElem?_replicate] at e2
          split at e2 <;> cases e2
      rw [List.getElem?_append_left hi] at e2
      have hi' : i < X.N.length := by rw [← I2.len]; exact hi
      have e1' : X.N[i]? = some x := by
        have : (X.N ++ T)[i]? = some x := e1
        rw [List.getElem?_append_left hi'] at this; exact this
      have hfr := S.vis (List.mem_of_getElem? e1') e3
      obtain ⟨m, hn, hl⟩ := I2.loc
      have hk := S.free x hfr
      obtain ⟨u, r, l⟩ := hl i x v e1' e2 (.inr hk)
      refine ⟨u, r, .inr ⟨S.back hfr, ?_⟩⟩
      rcases l with ⟨l, _⟩ | ⟨_, c, e, z⟩
      · rw [l] at hk; rcases hk with q | q <;> cases q
      · obtain ⟨c', e'⟩ := S.cl_has hfr
        have e'' := S.cl_old I2 e'
        rw [e] at e''; cases e''
        exact ⟨c, e', z.keeps old⟩⟩
    cell := fun x c e => by
      obtain ⟨v, z⟩ := I2.cell x c (S.cl_old I2 e)
      exact ⟨v, z.keeps old⟩
    free := HC, freeC := fun x c e => I2.freeC x c (S.cl_old I2 e)
    pin := fun p hp => by
      obtain ⟨a, b, c, d, e⟩ := I2.pin p hp
      have hlt := ltN a
      refine ⟨old _ _ a, b, neN (by show @Ne Nat p.1 C; omega), fun z => ?_, e⟩
      rcases List.mem_cons.mp (I2.stkSub _ z) with q | q
      · exact c q
      · exact d q
    hok := I2.hok.kept old
    len := by show (σ ++ _).length = (X.N ++ T).length; rw [List.length_append, List.length_append, List.length_replicate, I2.len] }
  have fpk : ∀ (pins' : List (Addr × Obj)) (H' : Hp), (∀ p ∈ pins', p ∈ pins ∨ p.1 = D) → (∀ b ∈ fp, H' b = none) → ∀ b ∈ fp, FpOk X' pins' H' b := fun pins' H' hp hn b hb => by
    obtain ⟨_, q1, q2, q3, q4, q5⟩ := f2 b hb
    have hlt := fpo b hb
    refine ⟨hn b hb, neN (by show @Ne Nat b C; omega), ok'.exfs b hb, .inl hb, (ok'.exf b hb).2, fun p hpp => ?_⟩
    rcases List.mem_append.mp hpp with z | z
    · exact q5 p (List.mem_append_left _ z)
    · rcases hp p z with z | z
      · exact q5 p (List.mem_append_right _ z)
      · rw [z]; exact neN (by omega)
  have stay : Tn.keep = Tn.keep := rfl
  have loop : ∀ s₃ : Shared, s₃ = { s₂ with heap := h₁, toks := s₂.toks + ([] : List (Str × Value)).length } →
      codeAny (model X.prog X.w) X.A (.compLoop (.ListComp elt [⟨target, iter, ifs, 0⟩] scope pos) 0 (.ref it) (.ref D) X'.env) (cpost (model X.prog X.w) X.A X.xe (EP X pins σ Q) (.ref D) X'.env) s₃ := by
    rintro s₃ rfl
    refine codeAny_compLoop_x (fun n s' => ∃ i σ' H' ys its k, Inv X' pins σ' H' s' ∧ (σ'.length = X.N.length + T.length ∧ ∀ (i : Nat) v, (σ ++ List.replicate T.length none)[i]? = some (some v) → σ'[i]? = some (some v)) ∧
      s'.heap.get? D = some { cls := .type "list", data := .seq (its : List Value).toArray k } ∧ Vals ys its ∧ H' D = none ∧ tn i s'.heap ∧ (∀ b ∈ fp, H' b = none) ∧ W i n ys H') ?_ m0
      ⟨0, _, H2, [], [], 0, I4 _ I2.tk, ⟨by rw [List.length_append, List.length_replicate, I2.len], fun _ _ e => e⟩, hacc, .nil, HD, Tn.keep _ _ _ st2 fun b _ o e => old b o e, fun b hb => (f2 b hb).1, w0⟩
    rintro n s3 ⟨i, σ3, H3, ys, its, k, I3, ⟨hl3, hs3⟩, hD3, hv3, hH3, st3, fr3, w3⟩
    have hlen : its.length = ys.length := hv3.length.symm
    have D_fs : D ∉ X'.fs := nfs D (by omega)
    have DC' : D ≠ X'.env.locals := hDC
    -- D is pinned while the block runs
    have I3p : Inv X' (pins ++ [(D, { cls := .type "list", data := .seq its.toArray k })]) (σ ++ List.replicate T.length none) H3 s3 :=
      (I3.weak (by rw [hl3, List.length_append, List.length_replicate, I2.len]) hs3).pins_of fun p hp => by
        rcases List.mem_append.mp hp with z | z
        · exact I3.pin p (List.mem_append_right _ z)
        · have e := List.mem_singleton.mp z
          subst e
          exact ⟨hD3, hH3, DC', D_fs, fun v z => by cases z⟩
    have pinsD : ∀ p ∈ pins ++ [(D, ({ cls := .type "list", data := .seq its.toArray k } : Obj))], p ∈ pins ∨ p.1 = D := fun p hp => by
      rcases List.mem_append.mp hp with z | z
      · exact .inl z
      · exact .inr (by rw [List.mem_singleton.mp z])
    rcases turn i n ys H3 w3 with ⟨stop, hz, qn⟩ | ⟨go, hz, step⟩
    · refine thn (Tn.done X' rfl rfl rfl hc i _ s3 _ H3 _ I3p (fpk _ H3 pinsD fr3) st3 stop) fun r s4 ⟨hr, I4'⟩ => ?_
      subst hr
      obtain ⟨hD4, hH4, _⟩ := I4'.pin (D, _) (List.mem_append_right _ (List.mem_append_right _ List.mem_cons_self))
      obtain ⟨m', hn', _⟩ := I4'.loc
      have un : Un (frs X.stack) fp H2 (upd H3 D (.lst ys)) s₂.heap s4.heap := {
        keep := I4'.base.keep, slot := I4'.base.slot
        free := fun b o e n hx => by
          have := ltN e
          rw [upd_ne (neN (by omega))]
          exact I4'.base.free b o e n hx
        there := I4'.base.there
        tups := fun b xs e => by rw [upd_ne (fun z => by rw [z, HD] at e; cases e)]; exact I4'.base.tups b xs e
        frzs := fun b o u e => by rw [upd_ne (fun z => by rw [z, HD] at e; cases e)]; exact I4'.base.frzs b o u e
        tbls := fun b ps e => by rw [upd_ne (fun z => by rw [z, HD] at e; cases e)]; exact I4'.base.tbls b ps e }
      have hok : HOk X.prog X.w (upd H3 D (.lst ys)) s4.heap := fun b u e => by
        by_cases hb : b = D
        · subst hb
          rw [upd_same] at e; cases e
          exact ⟨hz, its, k, hv3, hD4⟩
        · rw [upd_ne hb] at e
          refine (I4'.hok b u e).stay (fun _ _ _ q => q) (fun c q => ?_) fun c xs q => ?_
          · rw [upd_ne (ne_of_none q hH3)]; exact q
          · rw [upd_ne (ne_of_none q hH3)]; exact q
      have I5 : Inv X pins σ (upd H3 D (.lst ys)) s4 := I2.call' (ch := fp) I4'.os un hok I4'.bare fun b hb => ⟨(f2 b hb).2.2.2.1, (f2 b hb).2.1, (f2 b hb).2.2.2.2.1, (f2 b hb).2.2.2.2.2⟩
      have nC : upd H3 D (.lst ys) C = none := by rw [upd_ne (Ne.symm hDC)]; exact I4'.free
      exact ⟨m', hn', fun h' hs' => ⟨.ref D, _, I5.turned (t' := s4.toks) (it := C) (fun b o hb e => (hs'.2 b hb).trans e) nC CL (.inr CS) CC CP, rfl, qn D hH3⟩⟩
    · refine thn (Tn.item X' rfl rfl rfl hc i _ s3 _ H3 _ I3p (fpk _ H3 pinsD fr3) st3 go) fun r s4 ⟨u, hr, h4⟩ => ?_
      subst hr
      refine thn h4 fun _ s5 ⟨x, H5, I5, r5, y5, st5, fr5⟩ => ?_
      have I5' := I5.pinned (fpk _ H5 pinsD fr5) (Tn.obj _ _ st5)
      refine wpAny_mono ((hg C fp s₂ H2) _ s5 _ H5 x u _ I5' r5 (hgo σ I2.len x H5 _ (step x H5 y5))) (fun _ s6 ⟨σ6, H6, I6, ⟨hl6, hs6⟩, q6⟩ => ?_) fun _ _ z => z
      refine wpAny_mono ((hf C fp s₂ H2) _ s6 σ6 H6 _ I6 q6) (fun b s7 ⟨H7, I7, q7⟩ => ?_) fun _ _ z => z
      have fin : ∀ {s8 : Shared} {H8 : Hp} (I8 : Inv X' ((pins ++ [(D, { cls := .type "list", data := .seq its.toArray k })]) ++ pinsAt fp s5.heap) σ6 H8 s8), tn (i + 1) s8.heap ∧ (∀ b ∈ fp, H8 b = none) ∧ s8.heap.get? D = some { cls := .type "list", data := .seq its.toArray k } ∧ H8 D = none ∧ Inv X' pins σ6 H8 s8 := fun {s8 H8} I8 => by
        refine ⟨Tn.keep _ _ _ st5 fun b hb o e => (I8.pin (b, o) (List.mem_append_right _ (List.mem_append_right _ (mem_pinsAt hb e)))).1, fun b hb => ?_, ?_, ?_, I8.unpinned.unpinned⟩
        · obtain ⟨o, e, d⟩ := Tn.obj _ _ st5 b hb
          exact (I8.pin (b, o) (List.mem_append_right _ (List.mem_append_right _ (mem_pinsAt hb e)))).2.1
        · exact (I8.pin (D, _) (List.mem_append_right _ (List.mem_append_left _ (List.mem_append_right _ List.mem_cons_self)))).1
        · exact (I8.pin (D, _) (List.mem_append_right _ (List.mem_append_left _ (List.mem_append_right _ List.mem_cons_self)))).2.1
      cases b with
      | false =>
        rw [if_neg Bool.false_ne_true] at q7 ⊢
        obtain ⟨m', hm, w7⟩ := q7
        obtain ⟨a1, a2, a3, a4, a5⟩ := fin I7
        exact ⟨m', hm, i + 1, σ6, H7, ys, its, k, a5, ⟨hl6, hs6⟩, a3, hv3, a4, a1, a2, w7⟩
      | true =>
        rw [if_pos rfl] at q7 ⊢
        have tk : Takes (X'.tr (X'.pn ++ ((pins ++ [(D, { cls := .type "list", data := .seq its.toArray k })]) ++ pinsAt fp s5.heap)) (notedBy (model X.prog X.w) X.A X'.env fun x s' => cpost (model X.prog X.w) X.A X.xe (EP X pins σ Q) (.ref D) X'.env (.error x) s')) (fun _ c H => Ex c H) := by
          intro pins9 σ9 H9 s9 a Cl tr I9 L9 ap apT q9
          have tk9 := I9.tk
          have I10 : Inv X pins σ H9 s9 := I2.call' (ch := fp) I9.os I9.base I9.hok I9.bare (fun b hb => ⟨(f2 b hb).2.2.2.1, (f2 b hb).2.1, (f2 b hb).2.2.2.2.1, (f2 b hb).2.2.2.2.2⟩) tk9
          obtain ⟨m9, hn9, _⟩ := id I9.loc
          exact comp_leaves I2 hx hsk hfr tx I10 I9.free CL CS CC CP hn9 L9 ap.1 (fun T e => (apT T e).1) q9
        refine wpAny_mono (he C fp s₂ H2 _ _ (fun b hb => ?_) tk [] s7 σ6 H7 _ (I7.tr _) q7) (fun v s8 ⟨y, H8, I8', r8, m', hm, w8⟩ => ?_) fun _ _ z => z
        · obtain ⟨o, e, _⟩ := Tn.obj _ _ st5 b hb
          exact ⟨o, List.mem_append_right _ (List.mem_append_right _ (mem_pinsAt hb e))⟩
        have I8 := I8'.untr
        obtain ⟨a1, a2, a3, a4, a5⟩ := fin I8
        refine append_acc a3 (by omega) fun h9 k9 hs9 hD9 => ?_
        have nD : ∀ b ∈ fp, b ≠ D := fun b hb => neN (by have := fpo b hb; omega)
        refine ⟨m', hm, i + 1, σ6, H8, ys ++ [y], its ++ [v], k9, ?_, ⟨hl6, hs6⟩, hD9, hv3.append (.cons r8 .nil), a4, Tn.keep _ _ _ a1 fun b hb o e => (hs9.2 b (nD b hb)).trans e, a2, w8⟩
        exact a5.turned (t' := s8.toks) (it := D) (fun b o hb e => (hs9.2 b hb).trans e) a4 DC' (.inr (leN (by show @LE.le Nat instLENat s₂.heap.objs.size D; omega))) (fun x c e => neN (by have := cellLt x c (S.cl_old I2 e); omega)) fun p hp => neN (by
          have := ltN (I2.pin p hp).1; omega)
  exact codeAny_compStart_list (loop _ rfl) (Tn.self _ _ _ _ _ (Tn.keep _ _ _ st2 fun b _ o e => old b o e) (loop _ rfl))
theorem pe_lcX (T : List Str) {pos : Pos} {Ex : Value → Hp → Prop} (S : CompScope X scope) (hc : X.calm = true) (hi : PI X target iter wi) (hg : ∀ C fp s₀ H₀, PG (X.comp scope T C fp s₀ H₀) target g) (hgo : Outer g X.N.length T.length)
    (hf : ∀ C fp s₀ H₀, PF (X.comp scope T C fp s₀ H₀) ifs tc) (hx : X.ex = []) (hsk : X.stack = X.env :: X.outer) (hfr : X.env.frame = some X.env.locals) (tx : TakesF X Ex)
    (he : ∀ C fp s₀ H₀ pn xe, (∀ b ∈ fp, ∃ o, (b, o) ∈ pn) → Takes ((X.comp scope T C fp s₀ H₀).tr pn xe) (fun _ c H => Ex c H) → PE ((X.comp scope T C fp s₀ H₀).tr pn xe) elt te)
    (hs : ∀ x, foldedSetIterable iter X.env x = pure x := by intro _; rfl) : PE X (.ListComp elt [⟨target, iter, ifs, 0⟩] scope pos) (tLC T.length wi g tc te) := by
  intro pins s σ H Q I h
  rw [eval_ListComp]
  refine compr_ok rfl hs (S.clo I) S.kind S.names (thn (hi pins s σ H _ I h) fun v s1 h1 => thn h1 fun itv s2 h2 => ?_)
  exact comp_blockX S hc hg hgo hf hx hsk hfr tx he h2
end
section
variable {X : Cx} {pins : List (Addr × Obj)} {σ : St} {H H' : Hp} {s s' : Shared} {a b C T : Addr} {tr : Option Addr} {E1 : X1}
theorem Inv.newsP (I : Inv X pins σ H s) (hx : ∀ b ∈ X.ex, ∃ o, (b, o) ∈ X.pn) (h : s.heap.get? b = none) : X.s₀.heap.get? b = none := by
  cases q : X.s₀.heap.get? b with
  | none => rfl
  | some o =>
    by_cases hb : b ∈ X.ex
    · obtain ⟨o', m⟩ := hx b hb
      have := (I.pin (b, o') (List.mem_append_left _ m)).1
      rw [h] at this; cases this
    · obtain ⟨o', e⟩ := I.base.there b o q hb
      rw [h] at e; cases e
theorem Takes.passP (t : Takes X E1) (hx : ∀ b ∈ X.ex, ∃ o, (b, o) ∈ X.pn) {e : Value} (I : Inv X pins σ H s) (h : CXE X.prog X.w X.stack H s (fun c _ H' => E1 σ c H') e s') : X.xe e s' := by
  obtain ⟨a, C, T, H', rfl, ho, hg, u, hok, ⟨new, free, oe, vs, a0, he, hc, hd, h0, h1, nT, fT, rest⟩, q, htk⟩ := h
  have I' : Inv X pins σ H' s' := I.call' (ch := []) ho u hok hg (fun b z => absurd z (by simp))
  exact t pins σ H' s' a C (some T) I' ⟨I.newsP hx new, free, oe, vs, a0, he, hc, hd, h0, h1, I.newsP hx nT, fT, rest⟩ (I.apart new) (fun T' e => by cases e; exact I.apart nT) q
theorem run_fnXP {k : Nat} {f : Addr} {fd : FuncData} {ps : List Str} {sp : Sp} {Q : VK} {us : List Value} {vs : List V} (F : FnOk X.prog X.w X.K X.mg X.base (CXE X.prog X.w) k f fd ps sp) (hr : Room k X.A) (hb : Binds X.K fd ps []) (ht : Takes X E1) (hx : ∀ b ∈ X.ex, ∃ o, (b, o) ∈ X.pn)
    (I : Inv X pins σ H s) (r : Vals vs us) (h : sp vs H Q (fun c _ H' => E1 σ c H')) : wpAny (model X.prog X.w) X.A (call (.ref f) us) (EP X pins σ Q) X.xe s := by
  have hl : (us ++ []).length = ps.length := by rw [List.append_nil, ← r.length]; exact F.len _ _ _ _ h
  refine wpAny_call (codeAny_mono (F.run X.A X.stack s H ⟨us, []⟩ us vs Q _ hr I.env0 (by have := hb s us I.kIn hl; rw [List.append_nil] at this; exact this) r h) fun r s' hq => ?_)
  cases r with
  | error e => exact ht.passP hx I hq
  | ok fl =>
    cases fl with
    | ret u => exact I.after hq
    | next => exact False.elim hq
    | brk => exact False.elim hq
    | cont => exact False.elim hq
end
section
variable {X : Cx} {k : Nat} {f C : Addr} {fd : FuncData} {ps : List Str} {sp : Sp} {E1 : X1} {x : Str} {p pos : Pos} {e : Expr} {es : List Expr} {t : TA}
theorem pe_callXP (F : FnOk X.prog X.w X.K X.mg X.base (CXE X.prog X.w) k f fd ps sp) (hr : Room k X.A) (hg : Gl X x) (hm : X.mg x = some (.ref f)) (hk : PySem.W.keepIn X.K (.ref f) = true) (hb : Binds X.K fd ps []) (ht : Takes X E1) (hx : ∀ b ∈ X.ex, ∃ o, (b, o) ∈ X.pn)
    (ha : PA X (e :: es) t) (hdb : (x == ("__debug__" : Str)) = false := by decide) (he : starEach (e :: es) X.env = (false, eval e X.env) :: starEach es X.env := by rfl) (hpl : (backTo pos (starEach es X.env)).any (·.1) = false := by rfl) :
    PE X (.Call (.Name x p) (e :: es) [] pos) (tCallX sp E1 t) := by
  intro pins s σ H Q I h
  refine wpAny_Call_Name_kw (ld_glob I hg hm ?_ hdb)
  refine PySem.W.callWith_K (h₀ := X.base) I.ok.mod.kin hk (thn (ha pos pins s σ H _ I h) fun us s1 ⟨vs, H1, I1, r, q⟩ => ⟨I1.kIn, ?_⟩) he hpl
  exact run_fnXP F hr hb ht hx I1 r q
end
/-! ### the sum of a list of whole numbers -/
theorem vals_int : ∀ {ns : List Int} {us : List Value}, Vals (ns.map V.int) us → ∃ l : List (Int × Tok), l.map (·.1) = ns ∧ us = l.map fun p => Value.int p.1 p.2
  | [], _, .nil => ⟨[], rfl, rfl⟩
  | n :: ns, _, .cons r t => by
    obtain ⟨tk, rfl⟩ := (show ∃ t, _ = Value.int n t from r)
    obtain ⟨l, e, rfl⟩ := vals_int t
    exact ⟨(n, tk) :: l, by rw [List.map_cons, e], rfl⟩
theorem call_sum {X : Cx} (hc : X.calm = true := by rfl) : CallR X (.builtin "sum") (fun xs H Q => ∃ (a : Addr) (ns : List Int), xs = [.ref a] ∧ SqL X.K H a (ns.map V.int) ∧ Q (.int ns.sum) H) := by
  intro pins s σ H xs us Q I r h
  obtain ⟨a, ns, rfl, sq, q⟩ := h
  obtain ⟨u, rfl, ru⟩ := vals1 r
  cases ru
  obtain ⟨its, rv, pl, _⟩ := I.list sq
  obtain ⟨l, el, rfl⟩ := vals_int rv
  have hl := plain_list pl
  have ei : (l.map fun p => Value.int p.1 p.2).toArray = intItems l.toArray := by unfold intItems; simp
  rw [ei] at hl
  refine wpAny_pos I.tk (sum_intListG (I.ok.hd hc) hl fun h' tk t' hk ht => ?_)
  have es : preSum (numAt l.toArray) l.toArray.size = ns.sum := by
    rw [preSum_eq, List.take_of_length_le (by simp), ← el]
  rw [es]
  exact ⟨.int ns.sum, H, I.kept (h' := h') (t' := tk) hk ht, ⟨_, rfl⟩, q⟩
end L2
namespace L3
open PySem L2
/-- an exception, by its class and the heap of lists -/
def exOf (G : G3) (Ea : Addr → LHp → Prop) : Value → Hp → Prop := fun c H => ∃ C L, c = .ref C ∧ RelH G H L ∧ Ea C L
section
variable {X : Cx} {scope : Scope} {T : List Str} {elt target iter c e o : Expr} {ifs es : List Expr} {wi : TI3} {g : TG3} {tA : TT3} {te to : TE3} {tr : TA3} {pos : Pos} {E3 : X3} {Ea : Addr → LHp → Prop}
theorem takes_ex {E1 : X1} (t : Takes X E1) {E2 : X1} (h : ∀ σ c H, E2 σ c H → E1 σ c H) : Takes X E2 := fun pins σ H s a C tr I L ap apT q => t pins σ H s a C tr I L ap apT (h _ _ _ q)
theorem qe_cXP {k : Nat} {x : Str} {ps : List Str} {sp : Sp3X} {p : Pos} (c : Cal3X X.prog X.w X.K X.mg X.base k x ps sp) (hr : Room k X.A) (hg : Gl X x) (ht : Takes X (upX X.g3 E3)) (hx : ∀ b ∈ X.ex, ∃ o, (b, o) ∈ X.pn) (ha : QA X (e :: es) tr) (hdb : (x == ("__debug__" : Str)) = false := by decide)
    (he : starEach (e :: es) X.env = (false, eval e X.env) :: starEach es X.env := by rfl) (hpl : (backTo pos (starEach es X.env)).any (·.1) = false := by rfl) : QE X (.Call (.Name x p) (e :: es) [] pos) (yCallX sp E3 tr) := by
  obtain ⟨f, fd, F, b, kp, m⟩ := c.ex
  refine PE.imp (pe_callXP F hr hg m kp b ht hx ha hdb he hpl) fun σ H Q ⟨τ, L, Q3, rs, rl, z, k⟩ => ?_
  exact ⟨τ, L, _, rs, rl, z, fun vs H1 ys L1 t1 rl1 rv1 z1 => ⟨ys, L1, Q3, E3 τ, rv1, rl1, z1, k.ts t1, fun C H' L' t' rl' q => ⟨C, τ, L', rfl, rs.ts (t1.trans t'), rl', q⟩⟩⟩
theorem qe_lcX (T : List Str) (S : CompScope X scope) (hc : X.calm = true) (hi : QI X target iter wi) (hg : TGx X scope T target g)
    (hf : ∀ C fp s₀ H₀, QF (X.comp scope T C fp s₀ H₀) ifs tA) (hx : X.ex = []) (hsk : X.stack = X.env :: X.outer) (hfr : X.env.frame = some X.env.locals) (tx : TakesF X (exOf X.g3 Ea))
    (he : ∀ C fp s₀ H₀ pn xe, (∀ b ∈ fp, ∃ o, (b, o) ∈ pn) → Takes ((X.comp scope T C fp s₀ H₀).tr pn xe) (upX X.g3 fun _ => Ea) → QE ((X.comp scope T C fp s₀ H₀).tr pn xe) elt te)
    (hs : ∀ x, foldedSetIterable iter X.env x = pure x := by intro _; rfl) : QE X (.ListComp elt [⟨target, iter, ifs, 0⟩] scope pos) (yLC T.length wi g tA te) := by
  obtain ⟨g2, h1, h2, h3⟩ := hg.ex
  exact PE.imp (pe_lcX T S hc hi h1 h2 hf hx hsk hfr tx (fun C fp s₀ H₀ pn xe hp t => he C fp s₀ H₀ pn xe hp (takes_ex t fun σ c H ⟨C, τ, L, ec, _, rl, q⟩ => ⟨C, L, ec, rl, q⟩)) hs) (up_lc h3)
end
theorem takesF3 {P : Program} {w : World} {K : PySem.W.Frag} {mg : Str → Option Value} {base : Heap} {N : List Str} {qual : Str} {scope : Scope} {f : Addr} {cd : Value} {A : Around} {outer : List Env} {s : Shared} {H : Hp} {E : XK} {E3 : Addr → LHp → Prop} (h : AftX ⟨K, P, w⟩ H E3 E) :
    TakesF (cxOf (CXE P w) P w K mg base N qual scope f cd A outer s H E) (exOf ⟨K, P, w⟩ fun C L => ∃ L2, LSub L2 L ∧ E3 C L2) := by
  intro pins σ H' s' a C T I L pa ⟨C', L', ec, rl, L2, sb, q⟩
  cases ec
  exact takesF_cx pins σ H' s' a C T I L pa (h C H' L2 (Inv.tst I) (rl.sub sb) q)
/-- THE RULE for a def that may raise, out of a comprehension too -/
theorem ok3XF {P : Program} {w : World} {K : PySem.W.Frag} {mg : Str → Option Value} {base : Heap} {x qual : Str} {st : Stmt} {f : Addr} {fd : FuncData} {N ps : List Str} {k : Nat} {sp : Sp3X} {t : X3 → TS3} (F : Fun K x qual st f fd) (S : FnScope N ps (defScope st)) (len : ∀ ys L Q E, sp ys L Q E → ys.length = ps.length)
    (hbody : ∀ (cdv : Value) (A : Around) (outer : List Env) (s : Shared) (H : Hp) (E : XK) (Ea : Addr → LHp → Prop), Room k (A.deeper (PyProof.Rows.envOfC qual (defScope st) s.heap.objs.size f cdv)) →
      Takes (cxOf (CXE P w) P w K mg base N qual (defScope st) f cdv A outer s H E) (upX ⟨K, P, w⟩ fun _ => Ea) → TakesF (cxOf (CXE P w) P w K mg base N qual (defScope st) f cdv A outer s H E) (exOf ⟨K, P, w⟩ Ea) →
      QSs (cxOf (CXE P w) P w K mg base N qual (defScope st) f cdv A outer s H E) (defBody st) (t fun _ => Ea))
    (vc : ∀ ys L Q E, sp ys L Q E → t (FinX E) { nx := fun _ L' => Fin3 Q .non L', rt := Fin3 Q } (start3 N ys) L) : Fn3X P w K mg base (k + 1) f fd ps sp := by
  obtain ⟨oc, od, kV, doc, pm, an, cdv, ct, osl, rfl, lk, hcd⟩ := F.ex
  refine fn_of lk hcd S (fun vs H Q E ⟨ys, L, Q3, E3, rv, rl, z, _⟩ => by rw [← rv.length]; exact len ys L Q3 E3 z) fun A outer s H vs Q E hr ⟨ys, L, Q3, E3, rv, rl, z, k, kx⟩ => ?_
  refine ⟨_, hbody cdv A outer s H E (fun C L => ∃ L2, LSub L2 L ∧ E3 C L2) hr (takes3 kx) (takesF3 kx), start3 N ys, L, _, start_rel rv, rl, vc ys L Q3 E3 z, ?_⟩
  exact ⟨fun σ H' τ L' t' rs' rl' ⟨L2, s2, q2⟩ => k .non H' .non L2 t' (rl'.sub s2) (by rfl) q2, fun v H' y L' t' rl' rv' ⟨L2, s2, q2⟩ => k v H' y L2 t' (rl'.sub s2) rv' q2, fun _ _ _ _ _ _ _ z => z.elim, fun _ _ _ _ _ _ _ z => z.elim⟩
/-! ### sum -/
def numsY : List Y → Option (List Int)
  | [] => some []
  | .int b :: r => (numsY r).map (b :: ·)
  | _ :: _ => none
theorem numsY_map (bs : List Int) : numsY (bs.map Y.int) = some bs := by
  induction bs with
  | nil => rfl
  | cons b r ih => show (numsY (r.map Y.int)).map (b :: ·) = _; rw [ih]; rfl
theorem numsY_rel {G : G3} {H : Hp} : ∀ {ys : List Y} {xs : List V} {bs : List Int}, numsY ys = some bs → RVs G H ys xs → xs = bs.map V.int
  | [], _, _, h, r => by cases h; exact r
  | y :: ys, _, bs, h, ⟨x, xs', e, r1, r2⟩ => by
    cases y with
    | int b =>
      have h' : (numsY ys).map (b :: ·) = some bs := h
      obtain ⟨cs, e1, rfl⟩ := Option.map_eq_some_iff.mp h'
      cases (show x = V.int b from r1)
      rw [e, numsY_rel e1 r2]; rfl
    | _ => cases h
def ySum (xs : List Y) (L : LHp) (Q : YK) : Prop := match xs with
  | [y] => listY y = true ∧ seqK L y fun ys => atK L (fun bs L => Q (.int bs.sum) L) (numsY ys)
  | _ => False
theorem q_sum {X : Cx} (hc : X.calm = true := by rfl) : CallR X (.builtin "sum") (upL X.g3 ySum) := CallR.imp (call_sum hc) fun xs H Q ⟨ys, L, Q3, rv, rl, z, k⟩ => by
  unfold ySum at z
  split at z
  · rename_i y
    obtain ⟨x, rfl, r⟩ := rv.inv1
    obtain ⟨hy, z⟩ := z
    obtain ⟨zs, es, z⟩ := seqK_inv z
    obtain ⟨bs, eb, z⟩ := atK_inv z
    obtain ⟨a, us, rfl, sq, rr⟩ := seq_listY rl r hy es
    cases numsY_rel eb rr
    exact ⟨a, bs, rfl, sq, k _ H _ L (TSt.refl _) rl (by rfl) z⟩
  · exact z.elim
theorem bt_sum : bootBuiltins "sum" = some (.builtin "sum") := by decide +kernel
end L3

namespace L3
open PySem L2 Words
local macro_rules | `(tactic| walk_at "w") => `(tactic| conv => whnf)
def encY : Wd → Y
  | .leaf t n => .tup [.str (kL t), .str n]
  | .node e l r => .tup [.str (kN e), encY l, encY r]
def cs_LEAF_KINDS : Y := (.tup [(.str "plain"), (.str "turned")])
def cs_TURNED_KINDS : Y := (.cd [("plain", "turned"), ("turned", "plain"), ("both", "either"), ("either", "both")])
/-! ### oncewise.words -/
theorem atK_some {α : Type} {L : LHp} {Q : α → LHp → Prop} {o : Option α} {v : α} (e : o = some v) (h : Q v L) : atK L Q o := by rw [e]; exact h
def t_is_leaf : TS3 := (yRet (yOp (yInS false) (yOp yIx (yVar 0) (yC (.int 0))) (yC cs_LEAF_KINDS)))
def kX : Bool → Bool → Str
  | true, t => kL t
  | false, e => kN e
def sp_is_leaf : Sp3 := fun ys L Q => ∃ lf b rest, ys = [.tup (.str (kX lf b) :: rest)] ∧ Q (.bl lf) L
theorem isLeaf_in (t : Bool) : inV (.str (kL t)) [.str "plain", .str "turned"] = true := by cases t <;> decide +kernel
theorem isNode_in (t : Bool) : inV (.str (kN t)) [.str "plain", .str "turned"] = false := by cases t <;> decide +kernel
theorem vc_is_leaf : ∀ ys L Q, sp_is_leaf ys L Q → run3 t_is_leaf 1 ys L Q := by
  rintro ys L Q ⟨lf, b, rest, rfl, q⟩
  have e0 : atI (Y.str (kX lf b) :: rest) 0 = some (Y.str (kX lf b)) := atI_nat (xs := Y.str (kX lf b) :: rest) (j := 0) rfl
  walk_at "w"
  rw [e0]
  refine ⟨rfl, rfl, fin ?_⟩
  cases lf with
  | true =>
    rw [show nb false (inV (toV (.str (kX true b))) ([Y.str "plain", .str "turned"].map toV)) = true from isLeaf_in b]
    exact q
  | false =>
    rw [show nb false (inV (toV (.str (kX false b))) ([Y.str "plain", .str "turned"].map toV)) = false from isNode_in b]
    exact q
def t_turned (p_is_leaf p_turned : Sp3) : TS3 := (ySeq (yAsg (yOp yIx (yC cs_TURNED_KINDS) (yOp yIx (yVar 0) (yC (.int 0)))) (gyName 1))
  (ySeq (yIfS (yB (yCall p_is_leaf (yCons (yVar 0) yNil))) (yRet (yTup (yCons (yVar 1) (yCons (yOp yIx (yVar 0) (yC (.int 1))) yNil)))) yNext)
  (yRet (yTup (yCons (yVar 1) (yCons (yCall p_turned (yCons (yOp yIx (yVar 0) (yC (.int 1))) yNil)) (yCons (yCall p_turned (yCons (yOp yIx (yVar 0) (yC (.int 2))) yNil)) yNil)))))))
def sp_turned (n : Nat) : Sp3 := fun ys L Q => ∃ wd, ys = [encY wd] ∧ wd.depth ≤ n ∧ Q (encY wd.turn) L
theorem side_leaf (t : Bool) : List.lookup (kL t) [(("plain" : Str), ("turned" : Str)), ("turned", "plain"), ("both", "either"), ("either", "both")] = some (kL (!t)) := by cases t <;> decide +kernel
theorem side_node (t : Bool) : List.lookup (kN t) [(("plain" : Str), ("turned" : Str)), ("turned", "plain"), ("both", "either"), ("either", "both")] = some (kN (!t)) := by cases t <;> decide +kernel
theorem vc_turned (n : Nat) : ∀ ys L Q, sp_turned (n + 1) ys L Q → run3 (t_turned sp_is_leaf (sp_turned n)) 2 ys L Q := by
  rintro ys L Q ⟨wd, rfl, hd, q⟩
  cases wd with
  | leaf t nm =>
    exact atK_some (side_leaf t) ⟨true, t, _, rfl, fin q⟩
  | node e l r =>
    have hd' : max l.depth r.depth + 1 ≤ n + 1 := hd
    refine atK_some (side_node e) ⟨false, e, _, rfl, l, rfl, by omega, r, rfl, by omega, ?_⟩
    exact fin q
theorem none_sub {L L' : LHp} (s : LSub L L') {p : Addr} (h : L' p = none) : L p = none := by
  cases e : L p with
  | none => rfl
  | some o => rw [s _ _ e] at h; cases h
/-! ### == of words -/
theorem DatN.str {L : LHp} {n : Nat} (x : Str) : DatN L n (.str x) (.s (.str x)) := by
  cases n with
  | zero => exact ⟨rfl, rfl⟩
  | succ n => exact .inl ⟨rfl, rfl⟩
theorem datN_enc {L : LHp} : ∀ {wd : Wd} {n : Nat}, wd.depth ≤ n → DatN L n (encY wd) (enc wd)
  | .leaf t nm, n + 1, _ => .inr (.inl ⟨_, _, rfl, rfl, .cons (DatN.str _) (.cons (DatN.str _) .nil)⟩)
  | .node e l r, n + 1, h => by
    have h' : max l.depth r.depth + 1 ≤ n + 1 := h
    exact .inr (.inl ⟨_, _, rfl, rfl, .cons (DatN.str _) (.cons (datN_enc (by omega)) (.cons (datN_enc (by omega)) .nil))⟩)
theorem datN_encs {L : LHp} {n : Nat} : ∀ {ws : List Wd}, (∀ w ∈ ws, w.depth ≤ n) → Paired (DatN L n) (ws.map encY) (ws.map enc)
  | [], _ => .nil
  | w :: r, h => .cons (datN_enc (h w (by simp))) (datN_encs fun x hx => h x (by simp [hx]))
theorem datN_list {L : LHp} {n : Nat} {a : Addr} {ys : List Y} {ds : List Da} (e : L a = some (.lst ys)) (p : Paired (DatN L n) ys ds) : DatN L (n + 1) (.ref a) (.lst ds) := .inr (.inr ⟨ys, ds, rfl, rfl, seqOf_lst e, p⟩)
theorem no_turned : ∀ ys L Q, ¬ sp_turned 0 ys L Q := fun ys L Q ⟨wd, _, hd, _⟩ => by cases wd <;> simp [Wd.depth] at hd
end L3

namespace L3
open PySem L2 Words
local macro_rules | `(tactic| walk_at "w") => `(tactic| conv => whnf)
def t__law_letters : TS3 := (ySeq (yAsg (yC (.str "abcdefghijklmnopqrstuvwxyz")) (gyName 1))
  (ySeq (yAsg (yC (.str "")) (gyName 2))
  (ySeq (yAsg (yOp yFdiv (yVar 0) (yC (.int 8))) (gyName 3))
  (ySeq (yFor (iyRng1 (yCons (yOp yAdd (yC (.int 1)) (yOp yMod (yVar 0) (yC (.int 8)))) yNil)) (gyName 4) (ySeq (yAsg (yOp yAdd (yOp yIx (yVar 1) (yOp yMod (yVar 3) (yC (.int 26)))) (yVar 2)) (gyName 2))
  (yAsg (yOp yFdiv (yVar 3) (yC (.int 26))) (gyName 3))))
  (yRet (yVar 2))))))
def t__law_words (p__law_letters : Sp3) : TS3 := (ySeq (yAsg (yLst yNil) (gyName 1))
  (ySeq (yFor (iyList (yVar 0)) (gyName 2) (ySeq (yAsg (yOp yMod (yVar 2) (yOp yPow (yC (.int 10)) (yC (.int 13)))) (gyName 3))
  (yIfS (yAnd (yB (yOp yLt (yOp yMod (yVar 3) (yC (.int 5))) (yC (.int 2)))) (yB (yOp yGt (yCB yLen (yCons (yVar 1) yNil)) (yC (.int 1))))) (ySeq (yAsg (yBL yPop (yVar 1) yNil) (gyName 4))
  (ySeq (yAsg (yBL yPop (yVar 1) yNil) (gyName 5))
  (yDrop (yBL yAppend (yVar 1) (yCons (yTup (yCons (yPick (yCons (yC (.str "both")) (yCons (yC (.str "either")) yNil)) (yOp yMod (yOp yFdiv (yVar 3) (yC (.int 5))) (yC (.int 2)))) (yCons (yVar 5) (yCons (yVar 4) yNil)))) yNil))))) (yDrop (yBL yAppend (yVar 1) (yCons (yTup (yCons (yPick (yCons (yC (.str "plain")) (yCons (yC (.str "turned")) yNil)) (yOp yMod (yOp yFdiv (yVar 3) (yC (.int 5))) (yC (.int 2)))) (yCons (yCall p__law_letters (yCons (yOp yFdiv (yVar 3) (yC (.int 10))) yNil)) yNil))) yNil))))))
  (yRet (yVar 1))))
def t__law_one : TS3 := (ySeq (yWhile (yB (yOp yGt (yCB yLen (yCons (yVar 0) yNil)) (yC (.int 1)))) (ySeq (yAsg (yLC 1 (iyRng1 (yCons (yOp yFdiv (yCB yLen (yCons (yVar 0) yNil)) (yC (.int 2))) yNil)) (gyName 2) yYes (yTup (yCons (yPick (yCons (yC (.str "either")) (yCons (yC (.str "both")) yNil)) (yOp yMod (yVar 2) (yC (.int 2)))) (yCons (yOp yIx (yVar 0) (yOp yMul (yC (.int 2)) (yVar 2))) (yCons (yOp yIx (yVar 0) (yOp yAdd (yOp yMul (yC (.int 2)) (yVar 2)) (yC (.int 1)))) yNil))))) (gyName 1))
  (yAsg (yOp yAdd (yVar 1) (ySl ySlU (yVar 0) (yPart (yOp yMul (yC (.int 2)) (yCB yLen (yCons (yVar 1) yNil)))) yNoPart)) (gyName 0))))
  (yRet (yOp yIx (yOp yAdd (yVar 0) (yLst (yCons (yTup (yCons (yC (.str "plain")) (yCons (yC (.str "q")) yNil))) yNil))) (yC (.int 0)))))
def sp_letters : Sp3 := fun ys L Q => ∃ n, ys = [.int n] ∧ ∀ x, NameOk x → Q (.str x) L
theorem abc_at3 (i : Int) (h0 : 0 ≤ i) (h1 : i < 26) : ∃ c, atI ("abcdefghijklmnopqrstuvwxyz" : Str).cps.toList i = some c ∧ 97 ≤ c ∧ c ≤ 122 := by
  have key : ∀ j : _root_.Fin 26, ∃ c, ("abcdefghijklmnopqrstuvwxyz" : Str).cps.toList[j.val]? = some c ∧ 97 ≤ c ∧ c ≤ 122 := by
    intro j
    refine ⟨97 + j.val, ?_, by omega, by omega⟩
    revert j
    decide +kernel
  obtain ⟨c, e, q⟩ := key ⟨i.toNat, by omega⟩
  refine ⟨c, ?_, q⟩
  have : i = ((i.toNat : Nat) : Int) := by omega
  rw [this]
  exact atI_nat e
theorem vc_letters : ∀ ys L Q, sp_letters ys L Q → run3 t__law_letters 5 ys L Q := by
  rintro ys L Q ⟨n, rfl, q⟩
  refine ⟨⟨by decide, by decide⟩, ⟨(by decide : (0 : Int) < 8), ?_⟩⟩
  refine ⟨by omega, ?_⟩
  refine for_rng (fun i τ L' => L' = L ∧ ∃ nm rest kv, τ = [some (.int n), some (.str "abcdefghijklmnopqrstuvwxyz"), some (.str nm), some (.int rest), kv] ∧ nm.length = i ∧ ∀ c ∈ nm.cps.toList, 97 ≤ c ∧ c ≤ 122) ?_ ?_ ?_
  · exact ⟨rfl, "", _, _, rfl, rfl, fun c hc => absurd (show c ∈ ([] : List Nat) from hc) (by simp)⟩
  · rintro i τ L' hi ⟨rfl, nm, rest, kv, rfl, hl, hc⟩
    obtain ⟨c, hat, c1, c2⟩ := abc_at3 (rest % 26) (by omega) (by omega)
    refine ⟨(by decide : (0 : Int) < 26), by decide +kernel, atK_some hat ⟨?_, ⟨by decide, by decide⟩, ⟨_, LSub.refl _, rfl, _, _, _, rfl, ?_, ?_⟩⟩⟩
    · show 1 + nm.length ≤ sizeLine
      exact small (by omega)
    · rw [PySem.Str.length_append]; show 1 + nm.length = i + 1; omega
    · intro d hd
      have hd' : d = c ∨ d ∈ nm.cps.toList := by
        have : (⟨#[c]⟩ ++ nm : Str).cps.toList = c :: nm.cps.toList := by show (#[c] ++ nm.cps).toList = _; simp
        rw [this] at hd
        exact List.mem_cons.mp hd
      rcases hd' with rfl | hd'
      · exact ⟨c1, c2⟩
      · exact hc d hd'
  · rintro τ L' ⟨rfl, nm, rest, kv, rfl, hl, hc⟩
    exact fin (q nm ⟨by omega, by omega, hc⟩)
theorem snoc2 {α : Type} {ws : List α} (h : 2 ≤ ws.length) : ∃ us x y, ws = (us ++ [x]) ++ [y] := by
  obtain ⟨vs, y, rfl⟩ : ∃ vs y, ws = vs ++ [y] := ⟨ws.dropLast, ws.getLast (by intro e; rw [e] at h; simp at h), (List.dropLast_concat_getLast _).symm⟩
  obtain ⟨us, x, rfl⟩ : ∃ us x, vs = us ++ [x] := ⟨vs.dropLast, vs.getLast (by intro e; rw [e] at h; simp at h), (List.dropLast_concat_getLast _).symm⟩
  exact ⟨us, x, y, rfl⟩
theorem len_sumL (us : List Wd) : us.length ≤ sumL us := by
  induction us with
  | nil => simp
  | cons w r ih => have := w.leaves_pos; rw [sumL_cons, List.length_cons]; omega
/-- one of two written texts -/
theorem two_at3 (x y : Y) (m : Int) : ∃ b : Bool, atI [x, y] (m % 2) = some (if b then y else x) := by
  have : m % 2 = 0 ∨ m % 2 = 1 := by omega
  rcases this with h | h
  · rw [h]; exact ⟨false, rfl⟩
  · rw [h]; exact ⟨true, rfl⟩
theorem pick_leaf (m : Int) : ∃ b : Bool, atI [.str "plain", .str "turned"] (m % 2) = some (Y.str (kL b)) := by
  obtain ⟨b, e⟩ := two_at3 (.str "plain") (.str "turned") m
  exact ⟨b, by rw [e]; cases b <;> rfl⟩
theorem pick_node (m : Int) : ∃ b : Bool, atI [.str "both", .str "either"] (m % 2) = some (Y.str (kN b)) := by
  obtain ⟨b, e⟩ := two_at3 (.str "both") (.str "either") m
  exact ⟨b, by rw [e]; cases b <;> rfl⟩
theorem pick_node' (m : Int) : ∃ b : Bool, atI [.str "either", .str "both"] (m % 2) = some (Y.str (kN b)) := by
  obtain ⟨b, e⟩ := two_at3 (.str "either") (.str "both") m
  exact ⟨!b, by rw [e]; cases b <;> rfl⟩
end L3

namespace L3
open PySem L2 Words
/-! words of the generator, with their depths -/
theorem depth32 {ws : List Wd} (h : 2 * sumL ws ≤ 63 + ws.length) : ∀ wd ∈ ws, wd.depth ≤ 32 := by
  intro wd hw
  have hd := wd.depth_le
  have hl : 2 * wd.leaves + ws.length ≤ 2 * sumL ws + 1 := by
    clear h
    induction ws with
    | nil => cases hw
    | cons w r ih =>
      have hlr := len_sumL r
      have hp := w.leaves_pos
      rw [sumL_cons, List.length_cons]
      rcases List.mem_cons.mp hw with rfl | hw'
      · omega
      · have := ih hw'; omega
  omega
def sp_wordsD : Sp3 := fun ys L Q => ∃ a, ∃ ns : List Int, ys = [.ref a] ∧ seqOf L (.ref a) = some (ns.map Y.int) ∧ ns.length ≤ 63 ∧
  ∀ p ws, L p = none → sumL ws ≤ ns.length → (∀ wd ∈ ws, wd.depth ≤ 32) → (∀ wd ∈ ws, wd.ok) → Q (.ref p) (updL L p (.lst (ws.map encY)))
theorem vc_wordsD : ∀ ys L Q, sp_wordsD ys L Q → run3 (t__law_words sp_letters) 6 ys L Q := by
  rintro ys L Q ⟨a, ns, rfl, hS, h63, q⟩
  intro st hst
  have ha : a ≠ st := seqOf_ne hS hst
  refine for_lst (ys := ns.map Y.int) (seqOf_sub (LSub.new hst) hS) (fun i τ L' => ∃ c1 c2 c3 c4 ws, τ = [some (.ref a), some (.ref st), c1, c2, c3, c4] ∧ L' = updL L st (.lst (ws.map encY)) ∧ sumL ws ≤ i ∧ 2 * sumL ws ≤ i + ws.length ∧ ∀ wd ∈ ws, wd.ok) ?_ ?_ ?_ ?_
  · exact ⟨_, _, _, _, [], rfl, rfl, Nat.le_refl _, Nat.le_refl _, by simp⟩
  · rintro i τ L' ⟨c1, c2, c3, c4, ws, rfl, rfl, _⟩
    rw [updL_ne ha, updL_ne ha]
  · rintro i y τ L' hy ⟨c1, c2, c3, c4, ws, rfl, rfl, hs, hs2, hok⟩
    have hi : i < ns.length := by have := (List.getElem?_eq_some_iff.mp hy).1; rw [List.length_map] at this; exact this
    obtain ⟨cell, rfl⟩ : ∃ cell, y = Y.int cell := by
      rw [List.getElem?_map] at hy
      obtain ⟨z, _, e⟩ := Option.map_eq_some_iff.mp hy
      exact ⟨z, e.symm⟩
    have hlen := len_sumL ws
    refine ⟨⟨by decide, by decide, by decide⟩, (show (0 : Int) < 10 ^ (13 : Int).toNat by decide), (by decide : (0 : Int) < 5), ?_⟩
    refine yite_dec (fun c => seqL_of updL_same (yite_dec (fun c2 => ?A) fun c2 => ?B1)) fun c => ?B2
    case A =>
      have c2' : (1 : Int) < ((ws.map encY).length : Int) := c2
      rw [List.length_map] at c2'
      obtain ⟨us, wl, wr, rfl⟩ := snoc2 (ws := ws) (by omega)
      rw [List.map_append, List.map_append]
      refine pop_go updL_same ?_
      rw [updL_updL]
      refine pop_go updL_same ?_
      rw [updL_updL]
      obtain ⟨b, hb⟩ := pick_node (cell % (10 : Int) ^ (13 : Int).toNat / 5)
      refine seqL_of updL_same ⟨⟨by decide, by decide⟩, (by decide : (0 : Int) < 2), atK_some hb (lstK_of updL_same ⟨small1000 ?_, ?_⟩)⟩
      · rw [List.length_map]; rw [List.length_append, List.length_append] at hlen; omega
      · refine ⟨_, LSub.refl _, _, _, _, _, us ++ [.node b wl wr], rfl, ?_, ?_, ?_, ?_⟩
        · rw [updL_updL, List.map_append]; rfl
        · have e1 := sumL_append (us ++ [wl]) [wr]; have e2 := sumL_append us [wl]; have e3 := sumL_append us [Wd.node b wl wr]
          simp only [sumL_cons, sumL_nil, Wd.leaves] at e1 e2 e3
          omega
        · simp only [List.length_append, List.length_singleton] at hs2 ⊢
          have e1 := sumL_append (us ++ [wl]) [wr]; have e2 := sumL_append us [wl]; have e3 := sumL_append us [Wd.node b wl wr]
          simp only [sumL_cons, sumL_nil, Wd.leaves] at e1 e2 e3
          omega
        · intro wd hwd
          rcases List.mem_append.mp hwd with z | z
          · exact hok wd (by simp [z])
          · rw [List.mem_singleton.mp z]
            exact ⟨hok wl (by simp), hok wr (by simp)⟩
    all_goals
      obtain ⟨b, hb⟩ := pick_leaf (cell % (10 : Int) ^ (13 : Int).toNat / 5)
      refine seqL_of updL_same ⟨⟨by decide, by decide⟩, (by decide : (0 : Int) < 2), atK_some hb ⟨⟨by decide, by decide⟩, _, rfl, fun nm hnm => lstK_of updL_same ⟨small1000 ?_, ?_⟩⟩⟩
      · rw [List.length_map]; omega
      · refine ⟨_, LSub.refl _, _, _, _, _, ws ++ [.leaf b nm], rfl, ?_, ?_, ?_, ?_⟩
        · rw [updL_updL, List.map_append]; rfl
        · have e3 := sumL_append ws [Wd.leaf b nm]
          simp only [sumL_cons, sumL_nil, Wd.leaves] at e3
          omega
        · simp only [List.length_append, List.length_singleton]
          have e3 := sumL_append ws [Wd.leaf b nm]
          simp only [sumL_cons, sumL_nil, Wd.leaves] at e3
          omega
        · intro wd hwd
          rcases List.mem_append.mp hwd with z | z
          · exact hok wd z
          · rw [List.mem_singleton.mp z]
            exact hnm
  · rintro τ L' ⟨c1, c2, c3, c4, ws, rfl, rfl, hs, hs2, hok⟩
    rw [List.length_map] at hs hs2
    exact fin (q st ws hst hs (depth32 (by omega)) hok)
def sp_oneD : Sp3 := fun ys L Q => ∃ a ws, ys = [.ref a] ∧ L a = some (.lst (ws.map encY)) ∧ sumL ws ≤ 63 ∧ (∀ wd ∈ ws, wd.depth ≤ 32) ∧ (∀ wd ∈ ws, wd.ok) ∧ ∀ wd, wd.leaves ≤ 63 → wd.depth ≤ 38 → wd.ok → Q (encY wd) L
theorem sumL_twoD (us : List Wd) (i : Nat) (x y : Wd) (hx : us[2 * i]? = some x) (hy : us[2 * i + 1]? = some y) : sumL (us.take (2 * (i + 1))) = sumL (us.take (2 * i)) + (x.leaves + y.leaves) := by
  have e : 2 * (i + 1) = 2 * i + 1 + 1 := by omega
  rw [e, List.take_succ, List.take_succ, hx, hy, sumL_append, sumL_append]
  simp only [Option.toList, sumL_cons, sumL_nil]
  omega
theorem vc_oneD : ∀ ys L Q, sp_oneD ys L Q → run3 t__law_one 2 ys L Q := by
  rintro ys L Q ⟨a, ws, rfl, h1, h3, hd32, h4, q⟩
  refine ⟨fun m τ L' => ∃ b c1 us r, τ = [some (.ref b), c1] ∧ L' b = some (.lst (us.map encY)) ∧ LSub L L' ∧ sumL us ≤ 63 ∧ us.length ≤ 2 ^ r ∧ (∀ wd ∈ us, wd.depth + r ≤ 38) ∧ (∀ wd ∈ us, wd.ok) ∧ m = us.length, ⟨_, a, _, ws, 6, rfl, h1, LSub.refl _, h3, Nat.le_trans (len_sumL ws) (Nat.le_trans h3 (by decide)), fun wd hw => by have := hd32 wd hw; omega, h4, rfl⟩, ?_⟩
  rintro m τ L' ⟨b, c1, us, r, rfl, hb, hsub, hsum, hlen, hdep, hok, rfl⟩
  have hl63 : us.length ≤ 63 := Nat.le_trans (len_sumL us) hsum
  refine seqL_of hb (yite_dec (fun c => ?_) fun c => ?_)
  · have c' : (1 : Int) < ((us.map encY).length : Int) := c
    rw [List.length_map] at c'
    obtain ⟨r', rfl⟩ : ∃ r', r = r' + 1 := by
      cases r with
      | zero => have : us.length ≤ 1 := hlen; omega
      | succ r' => exact ⟨r', rfl⟩
    have hlen2 : us.length ≤ 2 ^ r' * 2 := hlen
    refine ⟨_, fun _ _ h => h, ?_⟩
    refine seqL_of hb ⟨⟨by decide, by decide⟩, by rw [List.length_map]; omega, ?_⟩
    have hn : (((us.map encY).length : Int) / 2).toNat = us.length / 2 := by rw [List.length_map]; omega
    rw [hn]
    refine lc_rng (m := us.length / 2) (fun i zs => ∃ us', zs = us'.map encY ∧ us'.length = i ∧ sumL us' = sumL (us.take (2 * i)) ∧ (∀ wd ∈ us', wd.depth + r' ≤ 38) ∧ ∀ wd ∈ us', wd.ok) (small1000 (by omega)) ⟨[], rfl, rfl, rfl, by simp, by simp⟩ ?_ ?_
    · rintro i _ hlt ⟨us', rfl, hl, hso, hdd, hoo⟩
      obtain ⟨u0, eu0⟩ : ∃ u0, us[2 * i]? = some u0 := ⟨_, List.getElem?_eq_getElem (by omega)⟩
      obtain ⟨u1, eu1⟩ : ∃ u1, us[2 * i + 1]? = some u1 := ⟨_, List.getElem?_eq_getElem (by omega)⟩
      obtain ⟨bb, hbb⟩ := pick_node' (0 + (i : Int))
      have e0 : (2 * (0 + (i : Int))) = ((2 * i : Nat) : Int) := by omega
      have e1 : (2 * (0 + (i : Int)) + 1) = ((2 * i + 1 : Nat) : Int) := by omega
      have a0 : atI (us.map encY) (2 * (0 + (i : Int))) = some (encY u0) := by rw [e0]; exact atI_map eu0
      have a1 : atI (us.map encY) (2 * (0 + (i : Int)) + 1) = some (encY u1) := by rw [e1]; exact atI_map eu1
      refine ⟨(by decide : (0 : Int) < 2), atK_some hbb ⟨.inl ⟨by decide, by decide⟩, seqL_of hb (atK_some a0 ⟨.inl ⟨by decide, by decide⟩, seqL_of hb (atK_some a1 ⟨_, LSub.refl _, rfl, us' ++ [.node bb u0 u1], ?_, ?_, ?_, ?_, ?_⟩)⟩)⟩⟩
      · rw [List.map_append]; rfl
      · rw [List.length_append, List.length_singleton, hl]
      · rw [sumL_append, sumL_twoD us i u0 u1 eu0 eu1, hso]; simp only [sumL_cons, sumL_nil, Wd.leaves]; omega
      · intro wd hwd
        rcases List.mem_append.mp hwd with z | z
        · exact hdd wd z
        · rw [List.mem_singleton.mp z]
          have q0 := hdep _ (List.mem_of_getElem? eu0); have q1 := hdep _ (List.mem_of_getElem? eu1)
          show max u0.depth u1.depth + 1 + r' ≤ 38; omega
      · intro wd hwd
        rcases List.mem_append.mp hwd with z | z
        · exact hoo wd z
        · rw [List.mem_singleton.mp z]
          exact ⟨hok _ (List.mem_of_getElem? eu0), hok _ (List.mem_of_getElem? eu1)⟩
    · rintro _ ⟨us', rfl, hl, hso, hdd, hoo⟩ D hD
      have hbD : updL L' D (.lst (us'.map encY)) b = some (.lst (us.map encY)) := LSub.new hD _ _ hb
      refine seqL_of updL_same ⟨.inl ⟨by decide, by decide⟩, lstK_of hbD fun p hp => ?_⟩
      have e2 : (2 * ((us'.map encY).length : Int)) = ((2 * (us.length / 2) : Nat) : Int) := by rw [List.length_map]; omega
      rw [e2, cutY_from]
      refine ⟨_, _, LSub.new hp _ _ updL_same, updL_same, small ?_, fun p2 hp2 => ?_⟩
      · rw [List.length_map, List.length_drop, List.length_map]; omega
      · refine ⟨_, LSub.refl _, ?_⟩
        refine ⟨_, ?_, p2, _, us' ++ us.drop (2 * (us.length / 2)), r', rfl, ?_, ?_, ?_, ?_, ?_, ?_, rfl⟩
        · rw [List.length_append, List.length_drop, hl]; omega
        · rw [updL_same, List.map_append, List.map_drop]
        · exact hsub.trans ((LSub.new hD).trans ((LSub.new hp).trans (LSub.new hp2)))
        · rw [sumL_append, hso, ← sumL_append, List.take_append_drop]; exact hsum
        · rw [List.length_append, List.length_drop, hl]; omega
        · intro wd hwd
          rcases List.mem_append.mp hwd with z | z
          · exact hdd wd z
          · have := hdep wd (List.mem_of_mem_drop z); omega
        · intro wd hwd
          rcases List.mem_append.mp hwd with z | z
          · exact hoo wd z
          · exact hok wd (List.mem_of_mem_drop z)
  · intro pl hpl
    refine ⟨_, _, LSub.new hpl _ _ hb, updL_same, small (by rw [List.length_map]; show us.length + 1 ≤ 1000; omega), fun pr hpr => seqL_of updL_same ?_⟩
    have sb := hsub.trans ((LSub.new hpl (o := .lst [.tup [.str "plain", .str "q"]])).trans (LSub.new hpr (o := .lst (us.map encY ++ [.tup [.str "plain", .str "q"]]))))
    cases us with
    | nil => exact finS sb (q (.leaf false "q") (by decide) (by decide) ⟨by decide, by decide, by decide⟩)
    | cons u r => exact atK_some (atI_nat (j := 0) rfl) (finS sb <| q u (by rw [sumL_cons] at hsum; omega) (by have := hdep u (by simp); omega) (hok u (by simp)))
end L3

namespace L3
open PySem L2 Words
local macro_rules | `(tactic| walk_at "w") => `(tactic| conv => whnf)
def cs_MOST_LETTERS : Y := .int 8
def cs_MOST_DEPTH : Y := .int 60
def cs_PAIR_KINDS : Y := .cd [("&", "both"), ("|", "either")]
def t_is_name : TS3 := (yRet (yAndV (yChain (yC (.int 1)) (yLink yLe (yCB yLen (yCons (yVar 0) yNil)) (yLast yLe (yC cs_MOST_LETTERS)))) (yCB yAll (yCons (yLC 1 (iyStr (yVar 0)) (gyName 1) yYes (yChain (yC (.str "a")) (yLink yLeS (yVar 1) (yLast yLeS (yC (.str "z")))))) yNil))))
def t_TokenWalk_init (K : PySem.W.Frag) : TS3 := (ySeq (ySetF K "tokens" (yVar 0) (yVar 1))
  (ySetF K "at" (yVar 0) (yC (.int 0))))
def t_TokenWalk_take (K : PySem.W.Frag) : TS3 := (ySeq (yIfS (yB (yOp (yEq false) (yFld K "at" (yVar 0)) (yCB yLen (yCons (yFld K "tokens" (yVar 0)) yNil)))) (yRet (yC (.str ""))) yNext)
  (ySeq (yAsg (yOp yIx (yFld K "tokens" (yVar 0)) (yFld K "at" (yVar 0))) (gyName 1))
  (ySeq (yAugF K "at" (yVar 0) (yC (.int 1)))
  (yRet (yVar 1)))))
def t_tokens_of : TS3 := (ySeq (yAsg (yVar 0) (gyName 1))
  (ySeq (yMarks 1 2 ("()&|-" : Str).cps.toList)
  (yRet (yLC 1 (iyList (yBS ySplit (yVar 1) (yCons (yC (.str " ")) yNil))) (gyName 3) (yB (yOp (yEq true) (yVar 3) (yC (.str "")))) (yVar 3)))))
/-! ### names -/
def letB (c : Nat) : Bool := decide (97 ≤ c) && decide (c ≤ 122)
def nameB (z : Str) : Bool := (decide (1 ≤ z.length) && decide (z.length ≤ 8)) && z.cps.toList.all letB
theorem lt1 (a b : Nat) : decide ([a] < [b]) = decide (a < b) := by rw [StrLaws.lt_cons_cons, StrLaws.lt_nil_nil]; simp
theorem leS_a (c : Nat) : leS "a" ⟨#[c]⟩ = decide (97 ≤ c) := by
  show (!decide ([c] < [97])) = decide (97 ≤ c)
  rw [lt1, Bool.eq_iff_iff]; simp
theorem leS_z (c : Nat) : leS ⟨#[c]⟩ "z" = decide (c ≤ 122) := by
  show (!decide ([122] < [c])) = decide (c ≤ 122)
  rw [lt1, Bool.eq_iff_iff]; simp
def sp_is_name : Sp3 := fun ys L Q => ∃ z : Str, ys = [.str z] ∧ z.cps.all (· < 128) = true ∧ z.length ≤ 40000 ∧ Q (.bl (nameB z)) L
theorem vc_is_name : ∀ ys L Q, sp_is_name ys L Q → run3 t_is_name 1 ys L Q := by
  rintro ys L Q ⟨z, rfl, ha, hl, q⟩
  refine ⟨Nat.le_trans hl (by decide), ?_⟩
  have zl : ((z.length : Nat) : Int) = (z.length : Int) := rfl
  have fin0 : nameB z = false → Fin3 Q (.bl false) L := fun e => by rw [e] at q; exact fin q
  refine yite_dec (fun h1 => ?_) fun h1 => ?_
  · refine yite_dec (fun h2 => ?_) fun h2 => ?_
    · have h1' : (1 : Int) ≤ z.length := h1
      have h2' : (z.length : Int) ≤ 8 := h2
      refine ⟨ha, lc_pure (fun y => match y with | .str s => some (.bl (leS "a" s && leS s "z")) | _ => none) (Nat.lt_of_le_of_lt (m := 40000) ?_ (by decide)) trivial ?_ fun p hp => ?_⟩
      · unfold chY; rw [List.length_map, Txs.len_list]; exact hl
      · intro i y W zs ey hW
        unfold chY at ey
        rw [List.getElem?_map] at ey
        obtain ⟨c, ec, rfl⟩ := Option.map_eq_some_iff.mp ey
        cases hb : leS "a" ⟨#[c]⟩ with
        | true =>
          refine yite_T hb ⟨L, LSub.refl _, ?_⟩
          have : W (zs ++ [.bl (leS ⟨#[c]⟩ "z")]) L := by
            have e : (match (Y.str ⟨#[c]⟩ : Y) with | .str s => some (Y.bl (leS "a" s && leS s "z")) | _ => none) = some (.bl (leS ⟨#[c]⟩ "z")) := by show some (Y.bl (leS "a" ⟨#[c]⟩ && leS ⟨#[c]⟩ "z")) = _; rw [hb]; rfl
            rw [e] at hW; exact hW
          exact this
        | false =>
          refine yite_F hb ⟨L, LSub.refl _, ?_⟩
          have : W (zs ++ [.bl false]) L := by
            have e : (match (Y.str ⟨#[c]⟩ : Y) with | .str s => some (Y.bl (leS "a" s && leS s "z")) | _ => none) = some (.bl false) := by show some (Y.bl (leS "a" ⟨#[c]⟩ && leS ⟨#[c]⟩ "z")) = _; rw [hb]; rfl
            rw [e] at hW; exact hW
          exact this
      · have el : (chY z).filterMap (fun y => match y with | .str s => some (.bl (leS "a" s && leS s "z")) | _ => none) = (z.cps.toList.map letB).map Y.bl := by
          unfold chY
          induction z.cps.toList with
          | nil => rfl
          | cons c r ih =>
            rw [List.map_cons, List.map_cons, List.map_cons, ← ih]
            show (Y.bl (leS "a" ⟨#[c]⟩ && leS ⟨#[c]⟩ "z")) :: _ = _
            rw [leS_a, leS_z]; rfl
        rw [el]
        refine ⟨rfl, seqL_of updL_same (atK_some (blsY_map _) (finS (LSub.new hp) ?_))⟩
        have e : List.all (z.cps.toList.map letB) id = nameB z := by
          unfold nameB
          rw [decide_eq_true (by omega : 1 ≤ z.length), decide_eq_true (by omega : z.length ≤ 8), List.all_map]; rfl
        rw [e]; exact q
    · refine fin0 ?_
      have h2' : ¬ (z.length : Int) ≤ 8 := h2
      unfold nameB
      rw [decide_eq_false (by omega : ¬ z.length ≤ 8)]; simp
  · refine fin0 ?_
    have h1' : ¬ (1 : Int) ≤ z.length := h1
    unfold nameB
    rw [decide_eq_false (by omega : ¬ 1 ≤ z.length)]; simp
/-! ### the walk over tokens -/
def fsW (tl : Addr) (i : Nat) : List (Str × Y) := [("tokens", .ref tl), ("at", .int i)]
structure XFW (K : PySem.W.Frag) (C : Addr) : Prop where
  cl : Cls K C
  nt : NoAttr K C "tokens"
  na : NoAttr K C "at"
def sp_init (C : Addr) : Sp3 := fun ys L Q => ∃ x tl, ys = [.ref x, .ref tl] ∧ L x = some (.ins C []) ∧ Q .non (updL L x (.ins C (fsW tl 0)))
theorem vc_init {K : PySem.W.Frag} {C : Addr} (xf : XFW K C) : ∀ ys L Q, sp_init C ys L Q → run3 (t_TokenWalk_init K) 2 ys L Q := by
  rintro ys L Q ⟨x, tl, rfl, hx, q⟩
  refine insK_of hx ⟨xf.cl, xf.nt, by decide, ?_⟩
  refine insK_of updL_same ⟨xf.cl, xf.na, (show 1 < 1000 by decide), ?_⟩
  rw [updL_updL]
  exact fin q
def sp_take (C : Addr) : Sp3 := fun ys L Q => ∃ a tl, ∃ ts : List Str, ∃ i : Nat, ys = [.ref a] ∧ L a = some (.ins C (fsW tl i)) ∧ L tl = some (.lst (ts.map Y.str)) ∧ (i = ts.length → Q (.str "") L) ∧ (i ≠ ts.length → ∃ t, ts[i]? = some t ∧ Q (.str t) (updL L a (.ins C (fsW tl (i + 1)))))
theorem vc_take {K : PySem.W.Frag} {C : Addr} (xf : XFW K C) : ∀ ys L Q, sp_take C ys L Q → run3 (t_TokenWalk_take K) 2 ys L Q := by
  rintro ys L Q ⟨a, tl, ts, i, rfl, ha, ht, q0, q1⟩
  refine insK_of ha ⟨xf.cl, xf.na, ?_⟩
  refine insK_of ha ⟨xf.cl, xf.nt, ?_⟩
  refine seqL_of ht ?_
  rw [List.length_map]
  show yite (nb false (decide (((i : Nat) : Int) = ((ts.length : Nat) : Int)))) _ _
  by_cases h : i = ts.length
  · refine yite_T (by show decide _ = true; exact decide_eq_true (by omega)) ?_
    exact fin (q0 h)
  · refine yite_F (by show decide _ = false; exact decide_eq_false (by omega)) ?_
    obtain ⟨t, et, q⟩ := q1 h
    refine insK_of ha ⟨xf.cl, xf.nt, ?_⟩
    refine insK_of ha ⟨xf.cl, xf.na, ?_⟩
    refine seqL_of ht (atK_some (atI_map (f := Y.str) et) ?_)
    refine insK_of ha ⟨xf.cl, xf.na, ?_⟩
    refine insK_of ha ⟨rfl, (show 2 < 1000 by decide), ?_⟩
    have e : putFY "at" (.int ((i : Int) + 1)) (fsW tl i) = fsW tl (i + 1) := by
      unfold fsW putFY
      rw [if_neg (by decide)]
      unfold putFY
      rw [if_pos rfl]
      have : ((i : Int) + 1) = ((i + 1 : Nat) : Int) := by omega
      rw [this]
    rw [e]
    exact fin q
/-! ### tokens -/
def mkS (l : List Nat) : Str := ⟨l.toArray⟩
theorem mkS_cps (x : Str) : mkS x.cps.toList = x := by cases x; rfl
abbrev msL : List Nat := ("()&|-" : Str).cps.toList
theorem msL_eq : msL = [40, 41, 38, 124, 45] := by decide +kernel
def tokS (z : Str) : List Str := (Txs.wds (Txs.spr msL z.cps.toList)).map mkS
theorem split_mk (y : Str) : Txt.split y " " = (Txs.spl 32 y.cps.toList).map mkS := by
  have h := Txs.split_one y 32 (by decide)
  have e : (" " : Str) = ⟨#[32]⟩ := by decide +kernel
  rw [e, ← h, List.map_map]
  conv => lhs; rw [← List.map_id (Txt.split y ⟨#[32]⟩)]
  apply List.map_congr_left
  intro a _
  exact (mkS_cps a).symm
theorem mkS_empty (l : List Nat) : decide (mkS l = ("" : Str)) = l.isEmpty := by
  cases l with
  | nil => rfl
  | cons a r =>
    apply decide_eq_false
    intro h
    have := congrArg (fun s : Str => s.cps.size) h
    have e : (mkS (a :: r)).cps.size = r.length + 1 := by show (a :: r).toArray.size = _; simp
    have e2 : (("" : Str)).cps.size = 0 := rfl
    simp only [e, e2] at this
    omega
def ftok : Y → Option Y
  | .str s => if s = "" then none else some (.str s)
  | _ => none
theorem ftok_cons (s : Str) (r : List Y) : (Y.str s :: r).filterMap ftok = if s = "" then r.filterMap ftok else .str s :: r.filterMap ftok := by
  by_cases h : s = ""
  · rw [List.filterMap_cons_none (by show (if s = "" then none else some (Y.str s)) = none; rw [if_pos h]), if_pos h]
  · rw [List.filterMap_cons_some (b := .str s) (by show (if s = "" then none else some (Y.str s)) = _; rw [if_neg h]), if_neg h]
theorem ftok_all (ls : List (List Nat)) : ((ls.map mkS).map Y.str).filterMap ftok = ((ls.filter fun w => !w.isEmpty).map mkS).map Y.str := by
  induction ls with
  | nil => rfl
  | cons l r ih =>
    rw [List.map_cons, List.map_cons, ftok_cons, List.filter_cons, ih]
    have hm := mkS_empty l
    cases l with
    | nil =>
      have h : mkS [] = "" := by simpa using hm
      rw [if_pos h]; rfl
    | cons a l' =>
      have h : ¬ mkS (a :: l') = "" := by simpa using hm
      rw [if_neg h]; rfl
def sp_tokens : Sp3 := fun ys L Q => ∃ z : Str, ys = [.str z] ∧ z.length ≤ 30000 ∧ ∀ p, L p = none → Q (.ref p) (updL L p (.lst ((tokS z).map Y.str)))
theorem vc_tokens : ∀ ys L Q, sp_tokens ys L Q → run3 t_tokens_of 3 ys L Q := by
  rintro ys L Q ⟨z, rfl, hz, q⟩
  refine ⟨hz, ?_⟩
  have hlen : (Str.mk (Txs.spr msL z.cps.toList).toArray).length ≤ 100000 := by
    have h1 := spr_len msL z.cps.toList
    rw [Txs.len_list] at h1
    show (Txs.spr msL z.cps.toList).toArray.size ≤ 100000
    rw [List.size_toArray]; omega
  refine ⟨by decide +kernel, hlen, fun p hp => ?_⟩
  refine lisK_of updL_same fun keep kp => ?_
  have esp : (Txt.split (Str.mk (Txs.spr msL z.cps.toList).toArray) " ").map Y.str = ((Txs.spl 32 (Txs.spr msL z.cps.toList)).map mkS).map Y.str := by rw [split_mk]
  have hlen2 : ((Txt.split (Str.mk (Txs.spr msL z.cps.toList).toArray) " ").map Y.str).length < sizeLine := by
    rw [esp, List.length_map, List.length_map]
    have : ∀ l : List Nat, (Txs.spl 32 l).length ≤ l.length + 1 := fun l => by
      induction l with
      | nil => exact Nat.le_refl _
      | cons d r ih =>
        by_cases e : d = 32
        · rw [Txs.spl_yes e, List.length_cons, List.length_cons]; omega
        · obtain ⟨h, t, qq⟩ := Txs.spl_ex 32 r
          rw [Txs.spl_no e qq, List.length_cons, List.length_cons]
          rw [qq, List.length_cons] at ih; omega
    have h1 := this (Txs.spr msL z.cps.toList)
    have h2 := spr_len msL z.cps.toList
    rw [Txs.len_list] at h2
    exact Nat.lt_of_le_of_lt (show _ ≤ 100000 by omega) (by decide)
  refine lc_pure ftok hlen2 (kp _ rfl) ?_ fun p2 hp2 => ?_
  · intro i y W zs ey hW
    rw [List.getElem?_map] at ey
    obtain ⟨s, es, rfl⟩ := Option.map_eq_some_iff.mp ey
    have hW : W (zs ++ (if s = "" then none else some (Y.str s)).toList) _ := hW
    by_cases h : s = ""
    · rw [if_pos h] at hW
      refine yite_F (by show (!decide (s = "")) = false; rw [decide_eq_true h]; rfl) ⟨_, LSub.refl _, ?_⟩
      rw [Option.toList_none, List.append_nil] at hW
      exact hW
    · rw [if_neg h] at hW
      exact yite_T (by show (!decide (s = "")) = true; rw [decide_eq_false h]; rfl) ⟨_, LSub.refl _, hW⟩
  · rw [split_mk, ftok_all]
    have hp0 : L p2 = none := none_sub (LSub.new hp) hp2
    refine finS ?_ (q p2 hp0)
    refine fun b u e => ?_
    by_cases c : b = p2
    · subst c; rw [updL_same] at e ⊢; exact e
    · rw [updL_ne c] at e ⊢
      exact LSub.new hp b u e
end L3

namespace L3
open PySem L2 Words
local macro_rules | `(tactic| walk_at "w") => `(tactic| conv => whnf)
/-! ### what is written, as a tree of tokens -/
inductive Tk where
  | nm (n : Str)
  | pr (e : Bool) (l r : Tk)
  | ng (t : Tk)
def sgS : Bool → Str
  | false => "&"
  | true => "|"
def Tk.toks : Tk → List Str
  | .nm n => [n]
  | .pr e l r => "(" :: (l.toks ++ sgS e :: (r.toks ++ [(")" : Str)]))
  | .ng t => "-" :: t.toks
def Tk.val : Tk → Wd
  | .nm n => .leaf false n
  | .pr e l r => .node e l.val r.val
  | .ng t => t.val.turn
def Tk.dep : Tk → Nat
  | .nm _ => 1
  | .pr _ l r => max l.dep r.dep + 1
  | .ng t => t.dep
def Tk.ok : Tk → Prop
  | .nm n => NameOk n
  | .pr _ l r => l.ok ∧ r.ok
  | .ng t => t.ok
theorem Tk.dep_val : ∀ t : Tk, t.val.depth = t.dep
  | .nm _ => rfl
  | .pr e l r => by show max l.val.depth r.val.depth + 1 = max l.dep r.dep + 1; rw [Tk.dep_val l, Tk.dep_val r]
  | .ng t => by show t.val.turn.depth = t.dep; rw [Wd.depth_turn, Tk.dep_val t]
theorem Tk.dep_pos : ∀ t : Tk, 1 ≤ t.dep
  | .nm _ => Nat.le_refl _
  | .pr e l r => by show 1 ≤ max l.dep r.dep + 1; omega
  | .ng t => Tk.dep_pos t
theorem nameB_ok {n : Str} (h : NameOk n) : nameB n = true := by
  unfold nameB
  rw [decide_eq_true h.1, decide_eq_true h.2.1]
  simp only [Bool.and_self, Bool.true_and, List.all_eq_true]
  intro c hc
  obtain ⟨h1, h2⟩ := h.2.2 c hc
  unfold letB
  rw [decide_eq_true h1, decide_eq_true h2]; rfl
theorem name_ne {n : Str} (h : NameOk n) {c : Nat} (hc : c < 97) : n ≠ ⟨#[c]⟩ := by
  intro e
  have := (h.2.2 c (by rw [e]; simp)).1
  omega
theorem dash_eq : ("-" : Str) = ⟨#[45]⟩ := by decide +kernel
theorem open_eq : ("(" : Str) = ⟨#[40]⟩ := by decide +kernel
theorem fs_take (tl : Addr) (i : Nat) : (fsW tl i).lookup ("take" : Str) = none := by
  unfold fsW
  rw [List.lookup_cons, show ((("take" : Str) == ("tokens" : Str))) = false by decide +kernel, List.lookup_cons, show ((("take" : Str) == ("at" : Str))) = false by decide +kernel]
  rfl
theorem sg_in (e : Bool) : List.lookup (sgS e) [(("&" : Str), ("both" : Str)), ("|", "either")] = some (kN e) := by cases e <;> decide +kernel
end L3

namespace L3
open PySem L2 Words
local macro_rules | `(tactic| walk_at "w") => `(tactic| conv => whnf)
def cs_MIDDLE_SIGNS : Y := .cd [("both", "&"), ("either", "|")]
def t_shown_word (p_is_leaf : Sp3) (p_shown_word : Sp3) : TS3 := (ySeq (yIfS (yB (yOp (yEq false) (yOp yIx (yVar 0) (yC (.int 0))) (yC (.str "plain")))) (yRet (yOp yIx (yVar 0) (yC (.int 1)))) yNext)
  (ySeq (yIfS (yB (yCall p_is_leaf (yCons (yVar 0) yNil))) (yRet (yOp yAdd (yC (.str "-")) (yOp yIx (yVar 0) (yC (.int 1))))) yNext)
  (ySeq (yAsg (yCall p_shown_word (yCons (yOp yIx (yVar 0) (yC (.int 1))) yNil)) (gyName 1))
  (ySeq (yAsg (yOp yIx (yC cs_MIDDLE_SIGNS) (yOp yIx (yVar 0) (yC (.int 0)))) (gyName 2))
  (ySeq (yAsg (yCall p_shown_word (yCons (yOp yIx (yVar 0) (yC (.int 2))) yNil)) (gyName 3))
  (yRet (yFStr (yJCons (yC (.str "(")) (yJCons (yFmt (yVar 1)) (yJCons (yC (.str " ")) (yJCons (yFmt (yVar 2)) (yJCons (yC (.str " ")) (yJCons (yFmt (yVar 3)) (yJCons (yC (.str ")")) yJNil))))))))))))))
/-! ### a word as it is shown -/
def sgN : Bool → Nat
  | false => 38
  | true => 124
def cl : Wd → List Nat
  | .leaf false n => n.cps.toList
  | .leaf true n => 45 :: n.cps.toList
  | .node e l r => 40 :: (cl l ++ 32 :: sgN e :: 32 :: (cl r ++ [41]))
def shw (w : Wd) : Str := mkS (cl w)
def tkOf : Wd → Tk
  | .leaf false n => .nm n
  | .leaf true n => .ng (.nm n)
  | .node e l r => .pr e (tkOf l) (tkOf r)
theorem tkOf_val : ∀ w : Wd, (tkOf w).val = w
  | .leaf false n => rfl
  | .leaf true n => rfl
  | .node e l r => by show Wd.node e (tkOf l).val (tkOf r).val = _; rw [tkOf_val l, tkOf_val r]
theorem tkOf_dep (w : Wd) : (tkOf w).dep = w.depth := by rw [← Tk.dep_val, tkOf_val]
theorem tkOf_ok : ∀ {w : Wd}, w.ok → (tkOf w).ok
  | .leaf false n, h => h
  | .leaf true n, h => h
  | .node e l r, h => ⟨tkOf_ok h.1, tkOf_ok h.2⟩
theorem cl_len : ∀ {w : Wd}, w.ok → (cl w).length + 5 ≤ 14 * w.leaves
  | .leaf false n, h => by have h2 : n.length ≤ 8 := h.2.1; show n.cps.toList.length + 5 ≤ 14; rw [Txs.len_list]; omega
  | .leaf true n, h => by have h2 : n.length ≤ 8 := h.2.1; show (45 :: n.cps.toList).length + 5 ≤ 14; rw [List.length_cons, Txs.len_list]; omega
  | .node e l r, h => by
    have hl := cl_len h.1; have hr := cl_len h.2
    show (40 :: (cl l ++ 32 :: sgN e :: 32 :: (cl r ++ [41]))).length + 5 ≤ 14 * (l.leaves + r.leaves)
    simp only [List.length_cons, List.length_append, List.length_nil]; omega
theorem shw_len {w : Wd} (h : w.ok) (h63 : w.leaves ≤ 63) : (shw w).length ≤ 1000 := by
  have := cl_len h
  show (cl w).toArray.size ≤ 1000
  rw [List.size_toArray]; omega
/-! tokens of lists of signs -/
def tok (l : List Nat) : List (List Nat) := Txs.wds (Txs.spr msL l)
theorem spr_app (ms a b : List Nat) : Txs.spr ms (a ++ b) = Txs.spr ms a ++ Txs.spr ms b := by unfold Txs.spr; rw [List.flatMap_append]
theorem spr_cons (ms : List Nat) (d : Nat) (b : List Nat) : Txs.spr ms (d :: b) = (if d ∈ ms then [32, d, 32] else [d]) ++ Txs.spr ms b := by unfold Txs.spr; rw [List.flatMap_cons]
theorem tok_nil : tok [] = [] := rfl
theorem tok_mark {m : Nat} (hm : m ∈ msL) (a b : List Nat) : tok (a ++ m :: b) = tok a ++ [m] :: tok b := by
  unfold tok
  rw [spr_app, spr_cons, if_pos hm]
  show Txs.wds (Txs.spr msL a ++ 32 :: ([m] ++ 32 :: Txs.spr msL b)) = _
  have h32 : (32 : Nat) ∉ [m] := by
    intro z
    have : m = 32 := (List.mem_singleton.mp z).symm
    rw [this, msL_eq] at hm
    revert hm; decide
  rw [Txs.wds_app, Txs.wds_app, Txs.wds_one h32 (by simp)]; rfl
theorem tok_sp (a b : List Nat) : tok (a ++ 32 :: b) = tok a ++ tok b := by
  unfold tok
  rw [spr_app, spr_cons, if_neg (by rw [msL_eq]; decide)]
  show Txs.wds (Txs.spr msL a ++ 32 :: Txs.spr msL b) = _
  rw [Txs.wds_app]
theorem tok_name {n : Str} (h : NameOk n) : tok n.cps.toList = [n.cps.toList] := by
  have hs : Txs.spr msL n.cps.toList = n.cps.toList := by
    have : ∀ l : List Nat, (∀ c ∈ l, 97 ≤ c ∧ c ≤ 122) → Txs.spr msL l = l := fun l => by
      induction l with
      | nil => intro _; rfl
      | cons d r ih =>
        intro hl
        rw [spr_cons, ih fun c hc => hl c (List.mem_cons_of_mem _ hc)]
        have hd : 97 ≤ d ∧ d ≤ 122 := hl d (List.mem_cons_self ..)
        rw [if_neg (by rw [msL_eq]; simp; omega)]; rfl
    exact this _ h.2.2
  unfold tok
  rw [hs]
  refine Txs.wds_one (fun z => ?_) fun z => ?_
  · have := (h.2.2 32 z).1; omega
  · have h1 := h.1
    have : n.cps.toList.length = n.length := Txs.len_list n
    rw [z] at this; simp at this; omega
theorem sgN_in (e : Bool) : sgN e ∈ msL := by rw [msL_eq]; cases e <;> decide
theorem tok_cl : ∀ {w : Wd}, w.ok → tok (cl w) = (tkOf w).toks.map fun s => s.cps.toList
  | .leaf false n, h => tok_name h
  | .leaf true n, h => by
    have e := tok_mark (m := 45) (by rw [msL_eq]; decide) [] n.cps.toList
    rw [tok_name h] at e
    exact e
  | .node e l r, h => by
    have hl := tok_cl h.1; have hr := tok_cl h.2
    show tok (40 :: (cl l ++ 32 :: sgN e :: 32 :: (cl r ++ [41]))) = _
    have e1 := tok_mark (m := 40) (by rw [msL_eq]; decide) [] (cl l ++ 32 :: sgN e :: 32 :: (cl r ++ [41]))
    have e2 := tok_sp (cl l) (sgN e :: 32 :: (cl r ++ [41]))
    have e3 := tok_mark (sgN_in e) [] (32 :: (cl r ++ [41]))
    have e4 := tok_sp [] (cl r ++ [41])
    have e5 := tok_mark (m := 41) (by rw [msL_eq]; decide) (cl r) []
    rw [List.nil_append] at e1 e3 e4
    rw [e1, e2, e3, e4, e5, tok_nil, hl, hr]
    have es : (sgS e).cps.toList = [sgN e] := by cases e <;> decide +kernel
    show [] ++ [40] :: ((tkOf l).toks.map (fun s => s.cps.toList) ++ ([] ++ [sgN e] :: ([] ++ ((tkOf r).toks.map (fun s => s.cps.toList) ++ [[41]])))) = (("(" : Str) :: ((tkOf l).toks ++ sgS e :: ((tkOf r).toks ++ [(")" : Str)]))).map fun s => s.cps.toList
    simp only [List.nil_append, List.map_cons, List.map_append, List.map_nil, es]
    rfl
theorem tok_shw {w : Wd} (h : w.ok) : tokS (shw w) = (tkOf w).toks := by
  have e := tok_cl h
  have e2 : (shw w).cps.toList = cl w := by show (cl w).toArray.toList = _; simp
  unfold tokS
  rw [e2]
  show (tok (cl w)).map mkS = _
  rw [e, List.map_map]
  conv => rhs; rw [← List.map_id (tkOf w).toks]
  apply List.map_congr_left
  intro s _
  exact mkS_cps s
/-! the two writers -/
theorem str_list {a b : Str} (h : a.cps.toList = b.cps.toList) : a = b := by
  apply Str.ext'; exact Array.toList_inj.mp h
theorem cps_app (a b : Str) : (a ++ b).cps.toList = a.cps.toList ++ b.cps.toList := by rw [Str.cps_append, Array.toList_append]
theorem shw_list (w : Wd) : (shw w).cps.toList = cl w := by show (cl w).toArray.toList = _; simp
theorem sg_mid (e : Bool) : List.lookup (kN e) [(("both" : Str), ("&" : Str)), ("either", "|")] = some (sgS e) := by cases e <;> decide +kernel
theorem sgS_list (e : Bool) : (sgS e).cps.toList = [sgN e] := by cases e <;> decide +kernel
theorem big5 {n : Nat} (h : n ≤ 5000) : n ≤ sizeLine := Nat.le_trans h (by decide)
def sp_shown (n : Nat) : Sp3 := fun ys L Q => ∃ wd, ys = [encY wd] ∧ wd.depth ≤ n ∧ wd.leaves ≤ 63 ∧ wd.ok ∧ Q (.str (shw wd)) L
theorem no_shown : ∀ ys L Q, ¬ sp_shown 0 ys L Q := fun ys L Q ⟨wd, _, hd, _⟩ => by cases wd <;> simp [Wd.depth] at hd
theorem vc_shown (n : Nat) : ∀ ys L Q, sp_shown (n + 1) ys L Q → run3 (t_shown_word sp_is_leaf (sp_shown n)) 4 ys L Q := by
  rintro ys L Q ⟨wd, rfl, hd, h63, hok, q⟩
  cases wd with
  | leaf t nm =>
    cases t with
    | false =>
      have e : shw (.leaf false nm) = nm := mkS_cps nm
      rw [e] at q
      exact fin q
    | true =>
      refine ⟨true, true, _, rfl, ?_⟩
      have e : shw (.leaf true nm) = ("-" : Str) ++ nm := by
        apply str_list; rw [shw_list, cps_app]; rfl
      rw [e] at q
      have hl : nm.length ≤ 8 := hok.2.1
      exact ⟨small (by show 1 + nm.length ≤ 1000; omega), fin q⟩
  | node e l r =>
    have hd' : max l.depth r.depth + 1 ≤ n + 1 := hd
    have h63' : l.leaves + r.leaves ≤ 63 := h63
    have ll := shw_len hok.1 (by omega); have lr := shw_len hok.2 (by omega)
    have lw : (shw (.node e l r)).length ≤ 1000 := shw_len hok h63
    refine yite_F (by show decide (kN e = "plain") = false; cases e <;> decide +kernel) ?_
    refine ⟨false, e, _, rfl, ?_⟩
    refine ⟨l, rfl, by omega, by omega, hok.1, ?_⟩
    refine atK_some (sg_mid e) ?_
    refine ⟨r, rfl, by omega, by omega, hok.2, ?_⟩
    have lg : (sgS e).length = 1 := by cases e <;> rfl
    have A1 : (Str.empty ++ ("(" : Str)).length = 1 := rfl
    have lens : ∀ a b : Str, (a ++ b).length = a.length + b.length := fun a b => Str.length_append a b
    have sp1 : ((" " : Str)).length = 1 := rfl
    have E0 : Str.empty.length = 0 := rfl
    have O1 : (("(" : Str)).length = 1 := rfl
    have cp1 : ((")" : Str)).length = 1 := rfl
    refine ⟨big5 (by rw [A1]; decide), big5 (by omega), big5 (by rw [lens, A1]; omega), big5 (by rw [lens, lens, A1, sp1]; omega), big5 (by rw [lg]; decide), big5 (by rw [lens, lens, lens, A1, sp1, lg]; omega), big5 (by rw [lens, lens, lens, lens, A1, sp1, lg]; omega), big5 (by omega), big5 (by simp only [lens, E0, O1, sp1, lg]; omega), big5 (by simp only [lens, E0, O1, sp1, lg, cp1]; omega), big5 (by simp only [lens, E0, O1, sp1, lg, cp1]; omega), ?_⟩
    have ee : shw (.node e l r) = ((((((Str.empty ++ ("(" : Str)) ++ shw l) ++ (" " : Str)) ++ sgS e) ++ (" " : Str)) ++ shw r) ++ (")" : Str) := by
      apply str_list
      simp only [shw_list, cps_app, sgS_list]
      show 40 :: (cl l ++ 32 :: sgN e :: 32 :: (cl r ++ [41])) = (((((([] ++ [40]) ++ cl l) ++ [32]) ++ [sgN e]) ++ [32]) ++ cl r) ++ [41]
      simp
    rw [ee] at q
    exact fin q
end L3

namespace L3
open PySem L2 Words
local macro_rules | `(tactic| walk_at "w") => `(tactic| conv => whnf)
def t_wordX (C_TokenWalk : Addr) (C_NoWord : Addr) (E3 : X3) (p_TokenWalk_take : Sp3) (p_pair_from : Sp3X) (p_is_name : Sp3) (p_turned : Sp3) : TS3 := (ySeq (yAsg (yMeth0 C_TokenWalk "take" p_TokenWalk_take (yVar 0)) (gyName 2))
  (ySeq (yAsg (yC (.bl false)) (gyName 3))
  (ySeq (yWhile (yB (yOp (yEq false) (yVar 2) (yC (.str "-")))) (ySeq (yAsg (yNotV (yVar 3)) (gyName 3))
  (yAsg (yMeth0 C_TokenWalk "take" p_TokenWalk_take (yVar 0)) (gyName 2))))
  (ySeq (yIfS (yB (yOp (yEq false) (yVar 2) (yC (.str "(")))) (yAsg (yCallX p_pair_from E3 (yCons (yVar 0) (yCons (yVar 1) yNil))) (gyName 4)) (yIfS (yB (yCall p_is_name (yCons (yVar 2) yNil))) (yAsg (yTup (yCons (yC (.str "plain")) (yCons (yVar 2) yNil))) (gyName 4)) (yRaise C_NoWord E3 (yCons (yFStr (yJCons (yC (.str "a word is missing at ")) (yJCons (yFmtR (yVar 2)) yJNil))) yNil))))
  (yRet (yIf (yB (yVar 3)) (yCall p_turned (yCons (yVar 4) yNil)) (yVar 4)))))))
def t_pairX (C_NoWord : Addr) (C_TokenWalk : Addr) (E3 : X3) (p_word_from : Sp3X) (p_TokenWalk_take : Sp3) : TS3 := (ySeq (yIfS (yB (yOp (yEq false) (yVar 1) (yC cs_MOST_DEPTH))) (yRaise C_NoWord E3 (yCons (yFStr (yJCons (yC (.str "the word is deeper than ")) (yJCons (yFmtI (yC cs_MOST_DEPTH)) yJNil))) yNil)) yNext)
  (ySeq (yAsg (yCallX p_word_from E3 (yCons (yVar 0) (yCons (yOp yAdd (yVar 1) (yC (.int 1))) yNil))) (gyName 2))
  (ySeq (yAsg (yMeth0 C_TokenWalk "take" p_TokenWalk_take (yVar 0)) (gyName 3))
  (ySeq (yIfS (yB (yOp (yInC true) (yVar 3) (yC cs_PAIR_KINDS))) (yRaise C_NoWord E3 (yCons (yFStr (yJCons (yC (.str "a middle sign is missing at ")) (yJCons (yFmtR (yVar 3)) yJNil))) yNil)) yNext)
  (ySeq (yAsg (yCallX p_word_from E3 (yCons (yVar 0) (yCons (yOp yAdd (yVar 1) (yC (.int 1))) yNil))) (gyName 4))
  (ySeq (yAsg (yMeth0 C_TokenWalk "take" p_TokenWalk_take (yVar 0)) (gyName 5))
  (ySeq (yIfS (yB (yOp (yEq true) (yVar 5) (yC (.str ")")))) (yRaise C_NoWord E3 (yCons (yFStr (yJCons (yC (.str "a closing bracket is missing at ")) (yJCons (yFmtR (yVar 5)) yJNil))) yNil)) yNext)
  (yRet (yTup (yCons (yOp yIx (yC cs_PAIR_KINDS) (yVar 3)) (yCons (yVar 2) (yCons (yVar 4) yNil))))))))))))
def t_readX (C_TokenWalk : Addr) (C_NoWord : Addr) (E3 : X3) (p_TokenWalk_init : Sp3) (p_tokens_of : Sp3) (p_word_from : Sp3X) (p_TokenWalk_take : Sp3) : TS3 := (ySeq (yAsg (yMake C_TokenWalk p_TokenWalk_init (yCons (yCall p_tokens_of (yCons (yVar 0) yNil)) yNil)) (gyName 1))
  (ySeq (yAsg (yCallX p_word_from E3 (yCons (yVar 1) (yCons (yC (.int 1)) yNil))) (gyName 2))
  (ySeq (yAsg (yMeth0 C_TokenWalk "take" p_TokenWalk_take (yVar 1)) (gyName 3))
  (ySeq (yIfS (yB (yOp (yEq true) (yVar 3) (yC (.str "")))) (yRaise C_NoWord E3 (yCons (yFStr (yJCons (yC (.str "behind the word stands ")) (yJCons (yFmtR (yVar 3)) yJNil))) yNil)) yNext)
  (yRet (yVar 2))))))
/-! ### the reader as a function -/
def tb (b : Bool) (w : Wd) : Wd := if b = true then w.turn else w
def strip : List Str → Bool × List Str
  | [] => (false, [])
  | x :: r => if x = "-" then (!(strip r).1, (strip r).2) else (false, x :: r)
def sgB (s : Str) : Option Bool := if s = "&" then some false else if s = "|" then some true else none
def pW : Nat → List Str → Option (Wd × List Str)
  | 0, _ => none
  | n + 1, ts => match (strip ts).2 with
    | [] => none
    | x :: r => if x = "(" then
        match pW n r with
        | none => none
        | some (l, []) => none
        | some (l, s :: r2) => match sgB s with
          | none => none
          | some e => match pW n r2 with
            | none => none
            | some (w, []) => none
            | some (w, c :: r4) => if c = ")" then some (tb (strip ts).1 (.node e l w), r4) else none
      else if nameB x = true then some (tb (strip ts).1 (.leaf false x), r) else none
def pP (n : Nat) (ts : List Str) : Option (Wd × List Str) :=
  match pW n ts with
  | none => none
  | some (l, []) => none
  | some (l, s :: r2) => match sgB s with
    | none => none
    | some e => match pW n r2 with
      | none => none
      | some (w, []) => none
      | some (w, c :: r4) => if c = ")" then some (.node e l w, r4) else none
theorem pW_pair {n : Nat} {ts r : List Str} {x : Str} (h : (strip ts).2 = x :: r) (hx : x = "(") : pW (n + 1) ts = (pP n r).map fun p => (tb (strip ts).1 p.1, p.2) := by
  unfold pW pP
  rw [h]
  simp only [if_pos hx]
  cases pW n r with
  | none => rfl
  | some p =>
    obtain ⟨l, r1⟩ := p
    cases r1 with
    | nil => rfl
    | cons s r2 =>
      simp only
      cases sgB s with
      | none => rfl
      | some e =>
        simp only
        cases pW n r2 with
        | none => rfl
        | some q =>
          obtain ⟨w, r3⟩ := q
          cases r3 with
          | nil => rfl
          | cons c r4 =>
            simp only
            by_cases hc : c = ")"
            · rw [if_pos hc, if_pos hc]; rfl
            · rw [if_neg hc, if_neg hc]; rfl
theorem pW_name {n : Nat} {ts r : List Str} {x : Str} (h : (strip ts).2 = x :: r) (hx : ¬ x = "(") : pW (n + 1) ts = if nameB x = true then some (tb (strip ts).1 (.leaf false x), r) else none := by
  unfold pW
  rw [h]
  simp only [if_neg hx]
theorem pW_end {n : Nat} {ts : List Str} (h : (strip ts).2 = []) : pW (n + 1) ts = none := by
  unfold pW
  rw [h]
theorem strip_suf : ∀ ts : List Str, ∃ p, ts = p ++ (strip ts).2
  | [] => ⟨[], rfl⟩
  | x :: r => by
    unfold strip
    by_cases h : x = "-"
    · rw [if_pos h]
      obtain ⟨p, e⟩ := strip_suf r
      exact ⟨x :: p, by show x :: r = x :: (p ++ (strip r).2); rw [← e]⟩
    · rw [if_neg h]; exact ⟨[], rfl⟩
theorem strip_yes (r : List Str) : strip (("-" : Str) :: r) = (!(strip r).1, (strip r).2) := by rw [strip, if_pos rfl]
theorem strip_no {x : Str} (h : ¬ x = "-") (r : List Str) : strip (x :: r) = (false, x :: r) := by rw [strip, if_neg h]
theorem tb_depth (b : Bool) (w : Wd) : (tb b w).depth = w.depth := by cases b; rfl; exact Wd.depth_turn w
theorem pW_suf : ∀ {n : Nat} {ts r : List Str} {w : Wd}, pW n ts = some (w, r) → (∃ p, ts = p ++ r) ∧ w.depth ≤ n
  | 0, _, _, _, h => by cases h
  | n + 1, ts, r, w, h => by
    obtain ⟨p0, e0⟩ := strip_suf ts
    cases hs : (strip ts).2 with
    | nil => rw [pW_end hs] at h; cases h
    | cons x r1 =>
      rw [hs] at e0
      by_cases hx : x = "("
      · rw [pW_pair hs hx] at h
        unfold pP at h
        cases h1 : pW n r1 with
        | none => rw [h1] at h; cases h
        | some q1 =>
          obtain ⟨l, s1⟩ := q1
          rw [h1] at h
          obtain ⟨⟨a1, ea1⟩, d1⟩ := pW_suf h1
          cases s1 with
          | nil => cases h
          | cons s r2 =>
            simp only at h
            cases h2 : sgB s with
            | none => rw [h2] at h; cases h
            | some e =>
              rw [h2] at h
              simp only at h
              cases h3 : pW n r2 with
              | none => rw [h3] at h; cases h
              | some q3 =>
                obtain ⟨w3, s3⟩ := q3
                rw [h3] at h
                obtain ⟨⟨a3, ea3⟩, d3⟩ := pW_suf h3
                cases s3 with
                | nil => cases h
                | cons c r4 =>
                  simp only at h
                  by_cases hc : c = ")"
                  · rw [if_pos hc] at h
                    cases h
                    refine ⟨⟨p0 ++ x :: (a1 ++ s :: (a3 ++ [c])), ?_⟩, ?_⟩
                    · rw [e0, ea1, ea3]; simp
                    · show (tb _ (Wd.node e l w3)).depth ≤ n + 1
                      rw [tb_depth]; show max l.depth w3.depth + 1 ≤ n + 1; omega
                  · rw [if_neg hc] at h; cases h
      · rw [pW_name hs hx] at h
        by_cases hn : nameB x = true
        · rw [if_pos hn] at h
          cases h
          refine ⟨⟨p0 ++ [x], by rw [e0]; simp⟩, ?_⟩
          rw [tb_depth]; show 1 ≤ n + 1; omega
        · rw [if_neg hn] at h; cases h
/-! ### the program reads so -/
def TksOk (ts : List Str) : Prop := ∀ t ∈ ts, t ≠ "" ∧ t.cps.all (· < 128) = true ∧ t.length ≤ 40000
def Suf (ts r : List Str) : Prop := ∃ p, ts = p ++ r
theorem Suf.trans {a b c : List Str} (h : Suf a b) (k : Suf b c) : Suf a c := by
  obtain ⟨p, rfl⟩ := h; obtain ⟨q, rfl⟩ := k
  exact ⟨p ++ q, by simp⟩
theorem Suf.tail {a r : List Str} {x : Str} (h : Suf a (x :: r)) : Suf a r := h.trans ⟨[x], rfl⟩
theorem Suf.at {ts r : List Str} (h : Suf ts r) : ts.drop (ts.length - r.length) = r := by
  obtain ⟨p, rfl⟩ := h
  have : (p ++ r).length - r.length = p.length := by simp
  rw [this]; simp
theorem Suf.mem {ts r : List Str} (h : Suf ts r) {x : Str} (hx : x ∈ r) : x ∈ ts := by obtain ⟨p, rfl⟩ := h; exact List.mem_append_right _ hx
theorem take_suf {C a tl : Addr} {ts r : List Str} {L : LHp} {Q : YK} (ha : L a = some (.ins C (fsW tl (ts.length - r.length)))) (ht : L tl = some (.lst (ts.map Y.str))) (hs : Suf ts r)
    (q0 : r = [] → Q (.str "") L) (q1 : ∀ x r', r = x :: r' → Q (.str x) (updL L a (.ins C (fsW tl (ts.length - r'.length))))) : sp_take C [.ref a] L Q := by
  refine ⟨a, tl, ts, ts.length - r.length, rfl, ha, ht, fun e => ?_, fun ne => ?_⟩
  · refine q0 ?_
    have := hs.at
    rw [e, List.drop_length] at this
    exact this.symm
  · cases r with
    | nil => exact absurd (by simp) ne
    | cons x r' =>
      obtain ⟨p, e⟩ := hs
      have hp : ts.length - (x :: r').length = p.length := by rw [e]; simp
      refine ⟨x, by rw [hp, e]; simp, ?_⟩
      have h2 : ts.length - (x :: r').length + 1 = ts.length - r'.length := by rw [e]; simp; omega
      rw [h2]
      exact q1 x r' rfl
def sp_wordX (C N : Addr) (n : Nat) : Sp3X := fun ys L Q E => ∃ a tl, ∃ ts r0 : List Str, ys = [.ref a, .int (61 - (n : Int))] ∧ L a = some (.ins C (fsW tl (ts.length - r0.length))) ∧ L tl = some (.lst (ts.map Y.str)) ∧ Suf ts r0 ∧ 1 ≤ n ∧ n ≤ 60 ∧ TksOk ts ∧
  (∀ wd r, pW n r0 = some (wd, r) → Q (encY wd) (updL L a (.ins C (fsW tl (ts.length - r.length))))) ∧ (pW n r0 = none → ∀ k, E N (updL L a (.ins C (fsW tl k))))
def sp_pairX (C N : Addr) (n : Nat) : Sp3X := fun ys L Q E => ∃ a tl, ∃ ts r0 : List Str, ys = [.ref a, .int (60 - (n : Int))] ∧ L a = some (.ins C (fsW tl (ts.length - r0.length))) ∧ L tl = some (.lst (ts.map Y.str)) ∧ Suf ts r0 ∧ n ≤ 59 ∧ TksOk ts ∧
  (∀ wd r, pP n r0 = some (wd, r) → Q (encY wd) (updL L a (.ins C (fsW tl (ts.length - r.length))))) ∧ (pP n r0 = none → ∀ k, E N (updL L a (.ins C (fsW tl k))))
theorem no_wordX {C N : Addr} : ∀ ys L Q E, ¬ sp_wordX C N 0 ys L Q E := fun ys L Q E ⟨_, _, _, _, _, _, _, _, h, _⟩ => by omega
theorem tok_fit {ts : List Str} (h : TksOk ts) {x : Str} (hx : x ∈ ts) : x.cps.all (· < 128) = true ∧ x.length ≤ 40000 := (h x hx).2
theorem big6 {n : Nat} (h : n ≤ 600000) : n ≤ sizeLine := Nat.le_trans h (by decide)
theorem lenE (a : Str) : (Str.empty ++ a).length = a.length := by rw [Str.length_append]; show 0 + a.length = _; omega
theorem vc_pairX {C N : Addr} (n : Nat) : ∀ ys L Q E, sp_pairX C N n ys L Q E → run3 (t_pairX N C (FinX E) (sp_wordX C N n) (sp_take C)) 6 ys L Q := by
  rintro ys L Q E ⟨a, tl, ts, r0, rfl, ha, ht, hsf, hn, hok, q, ex⟩
  have nal : a ≠ tl := neL' ha ht (by intro z; cases z)
  have t1 : ∀ o, updL L a o tl = some (.lst (ts.map Y.str)) := fun o => by rw [updL_ne (Ne.symm nal)]; exact ht
  -- the refusal, wherever it is
  have fxr : pP n r0 = none → ∀ τ k, FinX E τ N (updL L a (.ins C (fsW tl k))) := fun h τ k => ⟨_, LSub.refl _, ex h k⟩
  have self0 : ∀ k0, L a = some (.ins C (fsW tl k0)) → updL L a (.ins C (fsW tl k0)) = L := fun k0 h => by
    funext b
    by_cases c : b = a
    · subst c; rw [updL_same]; exact h.symm
    · rw [updL_ne c]
  cases n with
  | zero =>
    have hnone : pP 0 r0 = none := rfl
    refine ⟨big6 (by rw [lenE]; decide), by decide +kernel, big6 (by decide +kernel), big6 (by decide +kernel), Nat.le_of_ble_eq_true rfl, ?_⟩
    have := fxr hnone [some (.ref a), some (.int (60 - ((0 : Nat) : Int))), none, none, none, none] (ts.length - r0.length)
    rw [self0 _ ha] at this
    exact this
  | succ n =>
    refine yite_F (by show decide ((60 : Int) - ((n + 1 : Nat) : Int) = 60) = false; exact decide_eq_false (by omega)) ?_
    have ed : (60 : Int) - ((n + 1 : Nat) : Int) + 1 = 61 - ((n + 1 : Nat) : Int) := by omega
    refine ⟨a, tl, ts, r0, by rw [← ed], ha, ht, hsf, by omega, by omega, hok, fun l r1 h1 => ?_, fun h1 k => fxr (by unfold pP; rw [h1]) _ k⟩
    obtain ⟨s1, dl⟩ := pW_suf h1
    have sf1 : Suf ts r1 := hsf.trans s1
    refine insK_of updL_same ⟨rfl, fs_take _ _, take_suf (r := r1) updL_same (t1 _) sf1 (fun e1 => ?_) fun s r2 e1 => ?_⟩
    · subst e1
      have hnone : pP (n + 1) r0 = none := by unfold pP; rw [h1]
      exact ⟨big6 (by rw [lenE]; decide), by decide +kernel, by decide, fun sx hsx => ⟨big6 (by rw [Str.length_append, lenE]; show 28 + _ ≤ _; omega), big6 (by rw [Str.length_append, lenE]; show 28 + _ ≤ _; omega), Nat.le_of_ble_eq_true rfl, fxr hnone _ _⟩⟩
    · subst e1
      rw [updL_updL]
      have sf2 : Suf ts r2 := sf1.tail
      have hsm := tok_fit hok (sf1.mem (List.mem_cons_self ..))
      cases hsg : sgB s with
      | none =>
        have hnone : pP (n + 1) r0 = none := by unfold pP; rw [h1]; simp only [hsg]
        have hlk : List.lookup s [(("&" : Str), ("both" : Str)), ("|", "either")] = none := by
          unfold sgB at hsg
          by_cases c1 : s = "&"
          · rw [if_pos c1] at hsg; cases hsg
          · rw [if_neg c1] at hsg
            by_cases c2 : s = "|"
            · rw [if_pos c2] at hsg; cases hsg
            · have b1 : (s == ("&" : Str)) = false := by simpa using c1
              have b2 : (s == ("|" : Str)) = false := by simpa using c2
              rw [List.lookup_cons, b1, List.lookup_cons, b2]; rfl
        refine yite_T (by show (!(List.lookup s [(("&" : Str), ("both" : Str)), ("|", "either")]).isSome) = true; rw [hlk]; rfl) ?_
        exact ⟨big6 (by rw [lenE]; decide), hsm.1, hsm.2, fun sx hsx => ⟨big6 (by rw [Str.length_append, lenE]; show 28 + _ ≤ _; omega), big6 (by rw [Str.length_append, lenE]; show 28 + _ ≤ _; omega), Nat.le_of_ble_eq_true rfl, fxr hnone _ _⟩⟩
      | some e =>
        have hse : s = sgS e := by
          unfold sgB at hsg
          by_cases c1 : s = "&"
          · rw [if_pos c1] at hsg; cases hsg; exact c1
          · rw [if_neg c1] at hsg
            by_cases c2 : s = "|"
            · rw [if_pos c2] at hsg; cases hsg; exact c2
            · rw [if_neg c2] at hsg; cases hsg
        refine yite_F (by show (!(List.lookup s [(("&" : Str), ("both" : Str)), ("|", "either")]).isSome) = false; rw [hse, sg_in]; rfl) ?_
        refine ⟨a, tl, ts, r2, by rw [← ed], updL_same, t1 _, sf2, by omega, by omega, hok, fun w r3 h3 => ?_, fun h3 k => by rw [updL_updL]; exact fxr (by unfold pP; rw [h1]; simp only [hsg]; rw [h3]) _ k⟩
        rw [updL_updL]
        obtain ⟨s3, dw⟩ := pW_suf h3
        have sf3 : Suf ts r3 := sf2.trans s3
        refine insK_of updL_same ⟨rfl, fs_take _ _, take_suf (r := r3) updL_same (t1 _) sf3 (fun e3 => ?_) fun c r4 e3 => ?_⟩
        · subst e3
          have hnone : pP (n + 1) r0 = none := by unfold pP; rw [h1]; simp only [hsg]; rw [h3]
          exact ⟨big6 (by rw [lenE]; decide), by decide +kernel, by decide, fun sx hsx => ⟨big6 (by rw [Str.length_append, lenE]; show 32 + _ ≤ _; omega), big6 (by rw [Str.length_append, lenE]; show 32 + _ ≤ _; omega), Nat.le_of_ble_eq_true rfl, fxr hnone _ _⟩⟩
        · subst e3
          rw [updL_updL]
          have hcm := tok_fit hok (sf3.mem (List.mem_cons_self ..))
          by_cases hc : c = ")"
          · refine yite_F (by show (!decide (c = ")")) = false; rw [decide_eq_true hc]; rfl) ?_
            have hsome : pP (n + 1) r0 = some (.node e l w, r4) := by unfold pP; rw [h1]; simp only [hsg]; rw [h3]; simp only [if_pos hc]
            rw [hse]
            refine atK_some (sg_in e) ?_
            exact fin (q _ _ hsome)
          · refine yite_T (by show (!decide (c = ")")) = true; rw [decide_eq_false hc]; rfl) ?_
            have hnone : pP (n + 1) r0 = none := by unfold pP; rw [h1]; simp only [hsg]; rw [h3]; simp only [if_neg hc]
            exact ⟨big6 (by rw [lenE]; decide), hcm.1, hcm.2, fun sx hsx => ⟨big6 (by rw [Str.length_append, lenE]; show 32 + _ ≤ _; omega), big6 (by rw [Str.length_append, lenE]; show 32 + _ ≤ _; omega), Nat.le_of_ble_eq_true rfl, fxr hnone _ _⟩⟩
theorem vc_wordX {C N : Addr} (n : Nat) : ∀ ys L Q E, sp_wordX C N (n + 1) ys L Q E → run3 (t_wordX C N (FinX E) (sp_take C) (sp_pairX C N n) sp_is_name (sp_turned 63)) 5 ys L Q := by
  rintro ys L Q E ⟨a, tl, ts, r0, rfl, ha, ht, hsf, h1n, hn, hok, q, ex⟩
  have nal : a ≠ tl := neL' ha ht (by intro z; cases z)
  have t1 : ∀ o, updL L a o tl = some (.lst (ts.map Y.str)) := fun o => by rw [updL_ne (Ne.symm nal)]; exact ht
  have fxr : pW (n + 1) r0 = none → ∀ τ k, FinX E τ N (updL L a (.ins C (fsW tl k))) := fun h τ k => ⟨_, LSub.refl _, ex h k⟩
  have self0 : ∀ k0, L a = some (.ins C (fsW tl k0)) → updL L a (.ins C (fsW tl k0)) = L := fun k0 h => by
    funext b
    by_cases c : b = a
    · subst c; rw [updL_same]; exact h.symm
    · rw [updL_ne c]
  -- what the loop keeps
  let W : Nat → St3 → LHp → Prop := fun m τ L' => ∃ (x : Str) (rem : List Str) (b : Bool) (c4 : Option Y), τ = [some (.ref a), some (.int (61 - ((n + 1 : Nat) : Int))), some (.str x), some (.bl b), c4] ∧ L' = updL L a (.ins C (fsW tl (ts.length - rem.tail.length))) ∧
    ((rem = [] ∧ x = "") ∨ ∃ r', rem = x :: r') ∧ Suf ts rem ∧ (strip rem).2 = (strip r0).2 ∧ (b != (strip rem).1) = (strip r0).1 ∧ m = rem.length
  have start : ∀ (x : Str) L', ((r0 = [] ∧ x = "") ∨ ∃ r', r0 = x :: r') → L' = updL L a (.ins C (fsW tl (ts.length - r0.tail.length))) → W r0.length [some (.ref a), some (.int (61 - ((n + 1 : Nat) : Int))), some (.str x), some (.bl false), none] L' := fun x L' h e =>
    ⟨x, r0, false, none, rfl, e, h, hsf, rfl, by cases (strip r0).1 <;> rfl, rfl⟩
  have body : ∀ m τ L', W m τ L' → (yWhile (yB (yOp (yEq false) (yVar 2) (yC (.str "-")))) (ySeq (yAsg (yNotV (yVar 3)) (gyName 3)) (yAsg (yMeth0 C "take" (sp_take C) (yVar 0)) (gyName 2)))) ⟨(ySeq (yIfS (yB (yOp (yEq false) (yVar 2) (yC (.str "(")))) (yAsg (yCallX (sp_pairX C N n) (FinX E) (yCons (yVar 0) (yCons (yVar 1) yNil))) (gyName 4)) (yIfS (yB (yCall sp_is_name (yCons (yVar 2) yNil))) (yAsg (yTup (yCons (yC (.str "plain")) (yCons (yVar 2) yNil))) (gyName 4)) (yRaise N (FinX E) (yCons (yFStr (yJCons (yC (.str "a word is missing at ")) (yJCons (yFmtR (yVar 2)) yJNil))) yNil)))) (yRet (yIf (yB (yVar 3)) (yCall (sp_turned 63) (yCons (yVar 4) yNil)) (yVar 4)))) ⟨fun _ L' => Fin3 Q .non L', Fin3 Q, fun _ _ => False, fun _ _ => False⟩, Fin3 Q, fun _ _ => False, fun _ _ => False⟩ τ L' := by
    intro m τ L' h0
    refine ⟨W, ⟨m, h0⟩, ?_⟩
    rintro m τ L' ⟨x, rem, b, c4, rfl, rfl, hcur, hsr, hs2, hs1, rfl⟩
    by_cases hx : x = "-"
    · -- one minus sign more
      obtain ⟨r', er⟩ : ∃ r', rem = x :: r' := by
        rcases hcur with ⟨_, e⟩ | h
        · rw [e] at hx; exact absurd hx (by decide +kernel)
        · exact h
      subst er hx
      rw [strip_yes] at hs2 hs1
      refine ⟨_, fun _ _ h => h, ?_⟩
      have sfr : Suf ts r' := hsr.tail
      have hb : ((!b) != (strip r').1) = (strip r0).1 := by rw [← hs1]; cases b <;> cases (strip r').1 <;> rfl
      refine insK_of updL_same ⟨rfl, fs_take _ _, take_suf (r := r') updL_same (t1 _) sfr (fun e1 => ?_) fun y r2 e1 => ?_⟩
      · subst e1
        exact ⟨_, LSub.refl _, 0, Nat.succ_pos _, "", [], !b, _, rfl, rfl, .inl ⟨rfl, rfl⟩, sfr, hs2, hb, rfl⟩
      · subst e1
        rw [updL_updL]
        exact ⟨_, LSub.refl _, (y :: r2).length, Nat.lt_succ_self _, y, y :: r2, !b, _, rfl, rfl, .inr ⟨r2, rfl⟩, sfr, hs2, hb, rfl⟩
    · refine yite_F (by show decide (x = "-") = false; exact decide_eq_false hx) ?_
      rcases hcur with ⟨er, exx⟩ | ⟨r', er⟩
      · subst er exx
        have hnone : pW (n + 1) r0 = none := pW_end (by rw [← hs2]; rfl)
        refine ⟨"", rfl, by decide +kernel, by decide, ?_⟩
        refine yite_F (by decide +kernel) ?_
        exact ⟨big6 (by rw [lenE]; decide), by decide +kernel, by decide, fun sx hsx => ⟨big6 (by rw [Str.length_append, lenE]; show 21 + _ ≤ _; omega), big6 (by rw [Str.length_append, lenE]; show 21 + _ ≤ _; omega), Nat.le_of_ble_eq_true rfl, fxr hnone _ _⟩⟩
      · subst er
        rw [strip_no hx] at hs2 hs1
        have hS2 : (strip r0).2 = x :: r' := hs2.symm
        have hS1 : (strip r0).1 = b := by rw [← hs1]; cases b <;> rfl
        have hxm := tok_fit hok (hsr.mem (List.mem_cons_self ..))
        by_cases hp : x = "("
        · refine yite_T (by show decide (x = "(") = true; exact decide_eq_true hp) ?_
          have ed : (61 : Int) - ((n + 1 : Nat) : Int) = 60 - (n : Int) := by omega
          refine ⟨a, tl, ts, r', by rw [← ed], updL_same, t1 _, hsr.tail, by omega, hok, fun wd r hw => ?_, fun hw k => by rw [updL_updL]; exact fxr (by rw [pW_pair hS2 hp, hw]; rfl) _ k⟩
          rw [updL_updL]
          have hsome : pW (n + 1) r0 = some (tb b wd, r) := by rw [pW_pair hS2 hp, hw, hS1]; rfl
          have hdw : wd.depth ≤ n + 1 := by have := (pW_suf hsome).2; rw [tb_depth] at this; exact this
          have hq := q _ _ hsome
          cases b with
          | true => exact ⟨wd, rfl, by omega, fin hq⟩
          | false => exact fin hq
        · refine yite_F (by show decide (x = "(") = false; exact decide_eq_false hp) ?_
          refine ⟨x, rfl, hxm.1, hxm.2, ?_⟩
          by_cases hnm : nameB x = true
          · refine yite_T hnm ?_
            have hsome : pW (n + 1) r0 = some (tb b (.leaf false x), r') := by rw [pW_name hS2 hp, if_pos hnm, hS1]
            have hq := q _ _ hsome
            cases b with
            | true => exact ⟨.leaf false x, rfl, by show 1 ≤ 63; decide, fin hq⟩
            | false => exact fin hq
          · refine yite_F (by cases h : nameB x; rfl; exact absurd h hnm) ?_
            have hnone : pW (n + 1) r0 = none := by rw [pW_name hS2 hp, if_neg hnm]
            exact ⟨big6 (by rw [lenE]; decide), hxm.1, hxm.2, fun sx hsx => ⟨big6 (by rw [Str.length_append, lenE]; show 21 + _ ≤ _; omega), big6 (by rw [Str.length_append, lenE]; show 21 + _ ≤ _; omega), Nat.le_of_ble_eq_true rfl, fxr hnone _ _⟩⟩
  refine insK_of ha ⟨rfl, fs_take _ _, take_suf (r := r0) ha ht hsf (fun e1 => ?_) fun y r2 e1 => ?_⟩
  · exact body _ _ _ (start "" L (.inl ⟨e1, rfl⟩) (by rw [e1] at ha ⊢; exact (self0 _ ha).symm))
  · exact body _ _ _ (start y _ (.inr ⟨r2, e1⟩) (by rw [e1]; rfl))
def sp_readX (N : Addr) : Sp3X := fun ys L Q E => ∃ z : Str, ys = [.str z] ∧ z.length ≤ 10000 ∧ z.cps.all (· < 128) = true ∧ (∀ wd, pW 60 (tokS z) = some (wd, []) → Q (encY wd) L) ∧ ((∀ wd, pW 60 (tokS z) ≠ some (wd, [])) → E N L)
theorem spl_mem (c : Nat) : ∀ (l w : List Nat), w ∈ Txs.spl c l → (∀ x ∈ w, x ∈ l ∧ x ≠ c) ∧ w.length ≤ l.length
  | [], w, h => by
    have : w = [] := by simpa [Txs.spl] using h
    subst this; exact ⟨fun x hx => absurd hx (by simp), Nat.le_refl _⟩
  | d :: r, w, h => by
    by_cases e : d = c
    · rw [Txs.spl_yes e] at h
      rcases List.mem_cons.mp h with rfl | h
      · exact ⟨fun x hx => absurd hx (by simp), by simp⟩
      · obtain ⟨h1, h2⟩ := spl_mem c r w h
        exact ⟨fun x hx => ⟨List.mem_cons_of_mem _ (h1 x hx).1, (h1 x hx).2⟩, by rw [List.length_cons]; omega⟩
    · obtain ⟨g, t, q⟩ := Txs.spl_ex c r
      rw [Txs.spl_no e q] at h
      have ih := spl_mem c r
      rw [q] at ih
      rcases List.mem_cons.mp h with rfl | h
      · obtain ⟨h1, h2⟩ := ih g (List.mem_cons_self ..)
        refine ⟨fun x hx => ?_, by rw [List.length_cons, List.length_cons]; omega⟩
        rcases List.mem_cons.mp hx with rfl | hx
        · exact ⟨List.mem_cons_self .., e⟩
        · exact ⟨List.mem_cons_of_mem _ (h1 x hx).1, (h1 x hx).2⟩
      · obtain ⟨h1, h2⟩ := ih w (List.mem_cons_of_mem _ h)
        exact ⟨fun x hx => ⟨List.mem_cons_of_mem _ (h1 x hx).1, (h1 x hx).2⟩, by rw [List.length_cons]; omega⟩
theorem spr_mem {ms l : List Nat} {x : Nat} (h : x ∈ Txs.spr ms l) : x = 32 ∨ x ∈ l := by
  unfold Txs.spr at h
  obtain ⟨d, hd, hx⟩ := List.mem_flatMap.mp h
  by_cases c : d ∈ ms
  · rw [if_pos c] at hx
    simp at hx
    rcases hx with h | h | h
    · exact .inl h
    · exact .inr (h ▸ hd)
    · exact .inl h
  · rw [if_neg c] at hx
    simp at hx
    exact .inr (hx ▸ hd)
theorem toks_ok {z : Str} (hz : z.length ≤ 10000) (ha : z.cps.all (· < 128) = true) : TksOk (tokS z) := by
  intro t ht
  obtain ⟨w, hw, rfl⟩ := List.mem_map.mp ht
  obtain ⟨hw1, hw2⟩ := List.mem_filter.mp hw
  obtain ⟨h1, h2⟩ := spl_mem _ _ _ hw1
  rw [← Array.all_toList, List.all_eq_true] at ha
  refine ⟨?_, ?_, ?_⟩
  · intro e
    have := mkS_empty w
    rw [decide_eq_true e] at this
    rw [← this] at hw2; cases hw2
  · rw [← Array.all_toList, List.all_eq_true]
    intro c hc
    have hc : c ∈ w := by simpa [mkS] using hc
    rcases spr_mem (h1 c hc).1 with h | h
    · subst h; decide
    · exact ha c h
  · have h3 := spr_len msL z.cps.toList
    rw [Txs.len_list] at h3
    show w.toArray.size ≤ 40000
    rw [List.size_toArray]; omega
theorem vc_readX {C N : Addr} : ∀ ys L Q E, sp_readX N ys L Q E → run3 (t_readX C N (FinX E) (sp_init C) sp_tokens (sp_wordX C N 60) (sp_take C)) 4 ys L Q := by
  rintro ys L Q E ⟨z, rfl, hz, has, q, ex⟩
  have hok := toks_ok hz has
  refine ⟨z, rfl, by omega, fun p hp x hx => ?_⟩
  have npx : p ≠ x := neL updL_same hx
  have nx : L x = none := none_sub (LSub.new hp) hx
  refine ⟨x, p, rfl, updL_same, rfl, ?_⟩
  rw [updL_updL]
  have hp2 : ∀ o, updL (updL L p (.lst ((tokS z).map Y.str))) x o p = some (.lst ((tokS z).map Y.str)) := fun o => by rw [updL_ne npx]; exact updL_same
  have sub2 : ∀ o, LSub L (updL (updL L p (.lst ((tokS z).map Y.str))) x o) := fun o => (LSub.new hp).trans (LSub.new hx)
  refine ⟨x, p, tokS z, tokS z, rfl, by rw [updL_same, Nat.sub_self], hp2 _, ⟨[], rfl⟩, by decide, Nat.le_refl _, hok, fun wd r hw => ?_, fun hw k => ?_⟩
  · rw [updL_updL]
    obtain ⟨s1, _⟩ := pW_suf hw
    have sf : Suf (tokS z) r := s1
    refine insK_of updL_same ⟨rfl, fs_take _ _, take_suf (r := r) updL_same (hp2 _) sf (fun e1 => ?_) fun y r2 e1 => ?_⟩
    · subst e1
      exact finS (sub2 _) (q wd hw)
    · subst e1
      rw [updL_updL]
      have hym := tok_fit hok (sf.mem (List.mem_cons_self ..))
      have hy := (hok _ (sf.mem (List.mem_cons_self ..))).1
      refine yite_T (by show (!decide (y = "")) = true; rw [decide_eq_false hy]; rfl) ?_
      exact ⟨big6 (by rw [lenE]; decide), hym.1, hym.2, fun sx hsx => ⟨big6 (by rw [Str.length_append, lenE]; show 23 + _ ≤ _; omega), big6 (by rw [Str.length_append, lenE]; show 23 + _ ≤ _; omega), Nat.le_of_ble_eq_true rfl, ⟨_, sub2 _, ex fun wd' h' => by rw [hw] at h'; cases h'⟩⟩⟩
  · rw [updL_updL]
    exact ⟨_, sub2 _, ex fun wd' h' => by rw [hw] at h'; cases h'⟩
end L3

namespace L3
open PySem L2 Words
/-! ### what the reader takes is a tree of tokens, and each such tree is taken -/
theorem tb_not (b : Bool) (w : Wd) : tb (!b) w = (tb b w).turn := by
  cases b
  · rfl
  · show w = w.turn.turn
    rw [Wd.turn_turn]
theorem pW_neg (n : Nat) (ts : List Str) : pW (n + 1) (("-" : Str) :: ts) = (pW (n + 1) ts).map fun p => (p.1.turn, p.2) := by
  have hs : (strip (("-" : Str) :: ts)).2 = (strip ts).2 := by rw [strip_yes]
  have hb : (strip (("-" : Str) :: ts)).1 = !(strip ts).1 := by rw [strip_yes]
  cases h : (strip ts).2 with
  | nil => rw [pW_end h, pW_end (by rw [hs, h])]; rfl
  | cons x r =>
    by_cases hx : x = "("
    · rw [pW_pair h hx, pW_pair (by rw [hs, h]) hx, Option.map_map, hb]
      congr 1
      funext p
      show (tb (!(strip ts).1) p.1, p.2) = ((tb (strip ts).1 p.1).turn, p.2)
      rw [tb_not]
    · rw [pW_name h hx, pW_name (by rw [hs, h]) hx, hb]
      by_cases hn : nameB x = true
      · rw [if_pos hn, if_pos hn, tb_not]; rfl
      · rw [if_neg hn, if_neg hn]; rfl
theorem sgB_sg (e : Bool) : sgB (sgS e) = some e := by cases e <;> decide +kernel
theorem pW_of : ∀ (t : Tk) (n : Nat) (r : List Str), t.dep ≤ n → t.ok → pW n (t.toks ++ r) = some (t.val, r)
  | .nm x, n, r, hd, hok => by
    have hd : 1 ≤ n := hd
    obtain ⟨n, rfl⟩ : ∃ m, n = m + 1 := ⟨n - 1, by omega⟩
    have hx : ¬ x = "-" := by rw [dash_eq]; exact name_ne hok (by decide)
    have hp : ¬ x = "(" := by rw [open_eq]; exact name_ne hok (by decide)
    have hs : (strip (x :: r)).2 = x :: r := by rw [strip_no hx]
    show pW (n + 1) (x :: r) = _
    rw [pW_name hs hp, if_pos (nameB_ok hok), strip_no hx]; rfl
  | .pr e a b, n, r, hd, hok => by
    have hd : max a.dep b.dep + 1 ≤ n := hd
    obtain ⟨n, rfl⟩ : ∃ m, n = m + 1 := ⟨n - 1, by omega⟩
    have ha := pW_of a n (sgS e :: (b.toks ++ (")" : Str) :: r)) (by omega) hok.1
    have hb := pW_of b n ((")" : Str) :: r) (by omega) hok.2
    have hx : ¬ (("(" : Str) = "-") := by decide +kernel
    have el : (Tk.pr e a b).toks ++ r = ("(" : Str) :: (a.toks ++ (sgS e :: (b.toks ++ (")" : Str) :: r))) := by
      show (("(" : Str) :: (a.toks ++ sgS e :: (b.toks ++ [(")" : Str)]))) ++ r = _
      simp
    rw [el, pW_pair (r := a.toks ++ (sgS e :: (b.toks ++ (")" : Str) :: r))) (x := "(") (by rw [strip_no hx]) rfl, strip_no hx]
    unfold pP
    rw [ha]; simp only [sgB_sg]; rw [hb]; simp only [if_pos]
    rfl
  | .ng t, n, r, hd, hok => by
    have hd : t.dep ≤ n := hd
    have := t.dep_pos
    obtain ⟨n, rfl⟩ : ∃ m, n = m + 1 := ⟨n - 1, by omega⟩
    show pW (n + 1) (("-" : Str) :: (t.toks ++ r)) = _
    rw [pW_neg, pW_of t (n + 1) r hd hok]; rfl
theorem name_of {x : Str} (h : nameB x = true) : NameOk x := by
  unfold nameB at h
  simp only [Bool.and_eq_true, decide_eq_true_eq, List.all_eq_true] at h
  refine ⟨h.1.1, h.1.2, fun c hc => ?_⟩
  have := h.2 c hc
  unfold letB at this
  simpa using this
theorem sgB_of {s : Str} {e : Bool} (h : sgB s = some e) : s = sgS e := by
  unfold sgB at h
  by_cases c1 : s = "&"
  · rw [if_pos c1] at h; cases h; exact c1
  · rw [if_neg c1] at h
    by_cases c2 : s = "|"
    · rw [if_pos c2] at h; cases h; exact c2
    · rw [if_neg c2] at h; cases h
theorem pW_tk : ∀ (n : Nat) (ts r : List Str) (w : Wd), pW n ts = some (w, r) → ∃ t : Tk, ts = t.toks ++ r ∧ t.ok
  | 0, _, _, _, h => by cases h
  | n + 1, ts, r, w, h => by
    induction ts generalizing w with
    | nil => rw [pW_end (by rfl)] at h; cases h
    | cons x ts ih =>
      by_cases hx : x = "-"
      · subst hx
        rw [pW_neg] at h
        cases h1 : pW (n + 1) ts with
        | none => rw [h1] at h; cases h
        | some p =>
          rw [h1] at h; cases h
          obtain ⟨t, et, ok⟩ := ih p.1 h1
          exact ⟨.ng t, by rw [et]; rfl, ok⟩
      · have hs : (strip (x :: ts)).2 = x :: ts := by rw [strip_no hx]
        by_cases hp : x = "("
        · rw [pW_pair hs hp] at h
          unfold pP at h
          cases h1 : pW n ts with
          | none => rw [h1] at h; cases h
          | some q1 =>
            obtain ⟨l, s1⟩ := q1
            rw [h1] at h
            obtain ⟨a, ea, oka⟩ := pW_tk n _ _ _ h1
            cases s1 with
            | nil => cases h
            | cons s r2 =>
              simp only at h
              cases h2 : sgB s with
              | none => rw [h2] at h; cases h
              | some e =>
                rw [h2] at h
                simp only at h
                cases h3 : pW n r2 with
                | none => rw [h3] at h; cases h
                | some q3 =>
                  obtain ⟨w3, s3⟩ := q3
                  rw [h3] at h
                  obtain ⟨b, eb, okb⟩ := pW_tk n _ _ _ h3
                  cases s3 with
                  | nil => cases h
                  | cons c r4 =>
                    simp only at h
                    by_cases hc : c = ")"
                    · rw [if_pos hc] at h
                      cases h
                      refine ⟨.pr e a b, ?_, oka, okb⟩
                      show x :: ts = (("(" : Str) :: (a.toks ++ sgS e :: (b.toks ++ [(")" : Str)]))) ++ r4
                      rw [ea, eb, hp, hc, sgB_of h2]; simp
                    · rw [if_neg hc] at h; cases h
        · rw [pW_name hs hp] at h
          by_cases hn : nameB x = true
          · rw [if_pos hn] at h
            cases h
            exact ⟨.nm x, rfl, name_of hn⟩
          · rw [if_neg hn] at h; cases h
/-! ### what can be counted in a line that is read -/
def mks : List (List Nat) := [[40], [41], [38], [124], [45]]
def nmc (ts : List (List Nat)) : Nat := ts.countP fun w => !mks.contains w
def Tk.prs : Tk → Nat
  | .nm _ => 0
  | .pr _ l r => l.prs + r.prs + 1
  | .ng t => t.prs
def cdT (t : Tk) : List (List Nat) := t.toks.map fun s => s.cps.toList
theorem cdT_pr (e : Bool) (l r : Tk) : cdT (.pr e l r) = [40] :: (cdT l ++ [sgN e] :: (cdT r ++ [[41]])) := by
  show (("(" : Str) :: (l.toks ++ sgS e :: (r.toks ++ [(")" : Str)]))).map (fun s => s.cps.toList) = _
  simp only [List.map_cons, List.map_append, List.map_nil, sgS_list]; rfl
theorem cdT_ng (t : Tk) : cdT (.ng t) = [45] :: cdT t := rfl
def okC (c : Nat) : Prop := c = 40 ∨ c = 41 ∨ c = 38 ∨ c = 124 ∨ c = 45 ∨ (97 ≤ c ∧ c ≤ 122)
theorem cnt_name {n : Str} (h : NameOk n) {c : Nat} (hc : c < 97 ∨ 122 < c) : n.cps.toList.count c = 0 := by
  rw [List.count_eq_zero]
  intro z
  have := h.2.2 c z
  omega
theorem tk_counts : ∀ {t : Tk}, t.ok → (cdT t).flatten.count 40 = t.prs ∧ (cdT t).flatten.count 41 = t.prs ∧ (cdT t).flatten.count 38 + (cdT t).flatten.count 124 = t.prs ∧ nmc (cdT t) = t.prs + 1 ∧ (∀ c ∈ (cdT t).flatten, okC c) ∧ ∀ w ∈ cdT t, w.length ≤ 8
  | .nm n, h => by
    have h : NameOk n := h
    have e : (cdT (.nm n)).flatten = n.cps.toList := by show [n.cps.toList].flatten = _; simp
    rw [e, cnt_name h (by omega), cnt_name h (by omega), cnt_name h (by omega), cnt_name h (by omega)]
    refine ⟨rfl, rfl, rfl, ?_, fun c hc => ?_, fun w hw => ?_⟩
    · show [n.cps.toList].countP (fun w => !mks.contains w) = 1
      have : mks.contains n.cps.toList = false := by
        cases hh : mks.contains n.cps.toList with
        | false => rfl
        | true =>
          exfalso
          have hm : n.cps.toList ∈ mks := by simpa using hh
          have hl := h.2.2
          simp only [mks, List.mem_cons, List.not_mem_nil, or_false] at hm
          rcases hm with e | e | e | e | e <;> (rw [e] at hl; have := hl _ (List.mem_singleton.mpr rfl); omega)
      rw [List.countP_cons, this]; rfl
    · have := h.2.2 c hc
      exact .inr (.inr (.inr (.inr (.inr this))))
    · have : w = n.cps.toList := List.mem_singleton.mp hw
      rw [this, Txs.len_list]; exact h.2.1
  | .pr e l r, h => by
    obtain ⟨a1, a2, a3, a4, a5, a6⟩ := tk_counts (t := l) h.1
    obtain ⟨b1, b2, b3, b4, b5, b6⟩ := tk_counts (t := r) h.2
    have ef : (cdT (.pr e l r)).flatten = 40 :: ((cdT l).flatten ++ sgN e :: ((cdT r).flatten ++ [41])) := by rw [cdT_pr]; simp
    have sn : sgN e = 38 ∨ sgN e = 124 := by cases e; exact .inl rfl; exact .inr rfl
    rw [ef]
    have hp : Tk.prs (.pr e l r) = l.prs + r.prs + 1 := rfl
    rw [hp]
    refine ⟨?_, ?_, ?_, ?_, ?_, ?_⟩
    · rcases sn with s | s <;> (rw [s]; simp [List.count_cons, List.count_append, a1, b1])
    · rcases sn with s | s <;> (rw [s]; simp [List.count_cons, List.count_append, a2, b2]; try omega)
    · rcases sn with s | s <;> (rw [s]; simp [List.count_cons, List.count_append]; omega)
    · rw [cdT_pr]
      unfold nmc at a4 b4 ⊢
      have k1 : mks.contains [40] = true := by decide
      have k2 : mks.contains [41] = true := by decide
      have k3 : mks.contains [sgN e] = true := by rcases sn with s | s <;> (rw [s]; decide)
      simp only [List.countP_cons, List.countP_append, List.countP_nil, a4, b4, k1, k2, k3]
      simp; omega
    · intro c hc
      rcases List.mem_cons.mp hc with rfl | hc
      · exact .inl rfl
      · rcases List.mem_append.mp hc with hc | hc
        · exact a5 c hc
        · rcases List.mem_cons.mp hc with rfl | hc
          · rcases sn with s | s
            · exact .inr (.inr (.inl s))
            · exact .inr (.inr (.inr (.inl s)))
          · rcases List.mem_append.mp hc with hc | hc
            · exact b5 c hc
            · exact .inr (.inl (List.mem_singleton.mp hc))
    · intro w hw
      rw [cdT_pr] at hw
      rcases List.mem_cons.mp hw with rfl | hw
      · decide
      · rcases List.mem_append.mp hw with hw | hw
        · exact a6 w hw
        · rcases List.mem_cons.mp hw with rfl | hw
          · show 1 ≤ 8; decide
          · rcases List.mem_append.mp hw with hw | hw
            · exact b6 w hw
            · rw [List.mem_singleton.mp hw]; decide
  | .ng t, h => by
    obtain ⟨a1, a2, a3, a4, a5, a6⟩ := tk_counts (t := t) h
    have ef : (cdT (.ng t)).flatten = 45 :: (cdT t).flatten := by rw [cdT_ng]; simp
    rw [ef]
    have hp : Tk.prs (.ng t) = t.prs := rfl
    rw [hp]
    refine ⟨by simp [List.count_cons, a1], by simp [List.count_cons, a2], by simp [List.count_cons, a3], ?_, ?_, ?_⟩
    · rw [cdT_ng]; unfold nmc at a4 ⊢; rw [List.countP_cons, a4, show mks.contains [45] = true by decide]; rfl
    · intro c hc
      rcases List.mem_cons.mp hc with rfl | hc
      · exact .inr (.inr (.inr (.inr (.inl rfl))))
      · exact a5 c hc
    · intro w hw
      rw [cdT_ng] at hw
      rcases List.mem_cons.mp hw with rfl | hw
      · decide
      · exact a6 w hw
/-! signs and tokens -/
theorem spl_flat (c : Nat) : ∀ l : List Nat, (Txs.spl c l).flatten = l.filter fun d => decide (d ≠ c)
  | [] => rfl
  | d :: r => by
    have ih := spl_flat c r
    by_cases e : d = c
    · rw [Txs.spl_yes e, List.filter_cons, if_neg (by simp [e]), List.flatten_cons, ih]; rfl
    · obtain ⟨h, t, q⟩ := Txs.spl_ex c r
      rw [Txs.spl_no e q, List.filter_cons, if_pos (by simp [e]), ← ih, q]; rfl
theorem wds_flat (l : List Nat) : (Txs.wds l).flatten = l.filter fun d => decide (d ≠ 32) := by
  rw [← spl_flat 32 l]
  unfold Txs.wds
  generalize Txs.spl 32 l = ls
  induction ls with
  | nil => rfl
  | cons w r ih =>
    cases w with
    | nil => rw [List.filter_cons]; simpa using ih
    | cons a w' => rw [List.filter_cons]; simpa using ih
theorem spr_filt : ∀ l : List Nat, (Txs.spr msL l).filter (fun d => decide (d ≠ 32)) = l.filter fun d => decide (d ≠ 32)
  | [] => rfl
  | d :: r => by
    rw [spr_cons, List.filter_append, spr_filt r, List.filter_cons]
    by_cases hm : d ∈ msL
    · rw [if_pos hm]
      have h32 : d ≠ 32 := by intro z; rw [z, msL_eq] at hm; revert hm; decide
      simp [h32]
    · rw [if_neg hm]
      by_cases h32 : d = 32
      · simp [h32]
      · simp [h32]
theorem tok_flat (l : List Nat) : (tok l).flatten = l.filter fun d => decide (d ≠ 32) := by
  unfold tok; rw [wds_flat, spr_filt]
theorem cnt_tok (l : List Nat) {c : Nat} (hc : c ≠ 32) : (tok l).flatten.count c = l.count c := by
  rw [tok_flat, List.count_filter (by simpa using hc)]
structure Fit (l : List Nat) : Prop where
  op : l.count 41 = l.count 40
  md : l.count 38 + l.count 124 = l.count 40
  nm : nmc (tok l) = l.count 40 + 1
  ch : ∀ c ∈ l, c = 32 ∨ okC c
  sh : ∀ w ∈ tok l, w.length ≤ 8
theorem fit_tk {l : List Nat} {t : Tk} (e : tok l = cdT t) (h : t.ok) : Fit l := by
  obtain ⟨a1, a2, a3, a4, a5, a6⟩ := tk_counts h
  rw [← e] at a1 a2 a3 a4 a5 a6
  rw [cnt_tok l (by decide)] at a1 a2
  rw [cnt_tok l (by decide), cnt_tok l (by decide)] at a3
  refine ⟨by rw [a1, a2], by rw [a3, a1], by rw [a4, a1], fun c hc => ?_, a6⟩
  by_cases h32 : c = 32
  · exact .inl h32
  · refine .inr (a5 c ?_)
    rw [tok_flat, List.mem_filter]
    exact ⟨hc, by simpa using h32⟩
theorem tokS_tok (z : Str) : tokS z = (tok z.cps.toList).map mkS := rfl
theorem tok_of_S (z : Str) : (tokS z).map (fun s => s.cps.toList) = tok z.cps.toList := by
  rw [tokS_tok, List.map_map]
  conv => rhs; rw [← List.map_id (tok z.cps.toList)]
  apply List.map_congr_left
  intro a _
  show a.toArray.toList = a
  simp
/-- what is read fits -/
theorem fit_read {z : Str} {n : Nat} {wd : Wd} (h : pW n (tokS z) = some (wd, [])) : Fit z.cps.toList := by
  obtain ⟨t, et, ok⟩ := pW_tk _ _ _ _ h
  rw [List.append_nil] at et
  refine fit_tk (t := t) ?_ ok
  rw [← tok_of_S, et]; rfl
theorem fit_cl {w : Wd} (h : w.ok) : Fit (cl w) := fit_tk (t := tkOf w) (tok_cl h) (tkOf_ok h)
theorem read_shw {w : Wd} (h : w.ok) (hd : w.depth ≤ 60) : pW 60 (tokS (shw w)) = some (w, []) := by
  have := pW_of (tkOf w) 60 [] (by rw [tkOf_dep]; exact hd) (tkOf_ok h)
  rw [List.append_nil, tkOf_val] at this
  rw [tok_shw h, this]
/-! a run of nine letters -/
end L3

namespace L3
open PySem L2 Words
local macro_rules | `(tactic| walk_at "w") => `(tactic| conv => whnf)
/-! ### refused -/
/-! ### slices -/
theorem small9 {n : Nat} (h : n ≤ 20000) : n ≤ sizeLine := Nat.le_trans h (by decide)
/-! ### a sign less -/
/-- one of a list's places, by a number -/
theorem pick_mod {α : Type} {xs : List α} (h : xs ≠ []) (k : Int) : ∃ (j : Nat) (x : α), x ∈ xs ∧ k % (xs.length : Int) = (j : Int) ∧ xs[j]? = some x := by
  have hl : 0 < xs.length := List.length_pos_iff.mpr h
  have h0 : 0 ≤ k % (xs.length : Int) := Int.emod_nonneg _ (by omega)
  have h1 : k % (xs.length : Int) < xs.length := Int.emod_lt_of_pos _ (by omega)
  obtain ⟨j, ej⟩ : ∃ j : Nat, k % (xs.length : Int) = (j : Int) := ⟨(k % (xs.length : Int)).toNat, by omega⟩
  have hj : j < xs.length := by omega
  exact ⟨j, xs[j], List.getElem_mem hj, ej, List.getElem?_eq_getElem hj⟩
/-! ### deep texts -/
theorem mulL_front (z : Str) (m : Nat) : mulL z (m + 1) = z.cps.toList ++ mulL z m := by unfold mulL; rw [List.replicate_succ, List.flatten_cons]
theorem mulS_list (z : Str) (m : Nat) : (mulS z m).cps.toList = mulL z m := by show (mulL z m).toArray.toList = _; simp
/-! ### spoilt lines -/
theorem all128 {z : Str} {l : List Nat} (e : z.cps.toList = l) (h : ∀ c ∈ l, c < 128) : z.cps.all (· < 128) = true := by
  rw [← Array.all_toList, List.all_eq_true, e]
  intro c hc
  exact decide_eq_true (h c hc)
theorem okC_low {c : Nat} (h : c = 32 ∨ okC c) : c < 128 := by unfold okC at h; omega
theorem nf_open {l : List Nat} (F : Fit l) : ¬ Fit (40 :: l) := fun G => by
  have h1 := F.op; have h2 := G.op
  simp [List.count_cons] at h2; omega
theorem nf_more {l g : List Nat} (F : Fit l) (hg : g = (40 :: l) ++ [41] ∨ g = (l ++ [32, 38, 32]) ++ l ∨ g = (40 :: l) ++ [32, 124, 32, 113, 32, 38, 32, 113, 41] ∨ g = (45 :: 40 :: l) ++ [41]) : ¬ Fit g := fun G => by
  have h3 := F.md; have h4 := G.md
  rcases hg with rfl | rfl | rfl | rfl <;> simp [List.count_append, List.count_cons] at h4 <;> omega
end L3

namespace L3
open PySem L2 Words
/-! ### rows as texts -/
abbrev bl (n : Nat) : List Nat := List.replicate n 32
def rd (p : List Nat) : Option Wd := match pW 60 (tokS (mkS p)) with
  | some (w, []) => some w
  | _ => none
def rdAll : List (List Nat) → Option (List Wd)
  | [] => some []
  | p :: r => match rd p with
    | none => none
    | some w => (rdAll r).map (w :: ·)
theorem rd_yes {p : List Nat} {w : Wd} (h : pW 60 (tokS (mkS p)) = some (w, [])) : rd p = some w := by unfold rd; rw [h]
theorem rd_inv {p : List Nat} {w : Wd} (h : rd p = some w) : pW 60 (tokS (mkS p)) = some (w, []) := by
  unfold rd at h
  split at h
  · cases h; assumption
  · cases h
theorem rd_no {p : List Nat} (h : ∀ w, pW 60 (tokS (mkS p)) ≠ some (w, [])) : rd p = none := by
  cases e : rd p with
  | none => rfl
  | some w => exact absurd (rd_inv e) (h w)
theorem rdAll_app : ∀ a b : List (List Nat), rdAll (a ++ b) = match rdAll a with
    | none => none
    | some u => (rdAll b).map (u ++ ·)
  | [], b => by show rdAll b = (rdAll b).map ([] ++ ·); cases rdAll b <;> rfl
  | p :: r, b => by
    show (match rd p with | none => none | some w => (rdAll (r ++ b)).map (w :: ·)) = _
    rw [rdAll_app r b]
    show _ = match (match rd p with | none => none | some w => (rdAll r).map (w :: ·)) with | none => none | some u => (rdAll b).map (u ++ ·)
    cases rd p with
    | none => rfl
    | some w =>
      cases rdAll r with
      | none => rfl
      | some u => cases rdAll b <;> rfl
theorem rdAll_none {a b : List (List Nat)} (h : rdAll a = none) : rdAll (a ++ b) = none := by rw [rdAll_app, h]
theorem rdAll_none' {a b : List (List Nat)} (h : rdAll b = none) : rdAll (a ++ b) = none := by
  rw [rdAll_app, h]; cases rdAll a <;> rfl
theorem rdAll_some {a b : List (List Nat)} {u v : List Wd} (h : rdAll a = some u) (k : rdAll b = some v) : rdAll (a ++ b) = some (u ++ v) := by rw [rdAll_app, h, k]; rfl
theorem rdAll_one (p : List Nat) : rdAll [p] = (rd p).map fun w => [w] := by
  show (match rd p with | none => none | some w => (some []).map (w :: ·)) = _
  cases rd p <;> rfl
theorem tok_front : ∀ (n : Nat) (l : List Nat), tok (bl n ++ l) = tok l
  | 0, _ => rfl
  | n + 1, l => by
    have := tok_sp [] (bl n ++ l)
    rw [List.nil_append, tok_nil, List.nil_append, tok_front n l] at this
    rw [show bl (n + 1) ++ l = 32 :: (bl n ++ l) from rfl, this]
theorem tok_bl (n : Nat) : tok (bl n) = [] := by have := tok_front n []; rw [List.append_nil, tok_nil] at this; exact this
theorem tok_back (n : Nat) (l : List Nat) : tok (l ++ bl n) = tok l := by
  cases n with
  | zero => rw [show bl 0 = [] from rfl, List.append_nil]
  | succ n => rw [show l ++ bl (n + 1) = l ++ 32 :: bl n from rfl, tok_sp, tok_bl, List.append_nil]
theorem tok_pad (n m : Nat) (l : List Nat) : tok (bl n ++ l ++ bl m) = tok l := by rw [tok_back, tok_front]
theorem tokS_mk (l : List Nat) : tokS (mkS l) = (tok l).map mkS := by
  rw [tokS_tok]
  have : (mkS l).cps.toList = l := by show l.toArray.toList = l; simp
  rw [this]
theorem tokS_of {l m : List Nat} (h : tok l = tok m) : tokS (mkS l) = tokS (mkS m) := by rw [tokS_mk, tokS_mk, h]
theorem rd_word {w : Wd} (h : w.ok) (hd : w.depth ≤ 60) (n m : Nat) : rd (bl n ++ cl w ++ bl m) = some w := by
  refine rd_yes ?_
  rw [tokS_of (tok_pad n m (cl w))]
  exact read_shw h hd
theorem rd_blank (n : Nat) : rd (bl n) = none := by
  refine rd_no fun w => ?_
  rw [tokS_mk, tok_bl]
  rw [List.map_nil, pW_end rfl]
  intro h; cases h
theorem rd_unfit {l : List Nat} (h : ¬ Fit l) (n m : Nat) : rd (bl n ++ l ++ bl m) = none := by
  refine rd_no fun w e => h ?_
  rw [tokS_of (tok_pad n m l)] at e
  have := fit_read e
  have e2 : (mkS l).cps.toList = l := by show l.toArray.toList = l; simp
  rw [e2] at this; exact this
theorem rd_rest {w : Wd} (h : w.ok) (hd : w.depth ≤ 60) {l : List Nat} {r : List (List Nat)} (e : tok l = tok (cl w) ++ r) (hr : r ≠ []) (n m : Nat) : rd (bl n ++ l ++ bl m) = none := by
  refine rd_no fun w' q => ?_
  rw [tokS_of (tok_pad n m l), tokS_mk, e, List.map_append] at q
  have e1 : (tok (cl w)).map mkS = (tkOf w).toks := by
    have := tok_shw h
    rw [show shw w = mkS (cl w) from rfl, tokS_mk] at this
    exact this
  rw [e1, pW_of (tkOf w) 60 _ (by rw [tkOf_dep]; exact hd) (tkOf_ok h)] at q
  have q2 := (Prod.mk.inj (Option.some.inj q)).2
  exact hr (List.map_eq_nil_iff.mp q2)
/-! the row -/
theorem gl_cons2 (z p q : List Nat) (r : List (List Nat)) : Txs.gl z (p :: q :: r) = p ++ (z ++ Txs.gl z (q :: r)) := by
  show p ++ (q :: r).flatMap (fun q => z ++ q) = p ++ (z ++ (q ++ r.flatMap fun q => z ++ q))
  rw [List.flatMap_cons, List.append_assoc]
theorem no44_bl (n : Nat) : 44 ∉ bl n := by
  intro h; have := List.eq_of_mem_replicate h; omega
theorem no44_cl {w : Wd} (h : w.ok) : 44 ∉ cl w := by
  intro m; rcases (fit_cl h).ch 44 m with e | e
  · omega
  · unfold okC at e; omega
theorem spl_row (n n1 n2 : Nat) (p q : List Nat) (r : List (List Nat)) : Txs.spl 44 (bl n ++ Txs.gl (bl n1 ++ 44 :: bl n2) (p :: q :: r)) = Txs.spl 44 (bl n ++ p ++ bl n1) ++ Txs.spl 44 (bl n2 ++ Txs.gl (bl n1 ++ 44 :: bl n2) (q :: r)) := by
  rw [gl_cons2, ← Txs.spl_app]
  congr 1
  simp [List.append_assoc]
theorem gl_one (z p : List Nat) : Txs.gl z [p] = p := by show p ++ ([] : List (List Nat)).flatMap _ = p; simp
theorem spl_pad {l : List Nat} (h : 44 ∉ l) (n m : Nat) : Txs.spl 44 (bl n ++ l ++ bl m) = [bl n ++ l ++ bl m] := by
  refine Txs.spl_one fun z => ?_
  rcases List.mem_append.mp z with z | z
  · rcases List.mem_append.mp z with z | z
    · exact no44_bl n z
    · exact h z
  · exact no44_bl m z
theorem row_read (n1 n2 : Nat) : ∀ (ws : List Wd) (n : Nat), ws ≠ [] → (∀ w ∈ ws, w.ok ∧ w.depth ≤ 60) → rdAll (Txs.spl 44 (bl n ++ Txs.gl (bl n1 ++ 44 :: bl n2) (ws.map cl))) = some ws
  | [], _, h, _ => absurd rfl h
  | [w], n, _, h => by
    obtain ⟨ok, hd⟩ := h w (List.mem_cons_self ..)
    have e := spl_pad (no44_cl ok) n 0
    have e2 := rd_word ok hd n 0
    rw [show bl 0 = [] from rfl, List.append_nil] at e e2
    rw [List.map_cons, List.map_nil, gl_one, e, rdAll_one, e2]; rfl
  | w :: w' :: r, n, _, h => by
    obtain ⟨ok, hd⟩ := h w (List.mem_cons_self ..)
    rw [List.map_cons, List.map_cons, spl_row, spl_pad (no44_cl ok) n n1]
    have ih := row_read n1 n2 (w' :: r) n2 (by simp) fun v hv => h v (List.mem_cons_of_mem _ hv)
    rw [List.map_cons] at ih
    exact rdAll_some (u := [w]) (by rw [rdAll_one, rd_word ok hd]; rfl) ih
/-- a line that spoils the row -/
def Bad (l : List Nat) : Prop := ∀ n m, rdAll (Txs.spl 44 (bl n ++ l ++ bl m)) = none
theorem row_bad (n1 n2 : Nat) {b : List Nat} (hb : Bad b) (B : List (List Nat)) : ∀ (ws : List Wd) (n : Nat), rdAll (Txs.spl 44 (bl n ++ Txs.gl (bl n1 ++ 44 :: bl n2) (ws.map cl ++ b :: B))) = none
  | [], n => by
    rw [List.map_nil, List.nil_append]
    cases B with
    | nil =>
      have := hb n 0
      rw [show bl 0 = [] from rfl, List.append_nil] at this
      rw [gl_one]; exact this
    | cons q r => rw [spl_row]; exact rdAll_none (hb n n1)
  | w :: ws, n => by
    have ih := row_bad n1 n2 hb B ws n2
    rw [List.map_cons, List.cons_append]
    cases e : ws.map cl ++ b :: B with
    | nil => simp at e
    | cons q r => rw [spl_row]; rw [e] at ih; exact rdAll_none' ih
theorem bad_one {l : List Nat} (h : 44 ∉ l) (k : ∀ n m, rd (bl n ++ l ++ bl m) = none) : Bad l := fun n m => by rw [spl_pad h, rdAll_one, k]; rfl
theorem bad_blank (k : Nat) : Bad (bl k) := bad_one (no44_bl k) fun n m => by
  rw [List.replicate_append_replicate, List.replicate_append_replicate]; exact rd_blank _
theorem bad_unfit {l : List Nat} (h : 44 ∉ l) (k : ¬ Fit l) : Bad l := bad_one h (rd_unfit k)
theorem bad_rest {w : Wd} (h : w.ok) (hd : w.depth ≤ 60) {l : List Nat} {r : List (List Nat)} (h44 : 44 ∉ l) (e : tok l = tok (cl w) ++ r) (hr : r ≠ []) : Bad l := bad_one h44 (rd_rest h hd e hr)
theorem bad_comma {w : Wd} (h : w.ok) : Bad (cl w ++ [44]) := fun n m => by
  have e : bl n ++ (cl w ++ [44]) ++ bl m = (bl n ++ cl w) ++ 44 :: bl m := by simp
  rw [e, Txs.spl_app]
  refine rdAll_none' ?_
  rw [Txs.spl_one (no44_bl m), rdAll_one, rd_blank]; rfl
/-- the seven ways -/
def spoil (i : Nat) (l : List Nat) : List Nat := match i with
  | 0 => []
  | 1 => [32, 32]
  | 2 => 40 :: l
  | 3 => l ++ [44]
  | 4 => l ++ [32, 45]
  | 5 => 40 :: (l ++ [41])
  | _ => l ++ [32, 124, 32, 113]
theorem spoil_bad {w : Wd} (h : w.ok) (hd : w.depth ≤ 60) (i : Nat) : Bad (spoil i (cl w)) := by
  have n44 := no44_cl h
  have F := fit_cl h
  match i with
  | 0 => exact bad_blank 0
  | 1 => exact bad_blank 2
  | 2 => exact bad_unfit (by intro z; rcases List.mem_cons.mp z with e | e; omega; exact n44 e) (nf_open F)
  | 3 => exact bad_comma h
  | 4 =>
    refine bad_rest h hd (r := [[45]]) ?_ ?_ (by simp)
    · intro z; rcases List.mem_append.mp z with e | e
      · exact n44 e
      · simp at e
    · show tok (cl w ++ 32 :: [45]) = _
      rw [tok_sp]
      have : tok [45] = [[45]] := by decide +kernel
      rw [this]
  | 5 =>
    refine bad_unfit ?_ (nf_more F (.inl (by simp [spoil])))
    intro z
    rcases List.mem_cons.mp z with e | e
    · omega
    · rcases List.mem_append.mp e with e | e
      · exact n44 e
      · simp at e
  | k + 6 =>
    refine bad_rest h hd (r := [[124], [113]]) ?_ ?_ (by simp)
    · intro z; rcases List.mem_append.mp z with e | e
      · exact n44 e
      · have e : 44 ∈ [32, 124, 32, 113] := e
        simp at e
    · show tok (cl w ++ 32 :: [124, 32, 113]) = _
      rw [tok_sp]
      have : tok [124, 32, 113] = [[124], [113]] := by decide +kernel
      rw [this]
theorem spoil_len (i : Nat) (l : List Nat) : (spoil i l).length ≤ l.length + 4 := by
  match i with
  | 0 => simp [spoil]
  | 1 => simp [spoil]
  | 2 => simp [spoil]
  | 3 => simp [spoil]
  | 4 => simp [spoil]
  | 5 => simp [spoil]
  | k + 6 => simp [spoil]
theorem spoil_low {i : Nat} {l : List Nat} (h : ∀ c ∈ l, c < 128) : ∀ c ∈ spoil i l, c < 128 := by
  intro c hc
  match i with
  | 0 => simp [spoil] at hc
  | 1 => simp [spoil] at hc; omega
  | 2 => rcases List.mem_cons.mp hc with e | e; omega; exact h c e
  | 3 => rcases List.mem_append.mp hc with e | e; exact h c e; (simp at e; omega)
  | 4 => rcases List.mem_append.mp hc with e | e; exact h c e; (simp at e; omega)
  | 5 =>
    rcases List.mem_cons.mp hc with e | e
    · omega
    · rcases List.mem_append.mp e with e | e
      · exact h c e
      · simp at e; omega
  | k + 6 =>
    have hc : c ∈ l ++ [32, 124, 32, 113] := hc
    rcases List.mem_append.mp hc with e | e
    · exact h c e
    · simp at e; omega
/-! lengths and signs -/
theorem gl_len (z : List Nat) (M : Nat) : ∀ ls : List (List Nat), (∀ l ∈ ls, l.length ≤ M) → (Txs.gl z ls).length ≤ ls.length * (M + z.length)
  | [], _ => by simp [Txs.gl]
  | [p], h => by
    have := h p (List.mem_cons_self ..)
    rw [gl_one]; simp; omega
  | p :: q :: r, h => by
    have h1 := h p (List.mem_cons_self ..)
    have ih := gl_len z M (q :: r) fun l hl => h l (List.mem_cons_of_mem _ hl)
    rw [gl_cons2, List.length_append, List.length_append, List.length_cons, Nat.succ_mul]
    omega
theorem gl_mem {z : List Nat} {c : Nat} : ∀ {ls : List (List Nat)}, c ∈ Txs.gl z ls → c ∈ z ∨ ∃ l ∈ ls, c ∈ l
  | [], h => by simp [Txs.gl] at h
  | [p], h => by rw [gl_one] at h; exact .inr ⟨p, List.mem_cons_self .., h⟩
  | p :: q :: r, h => by
    rw [gl_cons2] at h
    rcases List.mem_append.mp h with h | h
    · exact .inr ⟨p, List.mem_cons_self .., h⟩
    · rcases List.mem_append.mp h with h | h
      · exact .inl h
      · rcases gl_mem h with h | ⟨l, hl, h⟩
        · exact .inl h
        · exact .inr ⟨l, List.mem_cons_of_mem _ hl, h⟩
theorem parts_short (n1 n2 M : Nat) : ∀ (ls : List (List Nat)) (n : Nat), n ≤ n2 → (∀ l ∈ ls, l.length ≤ M) → ∀ p ∈ Txs.spl 44 (bl n ++ Txs.gl (bl n1 ++ 44 :: bl n2) ls), p.length ≤ M + n1 + n2
  | [], n, hn, _, p, hp => by
    have := (spl_mem _ _ _ hp).2
    simp [Txs.gl] at this
    omega
  | [l], n, hn, h, p, hp => by
    rw [gl_one] at hp
    have := (spl_mem _ _ _ hp).2
    have h1 := h l (List.mem_cons_self ..)
    simp at this
    omega
  | l :: q :: r, n, hn, h, p, hp => by
    rw [spl_row] at hp
    rcases List.mem_append.mp hp with hp | hp
    · have := (spl_mem _ _ _ hp).2
      have h1 := h l (List.mem_cons_self ..)
      simp at this
      omega
    · exact parts_short n1 n2 M (q :: r) n2 (Nat.le_refl _) (fun x hx => h x (List.mem_cons_of_mem _ hx)) p hp
end L3

namespace L3
open PySem L2 Words
local macro_rules | `(tactic| walk_at "w") => `(tactic| conv => whnf)
def t_shownrow (p_shown_word : Sp3) : TS3 := (yRet (yBS yJoin (yC (.str ", ")) (yCons (yLC 1 (iyList (yVar 0)) (gyName 1) yYes (yCall p_shown_word (yCons (yVar 1) yNil))) yNil)))
def t_readrow (E3 : X3) (p_read_word : Sp3X) : TS3 := (yRet (yLC 1 (iyList (yBS ySplit (yVar 0) (yCons (yC (.str ",")) yNil))) (gyName 1) yYes (yCallX p_read_word E3 (yCons (yVar 1) yNil))))
def t_runs : TS3 := (ySeq (yAsg (yLst (yCons (yLst yNil) yNil)) (gyName 1))
  (ySeq (yFor (iyList (yVar 0)) (gyName 2) (ySeqJ (yIfS (yAnd (yB (yOp (yEq false) (yOp yMod (yVar 2) (yC (.int 4))) (yC (.int 1)))) (yB (yOp yLt (yCB yLen (yCons (yVar 1) yNil)) (yC (.int 12))))) (yDrop (yBL yAppend (yVar 1) (yCons (yLst yNil) yNil))) yNext)
  (yDrop (yBL yAppend (yOp yIx (yVar 1) (yUn yNeg (yC (.int 1)))) (yCons (yOp yFdiv (yVar 2) (yC (.int 4))) yNil)))))
  (yRet (yVar 1))))
def t_refused6 (K : PySem.W.Frag) (C_NoWord : Addr) (p_read_row : Sp3X) : TS3 := (ySeq (yAsg (yC .non) (gyName 1))
  (ySeq (yTry K C_NoWord 2 (fun E3 => yDrop (yCallX p_read_row E3 (yCons (yVar 0) yNil))) (yAsg (yVar 2) (gyName 1)))
  (yRet (yInstX K (.type "ValueError") (yVar 1)))))
theorem mkS_list (l : List Nat) : (mkS l).cps.toList = l := by show l.toArray.toList = l; simp
theorem mkS_len (l : List Nat) : (mkS l).length = l.length := by rw [← Txs.len_list, mkS_list]
theorem join_gl (z : Str) (ls : List (List Nat)) : Txt.join z (ls.map mkS) = mkS (Txs.gl z.cps.toList ls) := by
  refine str_list ?_
  rw [mkS_list]
  show (Builtin.Str.glued z (ls.map mkS)).cps.toList = _
  rw [Txs.glued_list, List.map_map]
  congr 1
  conv => rhs; rw [← List.map_id ls]
  exact List.map_congr_left fun l _ => mkS_list l
theorem sum_le {α : Type} (f : α → Nat) (M : Nat) : ∀ l : List α, (∀ x ∈ l, f x ≤ M) → (l.map f).sum ≤ l.length * M
  | [], _ => by simp
  | x :: r, h => by
    have h1 := h x (List.mem_cons_self ..)
    have ih := sum_le f M r fun y hy => h y (List.mem_cons_of_mem _ hy)
    rw [List.map_cons, List.sum_cons, List.length_cons, Nat.succ_mul]; omega
structure WOk (w : Wd) : Prop where
  ok : w.ok
  dep : w.depth ≤ 38
  lv : w.leaves ≤ 63
theorem WOk.len {w : Wd} (h : WOk w) : (cl w).length ≤ 900 := by have := cl_len h.ok; have := h.lv; omega
theorem WOk.low {w : Wd} (h : WOk w) : ∀ c ∈ cl w, c < 128 := fun c hc => okC_low ((fit_cl h.ok).ch c hc)
theorem shw_map (ws : List Wd) : ws.map shw = (ws.map cl).map mkS := by rw [List.map_map]; rfl
/-! ### shown_row -/
def sp_shownrow : Sp3 := fun ys L Q => ∃ a, ∃ ws : List Wd, ys = [.ref a] ∧ L a = some (.lst (ws.map encY)) ∧ ws.length ≤ 12 ∧ (∀ w ∈ ws, WOk w) ∧ Q (.str (mkS (Txs.gl [44, 32] (ws.map cl)))) L
theorem join_ok {ls : List (List Nat)} {M m : Nat} (h : ∀ l ∈ ls, l.length ≤ 1000) (h12 : ls.length ≤ 12) (hm : m ≤ 10) : ((ls.map mkS).map (·.length)).sum + (ls.map mkS).length * m ≤ 16777216 := by
  have e : (ls.map mkS).map (·.length) = ls.map List.length := by
    rw [List.map_map]; exact List.map_congr_left fun l _ => mkS_len l
  rw [e, List.length_map]
  have := sum_le List.length 1000 ls h
  have h2 : ls.length * 1000 ≤ 12000 := by omega
  have h3 : ls.length * m ≤ 12 * 10 := Nat.mul_le_mul h12 hm
  omega
theorem vc_shownrow : ∀ ys L Q, sp_shownrow ys L Q → run3 (t_shownrow (sp_shown 63)) 1 ys L Q := by
  rintro ys L Q ⟨a, ws, rfl, ha, h12, hw, q⟩
  refine lisK_of ha fun keep kp => lc_inv (fun i zs => zs = ((ws.take i).map shw).map Y.str) (by rw [List.length_map]; exact Nat.lt_of_le_of_lt h12 (by decide)) (kp L rfl) rfl ?_ ?_
  · rintro i y _ ey rfl
    obtain ⟨w, ew, rfl⟩ : ∃ w, ws[i]? = some w ∧ y = encY w := by
      rw [List.getElem?_map] at ey
      obtain ⟨w, e1, e2⟩ := Option.map_eq_some_iff.mp ey
      exact ⟨w, e1, e2.symm⟩
    have hk := hw w (List.mem_of_getElem? ew)
    refine ⟨w, rfl, by have := hk.dep; omega, hk.lv, hk.ok, frg ⟨rfl, ?_⟩⟩
    rw [List.take_succ, ew]; simp
  · rintro _ rfl p hp
    rw [List.length_map, List.take_length]
    refine lstK_of updL_same ⟨ws.map shw, rfl, ?_, finS (LSub.new hp) ?_⟩
    · rw [shw_map]
      exact join_ok (M := 0) (fun l hl => by obtain ⟨w, h1, rfl⟩ := List.mem_map.mp hl; have := (hw w h1).len; omega) (by rw [List.length_map]; exact h12) (by decide)
    · rw [shw_map, join_gl]; exact q
/-! ### read_row -/
theorem comma_eq : (("," : Str)) = ⟨#[44]⟩ := by decide +kernel
theorem split44 (y : Str) : Txt.split y "," = (Txs.spl 44 y.cps.toList).map mkS := by
  have h := Txs.split_one y 44 (by decide)
  rw [comma_eq, ← h, List.map_map]
  conv => lhs; rw [← List.map_id (Txt.split y ⟨#[44]⟩)]
  apply List.map_congr_left
  intro a _
  exact (mkS_cps a).symm
structure RowOk (l : List Nat) : Prop where
  len : l.length ≤ 20000
  low : ∀ c ∈ l, c < 128
  short : ∀ p ∈ Txs.spl 44 l, p.length ≤ 10000
def sp_rowX (N : Addr) : Sp3X := fun ys L Q E => ∃ l : List Nat, ys = [.str (mkS l)] ∧ RowOk l ∧ (∀ ws, rdAll (Txs.spl 44 l) = some ws → ∀ p, L p = none → Q (.ref p) (updL L p (.lst (ws.map encY)))) ∧ (rdAll (Txs.spl 44 l) = none → E N L)
theorem spl_many (c : Nat) : ∀ l : List Nat, (Txs.spl c l).length ≤ l.length + 1
  | [] => by simp [Txs.spl]
  | d :: r => by
    have ih := spl_many c r
    by_cases e : d = c
    · rw [Txs.spl_yes e, List.length_cons, List.length_cons]; omega
    · obtain ⟨h, t, q⟩ := Txs.spl_ex c r
      rw [Txs.spl_no e q]
      rw [q] at ih
      rw [List.length_cons] at ih ⊢
      rw [List.length_cons]; omega
theorem vc_readrow {N : Addr} : ∀ ys L Q E, sp_rowX N ys L Q E → run3 (t_readrow (FinX E) (sp_readX N)) 1 ys L Q := by
  rintro ys L Q E ⟨l, rfl, hl, q, ex⟩
  refine ⟨by decide +kernel, by rw [mkS_len]; have := hl.len; omega, fun p hp => ?_⟩
  rw [split44, mkS_list]
  generalize hP : Txs.spl 44 l = ps at q ex
  have hshort := hl.short
  rw [hP] at hshort
  have hmem : ∀ x ∈ ps, ∀ c ∈ x, c < 128 := fun x hx c hc => by
    rw [← hP] at hx
    exact hl.low c ((spl_mem _ _ _ hx).1 c hc).1
  have hmany : ps.length ≤ 20001 := by rw [← hP]; have := spl_many 44 l; have := hl.len; omega
  refine lisK_of updL_same fun keep kp => lc_inv (fun i zs => ∃ ws : List Wd, zs = ws.map encY ∧ rdAll (ps.take i) = some ws) (by rw [List.length_map, List.length_map]; exact Nat.lt_of_le_of_lt hmany (by decide)) (kp _ rfl) ⟨[], rfl, rfl⟩ ?_ ?_
  · rintro i y _ ey ⟨ws, rfl, hws⟩
    obtain ⟨x, ew, rfl⟩ : ∃ x, ps[i]? = some x ∧ y = Y.str (mkS x) := by
      rw [List.getElem?_map, List.getElem?_map] at ey
      obtain ⟨w, e1, e2⟩ := Option.map_eq_some_iff.mp ey
      obtain ⟨x, e3, e4⟩ := Option.map_eq_some_iff.mp e1
      exact ⟨x, e3, by rw [← e2, ← e4]⟩
    have hx := List.mem_of_getElem? ew
    refine ⟨mkS x, rfl, by rw [mkS_len]; exact hshort x hx, all128 (mkS_list x) (hmem x hx), fun wd h => ?_, fun h => ?_⟩
    · refine frg ⟨rfl, ws ++ [wd], by rw [List.map_append]; rfl, ?_⟩
      rw [List.take_succ, ew]
      exact rdAll_some hws (by show rdAll [x] = _; rw [rdAll_one, rd_yes h]; rfl)
    · refine ⟨L, LSub.new hp, ex ?_⟩
      have e : ps = ps.take i ++ x :: ps.drop (i + 1) := by
        have hi := (List.getElem?_eq_some_iff.mp ew).1
        have := List.drop_eq_getElem_cons hi
        rw [(List.getElem?_eq_some_iff.mp ew).2] at this
        rw [← this, List.take_append_drop]
      rw [e]
      refine rdAll_none' ?_
      show rdAll ([x] ++ ps.drop (i + 1)) = none
      exact rdAll_none (by rw [rdAll_one, rd_no h]; rfl)
  · rintro _ ⟨ws, rfl, hws⟩ p2 hp2
    rw [List.length_map, List.length_map, List.take_length] at hws
    exact finS (LSub.put ((LSub.new hp).trans (LSub.new hp2)) updL_same) (q ws hws p2 (none_sub (LSub.new hp) hp2))
/-! ### refused -/
structure XF06 (K : PySem.W.Frag) (N : Addr) : Prop where
  hd : XHd K N
  em : PySem.W.exmOne K (.ref N) (.ref N) = some true
  ve : PySem.W.kitOne K (.ref N) (.type "ValueError") = some true
def sp_refused6 : Sp3 := fun ys L Q => ∃ l : List Nat, ys = [.str (mkS l)] ∧ RowOk l ∧ rdAll (Txs.spl 44 l) = none ∧ Q (.bl true) L
theorem vc_refused6 {K : PySem.W.Frag} {N : Addr} (xf : XF06 K N) : ∀ ys L Q, sp_refused6 ys L Q → run3 (t_refused6 K N (sp_rowX N)) 3 ys L Q := by
  rintro ys L Q ⟨l, rfl, hl, hn, q⟩
  refine ⟨l, rfl, hl, (fun ws h => by rw [hn] at h; cases h), fun _ => ⟨xf.em, fun a ha => ?_⟩⟩
  refine excK_of updL_same ⟨xf.hd, true, xf.ve, ?_⟩
  exact finS (LSub.new ha) q
/-! ### runs -/
abbrev refsY (rm : List (Addr × List Int)) : List Y := rm.map fun x => Y.ref x.1
structure RunI (L : LHp) (p : Addr) (i : Nat) (rm : List (Addr × List Int)) (L' : LHp) : Prop where
  at_ : L' p = some (.lst (refsY rm))
  it : ∀ x ∈ rm, L' x.1 = some (.lst (x.2.map Y.int))
  new : ∀ x ∈ rm, L x.1 = none
  ne : ∀ x ∈ rm, x.1 ≠ p
  nd : (rm.map fun x => x.1).Nodup
  len : ∀ x ∈ rm, x.2.length ≤ i
  lo : rm ≠ []
  hi : rm.length ≤ 12
  np : L p = none
  sub : LSub L L'
theorem RunI.more {L L' : LHp} {p r : Addr} {i : Nat} {rm : List (Addr × List Int)} (h : RunI L p i rm L') (h12 : rm.length < 12) (hr : L' r = none) : RunI L p i (rm ++ [(r, [])]) (updL (updL L' r (.lst [])) p (.lst (refsY rm ++ [.ref r]))) := by
  have hrp : r ≠ p := fun e => by rw [e, h.at_] at hr; cases hr
  have nr : L r = none := none_sub h.sub hr
  have old : ∀ x ∈ rm, x.1 ≠ r := fun x hx e => by have := h.it x hx; rw [e, hr] at this; cases this
  refine ⟨(by rw [updL_same]; simp [refsY]), ?_, ?_, ?_, ?_, ?_, by simp, by rw [List.length_append]; show rm.length + 1 ≤ 12; omega, h.np, (h.sub.upd nr).upd h.np⟩
  · intro x hx
    rcases List.mem_append.mp hx with hx | hx
    · rw [updL_ne (h.ne x hx), updL_ne (old x hx)]; exact h.it x hx
    · cases List.mem_singleton.mp hx
      rw [updL_ne hrp, updL_same]; rfl
  · intro x hx
    rcases List.mem_append.mp hx with hx | hx
    · exact h.new x hx
    · cases List.mem_singleton.mp hx; exact nr
  · intro x hx
    rcases List.mem_append.mp hx with hx | hx
    · exact h.ne x hx
    · cases List.mem_singleton.mp hx; exact hrp
  · rw [List.map_append, List.nodup_append]
    refine ⟨h.nd, by simp, fun a ha b hb e => ?_⟩
    obtain ⟨x, hx, rfl⟩ := List.mem_map.mp ha
    have hb : b = r := by simpa using hb
    exact old x hx (e.trans hb)
  · intro x hx
    rcases List.mem_append.mp hx with hx | hx
    · exact h.len x hx
    · cases List.mem_singleton.mp hx; exact Nat.zero_le _
theorem RunI.push {L L' : LHp} {p r : Addr} {i : Nat} {rm : List (Addr × List Int)} {ms : List Int} (h : RunI L p i (rm ++ [(r, ms)]) L') (v : Int) : RunI L p (i + 1) (rm ++ [(r, ms ++ [v])]) (updL L' r (.lst (ms.map Y.int ++ [.int v]))) := by
  have mr : (r, ms) ∈ rm ++ [(r, ms)] := by simp
  have hrp : r ≠ p := h.ne _ mr
  have nd := h.nd
  rw [List.map_append, List.nodup_append] at nd
  have old : ∀ x ∈ rm, x.1 ≠ r := fun x hx e => nd.2.2 x.1 (List.mem_map_of_mem hx) r (by simp) e
  refine ⟨?_, ?_, ?_, ?_, ?_, ?_, by simp, by have := h.hi; simpa using this, h.np, h.sub.upd (h.new _ mr)⟩
  · rw [updL_ne (Ne.symm hrp), h.at_]; simp
  · intro x hx
    rcases List.mem_append.mp hx with hx | hx
    · rw [updL_ne (old x hx)]; exact h.it x (List.mem_append_left _ hx)
    · cases List.mem_singleton.mp hx
      rw [updL_same]; simp
  · intro x hx
    rcases List.mem_append.mp hx with hx | hx
    · exact h.new x (List.mem_append_left _ hx)
    · cases List.mem_singleton.mp hx; exact h.new (r, ms) mr
  · intro x hx
    rcases List.mem_append.mp hx with hx | hx
    · exact h.ne x (List.mem_append_left _ hx)
    · cases List.mem_singleton.mp hx; exact hrp
  · have := h.nd; simpa using this
  · intro x hx
    rcases List.mem_append.mp hx with hx | hx
    · have := h.len x (List.mem_append_left _ hx); omega
    · cases List.mem_singleton.mp hx
      have := h.len _ mr
      rw [List.length_append]; show ms.length + 1 ≤ i + 1
      have : ms.length ≤ i := this
      omega
def sp_runs : Sp3 := fun ys L Q => ∃ a, ∃ ns : List Int, ys = [.ref a] ∧ L a = some (.lst (ns.map Y.int)) ∧ ns.length ≤ 63 ∧ ∀ p L' rm, RunI L p ns.length rm L' → Q (.ref p) L'
theorem snoc_ex {α : Type} {l : List α} (h : l ≠ []) : ∃ r x, l = r ++ [x] := ⟨l.dropLast, l.getLast h, (List.dropLast_concat_getLast h).symm⟩
theorem vc_runs : ∀ ys L Q, sp_runs ys L Q → run3 t_runs 3 ys L Q := by
  rintro ys L Q ⟨a, ns, rfl, ha, h63, q⟩
  intro r0 hr0 p hp
  have hrp : r0 ≠ p := neL updL_same hp
  have np : L p = none := none_sub (LSub.new hr0) hp
  have s0 : LSub L (updL (updL L r0 (.lst [])) p (.lst [.ref r0])) := (LSub.new hr0).trans (LSub.new hp)
  have ap : a ≠ p := neL ha np
  have I0 : RunI L p 0 [(r0, [])] (updL (updL L r0 (.lst [])) p (.lst [.ref r0])) := by
    refine ⟨updL_same, fun x hx => ?_, fun x hx => ?_, fun x hx => ?_, by simp, fun x hx => ?_, by simp, by simp, np, s0⟩ <;> cases List.mem_singleton.mp hx
    · rw [updL_ne hrp]; exact updL_same
    · exact hr0
    · exact hrp
    · exact Nat.le_refl _
  refine for_lst (ys := ns.map Y.int) (seqOf_lst (s0 _ _ ha)) (fun i τ L' => ∃ c rm, τ = [some (.ref a), some (.ref p), c] ∧ RunI L p i rm L') ?_ ?_ ?_ ?_
  · exact ⟨_, _, rfl, I0⟩
  · rintro i τ L' ⟨c, rm, rfl, R⟩
    rw [R.sub _ _ ha, s0 _ _ ha]
  · rintro i y τ L' hy ⟨c, rm, rfl, R⟩
    obtain ⟨cell, rfl⟩ : ∃ cell, y = Y.int cell := by
      rw [List.getElem?_map] at hy
      obtain ⟨w, e1, e2⟩ := Option.map_eq_some_iff.mp hy
      exact ⟨w, e2.symm⟩
    refine ⟨fun τ' L'' => τ' = [some (.ref a), some (.ref p), some (.int cell)] ∧ ∃ rm, RunI L p i rm L'', ?_, ?_⟩
    · refine ⟨(by decide : (0 : Int) < 4), ?_⟩
      refine yite_dec (fun h1 => ?_) fun h1 => ⟨rfl, rm, R⟩
      refine seqL_of R.at_ ?_
      refine yite_dec (fun h2 => ?_) fun h2 => ⟨rfl, rm, R⟩
      have h2 : ((refsY rm).length : Int) < 12 := h2
      rw [List.length_map] at h2
      refine seqL_of R.at_ fun r hr => ?_
      have hrp' : p ≠ r := neL R.at_ hr
      refine lstK_of (ys := refsY rm) (by rw [updL_ne hrp']; exact R.at_) ⟨Nat.lt_of_le_of_lt (by rw [List.length_map]; exact R.hi) (by decide), rfl, _, R.more (by omega) hr⟩
    · rintro τ' L'' ⟨rfl, rm, R⟩
      obtain ⟨rm0, ⟨r, ms⟩, e⟩ := snoc_ex R.lo
      subst e
      have e1 : refsY (rm0 ++ [(r, ms)]) = refsY rm0 ++ [.ref r] := by simp [refsY]
      have hr := R.it (r, ms) (by simp)
      refine seqL_of R.at_ (atK_some (v := .ref r) (by rw [e1]; exact atI_last _ _) ?_)
      refine seqL_of hr ⟨⟨by decide, by decide⟩, lstK_of hr ⟨?_, ?_⟩⟩
      · have h1 := R.len (r, ms) (by simp)
        have hi := (List.getElem?_eq_some_iff.mp hy).1
        rw [List.length_map] at hi ⊢
        have h1 : ms.length ≤ i := h1
        exact Nat.lt_of_le_of_lt (show ms.length ≤ 63 by omega) (by decide)
      · exact ⟨_, LSub.refl _, _, _, rfl, R.push _⟩
  · rintro τ L' ⟨c, rm, rfl, R⟩
    rw [List.length_map] at R
    exact fin (q p L' rm R)
end L3

namespace L3
open PySem L2 Words
local macro_rules | `(tactic| walk_at "w") => `(tactic| conv => whnf)
def t_law6 (p__law_runs : Sp3) (p__law_one : Sp3) (p__law_words : Sp3) (p_shown_word : Sp3) (p_shown_row : Sp3) (p_read_row : Sp3X) (p__law_refused : Sp3) : TS3 := (ySeq (yAsg (ySl ySlU (yVar 0) yNoPart (yPart (yC (.int 63)))) (gyName 1))
  (ySeq (yAsg (yLC 1 (iyList (yCall p__law_runs (yCons (yVar 1) yNil))) (gyName 11) yYes (yCall p__law_one (yCons (yCall p__law_words (yCons (yVar 11) yNil)) yNil))) (gyName 2))
  (ySeq (yAsg (yLC 1 (iyList (yVar 2)) (gyName 11) yYes (yCall p_shown_word (yCons (yVar 11) yNil))) (gyName 3))
  (ySeq (yAsg (yCB yListOf (yCons (yVar 2) yNil)) (gyName 4))
  (ySeq (yIfS (yOr (yB (yOp (yEq true) (yCall p_shown_row (yCons (yVar 4) yNil)) (yBS yJoin (yC (.str ", ")) (yCons (yVar 3) yNil)))) (yB (yOp (yEq true) (yVar 4) (yVar 2)))) (yRet (yC (.bl false))) yNext)
  (ySeq (yAsg (yCB ySum (yCons (yLC 1 (iyList (yVar 1)) (gyName 11) yYes (yOp yMod (yVar 11) (yC (.int 1009)))) yNil)) (gyName 5))
  (ySeq (yAsg (yOp yAdd (yOp yAdd (yOp yMulS (yC (.str " ")) (yOp yMod (yVar 5) (yC (.int 3)))) (yC (.str ","))) (yOp yMulS (yC (.str " ")) (yOp yMod (yOp yFdiv (yVar 5) (yC (.int 3))) (yC (.int 3))))) (gyName 6))
  (ySeq (yAsg (yCallX p_read_row noX (yCons (yBS yJoin (yVar 6) (yCons (yVar 3) yNil)) yNil)) (gyName 7))
  (ySeq (yIfS (yOr (yNot (yB (yInst .list (yVar 7)))) (yB (yOp (yEq true) (yVar 7) (yVar 2)))) (yRet (yC (.bl false))) yNext)
  (ySeq (yAsg (yCB yListOf (yCons (yVar 3) yNil)) (gyName 8))
  (ySeq (yAsg (yOp yMod (yOp yFdiv (yVar 5) (yC (.int 9))) (yCB yLen (yCons (yVar 3) yNil))) (gyName 9))
  (ySeq (yAsg (yLst (yCons (yC (.str "")) (yCons (yC (.str "  ")) (yCons (yOp yAdd (yC (.str "(")) (yOp yIx (yVar 3) (yVar 9))) (yCons (yOp yAdd (yOp yIx (yVar 3) (yVar 9)) (yC (.str ","))) (yCons (yOp yAdd (yOp yIx (yVar 3) (yVar 9)) (yC (.str " -"))) (yCons (yOp yAdd (yOp yAdd (yC (.str "(")) (yOp yIx (yVar 3) (yVar 9))) (yC (.str ")"))) (yCons (yOp yAdd (yOp yIx (yVar 3) (yVar 9)) (yC (.str " | q"))) yNil)))))))) (gyName 10))
  (ySeq (ySetL (yVar 8) (yVar 9) (yOp yIx (yVar 10) (yOp yMod (yVar 5) (yC (.int 7)))))
  (yRet (yAndV (yCall p__law_refused (yCons (yBS yJoin (yVar 6) (yCons (yVar 8) yNil)) yNil)) (yOp (yEq false) (yCallX p_read_row noX (yCons (yCall p_shown_row (yCons (yVar 2) yNil)) yNil)) (yVar 2)))))))))))))))))
theorem eqL_refl (ws : List Wd) : Da.eq (.lst (ws.map enc)) (.lst (ws.map enc)) = true := by show Da.eqs _ _ = true; exact encL_refl ws
theorem ixN_nat {n j : Nat} (h : j < n) : ixN n (j : Int) = some j := by
  unfold ixN
  rw [if_pos (by omega), if_pos (by omega)]; simp
theorem mulS_bl (n : Nat) : (mulS " " n).cps.toList = bl n := by
  rw [mulS_list]
  induction n with
  | zero => rfl
  | succ n ih => rw [mulL_front, ih]; rfl
theorem sg_list (n1 n2 : Nat) : (((mulS " " n1 ++ ("," : Str)) ++ mulS " " n2)).cps.toList = bl n1 ++ 44 :: bl n2 := by
  rw [cps_app, cps_app, mulS_bl, mulS_bl, comma_eq]
  simp
theorem bl_len (n : Nat) : (mulS " " n).length = n := by rw [← Txs.len_list, mulS_bl]; simp
/-- a row joined -/
theorem row_ok {ls : List (List Nat)} {n1 n2 : Nat} (h12 : ls.length ≤ 12) (h1 : n1 ≤ 2) (h2 : n2 ≤ 2) (hl : ∀ l ∈ ls, l.length ≤ 1000 ∧ ∀ c ∈ l, c < 128) : RowOk (Txs.gl (bl n1 ++ 44 :: bl n2) ls) := by
  have hz : (bl n1 ++ 44 :: bl n2).length = n1 + n2 + 1 := by simp; omega
  refine ⟨?_, fun c hc => ?_, fun p hp => ?_⟩
  · have := gl_len (bl n1 ++ 44 :: bl n2) 1000 ls fun l h => (hl l h).1
    rw [hz] at this
    have h3 : ls.length * (1000 + (n1 + n2 + 1)) ≤ 12 * 1005 := Nat.mul_le_mul h12 (by omega)
    omega
  · rcases gl_mem hc with h | ⟨l, h, k⟩
    · rcases List.mem_append.mp h with h | h
      · have := List.eq_of_mem_replicate h; omega
      · rcases List.mem_cons.mp h with h | h
        · omega
        · have := List.eq_of_mem_replicate h; omega
    · exact (hl l h).2 c k
  · have := parts_short n1 n2 1000 ls 0 (Nat.zero_le _) (fun l h => (hl l h).1) p (by rw [show bl 0 = [] from rfl, List.nil_append]; exact hp)
    omega
theorem row_some {ws : List Wd} {n1 n2 : Nat} (hne : ws ≠ []) (h : ∀ w ∈ ws, WOk w) : rdAll (Txs.spl 44 (Txs.gl (bl n1 ++ 44 :: bl n2) (ws.map cl))) = some ws := by
  have := row_read n1 n2 ws 0 hne fun w hw => ⟨(h w hw).ok, by have := (h w hw).dep; omega⟩
  rwa [show bl 0 = [] from rfl, List.nil_append] at this
theorem row_none {ws : List Wd} {n1 n2 j i : Nat} {w : Wd} (h : WOk w) (hj : j < ws.length) : rdAll (Txs.spl 44 (Txs.gl (bl n1 ++ 44 :: bl n2) ((ws.map cl).set j (spoil i (cl w))))) = none := by
  have := row_bad n1 n2 (spoil_bad h.ok (by have := h.dep; omega) i) ((ws.drop (j + 1)).map cl) (ws.take j) 0
  rw [show bl 0 = [] from rfl, List.nil_append] at this
  rw [List.set_eq_take_append_cons_drop, if_pos (by rw [List.length_map]; exact hj), ← List.map_take, ← List.map_drop]
  exact this
theorem some_at (w : Wd) (z : Str) (S : Int) (e : z = shw w) : atI [Y.str "", .str "  ", .str (("(" : Str) ++ z), .str (z ++ ","), .str (z ++ " -"), .str ((("(" : Str) ++ z) ++ ")"), .str (z ++ " | q")] (S % 7) = some (.str (mkS (spoil (S % 7).toNat (cl w)))) := by
  have h0 : 0 ≤ S % 7 := Int.emod_nonneg _ (by decide)
  have h1 : S % 7 < 7 := Int.emod_lt_of_pos _ (by decide)
  obtain ⟨n, hn⟩ : ∃ n : Nat, S % 7 = n := ⟨(S % 7).toNat, by omega⟩
  rw [hn]
  have hn7 : n < 7 := by omega
  subst e
  have key : ∀ y : Y, ([Y.str "", .str "  ", .str (("(" : Str) ++ shw w), .str (shw w ++ ","), .str (shw w ++ " -"), .str ((("(" : Str) ++ shw w) ++ ")"), .str (shw w ++ " | q")])[n]? = some y → y = .str (mkS (spoil n (cl w))) → atI [Y.str "", .str "  ", .str (("(" : Str) ++ shw w), .str (shw w ++ ","), .str (shw w ++ " -"), .str ((("(" : Str) ++ shw w) ++ ")"), .str (shw w ++ " | q")] (n : Int) = some (.str (mkS (spoil (n : Int).toNat (cl w)))) := fun y h k => by
    rw [atI_nat h, k]; rfl
  have str : ∀ (a : Str) (l : List Nat), a.cps.toList = l → Y.str a = .str (mkS l) := fun a l h => by rw [← h, mkS_cps]
  match n, hn7 with
  | 0, _ => exact key _ rfl (str _ _ (by show ("" : Str).cps.toList = []; decide +kernel))
  | 1, _ => exact key _ rfl (str _ _ (by show ("  " : Str).cps.toList = [32, 32]; decide +kernel))
  | 2, _ => exact key _ rfl (str _ _ (by rw [cps_app, shw_list]; rfl))
  | 3, _ => exact key _ rfl (str _ _ (by rw [cps_app, shw_list]; rfl))
  | 4, _ => exact key _ rfl (str _ _ (by rw [cps_app, shw_list]; rfl))
  | 5, _ => exact key _ rfl (str _ _ (by rw [cps_app, cps_app, shw_list]; rfl))
  | 6, _ => exact key _ rfl (str _ _ (by rw [cps_app, shw_list]; rfl))
theorem vc_law6 {N : Addr} : ∀ ys L Q, sp_law ys L Q → run3 (t_law6 sp_runs sp_oneD sp_wordsD (sp_shown 63) sp_shownrow (sp_rowX N) sp_refused6) 11 ys L Q := by
  rintro ys L Q ⟨ns, rfl, h63, rfl, q⟩
  intro pc hpc
  have e63 : cutY (ns.map Y.int) none (some 63) = (ns.take 63).map Y.int := by rw [show (63 : Int) = ((63 : Nat) : Int) from rfl, cutY_to, List.map_take]
  rw [e63]
  have hms : (ns.take 63).length ≤ 63 := by rw [List.length_take]; omega
  generalize ns.take 63 = ms at hms
  generalize eL0 : updL (fun _ => none) pc (.lst (ms.map Y.int)) = L0
  have hc : L0 pc = some (.lst (ms.map Y.int)) := by rw [← eL0]; exact updL_same
  clear eL0 hpc
  refine ⟨pc, ms, rfl, hc, hms, fun pr L1 rm R => ?_⟩
  have hc1 := R.sub _ _ hc
  refine lisK_of R.at_ fun keep kp => lc_inv (fun i zs => ∃ ws : List Wd, zs = ws.map encY ∧ ws.length = i ∧ ∀ w ∈ ws, WOk w) (by rw [List.length_map]; exact Nat.lt_of_le_of_lt R.hi (by decide)) (kp L1 rfl) ⟨[], rfl, rfl, by simp⟩ ?_ ?_
  · rintro i y _ ey ⟨ws, rfl, hl, hok⟩
    obtain ⟨x, hx, rfl⟩ : ∃ x ∈ rm, y = .ref x.1 := by
      rw [List.getElem?_map] at ey
      obtain ⟨x, e1, e2⟩ := Option.map_eq_some_iff.mp ey
      exact ⟨x, List.mem_of_getElem? e1, e2.symm⟩
    refine ⟨x.1, x.2, rfl, seqOf_lst (R.it x hx), by have := R.len x hx; omega, fun p2 vs h2 hs hd hok2 => ?_⟩
    refine ⟨p2, vs, rfl, updL_same, by have := R.len x hx; omega, hd, hok2, fun wd hl2 hdep hwok => ?_⟩
    refine frgS (LSub.new h2) ⟨rfl, ws ++ [wd], by rw [List.map_append]; rfl, by rw [List.length_append, hl]; rfl, fun w hw => ?_⟩
    rcases List.mem_append.mp hw with hw | hw
    · exact hok w hw
    · cases List.mem_singleton.mp hw; exact ⟨hwok, hdep, hl2⟩
  rintro _ ⟨ws, rfl, hwl, hok⟩ pw hpw
  rw [List.length_map] at hwl
  have h12 : ws.length ≤ 12 := by rw [hwl]; exact R.hi
  have hne : ws ≠ [] := by
    intro e; rw [e] at hwl
    exact R.lo (List.length_eq_zero_iff.mp hwl.symm)
  have hc2 := LSub.new (o := .lst (ws.map encY)) hpw _ _ hc1
  have hw2 : updL L1 pw (.lst (ws.map encY)) pw = some (.lst (ws.map encY)) := updL_same
  generalize updL L1 pw (.lst (ws.map encY)) = L2 at hc2 hw2
  clear hpw R kp
  refine lisK_of hw2 fun keep kp => lc_inv (fun i zs => zs = ((ws.take i).map shw).map Y.str) (by rw [List.length_map]; exact Nat.lt_of_le_of_lt h12 (by decide)) (kp L2 rfl) rfl ?_ ?_
  · rintro i y _ ey rfl
    obtain ⟨w, ew, rfl⟩ : ∃ w, ws[i]? = some w ∧ y = encY w := by
      rw [List.getElem?_map] at ey
      obtain ⟨w, e1, e2⟩ := Option.map_eq_some_iff.mp ey
      exact ⟨w, e1, e2.symm⟩
    have hk := hok w (List.mem_of_getElem? ew)
    refine ⟨w, rfl, by have := hk.dep; omega, hk.lv, hk.ok, frg ⟨rfl, ?_⟩⟩
    rw [List.take_succ, ew]; simp
  rintro _ rfl pl hpl
  rw [List.length_map, List.take_length]
  have hc3 := LSub.new (o := .lst ((ws.map shw).map Y.str)) hpl _ _ hc2
  have hw3 := LSub.new (o := .lst ((ws.map shw).map Y.str)) hpl _ _ hw2
  have hl3 : updL L2 pl (.lst ((ws.map shw).map Y.str)) pl = some (.lst ((ws.map shw).map Y.str)) := updL_same
  generalize updL L2 pl (.lst ((ws.map shw).map Y.str)) = L3 at hc3 hw3 hl3
  clear hpl kp
  refine seqL_of hw3 fun pa hpa => ?_
  have hc4 := LSub.new (o := .lst (ws.map encY)) hpa _ _ hc3
  have hw4 := LSub.new (o := .lst (ws.map encY)) hpa _ _ hw3
  have hl4 := LSub.new (o := .lst (ws.map encY)) hpa _ _ hl3
  have ha4 : updL L3 pa (.lst (ws.map encY)) pa = some (.lst (ws.map encY)) := updL_same
  generalize updL L3 pa (.lst (ws.map encY)) = L4 at hc4 hw4 hl4 ha4
  clear hpa
  have dd : ∀ w ∈ ws, w.depth ≤ 60 := fun w hw => by have := (hok w hw).dep; omega
  have hcl : ∀ l ∈ ws.map cl, l.length ≤ 1000 ∧ ∀ c ∈ l, c < 128 := fun l hl => by
    obtain ⟨w, h1, rfl⟩ := List.mem_map.mp hl
    exact ⟨by have := (hok w h1).len; omega, (hok w h1).low⟩
  have hjo : ∀ m, m ≤ 10 → ((ws.map shw).map (·.length)).sum + (ws.map shw).length * m ≤ 16777216 := fun m hm => by
    rw [shw_map]; exact join_ok (M := 0) (fun l hl => (hcl l hl).1) (by rw [List.length_map]; exact h12) hm
  refine ⟨pa, ws, rfl, ha4, h12, hok, lstK_of hl4 ⟨ws.map shw, rfl, hjo 2 (by decide), ?_⟩⟩
  have ej : Txt.join ", " (ws.map shw) = mkS (Txs.gl [44, 32] (ws.map cl)) := by
    rw [shw_map, join_gl]
    have : (", " : Str).cps.toList = [44, 32] := by decide +kernel
    rw [this]
  refine yite_F (by show (!decide (mkS (Txs.gl [44, 32] (ws.map cl)) = Txt.join ", " (ws.map shw))) = false; rw [decide_eq_true ej.symm]; rfl) ?_
  refine ⟨rfl, rfl, 61, 61, _, _, by decide, datN_list ha4 (datN_encs dd), datN_list hw4 (datN_encs dd), ?_⟩
  rw [eqL_refl]
  refine lisK_of hc4 fun keep kp => lc_inv (fun i zs => zs = ((ms.take i).map fun c => c % 1009).map Y.int) (by rw [List.length_map]; exact Nat.lt_of_le_of_lt hms (by decide)) (kp L4 rfl) rfl ?_ ?_
  · rintro i y _ ey rfl
    obtain ⟨c, ew, rfl⟩ : ∃ c, ms[i]? = some c ∧ y = Y.int c := by
      rw [List.getElem?_map] at ey
      obtain ⟨w, e1, e2⟩ := Option.map_eq_some_iff.mp ey
      exact ⟨w, e1, e2.symm⟩
    refine ⟨(by decide : (0 : Int) < 1009), frg ⟨rfl, ?_⟩⟩
    rw [List.take_succ, ew]; simp
  rintro _ rfl p5 hp5
  refine ⟨rfl, seqL_of updL_same (atK_some (numsY_map _) ?_)⟩
  generalize ((ms.take _).map fun c => c % 1009).sum = S
  have hw5 := LSub.new (o := .lst (((ms.take (ms.map Y.int).length).map fun c => c % 1009).map Y.int)) hp5 _ _ hw4
  have hl5 := LSub.new (o := .lst (((ms.take (ms.map Y.int).length).map fun c => c % 1009).map Y.int)) hp5 _ _ hl4
  generalize updL L4 p5 _ = L5 at hw5 hl5
  clear hp5 kp
  have l1 : (" " : Str).length ≤ 100 := by decide +kernel
  have lc : ("," : Str).length = 1 := by decide +kernel
  have c1 : 0 ≤ S % 3 ∧ S % 3 ≤ 1000 ∧ (" " : Str).length ≤ 100 := ⟨by omega, by omega, l1⟩
  have c2 : 0 ≤ S / 3 % 3 ∧ S / 3 % 3 ≤ 1000 ∧ (" " : Str).length ≤ 100 := ⟨by omega, by omega, l1⟩
  have d1 : (mulS " " (S % 3).toNat).length + ("," : Str).length ≤ sizeLine := by rw [bl_len, lc]; exact small9 (by omega)
  have d2 : (mulS " " (S % 3).toNat ++ ("," : Str)).length + (mulS " " (S / 3 % 3).toNat).length ≤ sizeLine := by rw [Str.length_append, bl_len, bl_len, lc]; exact small9 (by omega)
  refine ⟨(by decide : (0 : Int) < 3), c1, d1, ⟨by decide, by decide⟩, (by decide : (0 : Int) < 3), c2, d2, ?_⟩
  walk_at "w"
  have hsg := sg_list (S % 3).toNat (S / 3 % 3).toNat
  have h1 : (S % 3).toNat ≤ 2 := by omega
  have h2 : (S / 3 % 3).toNat ≤ 2 := by omega
  have hsl : ((mulS " " (S % 3).toNat ++ ("," : Str)) ++ mulS " " (S / 3 % 3).toNat).length ≤ 10 := by rw [← Txs.len_list, hsg]; simp; omega
  generalize (mulS " " (S % 3).toNat ++ ("," : Str)) ++ mulS " " (S / 3 % 3).toNat = sg at hsg hsl
  generalize (S % 3).toNat = n1 at hsg h1
  generalize (S / 3 % 3).toNat = n2 at hsg h2
  refine lstK_of hl5 ⟨ws.map shw, rfl, hjo _ hsl, ?_⟩
  have ej2 : Txt.join sg (ws.map shw) = mkS (Txs.gl (bl n1 ++ 44 :: bl n2) (ws.map cl)) := by rw [shw_map, join_gl, hsg]
  rw [ej2]
  have hrs := row_some (n1 := n1) (n2 := n2) hne hok
  refine ⟨_, rfl, row_ok (by rw [List.length_map]; exact h12) h1 h2 hcl, fun ws' h pf hpf => ?_, fun h => by rw [hrs] at h; cases h⟩
  rw [hrs] at h; cases h
  have hw6 := LSub.new (o := .lst (ws.map encY)) hpf _ _ hw5
  have hl6 := LSub.new (o := .lst (ws.map encY)) hpf _ _ hl5
  have hf6 : updL L5 pf (.lst (ws.map encY)) pf = some (.lst (ws.map encY)) := updL_same
  generalize updL L5 pf (.lst (ws.map encY)) = L6 at hw6 hl6 hf6
  clear hpf
  refine tyK_lst hf6 ?_
  refine ⟨rfl, rfl, 61, 61, _, _, by decide, datN_list hf6 (datN_encs dd), datN_list hw6 (datN_encs dd), ?_⟩
  rw [eqL_refl]
  refine seqL_of hl6 fun ps hps => ?_
  have hw7 := LSub.new (o := .lst ((ws.map shw).map Y.str)) hps _ _ hw6
  have hl7 := LSub.new (o := .lst ((ws.map shw).map Y.str)) hps _ _ hl6
  have hs7 : updL L6 ps (.lst ((ws.map shw).map Y.str)) ps = some (.lst ((ws.map shw).map Y.str)) := updL_same
  have nwp : pw ≠ ps := neL hw6 hps
  generalize updL L6 ps (.lst ((ws.map shw).map Y.str)) = L7 at hw7 hl7 hs7
  clear hps
  refine ⟨⟨by decide, by decide⟩, seqL_of hl7 ?_⟩
  rw [List.length_map, List.length_map]
  have hpos : 0 < ws.length := List.length_pos_iff.mpr hne
  refine ⟨(by show (0 : Int) < (ws.length : Int); omega), ?_⟩
  obtain ⟨j, w, hwm, ejj, ejw⟩ := pick_mod hne (S / 9)
  show gyName 9 (Y.int (S / 9 % (ws.length : Int))) _ _ _
  rw [ejj]
  have hj : j < ws.length := (List.getElem?_eq_some_iff.mp ejw).1
  have hk := hok w hwm
  have ix : atI ((ws.map shw).map Y.str) (j : Int) = some (.str (shw w)) := atI_nat (by rw [List.getElem?_map, List.getElem?_map, ejw]; rfl)
  have hlen : (shw w).length ≤ 900 := by rw [show shw w = mkS (cl w) from rfl, mkS_len]; exact hk.len
  have la : ∀ a : Str, a.length ≤ 10 → a.length + (shw w).length ≤ sizeLine := fun a h => small9 (by omega)
  have lb : ∀ a : Str, a.length ≤ 10 → (shw w).length + a.length ≤ sizeLine := fun a h => small9 (by omega)
  have o1 : ("(" : Str).length = 1 := by decide +kernel
  have o2 : (")" : Str).length = 1 := by decide +kernel
  have lp : (("(" : Str) ++ shw w).length + (")" : Str).length ≤ sizeLine := by rw [Str.length_append, o1, o2]; exact small9 (by omega)
  refine seqL_of hl7 (atK_some ix ⟨la _ (by decide +kernel), ?_⟩)
  refine seqL_of hl7 (atK_some ix ⟨lb _ (by decide +kernel), ?_⟩)
  refine seqL_of hl7 (atK_some ix ⟨lb _ (by decide +kernel), ?_⟩)
  refine seqL_of hl7 (atK_some ix ⟨la _ (by decide +kernel), ?_⟩)
  refine ⟨lp, ?_⟩
  refine seqL_of hl7 (atK_some ix ⟨lb _ (by decide +kernel), fun po hpo => ?_⟩)
  generalize hz : shw w = z at hlen
  have hw8 := fun o => LSub.new (o := o) hpo _ _ hw7
  have hs8 := fun o => LSub.new (o := o) hpo _ _ hs7
  have nso : ps ≠ po := neL hs7 hpo
  refine ⟨(by decide : (0 : Int) < 7), seqL_of updL_same (atK_some (some_at w z S hz.symm) ?_)⟩
  generalize (S % 7).toNat = i7
  have ixn : ixN ((ws.map shw).map Y.str).length (j : Int) = some j := by rw [List.length_map, List.length_map]; exact ixN_nat hj
  refine lstK_of (hs8 _) (atK_some ixn ?_)
  have hw9 : ∀ o o2, updL (updL L7 po o) ps o2 pw = some (.lst (ws.map encY)) := fun o o2 => by rw [updL_ne nwp]; exact hw8 o
  have es : ((ws.map shw).map Y.str).set j (.str (mkS (spoil i7 (cl w)))) = (((ws.map cl).set j (spoil i7 (cl w))).map mkS).map Y.str := by
    rw [shw_map, ← List.map_set, ← List.map_set]
  rw [es]
  have hset : ∀ l ∈ (ws.map cl).set j (spoil i7 (cl w)), l.length ≤ 1000 ∧ ∀ c ∈ l, c < 128 := fun l hl => by
    rcases List.mem_or_eq_of_mem_set hl with h | h
    · exact hcl l h
    · subst h
      exact ⟨by have := spoil_len i7 (cl w); have := hk.len; omega, spoil_low hk.low⟩
  refine lstK_of updL_same ⟨_, rfl, join_ok (M := 0) (fun l hl => (hset l hl).1) (by rw [List.length_set, List.length_map]; exact h12) hsl, ?_⟩
  rw [join_gl, hsg]
  refine ⟨_, rfl, row_ok (by rw [List.length_set, List.length_map]; exact h12) h1 h2 hset, row_none hk hj, ?_⟩
  refine ⟨pw, ws, rfl, hw9 _ _, h12, hok, ?_⟩
  have hrs2 := row_some (n1 := 0) (n2 := 1) hne hok
  refine ⟨Txs.gl (bl 0 ++ 44 :: bl 1) (ws.map cl), rfl, row_ok (by rw [List.length_map]; exact h12) (by decide) (by decide) hcl, fun ws' h p9 hp9 => ?_, fun h => by rw [hrs2] at h; cases h⟩
  rw [hrs2] at h; cases h
  refine ⟨rfl, rfl, 61, 61, _, _, by decide, datN_list updL_same (datN_encs dd), datN_list (LSub.new hp9 _ _ (hw9 _ _)) (datN_encs dd), ?_⟩
  rw [eqL_refl]
  exact fin (q _)
structure XF6 (K : PySem.W.Frag) (T N : Addr) : Prop where
  w : XFW K T
  e : XF06 K N
end L3

namespace K06
open PySem L2 L3 Words
def top (i : Nat) : Stmt := PySem.Challenge.pw_oncewise_k06_rows.main.body.getD i (.Pass ⟨0, 0, 0, 0⟩)
abbrev s_is_name : Stmt := top 7
theorem sc_is_name : FnScope ["text"] ["text"] (defScope s_is_name) := ⟨rfl, rfl, rfl, by decide +kernel, rfl, by decide +kernel, by decide +kernel⟩
abbrev s_is_leaf : Stmt := top 8
theorem sc_is_leaf : FnScope ["word"] ["word"] (defScope s_is_leaf) := ⟨rfl, rfl, rfl, by decide +kernel, rfl, by decide +kernel, by decide +kernel⟩
abbrev s_turned : Stmt := top 9
theorem sc_turned : FnScope ["word", "kind"] ["word"] (defScope s_turned) := ⟨rfl, rfl, rfl, by decide +kernel, rfl, by decide +kernel, by decide +kernel⟩
abbrev s_TokenWalk_init : Stmt := (clsBody (top 15)).getD 0 (.Pass ⟨0, 0, 0, 0⟩)
theorem sc_TokenWalk_init : FnScope ["self", "tokens"] ["self", "tokens"] (defScope s_TokenWalk_init) := ⟨rfl, rfl, rfl, by decide +kernel, rfl, by decide +kernel, by decide +kernel⟩
abbrev s_TokenWalk_take : Stmt := (clsBody (top 15)).getD 1 (.Pass ⟨0, 0, 0, 0⟩)
theorem sc_TokenWalk_take : FnScope ["self", "token"] ["self"] (defScope s_TokenWalk_take) := ⟨rfl, rfl, rfl, by decide +kernel, rfl, by decide +kernel, by decide +kernel⟩
abbrev s_shown_word : Stmt := top 16
theorem sc_shown_word : FnScope ["word", "left", "sign", "right"] ["word"] (defScope s_shown_word) := ⟨rfl, rfl, rfl, by decide +kernel, rfl, by decide +kernel, by decide +kernel⟩
abbrev s_shown_row : Stmt := top 17
theorem sc_shown_row : FnScope ["words"] ["words"] (defScope s_shown_row) := ⟨rfl, rfl, rfl, by decide +kernel, rfl, by decide +kernel, by decide +kernel⟩
abbrev s_tokens_of : Stmt := top 18
theorem sc_tokens_of : FnScope ["line", "spaced", "mark"] ["line"] (defScope s_tokens_of) := ⟨rfl, rfl, rfl, by decide +kernel, rfl, by decide +kernel, by decide +kernel⟩
abbrev s_word_from : Stmt := top 19
theorem sc_word_from : FnScope ["walk", "depth", "token", "is_turned", "word"] ["walk", "depth"] (defScope s_word_from) := ⟨rfl, rfl, rfl, by decide +kernel, rfl, by decide +kernel, by decide +kernel⟩
abbrev s_pair_from : Stmt := top 20
theorem sc_pair_from : FnScope ["walk", "depth", "left", "sign", "right", "last"] ["walk", "depth"] (defScope s_pair_from) := ⟨rfl, rfl, rfl, by decide +kernel, rfl, by decide +kernel, by decide +kernel⟩
abbrev s_read_word : Stmt := top 21
theorem sc_read_word : FnScope ["line", "walk", "word", "behind"] ["line"] (defScope s_read_word) := ⟨rfl, rfl, rfl, by decide +kernel, rfl, by decide +kernel, by decide +kernel⟩
abbrev s_read_row : Stmt := top 22
theorem sc_read_row : FnScope ["line"] ["line"] (defScope s_read_row) := ⟨rfl, rfl, rfl, by decide +kernel, rfl, by decide +kernel, by decide +kernel⟩
abbrev s__law_letters : Stmt := top 24
theorem sc__law_letters : FnScope ["_law_number", "_law_letters_here", "_law_name", "_law_rest", "_law_k"] ["_law_number"] (defScope s__law_letters) := ⟨rfl, rfl, rfl, by decide +kernel, rfl, by decide +kernel, by decide +kernel⟩
abbrev s__law_words : Stmt := top 25
theorem sc__law_words : FnScope ["_law_cells", "_law_stack", "_law_cell", "_law_number", "_law_right", "_law_left"] ["_law_cells"] (defScope s__law_words) := ⟨rfl, rfl, rfl, by decide +kernel, rfl, by decide +kernel, by decide +kernel⟩
abbrev s__law_one : Stmt := top 26
theorem sc__law_one : FnScope ["_law_words_here", "_law_pairs"] ["_law_words_here"] (defScope s__law_one) := ⟨rfl, rfl, rfl, by decide +kernel, rfl, by decide +kernel, by decide +kernel⟩
abbrev s__law_runs : Stmt := top 27
theorem sc__law_runs : FnScope ["_law_cells", "_law_runs_here", "_law_cell"] ["_law_cells"] (defScope s__law_runs) := ⟨rfl, rfl, rfl, by decide +kernel, rfl, by decide +kernel, by decide +kernel⟩
abbrev s__law_refused : Stmt := top 28
theorem sc__law_refused : FnScope ["_law_line", "_law_found", "error"] ["_law_line"] (defScope s__law_refused) := ⟨rfl, rfl, rfl, by decide +kernel, rfl, by decide +kernel, by decide +kernel⟩
abbrev s_law : Stmt := top 29
theorem sc_law : FnScope ["_law_script", "_law_cells", "_law_words_here", "_law_lines", "_law_asked", "_law_number", "_law_sign", "_law_found", "_law_spoilt", "_law_at", "_law_some"] ["_law_script"] (defScope s_law) := ⟨rfl, rfl, rfl, by decide +kernel, rfl, by decide +kernel, by decide +kernel⟩
structure Bt (K : PySem.W.Frag) (P : Program) (w : World) (mg : Str → Option Value) (C_TokenWalk C_NoWord : Addr) : Prop where
  none_ : True
  b_all : mg "all" = none
  b_len : mg "len" = none
  b_range : mg "range" = none
  b_ValueError : mg "ValueError" = none
  b_isinstance : mg "isinstance" = none
  b_list : mg "list" = none
  b_sum : mg "sum" = none
  v_MOST_LETTERS : TopV mg "MOST_LETTERS" (Y.int 8)
  k_LEAF_KINDS : TopC ⟨K, P, w⟩ mg "LEAF_KINDS" cs_LEAF_KINDS
  k_TURNED_KINDS : TopC ⟨K, P, w⟩ mg "TURNED_KINDS" cs_TURNED_KINDS
  k_MIDDLE_SIGNS : TopC ⟨K, P, w⟩ mg "MIDDLE_SIGNS" cs_MIDDLE_SIGNS
  v_MARKS : TopV mg "MARKS" (Y.str "()&|-")
  v_MOST_DEPTH : TopV mg "MOST_DEPTH" (Y.int 60)
  k_PAIR_KINDS : TopC ⟨K, P, w⟩ mg "PAIR_KINDS" cs_PAIR_KINDS
  m_TokenWalk : mg "TokenWalk" = some (.ref C_TokenWalk)
  m_NoWord : mg "NoWord" = some (.ref C_NoWord)
  x_NoWord : XCls K C_NoWord
  cl_TokenWalk : Cls K C_TokenWalk
section
variable {P : Program} {w : World} {K : PySem.W.Frag} {mg : Str → Option Value} {base : Heap} {f : Addr} {fd : FuncData} {m : Nat} {C_TokenWalk C_NoWord : Addr}
theorem tm_is_name (B : Bt K P w mg C_TokenWalk C_NoWord) {cdv : Value} {A : Around} {outer : List Env} {s : Shared} {H : Hp} {E : XK} (hr : Room m (A.deeper (PyProof.Rows.envOfC "is_name" (defScope s_is_name) s.heap.objs.size f cdv))) :
    QSs (cxOf CX0 P w K mg base ["text"] "is_name" (defScope s_is_name) f cdv A outer s H E).nox (defBody s_is_name) t_is_name := by
  have sc := sc_is_name
  have hu := huK hr
  exact (qss_one (qs_ret (qe_and (qe_chain qe_int (qch_link q_le (qe_callB (q_lenK K P w) rfl B.b_len bt_len (qa_cons (qv 0) qa_nil)) (qch_last q_le (qe_topV B.v_MOST_LETTERS rfl)))) (qe_one (qe_callB q_all rfl B.b_all bt_all (qa_cons (qe_lc ["sign"] (compOk.mk (by rfl)) rfl (qi_str (qv 0)) (tgx_name (by show List.Nodup (["text", "sign"] : List Str); decide +kernel) (fun _ _ _ _ => Or.inl rfl) (fun _ _ _ _ => rfl)) (fun _ _ _ _ => qf_nil) (fun _ _ _ _ => (qe_chain qe_str (qch_link q_leS (qv 1) (qch_last q_leS qe_str))))) qa_nil))))))
theorem all_is_name (F : Fun K "is_name" "is_name" s_is_name f fd) (B : Bt K P w mg C_TokenWalk C_NoWord) : Fn3 P w K mg base 1 f fd ["text"] (sp_is_name) :=
  ok3 (k := 0) F sc_is_name (by rintro _ _ _ ⟨_, rfl, _⟩; rfl) fun cdv A outer s H E hr => ⟨_, tm_is_name B  hr, vc_is_name⟩
theorem tm_is_leaf (B : Bt K P w mg C_TokenWalk C_NoWord) {cdv : Value} {A : Around} {outer : List Env} {s : Shared} {H : Hp} {E : XK} (hr : Room m (A.deeper (PyProof.Rows.envOfC "is_leaf" (defScope s_is_leaf) s.heap.objs.size f cdv))) :
    QSs (cxOf CX0 P w K mg base ["word"] "is_leaf" (defScope s_is_leaf) f cdv A outer s H E).nox (defBody s_is_leaf) t_is_leaf := by
  have sc := sc_is_leaf
  have hu := huK hr
  exact (qss_one (qs_ret (qe_cmpR (q_inS K P w) (qe_ix (q_ixK K P w) (qv 0) qe_int (fun _ _ => rfl)) (qe_top B.k_LEAF_KINDS rfl) (by with_unfolding_all rfl))))
theorem all_is_leaf (F : Fun K "is_leaf" "is_leaf" s_is_leaf f fd) (B : Bt K P w mg C_TokenWalk C_NoWord) : Fn3 P w K mg base 1 f fd ["word"] (sp_is_leaf) :=
  ok3 (k := 0) F sc_is_leaf (by rintro _ _ _ ⟨_, _, _, rfl, _⟩; rfl) fun cdv A outer s H E hr => ⟨_, tm_is_leaf B  hr, vc_is_leaf⟩
theorem tm_turned {p_is_leaf : Sp3} {p_turned : Sp3} (B : Bt K P w mg C_TokenWalk C_NoWord) (c_is_leaf : Cal3 P w K mg base m "is_leaf" ["word"] p_is_leaf) (c_turned : Cal3 P w K mg base m "turned" ["word"] p_turned) {cdv : Value} {A : Around} {outer : List Env} {s : Shared} {H : Hp} {E : XK} (hr : Room m (A.deeper (PyProof.Rows.envOfC "turned" (defScope s_turned) s.heap.objs.size f cdv))) :
    QSs (cxOf CX0 P w K mg base ["word", "kind"] "turned" (defScope s_turned) f cdv A outer s H E).nox (defBody s_turned) (t_turned p_is_leaf p_turned) := by
  have sc := sc_turned
  have hu := huK hr
  exact (qss_cons (qs_set (i := 1) sc.nd rfl (Or.inl rfl) (qe_ix (q_ixK K P w) (qe_top B.k_TURNED_KINDS rfl) (qe_ix (q_ixK K P w) (qv 0) qe_int (fun _ _ => rfl)) (fun _ _ => rfl)))
    (qss_cons (qs_if (qt_val (qe_c c_is_leaf hr rfl (qa_cons (qv 0) qa_nil))) (qss_one (qs_ret (qe_tup (qa_cons (qv 1) (qa_cons (qe_ix (q_ixK K P w) (qv 0) qe_int (fun _ _ => rfl)) qa_nil))))) qss_nil)
    (qss_one (qs_ret (qe_tup (qa_cons (qv 1) (qa_cons (qe_c c_turned hr rfl (qa_cons (qe_ix (q_ixK K P w) (qv 0) qe_int (fun _ _ => rfl)) qa_nil)) (qa_cons (qe_c c_turned hr rfl (qa_cons (qe_ix (q_ixK K P w) (qv 0) qe_int (fun _ _ => rfl)) qa_nil)) qa_nil))))))))
theorem all_turned (F : Fun K "turned" "turned" s_turned f fd) (b : Binds K fd ["word"] []) (mgx : mg "turned" = some (.ref f)) (B : Bt K P w mg C_TokenWalk C_NoWord) (c_is_leaf : Cal3 P w K mg base 1 "is_leaf" ["word"] (sp_is_leaf)) : ∀ k, Fn3 P w K mg base (k + 2) f fd ["word"] (sp_turned k)
  | 0 => Fn3.never fun ys L Q h => no_turned ys L Q h
  | k + 1 => ok3 F sc_turned (by rintro _ _ _ ⟨_, rfl, _⟩; rfl) fun cdv A outer s H E hr => ⟨_, tm_turned B (c_is_leaf.mono (by omega)) (Cal.of (all_turned F b mgx B c_is_leaf k) b F.kp mgx) hr, vc_turned k⟩
theorem tm_TokenWalk_init (B : Bt K P w mg C_TokenWalk C_NoWord) {cdv : Value} {A : Around} {outer : List Env} {s : Shared} {H : Hp} {E : XK} (hr : Room m (A.deeper (PyProof.Rows.envOfC "TokenWalk.__init__" (defScope s_TokenWalk_init) s.heap.objs.size f cdv))) :
    QSs (cxOf CX0 P w K mg base ["self", "tokens"] "TokenWalk.__init__" (defScope s_TokenWalk_init) f cdv A outer s H E).nox (defBody s_TokenWalk_init) (t_TokenWalk_init K) := by
  have sc := sc_TokenWalk_init
  have hu := huK hr
  exact (qss_cons (qs_setF (qv 0) (qv 1))
    (qss_one (qs_setF (qv 0) qe_int)))
theorem all_TokenWalk_init (F : Fun K "__init__" "TokenWalk.__init__" s_TokenWalk_init f fd) (B : Bt K P w mg C_TokenWalk C_NoWord) (xf : L3.XF6 K C_TokenWalk C_NoWord) : Fn3 P w K mg base 1 f fd ["self", "tokens"] (sp_init C_TokenWalk) :=
  ok3 (k := 0) F sc_TokenWalk_init (by rintro _ _ _ ⟨_, _, rfl, _⟩; rfl) fun cdv A outer s H E hr => ⟨_, tm_TokenWalk_init B  hr, vc_init xf.w⟩
theorem tm_TokenWalk_take (B : Bt K P w mg C_TokenWalk C_NoWord) {cdv : Value} {A : Around} {outer : List Env} {s : Shared} {H : Hp} {E : XK} (hr : Room m (A.deeper (PyProof.Rows.envOfC "TokenWalk.take" (defScope s_TokenWalk_take) s.heap.objs.size f cdv))) :
    QSs (cxOf CX0 P w K mg base ["self", "token"] "TokenWalk.take" (defScope s_TokenWalk_take) f cdv A outer s H E).nox (defBody s_TokenWalk_take) (t_TokenWalk_take K) := by
  have sc := sc_TokenWalk_take
  have hu := huK hr
  exact (qss_cons (qs_if (qt_cmpR (q_eqK K P w hu) (qe_fld (qv 0)) (qe_callB (q_lenK K P w) rfl B.b_len bt_len (qa_cons (qe_fld (qv 0)) qa_nil)) (nomark _)) (qss_one (qs_ret qe_str)) qss_nil)
    (qss_cons (qs_set (i := 1) sc.nd rfl (Or.inl rfl) (qe_ix (q_ixK K P w) (qe_fld (qv 0)) (qe_fld (qv 0)) (fun _ _ => rfl)))
    (qss_cons (qs_augF (qv 0) qe_int)
    (qss_one (qs_ret (qv 1))))))
theorem all_TokenWalk_take (F : Fun K "take" "TokenWalk.take" s_TokenWalk_take f fd) (B : Bt K P w mg C_TokenWalk C_NoWord) (xf : L3.XF6 K C_TokenWalk C_NoWord) : Fn3 P w K mg base 1 f fd ["self"] (sp_take C_TokenWalk) :=
  ok3 (k := 0) F sc_TokenWalk_take (by rintro _ _ _ ⟨_, _, _, _, rfl, _⟩; rfl) fun cdv A outer s H E hr => ⟨_, tm_TokenWalk_take B  hr, vc_take xf.w⟩
theorem tm_shown_word {p_is_leaf : Sp3} {p_shown_word : Sp3} (B : Bt K P w mg C_TokenWalk C_NoWord) (c_is_leaf : Cal3 P w K mg base m "is_leaf" ["word"] p_is_leaf) (c_shown_word : Cal3 P w K mg base m "shown_word" ["word"] p_shown_word) {cdv : Value} {A : Around} {outer : List Env} {s : Shared} {H : Hp} {E : XK} (hr : Room m (A.deeper (PyProof.Rows.envOfC "shown_word" (defScope s_shown_word) s.heap.objs.size f cdv))) :
    QSs (cxOf CX0 P w K mg base ["word", "left", "sign", "right"] "shown_word" (defScope s_shown_word) f cdv A outer s H E).nox (defBody s_shown_word) (t_shown_word p_is_leaf p_shown_word) := by
  have sc := sc_shown_word
  have hu := huK hr
  exact (qss_cons (qs_if (qt_cmpR (q_eqK K P w hu) (qe_ix (q_ixK K P w) (qv 0) qe_int (fun _ _ => rfl)) qe_str (nomark _)) (qss_one (qs_ret (qe_ix (q_ixK K P w) (qv 0) qe_int (fun _ _ => rfl)))) qss_nil)
    (qss_cons (qs_if (qt_val (qe_c c_is_leaf hr rfl (qa_cons (qv 0) qa_nil))) (qss_one (qs_ret (qe_op q_add qe_str (qe_ix (q_ixK K P w) (qv 0) qe_int (fun _ _ => rfl))))) qss_nil)
    (qss_cons (qs_set (i := 1) sc.nd rfl (Or.inl rfl) (qe_c c_shown_word hr rfl (qa_cons (qe_ix (q_ixK K P w) (qv 0) qe_int (fun _ _ => rfl)) qa_nil)))
    (qss_cons (qs_set (i := 2) sc.nd rfl (Or.inl rfl) (qe_ix (q_ixK K P w) (qe_top B.k_MIDDLE_SIGNS rfl) (qe_ix (q_ixK K P w) (qv 0) qe_int (fun _ _ => rfl)) (fun _ _ => rfl)))
    (qss_cons (qs_set (i := 3) sc.nd rfl (Or.inl rfl) (qe_c c_shown_word hr rfl (qa_cons (qe_ix (q_ixK K P w) (qv 0) qe_int (fun _ _ => rfl)) qa_nil)))
    (qss_one (qs_ret (qe_fstr (qj_cons qe_str (qj_cons (qe_fmt (qv 1)) (qj_cons qe_str (qj_cons (qe_fmt (qv 2)) (qj_cons qe_str (qj_cons (qe_fmt (qv 3)) (qj_cons qe_str qj_nil)))))))))))))))
theorem all_shown_word (F : Fun K "shown_word" "shown_word" s_shown_word f fd) (b : Binds K fd ["word"] []) (mgx : mg "shown_word" = some (.ref f)) (B : Bt K P w mg C_TokenWalk C_NoWord) (c_is_leaf : Cal3 P w K mg base 1 "is_leaf" ["word"] (sp_is_leaf)) : ∀ k, Fn3 P w K mg base (k + 2) f fd ["word"] (sp_shown k)
  | 0 => Fn3.never fun ys L Q h => no_shown ys L Q h
  | k + 1 => ok3 F sc_shown_word (by rintro _ _ _ ⟨_, rfl, _⟩; rfl) fun cdv A outer s H E hr => ⟨_, tm_shown_word B (c_is_leaf.mono (by omega)) (Cal.of (all_shown_word F b mgx B c_is_leaf k) b F.kp mgx) hr, vc_shown k⟩
theorem tm_shown_row {p_shown_word : Sp3} (B : Bt K P w mg C_TokenWalk C_NoWord) (c_shown_word : Cal3 P w K mg base m "shown_word" ["word"] p_shown_word) {cdv : Value} {A : Around} {outer : List Env} {s : Shared} {H : Hp} {E : XK} (hr : Room m (A.deeper (PyProof.Rows.envOfC "shown_row" (defScope s_shown_row) s.heap.objs.size f cdv))) :
    QSs (cxOf CX0 P w K mg base ["words"] "shown_row" (defScope s_shown_row) f cdv A outer s H E).nox (defBody s_shown_row) (t_shownrow p_shown_word) := by
  have sc := sc_shown_row
  have hu := huK hr
  exact (qss_one (qs_ret (qe_join qe_str (qa_cons (qe_lc ["word"] (compOk.mk (by rfl)) rfl (qi_list (qv 0)) (tgx_name (by show List.Nodup (["words", "word"] : List Str); decide +kernel) (fun _ _ _ _ => Or.inl rfl) (fun _ _ _ _ => rfl)) (fun _ _ _ _ => qf_nil) (fun _ _ _ _ => (qe_c c_shown_word hr rfl (qa_cons (qv 1) qa_nil)))) qa_nil))))
theorem all_shown_row (F : Fun K "shown_row" "shown_row" s_shown_row f fd) (B : Bt K P w mg C_TokenWalk C_NoWord) (c_shown_word : Cal3 P w K mg base 65 "shown_word" ["word"] (sp_shown 63)) : Fn3 P w K mg base 66 f fd ["words"] (sp_shownrow) :=
  ok3 (k := 65) F sc_shown_row (by rintro _ _ _ ⟨_, _, rfl, _⟩; rfl) fun cdv A outer s H E hr => ⟨_, tm_shown_row B (c_shown_word.mono (by decide)) hr, vc_shownrow⟩
theorem tm_tokens_of (B : Bt K P w mg C_TokenWalk C_NoWord) {cdv : Value} {A : Around} {outer : List Env} {s : Shared} {H : Hp} {E : XK} (hr : Room m (A.deeper (PyProof.Rows.envOfC "tokens_of" (defScope s_tokens_of) s.heap.objs.size f cdv))) :
    QSs (cxOf CX0 P w K mg base ["line", "spaced", "mark"] "tokens_of" (defScope s_tokens_of) f cdv A outer s H E).nox (defBody s_tokens_of) t_tokens_of := by
  have sc := sc_tokens_of
  have hu := huK hr
  exact (qss_cons (qs_set (i := 1) sc.nd rfl (Or.inl rfl) (qv 0))
    (qss_cons (qs_marks (isp := 1) (imk := 2) PassesOwn.never rfl (pe_topS B.v_MARKS rfl) (by decide +kernel) (by decide +kernel) (by decide +kernel) sc.nd rfl rfl (by decide) rfl rfl)
    (qss_one (qs_ret (qe_lc ["token"] (compOk.mk (by rfl)) rfl (qi_list (qe_split (qv 1) (qa_cons qe_str qa_nil))) (tgx_name (by show List.Nodup (["line", "spaced", "mark", "token"] : List Str); decide +kernel) (fun _ _ _ _ => Or.inl rfl) (fun _ _ _ _ => rfl)) (fun _ _ _ _ => qf_one (qt_cmpR (q_neK K P w hu) (qv 3) qe_str (nomark _))) (fun _ _ _ _ => (qv 3)))))))
theorem all_tokens_of (F : Fun K "tokens_of" "tokens_of" s_tokens_of f fd) (B : Bt K P w mg C_TokenWalk C_NoWord) : Fn3 P w K mg base 1 f fd ["line"] (sp_tokens) :=
  ok3 (k := 0) F sc_tokens_of (by rintro _ _ _ ⟨_, rfl, _⟩; rfl) fun cdv A outer s H E hr => ⟨_, tm_tokens_of B  hr, vc_tokens⟩
theorem tm_word_from {p_TokenWalk_take : Sp3} {p_pair_from : Sp3X} {p_is_name : Sp3} {p_turned : Sp3} (B : Bt K P w mg C_TokenWalk C_NoWord) (c_TokenWalk_take : CalM P w K mg base m C_TokenWalk "take" ["self"] p_TokenWalk_take) (c_pair_from : Cal3X P w K mg base m "pair_from" ["walk", "depth"] p_pair_from) (c_is_name : Cal3 P w K mg base m "is_name" ["text"] p_is_name) (c_turned : Cal3 P w K mg base m "turned" ["word"] p_turned) {cdv : Value} {A : Around} {outer : List Env} {s : Shared} {H : Hp} {E : XK} {E3 : X3} (hr : Room m (A.deeper (PyProof.Rows.envOfC "word_from" (defScope s_word_from) s.heap.objs.size f cdv))) (ht : Takes (cxOf (CXE P w) P w K mg base ["walk", "depth", "token", "is_turned", "word"] "word_from" (defScope s_word_from) f cdv A outer s H E) (upX ⟨K, P, w⟩ E3)) :
    QSs (cxOf (CXE P w) P w K mg base ["walk", "depth", "token", "is_turned", "word"] "word_from" (defScope s_word_from) f cdv A outer s H E) (defBody s_word_from) (t_wordX C_TokenWalk C_NoWord E3 p_TokenWalk_take p_pair_from p_is_name p_turned) := by
  have sc := sc_word_from
  have hu := huK hr
  exact (qss_cons (qs_set (i := 2) sc.nd rfl (Or.inl rfl) (qe_m0 c_TokenWalk_take hr B.cl_TokenWalk (qv 0)))
    (qss_cons (qs_set (i := 3) sc.nd rfl (Or.inl rfl) qe_bl)
    (qss_cons (qs_while PassesOwn.leaving (qt_cmpR (q_eqK K P w hu) (qv 2) qe_str (nomark _)) (qss_cons (qs_set (i := 3) sc.nd rfl (Or.inl rfl) (qe_not (qv 3)))
    (qss_one (qs_set (i := 2) sc.nd rfl (Or.inl rfl) (qe_m0 c_TokenWalk_take hr B.cl_TokenWalk (qv 0))))))
    (qss_cons (qs_if (qt_cmpR (q_eqK K P w hu) (qv 2) qe_str (nomark _)) (qss_one (qs_set (i := 4) sc.nd rfl (Or.inl rfl) (qe_cX c_pair_from hr rfl ht rfl (qa_cons (qv 0) (qa_cons (qv 1) qa_nil))))) (qss_one (qs_if (qt_val (qe_c c_is_name hr rfl (qa_cons (qv 2) qa_nil))) (qss_one (qs_set (i := 4) sc.nd rfl (Or.inl rfl) (qe_tup (qa_cons qe_str (qa_cons (qv 2) qa_nil))))) (qss_one (qs_raise B.x_NoWord rfl B.m_NoWord rfl ht rfl (qa_cons (qe_fstr (qj_cons qe_str (qj_cons (qe_fmtR (qv 2)) qj_nil))) qa_nil))))))
    (qss_one (qs_ret (qe_ifExp (qt_val (qv 3)) (qe_c c_turned hr rfl (qa_cons (qv 4) qa_nil)) (qv 4))))))))
theorem tm_pair_from {p_word_from : Sp3X} {p_TokenWalk_take : Sp3} (B : Bt K P w mg C_TokenWalk C_NoWord) (c_word_from : Cal3X P w K mg base m "word_from" ["walk", "depth"] p_word_from) (c_TokenWalk_take : CalM P w K mg base m C_TokenWalk "take" ["self"] p_TokenWalk_take) {cdv : Value} {A : Around} {outer : List Env} {s : Shared} {H : Hp} {E : XK} {E3 : X3} (hr : Room m (A.deeper (PyProof.Rows.envOfC "pair_from" (defScope s_pair_from) s.heap.objs.size f cdv))) (ht : Takes (cxOf (CXE P w) P w K mg base ["walk", "depth", "left", "sign", "right", "last"] "pair_from" (defScope s_pair_from) f cdv A outer s H E) (upX ⟨K, P, w⟩ E3)) :
    QSs (cxOf (CXE P w) P w K mg base ["walk", "depth", "left", "sign", "right", "last"] "pair_from" (defScope s_pair_from) f cdv A outer s H E) (defBody s_pair_from) (t_pairX C_NoWord C_TokenWalk E3 p_word_from p_TokenWalk_take) := by
  have sc := sc_pair_from
  have hu := huK hr
  exact (qss_cons (qs_if (qt_cmpR (q_eqK K P w hu) (qv 1) (qe_topV B.v_MOST_DEPTH rfl) (nomark _)) (qss_one (qs_raise B.x_NoWord rfl B.m_NoWord rfl ht rfl (qa_cons (qe_fstr (qj_cons qe_str (qj_cons (qe_fmtI (qe_topV B.v_MOST_DEPTH rfl)) qj_nil))) qa_nil))) qss_nil)
    (qss_cons (qs_set (i := 2) sc.nd rfl (Or.inl rfl) (qe_cX c_word_from hr rfl ht rfl (qa_cons (qv 0) (qa_cons (qe_op q_add (qv 1) qe_int) qa_nil))))
    (qss_cons (qs_set (i := 3) sc.nd rfl (Or.inl rfl) (qe_m0 c_TokenWalk_take hr B.cl_TokenWalk (qv 0)))
    (qss_cons (qs_if (qt_cmpR (q_ninC K P w) (qv 3) (qe_top B.k_PAIR_KINDS rfl) (by with_unfolding_all rfl)) (qss_one (qs_raise B.x_NoWord rfl B.m_NoWord rfl ht rfl (qa_cons (qe_fstr (qj_cons qe_str (qj_cons (qe_fmtR (qv 3)) qj_nil))) qa_nil))) qss_nil)
    (qss_cons (qs_set (i := 4) sc.nd rfl (Or.inl rfl) (qe_cX c_word_from hr rfl ht rfl (qa_cons (qv 0) (qa_cons (qe_op q_add (qv 1) qe_int) qa_nil))))
    (qss_cons (qs_set (i := 5) sc.nd rfl (Or.inl rfl) (qe_m0 c_TokenWalk_take hr B.cl_TokenWalk (qv 0)))
    (qss_cons (qs_if (qt_cmpR (q_neK K P w hu) (qv 5) qe_str (nomark _)) (qss_one (qs_raise B.x_NoWord rfl B.m_NoWord rfl ht rfl (qa_cons (qe_fstr (qj_cons qe_str (qj_cons (qe_fmtR (qv 5)) qj_nil))) qa_nil))) qss_nil)
    (qss_one (qs_ret (qe_tup (qa_cons (qe_ix (q_ixK K P w) (qe_top B.k_PAIR_KINDS rfl) (qv 3) (fun _ _ => rfl)) (qa_cons (qv 2) (qa_cons (qv 4) qa_nil)))))))))))))
theorem all_word_from {f2 : Addr} {fd2 : FuncData} (F : Fun K "word_from" "word_from" s_word_from f fd) (b : Binds K fd ["walk", "depth"] []) (mgx : mg "word_from" = some (.ref f)) (F2 : Fun K "pair_from" "pair_from" s_pair_from f2 fd2) (b2 : Binds K fd2 ["walk", "depth"] []) (mg2 : mg "pair_from" = some (.ref f2)) (B : Bt K P w mg C_TokenWalk C_NoWord) (c_TokenWalk_take : CalM P w K mg base 1 C_TokenWalk "take" ["self"] (sp_take C_TokenWalk)) (c_is_name : Cal3 P w K mg base 1 "is_name" ["text"] (sp_is_name)) (c_turned : Cal3 P w K mg base 65 "turned" ["word"] (sp_turned 63)) : ∀ k, Fn3X P w K mg base (2 * k + 66) f fd ["walk", "depth"] (sp_wordX C_TokenWalk C_NoWord k) ∧ Fn3X P w K mg base (2 * k + 67) f2 fd2 ["walk", "depth"] (sp_pairX C_TokenWalk C_NoWord k)
  | 0 => by
    have W : Fn3X P w K mg base (2 * 0 + 66) f fd ["walk", "depth"] (sp_wordX C_TokenWalk C_NoWord 0) := Fn3X.never fun ys L Q E h => no_wordX ys L Q E h
    exact ⟨W, ok3X (k := 2 * 0 + 66) (t := fun E3 => t_pairX C_NoWord C_TokenWalk E3 (sp_wordX C_TokenWalk C_NoWord 0) (sp_take C_TokenWalk)) F2 sc_pair_from (by rintro _ _ _ _ ⟨_, _, _, _, rfl, _⟩; rfl) (fun cdv A outer s H E E3 hr ht => tm_pair_from B (Cal3X.mk ⟨_, _, W, b, F.kp, mgx⟩) (c_TokenWalk_take.mono (by omega)) hr ht) (vc_pairX 0)⟩
  | k + 1 => by
    have ih := all_word_from F b mgx F2 b2 mg2 B c_TokenWalk_take c_is_name c_turned k
    have W : Fn3X P w K mg base (2 * (k + 1) + 66) f fd ["walk", "depth"] (sp_wordX C_TokenWalk C_NoWord (k + 1)) := ok3X (k := 2 * k + 67) (t := fun E3 => t_wordX C_TokenWalk C_NoWord E3 (sp_take C_TokenWalk) (sp_pairX C_TokenWalk C_NoWord k) (sp_is_name) (sp_turned 63)) F sc_word_from (by rintro _ _ _ _ ⟨_, _, _, _, rfl, _⟩; rfl) (fun cdv A outer s H E E3 hr ht => tm_word_from B (c_TokenWalk_take.mono (by omega)) (Cal3X.mk ⟨_, _, ih.2, b2, F2.kp, mg2⟩) (c_is_name.mono (by omega)) (c_turned.mono (by omega)) hr ht) (vc_wordX k)
    exact ⟨W, ok3X (k := 2 * (k + 1) + 66) (t := fun E3 => t_pairX C_NoWord C_TokenWalk E3 (sp_wordX C_TokenWalk C_NoWord (k + 1)) (sp_take C_TokenWalk)) F2 sc_pair_from (by rintro _ _ _ _ ⟨_, _, _, _, rfl, _⟩; rfl) (fun cdv A outer s H E E3 hr ht => tm_pair_from B (Cal3X.mk ⟨_, _, W, b, F.kp, mgx⟩) (c_TokenWalk_take.mono (by omega)) hr ht) (vc_pairX (k + 1))⟩
theorem tm_read_word {p_TokenWalk_init : Sp3} {p_tokens_of : Sp3} {p_word_from : Sp3X} {p_TokenWalk_take : Sp3} (B : Bt K P w mg C_TokenWalk C_NoWord) (c_TokenWalk_init : CalI P w K mg base m C_TokenWalk ["self", "tokens"] p_TokenWalk_init) (c_tokens_of : Cal3 P w K mg base m "tokens_of" ["line"] p_tokens_of) (c_word_from : Cal3X P w K mg base m "word_from" ["walk", "depth"] p_word_from) (c_TokenWalk_take : CalM P w K mg base m C_TokenWalk "take" ["self"] p_TokenWalk_take) {cdv : Value} {A : Around} {outer : List Env} {s : Shared} {H : Hp} {E : XK} {E3 : X3} (hr : Room m (A.deeper (PyProof.Rows.envOfC "read_word" (defScope s_read_word) s.heap.objs.size f cdv))) (ht : Takes (cxOf (CXE P w) P w K mg base ["line", "walk", "word", "behind"] "read_word" (defScope s_read_word) f cdv A outer s H E) (upX ⟨K, P, w⟩ E3)) :
    QSs (cxOf (CXE P w) P w K mg base ["line", "walk", "word", "behind"] "read_word" (defScope s_read_word) f cdv A outer s H E) (defBody s_read_word) (t_readX C_TokenWalk C_NoWord E3 p_TokenWalk_init p_tokens_of p_word_from p_TokenWalk_take) := by
  have sc := sc_read_word
  have hu := huK hr
  exact (qss_cons (qs_set (i := 1) sc.nd rfl (Or.inl rfl) (qe_mk c_TokenWalk_init hr rfl B.m_TokenWalk (qa_cons (qe_c c_tokens_of hr rfl (qa_cons (qv 0) qa_nil)) qa_nil)))
    (qss_cons (qs_set (i := 2) sc.nd rfl (Or.inl rfl) (qe_cX c_word_from hr rfl ht rfl (qa_cons (qv 1) (qa_cons qe_int qa_nil))))
    (qss_cons (qs_set (i := 3) sc.nd rfl (Or.inl rfl) (qe_m0 c_TokenWalk_take hr B.cl_TokenWalk (qv 1)))
    (qss_cons (qs_if (qt_cmpR (q_neK K P w hu) (qv 3) qe_str (nomark _)) (qss_one (qs_raise B.x_NoWord rfl B.m_NoWord rfl ht rfl (qa_cons (qe_fstr (qj_cons qe_str (qj_cons (qe_fmtR (qv 3)) qj_nil))) qa_nil))) qss_nil)
    (qss_one (qs_ret (qv 2)))))))
theorem all_read_word (F : Fun K "read_word" "read_word" s_read_word f fd) (B : Bt K P w mg C_TokenWalk C_NoWord) (c_TokenWalk_init : CalI P w K mg base 2 C_TokenWalk ["self", "tokens"] (sp_init C_TokenWalk)) (c_tokens_of : Cal3 P w K mg base 1 "tokens_of" ["line"] (sp_tokens)) (c_word_from : Cal3X P w K mg base 186 "word_from" ["walk", "depth"] (sp_wordX C_TokenWalk C_NoWord 60)) (c_TokenWalk_take : CalM P w K mg base 1 C_TokenWalk "take" ["self"] (sp_take C_TokenWalk)) : Fn3X P w K mg base 187 f fd ["line"] (sp_readX C_NoWord) :=
  ok3X (k := 186) (t := fun E3 => t_readX C_TokenWalk C_NoWord E3 (sp_init C_TokenWalk) (sp_tokens) (sp_wordX C_TokenWalk C_NoWord 60) (sp_take C_TokenWalk)) F sc_read_word (by rintro _ _ _ _ ⟨_, rfl, _⟩; rfl) (fun cdv A outer s H E E3 hr ht => tm_read_word B (c_TokenWalk_init.mono (by decide)) (c_tokens_of.mono (by decide)) (c_word_from.mono (by decide)) (c_TokenWalk_take.mono (by decide)) hr ht) (vc_readX)
theorem tm_read_row {p_read_word : Sp3X} (B : Bt K P w mg C_TokenWalk C_NoWord) (c_read_word : Cal3X P w K mg base m "read_word" ["line"] p_read_word) {cdv : Value} {A : Around} {outer : List Env} {s : Shared} {H : Hp} {E : XK} {Ea : Addr → LHp → Prop} (hr : Room m (A.deeper (PyProof.Rows.envOfC "read_row" (defScope s_read_row) s.heap.objs.size f cdv))) (ht : Takes (cxOf (CXE P w) P w K mg base ["line"] "read_row" (defScope s_read_row) f cdv A outer s H E) (upX ⟨K, P, w⟩ fun _ => Ea)) (tx : TakesF (cxOf (CXE P w) P w K mg base ["line"] "read_row" (defScope s_read_row) f cdv A outer s H E) (exOf ⟨K, P, w⟩ Ea)) :
    QSs (cxOf (CXE P w) P w K mg base ["line"] "read_row" (defScope s_read_row) f cdv A outer s H E) (defBody s_read_row) (t_readrow (fun _ => Ea) p_read_word) := by
  have sc := sc_read_row
  have hu := huK hr
  exact (qss_one (qs_ret (qe_lcX ["part"] (compOk.mk (by rfl)) rfl (qi_list (qe_split (qv 0) (qa_cons qe_str qa_nil))) (tgx_name (by show List.Nodup (["line", "part"] : List Str); decide +kernel) (fun _ _ _ _ => Or.inl rfl) (fun _ _ _ _ => rfl)) (fun _ _ _ _ => qf_nil) rfl rfl rfl tx (fun _ _ _ _ _ _ hxp ht => (qe_cXP c_read_word hr rfl ht hxp (qa_cons (qv 1) qa_nil))))))
theorem all_read_row (F : Fun K "read_row" "read_row" s_read_row f fd) (B : Bt K P w mg C_TokenWalk C_NoWord) (c_read_word : Cal3X P w K mg base 187 "read_word" ["line"] (sp_readX C_NoWord)) : Fn3X P w K mg base 188 f fd ["line"] (sp_rowX C_NoWord) :=
  ok3XF (k := 187) (t := fun E3 => t_readrow E3 (sp_readX C_NoWord)) F sc_read_row (by rintro _ _ _ _ ⟨_, rfl, _⟩; rfl) (fun cdv A outer s H E Ea hr ht tx => tm_read_row B (c_read_word.mono (by decide)) hr ht tx) (vc_readrow)
theorem tm__law_letters (B : Bt K P w mg C_TokenWalk C_NoWord) {cdv : Value} {A : Around} {outer : List Env} {s : Shared} {H : Hp} {E : XK} (hr : Room m (A.deeper (PyProof.Rows.envOfC "_law_letters" (defScope s__law_letters) s.heap.objs.size f cdv))) :
    QSs (cxOf CX0 P w K mg base ["_law_number", "_law_letters_here", "_law_name", "_law_rest", "_law_k"] "_law_letters" (defScope s__law_letters) f cdv A outer s H E).nox (defBody s__law_letters) t__law_letters := by
  have sc := sc__law_letters
  have hu := huK hr
  exact (qss_cons (qs_set (i := 1) sc.nd rfl (Or.inl rfl) qe_str)
    (qss_cons (qs_set (i := 2) sc.nd rfl (Or.inl rfl) qe_str)
    (qss_cons (qs_set (i := 3) sc.nd rfl (Or.inl rfl) (qe_op q_fdiv (qv 0) qe_int))
    (qss_cons (qs_for PassesOwn.never rfl (qi_range1 rfl B.b_range (qa_cons (qe_op q_add qe_int (qe_op q_mod (qv 0) qe_int)) qa_nil)) (qg_name (i := 4) sc.nd rfl (Or.inl rfl)) (qss_cons (qs_set (i := 2) sc.nd rfl (Or.inl rfl) (qe_op q_add (qe_ix (q_ixK K P w) (qv 1) (qe_op q_mod (qv 3) qe_int) (fun _ _ => rfl)) (qv 2)))
    (qss_one (qs_set (i := 3) sc.nd rfl (Or.inl rfl) (qe_op q_fdiv (qv 3) qe_int)))))
    (qss_one (qs_ret (qv 2)))))))
theorem all__law_letters (F : Fun K "_law_letters" "_law_letters" s__law_letters f fd) (B : Bt K P w mg C_TokenWalk C_NoWord) : Fn3 P w K mg base 1 f fd ["_law_number"] (sp_letters) :=
  ok3 (k := 0) F sc__law_letters (by rintro _ _ _ ⟨_, rfl, _⟩; rfl) fun cdv A outer s H E hr => ⟨_, tm__law_letters B  hr, vc_letters⟩
theorem tm__law_words {p__law_letters : Sp3} (B : Bt K P w mg C_TokenWalk C_NoWord) (c__law_letters : Cal3 P w K mg base m "_law_letters" ["_law_number"] p__law_letters) {cdv : Value} {A : Around} {outer : List Env} {s : Shared} {H : Hp} {E : XK} (hr : Room m (A.deeper (PyProof.Rows.envOfC "_law_words" (defScope s__law_words) s.heap.objs.size f cdv))) :
    QSs (cxOf CX0 P w K mg base ["_law_cells", "_law_stack", "_law_cell", "_law_number", "_law_right", "_law_left"] "_law_words" (defScope s__law_words) f cdv A outer s H E).nox (defBody s__law_words) (t__law_words p__law_letters) := by
  have sc := sc__law_words
  have hu := huK hr
  exact (qss_cons (qs_set (i := 1) sc.nd rfl (Or.inl rfl) (qe_lst qa_nil))
    (qss_cons (qs_for PassesOwn.never rfl (qi_list (qv 0)) (qg_name (i := 2) sc.nd rfl (Or.inl rfl)) (qss_cons (qs_set (i := 3) sc.nd rfl (Or.inl rfl) (qe_op q_mod (qv 2) (qe_op q_pow qe_int qe_int)))
    (qss_one (qs_if (qw_pt (qw_and (qt_cmpR q_lt (qe_op q_mod (qv 3) qe_int) qe_int (nomark _)) (qw_and1 (qt_cmpR q_gt (qe_callB (q_lenK K P w) rfl B.b_len bt_len (qa_cons (qv 1) qa_nil)) qe_int (nomark _))))) (qss_cons (qs_set (i := 4) sc.nd rfl (Or.inl rfl) (qe_pop (qv 1)))
    (qss_cons (qs_set (i := 5) sc.nd rfl (Or.inl rfl) (qe_pop (qv 1)))
    (qss_one (qs_expr (qe_append (qv 1) (qa_cons (qe_tup (qa_cons (qe_pick (qa_cons qe_str (qa_cons qe_str qa_nil)) (qe_op q_mod (qe_op q_fdiv (qv 3) qe_int) qe_int) (pu_I (pu_I (pu_var _) (pu_c _)) (pu_c _)) (fun _ _ => rfl)) (qa_cons (qv 5) (qa_cons (qv 4) qa_nil)))) qa_nil)))))) (qss_one (qs_expr (qe_append (qv 1) (qa_cons (qe_tup (qa_cons (qe_pick (qa_cons qe_str (qa_cons qe_str qa_nil)) (qe_op q_mod (qe_op q_fdiv (qv 3) qe_int) qe_int) (pu_I (pu_I (pu_var _) (pu_c _)) (pu_c _)) (fun _ _ => rfl)) (qa_cons (qe_c c__law_letters hr rfl (qa_cons (qe_op q_fdiv (qv 3) qe_int) qa_nil)) qa_nil))) qa_nil))))))))
    (qss_one (qs_ret (qv 1)))))
theorem all__law_words (F : Fun K "_law_words" "_law_words" s__law_words f fd) (B : Bt K P w mg C_TokenWalk C_NoWord) (c__law_letters : Cal3 P w K mg base 1 "_law_letters" ["_law_number"] (sp_letters)) : Fn3 P w K mg base 2 f fd ["_law_cells"] (sp_wordsD) :=
  ok3 (k := 1) F sc__law_words (by rintro _ _ _ ⟨_, _, rfl, _⟩; rfl) fun cdv A outer s H E hr => ⟨_, tm__law_words B (c__law_letters.mono (by decide)) hr, vc_wordsD⟩
theorem tm__law_one (B : Bt K P w mg C_TokenWalk C_NoWord) {cdv : Value} {A : Around} {outer : List Env} {s : Shared} {H : Hp} {E : XK} (hr : Room m (A.deeper (PyProof.Rows.envOfC "_law_one" (defScope s__law_one) s.heap.objs.size f cdv))) :
    QSs (cxOf CX0 P w K mg base ["_law_words_here", "_law_pairs"] "_law_one" (defScope s__law_one) f cdv A outer s H E).nox (defBody s__law_one) t__law_one := by
  have sc := sc__law_one
  have hu := huK hr
  exact (qss_cons (qs_while PassesOwn.never (qt_cmpR q_gt (qe_callB (q_lenK K P w) rfl B.b_len bt_len (qa_cons (qv 0) qa_nil)) qe_int (nomark _)) (qss_cons (qs_setLC ["_law_k"] (i := 1) sc.nd rfl (Or.inl rfl) (compOk.mk (by rfl)) rfl (qi_range1 rfl B.b_range (qa_cons (qe_op q_fdiv (qe_callB (q_lenK K P w) rfl B.b_len bt_len (qa_cons (qv 0) qa_nil)) qe_int) qa_nil)) (tgx_name (by show List.Nodup (["_law_words_here", "_law_pairs", "_law_k"] : List Str); decide +kernel) (fun _ _ _ _ => Or.inl rfl) (fun _ _ _ _ => rfl)) (fun _ _ _ _ => qf_nil) (fun _ _ _ _ => (qe_tup (qa_cons (qe_pick (qa_cons qe_str (qa_cons qe_str qa_nil)) (qe_op q_mod (qv 2) qe_int) (pu_I (pu_var _) (pu_c _)) (fun _ _ => rfl)) (qa_cons (qe_ix (q_ixK K P w) (qv 0) (qe_op q_mul qe_int (qv 2)) (fun _ _ => rfl)) (qa_cons (qe_ix (q_ixK K P w) (qv 0) (qe_op q_add (qe_op q_mul qe_int (qv 2)) qe_int) (fun _ _ => rfl)) qa_nil))))))
    (qss_one (qs_set (i := 0) sc.nd rfl (Or.inr rfl) (qe_op q_add (qv 1) (qe_slice (q_slU K P w) (qv 0) (qo_some (qe_op q_mul qe_int (qe_callB (q_lenK K P w) rfl B.b_len bt_len (qa_cons (qv 1) qa_nil)))) qo_none))))))
    (qss_one (qs_ret (qe_ix (q_ixK K P w) (qe_op q_add (qv 0) (qe_lst (qa_cons (qe_tup (qa_cons qe_str (qa_cons qe_str qa_nil))) qa_nil))) qe_int (fun _ _ => rfl)))))
theorem all__law_one (F : Fun K "_law_one" "_law_one" s__law_one f fd) (B : Bt K P w mg C_TokenWalk C_NoWord) : Fn3 P w K mg base 1 f fd ["_law_words_here"] (sp_oneD) :=
  ok3 (k := 0) F sc__law_one (by rintro _ _ _ ⟨_, _, rfl, _⟩; rfl) fun cdv A outer s H E hr => ⟨_, tm__law_one B  hr, vc_oneD⟩
theorem tm__law_runs (B : Bt K P w mg C_TokenWalk C_NoWord) {cdv : Value} {A : Around} {outer : List Env} {s : Shared} {H : Hp} {E : XK} (hr : Room m (A.deeper (PyProof.Rows.envOfC "_law_runs" (defScope s__law_runs) s.heap.objs.size f cdv))) :
    QSs (cxOf CX0 P w K mg base ["_law_cells", "_law_runs_here", "_law_cell"] "_law_runs" (defScope s__law_runs) f cdv A outer s H E).nox (defBody s__law_runs) t_runs := by
  have sc := sc__law_runs
  have hu := huK hr
  exact (qss_cons (qs_set (i := 1) sc.nd rfl (Or.inl rfl) (qe_lst (qa_cons (qe_lst qa_nil) qa_nil)))
    (qss_cons (qs_for PassesOwn.never rfl (qi_list (qv 0)) (qg_name (i := 2) sc.nd rfl (Or.inl rfl)) (qss_consJ (qs_if (qw_pt (qw_and (qt_cmpR (q_eqK K P w hu) (qe_op q_mod (qv 2) qe_int) qe_int (nomark _)) (qw_and1 (qt_cmpR q_lt (qe_callB (q_lenK K P w) rfl B.b_len bt_len (qa_cons (qv 1) qa_nil)) qe_int (nomark _))))) (qss_one (qs_expr (qe_append (qv 1) (qa_cons (qe_lst qa_nil) qa_nil)))) qss_nil)
    (qss_one (qs_expr (qe_append (qe_ix (q_ixK K P w) (qv 1) (qe_un q_neg qe_int) (fun _ _ => rfl)) (qa_cons (qe_op q_fdiv (qv 2) qe_int) qa_nil))))))
    (qss_one (qs_ret (qv 1)))))
theorem all__law_runs (F : Fun K "_law_runs" "_law_runs" s__law_runs f fd) (B : Bt K P w mg C_TokenWalk C_NoWord) : Fn3 P w K mg base 1 f fd ["_law_cells"] (sp_runs) :=
  ok3 (k := 0) F sc__law_runs (by rintro _ _ _ ⟨_, _, rfl, _⟩; rfl) fun cdv A outer s H E hr => ⟨_, tm__law_runs B  hr, vc_runs⟩
theorem tm__law_refused {p_read_row : Sp3X} (B : Bt K P w mg C_TokenWalk C_NoWord) (c_read_row : Cal3X P w K mg base m "read_row" ["line"] p_read_row) {cdv : Value} {A : Around} {outer : List Env} {s : Shared} {H : Hp} {E : XK} (hr : Room m (A.deeper (PyProof.Rows.envOfC "_law_refused" (defScope s__law_refused) s.heap.objs.size f cdv))) :
    QSs (cxOf CX0 P w K mg base ["_law_line", "_law_found", "error"] "_law_refused" (defScope s__law_refused) f cdv A outer s H E).nox (defBody s__law_refused) (t_refused6 K C_NoWord p_read_row) := by
  have sc := sc__law_refused
  have hu := huK hr
  exact (qss_cons (qs_set (i := 1) sc.nd rfl (Or.inl rfl) qe_non)
    (qss_cons (qs_try (i := 2) rfl rfl rfl sc.nd rfl rfl rfl B.m_NoWord (qb_expr c_read_row hr rfl rfl (fun _ _ => (qa_cons (qv 0) qa_nil))) (fun _ => (qss_one (qs_set (i := 1) sc.nd rfl (Or.inl rfl) (qv 2)))))
    (qss_one (qs_ret (qe_instX rfl B.b_isinstance (qv 1) (pe_ty rfl B.b_ValueError bt_ValueError) rfl)))))
theorem all__law_refused (F : Fun K "_law_refused" "_law_refused" s__law_refused f fd) (B : Bt K P w mg C_TokenWalk C_NoWord) (c_read_row : Cal3X P w K mg base 188 "read_row" ["line"] (sp_rowX C_NoWord)) (xf : L3.XF6 K C_TokenWalk C_NoWord) : Fn3 P w K mg base 189 f fd ["_law_line"] (sp_refused6) :=
  ok3 (k := 188) F sc__law_refused (by rintro _ _ _ ⟨_, rfl, _⟩; rfl) fun cdv A outer s H E hr => ⟨_, tm__law_refused B (c_read_row.mono (by decide)) hr, vc_refused6 xf.e⟩
theorem tm_law {p__law_runs : Sp3} {p__law_one : Sp3} {p__law_words : Sp3} {p_shown_word : Sp3} {p_shown_row : Sp3} {p_read_row : Sp3X} {p__law_refused : Sp3} (B : Bt K P w mg C_TokenWalk C_NoWord) (c__law_runs : Cal3 P w K mg base m "_law_runs" ["_law_cells"] p__law_runs) (c__law_one : Cal3 P w K mg base m "_law_one" ["_law_words_here"] p__law_one) (c__law_words : Cal3 P w K mg base m "_law_words" ["_law_cells"] p__law_words) (c_shown_word : Cal3 P w K mg base m "shown_word" ["word"] p_shown_word) (c_shown_row : Cal3 P w K mg base m "shown_row" ["words"] p_shown_row) (c_read_row : Cal3X P w K mg base m "read_row" ["line"] p_read_row) (c__law_refused : Cal3 P w K mg base m "_law_refused" ["_law_line"] p__law_refused) {cdv : Value} {A : Around} {outer : List Env} {s : Shared} {H : Hp} {E : XK} (hr : Room m (A.deeper (PyProof.Rows.envOfC "law" (defScope s_law) s.heap.objs.size f cdv))) :
    QSs (cxOf CX0 P w K mg base ["_law_script", "_law_cells", "_law_words_here", "_law_lines", "_law_asked", "_law_number", "_law_sign", "_law_found", "_law_spoilt", "_law_at", "_law_some"] "law" (defScope s_law) f cdv A outer s H E).nox (defBody s_law) (t_law6 p__law_runs p__law_one p__law_words p_shown_word p_shown_row p_read_row p__law_refused) := by
  have sc := sc_law
  have hu := huK hr
  exact (qss_cons (qs_set (i := 1) sc.nd rfl (Or.inl rfl) (qe_slice (q_slU K P w) (qv 0) qo_none (qo_some qe_int)))
    (qss_cons (qs_setLC ["_law_run"] (i := 2) sc.nd rfl (Or.inl rfl) (compOk.mk (by rfl)) rfl (qi_list (qe_c c__law_runs hr rfl (qa_cons (qv 1) qa_nil))) (tgx_name (by show List.Nodup (["_law_script", "_law_cells", "_law_words_here", "_law_lines", "_law_asked", "_law_number", "_law_sign", "_law_found", "_law_spoilt", "_law_at", "_law_some", "_law_run"] : List Str); decide +kernel) (fun _ _ _ _ => Or.inl rfl) (fun _ _ _ _ => rfl)) (fun _ _ _ _ => qf_nil) (fun _ _ _ _ => (qe_c c__law_one hr rfl (qa_cons (qe_c c__law_words hr rfl (qa_cons (qv 11) qa_nil)) qa_nil))))
    (qss_cons (qs_setLC ["_law_word"] (i := 3) sc.nd rfl (Or.inl rfl) (compOk.mk (by rfl)) rfl (qi_list (qv 2)) (tgx_name (by show List.Nodup (["_law_script", "_law_cells", "_law_words_here", "_law_lines", "_law_asked", "_law_number", "_law_sign", "_law_found", "_law_spoilt", "_law_at", "_law_some", "_law_word"] : List Str); decide +kernel) (fun _ _ _ _ => Or.inl rfl) (fun _ _ _ _ => rfl)) (fun _ _ _ _ => qf_nil) (fun _ _ _ _ => (qe_c c_shown_word hr rfl (qa_cons (qv 11) qa_nil))))
    (qss_cons (qs_set (i := 4) sc.nd rfl (Or.inl rfl) (qe_callT q_listOf rfl B.b_list bt_list (qa_cons (qv 2) qa_nil)))
    (qss_cons (qs_if (qw_pt (qw_or (qt_cmpR (q_neK K P w hu) (qe_c c_shown_row hr rfl (qa_cons (qv 4) qa_nil)) (qe_join qe_str (qa_cons (qv 3) qa_nil)) (nomark _)) (qw_or1 (qt_cmpR (q_neK K P w hu) (qv 4) (qv 2) (nomark _))))) (qss_one (qs_ret qe_bl)) qss_nil)
    (qss_cons (qs_set (i := 5) sc.nd rfl (Or.inl rfl) (qe_callB q_sum rfl B.b_sum bt_sum (qa_cons (qe_lc ["_law_cell"] (compOk.mk (by rfl)) rfl (qi_list (qv 1)) (tgx_name (by show List.Nodup (["_law_script", "_law_cells", "_law_words_here", "_law_lines", "_law_asked", "_law_number", "_law_sign", "_law_found", "_law_spoilt", "_law_at", "_law_some", "_law_cell"] : List Str); decide +kernel) (fun _ _ _ _ => Or.inl rfl) (fun _ _ _ _ => rfl)) (fun _ _ _ _ => qf_nil) (fun _ _ _ _ => (qe_op q_mod (qv 11) qe_int))) qa_nil)))
    (qss_cons (qs_set (i := 6) sc.nd rfl (Or.inl rfl) (qe_op q_add (qe_op q_add (qe_op q_mulS qe_str (qe_op q_mod (qv 5) qe_int)) qe_str) (qe_op q_mulS qe_str (qe_op q_mod (qe_op q_fdiv (qv 5) qe_int) qe_int))))
    (qss_cons (qs_set (i := 7) sc.nd rfl (Or.inl rfl) (qe_cX c_read_row hr rfl takes0 rfl (qa_cons (qe_join (qv 6) (qa_cons (qv 3) qa_nil)) qa_nil)))
    (qss_cons (qs_if (qw_pt (qw_or (qt_not (qt_val (qe_inst .list rfl B.b_isinstance rfl B.b_list bt_list (qv 7)))) (qw_or1 (qt_cmpR (q_neK K P w hu) (qv 7) (qv 2) (nomark _))))) (qss_one (qs_ret qe_bl)) qss_nil)
    (qss_cons (qs_set (i := 8) sc.nd rfl (Or.inl rfl) (qe_callT q_listOf rfl B.b_list bt_list (qa_cons (qv 3) qa_nil)))
    (qss_cons (qs_set (i := 9) sc.nd rfl (Or.inl rfl) (qe_op q_mod (qe_op q_fdiv (qv 5) qe_int) (qe_callB (q_lenK K P w) rfl B.b_len bt_len (qa_cons (qv 3) qa_nil))))
    (qss_cons (qs_set (i := 10) sc.nd rfl (Or.inl rfl) (qe_lst (qa_cons qe_str (qa_cons qe_str (qa_cons (qe_op q_add qe_str (qe_ix (q_ixK K P w) (qv 3) (qv 9) (fun _ _ => rfl))) (qa_cons (qe_op q_add (qe_ix (q_ixK K P w) (qv 3) (qv 9) (fun _ _ => rfl)) qe_str) (qa_cons (qe_op q_add (qe_ix (q_ixK K P w) (qv 3) (qv 9) (fun _ _ => rfl)) qe_str) (qa_cons (qe_op q_add (qe_op q_add qe_str (qe_ix (q_ixK K P w) (qv 3) (qv 9) (fun _ _ => rfl))) qe_str) (qa_cons (qe_op q_add (qe_ix (q_ixK K P w) (qv 3) (qv 9) (fun _ _ => rfl)) qe_str) qa_nil)))))))))
    (qss_cons (qs_setL (qv 8) (qv 9) (qe_ix (q_ixK K P w) (qv 10) (qe_op q_mod (qv 5) qe_int) (fun _ _ => rfl)))
    (qss_one (qs_ret (qe_and (qe_c c__law_refused hr rfl (qa_cons (qe_join (qv 6) (qa_cons (qv 8) qa_nil)) qa_nil)) (qe_one (qe_cmpR (q_eqK K P w hu) (qe_cX c_read_row hr rfl takes0 rfl (qa_cons (qe_c c_shown_row hr rfl (qa_cons (qv 2) qa_nil)) qa_nil)) (qv 2) (nomark _)))))))))))))))))))
theorem all_law (F : Fun K "law" "law" s_law f fd) (B : Bt K P w mg C_TokenWalk C_NoWord) (c__law_runs : Cal3 P w K mg base 1 "_law_runs" ["_law_cells"] (sp_runs)) (c__law_one : Cal3 P w K mg base 1 "_law_one" ["_law_words_here"] (sp_oneD)) (c__law_words : Cal3 P w K mg base 2 "_law_words" ["_law_cells"] (sp_wordsD)) (c_shown_word : Cal3 P w K mg base 65 "shown_word" ["word"] (sp_shown 63)) (c_shown_row : Cal3 P w K mg base 66 "shown_row" ["words"] (sp_shownrow)) (c_read_row : Cal3X P w K mg base 188 "read_row" ["line"] (sp_rowX C_NoWord)) (c__law_refused : Cal3 P w K mg base 189 "_law_refused" ["_law_line"] (sp_refused6)) : Fn3 P w K mg base 190 f fd ["_law_script"] (sp_law) :=
  ok3 (k := 189) F sc_law (by rintro _ _ _ ⟨_, rfl, _⟩; rfl) fun cdv A outer s H E hr => ⟨_, tm_law B (c__law_runs.mono (by decide)) (c__law_one.mono (by decide)) (c__law_words.mono (by decide)) (c_shown_word.mono (by decide)) (c_shown_row.mono (by decide)) (c_read_row.mono (by decide)) (c__law_refused.mono (by decide)) hr, vc_law6⟩
end
theorem all_mk {l : PySem.W.OpenLaw} {w : World} {K : PySem.W.Frag} {h : Heap} {mg : Str → Option Value} {fa : Addr} {t_MOST_LETTERS : Tok} {a_LEAF_KINDS : Addr} {o_LEAF_KINDS : Option Addr} {n_LEAF_KINDS : Nat} {l_LEAF_KINDS : Array (Option Value)} {t_LEAF_KINDS0 t_LEAF_KINDS1 : Tok} {a_TURNED_KINDS : Addr} {e_TURNED_KINDS : Nat} {t_TURNED_KINDS0 t_TURNED_KINDS1 t_TURNED_KINDS2 t_TURNED_KINDS3 u_TURNED_KINDS0 u_TURNED_KINDS1 u_TURNED_KINDS2 u_TURNED_KINDS3 : Tok} {a_MIDDLE_SIGNS : Addr} {e_MIDDLE_SIGNS : Nat} {t_MIDDLE_SIGNS0 t_MIDDLE_SIGNS1 u_MIDDLE_SIGNS0 u_MIDDLE_SIGNS1 : Tok} {t_MARKS : Tok} {t_MOST_DEPTH : Tok} {a_PAIR_KINDS : Addr} {e_PAIR_KINDS : Nat} {t_PAIR_KINDS0 t_PAIR_KINDS1 u_PAIR_KINDS0 u_PAIR_KINDS1 : Tok} {C_TokenWalk : Addr} {C_NoWord : Addr} (X : K.In h) (G : h.Ns mainGlobals mg) (hfa : mg "law" = some (.ref fa))
    (D0 : DefIn K "is_name" s_is_name)
    (D1 : DefIn K "is_leaf" s_is_leaf)
    (D2 : DefIn K "turned" s_turned)
    (D3 : MethIn K C_TokenWalk "__init__" "TokenWalk.__init__" s_TokenWalk_init)
    (D4 : MethIn K C_TokenWalk "take" "TokenWalk.take" s_TokenWalk_take)
    (D5 : DefIn K "shown_word" s_shown_word)
    (D6 : DefIn K "shown_row" s_shown_row)
    (D7 : DefIn K "tokens_of" s_tokens_of)
    (D8 : DefIn K "word_from" s_word_from)
    (D9 : DefIn K "pair_from" s_pair_from)
    (D10 : DefIn K "read_word" s_read_word)
    (D11 : DefIn K "read_row" s_read_row)
    (D12 : DefIn K "_law_letters" s__law_letters)
    (D13 : DefIn K "_law_words" s__law_words)
    (D14 : DefIn K "_law_one" s__law_one)
    (D15 : DefIn K "_law_runs" s__law_runs)
    (D16 : DefIn K "_law_refused" s__law_refused)
    (D17 : DefIn K "law" s_law)
    (aMOST_LETTERS : PySem.W.nsIn K mainGlobals "MOST_LETTERS" = some (some (.int 8 t_MOST_LETTERS)))
    (aLEAF_KINDS : PySem.W.nsIn K mainGlobals "LEAF_KINDS" = some (some (.ref a_LEAF_KINDS)))
    (lLEAF_KINDS : K.lookup a_LEAF_KINDS = some ⟨.type "tuple", o_LEAF_KINDS, .seq #[.str "plain" t_LEAF_KINDS0, .str "turned" t_LEAF_KINDS1] n_LEAF_KINDS, l_LEAF_KINDS⟩)
    (aTURNED_KINDS : PySem.W.nsIn K mainGlobals "TURNED_KINDS" = some (some (.ref a_TURNED_KINDS)))
    (lTURNED_KINDS : K.lookup a_TURNED_KINDS = some ⟨.type "dict", none, .dict ((([("plain", t_TURNED_KINDS0, "turned", u_TURNED_KINDS0), ("turned", t_TURNED_KINDS1, "plain", u_TURNED_KINDS1), ("both", t_TURNED_KINDS2, "either", u_TURNED_KINDS2), ("either", t_TURNED_KINDS3, "both", u_TURNED_KINDS3)] : List (Str × Tok × Str × Tok)).map (rowOf w)).toArray) e_TURNED_KINDS, #[]⟩)
    (hTURNED_KINDS : (a_TURNED_KINDS == sysModules) = false)
    (aMIDDLE_SIGNS : PySem.W.nsIn K mainGlobals "MIDDLE_SIGNS" = some (some (.ref a_MIDDLE_SIGNS)))
    (lMIDDLE_SIGNS : K.lookup a_MIDDLE_SIGNS = some ⟨.type "dict", none, .dict ((([("both", t_MIDDLE_SIGNS0, "&", u_MIDDLE_SIGNS0), ("either", t_MIDDLE_SIGNS1, "|", u_MIDDLE_SIGNS1)] : List (Str × Tok × Str × Tok)).map (rowOf w)).toArray) e_MIDDLE_SIGNS, #[]⟩)
    (hMIDDLE_SIGNS : (a_MIDDLE_SIGNS == sysModules) = false)
    (aMARKS : PySem.W.nsIn K mainGlobals "MARKS" = some (some (.str "()&|-" t_MARKS)))
    (aMOST_DEPTH : PySem.W.nsIn K mainGlobals "MOST_DEPTH" = some (some (.int 60 t_MOST_DEPTH)))
    (aPAIR_KINDS : PySem.W.nsIn K mainGlobals "PAIR_KINDS" = some (some (.ref a_PAIR_KINDS)))
    (lPAIR_KINDS : K.lookup a_PAIR_KINDS = some ⟨.type "dict", none, .dict ((([("&", t_PAIR_KINDS0, "both", u_PAIR_KINDS0), ("|", t_PAIR_KINDS1, "either", u_PAIR_KINDS1)] : List (Str × Tok × Str × Tok)).map (rowOf w)).toArray) e_PAIR_KINDS, #[]⟩)
    (hPAIR_KINDS : (a_PAIR_KINDS == sysModules) = false)
    (aCTokenWalk : PySem.W.nsIn K mainGlobals "TokenWalk" = some (some (.ref C_TokenWalk)))
    (aCNoWord : PySem.W.nsIn K mainGlobals "NoWord" = some (some (.ref C_NoWord)))
    (qCNoWord : PySem.W.excIn K C_NoWord [.type "ValueError", .type "Exception", .type "BaseException", .type "object"] "ValueError.__new__" = true)
    (clTokenWalk : Cls K C_TokenWalk)
    (mATokenWalk : PySem.W.makesIn K C_TokenWalk = true)
    (mKTokenWalk : PySem.W.keepIn K (.ref C_TokenWalk) = true)
    (xf : L3.XF6 K C_TokenWalk C_NoWord)
    (zall : PySem.W.nsIn K mainGlobals "all" = some none)
    (zlen : PySem.W.nsIn K mainGlobals "len" = some none)
    (zrange : PySem.W.nsIn K mainGlobals "range" = some none)
    (zValueError : PySem.W.nsIn K mainGlobals "ValueError" = some none)
    (zisinstance : PySem.W.nsIn K mainGlobals "isinstance" = some none)
    (zlist : PySem.W.nsIn K mainGlobals "list" = some none)
    (zsum : PySem.W.nsIn K mainGlobals "sum" = some none) :
    ∃ fd : FuncData, (∀ (s : Shared) (v : Value), BindsTo s fd ⟨[v], []⟩ [("_law_script", v)]) ∧ ∀ base : Heap, K.In base → base.Ns mainGlobals mg → FnOk l.prog w K mg base CX0 190 fa fd ["_law_script"] (spTop K) := by
  obtain ⟨f0, fd0, F0, b0, m0⟩ := D0.use (ps := ["text"]) X G fun _ _ _ _ _ _ us hl => match us, hl with | [_], _ => rfl
  obtain ⟨f1, fd1, F1, b1, m1⟩ := D1.use (ps := ["word"]) X G fun _ _ _ _ _ _ us hl => match us, hl with | [_], _ => rfl
  obtain ⟨f2, fd2, F2, b2, m2⟩ := D2.use (ps := ["word"]) X G fun _ _ _ _ _ _ us hl => match us, hl with | [_], _ => rfl
  obtain ⟨f3, fd3, F3, b3, m3⟩ := D3.use (ps := ["self", "tokens"]) fun _ _ _ _ _ _ us hl => match us, hl with | [_, _], _ => rfl
  obtain ⟨f4, fd4, F4, b4, m4⟩ := D4.use (ps := ["self"]) fun _ _ _ _ _ _ us hl => match us, hl with | [_], _ => rfl
  obtain ⟨f5, fd5, F5, b5, m5⟩ := D5.use (ps := ["word"]) X G fun _ _ _ _ _ _ us hl => match us, hl with | [_], _ => rfl
  obtain ⟨f6, fd6, F6, b6, m6⟩ := D6.use (ps := ["words"]) X G fun _ _ _ _ _ _ us hl => match us, hl with | [_], _ => rfl
  obtain ⟨f7, fd7, F7, b7, m7⟩ := D7.use (ps := ["line"]) X G fun _ _ _ _ _ _ us hl => match us, hl with | [_], _ => rfl
  obtain ⟨f8, fd8, F8, b8, m8⟩ := D8.use (ps := ["walk", "depth"]) X G fun _ _ _ _ _ _ us hl => match us, hl with | [_, _], _ => rfl
  obtain ⟨f9, fd9, F9, b9, m9⟩ := D9.use (ps := ["walk", "depth"]) X G fun _ _ _ _ _ _ us hl => match us, hl with | [_, _], _ => rfl
  obtain ⟨f10, fd10, F10, b10, m10⟩ := D10.use (ps := ["line"]) X G fun _ _ _ _ _ _ us hl => match us, hl with | [_], _ => rfl
  obtain ⟨f11, fd11, F11, b11, m11⟩ := D11.use (ps := ["line"]) X G fun _ _ _ _ _ _ us hl => match us, hl with | [_], _ => rfl
  obtain ⟨f12, fd12, F12, b12, m12⟩ := D12.use (ps := ["_law_number"]) X G fun _ _ _ _ _ _ us hl => match us, hl with | [_], _ => rfl
  obtain ⟨f13, fd13, F13, b13, m13⟩ := D13.use (ps := ["_law_cells"]) X G fun _ _ _ _ _ _ us hl => match us, hl with | [_], _ => rfl
  obtain ⟨f14, fd14, F14, b14, m14⟩ := D14.use (ps := ["_law_words_here"]) X G fun _ _ _ _ _ _ us hl => match us, hl with | [_], _ => rfl
  obtain ⟨f15, fd15, F15, b15, m15⟩ := D15.use (ps := ["_law_cells"]) X G fun _ _ _ _ _ _ us hl => match us, hl with | [_], _ => rfl
  obtain ⟨f16, fd16, F16, b16, m16⟩ := D16.use (ps := ["_law_line"]) X G fun _ _ _ _ _ _ us hl => match us, hl with | [_], _ => rfl
  obtain ⟨fL, kV, doc, pm, an, cdv, ct, aL, FL⟩ := D17.ex
  have e := hfa.symm.trans (PySem.W.mg_of X G aL)
  cases e
  have B : Bt K l.prog w mg C_TokenWalk C_NoWord := ⟨trivial, PySem.W.mg_none_of X G zall, PySem.W.mg_none_of X G zlen, PySem.W.mg_none_of X G zrange, PySem.W.mg_none_of X G zValueError, PySem.W.mg_none_of X G zisinstance, PySem.W.mg_none_of X G zlist, PySem.W.mg_none_of X G zsum, ⟨⟨_, PySem.W.mg_of X G aMOST_LETTERS, ⟨_, rfl⟩, fun _ _ => rfl⟩⟩, ⟨⟨a_LEAF_KINDS, PySem.W.mg_of X G aLEAF_KINDS, fun H => ⟨a_LEAF_KINDS, [V.str "plain", V.str "turned"], rfl, .inr ⟨_, _, _, lLEAF_KINDS, rfl, rfl, by show 2 ≤ sizeLine; decide, .cons ⟨_, rfl⟩ (.cons ⟨_, rfl⟩ (.nil))⟩, ⟨_, _, rfl, rfl, ⟨_, _, rfl, rfl, rfl⟩⟩⟩⟩⟩, ⟨⟨a_TURNED_KINDS, PySem.W.mg_of X G aTURNED_KINDS, fun H => ⟨a_TURNED_KINDS, rfl, kd_in _ lTURNED_KINDS hTURNED_KINDS (by show 4 ≤ 1000; decide) (by show List.Nodup ([Sum.inr "plain", Sum.inr "turned", Sum.inr "both", Sum.inr "either"] : List Key); decide +kernel)⟩⟩⟩, ⟨⟨a_MIDDLE_SIGNS, PySem.W.mg_of X G aMIDDLE_SIGNS, fun H => ⟨a_MIDDLE_SIGNS, rfl, kd_in _ lMIDDLE_SIGNS hMIDDLE_SIGNS (by show 2 ≤ 1000; decide) (by show List.Nodup ([Sum.inr "both", Sum.inr "either"] : List Key); decide +kernel)⟩⟩⟩, ⟨⟨_, PySem.W.mg_of X G aMARKS, ⟨_, rfl⟩, fun _ _ => rfl⟩⟩, ⟨⟨_, PySem.W.mg_of X G aMOST_DEPTH, ⟨_, rfl⟩, fun _ _ => rfl⟩⟩, ⟨⟨a_PAIR_KINDS, PySem.W.mg_of X G aPAIR_KINDS, fun H => ⟨a_PAIR_KINDS, rfl, kd_in _ lPAIR_KINDS hPAIR_KINDS (by show 2 ≤ 1000; decide) (by show List.Nodup ([Sum.inr "&", Sum.inr "|"] : List Key); decide +kernel)⟩⟩⟩, PySem.W.mg_of X G aCTokenWalk, PySem.W.mg_of X G aCNoWord, xcls_value qCNoWord, clTokenWalk⟩
  refine ⟨PySem.W.fnOf "law" "law" (defArgs s_law) (defBody s_law) (defScope s_law) .none kV doc pm an cdv ct, fun s v => .of_eq rfl, fun base _ _ => ?_⟩
  have CA_is_name := Cal.of (all_is_name (P := l.prog) (w := w) (base := base) F0 B) b0 F0.kp m0
  have CA_is_leaf := Cal.of (all_is_leaf (P := l.prog) (w := w) (base := base) F1 B) b1 F1.kp m1
  have CA_turned := Cal.of (all_turned (P := l.prog) (w := w) (base := base) F2 b2 m2 B CA_is_leaf 63) b2 F2.kp m2
  have CA_TokenWalk_init : CalI l.prog w K mg base 2 C_TokenWalk ["self", "tokens"] (sp_init C_TokenWalk) := ⟨_, _, ⟨mATokenWalk, m3.at_, m3.fn, mKTokenWalk⟩, ⟨_, rfl, all_TokenWalk_init (P := l.prog) (w := w) (base := base) F3 B xf⟩, b3⟩
  have CA_TokenWalk_take : CalM l.prog w K mg base 1 C_TokenWalk "take" ["self"] (sp_take C_TokenWalk) := ⟨_, _, m4, all_TokenWalk_take (P := l.prog) (w := w) (base := base) F4 B xf, b4⟩
  have CA_shown_word := Cal.of (all_shown_word (P := l.prog) (w := w) (base := base) F5 b5 m5 B CA_is_leaf 63) b5 F5.kp m5
  have CA_shown_row := Cal.of (all_shown_row (P := l.prog) (w := w) (base := base) F6 B CA_shown_word) b6 F6.kp m6
  have CA_tokens_of := Cal.of (all_tokens_of (P := l.prog) (w := w) (base := base) F7 B) b7 F7.kp m7
  have MU_word_from := all_word_from (P := l.prog) (w := w) (base := base) F8 b8 m8 F9 b9 m9 B CA_TokenWalk_take CA_is_name CA_turned 60
  have CA_word_from : Cal3X l.prog w K mg base 186 "word_from" ["walk", "depth"] (sp_wordX C_TokenWalk C_NoWord 60) := ⟨_, _, MU_word_from.1, b8, F8.kp, m8⟩
  have CA_pair_from : Cal3X l.prog w K mg base 187 "pair_from" ["walk", "depth"] (sp_pairX C_TokenWalk C_NoWord 60) := ⟨_, _, MU_word_from.2, b9, F9.kp, m9⟩
  have CA_read_word : Cal3X l.prog w K mg base 187 "read_word" ["line"] (sp_readX C_NoWord) := ⟨_, _, all_read_word (P := l.prog) (w := w) (base := base) F10 B CA_TokenWalk_init CA_tokens_of CA_word_from CA_TokenWalk_take, b10, F10.kp, m10⟩
  have CA_read_row : Cal3X l.prog w K mg base 188 "read_row" ["line"] (sp_rowX C_NoWord) := ⟨_, _, all_read_row (P := l.prog) (w := w) (base := base) F11 B CA_read_word, b11, F11.kp, m11⟩
  have CA__law_letters := Cal.of (all__law_letters (P := l.prog) (w := w) (base := base) F12 B) b12 F12.kp m12
  have CA__law_words := Cal.of (all__law_words (P := l.prog) (w := w) (base := base) F13 B CA__law_letters) b13 F13.kp m13
  have CA__law_one := Cal.of (all__law_one (P := l.prog) (w := w) (base := base) F14 B) b14 F14.kp m14
  have CA__law_runs := Cal.of (all__law_runs (P := l.prog) (w := w) (base := base) F15 B) b15 F15.kp m15
  have CA__law_refused := Cal.of (all__law_refused (P := l.prog) (w := w) (base := base) F16 B CA_read_row xf) b16 F16.kp m16
  exact FnOk.imp (all_law (P := l.prog) (w := w) (base := base) FL B CA__law_runs CA__law_one CA__law_words CA_shown_word CA_shown_row CA_read_row CA__law_refused) fun vs H Q E q => top_dn q
end K06

open PySem PySem.W PyProof.Rows
set_option maxRecDepth 100000 in
set_option maxHeartbeats 0 in
theorem PySem.Challenge.cw_oncewise_k06_rows_holds : PySem.Challenge.rw_oncewise_k06_rows.Holds := by
  w_on; o_law; z_head; (case hw => w_witness2)
  k_fill
  refine L2.walk_ofZ (l := PySem.Challenge.rw_oncewise_k06_rows) (n := 63) (k := 190) (x := "_law_script") (CX := L2.CX0) (sp := L3.spTop) rfl (by decide) rfl ⟨rfl, by decide, by decide⟩ (fun _ => rfl) (by decide) ?F ?S ?C
  case F =>
    intro w mg fa h KX G hmg
    refine' K06.all_mk KX G hmg ?D0 ?D1 ?D2 ?D3 ?D4 ?D5 ?D6 ?D7 ?D8 ?D9 ?D10 ?D11 ?D12 ?D13 ?D14 ?D15 ?D16 ?D17 ?aMOST_LETTERS ?aLEAF_KINDS ?lLEAF_KINDS ?aTURNED_KINDS ?lTURNED_KINDS ?hTURNED_KINDS ?aMIDDLE_SIGNS ?lMIDDLE_SIGNS ?hMIDDLE_SIGNS ?aMARKS ?aMOST_DEPTH ?aPAIR_KINDS ?lPAIR_KINDS ?hPAIR_KINDS ?aCTokenWalk ?aCNoWord ?qCNoWord ?clTokenWalk ?mATokenWalk ?mKTokenWalk ?xf ?zall ?zlen ?zrange ?zValueError ?zisinstance ?zlist ?zsum
    (case aCTokenWalk => k_is)
    (case aCNoWord => k_is)
    (case D0 => refine' L2.def_in ?a ?l ?c ?k; (case a => k_is); (case l => k_is); (case c => k_is); (case k => k_is))
    (case D1 => refine' L2.def_in ?a ?l ?c ?k; (case a => k_is); (case l => k_is); (case c => k_is); (case k => k_is))
    (case D2 => refine' L2.def_in ?a ?l ?c ?k; (case a => k_is); (case l => k_is); (case c => k_is); (case k => k_is))
    (case D3 => refine' L3.meth_in ?a ?l ?c ?k ?i; (case a => k_is); (case l => k_is); (case c => k_is); (case k => k_is); (case i => k_is))
    (case D4 => refine' L3.meth_in ?a ?l ?c ?k ?i; (case a => k_is); (case l => k_is); (case c => k_is); (case k => k_is); (case i => k_is))
    (case D5 => refine' L2.def_in ?a ?l ?c ?k; (case a => k_is); (case l => k_is); (case c => k_is); (case k => k_is))
    (case D6 => refine' L2.def_in ?a ?l ?c ?k; (case a => k_is); (case l => k_is); (case c => k_is); (case k => k_is))
    (case D7 => refine' L2.def_in ?a ?l ?c ?k; (case a => k_is); (case l => k_is); (case c => k_is); (case k => k_is))
    (case D8 => refine' L2.def_in ?a ?l ?c ?k; (case a => k_is); (case l => k_is); (case c => k_is); (case k => k_is))
    (case D9 => refine' L2.def_in ?a ?l ?c ?k; (case a => k_is); (case l => k_is); (case c => k_is); (case k => k_is))
    (case D10 => refine' L2.def_in ?a ?l ?c ?k; (case a => k_is); (case l => k_is); (case c => k_is); (case k => k_is))
    (case D11 => refine' L2.def_in ?a ?l ?c ?k; (case a => k_is); (case l => k_is); (case c => k_is); (case k => k_is))
    (case D12 => refine' L2.def_in ?a ?l ?c ?k; (case a => k_is); (case l => k_is); (case c => k_is); (case k => k_is))
    (case D13 => refine' L2.def_in ?a ?l ?c ?k; (case a => k_is); (case l => k_is); (case c => k_is); (case k => k_is))
    (case D14 => refine' L2.def_in ?a ?l ?c ?k; (case a => k_is); (case l => k_is); (case c => k_is); (case k => k_is))
    (case D15 => refine' L2.def_in ?a ?l ?c ?k; (case a => k_is); (case l => k_is); (case c => k_is); (case k => k_is))
    (case D16 => refine' L2.def_in ?a ?l ?c ?k; (case a => k_is); (case l => k_is); (case c => k_is); (case k => k_is))
    (case D17 => refine' L2.def_in ?a ?l ?c ?k; (case a => k_is); (case l => k_is); (case c => k_is); (case k => k_is))
    (case aMOST_LETTERS => k_is)
    (case aLEAF_KINDS => k_is)
    (case lLEAF_KINDS => k_is)
    (case aTURNED_KINDS => k_is)
    (case lTURNED_KINDS => k_is)
    (case hTURNED_KINDS => rfl)
    (case aMIDDLE_SIGNS => k_is)
    (case lMIDDLE_SIGNS => k_is)
    (case hMIDDLE_SIGNS => rfl)
    (case aMARKS => k_is)
    (case aMOST_DEPTH => k_is)
    (case aPAIR_KINDS => k_is)
    (case lPAIR_KINDS => k_is)
    (case hPAIR_KINDS => rfl)
    (case qCNoWord => k_exc)
    (case clTokenWalk => refine' L2.Cls.mk ?pg ?hd ?po ?sa; (case pg => k_is); (case hd => k_is); (case po => k_is); (case sa => k_is))
    (case mATokenWalk => k_is)
    (case mKTokenWalk => k_is)
    (case xf => (refine' L3.XF6.mk ?xw ?xe; (case xw => (refine' L3.XFW.mk ?cl ?nt ?na; (case cl => (refine' L2.Cls.mk ?pg ?hd ?po ?sa; (case pg => k_is); (case hd => k_is); (case po => k_is); (case sa => k_is))); (case nt => (unfold L2.NoAttr; k_is)); (case na => (unfold L2.NoAttr; k_is)))); (case xe => (refine' L3.XF06.mk ?hd ?em ?ve; (case hd => (refine' L3.xhd_of ?ga ?gt ?cl ?ge ?tk ?mo ?be ?h; (case ga => k_is); (case gt => k_is); (case cl => k_is); (case ge => k_is); (case tk => k_is); (case mo => k_is); (case be => k_is); (case h => k_is))); (case em => (refine' L3.exm_own ?h0 ?h1 ?h2 ?h3; (case h0 => k_is); (case h1 => k_is); (case h2 => k_is); (case h3 => k_is))); (case ve => (refine' L3.kit_blt ?a ?b; (case a => rfl); (case b => k_is)))))))
    (case zall => k_is)
    (case zlen => k_is)
    (case zrange => k_is)
    (case zValueError => k_is)
    (case zisinstance => k_is)
    (case zlist => k_is)
    (case zsum => k_is)
  case S => exact L3.top_start
  case C => exact fun _ _ _ _ z => z
#print axioms PySem.Challenge.cw_oncewise_k06_rows_holds
