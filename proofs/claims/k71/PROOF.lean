import PyProof.Rows.All
import Wide.All
import OpenK.AllK
import Wide.FinOn
import Lean
import PyProof.EqAt
import PyProof.EqKinds
import PyProof.TupleCall
import PyProof.NeKinds
import PySem.Challenge.RW_oncewise_k71_ways_to_link
import OpenK.ZGo
set_option Elab.async false
set_option linter.all false
set_option maxRecDepth 100000
/-! THE HAND LAYER, for ints, bools, texts, own classes, DICTS (int and text keys), calls, loops. Paste it whole ahead of your own text; what your proof does not reach may be deleted. -/
namespace L2
open PySem PyProof.Rows
/-! ### tokens never fall -/
theorem runs_toks {M : Model} {Γ : Ctx} {p : Pos} {t : Sem Fin} {fs : List Frame} {s s' : Shared} {e : End} (h : Runs M Γ p t fs s e s') : s.toks ≤ s'.toks := by
  induction h with
  | fresh _ ih => exact Nat.le_trans (Nat.le_succ _) ih
  | call _ _ ih1 ih2 => exact Nat.le_trans ih1 ih2
  | resumeFresh _ _ _ _ ih1 ih2 => exact Nat.le_trans ih1 ih2
  | resumeSuspended _ _ _ _ ih1 ih2 => exact Nat.le_trans ih1 ih2
  | segRet _ _ ih1 ih2 => exact Nat.le_trans ih1 ih2
  | segGen _ _ ih1 ih2 => exact Nat.le_trans ih1 ih2
  | segSuspGen _ _ _ _ ih1 ih2 => exact Nat.le_trans ih1 ih2
  | _ => first | exact Nat.le_refl _ | assumption
theorem wakes_toks {M : Model} {Γ : Ctx} {p : Pos} {g : Nat} {r : Resume} {s s' : Shared} {res : GenResult} (h : Wakes M Γ p g r s res s') : s.toks ≤ s'.toks := by
  unfold Wakes at h
  split at h
  · exact h.elim
  · split at h
    · obtain ⟨e, s1, hr, _, _, rfl⟩ := h; have q := runs_toks hr; exact q
    · obtain ⟨_, rfl⟩ := h; exact Nat.le_refl _
    · obtain ⟨_, rfl⟩ := h; exact Nat.le_refl _
  · obtain ⟨e, s1, hr, _, _, rfl⟩ := h; have q := runs_toks hr; exact q
  · obtain ⟨_, rfl⟩ := h; exact Nat.le_refl _
  · obtain ⟨_, rfl⟩ := h; exact Nat.le_refl _
theorem wp_toks {α : Type} {M : Model} {Γ : Ctx} (t : Sem α) : ∀ {Q : α → Pos → Shared → Prop} {E : Value → Pos → Shared → Prop} {p : Pos} {s : Shared} (n : Nat), n ≤ s.toks → Sem.wp M Γ t Q E p s → Sem.wp M Γ t (fun a p' s' => Q a p' s' ∧ n ≤ s'.toks) (fun e p' s' => E e p' s' ∧ n ≤ s'.toks) p s := by
  induction t with
  | pure a => intro Q E p s n hn h; exact ⟨h, hn⟩
  | raise e => intro Q E p s n hn h; exact ⟨h, hn⟩
  | load a part k ih => intro Q E p s n hn ⟨o, h1, h2⟩; exact ⟨o, h1, ih o n hn h2⟩
  | update a part f k ih => intro Q E p s n hn ⟨h1, h2⟩; exact ⟨h1, ih () n hn h2⟩
  | fresh k ih => intro Q E p s n hn h; exact ih s.toks n (Nat.le_trans hn (Nat.le_succ _)) h
  | choose src m k ih => intro Q E p s n hn ⟨h1, h2⟩; exact ⟨h1, ih _ n hn h2⟩
  | call c hd g l k ih => intro Q E p s n hn ⟨r, s', h1, h2⟩; exact ⟨r, s', h1, ih r n (Nat.le_trans hn (runs_toks h1)) h2⟩
  | genState g k ih => intro Q E p s n hn ⟨st, h1, h2⟩; exact ⟨st, h1, ih _ n hn h2⟩
  | resume g r l k ih => intro Q E p s n hn ⟨res, s', h1, h2⟩; exact ⟨res, s', h1, ih _ n (Nat.le_trans hn (wakes_toks h1)) h2⟩
  | rule tag k ih => intro Q E p s n hn h; exact ih () n hn h
  | «at» pos k ih => intro Q E p s n hn h; exact ih () n hn h
  | alloc o k ih => intro Q E p s n hn h; exact ih _ n hn h
  | loadIfAlive a k ih => intro Q E p s n hn h; exact ih _ n hn h
  | point l k ih => intro Q E p s n hn h; exact ih _ n hn h
  | ask k ih => intro Q E p s n hn h; exact ih _ n hn h
  | os q l k ih => intro Q E p s n hn h; exact ih _ n hn h
  | handled own k ih => intro Q E p s n hn h; exact ih _ n hn h
  | newGen c k ih => intro Q E p s n hn h; exact ih _ n hn h
  | stack k ih => intro Q E p s n hn h; exact ih _ n hn h
  | thread k ih => intro Q E p s n hn h; exact ih _ n hn h
  | unsupported w => intro Q E p s n hn h; exact h.elim
  | finish e => intro Q E p s n hn h; exact h.elim
  | register a k ih => intro Q E p s n hn h; exact h.elim
  | yield v g l k ih => intro Q E p s n hn h; exact h.elim
  | fork c k ih => intro Q E p s n hn h; exact h.elim
  | await a f d l k ih => intro Q E p s n hn h; exact h.elim
/-- behind a tree the tokens are no fewer -/
theorem wpAny_toks {α : Type} {M : Model} {A : Around} {t : Sem α} {Q : α → Shared → Prop} {E : Value → Shared → Prop} {s : Shared} (h : wpAny M A t Q E s) : wpAny M A t (fun a s' => Q a s' ∧ s.toks ≤ s'.toks) (fun e s' => E e s' ∧ s.toks ≤ s'.toks) s :=
  fun Γ p hΓ => wp_toks t s.toks (Nat.le_refl _) (h Γ p hΓ)
theorem wpAny_pos {α : Type} {M : Model} {A : Around} {t : Sem α} {Q : α → Shared → Prop} {E : Value → Shared → Prop} {s : Shared} (hp : 0 < s.toks) (h : wpAny M A t (fun a s' => 0 < s'.toks → Q a s') (fun e s' => 0 < s'.toks → E e s') s) : wpAny M A t Q E s :=
  wpAny_mono (wpAny_toks h) (fun _ _ z => z.1 (Nat.lt_of_lt_of_le hp z.2)) fun _ _ z => z.1 (Nat.lt_of_lt_of_le hp z.2)
end L2
namespace L2
open PySem PySem.Spec PyProof.Rows

/-- a key: an int or a str -/
abbrev Key := Sum Int Str
def keyIs : Key → Value → Bool
  | .inl k, v => Value.isInt k v
  | .inr x, v => Value.isStrOf x v
def keyH (w : World) : Key → Int
  | .inl k => hashInt k
  | .inr x => hashStr w x
theorem keyIs_shape : ∀ {k : Key} {v : Value}, keyIs k v = true → (∃ i t, k = Sum.inl i ∧ v = Value.int i t) ∨ (∃ x t, k = Sum.inr x ∧ v = Value.str x t)
  | .inl i, v, h => by
    obtain ⟨t, e⟩ := Value.isInt_shape (k := i) (v := v) h
    exact .inl ⟨i, t, rfl, e⟩
  | .inr x, v, h => by
    obtain ⟨t, e⟩ := Value.isStrOf_shape (x := x) (v := v) h
    exact .inr ⟨x, t, rfl, e⟩
theorem keyIs_int (i : Int) (t : Tok) : keyIs (.inl i) (.int i t) = true := by simp [keyIs, Value.isInt]
theorem keyIs_str (x : Str) (t : Tok) : keyIs (.inr x) (.str x t) = true := by simp [keyIs, Value.isStrOf]
theorem key_ll (a b : Int) : decide ((Sum.inl a : Key) = Sum.inl b) = (a == b) := by
  by_cases e : a = b
  · subst e; simp
  · have h : ¬ (Sum.inl a : Key) = Sum.inl b := fun q => e (Sum.inl.inj q)
    rw [decide_eq_false h]
    exact (beq_eq_false_iff_ne.mpr e).symm
theorem key_rr (a b : Str) : decide ((Sum.inr a : Key) = Sum.inr b) = decide (a = b) := by
  by_cases e : a = b
  · subst e; simp
  · have h : ¬ (Sum.inr a : Key) = Sum.inr b := fun q => e (Sum.inr.inj q)
    rw [decide_eq_false h, decide_eq_false e]
theorem key_lr (a : Int) (b : Str) : decide ((Sum.inl a : Key) = Sum.inr b) = false := decide_eq_false (fun q => nomatch q)
theorem key_rl (a : Str) (b : Int) : decide ((Sum.inr a : Key) = Sum.inl b) = false := decide_eq_false (fun q => nomatch q)

def mixKind (prog : Program) (w : World) : PySem.KeyKind prog w Key where
  is := keyIs
  hash := keyH w
  inj := fun v a b ha hb => by
    rcases keyIs_shape ha with ⟨i, t, rfl, rfl⟩ | ⟨x, t, rfl, rfl⟩
    · rcases keyIs_shape hb with ⟨j, u, rfl, e⟩ | ⟨y, u, rfl, e⟩
      · injection e with e1 _; rw [e1]
      · exact nomatch e
    · rcases keyIs_shape hb with ⟨j, u, rfl, e⟩ | ⟨y, u, rfl, e⟩
      · exact nomatch e
      · injection e with e1 _; rw [e1]
  byValue := fun k v h => by
    rcases keyIs_shape h with ⟨i, t, rfl, rfl⟩ | ⟨x, t, rfl, rfl⟩ <;> rfl
  pyHash := fun hv h => by
    rcases keyIs_shape hv with ⟨i, t, rfl, rfl⟩ | ⟨x, t, rfl, rfl⟩
    · exact wpAny_pyHash_int h
    · exact wpAny_pyHash_str h
  eqBool := fun hu hv h => by
    rcases keyIs_shape hu with ⟨i, t, rfl, rfl⟩ | ⟨x, t, rfl, rfl⟩
    · rcases keyIs_shape hv with ⟨j, u, rfl, rfl⟩ | ⟨y, u, rfl, rfl⟩
      · rw [key_ll] at h; exact wpAny_eqBool_int h
      · rw [key_lr] at h; exact SeqAt.EqAt.int_str i t y u _ _ _ _ h
    · rcases keyIs_shape hv with ⟨j, u, rfl, rfl⟩ | ⟨y, u, rfl, rfl⟩
      · rw [key_rl] at h; exact SeqAt.EqAt.str_int x t j u _ _ _ _ h
      · rw [key_rr] at h; exact wpAny_eqBool_str h
  «strs» := fun k x t v h => by
    rcases keyIs_shape h with ⟨i, u, rfl, e⟩ | ⟨y, u, rfl, e⟩
    · exact nomatch e
    · injection e with e1 _
      subst e1
      cases v <;> rfl

theorem mixKind_int (prog : Program) (w : World) (i : Int) (t : Tok) : (mixKind prog w).is (.inl i) (.int i t) = true := keyIs_int i t
theorem mixKind_str (prog : Program) (w : World) (x : Str) (t : Tok) : (mixKind prog w).is (.inr x) (.str x t) = true := keyIs_str x t
end L2

namespace L2
open PySem PySem.Spec PyProof.Rows

/-- a value, without the heap -/
inductive V where
  | non | bl (b : Bool) | int (i : Int) | str (x : Str) | byt (b : Array UInt8) | flt (b : UInt64) | ref (a : Addr) | ty (n : String)
  deriving DecidableEq

def RelV : V → Value → Prop
  | .non, u => u = Value.none
  | .bl b, u => u = Value.bool b
  | .int i, u => ∃ t, u = Value.int i t
  | .str x, u => ∃ t, u = Value.str x t
  | .byt b, u => ∃ t, u = Value.bytes b t
  | .flt b, u => ∃ t, u = Value.float b t
  | .ref a, u => u = Value.ref a
  | .ty n, u => u = Value.type n

abbrev Vals : List V → List Value → Prop := Paired RelV
theorem Vals.length {xs : List V} {us : List Value} (r : Vals xs us) : xs.length = us.length := Paired.length r
theorem Vals.get : ∀ {xs : List V} {us : List Value} {i : Nat} {x : V}, Vals xs us → xs[i]? = some x → ∃ u, us[i]? = some u ∧ RelV x u
  | _, _, _, _, .nil, e => by simp at e
  | _, _, 0, _, .cons r _, e => by simp at e; subst e; exact ⟨_, rfl, r⟩
  | _, _, i + 1, x, .cons _ t, e => by
    obtain ⟨u, h1, h2⟩ := Vals.get (i := i) (x := x) t (by simpa using e)
    exact ⟨u, by simpa using h1, h2⟩
theorem Vals.append : ∀ {xs ys : List V} {us ws : List Value}, Vals xs us → Vals ys ws → Vals (xs ++ ys) (us ++ ws)
  | _, _, _, _, .nil, s => s
  | _, _, _, _, .cons r t, s => .cons r (Vals.append t s)
theorem Vals.take : ∀ {xs : List V} {us : List Value} (n : Nat), Vals xs us → Vals (xs.take n) (us.take n)
  | _, _, 0, _ => .nil
  | _, _, _ + 1, .nil => .nil
  | _, _, n + 1, .cons r t => .cons r (Vals.take n t)
theorem Vals.drop : ∀ {xs : List V} {us : List Value} (n : Nat), Vals xs us → Vals (xs.drop n) (us.drop n)
  | _, _, 0, r => r
  | _, _, _ + 1, .nil => .nil
  | _, _, n + 1, .cons _ t => Vals.drop n t

def RelO : Option V → Option Value → Prop
  | some v, some u => RelV v u
  | none, none => True
  | _, _ => False
def KV {κ : Type} : List (κ × V) → List (κ × Value) → Prop := Paired fun (p : κ × V) (q : κ × Value) => p.1 = q.1 ∧ RelV p.2 q.2

/-- a key of a dict (00_mix): an int or a text -/
def kV : Key → V
  | .inl i => .int i
  | .inr x => .str x

/-- what stands at a tracked address -/
inductive HO where
  /-- a list -/
  | lst (xs : List V)
  /-- a tuple (never changes) -/
  | tup (xs : List V)
  /-- a dict whose keys are ints and texts; one whose keys are tuples of ints and texts (the empty one is both) -/
  | dK (kvs : List (Key × V)) | dT (kvs : List (List Key × V))
  /-- a set of ints: its members, its size -/
  | set (S : Int → Bool) (n : Nat)
  /-- an instance of the class at C, its dict at dx, its attributes -/
  | ins (C dx : Addr) (fs : List (Str × V))
  /-- the dict of the instance at x -/
  | own (x : Addr)
  /-- the dict of an exception -/
  | xd (fs : List (Str × V))
  /-- a bound method, f of x -/
  | met (f x : Addr)
  /-- a range object lo, lo + 1, .. below hi -/
  | rng (lo hi : Int)
  /-- a thing that is known to the object (the script; a dict while a loop walks it): read, never written while it is so -/
  | frz (o : Obj) (u : HO)
  /-- a code object's table -/
  | tbl (ps : Array Value)
  /-- any other thing, by what is true of its one object (a def of one's own: SetO a S n := HO.ext fun h => ..) -/
  | ext (φ : Heap → Prop)

abbrev Hp := Addr → Option HO
def upd (H : Hp) (a : Addr) (o : HO) : Hp := fun b => if b = a then some o else H b
theorem upd_same {H : Hp} {a : Addr} {o : HO} : upd H a o a = some o := by unfold upd; rw [if_pos rfl]
theorem upd_ne {H : Hp} {a b : Addr} {o : HO} (h : b ≠ a) : upd H a o b = H b := by unfold upd; rw [if_neg h]
theorem upd_upd {H : Hp} {a : Addr} {o u : HO} : upd (upd H a o) a u = upd H a u := by
  funext b; unfold upd; split <;> rfl
/-- two objects of different content stand apart -/
theorem ne_of {H : Hp} {a b : Addr} {o u : HO} (h : H a = some o) (h' : H b = some u) (d : o ≠ u) : a ≠ b := by
  intro e; subst e; rw [h] at h'; exact d (Option.some.inj h')
theorem ne_of_none {H : Hp} {a b : Addr} {o : HO} (h : H a = some o) (h' : H b = none) : a ≠ b := by
  intro e; subst e; rw [h] at h'; cases h'

section
variable (P : Program) (w : World)
def ObjOk (H : Hp) (h : Heap) (a : Addr) : HO → Prop
  | .lst xs => xs.length ≤ sizeLine ∧ ∃ (its : List Value) (n : Nat), Vals xs its ∧ h.get? a = some { cls := .type "list", data := .seq its.toArray n }
  | .tup xs => xs.length ≤ sizeLine ∧ ∃ its : List Value, Vals xs its ∧ IsTup h a its.toArray
  | .dK kvs => kvs.length ≤ sizeLine ∧ (a == sysModules) = false ∧ ∃ vs, KV kvs vs ∧ h.DictOf (mixKind P w) a vs
  | .dT kvs => kvs.length ≤ sizeLine ∧ (a == sysModules) = false ∧ ∃ xs : List (List Key × Addr × Value),
      Paired (fun (p : List Key × V) (q : List Key × Addr × Value) => p.1 = q.1 ∧ H q.2.1 = some (.tup (p.1.map kV)) ∧ RelV p.2 q.2.2) kvs xs ∧
      ∃ o es ep, h.get? a = some o ∧ o.ExactDict ∧ o.data = .dict es ep ∧ es.toList = xs.map (entryOfKey (tupleKind (mixKind P w))) ∧ (xs.map (·.1)).Nodup
  | .set S n => h.SetOf (intKind P w) a S n
  | .ins C dx fs => H dx = some (.own a) ∧ fs.length ≤ 1000 ∧ dx ≠ a ∧ h.get? a = some (PySem.W.instObj C dx) ∧
      ∃ mA, h.Ns1 dx mA ∧ (∀ f, RelO (fs.lookup f) (mA f)) ∧ PySem.Within mA (fs.map (·.1))
  | .own _ => ∃ o, h.get? a = some o
  | .xd fs => ∃ mA, h.Ns1 a mA ∧ ∀ f, RelO (fs.lookup f) (mA f)
  | .rng lo hi => ∃ t u v, h.get? a = some { cls := .type "range", data := .fields #[.int lo t, .int hi u, .int 1 v] }
  | .frz o u => h.get? a = some o ∧ ObjOk H h a u
  | .tbl ps => h.get? a = some { cls := .none, data := .fields ps }
  | .met f x => h.get? a = some (PySem.W.methodObj (.ref f) (.ref x))
  | .ext φ => φ h ∧ (∃ o, h.get? a = some o) ∧ ∀ h1 h2 : Heap, φ h1 → (∀ o, h1.get? a = some o → h2.get? a = some o) → φ h2
/-- the abstract heap is held -/
def HOk (H : Hp) (h : Heap) : Prop := ∀ a o, H a = some o → ObjOk P w H h a o
end

section
variable {P : Program} {w : World} {H H' : Hp} {h h' : Heap} {a : Addr} {o : HO}
theorem ObjOk.lt (x : ObjOk P w H h a o) : a < h.objs.size := by
  cases o with
  | lst xs => obtain ⟨_, _, _, _, e⟩ := x; exact Heap.lt_size e
  | tup xs => obtain ⟨_, _, _, p⟩ := x; exact p.lt
  | dK kvs => obtain ⟨_, _, _, _, o, _, _, e, _⟩ := x; exact Heap.lt_size e
  | dT kvs => obtain ⟨_, _, _, _, o, _, _, e, _⟩ := x; exact Heap.lt_size e
  | set S n => obtain ⟨o, _, _, _, e, _⟩ := x; exact Heap.lt_size e
  | ins C dx fs => obtain ⟨_, _, _, e, _⟩ := x; exact Heap.lt_size e
  | own y => obtain ⟨_, e⟩ := x; exact Heap.lt_size e
  | xd fs => obtain ⟨_, ⟨_, _, _, e, _⟩, _⟩ := x; exact Heap.lt_size e
  | rng lo hi => obtain ⟨_, _, _, e⟩ := x; exact Heap.lt_size e
  | frz ob u => obtain ⟨e, _⟩ := x; exact Heap.lt_size e
  | tbl ps => exact Heap.lt_size (show h.get? a = some _ from x)
  | met f y => exact Heap.lt_size (show h.get? a = some _ from x)
  | ext φ => obtain ⟨_, ⟨_, e⟩, _⟩ := x; exact Heap.lt_size e
theorem Paired.mapP {α β : Type} {F G : α → β → Prop} : ∀ {l₁ : List α} {l₂ : List β}, Paired F l₁ l₂ → (∀ a b, F a b → G a b) → Paired G l₁ l₂
  | _, _, .nil, _ => .nil
  | _, _, .cons r t, f => .cons (f _ _ r) (Paired.mapP t f)
/-- what an object's description leans on: its own object, its own dict, the tuples -/
theorem ObjOk.stay (x : ObjOk P w H h a o) (k : ∀ b u, (b = a ∨ H b = some (.own a)) → h.get? b = some u → h'.get? b = some u)
    (ho : ∀ b, H b = some (.own a) → H' b = some (.own a)) (ht : ∀ b xs, H b = some (.tup xs) → H' b = some (.tup xs)) : ObjOk P w H' h' a o := by
  induction o with
  | lst xs => obtain ⟨z, its, n, r, e⟩ := x; exact ⟨z, its, n, r, k _ _ (.inl rfl) e⟩
  | tup xs => obtain ⟨z, its, r, ob, e, c⟩ := x; exact ⟨z, its, r, ob, k _ _ (.inl rfl) e, c⟩
  | dK kvs => obtain ⟨z, y, vs, r, ob, es, ep, e, c⟩ := x; exact ⟨z, y, vs, r, ob, es, ep, k _ _ (.inl rfl) e, c⟩
  | dT kvs =>
    obtain ⟨z, y, xs, r, ob, es, ep, e, c⟩ := x
    exact ⟨z, y, xs, Paired.mapP r fun p q z => ⟨z.1, ht _ _ z.2.1, z.2.2⟩, ob, es, ep, k _ _ (.inl rfl) e, c⟩
  | set S n => obtain ⟨ob, es, ep, t, e, c⟩ := x; exact ⟨ob, es, ep, t, k _ _ (.inl rfl) e, c⟩
  | ins C dx fs =>
    obtain ⟨d, z, ne, e, mA, ⟨od, es, ep, e2, c⟩, r⟩ := x
    exact ⟨ho _ d, z, ne, k _ _ (.inl rfl) e, mA, ⟨od, es, ep, k _ _ (.inr d) e2, c⟩, r⟩
  | own y => obtain ⟨ob, e⟩ := x; exact ⟨ob, k _ _ (.inl rfl) e⟩
  | xd fs => obtain ⟨mA, ⟨od, es, ep, e, c⟩, r⟩ := x; exact ⟨mA, ⟨od, es, ep, k _ _ (.inl rfl) e, c⟩, r⟩
  | rng lo hi => obtain ⟨t, u, v, e⟩ := x; exact ⟨t, u, v, k _ _ (.inl rfl) e⟩
  | frz ob u ih => obtain ⟨e, q⟩ := x; exact ⟨k _ _ (.inl rfl) e, ih q⟩
  | tbl ps =>
    have e : h.get? a = some { cls := .none, data := .fields ps } := x
    show h'.get? a = some { cls := .none, data := .fields ps }
    exact k a _ (.inl rfl) e
  | met f y =>
    have e : h.get? a = some (PySem.W.methodObj (.ref f) (.ref y)) := x
    show h'.get? a = some (PySem.W.methodObj (.ref f) (.ref y))
    exact k a _ (.inl rfl) e
  | ext φ => obtain ⟨p, ⟨o, e⟩, st⟩ := x; exact ⟨st _ _ p fun o q => k _ _ (.inl rfl) q, ⟨o, k _ _ (.inl rfl) e⟩, st⟩
theorem HOk.lt (x : HOk P w H h) (e : H a = some o) : a < h.objs.size := (x a o e).lt
theorem HOk.fresh (x : HOk P w H h) (e : h.objs.size ≤ a) : H a = none := by
  cases q : H a with
  | none => rfl
  | some u => exact absurd (Nat.lt_of_lt_of_le (x.lt q) e) (Nat.lt_irrefl _)
/-- every object of the heap is kept -/
theorem HOk.kept (x : HOk P w H h) (k : ∀ b u, h.get? b = some u → h'.get? b = some u) : HOk P w H h' := fun a o e =>
  (x a o e).stay (fun b u _ q => k b u q) (fun _ q => q) fun _ _ q => q
/-- a new object is laid and tracked -/
theorem HOk.laid (x : HOk P w H h) (k : ∀ b u, h.get? b = some u → h'.get? b = some u) (hp : h.objs.size ≤ a) (new : ObjOk P w (upd H a o) h' a o) : HOk P w (upd H a o) h' := fun b u e => by
  have hn := x.fresh hp
  by_cases hb : b = a
  · subst hb; rw [upd_same] at e; cases e; exact new
  · rw [upd_ne hb] at e
    exact (x b u e).stay (fun c v _ q => k c v q) (fun c q => by rw [upd_ne (ne_of_none q hn)]; exact q) fun c xs q => by rw [upd_ne (ne_of_none q hn)]; exact q
end

/-- what may be read as u: it is u, or a known u -/
def Rd (H : Hp) (a : Addr) (u : HO) : Prop := H a = some u ∨ ∃ o, H a = some (.frz o u)
theorem Rd.ok {P : Program} {w : World} {H : Hp} {h : Heap} {a : Addr} {u : HO} (r : Rd H a u) (x : HOk P w H h) : ObjOk P w H h a u := by
  rcases r with r | ⟨o, r⟩
  · exact x a u r
  · obtain ⟨_, q⟩ := x a _ r
    exact q
/-- what may be written -/
def Mut : Option HO → Prop
  | some (.lst _) => True
  | some (.dK _) => True
  | some (.dT _) => True
  | some (.set _ _) => True
  | some (.ins _ _ _) => True
  | some (.ext _) => True
  | _ => False
section
variable {P : Program} {w : World} {H : Hp} {h h' : Heap} {x e : Addr} {o' : HO}
/-- the object at e is changed: x itself, or the dict of the instance x -/
theorem HOk.write (ok : HOk P w H h) (mu : Mut (H x)) (he : e = x ∨ H e = some (.own x)) (k : ∀ b u, b ≠ e → h.get? b = some u → h'.get? b = some u) (heo : ∃ u, h'.get? e = some u)
    (new : ObjOk P w (upd H x o') h' x o') : HOk P w (upd H x o') h' := fun b u q => by
  have nown : ∀ c y, H c = some (.own y) → c ≠ x := fun c y r z => by subst z; rw [r] at mu; exact mu
  have ntup : ∀ c xs, H c = some (.tup xs) → c ≠ x := fun c xs r z => by subst z; rw [r] at mu; exact mu
  by_cases hb : b = x
  · subst hb; rw [upd_same] at q; cases q; exact new
  · rw [upd_ne hb] at q
    by_cases hbe : b = e
    · have q' : H b = some (.own x) := by
        rcases he with z | z
        · exact absurd (hbe.trans z) hb
        · rw [hbe]; exact z
      rw [q] at q'; cases q'
      obtain ⟨v, hv⟩ := heo
      exact ⟨v, by rw [hbe]; exact hv⟩
    · refine (ok b u q).stay (fun c v hc r => k c v ?_ r) (fun c r => by rw [upd_ne (nown c b r)]; exact r) fun c xs r => by rw [upd_ne (ntup c xs r)]; exact r
      rcases hc with rfl | hc
      · exact hbe
      · rintro rfl
        rcases he with z | z
        · exact nown c b hc z
        · rw [hc] at z; cases z; exact hb rfl
end

/-! ### kept unless tracked; of the frames at fs (the callers') the slots may change (an exception that passes writes there); of the records at ex (iterators) nothing is said -/
structure Un (fs ex : List Addr) (H H' : Hp) (h h' : Heap) : Prop where
  keep : ∀ b o, h.get? b = some o → H b = none → b ∉ fs → b ∉ ex → h'.get? b = some o
  slot : ∀ b o, h.get? b = some o → H b = none → b ∈ fs → b ∉ ex → ∃ sl, h'.get? b = some { o with slots := sl }
  free : ∀ b o, h.get? b = some o → H b = none → b ∉ ex → H' b = none
  there : ∀ b o, h.get? b = some o → b ∉ ex → ∃ o', h'.get? b = some o'
  tups : ∀ b xs, H b = some (.tup xs) → H' b = some (.tup xs)
  frzs : ∀ b o u, H b = some (.frz o u) → H' b = some (.frz o u)
  tbls : ∀ b ps, H b = some (.tbl ps) → ∃ more, H' b = some (.tbl (ps ++ more))
section
variable {fs fs' ex ex' : List Addr} {H H1 H2 : Hp} {h h1 h2 h' : Heap} {a x e : Addr} {o : HO}
theorem Un.any (u : Un fs ex H H1 h h1) {b : Addr} {ob : Obj} (q : h.get? b = some ob) (n : H b = none) (hx : b ∉ ex) : ∃ sl, h1.get? b = some { ob with slots := sl } := by
  by_cases hb : b ∈ fs
  · exact u.slot b ob q n hb hx
  · exact ⟨ob.slots, u.keep b ob q n hb hx⟩
theorem Un.kept (k : ∀ b u, h.get? b = some u → h'.get? b = some u) : Un fs ex H H h h' :=
  ⟨fun b ob q _ _ _ => k b ob q, fun b ob q _ _ _ => ⟨ob.slots, k b ob q⟩, fun _ _ _ n _ => n, fun b ob q _ => ⟨ob, k b ob q⟩, fun _ _ q => q, fun _ _ _ q => q, fun _ ps q => ⟨#[], by rw [q]; simp⟩⟩
theorem Un.refl : Un fs ex H H h h := Un.kept fun _ _ q => q
theorem Un.laid (k : ∀ b u, h.get? b = some u → h'.get? b = some u) (hp : h.objs.size ≤ a) (hn : H a = none) : Un fs ex H (upd H a o) h h' where
  keep := fun b u q _ _ _ => k b u q
  slot := fun b u q _ _ _ => ⟨u.slots, k b u q⟩
  free := fun b u q n _ => by rw [upd_ne (Nat.ne_of_lt (Nat.lt_of_lt_of_le (Heap.lt_size q) hp))]; exact n
  there := fun b u q _ => ⟨u, k b u q⟩
  tups := fun b xs q => by rw [upd_ne (ne_of_none q hn)]; exact q
  frzs := fun b u xs q => by rw [upd_ne (ne_of_none q hn)]; exact q
  tbls := fun b ps q => ⟨#[], by rw [upd_ne (ne_of_none q hn), q]; simp⟩
theorem Un.write (mu : Mut (H x)) (he : e = x ∨ H e = some (.own x)) (k : ∀ b u, b ≠ e → h.get? b = some u → h'.get? b = some u) (heo : ∃ u, h'.get? e = some u) : Un fs ex H (upd H x o) h h' := by
  have hx : ∀ b, H b = none → b ≠ x := fun b n z => by subst z; rw [n] at mu; exact mu
  have hb : ∀ b, H b = none → b ≠ e := fun b n z => by
    subst z
    rcases he with r | r
    · exact hx b n r
    · rw [n] at r; cases r
  have hm : ∀ b u, H b = some u → ¬ Mut (some u) → b ≠ x := fun b u q nm z => by subst z; rw [q] at mu; exact nm mu
  refine ⟨fun b u q n _ _ => k b u (hb b n) q, fun b u q n _ _ => ⟨u.slots, k b u (hb b n) q⟩, fun b u q n _ => by rw [upd_ne (hx b n)]; exact n, fun b u q _ => ?_,
    fun b xs q => by rw [upd_ne (hm b _ q fun z => z)]; exact q, fun b u xs q => by rw [upd_ne (hm b _ q fun z => z)]; exact q, fun b ps q => ⟨#[], by rw [upd_ne (hm b _ q fun z => z), q]; simp⟩⟩
  by_cases hbe : b = e
  · subst hbe; exact heo
  · exact ⟨u, k b u hbe q⟩
end

/-! ### the heap without what is tracked -/
def trk (h : Heap) (H : Hp) : List Addr := (List.range h.objs.size).filter fun a => (H a).isSome
def hidT (h : Heap) (H : Hp) : Heap := PySem.W.hideAll h (trk h H)
theorem hidT_size (h : Heap) (H : Hp) : (hidT h H).objs.size = h.objs.size := PySem.W.hideAll_size _ _
theorem hidT_get {h : Heap} {H : Hp} {b : Addr} {o : Obj} (e : h.get? b = some o) (n : H b = none) : (hidT h H).get? b = some o :=
  PySem.W.hideAll_get _ e fun hm => by
    have q : (H b).isSome = true := (List.mem_filter.mp hm).2
    rw [n] at q; simp at q
theorem of_hidT {h : Heap} {H : Hp} {b : Addr} {o : Obj} (e : (hidT h H).get? b = some o) : h.get? b = some o ∧ H b = none := by
  have e' : h.get? b = some o := PySem.W.of_hideAll (trk h H) e
  refine ⟨e', ?_⟩
  cases q : H b with
  | none => rfl
  | some x =>
    have hm : b ∈ trk h H := List.mem_filter.mpr ⟨List.mem_range.mpr (Heap.lt_size e'), by simp [q]⟩
    have z : (hidT h H).get? b = none := PySem.W.hideAll_none (trk h H) hm
    rw [z] at e; cases e

/-! ### OpenK's ledger, filled with every new object but one -/
end L2

namespace L2
open PySem PySem.Spec PyProof.Rows

/-- the module's facts, over the base: the heap at the law's entry without what is tracked there -/
structure Mod (K : PySem.W.Frag) (mg : Str → Option Value) (base : Heap) : Prop where
  kin : K.In base
  glob : base.Ns mainGlobals mg
  blt : ∃ mb, base.Ns builtinsNs mb ∧ ∀ x : Str, x ≠ "__name__" → mb x = bootBuiltins x
  nolimit : base.NoLimit

/-- the context: a def's body (or a comprehension's block) running. base: fixed through the whole law; s₀, H₀: the entry; outer: the frames whose slots others may change (a def's callers); stack: all frames that run;
   ex: iterators that were made ahead of the entry and are walked here (a comprehension's); fn: the names whose cells were made at the entry (a def: all; a comprehension's block: its own); calm: not within an except suite; pn: pins that every state bears; xe: what is wanted of an exception that leaves the code -/
structure Cx where
  prog : Program
  w : World
  K : PySem.W.Frag
  mg : Str → Option Value
  base : Heap
  A : Around
  N : List Str
  s₀ : Shared
  H₀ : Hp
  env : Env
  outer : List Env
  stack : List Env
  ex : List Addr
  fn : Str → Bool
  calm : Bool
  pn : List (Addr × Obj)
  xe : Value → Shared → Prop
/-- the callers' frames -/
def frs (l : List Env) : List Addr := l.filterMap (·.frame)
abbrev Cx.fs (X : Cx) : List Addr := frs X.outer

def Vis (sc : Scope) (x : Str) : Prop := sc.names.lookup x = some .local ∨ sc.names.lookup x = some .cell ∨ sc.names.lookup x = some .free
def Loc (sc : Scope) (x : Str) : Prop := sc.names.lookup x = some .local ∨ sc.names.lookup x = some .cell
def Look (env : Env) (h : Heap) (m : Str → Option Value) (x : Str) (u : Value) : Prop :=
  (env.kindOf x = some .local ∧ m x = some u) ∨ ((env.kindOf x = some .cell ∨ env.kindOf x = some .free) ∧ ∃ c, env.cells.lookup x = some c ∧ h.IsCell c (some u))

structure Cx.Ok (X : Cx) : Prop where
  mod : Mod X.K X.mg X.base
  kind : X.env.scope.kind = .function
  glob : X.env.globals = mainGlobals
  blt : X.env.builtins = builtinsNs
  above : X.s₀.heap.objs.size ≤ X.env.locals
  inj : ∀ x y c, X.env.cells.lookup x = some c → X.env.cells.lookup y = some c → x = y
  has : ∀ x, (X.env.kindOf x = some .cell ∨ X.env.kindOf x = some .free) → ∃ c, X.env.cells.lookup x = some c
  cab : ∀ x c, X.fn x = true → X.env.cells.lookup x = some c → X.s₀.heap.objs.size ≤ c
  hd : X.calm = true → X.A.handled = none
  frames : X.A.frames = some X.stack
  stk : X.stack = X.outer ∨ (X.stack = X.env :: X.outer ∧ X.env.frame = some X.env.locals)
  exf : ∀ b ∈ X.ex, b ≠ X.env.locals ∧ ∀ x c, X.env.cells.lookup x = some c → c ≠ b
  bs : ∀ b o, X.base.get? b = some o → X.s₀.heap.get? b = some o ∧ X.H₀ b = none
  bsz : X.base.objs.size ≤ X.s₀.heap.objs.size
  noex : ∀ b o, X.base.get? b = some o → b ∉ X.ex
  exfs : ∀ b ∈ X.ex, b ∉ X.fs
  funs : X.s₀.heap.FunFrames X.base X.outer
  frf : ∀ b ∈ X.fs, X.H₀ b = none

structure Inv (X : Cx) (pins : List (Addr × Obj)) (σ : List (Option V)) (H : Hp) (s : Shared) : Prop where
  ok : X.Ok
  os : s.os = X.s₀.os
  bare : AllBare s.gens
  base : Un X.fs X.ex X.H₀ H X.s₀.heap s.heap
  loc : ∃ m, s.heap.Ns X.env.locals m ∧ ∀ (i : Nat) (x : Str) (v : V), X.N[i]? = some x → σ[i]? = some (some v) → Vis X.env.scope x → ∃ u, RelV v u ∧ Look X.env s.heap m x u
  cell : ∀ x c, X.env.cells.lookup x = some c → ∃ v, s.heap.IsCell c v
  free : H X.env.locals = none
  freeC : ∀ x c, X.env.cells.lookup x = some c → H c = none
  pin : ∀ p ∈ X.pn ++ pins, s.heap.get? p.1 = some p.2 ∧ H p.1 = none ∧ p.1 ≠ X.env.locals ∧ p.1 ∉ X.fs ∧ ∀ v, p.2.data ≠ .cell v
  hok : HOk X.prog X.w H s.heap
  len : σ.length = X.N.length
  tk : 0 < s.toks

section
variable {X : Cx} {pins : List (Addr × Obj)} {σ : List (Option V)} {H H' : Hp} {s : Shared} {h' : Heap}

theorem Cx.Ok.nofr (ok : X.Ok) {b : Addr} {o : Obj} (e : X.base.get? b = some o) : b ∉ X.fs := fun hb => by
  have := (ok.funs.mem hb).1
  rw [e] at this; cases this
theorem Inv.bs (I : Inv X pins σ H s) : ∀ b o, X.base.get? b = some o → s.heap.get? b = some o ∧ H b = none := fun b o e =>
  ⟨I.base.keep b o (I.ok.bs b o e).1 (I.ok.bs b o e).2 (I.ok.nofr e) (I.ok.noex b o e), I.base.free b o (I.ok.bs b o e).1 (I.ok.bs b o e).2 (I.ok.noex b o e)⟩
theorem Inv.bk (I : Inv X pins σ H s) : ∀ b o, X.base.get? b = some o → s.heap.get? b = some o := fun b o e => (I.bs b o e).1
theorem Inv.mod (I : Inv X pins σ H s) : Mod X.K X.mg X.base := I.ok.mod
theorem Inv.kIn (I : Inv X pins σ H s) : X.K.In s.heap := I.ok.mod.kin.keeps I.bk
theorem Inv.lt (I : Inv X pins σ H s) : X.env.locals < s.heap.objs.size := let ⟨_, hn, _⟩ := I.loc; hn.lt
theorem Inv.sz (I : Inv X pins σ H s) : X.s₀.heap.objs.size ≤ s.heap.objs.size := Nat.le_trans I.ok.above (Nat.le_of_lt I.lt)
theorem Inv.nofs (I : Inv X pins σ H s) {a : Addr} (h : s.heap.objs.size ≤ a) : a ∉ X.fs := fun hb => by
  obtain ⟨_, o, ho, _⟩ := I.ok.funs.mem hb
  exact absurd (Nat.lt_of_lt_of_le (Heap.lt_size ho) (Nat.le_trans I.sz h)) (Nat.lt_irrefl _)
theorem Inv.cne (I : Inv X pins σ H s) : ∀ x c, X.env.cells.lookup x = some c → c ≠ X.env.locals := fun x c e z => by
  obtain ⟨v, o, ho, hd⟩ := I.cell x c e
  obtain ⟨m, ⟨o', es, ep, ho', hd', _⟩, _⟩ := I.loc
  rw [z, ho'] at ho; cases ho; rw [hd'] at hd; cases hd
theorem Inv.funs (I : Inv X pins σ H s) : s.heap.FunFrames X.base X.outer := by
  have all : ∀ (l : List Env), (∀ b ∈ frs l, b ∈ X.fs) → X.s₀.heap.FunFrames X.base l → s.heap.FunFrames X.base l := by
    intro l
    induction l with
    | nil => intro _ _; trivial
    | cons env r ih =>
      intro hs hl
      obtain ⟨hk, ⟨L, o, hf, hn, ho, hd⟩, hr⟩ := hl
      have hL : L ∈ X.fs := hs L (by unfold frs; rw [List.filterMap_cons, hf]; exact List.mem_cons_self)
      obtain ⟨sl, e⟩ := I.base.slot L o ho (I.ok.frf L hL) hL fun z => I.ok.exfs L z hL
      exact ⟨hk, ⟨L, _, hf, hn, e, hd⟩, ih (fun b hb => hs b (by unfold frs; rw [List.filterMap_cons, hf]; exact List.mem_cons_of_mem _ hb)) hr⟩
  exact all X.outer (fun _ hb => hb) I.ok.funs

/-- the frames that run, for a call -/
theorem Inv.stack (I : Inv X pins σ H s) : s.heap.FunFrames X.base X.stack := by
  rcases I.ok.stk with e | ⟨e, hf⟩
  · rw [e]; exact I.funs
  · rw [e]
    obtain ⟨m, hn, _⟩ := I.loc
    refine .cons (by rw [I.ok.kind]; decide) hf hn ?_ I.funs
    exact Heap.get?_none_of_le (Nat.le_trans I.ok.bsz I.ok.above)
theorem Inv.stkSub (I : Inv X pins σ H s) : ∀ b ∈ frs X.stack, b ∈ X.env.locals :: X.fs := fun b hb => by
  rcases I.ok.stk with e | ⟨e, hf⟩
  · rw [e] at hb; exact List.mem_cons_of_mem _ hb
  · rw [e] at hb
    unfold frs at hb
    rw [List.filterMap_cons, hf] at hb
    exact hb
theorem Inv.stkFree (I : Inv X pins σ H s) : ∀ b ∈ frs X.stack, H b = none := fun b hb => by
  rcases List.mem_cons.mp (I.stkSub b hb) with e | hb
  · rw [e]; exact I.free
  · obtain ⟨_, o, ho, _⟩ := I.ok.funs.mem hb
    exact I.base.free b o ho (I.ok.frf b hb) fun z => I.ok.exfs b z hb

/-- THE STEP: the untracked objects but the frame and the records at ch are kept (the callers' frames up to slots), the frame's map is kept, the new abstract heap is held -/
theorem Inv.step {g' : Array GenState} {t' : Nat} {d' : Drawn} {ch : List Addr} (I : Inv X pins σ H s)
    (hch : ∀ b ∈ ch, (b ∈ X.ex ∨ X.s₀.heap.objs.size ≤ b) ∧ b ≠ X.env.locals ∧ (∀ x c, X.env.cells.lookup x = some c → c ≠ b) ∧ ∀ p ∈ X.pn ++ pins, p.1 ≠ b)
    (keep : ∀ b o, b ≠ X.env.locals → b ∉ X.fs → b ∉ ch → s.heap.get? b = some o → H b = none → h'.get? b = some o)
    (slot : ∀ b o, b ≠ X.env.locals → b ∈ X.fs → b ∉ ch → s.heap.get? b = some o → H b = none → ∃ sl, h'.get? b = some { o with slots := sl }) (free : ∀ b o, b ∉ ch → s.heap.get? b = some o → H b = none → H' b = none)
    (there : ∀ b o, b ∉ ch → s.heap.get? b = some o → ∃ o', h'.get? b = some o')
    (tups : ∀ b xs, H b = some (.tup xs) → H' b = some (.tup xs)) (frzs : ∀ b o u, H b = some (.frz o u) → H' b = some (.frz o u)) (tbls : ∀ b ps, H b = some (.tbl ps) → ∃ more, H' b = some (.tbl (ps ++ more)))
    (ns : ∀ m, s.heap.Ns X.env.locals m → h'.Ns X.env.locals m) (hok : HOk X.prog X.w H' h') (hg : AllBare g') (ht : 0 < t' := by (first | assumption | exact Nat.succ_pos _ | exact Inv.tk (by assumption) | exact Nat.lt_of_lt_of_le (Inv.tk (by assumption)) (Nat.le_add_right _ _) | exact Nat.lt_of_lt_of_le (Inv.tk (by assumption)) (by assumption))) :
    Inv X pins σ H' { s with heap := h', gens := g', drawn := d', toks := t' } := by
  have neL : ∀ b o, X.s₀.heap.get? b = some o → b ≠ X.env.locals := fun b o e => Nat.ne_of_lt (Nat.lt_of_lt_of_le (Heap.lt_size e) I.ok.above)
  have neC : ∀ b o, X.s₀.heap.get? b = some o → b ∉ X.ex → b ∉ ch := fun b o e hx hb => by
    rcases (hch b hb).1 with z | z
    · exact hx z
    · exact absurd (Nat.lt_of_lt_of_le (Heap.lt_size e) z) (Nat.lt_irrefl _)
  have cellK : ∀ x c, X.env.cells.lookup x = some c → ∀ v, s.heap.IsCell c v → h'.IsCell c v := fun x c e v ⟨o, ho, hd⟩ => by
    have nch : c ∉ ch := fun z => (hch c z).2.2.1 x c e rfl
    by_cases hc : c ∈ X.fs
    · obtain ⟨sl, q⟩ := slot c o (I.cne x c e) hc nch ho (I.freeC x c e)
      exact ⟨_, q, hd⟩
    · exact ⟨o, keep c o (I.cne x c e) hc nch ho (I.freeC x c e), hd⟩
  refine ⟨I.ok, I.os, hg, ⟨fun b o e n hb hx => ?_, fun b o e n hb hx => ?_, fun b o e n hx => ?_, fun b o e hx => ?_, fun b xs e => tups b xs (I.base.tups b xs e), fun b o xs e => frzs b o xs (I.base.frzs b o xs e), fun b ps e => ?_⟩, ?_, fun x c e => ?_, ?_, fun x c e => ?_, fun p hp => ?_, hok, I.len, ht⟩
  · exact keep b o (neL b o e) hb (neC b o e hx) (I.base.keep b o e n hb hx) (I.base.free b o e n hx)
  · obtain ⟨sl, e1⟩ := I.base.slot b o e n hb hx
    obtain ⟨sl', e2⟩ := slot b _ (neL b o e) hb (neC b o e hx) e1 (I.base.free b o e n hx)
    exact ⟨sl', e2⟩
  · obtain ⟨o', e1⟩ := I.base.there b o e hx
    exact free b o' (neC b o e hx) e1 (I.base.free b o e n hx)
  · obtain ⟨o', e1⟩ := I.base.there b o e hx
    exact there b o' (neC b o e hx) e1
  · obtain ⟨m1, e1⟩ := I.base.tbls b ps e
    obtain ⟨m2, e2⟩ := tbls b _ e1
    exact ⟨m1 ++ m2, by rw [e2, Array.append_assoc]⟩
  · obtain ⟨m, hn, hl⟩ := I.loc
    refine ⟨m, ns m hn, fun i x v e1 e2 e3 => ?_⟩
    obtain ⟨u, r, l⟩ := hl i x v e1 e2 e3
    refine ⟨u, r, ?_⟩
    rcases l with l | ⟨k, c, e, z⟩
    · exact .inl l
    · exact .inr ⟨k, c, e, cellK x c e _ z⟩
  · obtain ⟨v, z⟩ := I.cell x c e
    exact ⟨v, cellK x c e v z⟩
  · obtain ⟨m, ⟨o, _, _, ho, _⟩, _⟩ := I.loc
    exact free _ o (fun z => (hch _ z).2.1 rfl) ho I.free
  · obtain ⟨v, o, ho, hd⟩ := I.cell x c e
    exact free c o (fun z => (hch c z).2.2.1 x c e rfl) ho (I.freeC x c e)
  · obtain ⟨e, n, ne, nf, d⟩ := I.pin p hp
    have nch : p.1 ∉ ch := fun z => (hch p.1 z).2.2.2 p hp rfl
    exact ⟨keep p.1 p.2 ne nf nch e n, free p.1 p.2 nch e n, ne, nf, d⟩
/-- .. where the frame's own object is kept too -/
theorem Inv.un {t' : Nat} (I : Inv X pins σ H s) (u : Un X.fs [] H H' s.heap h') (hok : HOk X.prog X.w H' h') (ht : 0 < t' := by (first | assumption | exact Nat.succ_pos _ | exact Inv.tk (by assumption) | exact Nat.lt_of_lt_of_le (Inv.tk (by assumption)) (Nat.le_add_right _ _) | exact Nat.lt_of_lt_of_le (Inv.tk (by assumption)) (by assumption))) : Inv X pins σ H' { s with heap := h', toks := t' } := by
  obtain ⟨m, ⟨o, es, ep, ho, r⟩, _⟩ := id I.loc
  obtain ⟨sl, hL⟩ := u.any ho I.free (by simp)
  exact I.step (g' := s.gens) (d' := s.drawn) (ch := []) (fun _ z => nomatch z) (fun b o _ hb _ e n => u.keep b o e n hb (by simp)) (fun b o _ hb _ e n => u.slot b o e n hb (by simp)) (fun b o _ e n => u.free b o e n (by simp)) (fun b o _ e => u.there b o e (by simp)) u.tups u.frzs u.tbls (fun m' hm => by
    obtain ⟨o', es', ep', ho', r'⟩ := hm
    rw [ho] at ho'; cases ho'
    exact ⟨_, es', ep', hL, r'⟩) hok I.bare
/-- behind a call (or a comprehension's block): the slots of this frame may have changed too, the records at ch may have turned -/
theorem Inv.call {g' : Array GenState} {t' : Nat} {d' : Drawn} {ch : List Addr} (I : Inv X pins σ H s) (u : Un (frs X.stack) ch H H' s.heap h') (hok : HOk X.prog X.w H' h') (hg : AllBare g')
    (hch : ∀ b ∈ ch, (b ∈ X.ex ∨ X.s₀.heap.objs.size ≤ b) ∧ b ≠ X.env.locals ∧ (∀ x c, X.env.cells.lookup x = some c → c ≠ b) ∧ ∀ p ∈ X.pn ++ pins, p.1 ≠ b) (ht : 0 < t' := by (first | assumption | exact Nat.succ_pos _ | exact Inv.tk (by assumption) | exact Nat.lt_of_lt_of_le (Inv.tk (by assumption)) (Nat.le_add_right _ _) | exact Nat.lt_of_lt_of_le (Inv.tk (by assumption)) (by assumption))) :
    Inv X pins σ H' { s with heap := h', gens := g', drawn := d', toks := t' } := by
  obtain ⟨m, ⟨o, es, ep, ho, r⟩, _⟩ := id I.loc
  obtain ⟨sl, hL⟩ := u.any ho I.free fun z => (hch _ z).2.1 rfl
  exact I.step (ch := ch) hch (fun b o hL hb hc e n => u.keep b o e n (fun z => (List.mem_cons.mp (I.stkSub b z)).elim hL hb) hc) (fun b o _ _ hc e n => u.any e n hc) (fun b o hc e n => u.free b o e n hc) (fun b o hc e => u.there b o e hc) u.tups u.frzs u.tbls (fun m' hm => by
    obtain ⟨o', es', ep', ho', r'⟩ := hm
    rw [ho] at ho'; cases ho'
    exact ⟨_, es', ep', hL, r'⟩) hok hg
/-- an untracked record of ours (an iterator) has turned -/
theorem Inv.turned {t' : Nat} {it : Addr} (I : Inv X pins σ H s) (k : ∀ b o, b ≠ it → s.heap.get? b = some o → h'.get? b = some o) (hn : H it = none) (hL : it ≠ X.env.locals)
    (h1 : it ∈ X.ex ∨ X.s₀.heap.objs.size ≤ it) (h2 : ∀ x c, X.env.cells.lookup x = some c → c ≠ it) (h3 : ∀ p ∈ X.pn ++ pins, p.1 ≠ it) (ht : 0 < t' := by (first | assumption | exact Nat.succ_pos _ | exact Inv.tk (by assumption) | exact Nat.lt_of_lt_of_le (Inv.tk (by assumption)) (Nat.le_add_right _ _) | exact Nat.lt_of_lt_of_le (Inv.tk (by assumption)) (by assumption))) : Inv X pins σ H { s with heap := h', toks := t' } := by
  have nit : ∀ b u, H b = some u → b ≠ it := fun b u e z => by rw [z, hn] at e; cases e
  refine I.step (g' := s.gens) (d' := s.drawn) (ch := [it]) (fun b hb => ?_) (fun b o _ _ hc e _ => k b o (fun z => hc (by simp [z])) e) (fun b o _ _ hc e _ => ⟨o.slots, k b o (fun z => hc (by simp [z])) e⟩) (fun _ _ _ _ n => n)
    (fun b o hc e => ⟨o, k b o (fun z => hc (by simp [z])) e⟩) (fun _ _ e => e) (fun _ _ _ e => e) (fun b ps e => ⟨#[], by rw [e]; simp⟩) (fun m hm => ?_) (fun b u e => ?_) I.bare
  · have e : b = it := by simpa using hb
    subst e
    exact ⟨h1, hL, h2, h3⟩
  · obtain ⟨o, es, ep, ho, r⟩ := hm
    exact ⟨o, es, ep, k _ o (Ne.symm hL) ho, r⟩
  · refine (I.hok b u e).stay (fun c v hc q => k c v ?_ q) (fun _ q => q) fun _ _ q => q
    rcases hc with z | z
    · rw [z]; exact nit b u e
    · exact nit c _ z
theorem Inv.tok (I : Inv X pins σ H s) (t : Nat) (ht : 0 < t := by (first | assumption | exact Nat.succ_pos _ | exact Inv.tk (by assumption) | exact Nat.lt_of_lt_of_le (Inv.tk (by assumption)) (Nat.le_add_right _ _) | exact Nat.lt_of_lt_of_le (Inv.tk (by assumption)) (by assumption))) : Inv X pins σ H { s with toks := t } := I.un (h' := s.heap) (t' := t) Un.refl I.hok
/-- all objects kept -/
theorem Inv.kept {t' : Nat} (I : Inv X pins σ H s) (k : ∀ b u, s.heap.get? b = some u → h'.get? b = some u) (ht : 0 < t' := by (first | assumption | exact Nat.succ_pos _ | exact Inv.tk (by assumption) | exact Nat.lt_of_lt_of_le (Inv.tk (by assumption)) (Nat.le_add_right _ _) | exact Nat.lt_of_lt_of_le (Inv.tk (by assumption)) (by assumption))) : Inv X pins σ H { s with heap := h', toks := t' } := I.un (Un.kept k) (I.hok.kept k)
/-- a new object laid and tracked -/
theorem Inv.laid {a : Addr} {o : HO} {t' : Nat} (I : Inv X pins σ H s) (k : ∀ b u, s.heap.get? b = some u → h'.get? b = some u) (hp : s.heap.objs.size ≤ a) (new : ObjOk X.prog X.w (upd H a o) h' a o) (ht : 0 < t' := by (first | assumption | exact Nat.succ_pos _ | exact Inv.tk (by assumption) | exact Nat.lt_of_lt_of_le (Inv.tk (by assumption)) (Nat.le_add_right _ _) | exact Nat.lt_of_lt_of_le (Inv.tk (by assumption)) (by assumption))) :
    Inv X pins σ (upd H a o) { s with heap := h', toks := t' } := I.un (Un.laid k hp (I.hok.fresh hp)) (I.hok.laid k hp new)
/-- an object written -/
theorem Inv.write {x e : Addr} {o : HO} {t' : Nat} (I : Inv X pins σ H s) (mu : Mut (H x)) (he : e = x ∨ H e = some (.own x)) (k : ∀ b u, b ≠ e → s.heap.get? b = some u → h'.get? b = some u) (heo : ∃ u, h'.get? e = some u)
    (new : ObjOk X.prog X.w (upd H x o) h' x o) (ht : 0 < t' := by (first | assumption | exact Nat.succ_pos _ | exact Inv.tk (by assumption) | exact Nat.lt_of_lt_of_le (Inv.tk (by assumption)) (Nat.le_add_right _ _) | exact Nat.lt_of_lt_of_le (Inv.tk (by assumption)) (by assumption))) : Inv X pins σ (upd H x o) { s with heap := h', toks := t' } := I.un (Un.write mu he k heo) (I.hok.write mu he k heo new)
/-- forgetting slots, pins -/
theorem Inv.weak {σ' : List (Option V)} (I : Inv X pins σ H s) (hl : σ'.length = σ.length) (w : ∀ (i : Nat) v, σ'[i]? = some (some v) → σ[i]? = some (some v)) : Inv X pins σ' H s :=
  ⟨I.ok, I.os, I.bare, I.base, let ⟨m, hn, hl'⟩ := I.loc; ⟨m, hn, fun i x v e1 e2 e3 => hl' i x v e1 (w i v e2) e3⟩, I.cell, I.free, I.freeC, I.pin, I.hok, hl.trans I.len, I.tk⟩
theorem Inv.pins_of {pins' : List (Addr × Obj)} (I : Inv X pins σ H s) (h : ∀ p ∈ pins', s.heap.get? p.1 = some p.2 ∧ H p.1 = none ∧ p.1 ≠ X.env.locals ∧ p.1 ∉ X.fs ∧ ∀ v, p.2.data ≠ .cell v) : Inv X pins' σ H s :=
  ⟨I.ok, I.os, I.bare, I.base, I.loc, I.cell, I.free, I.freeC, fun p hp => (List.mem_append.mp hp).elim (fun z => I.pin p (List.mem_append_left _ z)) (h p), I.hok, I.len, I.tk⟩

theorem nodup_ix {N : List Str} (hN : N.Nodup) {i j : Nat} {x : Str} (a : N[i]? = some x) (b : N[j]? = some x) : i = j := by
  obtain ⟨h1, e1⟩ := List.getElem?_eq_some_iff.mp a
  obtain ⟨h2, e2⟩ := List.getElem?_eq_some_iff.mp b
  exact (List.getElem_inj hN).mp (e1.trans e2.symm)

/-- a name is stored; what changed -/
theorem store_ok2 {M : Model} {A : Around} {E : Value → Shared → Prop} {i : Nat} {x : Str} {v : V} {u : Value} {Q : Unit → Shared → Prop} (I : Inv X pins σ H s) (hN : X.N.Nodup) (hi : X.N[i]? = some x) (hx : Loc X.env.scope x) (r : RelV v u)
    (h : ∀ s', Inv X pins (σ.set i (some v)) H s' → (∃ a, Heap.SameBut a s.heap s'.heap ∧ (a = X.env.locals ∨ X.env.cells.lookup x = some a)) → (X.env.kindOf x = some .local → ∃ m', s'.heap.Ns X.env.locals m' ∧ m' x = some u) → Q () s') (hf : X.fn x = true ∨ X.env.scope.names.lookup x = some .local := by first | exact .inl rfl | exact .inr rfl | assumption) : wpAny M A (storeName X.env x u) Q E s := by
  obtain ⟨m, hn, hl⟩ := id I.loc
  have hcls : (X.env.scope.kind == .class || (X.env.scope.kind == .module && X.env.locals != X.env.globals)) = false := by rw [I.ok.kind]; rfl
  have hiσ : i < σ.length := by rw [I.len]; exact (List.getElem?_eq_some_iff.mp hi).1
  have cne := I.cne
  have tracked : ∀ {a : Addr} {h' : Heap}, (∃ o, s.heap.get? a = some o ∧ H a = none) → Heap.SameBut a s.heap h' → HOk X.prog X.w H h' := fun {a h'} ha hs b ob e => by
    obtain ⟨_, _, hfree⟩ := ha
    refine (I.hok b ob e).stay (fun c w' hc q => (hs.2 c ?_).trans q) (fun _ q => q) fun _ _ q => q
    rintro rfl
    rcases hc with rfl | hc
    · rw [hfree] at e; cases e
    · rw [hfree] at hc; cases hc
  rcases hx with hk | hk
  · refine wpAny_storeName_local hk hn (fun h' hn' hs => ?_) hcls
    obtain ⟨oL, _, _, hoL, _⟩ := id hn
    refine h _ ⟨I.ok, I.os, I.bare, ⟨fun b o e n hb hx => ?_, fun b o e n hb hx => ?_, I.base.free, fun b o e hx => ?_, I.base.tups, I.base.frzs, I.base.tbls⟩, ⟨_, hn', fun j y v' e1 e2 e3 => ?_⟩, fun y c e => ?_, I.free, I.freeC, fun p hp => ?_, tracked ⟨oL, hoL, I.free⟩ hs, by simpa using I.len, by first | exact I.tk | exact Nat.succ_pos _⟩ ⟨_, hs, .inl rfl⟩ (fun _ => ⟨_, hn', by simp⟩)
    · exact (hs.2 b (Nat.ne_of_lt (Nat.lt_of_lt_of_le (Heap.lt_size e) I.ok.above))).trans (I.base.keep b o e n hb hx)
    · obtain ⟨sl, e1⟩ := I.base.slot b o e n hb hx
      exact ⟨sl, (hs.2 b (Nat.ne_of_lt (Nat.lt_of_lt_of_le (Heap.lt_size e) I.ok.above))).trans e1⟩
    · obtain ⟨o', e1⟩ := I.base.there b o e hx
      exact ⟨o', (hs.2 b (Nat.ne_of_lt (Nat.lt_of_lt_of_le (Heap.lt_size e) I.ok.above))).trans e1⟩
    · by_cases hj : j = i
      · subst hj
        rw [hi] at e1; cases e1
        rw [List.getElem?_set_self hiσ] at e2
        cases e2
        exact ⟨u, r, .inl ⟨hk, by simp⟩⟩
      · rw [List.getElem?_set_ne (Ne.symm hj)] at e2
        obtain ⟨u', r', q⟩ := hl j y v' e1 e2 e3
        refine ⟨u', r', ?_⟩
        rcases q with ⟨k, e⟩ | ⟨k, c, e, z⟩
        · refine .inl ⟨k, ?_⟩
          have : y ≠ x := fun e => hj (nodup_ix hN e1 (e ▸ hi))
          simp [this, e]
        · exact .inr ⟨k, c, e, z.sameBut hs (cne y c e)⟩
    · obtain ⟨w', z⟩ := I.cell y c e
      exact ⟨w', z.sameBut hs (cne y c e)⟩
    · obtain ⟨e, n, ne, nf, d⟩ := I.pin p hp
      exact ⟨(hs.2 p.1 ne).trans e, n, ne, nf, d⟩
  · have hfn : X.fn x = true := by
      rcases hf with z | z
      · exact z
      · rw [z] at hk; cases hk
    obtain ⟨c, hc⟩ := I.ok.has x (.inl hk)
    obtain ⟨w', z⟩ := I.cell x c hc
    refine wpAny_storeName_cell I.ok.kind hk hc z (fun h' hc' hs => ?_)
    obtain ⟨oc, hoc, hocd⟩ := id z
    refine h { s with heap := h' } ⟨I.ok, I.os, I.bare, ⟨fun b o e n hb hx => ?_, fun b o e n hb hx => ?_, I.base.free, fun b o e hx => ?_, I.base.tups, I.base.frzs, I.base.tbls⟩, ⟨m, hn.sameBut hs (Ne.symm (cne x c hc)), fun j y v' e1 e2 e3 => ?_⟩, fun y c' e => ?_, I.free, I.freeC, fun p hp => ?_, tracked ⟨oc, hoc, I.freeC x c hc⟩ hs, by simpa using I.len, I.tk⟩ ⟨c, hs, .inr hc⟩ (fun z => by have e := (show X.env.kindOf x = some .cell from hk).symm.trans z; cases e)
    · exact (hs.2 b (Nat.ne_of_lt (Nat.lt_of_lt_of_le (Heap.lt_size e) (I.ok.cab x c hfn hc)))).trans (I.base.keep b o e n hb hx)
    · obtain ⟨sl, e1⟩ := I.base.slot b o e n hb hx
      exact ⟨sl, (hs.2 b (Nat.ne_of_lt (Nat.lt_of_lt_of_le (Heap.lt_size e) (I.ok.cab x c hfn hc)))).trans e1⟩
    · obtain ⟨o', e1⟩ := I.base.there b o e hx
      exact ⟨o', (hs.2 b (Nat.ne_of_lt (Nat.lt_of_lt_of_le (Heap.lt_size e) (I.ok.cab x c hfn hc)))).trans e1⟩
    · by_cases hj : j = i
      · subst hj
        rw [hi] at e1; cases e1
        rw [List.getElem?_set_self hiσ] at e2
        cases e2
        exact ⟨u, r, .inr ⟨.inl hk, c, hc, hc'⟩⟩
      · rw [List.getElem?_set_ne (Ne.symm hj)] at e2
        obtain ⟨u', r', q⟩ := hl j y v' e1 e2 e3
        refine ⟨u', r', ?_⟩
        rcases q with q | ⟨k, c', e, z'⟩
        · exact .inl q
        · refine .inr ⟨k, c', e, z'.sameBut hs ?_⟩
          rintro rfl
          exact hj (nodup_ix hN e1 (I.ok.inj _ _ _ e hc ▸ hi))
    · by_cases hcc : c' = c
      · subst hcc; exact ⟨_, hc'⟩
      · obtain ⟨w2, z2⟩ := I.cell y c' e
        exact ⟨w2, z2.sameBut hs hcc⟩
    · obtain ⟨e, n, ne, nf, d⟩ := I.pin p hp
      refine ⟨(hs.2 p.1 ?_).trans e, n, ne, nf, d⟩
      intro q
      rw [q, hoc] at e
      have q' : oc = p.2 := Option.some.inj e
      exact d w' (by rw [← q']; exact hocd)
theorem store_ok {M : Model} {A : Around} {E : Value → Shared → Prop} {i : Nat} {x : Str} {v : V} {u : Value} {Q : Unit → Shared → Prop} (I : Inv X pins σ H s) (hN : X.N.Nodup) (hi : X.N[i]? = some x) (hx : Loc X.env.scope x) (r : RelV v u)
    (h : ∀ s', Inv X pins (σ.set i (some v)) H s' → Q () s') (hf : X.fn x = true ∨ X.env.scope.names.lookup x = some .local := by first | exact .inl rfl | exact .inr rfl | assumption) : wpAny M A (storeName X.env x u) Q E s :=
  store_ok2 I hN hi hx r (fun s' I' _ _ => h s' I') hf
/-- behind a call or a block, the state as it is -/
theorem Inv.call' {s' : Shared} {ch : List Addr} (I : Inv X pins σ H s) (ho : s'.os = s.os) (u : Un (frs X.stack) ch H H' s.heap s'.heap) (hok : HOk X.prog X.w H' s'.heap) (hg : AllBare s'.gens)
    (hch : ∀ b ∈ ch, (b ∈ X.ex ∨ X.s₀.heap.objs.size ≤ b) ∧ b ≠ X.env.locals ∧ (∀ x c, X.env.cells.lookup x = some c → c ≠ b) ∧ ∀ p ∈ X.pn ++ pins, p.1 ≠ b) (ht : 0 < s'.toks := by (first | assumption | exact Nat.succ_pos _ | exact Inv.tk (by assumption) | exact Nat.lt_of_lt_of_le (Inv.tk (by assumption)) (Nat.le_add_right _ _) | exact Nat.lt_of_lt_of_le (Inv.tk (by assumption)) (by assumption))) : Inv X pins σ H' s' := by
  obtain ⟨h', g', d', t', o'⟩ := s'
  have e : o' = s.os := ho
  subst e
  exact I.call (g' := g') (t' := t') (d' := d') u hok hg hch ht
end

/-! ### the judgements -/
/-- an exception: its class, its own dict's address (where it has one), the abstract heap behind it -/
abbrev XK := Value → Option Addr → Hp → Prop
abbrev St := List (Option V)
abbrev VK := V → Hp → Prop
/-- an expression's reading; a test's; an argument list's -/
abbrev TE := St → Hp → VK → Prop
abbrev TT := St → Hp → (Bool → Hp → Prop) → Prop
abbrev TA := St → Hp → (List V → Hp → Prop) → Prop
/-- what is wanted behind a statement -/
structure Ends where
  nx : St → Hp → Prop
  rt : VK
  bk : St → Hp → Prop := fun _ _ => False
  ct : St → Hp → Prop := fun _ _ => False
abbrev TS := Ends → St → Hp → Prop

def EP (X : Cx) (pins : List (Addr × Obj)) (σ : St) (Q : VK) (u : Value) (s' : Shared) : Prop := ∃ v H', Inv X pins σ H' s' ∧ RelV v u ∧ Q v H'
def TP (X : Cx) (pins : List (Addr × Obj)) (σ : St) (Q : Bool → Hp → Prop) (b : Bool) (s' : Shared) : Prop := ∃ H', Inv X pins σ H' s' ∧ Q b H'
def AP (X : Cx) (pins : List (Addr × Obj)) (σ : St) (Q : List V → Hp → Prop) (us : List Value) (s' : Shared) : Prop := ∃ vs H', Inv X pins σ H' s' ∧ Vals vs us ∧ Q vs H'
def SP (X : Cx) (pins : List (Addr × Obj)) (D : Ends) (f : Flow) (s' : Shared) : Prop :=
  match f with
  | .next => ∃ σ' H', Inv X pins σ' H' s' ∧ D.nx σ' H'
  | .brk => ∃ σ' H', Inv X pins σ' H' s' ∧ D.bk σ' H'
  | .cont => ∃ σ' H', Inv X pins σ' H' s' ∧ D.ct σ' H'
  | .ret u => ∃ v σ' H', Inv X pins σ' H' s' ∧ RelV v u ∧ D.rt v H'

def PE (X : Cx) (e : Expr) (t : TE) : Prop :=
  ∀ (pins : List (Addr × Obj)) (s : Shared) (σ : St) (H : Hp) (Q : VK), Inv X pins σ H s → t σ H Q → wpAny (model X.prog X.w) X.A (eval e X.env) (EP X pins σ Q) X.xe s
def PT (X : Cx) (e : Expr) (t : TT) : Prop :=
  ∀ (pins : List (Addr × Obj)) (s : Shared) (σ : St) (H : Hp) (Q : Bool → Hp → Prop), Inv X pins σ H s → t σ H Q → wpAny (model X.prog X.w) X.A (isTrue e X.env (eval e X.env)) (TP X pins σ Q) X.xe s
/-- a test whatever its 'whole' is (and, or) -/
def PW (X : Cx) (e : Expr) (t : TT) : Prop :=
  ∀ (whole : Sem Value) (pins : List (Addr × Obj)) (s : Shared) (σ : St) (H : Hp) (Q : Bool → Hp → Prop), Inv X pins σ H s → t σ H Q → wpAny (model X.prog X.w) X.A (isTrue e X.env whole) (TP X pins σ Q) X.xe s
theorem PW.pt {X : Cx} {e : Expr} {t : TT} (h : PW X e t) : PT X e t := h _
/-- an argument list (no star), from the left -/
def PA (X : Cx) (es : List Expr) (t : TA) : Prop :=
  ∀ (pos : Pos) (pins : List (Addr × Obj)) (s : Shared) (σ : St) (H : Hp) (Q : List V → Hp → Prop), Inv X pins σ H s → t σ H Q → wpAny (model X.prog X.w) X.A (spliced (backTo pos (starEach es X.env))) (AP X pins σ Q) X.xe s
def PS (X : Cx) (st : Stmt) (t : TS) : Prop :=
  ∀ (pins : List (Addr × Obj)) (s : Shared) (σ : St) (H : Hp) (D : Ends), Inv X pins σ H s → t D σ H → wpAny (model X.prog X.w) X.A (exec st X.env) (SP X pins D) X.xe s
def PSs (X : Cx) (st : List Stmt) (t : TS) : Prop :=
  ∀ (pins : List (Addr × Obj)) (s : Shared) (σ : St) (H : Hp) (D : Ends), Inv X pins σ H s → t D σ H → wpAny (model X.prog X.w) X.A (execs st X.env) (SP X pins D) X.xe s
/-- weaken the end -/
theorem thn {α : Type} {t : Sem α} {Q Q' : α → Shared → Prop} {M : Model} {A : Around} {E : Value → Shared → Prop} {s : Shared} (h : wpAny M A t Q E s) (hQ : ∀ a s, Q a s → Q' a s) : wpAny M A t Q' E s := wpAny_mono h hQ fun _ _ x => x
end L2

namespace L2
open PySem PySem.Spec PyProof.Rows
section
variable {X : Cx}


/-! ### names and constants -/
def tVar (i : Nat) : TE := fun σ H Q => ∃ v, σ[i]? = some (some v) ∧ Q v H
def tC (v : V) : TE := fun _ H Q => Q v H
theorem pe_var {i : Nat} {x : Str} {pos : Pos} (hN : X.N[i]? = some x) (hv : Vis X.env.scope x) (hd : (x == ("__debug__" : Str)) = false := by decide) (hcd : (x == ("__classdict__" : Str)) = false := by decide) : PE X (.Name x pos) (tVar i) := by
  intro pins s σ H Q I h
  obtain ⟨v, e, h⟩ := h
  obtain ⟨m, hn, hl⟩ := I.loc
  obtain ⟨u, r, l⟩ := hl i x v hN e hv
  have fin : EP X pins σ Q u s := ⟨v, H, I, r, h⟩
  rcases l with ⟨hk, hm⟩ | ⟨hk, c, hc, hcell⟩
  · exact wpAny_Name (wpAny_loadName_local I.ok.kind hk hn hm fin) hd
  · rcases hk with hk | hk
    · exact wpAny_Name (wpAny_loadName_cell I.ok.kind hk hc hcell fin) hd
    · exact wpAny_Name (wpAny_loadName_free I.ok.kind hk hc hcell fin hcd) hd
theorem pe_int {i j pos} : PE X (.Constant (.int i) j pos) (tC (.int i)) := fun _ _ _ H _ I h => wpAny_Constant_int ⟨.int i, H, I.tok _, ⟨_, rfl⟩, h⟩
theorem pe_non {j pos} : PE X (.Constant .none j pos) (tC .non) := fun _ _ _ H _ I h => Constant_none ⟨.non, H, I, rfl, h⟩
theorem pe_str {x j pos} : PE X (.Constant (.str x) j pos) (tC (.str x)) := fun _ _ _ H _ I h => Calls.Constant_str ⟨.str x, H, I.tok _, ⟨_, rfl⟩, h⟩

/-- a global name of the def -/
def Gl (X : Cx) (x : Str) : Prop := X.env.kindOf x = some .globalImplicit
theorem ld_glob {E : Value → Shared → Prop} {pins : List (Addr × Obj)} {s : Shared} {σ : St} {H : Hp} {x : Str} {u : Value} {pos : Pos} {Q : Value → Shared → Prop} (I : Inv X pins σ H s) (hg : Gl X x) (hm : X.mg x = some u) (h : Q u s)
    (hd : (x == ("__debug__" : Str)) = false := by decide) : wpAny (model X.prog X.w) X.A (eval (.Name x pos) X.env) Q E s :=
  Calls.Name_function_global I.ok.kind hg (Calls.loadGlobal_global (by rw [I.ok.glob]; exact I.mod.glob.keeps I.bk) hm h) hd
theorem ld_blt {E : Value → Shared → Prop} {pins : List (Addr × Obj)} {s : Shared} {σ : St} {H : Hp} {x : Str} {u : Value} {pos : Pos} {Q : Value → Shared → Prop} (I : Inv X pins σ H s) (hg : Gl X x) (hm : X.mg x = none) (hv : bootBuiltins x = some u) (h : Q u s)
    (hn : x ≠ "__name__" := by decide) (hd : (x == ("__debug__" : Str)) = false := by decide) : wpAny (model X.prog X.w) X.A (eval (.Name x pos) X.env) Q E s := by
  obtain ⟨mb, h1, h2⟩ := I.mod.blt
  exact Calls.Name_function_global I.ok.kind hg (Calls.loadGlobal_builtin (by rw [I.ok.glob]; exact I.mod.glob.keeps I.bk) hm (by rw [I.ok.blt]; exact h1.keeps I.bk) ((h2 x hn).trans hv) h) hd
/-- a module's constant, a class, a function, as a value -/
theorem pe_glob {x : Str} {v : V} {u : Value} {pos : Pos} (hg : Gl X x) (hm : X.mg x = some u) (r : RelV v u) (hd : (x == ("__debug__" : Str)) = false := by decide) : PE X (.Name x pos) (tC v) :=
  fun _ _ _ H _ I h => ld_glob I hg hm ⟨v, H, I, r, h⟩ hd
theorem pe_bltn {x : Str} {v : V} {u : Value} {pos : Pos} (hg : Gl X x) (hm : X.mg x = none) (hv : bootBuiltins x = some u) (r : RelV v u) (hn : x ≠ "__name__" := by decide) (hd : (x == ("__debug__" : Str)) = false := by decide) : PE X (.Name x pos) (tC v) :=
  fun _ _ _ H _ I h => ld_blt I hg hm hv ⟨v, H, I, r, h⟩ hn hd

/-! ### arithmetic -/
variable {a b : Expr} {ta tb : TE} {pos : Pos}

/-! ### comparisons -/
def PC (X : Cx) (op : CmpOp) (a b : Expr) (t : TE) : Prop :=
  ∀ (pins : List (Addr × Obj)) (s : Shared) (σ : St) (H : Hp) (Q : VK), Inv X pins σ H s → t σ H Q →
    wpAny (model X.prog X.w) X.A (eval a X.env) (fun v s₁ => wpAny (model X.prog X.w) X.A (eval b X.env) (fun u s₂ => wpAny (model X.prog X.w) X.A (compareOp op v u) (EP X pins σ Q) X.xe s₂) X.xe s₁) X.xe s
theorem nobehind (b : Expr) {op : CmpOp} (h : op ≠ .In) (h2 : op ≠ .NotIn) : behindInMarks op b = false := by
  have e1 : (op == CmpOp.In) = false := by cases op <;> first | rfl | exact absurd rfl h
  have e2 : (op == CmpOp.NotIn) = false := by cases op <;> first | rfl | exact absurd rfl h2
  cases b <;> simp [behindInMarks, e1, e2]
def tNotN (ta : TE) : TE := fun σ H Q => ta σ H fun x H1 => Q (.bl (!decide (x = .non))) H1
theorem RelV.none_iff {x : V} {v : Value} (r : RelV x v) : (v == Value.none) = decide (x = .non) := by
  cases x with
  | non => cases r; rfl
  | bl _ => cases r; rfl
  | int _ => obtain ⟨t, rfl⟩ := r; rfl
  | str _ => obtain ⟨t, rfl⟩ := r; rfl
  | byt _ => obtain ⟨t, rfl⟩ := r; rfl
  | flt _ => obtain ⟨t, rfl⟩ := r; rfl
  | ref _ => cases r; rfl
  | ty _ => cases r; rfl
theorem pc_notN {j pos'} (ha : PE X a ta) : PC X .IsNot a (.Constant .none j pos') (tNotN ta) := by
  intro pins s σ H Q I h
  refine thn (ha pins s σ H _ I h) fun v s1 ⟨x, H1, I1, r1, q1⟩ => ?_
  exact Constant_none (isnot_none_gen ⟨.bl _, H1, I1, by rw [r1.none_iff]; rfl, q1⟩)
/-- a comparison as a value, as a test -/
def tB (t : TE) : TT := fun σ H Q => t σ H fun x H1 => ∃ c, x = .bl c ∧ Q c H1
theorem pt_cmp {op : CmpOp} {t : TE} (h : PC X op a b t) (h1 : behindInMarks op b = false := by first | exact nobehind _ (by decide) (by decide) | rfl) : PT X (.Compare a [op] [b] pos) (tB t) := by
  intro pins s σ H Q I hw
  refine wpAny_isTrue_Compare1 (thn (h pins s σ H _ I hw) fun v s1 h1 => thn h1 fun u s2 h2 => thn h2 fun c s3 ⟨x, H1, I1, r1, q1⟩ => ?_) h1
  obtain ⟨d, rfl, q⟩ := q1
  cases r1
  exact wpAny_truthy_bool ⟨H1, I1, q⟩
/-- an expression whose value is a bool, as a test -/
theorem pt_val {e : Expr} {t : TE} (h : PE X e t) (he : ∀ whole, isTrue e X.env whole = (do let v ← whole; standAt e.pos; holding [v] (truthy v)) := by intro _; rfl) : PT X e (tB t) := by
  intro pins s σ H Q I hw
  refine isTrue_plain (thn (h pins s σ H _ I hw) fun v s1 ⟨x, H1, I1, r1, q1⟩ => ?_) (he _)
  obtain ⟨d, rfl, q⟩ := q1
  cases r1
  exact wpAny_truthy_bool ⟨H1, I1, q⟩

/-! ### and, or, not -/
variable {tA tB' : TT} {rest : List Expr}
def tAnd (t u : TT) : TT := fun σ H Q => t σ H fun c H1 => if c = true then u σ H1 Q else Q false H1
theorem pw_and1 (ha : PT X a tA) : PW X (.BoolOp .And [a] pos) tA := by
  intro wh pins s σ H Q I h
  refine isTrue_and (thn (ha pins s σ H Q I h) fun c s1 e => ?_)
  cases c with
  | true => exact isTrue_and_nil e
  | false => exact e
theorem pw_and (ha : PT X a tA) (hb : PW X (.BoolOp .And (b :: rest) pos) tB') : PW X (.BoolOp .And (a :: b :: rest) pos) (tAnd tA tB') := by
  intro wh pins s σ H Q I h
  refine isTrue_and (thn (ha pins s σ H _ I h) fun c s1 ⟨H1, I1, q1⟩ => ?_)
  cases c with
  | true => exact hb wh pins s1 σ H1 Q I1 q1
  | false => exact ⟨H1, I1, q1⟩
/-- .. as values (bools) -/
def tAndV (ta tb : TE) : TE := fun σ H Q => ta σ H fun x H1 => ∃ c, x = .bl c ∧ if c = true then tb σ H1 Q else Q (.bl false) H1
def tNotV (ta : TE) : TE := fun σ H Q => ta σ H fun x H1 => ∃ c, x = .bl c ∧ Q (.bl (!c)) H1
theorem pe_one {op} {t : TE} (h : PE X a t) : PE X (.BoolOp op [a] pos) t := fun pins s σ H Q I hw => BoolOp_one (h pins s σ H Q I hw)
theorem pe_and (ha : PE X a ta) (hb : PE X (.BoolOp .And (b :: rest) pos) tb) : PE X (.BoolOp .And (a :: b :: rest) pos) (tAndV ta tb) := by
  intro pins s σ H Q I h
  refine BoolOp_and (thn (ha pins s σ H _ I h) fun v s1 ⟨x, H1, I1, r1, q1⟩ => ?_)
  obtain ⟨c, rfl, q1⟩ := q1
  cases r1
  refine wpAny_truthy_bool ?_
  cases c with
  | true => exact hb pins s1 σ H1 Q I1 q1
  | false => exact ⟨.bl false, H1, I1, rfl, q1⟩
theorem pe_not (ha : PE X a ta) : PE X (.UnaryOp .Not a pos) (tNotV ta) := by
  intro pins s σ H Q I h
  refine UnaryOp_ (thn (ha pins s σ H _ I h) fun v s1 ⟨x, H1, I1, r1, q1⟩ => ?_)
  obtain ⟨c, rfl, q1⟩ := q1
  cases r1
  exact not_of (wpAny_truthy_bool ⟨.bl (!c), H1, I1, rfl, q1⟩)
end
end L2

namespace L2
open PySem PySem.Spec PyProof.Rows

/-! ### a list, a tuple that is read: tracked, frozen, or an object of the module -/
def SqL (K : PySem.W.Frag) (H : Hp) (a : Addr) (xs : List V) : Prop :=
  Rd H a (.lst xs) ∨
    ∃ (o : Obj) (its : Array Value) (n : Nat), K.lookup a = some o ∧ o.cls = .type "list" ∧ o.dict = none ∧ o.data = .seq its n ∧ its.size ≤ sizeLine ∧ Vals xs its.toList
def SqT (K : PySem.W.Frag) (H : Hp) (a : Addr) (xs : List V) : Prop :=
  Rd H a (.tup xs) ∨
    ∃ (o : Obj) (its : Array Value) (n : Nat), K.lookup a = some o ∧ o.cls = .type "tuple" ∧ o.data = .seq its n ∧ its.size ≤ sizeLine ∧ Vals xs its.toList
def absV : Value → Option V
  | .none => some .non
  | .bool b => some (.bl b)
  | .int i _ => some (.int i)
  | .str x _ => some (.str x)
  | .bytes b _ => some (.byt b)
  | .float b _ => some (.flt b)
  | .ref a => some (.ref a)
  | .type n => some (.ty n)
  | _ => none
theorem RelV.abs {x : V} {u : Value} (r : RelV x u) : absV u = some x := by
  cases x with
  | non => cases r; rfl
  | bl _ => cases r; rfl
  | int _ => obtain ⟨t, rfl⟩ := r; rfl
  | str _ => obtain ⟨t, rfl⟩ := r; rfl
  | byt _ => obtain ⟨t, rfl⟩ := r; rfl
  | flt _ => obtain ⟨t, rfl⟩ := r; rfl
  | ref _ => cases r; rfl
  | ty _ => cases r; rfl
theorem RelV.inj {x y : V} {u : Value} (r : RelV x u) (q : RelV y u) : x = y := Option.some.inj (r.abs.symm.trans q.abs)
theorem Vals.inj : ∀ {xs ys : List V} {us : List Value}, Vals xs us → Vals ys us → xs = ys
  | _, _, _, .nil, .nil => rfl
  | _, _, _, .cons r t, .cons r' t' => by rw [r.inj r', Vals.inj t t']
section
variable {X : Cx} {pins : List (Addr × Obj)} {σ : St} {H : Hp} {s : Shared} {a : Addr} {xs ys : List V}
theorem SqL.of {K : PySem.W.Frag} (h : H a = some (.lst xs)) : SqL K H a xs := .inl (.inl h)
theorem SqT.of {K : PySem.W.Frag} (h : H a = some (.tup xs)) : SqT K H a xs := .inl (.inl h)
theorem Inv.list (I : Inv X pins σ H s) (h : SqL X.K H a xs) : ∃ its : List Value, Vals xs its ∧ PlainL s.heap a its.toArray ∧ xs.length ≤ sizeLine := by
  rcases h with h | ⟨o, its, n, hk, hc, hd, hs, hz, r⟩
  · obtain ⟨z, its, n, r, e⟩ := h.ok I.hok
    exact ⟨its, r, ⟨_, n, e, rfl, rfl, rfl⟩, z⟩
  · refine ⟨its.toList, r, ⟨o, n, I.kIn a o hk, hc, hd, by simpa using hs⟩, ?_⟩
    have e := r.length
    simp only [Array.length_toList] at e
    omega
theorem Inv.tuple (I : Inv X pins σ H s) (h : SqT X.K H a xs) : ∃ its : List Value, Vals xs its ∧ IsTup s.heap a its.toArray ∧ xs.length ≤ sizeLine := by
  rcases h with h | ⟨o, its, n, hk, hc, hs, hz, r⟩
  · obtain ⟨z, its, r, p⟩ := h.ok I.hok
    exact ⟨its, r, p, z⟩
  · refine ⟨its.toList, r, ⟨o, I.kIn a o hk, hc, n, by simpa using hs⟩, ?_⟩
    have e := r.length
    simp only [Array.length_toList] at e
    omega
theorem Inv.list_inj (I : Inv X pins σ H s) (h : SqL X.K H a xs) (h' : SqL X.K H a ys) : xs = ys := by
  obtain ⟨its, r, ⟨o, n, e, _, _, d⟩, _⟩ := I.list h
  obtain ⟨its', r', ⟨o', n', e', _, _, d'⟩, _⟩ := I.list h'
  rw [e] at e'; cases e'
  rw [d] at d'
  injection d' with d1 _
  have : its = its' := by simpa using congrArg Array.toList d1
  subst this
  exact r.inj r'
theorem Inv.tuple_inj (I : Inv X pins σ H s) (h : SqT X.K H a xs) (h' : SqT X.K H a ys) : xs = ys := by
  obtain ⟨its, r, ⟨o, e, _, n, d⟩, _⟩ := I.tuple h
  obtain ⟨its', r', ⟨o', e', _, n', d'⟩, _⟩ := I.tuple h'
  rw [e] at e'; cases e'
  rw [d] at d'
  injection d' with d1 _
  have : its = its' := by simpa using congrArg Array.toList d1
  subst this
  exact r.inj r'
end

/-! ### another wish about exceptions -/
abbrev Cx.wish (X : Cx) (E : Value → Shared → Prop) : Cx := { X with xe := E }
/-- no exception leaves -/
abbrev Cx.nox (X : Cx) : Cx := X.wish fun _ _ => False
theorem Cx.Ok.wish {X : Cx} (ok : X.Ok) (E : Value → Shared → Prop) : (X.wish E).Ok :=
  ⟨ok.mod, ok.kind, ok.glob, ok.blt, ok.above, ok.inj, ok.has, ok.cab, ok.hd, ok.frames, ok.stk, ok.exf, ok.bs, ok.bsz, ok.noex, ok.exfs, ok.funs, ok.frf⟩
theorem Cx.Ok.unwish {X : Cx} {E : Value → Shared → Prop} (ok : (X.wish E).Ok) : X.Ok :=
  ⟨ok.mod, ok.kind, ok.glob, ok.blt, ok.above, ok.inj, ok.has, ok.cab, ok.hd, ok.frames, ok.stk, ok.exf, ok.bs, ok.bsz, ok.noex, ok.exfs, ok.funs, ok.frf⟩
section
variable {X : Cx} {pins : List (Addr × Obj)} {σ : St} {H : Hp} {s : Shared} {E : Value → Shared → Prop}
theorem Inv.wish (I : Inv X pins σ H s) (E : Value → Shared → Prop) : Inv (X.wish E) pins σ H s := ⟨I.ok.wish E, I.os, I.bare, I.base, I.loc, I.cell, I.free, I.freeC, I.pin, I.hok, I.len, I.tk⟩
theorem Inv.unwish (I : Inv (X.wish E) pins σ H s) : Inv X pins σ H s := ⟨I.ok.unwish, I.os, I.bare, I.base, I.loc, I.cell, I.free, I.freeC, I.pin, I.hok, I.len, I.tk⟩
theorem SP.unwish {D : Ends} {f : Flow} {s' : Shared} (h : SP (X.wish E) pins D f s') : SP X pins D f s' := by
  cases f with
  | next => obtain ⟨σ', H', I, q⟩ := h; exact ⟨σ', H', I.unwish, q⟩
  | brk => obtain ⟨σ', H', I, q⟩ := h; exact ⟨σ', H', I.unwish, q⟩
  | cont => obtain ⟨σ', H', I, q⟩ := h; exact ⟨σ', H', I.unwish, q⟩
  | ret u => obtain ⟨v, σ', H', I, r, q⟩ := h; exact ⟨v, σ', H', I.unwish, r, q⟩
theorem PSs.nox {st : List Stmt} {t : TS} (h : PSs X.nox st t) : PSs X st t := fun pins s σ H D I hw =>
  wpAny_mono (h pins s σ H D (I.wish _) hw) (fun _ _ q => q.unwish) fun _ _ z => False.elim z
end

/-! ### blocks and small statements -/
section
variable {X : Cx} {st : Stmt} {rest : List Stmt} {t u : TS} {e : Expr} {te : TE} {pos : Pos}
def tNext : TS := fun D σ H => D.nx σ H
def tSeq (t u : TS) : TS := fun D σ H => t { D with nx := u D } σ H
theorem pss_nil : PSs X [] tNext := fun _ _ σ H _ I h => wpAny_execs_nil ⟨σ, H, I, h⟩
theorem pss_cons (h1 : PS X st t) (h2 : PSs X rest u) : PSs X (st :: rest) (tSeq t u) := by
  intro pins s σ H D I h
  refine wpAny_execs_cons (thn (h1 pins s σ H { D with nx := u D } I h) fun f s1 q => ?_)
  cases f with
  | next =>
    obtain ⟨σ', H', I', q⟩ := q
    exact h2 pins s1 σ' H' D I' q
  | ret v => exact q
  | brk => exact q
  | cont => exact q
theorem pss_one (h1 : PS X st t) : PSs X [st] t := by
  intro pins s σ H D I h
  refine wpAny_execs_cons (thn (h1 pins s σ H D I h) fun f s1 q => ?_)
  cases f with
  | next => exact wpAny_execs_nil q
  | ret v => exact q
  | brk => exact q
  | cont => exact q
/-- in a def's body nothing is shown -/
theorem Inv.quiet {pins : List (Addr × Obj)} {σ : St} {H : Hp} {s : Shared} (I : Inv X pins σ H s) : interactive X.env = false := by simp [interactive, I.ok.kind]
/-- an expression whose value is dropped -/
def tDrop (te : TE) : TS := fun D σ H => te σ H fun _ H1 => D.nx σ H1
theorem ps_expr (he : PE X e te) (hs : swapsWith e none pos.line X.env = pure false := by rfl) : PS X (.Expr e pos) (tDrop te) := by
  intro pins s σ H D I h
  exact wpAny_Expr_any (thn (he pins s σ H _ I h) fun v s1 ⟨x, H1, I1, r1, q1⟩ => ⟨σ, H1, I1, q1⟩) I.quiet hs
def tRet (te : TE) : TS := fun D σ H => te σ H D.rt
theorem ps_ret (he : PE X e te) : PS X (.Return (some e) pos) (tRet te) := by
  intro pins s σ H D I h
  exact wpAny_Return_some (thn (he pins s σ H _ I h) fun v s1 ⟨x, H1, I1, r1, q1⟩ => ⟨x, σ, H1, I1, r1, q1⟩)
def tIfS (c : TT) (t u : TS) : TS := fun D σ H => c σ H fun b H1 => if b = true then t D σ H1 else u D σ H1
theorem ps_if {c : Expr} {a b : List Stmt} {tc : TT} (hc : PT X c tc) (ha : PSs X a t) (hb : PSs X b u) : PS X (.If c a b pos) (tIfS tc t u) := by
  intro pins s σ H D I h
  refine wpAny_If (thn (hc pins s σ H _ I h) fun d s1 ⟨H1, I1, q1⟩ => ?_)
  cases d with
  | true => exact ha pins s1 σ H1 D I1 q1
  | false => exact hb pins s1 σ H1 D I1 q1
end

/-! ### targets -/
abbrev TG := V → St → Hp → (St → Hp → Prop) → Prop
abbrev TGs := List V → St → Hp → (St → Hp → Prop) → Prop
def PG (X : Cx) (target : Expr) (t : TG) : Prop :=
  ∀ (pins : List (Addr × Obj)) (s : Shared) (σ : St) (H : Hp) (v : V) (u : Value) (Q : St → Hp → Prop), Inv X pins σ H s → RelV v u → t v σ H Q →
    wpAny (model X.prog X.w) X.A (assign target X.env u) (fun _ s' => ∃ σ' H', Inv X pins σ' H' s' ∧ Q σ' H') X.xe s
/-- several targets, one after another -/
def PGs (X : Cx) (ts : List Expr) (t : TGs) : Prop :=
  ∀ (pins : List (Addr × Obj)) (s : Shared) (σ : St) (H : Hp) (vs : List V) (us : List Value) (Q : St → Hp → Prop), Inv X pins σ H s → Vals vs us → t vs σ H Q →
    wpAny (model X.prog X.w) X.A (assignInOrder ((assignEach ts X.env).map (·.2)) us) (fun _ s' => ∃ σ' H', Inv X pins σ' H' s' ∧ Q σ' H') X.xe s
section
variable {X : Cx} {pos : Pos}
def gName (i : Nat) : TG := fun v σ H Q => Q (σ.set i (some v)) H
theorem pg_name {i : Nat} {x : Str} (hN : X.N.Nodup) (hi : X.N[i]? = some x) (hx : Loc X.env.scope x) (hf : X.fn x = true ∨ X.env.scope.names.lookup x = some .local := by first | exact .inl rfl | exact .inr rfl | assumption) : PG X (.Name x pos) (gName i) := by
  intro pins s σ H v u Q I r h
  exact wpAny_assign_Name (store_ok I hN hi hx r (fun s' I' => ⟨_, H, I', h⟩) hf)
def gNil : TGs := fun vs σ H Q => vs = [] ∧ Q σ H
def gCons (t : TG) (u : TGs) : TGs := fun vs σ H Q => ∃ v r, vs = v :: r ∧ t v σ H fun σ' H' => u r σ' H' Q
theorem pgs_nil : PGs X [] gNil := by
  intro pins s σ H vs us Q I r h
  obtain ⟨e, h⟩ := h
  subst e
  cases r
  exact assignInOrder_nil ⟨σ, H, I, h⟩
theorem pgs_cons {e : Expr} {es : List Expr} {t : TG} {u : TGs} (h1 : PG X e t) (h2 : PGs X es u)
    (hs : (assignEach (e :: es) X.env).map (·.2) = assign e X.env :: (assignEach es X.env).map (·.2) := by rfl) : PGs X (e :: es) (gCons t u) := by
  intro pins s σ H vs us Q I r h
  obtain ⟨v, vr, e1, h⟩ := h
  subst e1
  cases r with
  | cons r rr =>
    rw [hs]
    refine assignInOrder_cons (thn (h1 pins s σ H _ _ _ I r h) fun _ s1 ⟨σ1, H1, I1, q1⟩ => ?_)
    exact h2 pins s1 σ1 H1 _ _ Q I1 rr q1
/-- (a, b, ..) = a tuple of that length -/
def gTup (K : PySem.W.Frag) (n : Nat) (t : TGs) : TG := fun v σ H Q => ∃ a xs, v = .ref a ∧ SqT K H a xs ∧ xs.length = n ∧ t xs σ H Q
theorem pg_tup {es : List Expr} {k : Nat} {t : TGs} {n : Nat} (hc : X.calm = true) (h : PGs X es t)
    (hn : (assignEach es X.env).length = n := by rfl) (hst : (assignEach es X.env).findIdx? (·.1) = none := by rfl) : PG X (.Tuple es k pos) (gTup X.K n t) := by
  intro pins s σ H v u Q I r hw
  obtain ⟨a, xs, e1, hq, hl, hw⟩ := hw
  subst e1
  cases r
  obtain ⟨its, rv, ht, hz⟩ := I.tuple hq
  refine assign_Tuple_tuple (I.ok.hd hc) ht (by simp [hn, ← hl, rv.length]) hst fun h' hx => ?_
  have I1 : Inv X pins σ H { s with heap := h' } := I.kept (t' := s.toks) fun b o e => hx b o (Nat.ne_of_lt (Heap.lt_size e)) e
  exact h pins _ σ H xs _ Q I1 (by simpa using rv) hw
/-- target = value -/
def tAsg (te : TE) (g : TG) : TS := fun D σ H => te σ H fun x H1 => g x σ H1 D.nx
/-- name = value -/
theorem ps_set {i : Nat} {x : Str} {e : Expr} {te : TE} {pos' : Pos} (hN : X.N.Nodup) (hi : X.N[i]? = some x) (hx : Loc X.env.scope x) (he : PE X e te) (hs : swapsWith e (some (.Name x pos')) pos.line X.env = pure false := by rfl) (hf : X.fn x = true ∨ X.env.scope.names.lookup x = some .local := by first | exact .inl rfl | exact .inr rfl | assumption) :
    PS X (.Assign [.Name x pos'] e pos) (tAsg te (gName i)) := by
  intro pins s σ H D I h
  refine wpAny_Assign_Name (thn (he pins s σ H _ I h) fun v s1 ⟨y, H1, I1, r1, q1⟩ => ?_) hs
  exact store_ok I1 hN hi hx r1 (fun s2 I2 => ⟨_, H1, I2, q1⟩) hf
end

/-! ### while -/
section
variable {X : Cx} {pos : Pos}
end

/-! ### what a loop or a comprehension walks -/
/-- at turn i: it yields x (the heap may grow), or it stops -/
structure It where
  go : Nat → Hp → Prop
  yld : Nat → Hp → V → Hp → Prop
  stop : Nat → Hp → Prop
/-- the iterator's own objects may turn: they are not the frame's, not pinned, younger than the entry (or a comprehension's own) -/
def FpOk (X : Cx) (pins : List (Addr × Obj)) (H : Hp) (b : Addr) : Prop :=
  H b = none ∧ b ≠ X.env.locals ∧ b ∉ X.fs ∧ (b ∈ X.ex ∨ X.s₀.heap.objs.size ≤ b) ∧ (∀ x c, X.env.cells.lookup x = some c → c ≠ b) ∧ ∀ p ∈ X.pn ++ pins, p.1 ≠ b
theorem Inv.fpOk {X : Cx} {pins : List (Addr × Obj)} {σ : St} {H H' : Hp} {s : Shared} {b : Addr} (I : Inv X pins σ H s) (hb : s.heap.objs.size ≤ b) (hn : H' b = none) : FpOk X pins H' b := by
  refine ⟨hn, Nat.ne_of_gt (Nat.lt_of_lt_of_le I.lt hb), I.nofs hb, .inr (Nat.le_trans I.sz hb), fun x c e z => ?_, fun p hp z => ?_⟩
  · obtain ⟨v, q⟩ := I.cell x c e
    exact absurd (Nat.lt_of_lt_of_le q.lt (by rw [z]; exact hb)) (Nat.lt_irrefl _)
  · exact absurd (Nat.lt_of_lt_of_le (Heap.lt_size (I.pin p hp).1) (by rw [z]; exact hb)) (Nat.lt_irrefl _)
structure Turn (P : Program) (w : World) (K : PySem.W.Frag) (tg : Expr) (J : It) (fp : List Addr) (it : Addr) (tn : Nat → Heap → Prop) : Prop where
  mem : it ∈ fp
  obj : ∀ i h, tn i h → ∀ b ∈ fp, ∃ o, h.get? b = some o ∧ ∀ v, o.data ≠ .cell v
  keep : ∀ i h h', tn i h → (∀ b ∈ fp, ∀ o, h.get? b = some o → h'.get? b = some o) → tn i h'
  item : ∀ (X : Cx), X.prog = P → X.w = w → X.K = K → X.calm = true → ∀ (i : Nat) (pins : List (Addr × Obj)) (s : Shared) (σ : St) (H : Hp) (E : Value → Shared → Prop), Inv X pins σ H s → (∀ b ∈ fp, FpOk X pins H b) → tn i s.heap → J.go i H →
    wpAny (model P w) X.A (pyNext (.ref it)) (fun r s1 => ∃ u, r = some u ∧
      wpAny (model P w) X.A (letOwnedTupleGo tg (.ref it) u) (fun _ s2 => ∃ x H', Inv X pins σ H' s2 ∧ RelV x u ∧ J.yld i H x H' ∧ tn (i + 1) s2.heap ∧ ∀ b ∈ fp, H' b = none) E s1) E s
  done : ∀ (X : Cx), X.prog = P → X.w = w → X.K = K → X.calm = true → ∀ (i : Nat) (pins : List (Addr × Obj)) (s : Shared) (σ : St) (H : Hp) (E : Value → Shared → Prop), Inv X pins σ H s → (∀ b ∈ fp, FpOk X pins H b) → tn i s.heap → J.stop i H →
    wpAny (model P w) X.A (pyNext (.ref it)) (fun r s1 => r = none ∧ Inv X pins σ H s1) E s
  self : ∀ (A : Around) (i : Nat) (s : Shared) (Q : Value → Shared → Prop) (E : Value → Shared → Prop), tn i s.heap → Q (.ref it) s → wpAny (model P w) A (pyIter (.ref it)) Q E s
abbrev TI := St → Hp → (It → Hp → Prop) → Prop
/-- an iterator has come -/
def PIE (X : Cx) (pins : List (Addr × Obj)) (σ : St) (tg : Expr) (R : It → Hp → Prop) (itv : Value) (s2 : Shared) : Prop :=
  ∃ (it : Addr) (fp : List Addr) (tn : Nat → Heap → Prop) (J : It) (H' : Hp), itv = .ref it ∧ Inv X pins σ H' s2 ∧ Turn X.prog X.w X.K tg J fp it tn ∧ tn 0 s2.heap ∧ (∀ b ∈ fp, FpOk X pins H' b) ∧ R J H'
def PI (X : Cx) (tg iter : Expr) (wi : TI) : Prop :=
  ∀ (pins : List (Addr × Obj)) (s : Shared) (σ : St) (H : Hp) (R : It → Hp → Prop), Inv X pins σ H s → wi σ H R →
    wpAny (model X.prog X.w) X.A (eval iter X.env) (fun v s1 => wpAny (model X.prog X.w) X.A (pyIter v) (PIE X pins σ tg R) X.xe s1) X.xe s

/-- the step ahead of the store is nothing for an iterator that keeps no tuple -/
theorem go_of {M : Model} {A : Around} {E : Value → Shared → Prop} {s : Shared} {tg : Expr} {it : Addr} {u : Value} {o : Obj} {n : String} {vs : Array Value} {Q : Unit → Shared → Prop} (ho : s.heap.get? it = some o) (hc : o.cls = .type n) (hd : o.data = .fields vs)
    (hn : ["enumerate", "zip", "dict_itemiterator", "dict_reverseitemiterator", "odict_iterator", "itertools.zip_longest", "itertools.pairwise"].contains n = false) (hQ : Q () s) : wpAny M A (letOwnedTupleGo tg (.ref it) u) Q E s := by
  unfold letOwnedTupleGo
  cases tg <;> first
    | exact wpAny_pure hQ
    | (cases u <;> first
        | exact wpAny_pure hQ
        | (refine wpAny_bind (wpAny_load ho ?_)
           rw [hc, hd]
           show wpAny M A (if (["enumerate", "zip", "dict_itemiterator", "dict_reverseitemiterator", "odict_iterator", "itertools.zip_longest", "itertools.pairwise"].contains n && vs[0]? == some (rawInt _)) = true then _ else _) Q E s
           rw [if_neg (by intro h; rw [hn, Bool.false_and] at h; cases h)]
           exact wpAny_pure hQ))

/-- the list at a, as it stands at each turn (a loop may append to it) -/
def Itl (K : PySem.W.Frag) (a : Addr) : It :=
  ⟨fun i H => ∃ xs x, SqL K H a xs ∧ xs[i]? = some x, fun i H x H' => H' = H ∧ ∀ xs, SqL K H a xs → xs[i]? = some x, fun i H => ∃ xs, SqL K H a xs ∧ xs.length ≤ i⟩
/-- lo, lo + 1, .. (n of them) -/
def Itr (lo : Int) (n : Nat) : It := ⟨fun i _ => i < n, fun i H x H' => H' = H ∧ x = .int (lo + i), fun i _ => n ≤ i⟩
theorem turn_list {P : Program} {w : World} {K : PySem.W.Frag} {tg : Expr} (a it : Addr) : Turn P w K tg (Itl K a) [it] it (fun i h => h.IsListIter it a i) where
  mem := by simp
  obj := fun i h st b hb => by
    have e : b = it := by simpa using hb
    subst e
    obtain ⟨o, e, c, d⟩ := st
    exact ⟨o, e, fun v z => by rw [d] at z; cases z⟩
  keep := fun i h h' st k => st.at fun o e => k it (by simp) o e
  item := by
    intro X hP hw hK hc i pins s σ H E I hf st hg
    subst hP hw hK
    obtain ⟨xs, x, hq, hx⟩ := hg
    obtain ⟨its, rv, p, hz⟩ := I.list hq
    obtain ⟨u, hu, ru⟩ := rv.get hx
    obtain ⟨f0, f1, f2, f3, f4, f5⟩ := hf it (by simp)
    refine wpAny_pyNext_list_item st p.isList (x := u) (by simpa using hu) fun h' st' sb => ?_
    have I1 : Inv X pins σ H { s with heap := h' } := I.turned (t' := s.toks) (fun b o hb e => (sb.2 b hb).trans e) f0 f1 f3 f4 f5
    obtain ⟨o, e, c, d⟩ := id st'
    exact ⟨u, rfl, go_of (s := { s with heap := h' }) e c d (by decide) ⟨x, H, I1, ru, ⟨rfl, fun ys hy => by rw [I.list_inj hy hq]; exact hx⟩, st', fun b hb => (hf b hb).1⟩⟩
  done := by
    intro X hP hw hK hc i pins s σ H E I hf st hg
    subst hP hw hK
    obtain ⟨xs, hq, hx⟩ := hg
    obtain ⟨its, rv, p, hz⟩ := I.list hq
    obtain ⟨f0, f1, f2, f3, f4, f5⟩ := hf it (by simp)
    have hl := rv.length
    exact wpAny_pyNext_list_end (I.ok.hd hc) st p.isList (by simp; omega) fun h' eb => ⟨rfl, I.turned (t' := s.toks) (fun b o hb e => eb b o hb e) f0 f1 f3 f4 f5⟩
  self := fun _ _ _ _ _ st h => wpAny_pyIter_listiter st h
theorem turn_range {P : Program} {w : World} {K : PySem.W.Frag} {tg : Expr} (it : Addr) (lo : Int) (n : Nat) : Turn P w K tg (Itr lo n) [it] it (fun i h => IsRangeIter h it (lo + (i : Nat) * 1) ((n : Int) - (i : Nat)) 1) where
  mem := by simp
  obj := fun i h st b hb => by
    have e : b = it := by simpa using hb
    subst e
    exact ⟨_, st, fun v z => by
      have z' : Data.fields _ = Data.cell v := z
      cases z'⟩
  keep := fun i h h' st k => k it (by simp) _ st
  item := by
    intro X hP hw hK hc i pins s σ H E I hf st hg
    subst hP hw hK
    obtain ⟨f0, f1, f2, f3, f4, f5⟩ := hf it (by simp)
    have W := Walks.range (prog := X.prog) (w := X.w) (I.ok.hd hc) it lo 1 n
    refine wpAny_pos I.tk (W.item i s _ _ hg st fun v h' tk hv st' kk ht => ?_)
    obtain ⟨t, rfl⟩ := hv
    have I1 : Inv X pins σ H { s with heap := h', toks := tk } := I.turned (fun b o hb e => kk b o (by simpa using hb) e) f0 f1 f3 f4 f5
    refine ⟨_, rfl, go_of (s := { s with heap := h', toks := tk }) (n := "range_iterator") st' rfl rfl (by decide) ⟨.int (lo + i), H, I1, ⟨t, ?_⟩, ⟨rfl, rfl⟩, st', fun b hb => (hf b hb).1⟩⟩
    rw [Int.mul_one]
  done := by
    intro X hP hw hK hc i pins s σ H E I hf st hg
    subst hP hw hK
    obtain ⟨f0, f1, f2, f3, f4, f5⟩ := hf it (by simp)
    exact wpAny_pyNext_range_end (I.ok.hd hc) st (by have : n ≤ i := hg; omega) fun h' eb => ⟨rfl, I.turned (t' := s.toks) (fun b o hb e => eb b o hb e) f0 f1 f3 f4 f5⟩
  self := fun _ _ _ _ _ st h => wpAny_pyIter_rangeiter st h
end L2

namespace L2
open PySem PySem.Spec PyProof.Rows
section
variable {X : Cx} {tg : Expr}
def iList (K : PySem.W.Frag) (tl : TE) : TI := fun σ H R => tl σ H fun x H1 => ∃ a, x = .ref a ∧ (∃ xs, SqL K H1 a xs) ∧ R (Itl K a) H1
theorem pi_list {l : Expr} {tl : TE} (hl : PE X l tl) : PI X tg l (iList X.K tl) := by
  intro pins s σ H R I h
  refine thn (hl pins s σ H _ I h) fun v s1 ⟨x, H1, I1, r1, q1⟩ => ?_
  obtain ⟨a, e, ⟨xs, hq⟩, q⟩ := q1
  subst e
  cases r1
  obtain ⟨its, rv, p, hz⟩ := I1.list hq
  refine wpAny_pyIter_list p.isList ?_
  refine ⟨s1.heap.objs.size, [s1.heap.objs.size], _, _, H1, rfl, I1.kept (t' := s1.toks) fun b o e => Heap.get?_push_of_some _ e, turn_list a _, ⟨_, Heap.get?_push_size _ rfl, rfl, rfl⟩, fun b hb => ?_, q⟩
  have e : b = s1.heap.objs.size := by simpa using hb
  subst e
  exact I1.fpOk (Nat.le_refl _) (I1.hok.fresh (Nat.le_refl _))
/-- a range object just made, walked -/
theorem range_it {pins : List (Addr × Obj)} {σ : St} {H : Hp} {s : Shared} {R : It → Hp → Prop} {E : Value → Shared → Prop} {lo hi : Int} {t u v : Tok} {tk : Nat} (I : Inv X pins σ H s) (h1 : -(2 ^ 62) ≤ lo) (h2 : lo < 2 ^ 62) (h3 : -(2 ^ 62) ≤ hi) (h4 : hi < 2 ^ 62)
    (q : R (Itr lo (hi - lo).toNat) H) (ht : 0 < tk := by (first | assumption | exact Nat.succ_pos _ | exact Inv.tk (by assumption) | exact Nat.lt_of_lt_of_le (Inv.tk (by assumption)) (Nat.le_add_right _ _) | exact Nat.lt_of_lt_of_le (Inv.tk (by assumption)) (by assumption))) : wpAny (model X.prog X.w) X.A (pyIter (.ref s.heap.objs.size)) (PIE X pins σ tg R) E { s with heap := s.heap.push { cls := .type "range", data := .fields #[.int lo t, .int hi u, .int 1 v] }, toks := tk } := by
  refine wpAny_pyIter_range (IsRange.new ..) (small_one h1 h2 h3 h4) ?_
  have I1 : Inv X pins σ H { s with heap := s.heap.push { cls := .type "range", data := .fields #[.int lo t, .int hi u, .int 1 v] }, toks := tk } := I.kept fun b o e => Heap.get?_push_of_some _ e
  refine ⟨(s.heap.push { cls := .type "range", data := .fields #[.int lo t, .int hi u, .int 1 v] }).objs.size, [(s.heap.push { cls := .type "range", data := .fields #[.int lo t, .int hi u, .int 1 v] }).objs.size], _, _, H, rfl,
    I1.kept (t' := tk) fun b o e => Heap.get?_push_of_some _ e, turn_range _ lo (hi - lo).toNat, ?_, fun b hb => ?_, q⟩
  · have e1 : lo + ((0 : Nat) : Int) * 1 = lo := by simp
    have e2 : (((hi - lo).toNat : Nat) : Int) - ((0 : Nat) : Int) = Builtin.Range.rangeSize lo hi 1 := by rw [rangeSize_one]; split <;> omega
    show IsRangeIter _ _ (lo + ((0 : Nat) : Int) * 1) ((((hi - lo).toNat : Nat) : Int) - ((0 : Nat) : Int)) 1
    rw [e1, e2]
    exact Heap.get?_push_size _ rfl
  · have e : b = (s.heap.push { cls := .type "range", data := .fields #[.int lo t, .int hi u, .int 1 v] }).objs.size := by simpa using hb
    subst e
    exact I1.fpOk (Nat.le_refl _) (I1.hok.fresh (Nat.le_refl _))
def iRng1 (ta : TA) : TI := fun σ H R => ta σ H fun vs H1 => ∃ j : Int, vs = [.int j] ∧ -(2 ^ 62) ≤ j ∧ j < 2 ^ 62 ∧ R (Itr 0 j.toNat) H1
theorem pi_range1 {a : Expr} {ta : TA} {p pos : Pos} (hg : Gl X "range") (hm : X.mg "range" = none) (ha : PA X [a] ta) (hs : starEach [a] X.env = [(false, eval a X.env)] := by rfl) : PI X tg (.Call (.Name "range" p) [a] [] pos) (iRng1 ta) := by
  intro pins s σ H R I h
  refine Call_ (ld_blt I hg hm boot_range (PyProof.Rows.callWith_type1 (thn (ha pos pins s σ H _ I h) fun us s1 ⟨vs, H1, I1, r1, q1⟩ => ?_) hs rfl))
  obtain ⟨j, e, q1, q2, q⟩ := q1
  subst e
  cases r1 with
  | cons r rr =>
    cases rr
    obtain ⟨t, rfl⟩ := r
    exact call_range_1 (range_it I1 (by omega) (by omega) q1 q2 (by simpa using q))

/-! ### for -/
/-- W: the invariant by the turn and a measure; N: what the body is to reach -/
def tFor (wi : TI) (g : TG) (tb : TS) : TS := fun D σ H => wi σ H fun J H1 => ∃ W : Nat → Nat → St → Hp → Prop, (∃ m, W 0 m σ H1) ∧ ∀ i m σ H, W i m σ H →
  (J.stop i H ∧ D.nx σ H) ∨ (J.go i H ∧ ∃ N : St → Hp → Prop, (∀ σ' H', N σ' H' → ∃ m', m' < m ∧ W (i + 1) m' σ' H') ∧ ∀ x H', J.yld i H x H' → g x σ H' fun σ2 H2 => tb { D with nx := N, ct := N, bk := D.nx } σ2 H2)
/-- the records at fp as they stand -/
def pinsAt (fp : List Addr) (h : Heap) : List (Addr × Obj) := fp.filterMap fun b => (h.get? b).map fun o => (b, o)
theorem mem_pinsAt {fp : List Addr} {h : Heap} {b : Addr} {o : Obj} (hb : b ∈ fp) (e : h.get? b = some o) : (b, o) ∈ pinsAt fp h := List.mem_filterMap.mpr ⟨b, hb, by rw [e]; rfl⟩
theorem of_pinsAt {fp : List Addr} {h : Heap} {p : Addr × Obj} (hp : p ∈ pinsAt fp h) : p.1 ∈ fp ∧ h.get? p.1 = some p.2 := by
  obtain ⟨b, hb, e⟩ := List.mem_filterMap.mp hp
  cases q : h.get? b with
  | none => rw [q] at e; cases e
  | some o =>
    rw [q] at e
    have e' : (b, o) = p := Option.some.inj e
    subst e'
    exact ⟨hb, q⟩
theorem Inv.pinned {pins : List (Addr × Obj)} {σ : St} {H : Hp} {s : Shared} {fp : List Addr} (I : Inv X pins σ H s) (hf : ∀ b ∈ fp, FpOk X pins H b) (ho : ∀ b ∈ fp, ∃ o, s.heap.get? b = some o ∧ ∀ v, o.data ≠ .cell v) : Inv X (pins ++ pinsAt fp s.heap) σ H s :=
  I.pins_of fun p hp => (List.mem_append.mp hp).elim (fun z => I.pin p (List.mem_append_right _ z)) fun z => by
    obtain ⟨hb, e⟩ := of_pinsAt z
    obtain ⟨f0, f1, f2, _⟩ := hf p.1 hb
    obtain ⟨o, e', d⟩ := ho p.1 hb
    rw [e] at e'; cases e'
    exact ⟨e, f0, f1, f2, d⟩
theorem Inv.unpinned {pins pl : List (Addr × Obj)} {σ : St} {H : Hp} {s : Shared} (I : Inv X (pins ++ pl) σ H s) : Inv X pins σ H s := I.pins_of fun p hp => I.pin p (List.mem_append_right _ (List.mem_append_left _ hp))
theorem ps_for {iter : Expr} {body : List Stmt} {wi : TI} {g : TG} {tb : TS} {pos : Pos} (hp : PassesOwn (model X.prog X.w) X.A X.env X.xe) (hc : X.calm = true) (hi : PI X tg iter wi) (hg : PG X tg g) (hb : PSs X body tb)
    (hs : ∀ x, foldedSetIterable iter X.env x = pure x := by intro _; rfl) : PS X (.For tg iter body [] pos) (tFor wi g tb) := by
  intro pins s σ H D I h
  refine wpAny_For (thn (hi pins s σ H _ I h) fun v s1 h1 => thn h1 fun itv s2 h2 => ?_) hs
  obtain ⟨it, fp, tn, J, H2, e, I2, T, st2, f2, W, ⟨m0, w0⟩, turn⟩ := h2
  subst e
  -- what stays true of the iterator's objects through the loop
  have stat : ∀ {H' : Hp}, (∀ b ∈ fp, H' b = none) → ∀ b ∈ fp, FpOk X pins H' b := fun hn b hb => ⟨hn b hb, (f2 b hb).2⟩
  refine codeAny_forLoop_any (fun n s' => ∃ i σ' H', Inv X pins σ' H' s' ∧ tn i s'.heap ∧ (∀ b ∈ fp, H' b = none) ∧ W i n σ' H') ?_ m0 ⟨0, σ, H2, I2, st2, fun b hb => (f2 b hb).1, w0⟩
  rintro n s3 ⟨i, σ3, H3, I3, st3, fr3, w3⟩
  rcases turn i n σ3 H3 w3 with ⟨stop, qn⟩ | ⟨go, N, hN, step⟩
  · refine wpAny_passesOwn hp (thn (T.done X rfl rfl rfl hc i pins s3 σ3 H3 X.xe I3 (stat fr3) st3 stop) fun r s4 ⟨hr, I4⟩ => ?_)
    subst hr
    exact wpAny_execs_nil ⟨σ3, H3, I4, qn⟩
  · refine wpAny_passesOwn hp (thn (T.item X rfl rfl rfl hc i pins s3 σ3 H3 X.xe I3 (stat fr3) st3 go) fun r s4 ⟨u, hr, h4⟩ => ?_)
    subst hr
    refine wpAny_passesOwn hp (thn h4 fun _ s5 ⟨x, H5, I5, r5, y5, st5, fr5⟩ => ?_)
    have I5' := I5.pinned (stat fr5) (T.obj _ _ st5)
    refine wpAny_passesOwn hp (thn (hg _ s5 σ3 H5 x u _ I5' r5 (step x H5 y5)) fun _ s6 ⟨σ6, H6, I6, q6⟩ => ?_)
    refine wpAny_passesOwn hp (thn (hb _ s6 σ6 H6 _ I6 q6) fun f s7 q7 => ?_)
    have again : ∀ {σ7 : St} {H7 : Hp}, Inv X (pins ++ pinsAt fp s5.heap) σ7 H7 s7 → N σ7 H7 → ∃ m, m < n ∧ ∃ i σ' H', Inv X pins σ' H' s7 ∧ tn i s7.heap ∧ (∀ b ∈ fp, H' b = none) ∧ W i m σ' H' := fun {σ7 H7} I7 n7 => by
      obtain ⟨m', hm, w7⟩ := hN σ7 H7 n7
      refine ⟨m', hm, i + 1, σ7, H7, I7.unpinned, T.keep _ _ _ st5 fun b hb o e => (I7.pin (b, o) (List.mem_append_right _ (List.mem_append_right _ (mem_pinsAt hb e)))).1, fun b hb => ?_, w7⟩
      obtain ⟨o, e, d⟩ := T.obj _ _ st5 b hb
      exact (I7.pin (b, o) (List.mem_append_right _ (List.mem_append_right _ (mem_pinsAt hb e)))).2.1
    cases f with
    | next => obtain ⟨σ7, H7, I7, n7⟩ := q7; exact again I7 n7
    | cont => obtain ⟨σ7, H7, I7, n7⟩ := q7; exact again I7 n7
    | brk => obtain ⟨σ7, H7, I7, q7⟩ := q7; exact ⟨σ7, H7, I7.unpinned, q7⟩
    | ret v => obtain ⟨x7, σ7, H7, I7, r7, q7⟩ := q7; exact ⟨x7, σ7, H7, I7.unpinned, r7, q7⟩
end

/-! ### the forms one uses -/
end L2

namespace L2
open PySem PySem.Spec PyProof.Rows

abbrev R2 := V → V → Hp → VK → Prop
/-- a two-place operation on values: f is binaryOp op, inplaceOp op or compareOp op -/
def OpR (X : Cx) (f : Value → Value → Sem Value) (r : R2) : Prop :=
  ∀ (pins : List (Addr × Obj)) (s : Shared) (σ : St) (H : Hp) (x y : V) (v u : Value) (Q : VK), Inv X pins σ H s → RelV x v → RelV y u → r x y H Q →
    wpAny (model X.prog X.w) X.A (f v u) (EP X pins σ Q) X.xe s
/-- a call of a value that is known (a builtin, a type) with values -/
def CallR (X : Cx) (f : Value) (r : List V → Hp → VK → Prop) : Prop :=
  ∀ (pins : List (Addr × Obj)) (s : Shared) (σ : St) (H : Hp) (xs : List V) (us : List Value) (Q : VK), Inv X pins σ H s → Vals xs us → r xs H Q →
    wpAny (model X.prog X.w) X.A (call f us) (EP X pins σ Q) X.xe s

def tOp (r : R2) (ta tb : TE) : TE := fun σ H Q => ta σ H fun x H1 => tb σ H1 fun y H2 => r x y H2 Q
/-- ints in, under C, and a value out -/
def rI (C : Int → Int → Prop) (g : Int → Int → V) : R2 := fun x y H Q => ∃ i j, x = .int i ∧ y = .int j ∧ C i j ∧ Q (g i j) H
def rI0 (g : Int → Int → V) : R2 := fun x y H Q => ∃ i j, x = .int i ∧ y = .int j ∧ Q (g i j) H

section
variable {X : Cx} {a b c : Expr} {ta tb tc : TE} {pos : Pos}

theorem binT (ha : PE X a ta) (hb : PE X b tb) {pins : List (Addr × Obj)} {s : Shared} {σ : St} {H : Hp} {R : V → V → Hp → Prop} (I : Inv X pins σ H s)
    (h : ta σ H fun x H1 => tb σ H1 fun y H2 => R x y H2) {Q : Value → Shared → Prop} {f : Value → Value → Sem Value}
    (hf : ∀ v u s2 x y H2, Inv X pins σ H2 s2 → RelV x v → RelV y u → R x y H2 → wpAny (model X.prog X.w) X.A (f v u) Q X.xe s2) :
    wpAny (model X.prog X.w) X.A (eval a X.env) (fun v s₁ => wpAny (model X.prog X.w) X.A (eval b X.env) (fun u s₂ => wpAny (model X.prog X.w) X.A (f v u) Q X.xe s₂) X.xe s₁) X.xe s := by
  refine thn (ha pins s σ H _ I h) fun v s1 ⟨x, H1, I1, r1, q1⟩ => ?_
  refine thn (hb pins s1 σ H1 _ I1 q1) fun u s2 ⟨y, H2, I2, r2, q2⟩ => ?_
  exact hf v u s2 x y H2 I2 r1 r2 q2

theorem pe_op {op : Operator} {r : R2} (ho : OpR X (binaryOp op) r) (ha : PE X a ta) (hb : PE X b tb) : PE X (.BinOp a op b pos) (tOp r ta tb) := by
  intro pins s σ H Q I h
  exact wpAny_BinOp (binT ha hb I h fun v u s2 x y H2 I2 rx ry q => ho pins s2 σ H2 x y v u Q I2 rx ry q)

/-! ### ints -/
theorem opI {f : Value → Value → Sem Value} {C : Int → Int → Prop} {g : Int → Int → Int}
    (rule : ∀ (i j : Int) (t u : Tok) (s : Shared) (Q : Value → Shared → Prop) (E : Value → Shared → Prop), C i j → Q (.int (g i j) s.toks) { s with toks := s.toks + 1 } → wpAny (model X.prog X.w) X.A (f (.int i t) (.int j u)) Q E s) :
    OpR X f (rI C fun i j => .int (g i j)) := by
  intro pins s σ H x y v u Q I rx ry h
  obtain ⟨i, j, rfl, rfl, hc, q⟩ := h
  obtain ⟨t, rfl⟩ := rx
  obtain ⟨t', rfl⟩ := ry
  exact rule i j t t' s _ _ hc ⟨.int (g i j), H, I.tok _, ⟨_, rfl⟩, q⟩
theorem opI0 {f : Value → Value → Sem Value} {g : Int → Int → Int}
    (rule : ∀ (i j : Int) (t u : Tok) (s : Shared) (Q : Value → Shared → Prop) (E : Value → Shared → Prop), Q (.int (g i j) s.toks) { s with toks := s.toks + 1 } → wpAny (model X.prog X.w) X.A (f (.int i t) (.int j u)) Q E s) :
    OpR X f (rI0 fun i j => .int (g i j)) := by
  intro pins s σ H x y v u Q I rx ry h
  obtain ⟨i, j, rfl, rfl, q⟩ := h
  obtain ⟨t, rfl⟩ := rx
  obtain ⟨t', rfl⟩ := ry
  exact rule i j t t' s _ _ ⟨.int (g i j), H, I.tok _, ⟨_, rfl⟩, q⟩
theorem opB0 {f : Value → Value → Sem Value} {g : Int → Int → Bool}
    (rule : ∀ (i j : Int) (t u : Tok) (s : Shared) (Q : Value → Shared → Prop) (E : Value → Shared → Prop), Q (.bool (g i j)) s → wpAny (model X.prog X.w) X.A (f (.int i t) (.int j u)) Q E s) :
    OpR X f (rI0 fun i j => .bl (g i j)) := by
  intro pins s σ H x y v u Q I rx ry h
  obtain ⟨i, j, rfl, rfl, q⟩ := h
  obtain ⟨t, rfl⟩ := rx
  obtain ⟨t', rfl⟩ := ry
  exact rule i j t t' s _ _ ⟨.bl (g i j), H, I, rfl, q⟩

def CDiv (i j : Int) : Prop := 0 < j ∧ j < 1073741824
def CPow (i j : Int) : Prop := 0 ≤ j ∧ j ≤ 1000000 ∧ i.natAbs < 2 ^ 64
def CMul (i j : Int) : Prop := (-(2 ^ 64) < i ∧ i < 2 ^ 64) ∨ (-(2 ^ 64) < j ∧ j < 2 ^ 64)
theorem CMul.ok {i j : Int} (h : CMul i j) : IntMulOk i j := by
  rcases h with ⟨h1, h2⟩ | ⟨h1, h2⟩
  · exact .of_left (intBits_le_64 h1 h2)
  · exact .of_right (intBits_le_64 h1 h2)

theorem op_add : OpR X (binaryOp .Add) (rI0 fun i j => .int (i + j)) := opI0 fun _ _ _ _ _ _ _ q => add_int q
theorem op_mul : OpR X (binaryOp .Mult) (rI CMul fun i j => .int (i * j)) := opI fun _ _ _ _ _ _ _ hc q => mul_int q hc.ok
/-- // by a positive divisor -/
theorem op_fdiv : OpR X (binaryOp .FloorDiv) (rI CDiv fun i j => .int (i / j)) := opI fun i j _ _ _ _ _ hc q => by
  have h1 : (0 : Int) < j := hc.1
  have h2 : j < 1073741824 := hc.2
  exact floordiv_int (by omega) (by rw [Int.fdiv_eq_ediv_of_nonneg i (by omega)]; exact q) (.inl (PyProof.noPylong_small (by omega)))
/-- % by a positive divisor of any size -/
theorem op_mod : OpR X (binaryOp .Mod) (rI (fun _ j => 0 < j) fun i j => .int (i % j)) := opI fun i j _ _ _ _ _ hc q => by
  have h1 : (0 : Int) < j := hc
  exact mod_int' (by omega) (by rw [Int.fmod_eq_emod_of_nonneg i (by omega)]; exact q)
theorem op_pow : OpR X (binaryOp .Pow) (rI CPow fun i j => .int (i ^ j.toNat)) := opI fun _ _ _ _ _ _ _ hc q => pow_int_small hc.1 hc.2.1 hc.2.2 q



/-! ### bools among ints: n += (a < b) -/
end

/-! ### comparisons -/
/-- the scalars that == tells apart as data does -/
def scal : V → V → Bool
  | .non, .non => true | .non, .int _ => true | .int _, .non => true | .non, .bl _ => true | .bl _, .non => true | .non, .str _ => true | .str _, .non => true
  | .int _, .int _ => true | .bl _, .bl _ => true | .str _, .str _ => true | .byt _, .byt _ => true
  | .int _, .str _ => true | .str _, .int _ => true | .bl _, .str _ => true | .str _, .bl _ => true
  | _, _ => false
def rEq : R2 := fun x y H Q => scal x y = true ∧ Q (.bl (decide (x = y))) H
def rNe : R2 := fun x y H Q => scal x y = true ∧ Q (.bl (!decide (x = y))) H

theorem dec_int {i j : Int} : decide (V.int i = V.int j) = (i == j) := by
  rw [Bool.eq_iff_iff]
  simp
theorem dec_bl {i j : Bool} : decide (V.bl i = V.bl j) = (i == j) := by
  rw [Bool.eq_iff_iff]
  simp
theorem dec_str {i j : Str} : decide (V.str i = V.str j) = (i == j) := by
  rw [Bool.eq_iff_iff]
  simp
theorem dec_byt {i j : Array UInt8} : decide (V.byt i = V.byt j) = (i.toList == j.toList) := by
  rw [Bool.eq_iff_iff]
  cases i
  cases j
  simp

section
variable {X : Cx} {a b c : Expr} {ta tb tc : TE} {pos : Pos}
theorem fin_bl {pins : List (Addr × Obj)} {σ : St} {H : Hp} {s : Shared} {Q : VK} {k k' : Bool} (I : Inv X pins σ H s) (q : Q (.bl k) H) (e : k = k') : EP X pins σ Q (.bool k') s := by
  subst e
  exact ⟨.bl k, H, I, rfl, q⟩
theorem op_eq : OpR X (compareOp .Eq) rEq := by
  intro pins s σ H x y v u Q I rx ry h
  obtain ⟨hs, q⟩ := h
  cases x with
  | non =>
    cases rx
    cases y with
    | non => cases ry; exact PySem.EqNone.eq_none_none (fin_bl I q (by simp))
    | bl j => cases ry; exact PySem.EqNone.eq_none_bool (fin_bl I q (by simp))
    | int j => obtain ⟨t', rfl⟩ := ry; exact PySem.EqNone.eq_none_int (fin_bl I q (by simp))
    | str j => obtain ⟨t', rfl⟩ := ry; exact PySem.EqNone.eq_none_str (fin_bl I q (by simp))
    | _ => exact absurd (show false = true from hs) Bool.false_ne_true
  | bl i =>
    cases rx
    cases y with
    | non => cases ry; exact PySem.EqNone.eq_bool_none (fin_bl I q (by simp))
    | bl j => cases ry; exact eq_bool (fin_bl I q dec_bl)
    | str j => obtain ⟨t', rfl⟩ := ry; exact PySem.EqMixed.eq_bool_str (fin_bl I q (by simp))
    | _ => exact absurd (show false = true from hs) Bool.false_ne_true
  | int i =>
    obtain ⟨t, rfl⟩ := rx
    cases y with
    | non => cases ry; exact PySem.EqNone.eq_int_none (fin_bl I q (by simp))
    | int j => obtain ⟨t', rfl⟩ := ry; exact eq_int (fin_bl I q dec_int)
    | str j => obtain ⟨t', rfl⟩ := ry; exact PySem.EqMixed.eq_int_str (fin_bl I q (by simp))
    | _ => exact absurd (show false = true from hs) Bool.false_ne_true
  | str i =>
    obtain ⟨t, rfl⟩ := rx
    cases y with
    | non => cases ry; exact PySem.EqNone.eq_str_none (fin_bl I q (by simp))
    | bl j => cases ry; exact PySem.EqMixed.eq_str_bool (fin_bl I q (by simp))
    | int j => obtain ⟨t', rfl⟩ := ry; exact PySem.EqMixed.eq_str_int (fin_bl I q (by simp))
    | str j => obtain ⟨t', rfl⟩ := ry; exact eq_str (fin_bl I q dec_str)
    | _ => exact absurd (show false = true from hs) Bool.false_ne_true
  | byt i =>
    obtain ⟨t, rfl⟩ := rx
    cases y with
    | byt j => obtain ⟨t', rfl⟩ := ry; exact PySem.W.eq_bytes (fin_bl I q dec_byt)
    | _ => exact absurd (show false = true from hs) Bool.false_ne_true
  | _ => cases y <;> exact absurd (show false = true from hs) Bool.false_ne_true
theorem op_ne : OpR X (compareOp .NotEq) rNe := by
  intro pins s σ H x y v u Q I rx ry h
  obtain ⟨hs, q⟩ := h
  cases x with
  | non =>
    cases rx
    cases y with
    | non => cases ry; exact PySem.EqNone.ne_none_none (fin_bl I q (by simp))
    | bl j => cases ry; exact PySem.EqNone.ne_none_bool (fin_bl I q (by simp))
    | int j => obtain ⟨t', rfl⟩ := ry; exact PySem.EqNone.ne_none_int (fin_bl I q (by simp))
    | str j => obtain ⟨t', rfl⟩ := ry; exact PySem.EqNone.ne_none_str (fin_bl I q (by simp))
    | _ => exact absurd (show false = true from hs) Bool.false_ne_true
  | bl i =>
    cases rx
    cases y with
    | non => cases ry; exact PySem.EqNone.ne_bool_none (fin_bl I q (by simp))
    | bl j => cases ry; exact ne_bool (fin_bl I q (congrArg not dec_bl))
    | str j => obtain ⟨t', rfl⟩ := ry; exact PySem.EqMixed.ne_bool_str (fin_bl I q (by simp))
    | _ => exact absurd (show false = true from hs) Bool.false_ne_true
  | int i =>
    obtain ⟨t, rfl⟩ := rx
    cases y with
    | non => cases ry; exact PySem.EqNone.ne_int_none (fin_bl I q (by simp))
    | int j => obtain ⟨t', rfl⟩ := ry; exact ne_int (fin_bl I q (congrArg not dec_int))
    | str j => obtain ⟨t', rfl⟩ := ry; exact PySem.EqMixed.ne_int_str (fin_bl I q (by simp))
    | _ => exact absurd (show false = true from hs) Bool.false_ne_true
  | str i =>
    obtain ⟨t, rfl⟩ := rx
    cases y with
    | non => cases ry; exact PySem.EqNone.ne_str_none (fin_bl I q (by simp))
    | bl j => cases ry; exact PySem.EqMixed.ne_str_bool (fin_bl I q (by simp))
    | int j => obtain ⟨t', rfl⟩ := ry; exact PySem.EqMixed.ne_str_int (fin_bl I q (by simp))
    | str j => obtain ⟨t', rfl⟩ := ry; exact ne_str (fin_bl I q (congrArg not dec_str))
    | _ => exact absurd (show false = true from hs) Bool.false_ne_true
  | byt i =>
    obtain ⟨t, rfl⟩ := rx
    cases y with
    | byt j => obtain ⟨t', rfl⟩ := ry; exact PySem.W.ne_bytes (fin_bl I q (congrArg not dec_byt))
    | _ => exact absurd (show false = true from hs) Bool.false_ne_true
  | _ => cases y <;> exact absurd (show false = true from hs) Bool.false_ne_true

theorem op_gt : OpR X (compareOp .Gt) (rI0 fun i j => .bl (decide (j < i))) := opB0 fun _ _ _ _ _ _ _ q => gt_int q




theorem nomark (b : Expr) {op : CmpOp} (h : op ≠ .In := by decide) (h2 : op ≠ .NotIn := by decide) : behindInMarks op b = false := by
  have e1 : (op == CmpOp.In) = false := by cases op <;> first | rfl | exact absurd rfl h
  have e2 : (op == CmpOp.NotIn) = false := by cases op <;> first | rfl | exact absurd rfl h2
  cases b <;> simp [behindInMarks, e1, e2]
/-- a comparison as a value; hm: nomark b, or (for in, not in) by with_unfolding_all rfl -/
theorem pe_cmpR {op : CmpOp} {r : R2} (ho : OpR X (compareOp op) r) (ha : PE X a ta) (hb : PE X b tb) (hm : behindInMarks op b = false) : PE X (.Compare a [op] [b] pos) (tOp r ta tb) := by
  intro pins s σ H Q I h
  exact wpAny_Compare1 (binT ha hb I h fun v u s2 x y H2 I2 rx ry q => ho pins s2 σ H2 x y v u Q I2 rx ry q) hm
/-- a reading of a value as a test -/
def tTest (t : TE) : TT := fun σ H Q => t σ H fun x H' => ∃ k, x = .bl k ∧ Q k H'
theorem pt_cmpR {op : CmpOp} {r : R2} (ho : OpR X (compareOp op) r) (ha : PE X a ta) (hb : PE X b tb) (hm : behindInMarks op b = false) : PT X (.Compare a [op] [b] pos) (tTest (tOp r ta tb)) := by
  intro pins s σ H Q I h
  refine wpAny_isTrue_Compare1 (thn (ha pins s σ H _ I h) fun v s1 ⟨x, H1, I1, r1, q1⟩ => thn (hb pins s1 σ H1 _ I1 q1) fun u s2 ⟨y, H2, I2, r2, q2⟩ =>
    thn (ho pins s2 σ H2 x y v u _ I2 r1 r2 q2) fun c s3 ⟨z, H3, I3, r3, k, e, q3⟩ => ?_) hm
  subst e
  cases r3
  exact wpAny_truthy_bool ⟨H3, I3, q3⟩

/-! ### truth -/
theorem line63 : (sizeLine : Nat) < 2 ^ 63 := by rw [sizeLine_eq]; decide

/-! ### strs and bytes -/
theorem op_add_str : OpR X (binaryOp .Add) (fun x y H Q => ∃ i j, x = .str i ∧ y = .str j ∧ i.length + j.length ≤ sizeLine ∧ Q (.str (i ++ j)) H) := by
  intro pins s σ H x y v u Q I rx ry h
  obtain ⟨i, j, rfl, rfl, hz, q⟩ := h
  obtain ⟨t, rfl⟩ := rx
  obtain ⟨t', rfl⟩ := ry
  exact wpAny_pos I.tk (add_str (fun t' tk ht => ⟨.str (i ++ j), H, I.tok _, ⟨_, rfl⟩, q⟩) hz)


/-! ### scalar builtins, by CallR -/
theorem vals1 {x : V} {us : List Value} (r : Vals [x] us) : ∃ u, us = [u] ∧ RelV x u := by
  cases r with
  | cons r1 r2 => cases r2; exact ⟨_, rfl, r1⟩
end
end L2

namespace L2
open PySem PySem.Spec PyProof.Rows

/-! ### an instance, its attributes a map -/
structure ObjM (h : Heap) (x dx C : Addr) (mA : Str → Option Value) : Prop where
  obj : h.get? x = some (PySem.W.instObj C dx)
  ns : h.Ns1 dx mA
  ne : dx ≠ x

theorem lookIn_ns {h : Heap} {dx : Addr} {mA : Str → Option Value} (n : h.Ns1 dx mA) : ∃ od, h.get? dx = some od ∧ ∀ name, PySem.W.lookIn name od = some (mA name) := by
  obtain ⟨o, es, ep, ho, hd, hk, _, hm⟩ := n
  refine ⟨o, ho, fun name => ?_⟩
  have e := hm name
  unfold nsFind findBy at e
  rw [← Array.find?_toList] at e
  unfold PySem.W.lookIn
  rw [hd]
  dsimp only
  split
  · rename_i y q
    rw [q] at e
    exact congrArg some e
  · rename_i q
    rw [q] at e
    have a : es.toList.any (·.refKey) = false := by
      rw [List.any_eq_false]
      intro y hy
      obtain ⟨z, t, hkey⟩ := hk y (Array.mem_toList_iff.mp hy)
      simp [DictEntry.refKey, hkey]
    have a' : ¬ es.toList.any (·.refKey) = true := by rw [a]; exact Bool.false_ne_true
    rw [if_neg a']
    exact congrArg some e

theorem ObjM.look {h : Heap} {x dx C : Addr} {mA : Str → Option Value} (I : ObjM h x dx C mA) : ∃ od, PySem.W.InstAt h x (PySem.W.instObj C dx) C (some od) ∧ ∀ name, PySem.W.lookIn name od = some (mA name) :=
  let ⟨od, ho, hl⟩ := lookIn_ns I.ns
  ⟨od, ⟨I.obj, rfl, rfl, ho⟩, hl⟩

section
variable {prog : Program} {w : World} {A : Around} {E : Value → Shared → Prop} {s : Shared} {K : PySem.W.Frag} {x dx C f : Addr} {mA : Str → Option Value} {name : Str} {v : Value}





end

/-! ### the attributes as a list of pairs -/

theorem RelO.some_of {v : V} {o : Option Value} (r : RelO (some v) o) : ∃ u, o = some u ∧ RelV v u := by
  cases o with
  | none => exact (show False from r).elim
  | some u => exact ⟨u, rfl, r⟩

section
variable {P : Program} {w : World} {H H' : Hp} {h h' : Heap} {a C dx : Addr} {fs fs' : List (Str × V)}
theorem ins_get (hok : HOk P w H h) (e : H a = some (.ins C dx fs)) : ∃ mA, ObjM h a dx C mA ∧ (∀ f, RelO (fs.lookup f) (mA f)) ∧ PySem.Within mA (fs.map (·.1)) ∧ fs.length ≤ 1000 ∧ H dx = some (.own a) := by
  obtain ⟨d, z, ne, ob, mA, n, r, q⟩ := (show ObjOk P w H h a (.ins C dx fs) from hok a _ e)
  exact ⟨mA, ⟨ob, n, ne⟩, r, q, z, d⟩
end

/-! ### what of the text a class must have -/
structure Cls (K : PySem.W.Frag) (C : Addr) : Prop where
  pg : PySem.W.plainGet K C Str.empty = true
  hd : PySem.W.hasDictIn K C = true
  po : PySem.W.plainOver K C = true
  sa : PySem.W.findIn K (.ref C) "__setattr__" = some (some (.builtin "object.__setattr__"))
theorem Cls.get {K : PySem.W.Frag} {C : Addr} (c : Cls K C) (f : Str) : PySem.W.plainGet K C f = true := c.pg

section
variable {X : Cx} {pins : List (Addr × Obj)} {σ : St} {H : Hp} {s : Shared} {a C dx : Addr} {fs : List (Str × V)} {f : Str} {v : V} {A : Around} {E : Value → Shared → Prop}






end

/-! ### readings and rules -/

section
variable {X : Cx} {o e value : Expr} {f : Str} {pos pos' tpos : Pos} {ta tv : TE}

end

/-! ### isinstance -/
section
variable {X : Cx} {pins : List (Addr × Obj)} {σ : St} {H : Hp} {s : Shared} {A : Around} {E : Value → Shared → Prop} {Q : Value → Shared → Prop} {c : Value} {b : Bool}
/-- the type of a value, as the fragment's deciders take it; for an instance its class -/
inductive TyOf (K : PySem.W.Frag) (H : Hp) : V → Value → Prop where
  | non : TyOf K H .non (.type "NoneType")
  | bl (x : Bool) : TyOf K H (.bl x) (.type "bool")
  | int (i : Int) : TyOf K H (.int i) (.type "int")
  | str (x : Str) : TyOf K H (.str x) (.type "str")
  | flt (x : UInt64) : TyOf K H (.flt x) (.type "float")
  | lst {a : Addr} {xs : List V} (e : H a = some (.lst xs)) : TyOf K H (.ref a) (.type "list")
  | frz {a : Addr} {o : Obj} {xs : List V} (e : H a = some (.frz o (.lst xs))) : TyOf K H (.ref a) (.type "list")
  | tup {a : Addr} {xs : List V} (e : H a = some (.tup xs)) : TyOf K H (.ref a) (.type "tuple")
  | dK {a : Addr} {kvs : List (Key × V)} (e : H a = some (.dK kvs)) : TyOf K H (.ref a) (.type "dict")
  | dT {a : Addr} {kvs : List (List Key × V)} (e : H a = some (.dT kvs)) : TyOf K H (.ref a) (.type "dict")
  | ins {a C dx : Addr} {fs : List (Str × V)} (e : H a = some (.ins C dx fs)) (cl : Cls K C) (ha : PySem.W.findIn K (.ref C) "__class__" = some (some (.builtin "object.__class__")))
      (hn : PySem.W.specialIn K (.builtin "object.__class__") "__get__" = some (some (.builtin "getset_descriptor.__get__"))) (htk : PySem.W.takesIn K (.builtin "object.__class__") = some true)
      (hm : PySem.W.mroIn K C (.type "object") = some true) : TyOf K H (.ref a) (.ref C)
/-- isinstance(x, c) for one class c, a built-in or an own one: kitOne's answer -/
theorem isinst_ok {x : V} {u t : Value} (I : Inv X pins σ H s) (rx : RelV x u) (ty : TyOf X.K H x t) (e : PySem.W.kitOne X.K t c = some b) (h : ∀ tk, Q (.bool b) { s with toks := tk }) :
    wpAny (model X.prog X.w) A (call (.builtin "isinstance") [u, c]) Q E s := by
  cases ty with
  | non => cases (show u = Value.none from rx); exact PySem.W.kia_one PySem.W.kitx_none I.kIn True.intro e (fun z => nomatch z) h
  | bl y => cases (show u = Value.bool y from rx); exact PySem.W.kia_one PySem.W.kitx_bool I.kIn True.intro e (fun z => nomatch z) h
  | int i => obtain ⟨t, q⟩ := (show ∃ t, u = Value.int i t from rx); cases q; exact PySem.W.kia_one PySem.W.kitx_int I.kIn True.intro e (fun z => nomatch z) h
  | str y => obtain ⟨t, q⟩ := (show ∃ t, u = Value.str y t from rx); cases q; exact PySem.W.kia_one PySem.W.kitx_str I.kIn True.intro e (fun z => nomatch z) h
  | flt y => obtain ⟨t, q⟩ := (show ∃ t, u = Value.float y t from rx); cases q; exact PySem.W.kia_one PySem.W.kitx_float I.kIn True.intro e (fun z => nomatch z) h
  | @lst a xs ea =>
    cases (show u = Value.ref a from rx)
    obtain ⟨_, _, n, _, h1⟩ := (show ObjOk X.prog X.w H s.heap a (.lst xs) from I.hok a _ ea)
    exact PySem.W.kia_one PySem.W.kitx_list I.kIn ⟨_, h1, rfl⟩ e (fun z => nomatch z) h
  | @frz a ob xs ea =>
    cases (show u = Value.ref a from rx)
    obtain ⟨_, _, _, n, _, h1⟩ := (show ObjOk X.prog X.w H s.heap a (.frz ob (.lst xs)) from I.hok a _ ea)
    exact PySem.W.kia_one PySem.W.kitx_list I.kIn ⟨_, h1, rfl⟩ e (fun z => nomatch z) h
  | @tup a xs ea =>
    cases (show u = Value.ref a from rx)
    obtain ⟨_, _, _, p⟩ := (show ObjOk X.prog X.w H s.heap a (.tup xs) from I.hok a _ ea)
    obtain ⟨o, h1, h2, _⟩ := p
    exact PySem.W.kia_one PySem.W.kitx_tuple I.kIn ⟨o, h1, h2⟩ e (fun z => nomatch z) h
  | @dK a kvs ea =>
    cases (show u = Value.ref a from rx)
    obtain ⟨_, _, vs, _, p⟩ := (show ObjOk X.prog X.w H s.heap a (.dK kvs) from I.hok a _ ea)
    obtain ⟨o, es, ep, h1, h2, _⟩ := p
    exact PySem.W.kia_one PySem.W.kitx_dict I.kIn ⟨o, h1, h2.1⟩ e (fun z => nomatch z) h
  | @dT a kvs ea =>
    cases (show u = Value.ref a from rx)
    obtain ⟨_, _, xs, _, o, es, ep, h1, h2, _⟩ := (show ObjOk X.prog X.w H s.heap a (.dT kvs) from I.hok a _ ea)
    exact PySem.W.kia_one PySem.W.kitx_dict I.kIn ⟨o, h1, h2.1⟩ e (fun z => nomatch z) h
  | @ins a C dx fs ea cl ha hn htk hm =>
    cases (show u = Value.ref a from rx)
    obtain ⟨mA, O, _⟩ := ins_get I.hok ea
    obtain ⟨od, J, _⟩ := O.look
    exact PySem.W.kia_one (PySem.W.kitx_own (cl.get _) cl.hd ha hn htk hm) I.kIn J e (fun z => nomatch z) h
end
end L2

namespace L2
open PySem PySem.Spec PyProof.Rows

/-! ### room -/
structure Room (k : Nat) (A : Around) : Prop where
  hd : A.handled = none
  dp : A.depth + 3 * k + 5 < recursionLimit
  un : A.units + 16 * k + 200 < cLine
theorem Room.mono {j k : Nat} {A : Around} (r : Room k A) (h : j ≤ k) : Room j A := ⟨r.hd, by have := r.dp; omega, by have := r.un; omega⟩
theorem Room.deeper {k : Nat} {A : Around} (r : Room (k + 1) A) (env : Env) : Room k (A.deeper env) :=
  ⟨r.hd, by have := r.dp; show A.depth + 1 + 3 * k + 5 < _; omega, by have := r.un; show A.units + 3 + 16 * k + 200 < _; omega⟩
theorem Room.depth {k : Nat} {A : Around} (r : Room k A) : A.depth < recursionLimit := by have := r.dp; omega

/-! ### argument lists and displays -/
def tNil : TA := fun _ H Q => Q [] H
def tCons (ta : TE) (tr : TA) : TA := fun σ H Q => ta σ H fun x H1 => tr σ H1 fun xs H2 => Q (x :: xs) H2
section
variable {X : Cx} {e : Expr} {es : List Expr} {te : TE} {t : TA} {pos : Pos}
theorem pa_nil : PA X [] tNil := fun _ _ _ _ H Q I h => Calls.spliced_nil ⟨[], H, I, .nil, h⟩
theorem pa_cons (ha : PE X e te) (hr : PA X es t) (hs : starEach (e :: es) X.env = (false, eval e X.env) :: starEach es X.env := by rfl) : PA X (e :: es) (tCons te t) := by
  intro pos pins s σ H Q I h
  rw [hs]
  show wpAny _ _ (spliced ((false, eval e X.env) :: backTo pos (starEach es X.env))) _ _ s
  refine Calls.spliced_cons (thn (ha pins s σ H _ I h) fun u s1 ⟨x, H1, I1, r1, q1⟩ => ?_)
  exact thn (hr pos pins s1 σ H1 _ I1 q1) fun us s2 ⟨xs, H2, I2, r2, q2⟩ => ⟨x :: xs, H2, I2, .cons r1 r2, q2⟩

/-- a tuple, a list of written items -/
def tTup (t : TA) : TE := fun σ H Q => t σ H fun xs H1 => xs.length ≤ sizeLine ∧ ∀ p, H1 p = none → Q (.ref p) (upd H1 p (.tup xs))
def tLst (t : TA) : TE := fun σ H Q => t σ H fun xs H1 => xs.length ≤ sizeLine ∧ ∀ p, H1 p = none → Q (.ref p) (upd H1 p (.lst xs))
theorem pe_tup {x1} (h : PA X es t) : PE X (.Tuple es x1 pos) (tTup t) := by
  intro pins s σ H Q I hq
  refine wpAny_Tuple_spliced (thn (h pos pins s σ H _ I hq) fun us s1 ⟨xs, H1, I1, r, z, q⟩ => ⟨by rw [← r.length]; exact z, ?_⟩)
  have hf : H1 s1.heap.objs.size = none := I1.hok.fresh (Nat.le_refl _)
  refine ⟨.ref s1.heap.objs.size, upd H1 s1.heap.objs.size (.tup xs), I1.laid (t' := s1.toks) (fun b u e => Heap.get?_push_of_some _ e) (Nat.le_refl _) ?_, rfl, q _ hf⟩
  exact ⟨z, us, r, ⟨_, Heap.get?_push_size _ rfl, rfl, _, rfl⟩⟩
theorem pe_lst (h : PA X es t) : PE X (.List es pos) (tLst t) := by
  intro pins s σ H Q I hq
  refine wpAny_List_spliced (thn (h pos pins s σ H _ I hq) fun us s1 ⟨xs, H1, I1, r, z, q⟩ => ⟨by rw [← r.length]; exact z, ?_⟩)
  have hf : H1 s1.heap.objs.size = none := I1.hok.fresh (Nat.le_refl _)
  refine ⟨.ref s1.heap.objs.size, upd H1 s1.heap.objs.size (.lst xs), I1.laid (t' := s1.toks) (fun b u e => Heap.get?_push_of_some _ e) (Nat.le_refl _) ?_, rfl, q _ hf⟩
  exact ⟨z, us, 0, r, Heap.get?_push_size _ rfl⟩
end

/-! ### what a def promises -/
/-- a def's promise: the bound arguments in the parameters' order, the heap, the wanted end, the wanted exception -/
abbrev Sp := List V → Hp → VK → XK → Prop
/-- how an exception lies behind a call (file 08 gives it): the callers' frames, abstract heap and state ahead of the call, the wish, the exception, the state -/
abbrev CXT := List Env → Hp → Shared → XK → Value → Shared → Prop

/-- the state at a call -/
structure Env0 (P : Program) (w : World) (K : PySem.W.Frag) (mg : Str → Option Value) (base : Heap) (A : Around) (outer : List Env) (s : Shared) (H : Hp) : Prop where
  frames : A.frames = some outer
  mod : Mod K mg base
  bs : ∀ b o, base.get? b = some o → s.heap.get? b = some o ∧ H b = none
  bsz : base.objs.size ≤ s.heap.objs.size
  funs : s.heap.FunFrames base outer
  frf : ∀ b ∈ frs outer, H b = none
  hok : HOk P w H s.heap
  bare : AllBare s.gens
  tk : 0 < s.toks
/-- a call's end -/
def CE (outer : List Env) (P : Program) (w : World) (H : Hp) (s : Shared) (Q : VK) (u : Value) (s' : Shared) : Prop :=
  ∃ v H', s'.os = s.os ∧ AllBare s'.gens ∧ Un (frs outer) [] H H' s.heap s'.heap ∧ HOk P w H' s'.heap ∧ RelV v u ∧ Q v H' ∧ 0 < s'.toks
def CR (CX : CXT) (outer : List Env) (P : Program) (w : World) (H : Hp) (s : Shared) (Q : VK) (E : XK) (r : Result) (s' : Shared) : Prop :=
  match r with
  | .ok (.ret u) => CE outer P w H s Q u s'
  | .ok _ => False
  | .error e => CX outer H s E e s'
structure FnOk (P : Program) (w : World) (K : PySem.W.Frag) (mg : Str → Option Value) (base : Heap) (CX : CXT) (k : Nat) (f : Addr) (fd : FuncData) (ps : List Str) (sp : Sp) : Prop where
  len : ∀ vs H Q E, sp vs H Q E → vs.length = ps.length
  run : ∀ (A : Around) (outer : List Env) (s : Shared) (H : Hp) (args : Args) (us : List Value) (vs : List V) (Q : VK) (E : XK), Room k A → Env0 P w K mg base A outer s H → BindsTo s fd args (ps.zip us) → Vals vs us → sp vs H Q E →
    codeAny (model P w) A (.call (.ref f) args) (CR CX outer P w H s Q E) s
theorem FnOk.mono {P : Program} {w : World} {K : PySem.W.Frag} {mg : Str → Option Value} {base : Heap} {CX : CXT} {j k : Nat} {f : Addr} {fd : FuncData} {ps : List Str} {sp : Sp} (F : FnOk P w K mg base CX j f fd ps sp) (h : j ≤ k) :
    FnOk P w K mg base CX k f fd ps sp := ⟨F.len, fun A outer s H args us vs Q E hr => F.run A outer s H args us vs Q E (hr.mono h)⟩
/-- a weaker promise -/
theorem FnOk.imp {P : Program} {w : World} {K : PySem.W.Frag} {mg : Str → Option Value} {base : Heap} {CX : CXT} {k : Nat} {f : Addr} {fd : FuncData} {ps : List Str} {sp sp' : Sp} (F : FnOk P w K mg base CX k f fd ps sp)
    (h : ∀ vs H Q E, sp' vs H Q E → sp vs H Q E) : FnOk P w K mg base CX k f fd ps sp' :=
  ⟨fun vs H Q E q => F.len vs H Q E (h _ _ _ _ q), fun A outer s H args us vs Q E hr he hb hv hs => F.run A outer s H args us vs Q E hr he hb hv (h _ _ _ _ hs)⟩


section
variable {X : Cx} {pins : List (Addr × Obj)} {σ : St} {H : Hp} {s s' : Shared}
/-- from a body: what a callee wants -/
theorem Inv.env0 (I : Inv X pins σ H s) : Env0 X.prog X.w X.K X.mg X.base X.A X.stack s H :=
  ⟨I.ok.frames, I.ok.mod, I.bs, Nat.le_trans I.ok.bsz I.sz, I.stack, I.stkFree, I.hok, I.bare, I.tk⟩
/-- behind a call -/
theorem Inv.after {Q : VK} {u : Value} (I : Inv X pins σ H s) (h : CE X.stack X.prog X.w H s Q u s') : EP X pins σ Q u s' := by
  obtain ⟨v, H', os, bare, un, hok, r, q, ht⟩ := h
  obtain ⟨hh, g, d, t, os'⟩ := s'
  obtain rfl : os' = s.os := os
  exact ⟨v, H', I.call (h' := hh) (g' := g) (d' := d) (t' := t) (ch := []) un hok bare (fun b z => absurd z (by simp)), r, q⟩
end

/-! ### calls -/
/-- f(..): the written arguments, then the defaults dvs; E: what is wanted of an exception -/
def tCall (sp : Sp) (dvs : List V) (E : XK) (t : TA) : TE := fun σ H Q => t σ H fun vs H1 => sp (vs ++ dvs) H1 Q E

/-- how the parameters are bound: us the positional arguments, kw the keywords' values by name, ds the defaults that fill up -/
def Binds (K : PySem.W.Frag) (fd : FuncData) (ps : List Str) (ds : List Value) : Prop :=
  ∀ (s : Shared) (us : List Value), K.In s.heap → (us ++ ds).length = ps.length → BindsTo s fd ⟨us, []⟩ (ps.zip (us ++ ds))
/-- every parameter is given -/
theorem Binds.all {K : PySem.W.Frag} {fd : FuncData} {ps : List Str} (h : ∀ us : List Value, us.length = ps.length → bindArgs fd ⟨us, []⟩ = pure (ps.zip us)) : Binds K fd ps [] := fun s us _ hl => by
  rw [List.append_nil] at hl ⊢
  exact .of_eq (h us hl)

/-- an exception of a callee reaches what this body wants of exceptions -/
def Passes (CX : CXT) (X : Cx) (E : XK) : Prop := ∀ (pins : List (Addr × Obj)) (σ : St) (H : Hp) (s : Shared) (e : Value) (s' : Shared), Inv X pins σ H s → CX X.stack H s E e s' → X.xe e s'

section
variable {X : Cx} {CX : CXT} {k : Nat} {f C : Addr} {fd : FuncData} {ps : List Str} {sp : Sp} {dvs : List V} {ds : List Value} {E : XK} {x m : Str} {p pos apos : Pos} {e o : Expr} {es : List Expr} {ta : TE} {t : TA}

/-- the callee runs -/
theorem run_fn {pins : List (Addr × Obj)} {σ : St} {H : Hp} {s : Shared} {Q : VK} {us : List Value} {vs : List V} (F : FnOk X.prog X.w X.K X.mg X.base CX k f fd ps sp) (hr : Room k X.A) (hb : Binds X.K fd ps ds) (hd : Vals dvs ds) (hx : Passes CX X E)
    (I : Inv X pins σ H s) (r : Vals vs us) (h : sp (vs ++ dvs) H Q E) : wpAny (model X.prog X.w) X.A (call (.ref f) us) (EP X pins σ Q) X.xe s := by
  have r2 : Vals (vs ++ dvs) (us ++ ds) := r.append hd
  have hl : (us ++ ds).length = ps.length := by rw [← r2.length]; exact F.len _ _ _ _ h
  refine wpAny_call (codeAny_mono (F.run X.A X.stack s H ⟨us, []⟩ (us ++ ds) (vs ++ dvs) Q E hr I.env0 (hb s us I.kIn hl) r2 h) fun r s' hq => ?_)
  cases r with
  | error e => exact hx pins σ H s e s' I hq
  | ok fl =>
    cases fl with
    | ret u => exact I.after hq
    | next => exact False.elim hq
    | brk => exact False.elim hq
    | cont => exact False.elim hq

theorem pe_call (F : FnOk X.prog X.w X.K X.mg X.base CX k f fd ps sp) (hr : Room k X.A) (hg : Gl X x) (hm : X.mg x = some (.ref f)) (hk : PySem.W.keepIn X.K (.ref f) = true) (hb : Binds X.K fd ps ds) (hd : Vals dvs ds) (hx : Passes CX X E)
    (ha : PA X (e :: es) t) (hdb : (x == ("__debug__" : Str)) = false := by decide) (he : starEach (e :: es) X.env = (false, eval e X.env) :: starEach es X.env := by rfl) (hpl : (backTo pos (starEach es X.env)).any (·.1) = false := by rfl) :
    PE X (.Call (.Name x p) (e :: es) [] pos) (tCall sp dvs E t) := by
  intro pins s σ H Q I h
  refine wpAny_Call_Name_kw (ld_glob I hg hm ?_ hdb)
  refine PySem.W.callWith_K (h₀ := X.base) I.ok.mod.kin hk (thn (ha pos pins s σ H _ I h) fun us s1 ⟨vs, H1, I1, r, q⟩ => ⟨I1.kIn, ?_⟩) he hpl
  exact run_fn F hr hb hd hx I1 r q



end

/-! ### keywords -/
section
variable {X : Cx} {CX : CXT} {k : Nat} {f C : Addr} {fd : FuncData} {ps ks : List Str} {sp : Sp} {E : XK} {x m : Str} {p pos apos kpos : Pos} {e o : Expr} {es : List Expr} {kws : List Keyword} {te ta : TE} {t tk : TA} {nm : Option Str}

variable {g : List Value → List Value → List Value} {gV : List V → List V → List V}
end

/-! ### a def's body keeps its promise -/
/-- names: the parameters first -/
structure FnScope (N P : List Str) (sc : Scope) : Prop where
  kind : sc.kind = .function
  co : sc.isCoroutine = false
  gen : sc.isGenerator = false
  nd : N.Nodup
  pre : N.take P.length = P
  par : ∀ x ∈ P, sc.names.lookup x = some .local ∨ sc.names.lookup x = some .cell
  nofree : ∀ y ∈ sc.names, y.2 ≠ .free

theorem bindL_out {kindOf : Str → Option NameKind} {x : Str} : ∀ {binds : List (Str × Value)} {m : Str → Option Value}, (∀ v, (x, v) ∉ binds) → bindL kindOf binds m x = m x
  | [], _, _ => rfl
  | (n, v) :: r, m, h => by
    unfold bindL
    rw [bindL_out fun w hw => h w (List.mem_cons_of_mem _ hw)]
    split
    · have : x ≠ n := by rintro rfl; exact h v List.mem_cons_self
      simp [this]
    · rfl
theorem bindC_out {kindOf : Str → Option NameKind} {x : Str} : ∀ {binds : List (Str × Value)} {m : Str → Option Value}, (∀ v, (x, v) ∉ binds) → bindC kindOf binds m x = m x
  | [], _, _ => rfl
  | (n, v) :: r, m, h => by
    unfold bindC
    rw [bindC_out fun w hw => h w (List.mem_cons_of_mem _ hw)]
    split
    · rfl
    · have : x ≠ n := by rintro rfl; exact h v List.mem_cons_self
      simp [this]
theorem bindL_get {kindOf : Str → Option NameKind} {x : Str} {v : Value} : ∀ {P : List Str} {vs : List Value} {i : Nat} {m : Str → Option Value}, P.Nodup → P[i]? = some x → vs[i]? = some v → kindOf x = some .local →
    bindL kindOf (P.zip vs) m x = some v
  | [], _, _, _, _, h, _, _ => by simp at h
  | _ :: _, [], _, _, _, _, h, _ => by simp at h
  | p :: P, w :: vs, 0, m, nd, h1, h2, hk => by
    simp at h1 h2; subst h1; subst h2
    show bindL kindOf ((p, w) :: P.zip vs) m p = _
    unfold bindL
    rw [bindL_out fun v hv => (List.nodup_cons.mp nd).1 (List.of_mem_zip hv).1, if_pos hk]
    simp
  | p :: P, w :: vs, i + 1, m, nd, h1, h2, hk => by
    show bindL kindOf ((p, w) :: P.zip vs) m x = _
    unfold bindL
    exact bindL_get (i := i) (List.nodup_cons.mp nd).2 (by simpa using h1) (by simpa using h2) hk
theorem bindC_get {kindOf : Str → Option NameKind} {x : Str} {v : Value} : ∀ {P : List Str} {vs : List Value} {i : Nat} {m : Str → Option Value}, P.Nodup → P[i]? = some x → vs[i]? = some v → kindOf x ≠ some .local →
    bindC kindOf (P.zip vs) m x = some v
  | [], _, _, _, _, h, _, _ => by simp at h
  | _ :: _, [], _, _, _, _, h, _ => by simp at h
  | p :: P, w :: vs, 0, m, nd, h1, h2, hk => by
    simp at h1 h2; subst h1; subst h2
    show bindC kindOf ((p, w) :: P.zip vs) m p = _
    unfold bindC
    rw [bindC_out fun v hv => (List.nodup_cons.mp nd).1 (List.of_mem_zip hv).1, if_neg hk]
    simp
  | p :: P, w :: vs, i + 1, m, nd, h1, h2, hk => by
    show bindC kindOf ((p, w) :: P.zip vs) m x = _
    unfold bindC
    exact bindC_get (i := i) (List.nodup_cons.mp nd).2 (by simpa using h1) (by simpa using h2) hk

/-- the names' values at the entry -/
def start (N : List Str) (vs : List V) : St := vs.map some ++ List.replicate (N.length - vs.length) none

/-- the context of a def's body, at its entry; an exception leaves the frame, then lies as CX says -/
def cxOf (CX : CXT) (P : Program) (w : World) (K : PySem.W.Frag) (mg : Str → Option Value) (base : Heap) (N : List Str) (qual : Str) (scope : Scope) (f : Addr) (cd : Value) (A : Around) (outer : List Env) (s : Shared) (H : Hp) (E : XK) : Cx where
  prog := P
  w := w
  K := K
  mg := mg
  base := base
  A := A.deeper (envOfC qual scope s.heap.objs.size f cd)
  N := N
  s₀ := s
  H₀ := H
  env := envOfC qual scope s.heap.objs.size f cd
  outer := outer
  stack := envOfC qual scope s.heap.objs.size f cd :: outer
  ex := []
  calm := true
  fn := fun _ => true
  pn := []
  xe := fun e s' => wpAny (model P w) (A.deeper (envOfC qual scope s.heap.objs.size f cd)) (leaving (envOfC qual scope s.heap.objs.size f cd) e) (fun _ s'' => CX outer H s E e s'') (fun e' s'' => CX outer H s E e' s'') s'

theorem cell_has {sc : Scope} {n : Nat} {x : Str} (h : sc.names.lookup x = some .cell) : ∃ c, (cellsFrom n sc.names []).lookup x = some c := by
  have q := PySem.W.cellsFrom_some sc.names n [] (.inl h)
  exact Option.isSome_iff_exists.mp q

theorem inv_start {CX : CXT} {P : Program} {w : World} {K : PySem.W.Frag} {mg : Str → Option Value} {base : Heap} {N ps : List Str} {qual : Str} {scope : Scope} {f : Addr} {cd : Value} {A : Around} {outer : List Env} {s s1 : Shared} {H : Hp} {E : XK} {us : List Value} {vs : List V}
    (S : FnScope N ps scope) (hd : A.handled = none) (e0 : Env0 P w K mg base A outer s H) (hl : vs.length = ps.length) (r : Vals vs us)
    (x : InCallC s s.heap.objs.size (bindL (envOfC qual scope s.heap.objs.size f cd).kindOf (ps.zip us) fun _ => none) (cellsFrom (s.heap.objs.size + 1) scope.names []) (bindC (envOfC qual scope s.heap.objs.size f cd).kindOf (ps.zip us) fun _ => none) s1) (ht : 0 < s1.toks) :
    Inv (cxOf CX P w K mg base N qual scope f cd A outer s H E) [] (start N vs) H s1 := by
  have hpl : ps.length ≤ N.length := by have := congrArg List.length S.pre; rw [List.length_take] at this; omega
  obtain ⟨h1, tk, rfl, hk⟩ := x.done
  have noA : ∀ b : Addr, b ∉ (cxOf CX P w K mg base N qual scope f cd A outer s H E).ex := fun b z => absurd (show b ∈ ([] : List Addr) from z) (by simp)
  refine ⟨⟨e0.mod, S.kind, rfl, rfl, Nat.le_refl _, fun y z c h1 h2 => ?_, fun y hy => ?_, fun y c _ h => ?_, fun _ => hd, Around.frames_deeper e0.frames, .inr ⟨rfl, rfl⟩, fun b z => absurd z (noA b), e0.bs, e0.bsz, fun b _ _ => noA b, fun b z => absurd z (noA b), e0.funs, e0.frf⟩,
    rfl, e0.bare, Un.kept hk, ⟨_, x.toInCall.ns, fun i y v h1 h2 h3 => ?_⟩, fun y c h => ⟨_, x.cell y c h⟩, e0.hok.fresh (Nat.le_refl _), fun y c h => ?_, fun p hp => absurd (show p ∈ ([] : List (Addr × Obj)) from hp) (by simp), e0.hok.kept hk, ?_, ht⟩
  · exact name_of_addr x.apart (PySem.mem_of_lookup h1) (PySem.mem_of_lookup h2)
  · have hy : scope.names.lookup y = some .cell ∨ scope.names.lookup y = some .free := hy
    rcases hy with hy | hy
    · exact cell_has hy
    · exact absurd rfl (S.nofree _ (PySem.mem_of_lookup hy))
  · exact Nat.le_of_lt (x.above y c (PySem.mem_of_lookup h))
  · have hi : i < vs.length := by
      unfold start at h2
      by_cases hi : i < vs.length
      · exact hi
      · rw [List.getElem?_append_right (by simpa using hi)] at h2
        rw [List.getElem?_replicate] at h2
        split at h2 <;> cases h2
    have ha : vs[i]? = some v := by
      unfold start at h2
      rw [List.getElem?_append_left (by simpa using hi), List.getElem?_map] at h2
      cases e : vs[i]? with
      | none => rw [e] at h2; cases h2
      | some a => rw [e] at h2; cases h2; rfl
    obtain ⟨u, hu, rv⟩ := r.get ha
    have hp : ps[i]? = some y := by
      rw [← S.pre, List.getElem?_take_of_lt (by omega)]; exact h1
    have ndP : ps.Nodup := by rw [← S.pre]; exact S.nd.sublist (List.take_sublist _ _)
    refine ⟨u, rv, ?_⟩
    rcases S.par y (List.mem_of_getElem? hp) with k | k
    · exact .inl ⟨k, bindL_get ndP hp hu k⟩
    · obtain ⟨c, e⟩ := cell_has (n := s.heap.objs.size + 1) k
      refine .inr ⟨.inl k, c, e, ?_⟩
      have q := x.cell y c e
      rw [bindC_get ndP hp hu (by show scope.names.lookup y ≠ _; rw [k]; decide)] at q
      exact q
  · exact e0.hok.fresh (Nat.le_of_lt (x.above y c (PySem.mem_of_lookup h)))
  · unfold start
    show _ = N.length
    rw [List.length_append, List.length_map, List.length_replicate]
    omega

/-- THE RULE: a def (or a method) of the text, by its body. The body's reading t is chosen for each entry; it is run at the parameters' values -/
theorem fn_of {CX : CXT} {P : Program} {w : World} {K : PySem.W.Frag} {mg : Str → Option Value} {base : Heap} {k : Nat} {f : Addr} {name qual : Str} {params : Arguments} {body : List Stmt} {scope : Scope} {dV kV doc pm cdv ct oc : Value} {an od : Option Addr}
    {osl : Array (Option Value)} {N ps : List Str} {sp : Sp} (lk : K.lookup f = some ⟨oc, od, .func (PySem.W.fnOf name qual params body scope dV kV doc pm an cdv ct), osl⟩) (hcd : PySem.W.codeIn K cdv qual = true) (S : FnScope N ps scope)
    (len : ∀ vs H Q E, sp vs H Q E → vs.length = ps.length)
    (hbody : ∀ (A : Around) (outer : List Env) (s : Shared) (H : Hp) (vs : List V) (Q : VK) (E : XK), Room k (A.deeper (envOfC qual scope s.heap.objs.size f cdv)) → sp vs H Q E →
      ∃ t, PSs (cxOf CX P w K mg base N qual scope f cdv A outer s H E) body t ∧ t { nx := fun _ H' => Q .non H', rt := Q } (start N vs) H) :
    FnOk P w K mg base CX (k + 1) f (PySem.W.fnOf name qual params body scope dV kV doc pm an cdv ct) ps sp := by
  refine ⟨len, fun A outer s H args us vs Q E hr e0 hb r hsp => ?_⟩
  have hl := len _ _ _ _ hsp
  have KX : K.In s.heap := e0.mod.kin.keeps fun b o e => (e0.bs b o e).1
  have lim : s.heap.NoLimit := e0.mod.nolimit.keeps fun b o e => (e0.bs b o e).1
  have hkind : ∀ y ∈ ps.zip us, scope.names.lookup y.1 = some .local ∨ (scope.names.lookup y.1 = some .cell ∧ ((cellsFrom (s.heap.objs.size + 1) scope.names []).lookup y.1).isSome = true) := fun ⟨n, v⟩ hy => by
    rcases S.par n (List.of_mem_zip hy).1 with q | q
    · exact .inl q
    · exact .inr ⟨q, PySem.W.cellsFrom_some _ _ _ (.inl q)⟩
  refine codeAny_call_function hr.depth (KX _ _ lk) rfl S.co S.gen rfl (PySem.W.codeRec_of KX hcd) (hb _ _ _ _ ?_)
  refine wpAny_pos e0.tk (wpAny_newFunctionEnv_cells S.kind hkind fun env he s1 x htk => ?_)
  subst he
  refine ⟨lim.keeps x.toInCall.keep, codeAny_func ?_⟩
  obtain ⟨t, ht, hq⟩ := hbody A outer s H vs Q E (hr.deeper _) hsp
  have I : Inv (cxOf CX P w K mg base N qual scope f cdv A outer s H E) [] (start N vs) H s1 := inv_start S hr.hd e0 hl r x htk
  refine wpAny_mono (ht [] s1 (start N vs) H _ I hq) (fun fl s' hs => ?_) fun e s' hs => hs
  have fin : ∀ {σ' : St} {H' : Hp} {v : V} {u : Value}, Inv (cxOf CX P w K mg base N qual scope f cdv A outer s H E) [] σ' H' s' → RelV v u → Q v H' → CE outer P w H s Q u s' :=
    fun {σ' H' v u} J rv q => ⟨v, H', J.os, J.bare, J.base, J.hok, rv, q, J.tk⟩
  cases fl with
  | ret u =>
    obtain ⟨v, σ', H', J, rv, q⟩ := hs
    exact fin J rv q
  | next =>
    obtain ⟨σ', H', J, q⟩ := hs
    exact fin (v := V.non) (u := Value.none) J rfl q
  | brk =>
    obtain ⟨_, _, _, q⟩ := hs
    exact False.elim q
  | cont =>
    obtain ⟨_, _, _, q⟩ := hs
    exact False.elim q
end L2

namespace L2
open PySem PySem.Spec PyProof.Rows
section
variable {X : Cx} {x : Str} {p pos : Pos} {e : Expr} {es : List Expr} {t : TA} {id T : String} {r : List V → Hp → VK → Prop}

def tCB (r : List V → Hp → VK → Prop) (t : TA) : TE := fun σ H Q => t σ H fun vs H1 => r vs H1 Q
/-- f(e, ..), f a built-in function -/
theorem pe_callB (hc : CallR X (.builtin id) r) (hg : Gl X x) (hm : X.mg x = none) (hv : bootBuiltins x = some (.builtin id)) (ha : PA X (e :: es) t) (hn : x ≠ "__name__" := by decide) (hdb : (x == ("__debug__" : Str)) = false := by decide)
    (he : starEach (e :: es) X.env = (false, eval e X.env) :: starEach es X.env := by rfl) (hpl : (backTo pos (starEach es X.env)).any (·.1) = false := by rfl) : PE X (.Call (.Name x p) (e :: es) [] pos) (tCB r t) := by
  intro pins s σ H Q I h
  refine wpAny_Call_Name_kw (ld_blt I hg hm hv ?_ hn hdb)
  exact PyProof.Rows.callWith_builtin1 (thn (ha pos pins s σ H _ I h) fun us s1 ⟨vs, H1, I1, r1, q1⟩ => hc pins s1 σ H1 vs us Q I1 r1 q1) he hpl
/-- T(e, ..), T a built-in type -/
theorem pe_callTy (hc : CallR X (.type T) r) (hg : Gl X x) (hm : X.mg x = none) (hv : bootBuiltins x = some (.type T)) (ha : PA X (e :: es) t) (hn : x ≠ "__name__" := by decide) (hdb : (x == ("__debug__" : Str)) = false := by decide)
    (he : starEach (e :: es) X.env = (false, eval e X.env) :: starEach es X.env := by rfl) (hpl : (backTo pos (starEach es X.env)).any (·.1) = false := by rfl) : PE X (.Call (.Name x p) (e :: es) [] pos) (tCB r t) := by
  intro pins s σ H Q I h
  refine wpAny_Call_Name_kw (ld_blt I hg hm hv ?_ hn hdb)
  exact PyProof.Rows.callWith_type1 (thn (ha pos pins s σ H _ I h) fun us s1 ⟨vs, H1, I1, r1, q1⟩ => hc pins s1 σ H1 vs us Q I1 r1 q1) he hpl
end
end L2

namespace L2
open PySem PySem.Spec PyProof.Rows

/-! ### lists of pairs as tables -/
section
variable {κ : Type} [DecidableEq κ]
def valV (kvs : List (κ × V)) (k : κ) : Option V := (kvs.find? fun kv => decide (kv.1 = k)).map (·.2)
/-- in its place, or at the end -/
def putK (kvs : List (κ × V)) (k : κ) (v : V) : List (κ × V) :=
  if (kvs.any fun kv => decide (kv.1 = k)) = true then kvs.map (fun kv => if kv.1 = k then (kv.1, v) else kv) else kvs ++ [(k, v)]

theorem valV_pos {p : κ × V} {r : List (κ × V)} {k : κ} (e : p.1 = k) : valV (p :: r) k = some p.2 := by simp [valV, List.find?_cons, e]
theorem valV_neg {p : κ × V} {r : List (κ × V)} {k : κ} (e : ¬ p.1 = k) : valV (p :: r) k = valV r k := by simp [valV, List.find?_cons, e]
theorem valV_any (k : κ) : ∀ kvs : List (κ × V), (kvs.any fun kv => decide (kv.1 = k)) = (valV kvs k).isSome
  | [] => rfl
  | p :: r => by
    rw [List.any_cons]
    by_cases e : p.1 = k
    · simp only [valV_pos e, decide_eq_true e, Bool.true_or, Option.isSome_some]
    · rw [valV_neg e, decide_eq_false e, Bool.false_or]; exact valV_any k r
theorem length_putK (kvs : List (κ × V)) (k : κ) (v : V) : (putK kvs k v).length ≤ kvs.length + 1 := by
  unfold putK
  split
  · rw [List.length_map]; omega
  · rw [List.length_append, List.length_cons, List.length_nil]; omega

theorem RelO.isSome_eq {o : Option V} {u : Option Value} (r : RelO o u) : o.isSome = u.isSome := by
  cases o with
  | none => cases u with
    | none => rfl
    | some _ => exact (show False from r).elim
  | some _ => cases u with
    | none => exact (show False from r).elim
    | some _ => rfl
theorem RelO.getD {o : Option V} {u : Option Value} {d : V} {d' : Value} (r : RelO o u) (rd : RelV d d') : RelV (o.getD d) (u.getD d') := by
  cases o with
  | none => cases u with
    | none => exact rd
    | some _ => exact (show False from r).elim
  | some _ => cases u with
    | none => exact (show False from r).elim
    | some _ => exact r

/-- raw tables of the same keys -/
theorem KV.val {kvs : List (κ × V)} {vs : List (κ × Value)} (r : KV kvs vs) (k : κ) : RelO (valV kvs k) (valueAt vs k) := by
  unfold KV at r
  induction r with
  | nil => exact True.intro
  | @cons p q ps qs h t ih =>
    obtain ⟨h1, h2⟩ := h
    by_cases e : p.1 = k
    · have e' : q.1 = k := h1.symm.trans e
      have b : valueAt (q :: qs) k = some q.2 := by simp [valueAt, List.find?_cons, e']
      rw [valV_pos e, b]; exact h2
    · have e' : ¬ q.1 = k := fun z => e (h1.trans z)
      have b : valueAt (q :: qs) k = valueAt qs k := by simp [valueAt, List.find?_cons, e']
      rw [valV_neg e, b]; exact ih
theorem KV.any {kvs : List (κ × V)} {vs : List (κ × Value)} (r : KV kvs vs) (k : κ) : (kvs.any fun kv => decide (kv.1 = k)) = vs.any fun kv => decide (kv.1 = k) := by
  unfold KV at r
  induction r with
  | nil => rfl
  | cons h t ih => rw [List.any_cons, List.any_cons, ih, h.1]
theorem KV.repl {kvs : List (κ × V)} {vs : List (κ × Value)} (r : KV kvs vs) (k : κ) {y : V} {u : Value} (ry : RelV y u) :
    KV (kvs.map fun kv => if kv.1 = k then (kv.1, y) else kv) (vs.map fun kv => if kv.1 = k then (kv.1, u) else kv) := by
  unfold KV at r ⊢
  induction r with
  | nil => exact .nil
  | @cons p q ps qs h t ih =>
    rw [List.map_cons, List.map_cons]
    refine .cons ?_ ih
    obtain ⟨h1, h2⟩ := h
    by_cases e : p.1 = k
    · rw [if_pos e, if_pos (h1.symm.trans e)]; exact ⟨h1, ry⟩
    · rw [if_neg e, if_neg (fun z => e (h1.trans z))]; exact ⟨h1, h2⟩
theorem KV.put {kvs : List (κ × V)} {vs : List (κ × Value)} (r : KV kvs vs) (k : κ) {y : V} {u : Value} (ry : RelV y u) : KV (putK kvs k y) (stored vs k u) := by
  unfold putK stored
  rw [r.any k]
  by_cases e : (vs.any fun kv => decide (kv.1 = k)) = true
  · rw [if_pos e, if_pos e]; exact r.repl k ry
  · rw [if_neg e, if_neg e]; exact Paired.snoc r ⟨rfl, ry⟩
theorem KV.length {kvs : List (κ × V)} {vs : List (κ × Value)} (r : KV kvs vs) : kvs.length = vs.length := Paired.length r
end


/-! ### a tracked dict, its keys ints and texts or tuples of these -/
theorem kV_is {P : Program} {w : World} {k : Key} {u : Value} (r : RelV (kV k) u) : (mixKind P w).is k u = true := by
  cases k with
  | inl i => obtain ⟨t, e⟩ := (show ∃ t, u = Value.int i t from r); subst e; exact mixKind_int P w i t
  | inr x => obtain ⟨t, e⟩ := (show ∃ t, u = Value.str x t from r); subst e; exact mixKind_str P w x t
theorem items_are {P : Program} {w : World} : ∀ {ks : List Key} {us : List Value}, Vals (ks.map kV) us → ItemsAre (mixKind P w) ks us
  | [], _, r => by rw [List.map_nil] at r; cases r; exact .nil
  | k :: ks, _, r => by
    rw [List.map_cons] at r
    cases r with
    | cons h t => exact .cons (kV_is h) (items_are t)

/-- raw entries of a dict with tuple keys -/
abbrev KT (H : Hp) : List (List Key × V) → List (List Key × Addr × Value) → Prop := Paired fun p q => p.1 = q.1 ∧ H q.2.1 = some (.tup (p.1.map kV)) ∧ RelV p.2 q.2.2
theorem KT.val {H : Hp} {kvs : List (List Key × V)} {xs : List (List Key × Addr × Value)} (r : KT H kvs xs) (k : List Key) : RelO (valV kvs k) ((atKey xs k).map (·.2)) := by
  induction r with
  | nil => exact True.intro
  | @cons p q ps qs h t ih =>
    obtain ⟨h1, _, h2⟩ := h
    by_cases e : p.1 = k
    · have e' : q.1 = k := h1.symm.trans e
      have b : atKey (q :: qs) k = some q.2 := by simp [atKey, List.find?_cons, e']
      rw [valV_pos e, b]; exact h2
    · have e' : ¬ q.1 = k := fun z => e (h1.trans z)
      have b : atKey (q :: qs) k = atKey qs k := by simp [atKey, List.find?_cons, e']
      rw [valV_neg e, b]; exact ih
theorem KT.repl {H : Hp} {kvs : List (List Key × V)} {xs : List (List Key × Addr × Value)} (r : KT H kvs xs) (k : List Key) {y : V} {u : Value} (ry : RelV y u) :
    KT H (kvs.map fun kv => if kv.1 = k then (kv.1, y) else kv) (xs.map (putAt k u)) := by
  induction r with
  | nil => exact .nil
  | @cons p q ps qs h t ih =>
    rw [List.map_cons, List.map_cons]
    refine .cons ?_ ih
    obtain ⟨h1, h2, h3⟩ := h
    unfold putAt
    by_cases e : p.1 = k
    · rw [if_pos e, if_pos (h1.symm.trans e)]; exact ⟨h1, h2, ry⟩
    · rw [if_neg e, if_neg (fun z => e (h1.trans z))]; exact ⟨h1, h2, h3⟩
theorem KT.put {H : Hp} {kvs : List (List Key × V)} {xs : List (List Key × Addr × Value)} (r : KT H kvs xs) (k : List Key) {b : Addr} {y : V} {u : Value} (hb : H b = some (.tup (k.map kV))) (ry : RelV y u) :
    KT H (putK kvs k y) (storedH xs k b u) := by
  have e : (kvs.any fun kv => decide (kv.1 = k)) = (atKey xs k).isSome := by
    rw [valV_any, (r.val k).isSome_eq, Option.isSome_map]
  unfold putK storedH
  rw [e]
  by_cases q : (atKey xs k).isSome = true
  · rw [if_pos q, if_pos q]; exact r.repl k ry
  · rw [if_neg q, if_neg q]; exact Paired.snoc r ⟨rfl, hb, ry⟩
theorem KT.keeps {H H' : Hp} {kvs : List (List Key × V)} {xs : List (List Key × Addr × Value)} (r : KT H kvs xs) (ht : ∀ b ys, H b = some (.tup ys) → H' b = some (.tup ys)) : KT H' kvs xs :=
  Paired.mapP r fun _ _ z => ⟨z.1, ht _ _ z.2.1, z.2.2⟩

section
variable {P : Program} {w : World} {H : Hp} {h : Heap} {a : Addr}
theorem rd_of {u : HO} (ok : HOk P w H h) (e : Rd H a u) : ObjOk P w H h a u := e.ok ok
theorem dk_rd {kvs : List (Key × V)} (ok : HOk P w H h) (e : Rd H a (.dK kvs)) : kvs.length ≤ sizeLine ∧ (a == sysModules) = false ∧ ∃ vs, KV kvs vs ∧ h.DictOf (mixKind P w) a vs :=
  show ObjOk P w H h a (.dK kvs) from rd_of ok e
theorem dk_of {kvs : List (Key × V)} (ok : HOk P w H h) (e : H a = some (.dK kvs)) : kvs.length ≤ sizeLine ∧ (a == sysModules) = false ∧ ∃ vs, KV kvs vs ∧ h.DictOf (mixKind P w) a vs := dk_rd ok (.inl e)
/-- a tracked tuple of ints and texts is a key -/
theorem key_of {ks : List Key} (ok : HOk P w H h) (e : H a = some (.tup (ks.map kV))) : (tupleKind (mixKind P w)).is h ks a := by
  obtain ⟨_, its, r, o, h1, h2, n, h3⟩ := (show ObjOk P w H h a (.tup (ks.map kV)) from ok a _ e)
  exact ⟨o, its.toArray, n, h1, h2, h3, by simpa using items_are r⟩
theorem dt_rd {kvs : List (List Key × V)} (ok : HOk P w H h) (e : Rd H a (.dT kvs)) : kvs.length ≤ sizeLine ∧ (a == sysModules) = false ∧
    ∃ xs, KT H kvs xs ∧ h.DictOfH (tupleKind (mixKind P w)) a xs := by
  obtain ⟨z, y, xs, r, o, es, ep, h1, h2, h3, h4, h5⟩ := (show ObjOk P w H h a (.dT kvs) from rd_of ok e)
  refine ⟨z, y, xs, r, o, es, ep, h1, h2, h3, h4, fun x hx => ?_, h5⟩
  have all : ∀ {l : List (List Key × V)} {m : List (List Key × Addr × Value)}, KT H l m → ∀ x ∈ m, (tupleKind (mixKind P w)).is h x.1 x.2.1 := by
    intro l m q
    induction q with
    | nil => intro x hx; exact nomatch hx
    | @cons p q ps qs hq t ih =>
      intro x hx
      rcases List.mem_cons.mp hx with e | hx
      · subst e
        exact key_of ok (by rw [← hq.1]; exact hq.2.1)
      · exact ih x hx
  exact all r x hx
theorem dt_of {kvs : List (List Key × V)} (ok : HOk P w H h) (e : H a = some (.dT kvs)) : kvs.length ≤ sizeLine ∧ (a == sysModules) = false ∧
    ∃ xs, KT H kvs xs ∧ h.DictOfH (tupleKind (mixKind P w)) a xs := dt_rd ok (.inl e)
end

/-- what the dict at a holds at the key y -/
def DGet (H : Hp) (a : Addr) (y : V) (r : Option V) : Prop :=
  (∃ kvs k, Rd H a (.dK kvs) ∧ y = kV k ∧ r = valV kvs k) ∨ ∃ kvs k b, Rd H a (.dT kvs) ∧ y = .ref b ∧ H b = some (.tup (k.map kV)) ∧ r = valV kvs k
/-- the heap behind a[y] = v -/
def DPut (H : Hp) (a : Addr) (y v : V) (H' : Hp) : Prop :=
  (∃ kvs k, H a = some (.dK kvs) ∧ y = kV k ∧ kvs.length < sizeLine ∧ H' = upd H a (.dK (putK kvs k v))) ∨
  ∃ kvs k b, H a = some (.dT kvs) ∧ y = .ref b ∧ H b = some (.tup (k.map kV)) ∧ kvs.length < sizeLine ∧ H' = upd H a (.dT (putK kvs k v))


section
variable {X : Cx} {pins : List (Addr × Obj)} {σ : St} {H : Hp} {s : Shared} {a : Addr} {y v : V} {u r : Value} {o : Option V} {A : Around} {E : Value → Shared → Prop}

theorem Inv.big (I : Inv X pins σ H s) : sysModules < s.heap.objs.size := by
  have h : mainGlobals < s.heap.objs.size := (I.mod.glob.keeps I.bk).lt
  exact Nat.lt_trans (by decide) h

/-- d[y], there -/
theorem d_getItem {Q : Value → Shared → Prop} (hu : A.units + 1 < cLine) (I : Inv X pins σ H s) (g : DGet H a y (some v)) (ry : RelV y u) (h : ∀ w' s', Inv X pins σ H s' → RelV v w' → Q w' s') :
    wpAny (model X.prog X.w) A (getItem (.ref a) u) Q E s := by
  rcases g with ⟨kvs, k, e, ey, l⟩ | ⟨kvs, k, b, e, ey, eb, l⟩
  · subst ey
    obtain ⟨z, hd, vs, rel, dd⟩ := dk_rd I.hok e
    obtain ⟨w', hw, rw'⟩ := RelO.some_of (v := v) (o := valueAt vs k) (by rw [l]; exact rel.val k)
    exact wpAny_getItem_of (kV_is ry) dd.mapOf hw (h w' _ (I.tok _) rw')
  · subst ey
    cases (show u = Value.ref b from ry)
    obtain ⟨z, hd, xs, rel, dd⟩ := dt_rd I.hok e
    obtain ⟨w', hw, rw'⟩ := RelO.some_of (v := v) (o := (atKey xs k).map (·.2)) (by rw [l]; exact rel.val k)
    obtain ⟨p, hp, hp2⟩ := Option.map_eq_some_iff.mp hw
    refine wpAny_getItem_heap (tupleKind_room_in1 hu) (key_of I.hok eb) dd hp ?_
    rw [hp2]
    exact h w' _ (I.tok _) rw'
/-- a dict's object is replaced -/
theorem d_write {h' : Heap} {t' : Nat} {ob : HO} (I : Inv X pins σ H s) (mu : Mut (H a)) (hs : Heap.SameBut a s.heap h') (he : ∃ q, h'.get? a = some q) (new : ObjOk X.prog X.w (upd H a ob) h' a ob) (ht : 0 < t' := by (first | assumption | exact Nat.succ_pos _ | exact Inv.tk (by assumption) | exact Nat.lt_of_lt_of_le (Inv.tk (by assumption)) (Nat.le_add_right _ _) | exact Nat.lt_of_lt_of_le (Inv.tk (by assumption)) (by assumption))) :
    Inv X pins σ (upd H a ob) { s with heap := h', toks := t' } :=
  I.write (x := a) (e := a) mu (.inl rfl) (fun b q hb z => (hs.2 b hb).trans z) he new
theorem dk_new {P : Program} {w : World} {H' : Hp} {h' : Heap} {kvs : List (Key × V)} {vs : List (Key × Value)} (z : kvs.length ≤ sizeLine) (hd : (a == sysModules) = false) (rel : KV kvs vs) (dd : h'.DictOf (mixKind P w) a vs) :
    ObjOk P w H' h' a (.dK kvs) := ⟨z, hd, vs, rel, dd⟩
/-- d[y] = v -/
theorem d_setItem {H' : Hp} {Q : Unit → Shared → Prop} (hu : A.units + 1 < cLine) (I : Inv X pins σ H s) (g : DPut H a y v H') (ry : RelV y u) (rv : RelV v r) (h : ∀ s', Inv X pins σ H' s' → Q () s') :
    wpAny (model X.prog X.w) A (setItem (.ref a) u r) Q E s := by
  rcases g with ⟨kvs, k, e, ey, l, eH⟩ | ⟨kvs, k, b, e, ey, eb, l, eH⟩
  · subst ey eH
    obtain ⟨z, hd, vs, rel, dd⟩ := dk_of I.hok e
    have hz : vs.length ≤ sizeLine := by rw [← rel.length]; exact z
    have hl : (putK kvs k v).length ≤ sizeLine := by have := length_putK kvs k v; omega
    refine wpAny_setItem_pairs (hsz := hz) (kV_is ry) dd fun h' dd' hs => h _ ?_
    have he : ∃ q, h'.get? a = some q := let ⟨q, _, _, hq, _⟩ := dd'; ⟨q, hq⟩
    exact d_write I (by rw [e]; exact True.intro) hs he (dk_new hl hd (rel.put k rv) dd')
  · subst ey eH
    cases (show u = Value.ref b from ry)
    obtain ⟨z, hd, xs, rel, dd⟩ := dt_of I.hok e
    have hz : xs.length ≤ sizeLine := by rw [← Paired.length rel]; exact z
    have hl : (putK kvs k v).length ≤ sizeLine := by have := length_putK kvs k v; omega
    refine wpAny_setItem_heap (hsz := hz) (tupleKind_room_in1 hu) (key_of I.hok eb) dd fun h' dd' hs => h _ ?_
    obtain ⟨q, es, ep, hq, h2, h3, h4, _, h5⟩ := dd'
    refine d_write I (by rw [e]; exact True.intro) hs ⟨q, hq⟩ ⟨hl, hd, _, (rel.put k eb rv).keeps fun c ys ec => ?_, q, es, ep, hq, h2, h3, h4, h5⟩
    rw [upd_ne (ne_of ec e (fun z => nomatch z))]
    exact ec
end

section
variable {X : Cx} {pins : List (Addr × Obj)} {σ : St} {H : Hp} {s : Shared} {a : Addr} {kvs : List (Key × V)} {k : Key} {u : Value} {A : Around} {E : Value → Shared → Prop}
end


/-! ### readings and rules -/
/-- the element of a subscription, not a slice -/
def NoSl (i : Expr) : Prop := ∀ ov iv, subscripted i false ov iv = operate [ov, iv] (getItem ov iv)
theorem subD_of {prog : Program} {w : World} {A : Around} {E : Value → Shared → Prop} {s : Shared} {env : Env} {value slice : Expr} {pos : Pos} {T id : String} {Q : Value → Shared → Prop}
    (hl : typeLookup (.type T) "__getitem__" = pure (some (.builtin id))) (hs : NoSl slice)
    (h : wpAny (model prog w) A (eval value env) (fun o s₁ => wpAny (model prog w) A (eval slice env) (fun i s₂ => s₂.TypeIs o T ∧ wpAny (model prog w) A (getItem o i) Q E s₂) E s₁) E s) :
    wpAny (model prog w) A (eval (.Subscript value slice pos) env) Q E s := by
  refine Subscript_ (wpAny_mono h (fun o s₁ h₁ => wpAny_mono h₁ (fun i s₂ h₂ => ?_) fun _ _ x => x) fun _ _ x => x)
  obtain ⟨hT, h₂⟩ := h₂
  unfold subscriptTail
  refine wpAny_bind ?_
  rw [getitemInPython_of_ne hT.not_modules]
  refine wpAny_bind (wpAny_specialOf hT hl ?_)
  have fin : wpAny (model prog w) A (subscripted slice false o i) (fun r s₃ => wpAny (model prog w) A (letTemporaryGo value o r >>= fun _ => pure r) Q E s₃) E s₂ := by
    rw [hs o i]
    exact wpAny_operating (wpAny_mono h₂ (fun r s₃ h₃ => wpAny_bind (wpAny_letTemporaryGo (wpAny_pure h₃))) fun _ _ x => x)
  first
    | exact wpAny_pure (wpAny_bind fin)
    | exact wpAny_bind (wpAny_pure (wpAny_bind fin))
    | exact wpAny_bind fin

theorem dict_typeIs {X : Cx} {pins : List (Addr × Obj)} {σ : St} {H : Hp} {s : Shared} {a : Addr} {y : V} {o : Option V} (I : Inv X pins σ H s) (g : DGet H a y o) : s.TypeIs (.ref a) "dict" := by
  rcases g with ⟨kvs, k, e, _, _⟩ | ⟨kvs, k, b, e, _, _, _⟩
  · obtain ⟨_, _, vs, _, dd⟩ := dk_rd I.hok e
    exact dd.typeIs
  · obtain ⟨_, _, xs, _, dd⟩ := dt_rd I.hok e
    exact dd.typeIs

/-- d[y] -/
def tDGet (td ty : TE) : TE := fun σ H Q => td σ H fun x H1 => ty σ H1 fun y H2 => ∃ a v, x = .ref a ∧ DGet H2 a y (some v) ∧ Q v H2
/-- d[y] = v -/
def sDPut (td ty tv : TE) : TS := fun D σ H => tv σ H fun v H1 => td σ H1 fun x H2 => ty σ H2 fun y H3 => ∃ a H4, x = .ref a ∧ DPut H3 a y v H4 ∧ D.nx σ H4

section
variable {X : Cx} {o i e value : Expr} {pos pos' tpos : Pos} {td ty tv : TE}
theorem pe_dget (hu : X.A.units + 1 < cLine) (ho : PE X o td) (hi : PE X i ty) (hs : NoSl i) : PE X (.Subscript o i pos) (tDGet td ty) := by
  intro pins s σ H Q I h
  refine subD_of PySem.F.slot_dict_getitem.lookup hs (thn (ho pins s σ H _ I h) fun u s1 ⟨x, H1, I1, rx, q1⟩ => thn (hi pins s1 σ H1 _ I1 q1) fun iv s2 ⟨y, H2, I2, ry, a, v, ex, g, q2⟩ => ?_)
  subst ex
  obtain rfl : u = Value.ref a := rx
  exact ⟨dict_typeIs I2 g, d_getItem hu I2 g ry fun w' s3 I3 rw' => ⟨v, H2, I3, rw', q2⟩⟩
theorem ps_dput (hu : X.A.units + 1 < cLine) (ho : PE X o td) (hi : PE X i ty) (hv : PE X value tv) (hs : swapsWith value (some (.Subscript o i pos')) pos.line X.env = pure false) :
    PS X (.Assign [.Subscript o i pos'] value pos) (sDPut td ty tv) := by
  intro pins s σ H D I h
  refine wpAny_Assign_Subscript (thn (hv pins s σ H _ I h) fun r s1 ⟨v, H1, I1, rv, q1⟩ => thn (ho pins s1 σ H1 _ I1 q1) fun u s2 ⟨x, H2, I2, rx, q2⟩ => thn (hi pins s2 σ H2 _ I2 q2) fun iv s3 ⟨y, H3, I3, ry, a, H4, ex, g, q3⟩ => ?_) hs
  subst ex
  obtain rfl : u = Value.ref a := rx
  exact d_setItem hu I3 g ry rv fun s4 I4 => ⟨σ, H4, I4, q3⟩
end


/-! ### displays -/
theorem dk_empty {P : Program} {w : World} {H : Hp} (h : Heap) (hb : sysModules < h.objs.size) : ObjOk P w H (h.push { cls := .type "dict", data := .dict #[] }) h.objs.size (.dK []) :=
  ⟨Nat.zero_le _, beq_eq_false_iff_ne.mpr (Ne.symm (Nat.ne_of_lt hb)), [], .nil, Heap.DictOf.new h⟩
/-- {}, to be a dict of the kind that is wanted -/
def tDNewK : TE := fun _ H Q => ∀ p, H p = none → Q (.ref p) (upd H p (.dK []))
section
variable {X : Cx} {pos : Pos}
theorem pe_dnewK : PE X (.Dict [] [] pos) tDNewK := fun pins s σ H Q I h =>
  wpAny_Dict_empty ⟨.ref s.heap.objs.size, _, I.laid (a := s.heap.objs.size) (o := .dK []) (t' := s.toks) (fun _ _ q => Heap.get?_push_of_some _ q) (Nat.le_refl _) (dk_empty s.heap I.big), rfl, h _ (I.hok.fresh (Nat.le_refl _))⟩
end

/-- the pairs of a display, from the left -/
def tPairs : List (TE × TE) → St → Hp → (List (V × V) → Hp → Prop) → Prop
  | [], _, H, Q => Q [] H
  | (tk, tv) :: r, σ, H, Q => tk σ H fun x H1 => tv σ H1 fun y H2 => tPairs r σ H2 fun ps H3 => Q ((x, y) :: ps) H3
abbrev VV : List (V × V) → List (Value × Value) → Prop := Paired fun p q => RelV p.1 q.1 ∧ RelV p.2 q.2
def PPs (X : Cx) (pos : Pos) (keys : List (Option Expr)) (values : List Expr) (trs : List (TE × TE)) : Prop :=
  ∀ (pins : List (Addr × Obj)) (s : Shared) (σ : St) (H : Hp) (Q : List (V × V) → Hp → Prop), Inv X pins σ H s → tPairs trs σ H Q →
    wpAny (model X.prog X.w) X.A (evalPairs (pairTrees keys values X.env pos)) (fun vs s' => ∃ ps H', Inv X pins σ H' s' ∧ VV ps vs ∧ Q ps H') X.xe s
theorem pps_nil {X : Cx} {pos : Pos} : PPs X pos [] [] [] := fun pins s σ H Q I h => pairTrees_nil_walk ⟨[], H, I, .nil, h⟩
theorem pps_cons {X : Cx} {pos : Pos} {k v : Expr} {ks : List (Option Expr)} {vs : List Expr} {tk tv : TE} {trs : List (TE × TE)} (hk : PE X k tk) (hv : PE X v tv) (hr : PPs X pos ks vs trs) :
    PPs X pos (some k :: ks) (v :: vs) ((tk, tv) :: trs) := fun pins s σ H Q I h =>
  pairTrees_cons_walk (thn (hk pins s σ H _ I h) fun u s1 ⟨x, H1, I1, rx, q1⟩ => thn (hv pins s1 σ H1 _ I1 q1) fun w2 s2 ⟨y, H2, I2, ry, q2⟩ =>
    thn (hr pins s2 σ H2 _ I2 q2) fun ws s3 ⟨ps, H3, I3, rel, q3⟩ => ⟨(x, y) :: ps, H3, I3, .cons ⟨rx, ry⟩ rel, q3⟩)

def mergeK (kvs more : List (Key × V)) : List (Key × V) := more.foldl (fun acc kv => putK acc kv.1 kv.2) kvs
theorem KV.merge : ∀ {more : List (Key × V)} {rs : List (Key × Value)} {kvs : List (Key × V)} {vs : List (Key × Value)}, KV more rs → KV kvs vs → KV (mergeK kvs more) (merged vs rs) := by
  intro more rs kvs vs r
  unfold KV at r
  induction r generalizing kvs vs with
  | nil => intro q; exact q
  | @cons p q ps qs h t ih =>
    intro r0
    have e : KV (putK kvs p.1 p.2) (stored vs q.1 q.2) := by
      have := r0.put p.1 h.2
      rw [← h.1]; exact this
    exact ih e
theorem length_mergeK : ∀ (more kvs : List (Key × V)), (mergeK kvs more).length ≤ kvs.length + more.length
  | [], kvs => by show kvs.length ≤ kvs.length + 0; omega
  | p :: r, kvs => by
    have h1 := length_mergeK r (putK kvs p.1 p.2)
    have h2 := length_putK kvs p.1 p.2
    show (mergeK (putK kvs p.1 p.2) r).length ≤ _
    rw [List.length_cons]; omega
theorem carries_of {P : Program} {w : World} : ∀ {kvs : List (Key × V)} {ws : List (Value × Value)}, VV (kvs.map fun kv => (kV kv.1, kv.2)) ws → ∃ rs, Carries (mixKind P w) ws rs ∧ KV kvs rs
  | [], _, r => by rw [List.map_nil] at r; cases r; exact ⟨[], True.intro, .nil⟩
  | p :: kvs, _, r => by
    rw [List.map_cons] at r
    cases r with
    | @cons a b as bs h t =>
      obtain ⟨rs, c, q⟩ := carries_of (P := P) (w := w) t
      obtain ⟨b1, b2⟩ := b
      exact ⟨(p.1, b2) :: rs, ⟨kV_is h.1, rfl, c⟩, .cons ⟨rfl, h.2⟩ q⟩
/-- {k: v, ..} with keys ints and texts; the new dict stands empty while the pairs are made -/
def tDisp (trs : List (TE × TE)) : TE := fun σ H Q => ∀ p, H p = none → tPairs trs σ (upd H p (.dK [])) fun ps H2 => H2 p = some (.dK []) ∧ ∃ kvs : List (Key × V), ps = kvs.map (fun kv => (kV kv.1, kv.2)) ∧ kvs.length ≤ 15 ∧ Q (.ref p) (upd H2 p (.dK (mergeK [] kvs)))
theorem pe_disp {X : Cx} {pos : Pos} {keys : List (Option Expr)} {values : List Expr} {trs : List (TE × TE)} (h : PPs X pos keys values trs) (hall : keys.all (·.isSome) = true) (hl : keys.length = values.length) (h0 : keys ≠ [])
    (h15 : keys.length ≤ 15) : PE X (.Dict keys values pos) (tDisp trs) := by
  intro pins s σ H Q I q
  have hn := I.hok.fresh (Nat.le_refl s.heap.objs.size)
  have I1 := I.laid (a := s.heap.objs.size) (o := .dK []) (h' := s.heap.push { cls := .type "dict", data := .dict #[] }) (t' := s.toks) (fun _ _ q => Heap.get?_push_of_some _ q) (Nat.le_refl _) (dk_empty s.heap I.big)
  refine wpAny_Dict_walk (knd := mixKind X.prog X.w) hall hl h0 h15 (thn (h pins _ σ _ _ I1 (q _ hn)) fun ws s2 ⟨ps, H2, I2, rel, e, kvs, ep, lk, q2⟩ => ?_)
  subst ep
  obtain ⟨rs, c, rk⟩ := carries_of (P := X.prog) (w := X.w) rel
  obtain ⟨z, hd, vs0, r0, dd⟩ := dk_of I2.hok e
  cases r0
  refine ⟨rs, c, dd, fun h' dd' hs => ⟨.ref s.heap.objs.size, _, ?_, rfl, q2⟩⟩
  have hz : (mergeK [] kvs).length ≤ sizeLine := by
    have h1 := length_mergeK kvs []
    rw [List.length_nil] at h1
    rw [sizeLine_eq]; omega
  have he : ∃ q, h'.get? s.heap.objs.size = some q := let ⟨q, _, _, hq, _⟩ := dd'; ⟨q, hq⟩
  exact d_write I2 (by rw [e]; exact True.intro) hs he (dk_new hz hd (rk.merge .nil) dd')


/-! ### methods -/
structure M2 (X : Cx) (o : Expr) (m : Str) (apos : Pos) (e f : Expr) (cpos : Pos) : Prop where
  base : attributeBase o m X.env (eval o X.env) = eval o X.env
  few : ((backTo cpos (starEach [e, f] X.env)).all (fun x => !x.1) && (backToKw cpos (keywordEach [] X.env)).all (fun x => x.1.isSome)
    && decide (([e, f] : List Expr).length + ([] : List Keyword).length + (if ([] : List Keyword).isEmpty then 0 else 1) < 30)) = true
  line : (apos.endLine == cpos.line) = true
  trees : backTo cpos (starEach [e, f] X.env) = [(false, eval e X.env), (false, eval f X.env)]

/-- a is a dict, whatever its keys -/
def IsD (H : Hp) (a : Addr) : Prop := (∃ kvs, Rd H a (.dK kvs)) ∨ ∃ kvs, Rd H a (.dT kvs)
theorem isD_at {X : Cx} {pins : List (Addr × Obj)} {σ : St} {H : Hp} {s : Shared} {a : Addr} (I : Inv X pins σ H s) (d : IsD H a) :
    s.TypeIs (.ref a) "dict" ∧ (∀ b, Value.ref a = .ref b → ∃ ob, s.heap.get? b = some ob ∧ ob.dict = none) ∧ (a == sysModules) = false := by
  rcases d with ⟨kvs, e⟩ | ⟨kvs, e⟩
  · obtain ⟨_, hd, vs, _, dd⟩ := dk_rd I.hok e
    refine ⟨dd.typeIs, fun b q => ?_, hd⟩
    cases q
    obtain ⟨ob, _, _, h1, h2, _⟩ := dd
    exact ⟨ob, h1, h2.2.1⟩
  · obtain ⟨_, hd, xs, _, dd⟩ := dt_rd I.hok e
    refine ⟨dd.typeIs, fun b q => ?_, hd⟩
    cases q
    obtain ⟨ob, _, _, h1, h2, _⟩ := dd
    exact ⟨ob, h1, h2.2.1⟩

section
variable {X : Cx} {pins : List (Addr × Obj)} {σ : St} {H : Hp} {s : Shared} {a : Addr} {y d : V} {u r : Value} {o : Option V} {A : Around} {E : Value → Shared → Prop}
/-- d.get(y, x) -/
theorem d_get2 {Q : Value → Shared → Prop} (hu : A.units + 1 < cLine) (I : Inv X pins σ H s) (g : DGet H a y o) (ry : RelV y u) (rd : RelV d r) (h : ∀ w' s', Inv X pins σ H s' → RelV (o.getD d) w' → Q w' s') :
    wpAny (model X.prog X.w) A (call (.builtin "dict.get") [.ref a, u, r]) Q E s := by
  rcases g with ⟨kvs, k, e, ey, l⟩ | ⟨kvs, k, b, e, ey, eb, l⟩
  · subst ey
    obtain ⟨z, hd, vs, rel, dd⟩ := dk_rd I.hok e
    refine call_meetsIn PySem.F.slot_dict_get dd.typeIs PySem.F.entry_dict_get (PySem.F.args_dict_get_3 _ _ _) (meets_dict_get_default (mixKind X.prog X.w) a (kV_is ry) hd r) ⟨_, dd.mapOf, h _ _ (I.tok _) ?_⟩
    rw [l]
    exact (rel.val k).getD rd
  · subst ey
    cases (show u = Value.ref b from ry)
    obtain ⟨z, hd, xs, rel, dd⟩ := dt_rd I.hok e
    refine call_meetsIn PySem.F.slot_dict_get dd.typeIs PySem.F.entry_dict_get (PySem.F.args_dict_get_3 _ _ _) (meetsH_dict_get_default (tupleKind (mixKind X.prog X.w)) a b hd r) ⟨tupleKind_room_in1 hu, k, xs, key_of I.hok eb, dd, h _ _ (I.tok _) ?_⟩
    rw [l]
    exact (rel.val k).getD rd
end

def tDGet2 (td ty tx : TE) : TE := fun σ H Q => td σ H fun x H1 => ∃ a, x = .ref a ∧ IsD H1 a ∧ ty σ H1 fun y H2 => tx σ H2 fun z H3 => ∃ o, DGet H3 a y o ∧ Q (o.getD z) H3
section
variable {X : Cx} {o e f : Expr} {apos cpos : Pos} {td ty tx : TE}
theorem pe_dget2 (hu : X.A.units + 1 < cLine) (ho : PE X o td) (he : PE X e ty) (hf : PE X f tx) (m : M2 X o "get" apos e f cpos) : PE X (.Call (.Attribute o "get" apos) [e, f] [] cpos) (tDGet2 td ty tx) := by
  intro pins s σ H Q I h
  refine wpAny_Call_method m.base m.few m.line PySem.F.plainAttrs_dict PySem.F.slot_dict_get PySem.F.type_dict_get (thn (ho pins s σ H _ I h) fun u s1 ⟨x, H1, I1, rx, a, ex, d, q1⟩ => ?_)
  subst ex
  obtain rfl : u = Value.ref a := rx
  obtain ⟨t1, t2, _⟩ := isD_at I1 d
  refine ⟨t1, t2, ?_⟩
  rw [m.trees]
  refine Calls.callWith_builtin rfl (Calls.evalArgs_plain (Calls.spliced_cons (thn (he pins s1 σ H1 _ I1 q1) fun iv s2 ⟨y, H2, I2, ry, q2⟩ =>
    Calls.spliced_cons (thn (hf pins s2 σ H2 _ I2 q2) fun fv s3 ⟨z, H3, I3, rz, ov, g, q3⟩ => Calls.spliced_nil ?_))))
  exact d_get2 hu I3 g ry rz fun w' s4 I4 rw' => ⟨_, H3, I4, rw', q3⟩
end

/-! ### dict(d): a copy -/
section
variable {X : Cx} {pins : List (Addr × Obj)} {σ : St} {H : Hp} {s : Shared} {a : Addr} {kvs : List (Key × V)} {A : Around} {E : Value → Shared → Prop}
end


section
variable {X : Cx} {pins : List (Addr × Obj)} {σ : St} {H : Hp} {s : Shared} {a : Addr} {y : V} {u : Value} {A : Around} {E : Value → Shared → Prop}
end
end L2

namespace HT
open PySem PyProof.Rows



section
open PySem.SeqAt
open PySem.AutoSeq1 (wpAny_loadPart')
open PySem.MeetsSeq PySem.MeetsSeq2 PySem.MeetsSeq3

end

section
variable {prog : Program} {w : World} {A : Around} {E : Value → Shared → Prop} {s : Shared}



/-! ### t[a:b], not the whole -/
/-- a slice's bound as a place among n (d where it is left out) -/
def sIx (n d : Nat) : Option Int → Nat
  | none => d
  | some v => if v < 0 then (v + (n : Int)).toNat else min v.toNat n
theorem sIx_none (n d : Nat) : sIx n d none = d := rfl
theorem sIx_nat (n d k : Nat) : sIx n d (some (k : Int)) = min k n := by
  show (if (k : Int) < 0 then ((k : Int) + (n : Int)).toNat else min (k : Int).toNat n) = min k n
  rw [if_neg (by omega), Int.toNat_natCast]
theorem sIx_le (n d : Nat) (hd : d ≤ n) (o : Option Int) : sIx n d o ≤ n := by
  cases o with
  | none => exact hd
  | some v =>
    show (if v < 0 then (v + (n : Int)).toNat else min v.toNat n) ≤ n
    by_cases hv : v < 0
    · rw [if_pos hv]; omega
    · rw [if_neg hv]; exact Nat.min_le_right _ _

end
end HT

namespace L2
open PySem PySem.Spec PyProof.Rows

/-! ### the parts of a slice -/
abbrev TO := St → Hp → (Option Int → Hp → Prop) → Prop
/-- a slice's part (left out, or an int) -/
def PO (X : Cx) (e : Option Expr) (t : TO) : Prop :=
  ∀ (pins : List (Addr × Obj)) (s : Shared) (σ : St) (H : Hp) (Q : Option Int → Hp → Prop), Inv X pins σ H s → t σ H Q →
    wpAny (model X.prog X.w) X.A (evalPart e X.env) (fun u s' => ∃ o H', Inv X pins σ H' s' ∧ IsPart u o ∧ Q o H') X.xe s
def tNoPart : TO := fun _ H Q => Q none H
def tPart (t : TE) : TO := fun σ H Q => t σ H fun x H1 => ∃ i, x = .int i ∧ Q (some i) H1


section
variable {X : Cx} {e : Expr} {te : TE} {lo hi : Option Expr} {tl th : TO} {pos p2 : Pos}

theorem po_none : PO X none tNoPart := by
  intro pins s σ H Q I h
  rw [evalPart_none]
  exact wpAny_pure ⟨none, H, I, .none, h⟩
theorem po_some (h : PE X e te) : PO X (some e) (tPart te) := by
  intro pins s σ H Q I hw
  rw [evalPart_some]
  refine thn (h pins s σ H _ I hw) fun u s1 ⟨x, H1, I1, r1, q1⟩ => ?_
  obtain ⟨i, rfl, q⟩ := q1
  obtain ⟨t, rfl⟩ := r1
  exact ⟨some i, H1, I1, .int i t, q⟩

/-- what a slice of a value is, by values: the slice object stands at sl -/
def SlR (X : Cx) (r : V → Option Int → Option Int → Hp → VK → Prop) : Prop :=
  ∀ (pins : List (Addr × Obj)) (s : Shared) (σ : St) (H : Hp) (x : V) (v vl vu : Value) (lo hi : Option Int) (sl : Addr) (Q : VK), Inv X pins σ H s → RelV x v → s.heap.IsSliceOf sl vl vu .none → IsPart vl lo → IsPart vu hi → r x lo hi H Q →
    ∃ T id, typeLookup (.type T) "__getitem__" = pure (some (.builtin id)) ∧ s.TypeIs v T ∧ wpAny (model X.prog X.w) X.A (getItem v (.ref sl)) (EP X pins σ Q) X.xe s
theorem SlR.or {r r' : V → Option Int → Option Int → Hp → VK → Prop} (h : SlR X r) (h' : SlR X r') : SlR X (fun x lo hi H Q => r x lo hi H Q ∨ r' x lo hi H Q) := by
  intro pins s σ H x v vl vu lo hi sl Q I rx hs pl pu q
  rcases q with q | q
  · exact h pins s σ H x v vl vu lo hi sl Q I rx hs pl pu q
  · exact h' pins s σ H x v vl vu lo hi sl Q I rx hs pl pu q
def tSl (r : V → Option Int → Option Int → Hp → VK → Prop) (te : TE) (tl th : TO) : TE := fun σ H Q => te σ H fun x H1 => tl σ H1 fun l H2 => th σ H2 fun u H3 => r x l u H3 Q
/-- a[lo:hi], any a -/
theorem pe_slice {r : V → Option Int → Option Int → Hp → VK → Prop} (hr : SlR X r) (he : PE X e te) (hl : PO X lo tl) (hu : PO X hi th) : PE X (.Subscript e (.Slice lo hi none p2) pos) (tSl r te tl th) := by
  intro pins s σ H Q I h
  refine Subscript_ (thn (he pins s σ H _ I h) fun v s1 ⟨x, H1, I1, r1, q1⟩ => ?_)
  refine wpAny_Slice (thn (hl pins s1 σ H1 _ I1 q1) fun vl s2 ⟨l, H2, I2, pl, q2⟩ => thn (hu pins s2 σ H2 _ I2 q2) fun vu s3 ⟨u, H3, I3, pu, q3⟩ => ?_)
  rw [evalPart_none]
  refine wpAny_pure ?_
  have I4 : Inv X pins σ H3 { s3 with heap := s3.heap.push { cls := .type "slice", data := .fields #[vl, vu, .none] } } := I3.kept (t' := s3.toks) fun b ob q => Heap.get?_push_of_some _ q
  obtain ⟨T, id, hT, ht, hg⟩ := hr pins { s3 with heap := s3.heap.push { cls := .type "slice", data := .fields #[vl, vu, .none] } } σ H3 x v vl vu l u s3.heap.objs.size Q I4 r1 (Heap.IsSliceOf.new ..) pl pu q3
  show wpAny (model X.prog X.w) X.A (subscriptTail e (.Slice lo hi none p2) v (.ref s3.heap.objs.size)) (EP X pins σ Q) X.xe { s3 with heap := s3.heap.push { cls := .type "slice", data := .fields #[vl, vu, .none] } }
  exact tail_any (ops := [.ref s3.heap.objs.size, v]) ht hT hg (by with_unfolding_all rfl)

/-- the items of xs[lo:hi] -/
def cutV (xs : List V) (lo hi : Option Int) : List V := (xs.drop (HT.sIx xs.length 0 lo)).take (HT.sIx xs.length xs.length hi - HT.sIx xs.length 0 lo)
theorem cutV_length (xs : List V) (lo hi : Option Int) : (cutV xs lo hi).length ≤ xs.length := by
  unfold cutV
  rw [List.length_take, List.length_drop]
  omega

/-! ### t < u, t + u -/
end
end L2

namespace L2
open PySem PySem.Spec PyProof.Rows

/-! ### places -/
/-- the place that an index of any sign means -/
def ixN (n : Nat) (i : Int) : Option Nat := if 0 ≤ i then (if i < n then some i.toNat else none) else if -(n : Int) ≤ i then some (i + n).toNat else none
def atI {α : Type} (xs : List α) (i : Int) : Option α := (ixN xs.length i).bind fun j => xs[j]?
theorem ixN_seq {n : Nat} {i : Int} {j : Nat} (h : ixN n i = some j) : seqIndex? i n = some j ∧ j < n ∧ -(n : Int) ≤ i ∧ i < n := by
  unfold ixN at h
  by_cases h0 : 0 ≤ i
  · rw [if_pos h0] at h
    by_cases h1 : i < n
    · rw [if_pos h1] at h
      have e : i.toNat = j := Option.some.inj h
      exact ⟨by rw [seqIndex_of h0 h1, e], by omega, by omega, h1⟩
    · rw [if_neg h1] at h; cases h
  · rw [if_neg h0] at h
    by_cases h1 : -(n : Int) ≤ i
    · rw [if_pos h1] at h
      have e : (i + n).toNat = j := Option.some.inj h
      exact ⟨by rw [seqIndex_neg (by omega) h1, e], by omega, h1, by omega⟩
    · rw [if_neg h1] at h; cases h
theorem atI_get {α : Type} {xs : List α} {i : Int} {v : α} (h : atI xs i = some v) : ∃ j, seqIndex? i xs.length = some j ∧ xs[j]? = some v ∧ j < xs.length ∧ -(xs.length : Int) ≤ i ∧ i < xs.length := by
  unfold atI at h
  cases e : ixN xs.length i with
  | none => rw [e] at h; cases h
  | some j =>
    rw [e] at h
    obtain ⟨h1, h2, h3, h4⟩ := ixN_seq e
    exact ⟨j, h1, h, h2, h3, h4⟩
theorem atI_nat {α : Type} {xs : List α} {j : Nat} {v : α} (h : xs[j]? = some v) : atI xs (j : Int) = some v := by
  have hj : j < xs.length := (List.getElem?_eq_some_iff.mp h).1
  have e : ixN xs.length (j : Int) = some j := by
    unfold ixN
    rw [if_pos (by omega), if_pos (by omega)]; simp
  unfold atI; rw [e]; exact h

/-! ### what may be subscripted -/
/-- what stands as an index of a plain subscript -/
def PlainIx (b : Expr) : Prop := ∀ o i, subscripted b false o i = operate [o, i] (getItem o i)
/-- a subscript by values -/
def IxR (X : Cx) (r : R2) : Prop :=
  ∀ (value slice : Expr) (pins : List (Addr × Obj)) (s : Shared) (σ : St) (H : Hp) (x y : V) (v u : Value) (Q : VK), Inv X pins σ H s → RelV x v → RelV y u → r x y H Q →
    subscripted slice false v u = operate [v, u] (getItem v u) → wpAny (model X.prog X.w) X.A (subscriptTail value slice v u) (EP X pins σ Q) X.xe s
/-- a call of a builtin's method by values: the receiver, the arguments -/
def MtR (X : Cx) (id : String) (r : V → List V → Hp → VK → Prop) : Prop :=
  ∀ (pins : List (Addr × Obj)) (s : Shared) (σ : St) (H : Hp) (x : V) (xs : List V) (v : Value) (us : List Value) (Q : VK), Inv X pins σ H s → RelV x v → Vals xs us → r x xs H Q →
    wpAny (model X.prog X.w) X.A (call (.builtin id) (v :: us)) (EP X pins σ Q) X.xe s
section
variable {X : Cx} {a b : Expr} {ta tb : TE} {pos : Pos}
/-- a[b] -/
theorem pe_ix {r : R2} (hr : IxR X r) (ha : PE X a ta) (hb : PE X b tb) (hs : PlainIx b) : PE X (.Subscript a b pos) (tOp r ta tb) := by
  intro pins s σ H Q I h
  exact Subscript_ (binT ha hb I h fun v u s2 x y H2 I2 rx ry q => hr a b pins s2 σ H2 x y v u Q I2 rx ry q (hs _ _))

def rIxL (K : PySem.W.Frag) : R2 := fun x y H Q => ∃ p xs i v, x = .ref p ∧ y = .int i ∧ SqL K H p xs ∧ atI xs i = some v ∧ Q v H
def rIxT (K : PySem.W.Frag) : R2 := fun x y H Q => ∃ p xs i v, x = .ref p ∧ y = .int i ∧ SqT K H p xs ∧ atI xs i = some v ∧ Q v H
def rIxS : R2 := fun x y H Q => ∃ z i c, x = .str z ∧ y = .int i ∧ z.length ≤ sizeLine ∧ atI z.cps.toList i = some c ∧ Q (.str ⟨#[c]⟩) H
theorem ix_list : IxR X (rIxL X.K) := by
  intro value slice pins s σ H x y v u Q I rx ry h hs
  obtain ⟨p, xs, i, z, rfl, rfl, hq, he, q⟩ := h
  cases rx
  obtain ⟨t, rfl⟩ := ry
  obtain ⟨its, r, pl, hz⟩ := I.list hq
  obtain ⟨j, h1, h2, h3, h4, h5⟩ := atI_get he
  obtain ⟨w, ew, rw'⟩ := r.get h2
  have hl := r.length
  have hn := line63
  have fin : EP X pins σ Q w s := ⟨z, H, I, rw', q⟩
  by_cases h0 : 0 ≤ i
  · have hj : i.toNat = j := by
      rw [seqIndex_of h0 h5] at h1
      exact Option.some.inj h1
    exact item_listR pl.isList h0 (by omega) (by rw [hj]; simpa using ew) fin hs
  · have hj : (i + (its.toArray.size : Int)).toNat = j := by
      rw [seqIndex_neg (by omega) h4] at h1
      rw [List.size_toArray, ← hl]
      exact Option.some.inj h1
    exact subscriptTail_builtinR (x := w) pl.isList.typeIs slot_list_getitem.lookup
      (wpAny_getItem_list_neg (Q := fun r s' => r = w ∧ EP X pins σ Q r s') pl.isList (by omega) (by rw [List.size_toArray] <;> omega) (by omega) (by rw [hj]; simpa using ew) ⟨rfl, fin⟩) hs
theorem ix_tup : IxR X (rIxT X.K) := by
  intro value slice pins s σ H x y v u Q I rx ry h hs
  obtain ⟨p, xs, i, z, rfl, rfl, hq, he, q⟩ := h
  cases rx
  obtain ⟨t, rfl⟩ := ry
  obtain ⟨its, r, pl, hz⟩ := I.tuple hq
  obtain ⟨j, h1, h2, h3, h4, h5⟩ := atI_get he
  obtain ⟨w, ew, rw'⟩ := r.get h2
  have hl := r.length
  have hn := line63
  have fin : EP X pins σ Q w s := ⟨z, H, I, rw', q⟩
  exact subscriptTail_builtinR (x := w) pl.typeIs slot_tuple_getitem.lookup
    (getItem_tuple (j := j) (Q := fun r s' => r = w ∧ EP X pins σ Q r s') pl (by omega) (by omega) (by rw [List.size_toArray, ← hl]; exact h1) (by simpa using ew) ⟨rfl, fin⟩) hs
theorem ix_str : IxR X rIxS := by
  intro value slice pins s σ H x y v u Q I rx ry h hs
  obtain ⟨z, i, c, rfl, rfl, hz, he, q⟩ := h
  obtain ⟨t, rfl⟩ := rx
  obtain ⟨t', rfl⟩ := ry
  obtain ⟨j, h1, h2, h3, h4, h5⟩ := atI_get he
  have hl : z.cps.toList.length = z.length := by simp [Str.length]
  rw [hl] at h1 h4 h5
  have hn := line63
  exact tail_any (typeIs_str s z t) slot_str_getitem.lookup (getItem_str (c := c) (by
    have e1 : decide (i < -(2 ^ 63 : Int)) = false := decide_eq_false (by omega)
    have e2 : decide (i ≥ 2 ^ 63) = false := decide_eq_false (by omega)
    rw [e1, e2, Bool.or_false]) (by rw [h1]; simpa using h2) ⟨.str ⟨#[c]⟩, H, I.tok _, ⟨_, rfl⟩, q⟩) hs

/-! ### xs[i] = v, any sign -/

/-! ### slices -/
theorem slice_bounds (lo hi : Option Int) (n : Nat) : (sliceBounds lo hi none n).1 = ((HT.sIx n 0 lo : Nat) : Int) ∧ (sliceBounds lo hi none n).2.1 = ((HT.sIx n n hi : Nat) : Int) ∧ (sliceBounds lo hi none n).2.2 = 1 := by
  refine ⟨?_, ?_, rfl⟩
  · cases lo with
    | none => simp [sliceBounds, HT.sIx]
    | some i =>
      simp only [sliceBounds, HT.sIx, Option.getD_none, show (1 : Int) > 0 by decide, if_true]
      by_cases h : i < 0
      · simp only [h, if_true] <;> omega
      · simp only [h, if_false] <;> omega
  · cases hi with
    | none => simp [sliceBounds, HT.sIx]
    | some i =>
      simp only [sliceBounds, HT.sIx, Option.getD_none, show (1 : Int) > 0 by decide, if_true]
      by_cases h : i < 0
      · simp only [h, if_true] <;> omega
      · simp only [h, if_false] <;> omega
theorem slicePick_cut (its : List Value) (lo hi : Option Int) : slicePick its.toArray lo hi none = ((its.drop (HT.sIx its.length 0 lo)).take (HT.sIx its.length its.length hi - HT.sIx its.length 0 lo)).toArray := by
  obtain ⟨h1, h2, h3⟩ := slice_bounds lo hi its.toArray.size
  unfold slicePick
  rw [h1, h2, h3]
  simp only [sliceRange_one, pick_run, List.size_toArray] <;> rfl
/-- xs[lo:hi] of a list: a new list -/
def rSlL (K : PySem.W.Frag) : V → Option Int → Option Int → Hp → VK → Prop := fun x lo hi H Q => ∃ a xs, x = .ref a ∧ SqL K H a xs ∧ ∀ p, H p = none → Q (.ref p) (upd H p (.lst (cutV xs lo hi)))
theorem sl_list : SlR X (rSlL X.K) := by
  intro pins s σ H x v vl vu lo hi sl Q I rx hs pl pu h
  obtain ⟨a, xs, rfl, hx, q⟩ := h
  cases rx
  obtain ⟨its, r, ht, hz⟩ := I.list hx
  have hlen := r.length
  refine ⟨"list", _, slot_list_getitem.lookup, ht.isList.typeIs, ?_⟩
  refine wpAny_getItem_list_slice ht.isList hs pl pu .none (by simp) ?_ (by rw [List.size_toArray] <;> omega)
  rw [slicePick_cut, ← hlen]
  refine ⟨.ref s.heap.objs.size, _, I.laid (t' := s.toks) (o := .lst (cutV xs lo hi)) (fun b ob q => Heap.get?_push_of_some _ q) (Nat.le_refl _) ?_, rfl, q _ (I.hok.fresh (Nat.le_refl _))⟩
  exact ⟨Nat.le_trans (cutV_length xs lo hi) hz, _, 0, (r.drop (HT.sIx xs.length 0 lo)).take (HT.sIx xs.length xs.length hi - HT.sIx xs.length 0 lo), Heap.get?_push_size _ rfl⟩

/-! ### in, not in: flat items -/
def flatV : V → Bool
  | .non => true
  | .bl _ => true
  | .int _ => true
  | .str _ => true
  | _ => false
/-- == of flat values -/
def eqV : V → V → Bool
  | .non, .non => true
  | .bl a, .bl b => a == b
  | .bl a, .int b => (if a then 1 else 0) == b
  | .int a, .bl b => a == (if b then 1 else 0)
  | .int a, .int b => a == b
  | .str a, .str b => a == b
  | _, _ => false
theorem eqAt_V {A : Around} {s : Shared} {y x : V} {u v : Value} (ry : RelV y u) (rx : RelV x v) (fy : flatV y = true) (fx : flatV x = true) : SeqAt.EqAt A s u v (eqV y x) := by
  cases y with
  | non =>
    cases ry
    cases x with
    | non => cases rx; exact SeqAt.EqAt.same _
    | bl b => cases rx; exact SeqAt.EqAt.none_bool b
    | int b => obtain ⟨t, rfl⟩ := rx; exact SeqAt.EqAt.none_int b t
    | str b => obtain ⟨t, rfl⟩ := rx; exact SeqAt.EqAt.none_str b t
    | _ => exact absurd (show false = true from fx) Bool.false_ne_true
  | bl a =>
    cases ry
    cases x with
    | non => cases rx; exact SeqAt.EqAt.bool_none a
    | bl b => cases rx; exact SeqAt.EqAt.bool_bool a b
    | int b => obtain ⟨t, rfl⟩ := rx; exact SeqAt.EqAt.bool_int a b t
    | str b => obtain ⟨t, rfl⟩ := rx; exact SeqAt.EqAt.bool_str a b t
    | _ => exact absurd (show false = true from fx) Bool.false_ne_true
  | int a =>
    obtain ⟨t', rfl⟩ := ry
    cases x with
    | non => cases rx; exact SeqAt.EqAt.int_none a t'
    | bl b => cases rx; exact SeqAt.EqAt.int_bool a t' b
    | int b => obtain ⟨t, rfl⟩ := rx; exact SeqAt.EqAt.int_int a t' b t
    | str b => obtain ⟨t, rfl⟩ := rx; exact SeqAt.EqAt.int_str a t' b t
    | _ => exact absurd (show false = true from fx) Bool.false_ne_true
  | str a =>
    obtain ⟨t', rfl⟩ := ry
    cases x with
    | non => cases rx; exact SeqAt.EqAt.str_none a t'
    | bl b => cases rx; exact SeqAt.EqAt.str_bool a t' b
    | int b => obtain ⟨t, rfl⟩ := rx; exact SeqAt.EqAt.str_int a t' b t
    | str b => obtain ⟨t, rfl⟩ := rx; exact SeqAt.EqAt.str_str a t' b t
    | _ => exact absurd (show false = true from fx) Bool.false_ne_true
  | _ => exact absurd (show false = true from fy) Bool.false_ne_true
/-- the items' answers, read off the values (a value's own answer does not lean on its token) -/
def eqU (x : V) (u : Value) : Bool := match u with
  | .none => eqV .non x
  | .bool b => eqV (.bl b) x
  | .int i _ => eqV (.int i) x
  | .str z _ => eqV (.str z) x
  | _ => false
theorem eqU_of {x y : V} {u : Value} (r : RelV y u) (f : flatV y = true) : eqU x u = eqV y x := by
  cases y with
  | non => cases r; rfl
  | bl b => cases r; rfl
  | int i => obtain ⟨t, rfl⟩ := r; rfl
  | str z => obtain ⟨t, rfl⟩ := r; rfl
  | _ => exact absurd (show false = true from f) Bool.false_ne_true
theorem any_eqU {x : V} : ∀ {xs : List V} {us : List Value}, Vals xs us → xs.all flatV = true → us.any (eqU x) = xs.any fun y => eqV y x
  | _, _, .nil, _ => rfl
  | y :: xs, u :: us, .cons r t, f => by
    rw [List.all_cons, Bool.and_eq_true] at f
    rw [List.any_cons, List.any_cons, eqU_of r f.1, any_eqU t f.2]
theorem mem_eqAt {A : Around} {s : Shared} {x : V} {v : Value} (rx : RelV x v) (fx : flatV x = true) : ∀ {xs : List V} {us : List Value}, Vals xs us → xs.all flatV = true → ∀ u ∈ us, SeqAt.EqAt A s u v (eqU x u)
  | _, _, .nil, _ => fun u hu => by cases hu
  | y :: xs, u :: us, .cons r t, f => fun u' hu => by
    rw [List.all_cons, Bool.and_eq_true] at f
    rcases List.mem_cons.mp hu with rfl | hu
    · rw [eqU_of r f.1]; exact eqAt_V r rx f.1 fx
    · exact mem_eqAt rx fx t f.2 u' hu
def inV (x : V) (xs : List V) : Bool := xs.any fun y => eqV y x
/-- x in a list or tuple of flat items -/
def rIn (K : PySem.W.Frag) (neg : Bool) : R2 := fun x y H Q => ∃ p xs, y = .ref p ∧ (SqL K H p xs ∨ SqT K H p xs) ∧ flatV x = true ∧ xs.all flatV = true ∧ Q (.bl (if neg then !inV x xs else inV x xs)) H
theorem op_in_seq : OpR X (compareOp .In) (rIn X.K false) := by
  intro pins s σ H x y v u Q I rx ry h
  obtain ⟨p, xs, rfl, hq, fx, fs, q⟩ := h
  cases ry
  rcases hq with hq | hq
  · obtain ⟨its, r, pl, hz⟩ := I.list hq
    refine SeqAt.in_listAt (eqU x) pl.isList (fun w hw => mem_eqAt rx fx r fs w (by simpa using hw)) ⟨.bl _, H, I, rfl, ?_⟩
    rw [show its.toArray.any (eqU x) = its.any (eqU x) by simp, any_eqU r fs]
    exact q
  · obtain ⟨its, r, pl, hz⟩ := I.tuple hq
    refine SeqAt.in_tupleAt (eqU x) pl (fun w hw => mem_eqAt rx fx r fs w (by simpa using hw)) ⟨.bl _, H, I, rfl, ?_⟩
    rw [show its.toArray.any (eqU x) = its.any (eqU x) by simp, any_eqU r fs]
    exact q

/-! ### len, list(x), tuple(x) of any list or tuple that is read -/
theorem call_len_seq : CallR X (.builtin "len") (fun xs H Q => ∃ p ys, xs = [.ref p] ∧ (SqL X.K H p ys ∨ SqT X.K H p ys) ∧ Q (.int ys.length) H) := by
  intro pins s σ H xs us Q I r h
  obtain ⟨p, ys, rfl, hq, q⟩ := h
  obtain ⟨u, rfl, rx⟩ := vals1 r
  cases rx
  have hn := line63
  rcases hq with hq | hq
  · obtain ⟨its, r', pl, hz⟩ := I.list hq
    have hlen := r'.length
    exact Calls.call_len_list pl.isList (by simp only [List.size_toArray] <;> omega) ⟨.int ys.length, H, I.tok _, ⟨s.toks + 1, by rw [List.size_toArray, hlen]⟩, q⟩
  · obtain ⟨its, r', pl, hz⟩ := I.tuple hq
    have hlen := r'.length
    exact len_tuple pl (by simp only [List.size_toArray] <;> omega) ⟨.int ys.length, H, I.tok _, ⟨s.toks + 1, by rw [List.size_toArray, hlen]⟩, q⟩
theorem call_len_str : CallR X (.builtin "len") (fun xs H Q => ∃ z, xs = [.str z] ∧ z.length ≤ sizeLine ∧ Q (.int z.length) H) := by
  intro pins s σ H xs us Q I r h
  obtain ⟨z, rfl, hz, q⟩ := h
  obtain ⟨u, rfl, t, rfl⟩ := vals1 r
  have hn := line63
  exact len_str (by omega) ⟨.int z.length, H, I.tok _, ⟨_, rfl⟩, q⟩
theorem call_list_of : CallR X (.type "list") (fun xs H Q => ∃ p ys, xs = [.ref p] ∧ (SqL X.K H p ys ∨ SqT X.K H p ys) ∧ ∀ l, H l = none → Q (.ref l) (upd H l (.lst ys))) := by
  intro pins s σ H xs us Q I r h
  obtain ⟨p, ys, rfl, hq, q⟩ := h
  obtain ⟨u, rfl, rx⟩ := vals1 r
  cases rx
  have fin : ∀ (its : List Value), Vals ys its → ys.length ≤ sizeLine → ∀ (h' : Heap) (c' : Nat), (∀ b o', s.heap.get? b = some o' → h'.get? b = some o') →
      h'.get? s.heap.objs.size = some { cls := .type "list", dict := none, data := .seq its.toArray c', slots := #[] } → EP X pins σ Q (.ref s.heap.objs.size) { s with heap := h' } := fun its r' hz h' c' kp e =>
    ⟨.ref s.heap.objs.size, _, I.laid (t' := s.toks) kp (Nat.le_refl _) (show ObjOk X.prog X.w _ h' _ (.lst ys) from ⟨hz, its, c', r', e⟩), rfl, q _ (I.hok.fresh (Nat.le_refl _))⟩
  rcases hq with hq | hq
  · obtain ⟨its, r', pl, hz⟩ := I.list hq
    have hlen := r'.length
    obtain ⟨o, ho, hc, n, hd⟩ := pl.isList
    exact call_list_seq p (.inl rfl) ho hc hd (fun h' c' kp e => fin its r' hz h' c' kp e) (by simp only [List.size_toArray] <;> omega)
  · obtain ⟨its, r', pl, hz⟩ := I.tuple hq
    have hlen := r'.length
    obtain ⟨o, ho, hc, n, hd⟩ := pl
    exact call_list_seq p (.inr rfl) ho hc hd (fun h' c' kp e => fin its r' hz h' c' kp e) (by simp only [List.size_toArray] <;> omega)

/-! ### the call of a builtin's method: o.m(..) -/
/-- the value is of that builtin type -/
def tyV (K : PySem.W.Frag) (T : String) (x : V) (H : Hp) : Prop := match x with
  | .str _ => T = "str"
  | .int _ => T = "int"
  | .ref p => (T = "list" ∧ ∃ xs, SqL K H p xs) ∨ (T = "tuple" ∧ ∃ o, K.lookup p = some o ∧ o.cls = .type "tuple" ∧ o.dict = none) ∨
      (T = "dict" ∧ ((∃ kvs, H p = some (.dK kvs)) ∨ ∃ kvs, H p = some (.dT kvs))) ∨ (T = "set" ∧ ∃ S n, H p = some (.set S n))
  | _ => False
theorem tyV_is {pins : List (Addr × Obj)} {σ : St} {H : Hp} {s : Shared} {T : String} {x : V} {v : Value} (I : Inv X pins σ H s) (r : RelV x v) (ty : tyV X.K T x H) :
    s.TypeIs v T ∧ ∀ a, v = .ref a → ∃ ob, s.heap.get? a = some ob ∧ ob.dict = none := by
  cases x with
  | str z =>
    obtain ⟨t, rfl⟩ := r
    cases (show T = "str" from ty)
    exact ⟨typeIs_str s z t, fun _ e => nomatch e⟩
  | int i =>
    obtain ⟨t, rfl⟩ := r
    cases (show T = "int" from ty)
    exact ⟨typeIs_int s i t, fun _ e => nomatch e⟩
  | ref p =>
    cases r
    rcases ty with ⟨rfl, xs, hq⟩ | ⟨rfl, o, hk, hc, hd⟩ | ⟨rfl, hk⟩ | ⟨rfl, S, n, hk⟩
    · obtain ⟨its, _, pl, _⟩ := I.list hq
      refine ⟨pl.isList.typeIs, fun a e => ?_⟩
      cases e
      obtain ⟨o, n, e, c, hd, _⟩ := pl
      exact ⟨o, e, hd⟩
    · refine ⟨⟨o, I.kIn p o hk, hc⟩, fun a e => ?_⟩
      cases e
      exact ⟨o, I.kIn _ o hk, hd⟩
    · have z : ∃ o, s.heap.get? p = some o ∧ o.ExactDict := by
        rcases hk with ⟨kvs, hk⟩ | ⟨kvs, hk⟩
        · obtain ⟨_, _, _, _, o, _, _, e, ex, _⟩ := I.hok p _ hk
          exact ⟨o, e, ex⟩
        · obtain ⟨_, _, _, _, o, _, _, e, ex, _⟩ := I.hok p _ hk
          exact ⟨o, e, ex⟩
      obtain ⟨o, e, ex⟩ := z
      refine ⟨⟨o, e, ex.1⟩, fun a e2 => ?_⟩
      cases e2
      exact ⟨o, e, ex.2.1⟩
    · obtain ⟨o, _, _, _, e, ex, _⟩ := I.hok p _ hk
      refine ⟨⟨o, e, ex.1⟩, fun a e2 => ?_⟩
      cases e2
      exact ⟨o, e, ex.2.1⟩
  | _ => exact False.elim ty
def tBM (K : PySem.W.Frag) (T : String) (r : V → List V → Hp → VK → Prop) (to : TE) (t : TA) : TE := fun σ H Q => to σ H fun x H1 => tyV K T x H1 ∧ t σ H1 fun xs H2 => r x xs H2 Q
variable {o e : Expr} {es : List Expr} {to : TE} {t : TA} {name : Str} {apos cpos : Pos} {T id : String} {r : V → List V → Hp → VK → Prop}
theorem pe_bm (pa : PlainAttrs T) (slot : Slot T name id) (hty : typeOf (.builtin id) = pure (.type "method_descriptor")) (hm : MtR X id r) (ho : PE X o to) (ha : PA X (e :: es) t)
    (hbase : attributeBase o name X.env (eval o X.env) = eval o X.env := by rfl)
    (hfew : ((backTo cpos (starEach (e :: es) X.env)).all (fun x => !x.1) && (backToKw cpos (keywordEach [] X.env)).all (fun x => x.1.isSome)
      && decide ((e :: es).length + ([] : List Keyword).length + (if ([] : List Keyword).isEmpty then 0 else 1) < 30)) = true := by rfl)
    (hline : (apos.endLine == cpos.line) = true := by rfl) (hs : starEach (e :: es) X.env = (false, eval e X.env) :: starEach es X.env := by rfl) (hplain : (backTo cpos (starEach es X.env)).any (·.1) = false := by rfl) :
    PE X (.Call (.Attribute o name apos) (e :: es) [] cpos) (tBM X.K T r to t) := by
  intro pins s σ H Q I h
  refine wpAny_Call_method_late hbase hfew hline rfl (thn (ho pins s σ H _ I h) fun v s1 ⟨x, H1, I1, r1, ty, q1⟩ => ?_)
  obtain ⟨h1, h2⟩ := tyV_is I1 r1 ty
  refine ⟨T, id, pa, slot, hty, h1, h2, ?_⟩
  have hA := ha cpos pins s1 σ H1 _ I1 q1
  rw [hs] at hA ⊢
  refine Calls.callWith_builtin (by show (false || (backTo cpos (starEach es X.env)).any (·.1)) = false; rw [hplain] <;> rfl) (Calls.evalArgs_plain ?_)
  exact thn hA fun us s2 ⟨vs, H2, I2, r2, q2⟩ => hm pins s2 σ H2 x vs v us Q I2 r1 r2 q2
/- xs.append(e), list.index on a module's tuple .. are MtR facts of 06m -/
end
end L2

namespace L2
open PySem PySem.Spec PyProof.Rows

def MtM (X : Cx) (id : String) (r : V → List V → Hp → VK → Prop) : Prop :=
  ∀ (pins : List (Addr × Obj)) (s : Shared) (σ : St) (H : Hp) (x : V) (xs : List V) (v : Value) (us : List Value) (Q : VK), Inv X pins σ H s → RelV x v → Vals xs us → r x xs H Q →
    wpAny (model X.prog X.w) X.A (call (.builtin id) (v :: us)) (EP X pins σ Q) X.xe s

/-! ### lists of values -/
theorem Vals.one : ∀ {x : V} {us : List Value}, Vals [x] us → ∃ u, us = [u] ∧ RelV x u
  | _, _, .cons r .nil => ⟨_, rfl, r⟩
theorem Vals.two : ∀ {x y : V} {us : List Value}, Vals [x, y] us → ∃ u v, us = [u, v] ∧ RelV x u ∧ RelV y v
  | _, _, _, .cons r (.cons q .nil) => ⟨_, _, rfl, r, q⟩
theorem Vals.eraseIdx : ∀ {xs : List V} {us : List Value} (i : Nat), Vals xs us → Vals (xs.eraseIdx i) (us.eraseIdx i)
  | _, _, _, .nil => .nil
  | _, _, 0, .cons _ t => t
  | _, _, i + 1, .cons r t => .cons r (Vals.eraseIdx i t)
theorem len_erase {α : Type} : ∀ (l : List α) (i : Nat), (l.eraseIdx i).length ≤ l.length
  | [], _ => Nat.le_refl _
  | _ :: _, 0 => Nat.le_succ _
  | _ :: r, i + 1 => Nat.succ_le_succ (len_erase r i)

section
variable {X : Cx} {pins : List (Addr × Obj)} {σ : St} {H : Hp} {s : Shared} {l b : Addr} {xs ys zs : List V}

/-! ### the two steps: a tracked list is rewritten, a new list is laid -/
theorem Inv.lset {its its' : List Value} {n : Nat} {f : Array Value → Array Value} {t' : Nat} (I : Inv X pins σ H s) (hH : H l = some (.lst xs))
    (e : s.heap.get? l = some { cls := .type "list", data := .seq its.toArray n }) (hf : f its.toArray = its'.toArray) (hv : Vals ys its') (hz : ys.length ≤ sizeLine) (ht : 0 < t' := by (first | assumption | exact Nat.succ_pos _ | exact Inv.tk (by assumption) | exact Nat.lt_of_lt_of_le (Inv.tk (by assumption)) (Nat.le_add_right _ _) | exact Nat.lt_of_lt_of_le (Inv.tk (by assumption)) (by assumption))) :
    Inv X pins σ (upd H l (.lst ys)) { s with heap := s.heap.update l (Obj.mapSeq f), toks := t' } := by
  have q := PySem.IsL.update e f
  rw [hf] at q
  refine I.write (x := l) (e := l) (by rw [hH]; exact trivial) (.inl rfl) (fun b' u hb hu => (Heap.get?_update_other s.heap (Obj.mapSeq f) (Ne.symm hb)).trans hu) ⟨_, q⟩ ?_
  exact ⟨hz, its', _, hv, q⟩
theorem Inv.lnew {its : List Value} {t' : Nat} (I : Inv X pins σ H s) (hv : Vals ys its) (hz : ys.length ≤ sizeLine) (ht : 0 < t' := by (first | assumption | exact Nat.succ_pos _ | exact Inv.tk (by assumption) | exact Nat.lt_of_lt_of_le (Inv.tk (by assumption)) (Nat.le_add_right _ _) | exact Nat.lt_of_lt_of_le (Inv.tk (by assumption)) (by assumption))) :
    Inv X pins σ (upd H s.heap.objs.size (.lst ys)) { s with heap := s.heap.push { cls := .type "list", data := .seq its.toArray }, toks := t' } :=
  I.laid (fun _ _ q => Heap.get?_push_of_some _ q) (Nat.le_refl _) ⟨hz, its, 0, hv, Heap.get?_push_size _ rfl⟩
theorem Inv.fresh (I : Inv X pins σ H s) : H s.heap.objs.size = none := I.hok.fresh (Nat.le_refl _)
theorem Inv.lstM (I : Inv X pins σ H s) (hH : H l = some (.lst xs)) : xs.length ≤ sizeLine ∧ ∃ (its : List Value) (n : Nat), Vals xs its ∧ xs.length = its.length ∧ s.heap.get? l = some { cls := .type "list", data := .seq its.toArray n } := by
  obtain ⟨z, its, n, r, e⟩ := I.hok l _ hH
  exact ⟨z, its, n, r, r.length, e⟩

theorem notLongL {n : Nat} (h : n ≤ sizeLine) : Builtin.List.listTooLong n = false := by
  unfold Builtin.List.listTooLong
  exact decide_eq_false (by omega)
end

section
variable {X : Cx}

/-! ### methods -/

def rExtend : V → List V → Hp → VK → Prop := fun x vs H Q => ∃ l b xs zs, x = .ref l ∧ vs = [.ref b] ∧ H l = some (.lst xs) ∧ H b = some (.lst zs) ∧ xs.length + zs.length ≤ sizeLine ∧ Q .non (upd H l (.lst (xs ++ zs)))
theorem mt_extend : MtM X "list.extend" rExtend := by
  intro pins s σ H x vs v us Q I rx rv h
  obtain ⟨l, b, xs, zs, rfl, rfl, hH, hB, hz, q⟩ := h
  cases rx
  obtain ⟨u, rfl, ru⟩ := rv.one
  cases ru
  obtain ⟨z, its, n, r, hl, e⟩ := I.lstM hH
  obtain ⟨z2, its2, n2, r2, hl2, e2⟩ := I.lstM hB
  have hsz : its.toArray.size + its2.toArray.size ≤ sizeLine := by rw [List.size_toArray, List.size_toArray]; omega
  have hlong : ¬ (!its.toArray.isEmpty && Builtin.List.listTooLong (its.toArray.size + its2.toArray.size)) = true := by
    rw [notLongL hsz, Bool.and_false]
    exact Bool.false_ne_true
  refine call_meets F.slot_list_extend ⟨_, e, rfl⟩ F.entry_list_extend (F.args_list_extend_2 _ _)
    (AutoSeq1.list_extend_list_list_0 l its.toArray n b its2.toArray n2 hlong (by rw [List.size_toArray]; omega) (by omega)) ⟨e, e2, ?_⟩
  refine ⟨.non, _, I.lset (its' := its ++ its2) hH e (by simp) (r.append r2) ?_, rfl, q⟩
  rw [List.length_append]
  omega


def rPopAt : V → List V → Hp → VK → Prop := fun x vs H Q => ∃ l xs i k y, x = .ref l ∧ vs = [.int i] ∧ H l = some (.lst xs) ∧ -(2 ^ 63) ≤ i ∧ i < 2 ^ 63 ∧ seqIndex? i xs.length = some k ∧ xs[k]? = some y ∧ Q y (upd H l (.lst (xs.eraseIdx k)))
theorem mt_popAt : MtM X "list.pop" rPopAt := by
  intro pins s σ H x vs v us Q I rx rv h
  obtain ⟨l, xs, i, k, y, rfl, rfl, hH, h1, h2, hk, hy, q⟩ := h
  cases rx
  obtain ⟨u, rfl, ru⟩ := rv.one
  obtain ⟨t, rfl⟩ := ru
  obtain ⟨z, its, n, r, hl, e⟩ := I.lstM hH
  obtain ⟨w, hw, rw'⟩ := r.get hy
  refine call_meets F.slot_list_pop ⟨_, e, rfl⟩ F.entry_list_pop (F.args_list_pop_2 _ _)
    (MeetsSeq.list_pop_at l its.toArray n i t k w (fitsIndex_both h1 h2) (by rw [List.size_toArray, ← hl]; exact hk) (by rw [← Array.getElem?_toList]; exact hw) (by rw [List.size_toArray]; omega)) ⟨e, ?_⟩
  refine ⟨y, _, I.lset (its' := its.eraseIdx k) hH e ?_ (r.eraseIdx k) ?_, rw', q⟩
  · show its.toArray.eraseIdxIfInBounds k = (its.eraseIdx k).toArray
    rw [List.eraseIdxIfInBounds_toArray]
  · have := len_erase xs k
    omega



/-! ### list + list, list += list, list * int -/
def rCat : R2 := fun x y H Q => ∃ l b xs zs, x = .ref l ∧ y = .ref b ∧ H l = some (.lst xs) ∧ H b = some (.lst zs) ∧ xs.length + zs.length ≤ sizeLine ∧ ∀ p, H p = none → Q (.ref p) (upd H p (.lst (xs ++ zs)))
theorem op_cat : OpR X (binaryOp .Add) rCat := by
  intro pins s σ H x y v u Q I rx ry h
  obtain ⟨l, b, xs, zs, rfl, rfl, hH, hB, hz, q⟩ := h
  cases rx
  cases ry
  obtain ⟨z, its, n, r, hl, e⟩ := I.lstM hH
  obtain ⟨z2, its2, n2, r2, hl2, e2⟩ := I.lstM hB
  refine PySem.P.add_list e e2 ?_ (by rw [List.size_toArray, List.size_toArray]; omega)
  have ea : its.toArray ++ its2.toArray = (its ++ its2).toArray := by simp
  rw [ea]
  exact ⟨.ref _, _, I.lnew (t' := s.toks) (r.append r2) (by rw [List.length_append]; omega), rfl, q _ I.fresh⟩

/-! ### del xs[i] -/
end

/-! ### xs[a:b] = ys -/
section
variable {prog : Program} {w : World} {A : Around} {E : Value → Shared → Prop} {s : Shared}
set_option maxRecDepth 100000 in
end

section
variable {X : Cx}
end
end L2

namespace Att
open PySem PySem.W PySem.Calls PyProof.Rows

/-! ### the script -/
theorem ints_of_wellAll {P : Params} {h : Heap} : ∀ (ns : List Int) (vs : List Value), WellAll P h vs (ns.map WData.int) → IntsAre vs ns := by
  intro ns
  induction ns with
  | nil =>
    intro vs w
    rw [List.map_nil] at w
    cases w
    exact .nil
  | cons n ns ih =>
    intro vs w
    rw [List.map_cons] at w
    cases w with
    | cons a b =>
      cases a
      exact .cons _ _ (ih _ b)

theorem script_of {l : OpenLaw} {n : Nat} (hn : l.most = some n) {P : Params} {h : Heap} {args : List WData} {vals : List Value}
    (hpre : l.row.toRowW.claim.pre args = true) (hwl : WellAll P h vals args) :
    ∃ a vs ns, vals = [Value.ref a] ∧ args = [WData.list (ns.map WData.int)] ∧ h.get? a = some { cls := .type "list", data := .seq vs.toArray } ∧ IntsAre vs ns ∧ ns.length ≤ n := by
  have hsh : WShape.hasAll [] args [.list .int] = true := (pre_splitW hpre).1
  have hc : l.pre.holds [] { args := args } = true := (pre_splitW hpre).2
  obtain ⟨d, r, rfl, h1, h2⟩ := hasAllW_cons hsh
  obtain rfl := hasAllW_nil h2
  obtain ⟨xs, rfl, h3⟩ := hasW_list h1
  obtain ⟨ns, rfl⟩ := items_int h3
  have hlen : ns.length ≤ n := by
    unfold OpenLaw.pre at hc
    have h4 : (WTm.not (.lt (.lit (.int (n : Int))) (.len (.arg 0)))).holds [] { args := [.list (ns.map .int)] } = true := by
      have h4 := (holds_andW hc).1
      rw [hn] at h4
      exact h4
    have h5 := condW_of h4 (w_not (w_lt w_lit (w_len_list (w_arg rfl))))
    rw [List.length_map] at h5
    refine Nat.le_of_not_lt fun q => ?_
    have q' : (n : Int) < ((ns.length : Nat) : Int) := by omega
    first
      | (rw [decide_eq_true q'] at h5; exact absurd h5 (by decide))
      | (simp at h5; omega)
  cases hwl with
  | cons w1 w2 =>
    cases w2
    cases w1 with
    | list ho hall => exact ⟨_, _, ns, rfl, rfl, ho, ints_of_wellAll ns _ hall, hlen⟩

theorem post_true (l : OpenLaw) (args : List WData) : l.row.toRowW.claim.post args (.bool true) args = true :=
  postW_of (r := l.row.toRowW) (X := (true == true))
    (show WShape.has [] (.bool true) .bool = true by first | rfl | decide | simp [WShape.has, WShape.arms, WShape.armsAll])
    (show (WTm.eq .res (.lit (.bool true))).value [] { args := args, res := some (.bool true), after := args } = some (.bool (true == true)) from w_eq_bool (w_res rfl) w_lit) rfl

/-! ### the attachment: holds_open's last premise (the goal 'hc' behind k_head) from a wpAny of the law's body -/


theorem attach_callZ {l : OpenLaw} {n : Nat} {q : Program} {loose : List Str} {XP : (Str → Option Value) → Heap → Prop} {as0 : List Addr} {N t : Nat} {K : Params → Frag} {d : DefRec}
    (hn : l.most = some n) (hdf : d.params.defaults = []) (ek : ∀ P, as0 = (K P).map (·.1)) (htk : 0 < t)
    (call : ∀ (w : World) (s₀ s₁ : Shared) (mg mb : Str → Option Value) (fa : Addr) (o : Obj) (pm cd doc : Value) (a : Addr) (vs : List Value) (ns : List Int),
      Ground q loose [] XP w s₀ mg mb s₁.heap → (K w.params).In s₁.heap → 0 < s₁.toks →
      s₁.heap.get? fa = some o → o.data = .func (docDef d.name d.params d.body d.scope pm cd doc) → s₁.heap.CodeRec cd d.name → mg d.name = some (.ref fa) →
      s₁.heap.get? a = some { cls := .type "list", data := .seq vs.toArray } → IntsAre vs ns → ns.length ≤ n → s₁.gens = #[] →
      codeAny (model l.prog w) callerA (.call (.ref fa) ⟨[.ref a], []⟩) (fun r s' => r = .ok (.ret (.bool true)) ∧ OldK s₁.heap s'.heap ∧ s'.os = s₁.os ∧ AllBare s'.gens) s₁) :
    WalkX q loose XP (X.obsZ as0) (X.valZ K N t) l.row.toRowW d [] (fun f vs => PySem.call f vs) := by
  intro w s₀ s₁ mg mb G Y fa o pm cd doc dV kV ho hd hcd hD hmg hg args vals as L hpre hlay hrd hwl hlo
  obtain rfl : dV = .none := Dflts.none hD hdf
  obtain rfl : kV = .none := Dflts.noKw hD
  obtain ⟨a, vs, ns, rfl, rfl, hobj, hints, hlen⟩ := script_of hn hpre hwl
  obtain ⟨_, zi, _, zt⟩ := X.z_facts ek Y
  have eP : ∀ ns : List Int, ofPy (PyData.list (ns.map PyData.int)) = WData.list (ns.map WData.int) := fun ns => by
    simp only [ofPy]
    congr 1
    induction ns with
    | nil => simp [ofPys]
    | cons n r ih => simp only [List.map_cons, ofPys, ofPy, ih]
  rw [← eP] at L
  have KX := InK.keeps w s₀.heap s₁.heap zi L.keeps
  have tk1 : 0 < s₁.toks := Nat.lt_of_lt_of_le htk (X.script_toks L zt)
  refine enter_call (codeAny_mono (call w s₀ s₁ mg mb fa o pm cd doc a vs ns G KX tk1 ho (fd_plain hd) hcd hmg hobj hints hlen hg) fun r s' hq => ?_)
  obtain ⟨rfl, h2, h3, h4⟩ := hq
  exact ⟨.inl ⟨.bool true, .bool true, [], rfl, fun _ => rfl, .bool true, post_true l _, fun _ => ⟨List.Pairwise.nil, fun _ hm => (nomatch hm)⟩⟩, h2, h3, h4⟩


/-! ### rules over ANY heap (no ledger) from facts about the written part K: the library's own take a ledger (News) for what they write -/
section
variable {prog : Program} {w : World} {A : Around} {E : Value → Shared → Prop} {s : Shared} {K : Frag}





/-! the whole heap as the ledger: makes every rule that writes through a ledger a rule over any heap -/

end
end Att

namespace L2
open PySem PySem.Spec PyProof.Rows

theorem vals_ints : ∀ {vs : List Value} {ns : List Int}, IntsAre vs ns → Vals (ns.map V.int) vs
  | _, _, .nil => .nil
  | _, _, .cons n t h => .cons ⟨t, rfl⟩ (vals_ints h)

/-- nothing is tracked but the script, known to the object (or it is an object of the module) -/
def Only (H : Hp) : Prop := ∀ b, H b = none ∨ ∃ o xs, H b = some (.frz o (.lst xs))

/-- THE HEAD: the law's promise, at the heap behind the top. F, the promise of the law's def, may use that base is part of the heap (so K.In base, base.Ns mainGlobals mg stand in Mod) -/
theorem law_call {P : Program} {w : World} {K : PySem.W.Frag} {mg mb : Str → Option Value} {CX : CXT} {k : Nat} {fa a : Addr} {fd : FuncData} {x : Str} {sp : Sp} {s₁ : Shared} {vs : List Value} {ns : List Int}
    (KX : K.In s₁.heap) (hns : s₁.heap.Ns mainGlobals mg) (hb : s₁.heap.Ns builtinsNs mb) (hbb : ∀ x : Str, x ≠ "__name__" → mb x = bootBuiltins x) (hlim : s₁.heap.NoLimit) (hg : s₁.gens = #[]) (htk : 0 < s₁.toks)
    (ha : s₁.heap.get? a = some { cls := .type "list", data := .seq vs.toArray }) (hi : IntsAre vs ns) (hl : ns.length ≤ sizeLine) (hr : Room k callerA)
    (F : ∀ base : Heap, K.In base → base.Ns mainGlobals mg → FnOk P w K mg base CX k fa fd [x] sp) (hbind : ∀ (s : Shared) (u : Value), BindsTo s fd ⟨[u], []⟩ [(x, u)])
    (hsp : ∀ H : Hp, Only H → SqL K H a (ns.map V.int) → sp [.ref a] H (fun v _ => v = .bl true) fun _ _ _ => False)
    (hCX : ∀ H e s', CX [] H s₁ (fun _ _ _ => False) e s' → False) :
    codeAny (model P w) callerA (.call (.ref fa) ⟨[.ref a], []⟩) (fun r s' => r = .ok (.ret (.bool true)) ∧ OldK s₁.heap s'.heap ∧ s'.os = s₁.os ∧ AllBare s'.gens) s₁ := by
  have rv := vals_ints hi
  have lenV := hi.length
  -- from an abstract heap in which nothing but the script may be tracked
  have core : ∀ H : Hp, Only H → SqL K H a (ns.map V.int) → HOk P w H s₁.heap → (∀ b, H b ≠ none → b = a) → (H a ≠ none → K.lookup a = none) →
      codeAny (model P w) callerA (.call (.ref fa) ⟨[.ref a], []⟩) (fun r s' => r = .ok (.ret (.bool true)) ∧ OldK s₁.heap s'.heap ∧ s'.os = s₁.os ∧ AllBare s'.gens) s₁ := by
    intro H hO hS hok hA hK
    have base_of : ∀ {b : Addr} {o : Obj}, s₁.heap.get? b = some o → H b = none → (hidT s₁.heap H).get? b = some o := fun e n => hidT_get e n
    have noA : ∀ {b : Addr} {o : Obj} {es : Array DictEntry} {ep : Nat}, s₁.heap.get? b = some o → o.data = .dict es ep → H b = none := fun {b o es ep} e d => by
      cases q : H b with
      | none => rfl
      | some u =>
        have e' : b = a := hA b (by rw [q]; simp)
        subst e'
        rw [ha] at e; cases e
        have d' : Data.seq vs.toArray _ = Data.dict es ep := d
        cases d'
    have nsK : ∀ {b : Addr} {m : Str → Option Value}, s₁.heap.Ns b m → (hidT s₁.heap H).Ns b m := fun {b m} ⟨o, es, ep, e, d, r⟩ => ⟨o, es, ep, base_of e (noA e d), d, r⟩
    have hKb : K.In (hidT s₁.heap H) := fun b o e => base_of (KX b o e) (by
      cases q : H b with
      | none => rfl
      | some u =>
        have e' : b = a := hA b (by rw [q]; simp)
        subst e'
        rw [hK (by rw [q]; simp)] at e; cases e)
    have hM : Mod K mg (hidT s₁.heap H) := ⟨hKb, nsK hns, ⟨mb, nsK hb, hbb⟩, let ⟨mc, h1, h2⟩ := hlim; ⟨mc, nsK h1, h2⟩⟩
    have e0 : Env0 P w K mg (hidT s₁.heap H) callerA [] s₁ H := ⟨rfl, hM, fun b o e => of_hidT e, Nat.le_of_eq (hidT_size _ _), trivial, fun b hb => absurd (show b ∈ ([] : List Addr) from hb) (by simp), hok, .of_eq hg, htk⟩
    refine codeAny_mono ((F _ hKb (nsK hns)).run callerA [] s₁ H ⟨[.ref a], []⟩ [.ref a] [.ref a] _ _ hr e0 (hbind s₁ (.ref a)) (.cons rfl .nil) (hsp H hO hS)) fun r s' h => ?_
    cases r with
    | error e => exact (hCX H e s' h).elim
    | ok fl =>
      cases fl with
      | next => exact False.elim h
      | brk => exact False.elim h
      | cont => exact False.elim h
      | ret u =>
        obtain ⟨v, H', os, bare, un, hok', r', q, _⟩ := h
        have q' : v = .bl true := q
        subst q'
        obtain rfl : u = Value.bool true := r'
        refine ⟨rfl, OldK.of_keep fun b o e => ?_, os, bare⟩
        cases q : H b with
        | none => exact un.keep b o e q (by intro z; exact absurd (show b ∈ ([] : List Addr) from z) (by simp)) (by simp)
        | some u =>
          rcases hO b with z | ⟨ob, xs, z⟩
          · rw [q] at z; cases z
          · have z2 := un.frzs b ob _ z
            obtain ⟨e1, _⟩ := hok b _ z
            obtain ⟨e2, _⟩ := hok' b _ z2
            rw [e] at e1; cases e1
            exact e2
  cases hk : K.lookup a with
  | some o =>
    -- the script is one of the module's own objects
    have e := KX a o hk
    rw [ha] at e
    cases e
    refine core (fun _ => none) (fun _ => .inl rfl) (.inr ⟨_, vs.toArray, _, hk, rfl, rfl, rfl, by rw [List.size_toArray, lenV]; exact hl, by simpa using rv⟩) (fun b u z => by have z' : (none : Option HO) = some u := z; cases z') (fun b z => absurd rfl z) fun z => absurd rfl z
  | none =>
    refine core (fun b => if b = a then some (.frz { cls := .type "list", data := .seq vs.toArray } (.lst (ns.map V.int))) else none) (fun b => ?_) (.inl (.inr ⟨{ cls := .type "list", data := .seq vs.toArray }, if_pos rfl⟩)) (fun b u z => ?_) (fun b z => ?_) fun _ => hk
    · by_cases hb : b = a
      · exact .inr ⟨_, _, if_pos hb⟩
      · exact .inl (if_neg hb)
    · by_cases hb : b = a
      · have z' := (if_pos hb).symm.trans z
        cases z'
        subst hb
        exact ⟨ha, by rw [List.length_map]; exact hl, vs, _, rv, ha⟩
      · have z' := (if_neg hb).symm.trans z
        cases z'
    · by_cases hb : b = a
      · exact hb
      · exact absurd (if_neg hb) z
end L2

namespace L2
open PySem PySem.Spec PyProof.Rows


theorem walk_ofZ {l : PySem.W.OpenLaw} {n k : Nat} {q : Program} {loose : List Str} {XP : (Str → Option Value) → Heap → Prop} {as0 : List Addr} {N t : Nat} {d : DefRec} {K : Params → PySem.W.Frag} {CX : CXT} {sp : PySem.W.Frag → Sp} {x : Str}
    (hn : l.most = some n) (hn2 : n ≤ sizeLine) (hdf : d.params.defaults = []) (hr : Room k callerA) (ek : ∀ P, as0 = (K P).map (·.1)) (htk : 0 < t)
    (F : ∀ (w : World) (mg : Str → Option Value) (fa : Addr) (h : Heap), (K w.params).In h → h.Ns mainGlobals mg → mg d.name = some (.ref fa) →
      ∃ fd : FuncData, (∀ (s : Shared) (u : Value), BindsTo s fd ⟨[u], []⟩ [(x, u)]) ∧
        ∀ base : Heap, (K w.params).In base → base.Ns mainGlobals mg → FnOk l.prog w (K w.params) mg base CX k fa fd [x] (sp (K w.params)))
    (hsp : ∀ (K : PySem.W.Frag) (H : Hp) (a : Addr) (ns : List Int), ns.length ≤ n → Only H → SqL K H a (ns.map V.int) → sp K [.ref a] H (fun v _ => v = .bl true) fun _ _ _ => False)
    (hCX : ∀ (H : Hp) (s : Shared) (e : Value) (s' : Shared), CX [] H s (fun _ _ _ => False) e s' → False) :
    PySem.W.WalkX q loose XP (PySem.W.X.obsZ as0) (PySem.W.X.valZ K N t) l.row.toRowW d [] (fun f vs => PySem.call f vs) := by
  refine Att.attach_callZ hn hdf ek htk fun w s₀ s₁ mg mb fa o pm cd doc a vs ns G KX tk ho hd hcd hmg hobj hints hlen hg => ?_
  obtain ⟨fd, hb, hF⟩ := F w mg fa _ KX G.T.g hmg
  exact law_call KX G.T.g G.T.b G.T.builtins G.T.nolimit hg tk hobj hints (Nat.le_trans hlen hn2) hr hF hb (fun H hO hS => hsp (K w.params) H a ns hlen hO hS) fun H e s' => hCX H s₁ e s'
end L2



/-! SHORT WORDS over the layer: a def of the text, its body, what a loop and a test want. -/
namespace L2
open PySem PySem.Spec PyProof.Rows

/-! ### the text by places -/
def defArgs (s : Stmt) : Arguments := match s with
  | .FunctionDef _ a _ _ _ _ _ _ _ _ => a
  | _ => { posonlyargs := [], args := [], vararg := none, kwonlyargs := [], kw_defaults := [], kwarg := none, defaults := [] }
def defBody (s : Stmt) : List Stmt := match s with
  | .FunctionDef _ _ b _ _ _ _ _ _ _ => b
  | _ => []
def defScope (s : Stmt) : Scope := match s with
  | .FunctionDef _ _ _ _ _ _ sc _ _ _ => sc
  | _ => { kind := .function, names := [], isGenerator := false, isCoroutine := false }

/-! ### no exception leaves a def -/
abbrev CX0 : CXT := fun _ _ _ _ _ _ => False
abbrev E0 : XK := fun _ _ _ => False
theorem pass0 {X : Cx} : Passes CX0 X E0 := fun _ _ _ _ _ _ _ h => h.elim

/-! ### a def (or method) of the text as it stands behind the top -/
structure Fun (K : PySem.W.Frag) (x qual : Str) (st : Stmt) (f : Addr) (fd : FuncData) : Prop where
  ex : ∃ (oc : Value) (od : Option Addr) (kV doc pm : Value) (an : Option Addr) (cdv ct : Value) (osl : Array (Option Value)),
    fd = PySem.W.fnOf x qual (defArgs st) (defBody st) (defScope st) .none kV doc pm an cdv ct ∧ K.lookup f = some ⟨oc, od, .func fd, osl⟩ ∧ PySem.W.codeIn K cdv qual = true
  kp : PySem.W.keepIn K (.ref f) = true
section
variable {P : Program} {w : World} {K : PySem.W.Frag} {mg : Str → Option Value} {base : Heap}
/-- THE RULE for a def: its body as a term of rules, and the reading of that term -/
theorem Fun.ok {x qual : Str} {st : Stmt} {f : Addr} {fd : FuncData} {N ps : List Str} {k : Nat} {sp : Sp} (F : Fun K x qual st f fd) (S : FnScope N ps (defScope st)) (len : ∀ vs H Q E, sp vs H Q E → vs.length = ps.length)
    (hbody : ∀ (cdv : Value) (A : Around) (outer : List Env) (s : Shared) (H : Hp) (vs : List V) (Q : VK) (E : XK), Room k (A.deeper (envOfC qual (defScope st) s.heap.objs.size f cdv)) → sp vs H Q E →
      ∃ t, PSs (cxOf CX0 P w K mg base N qual (defScope st) f cdv A outer s H E).nox (defBody st) t ∧ t { nx := fun _ H' => Q .non H', rt := Q } (start N vs) H) : FnOk P w K mg base CX0 (k + 1) f fd ps sp := by
  obtain ⟨oc, od, kV, doc, pm, an, cdv, ct, osl, rfl, lk, hcd⟩ := F.ex
  refine fn_of lk hcd S len fun A outer s H vs Q E hr hsp => ?_
  obtain ⟨t, h, q⟩ := hbody cdv A outer s H vs Q E hr hsp
  exact ⟨t, h.nox, q⟩
theorem fun_mk {x qual : Str} {st : Stmt} {f : Addr} {oc : Value} {od an : Option Addr} {osl : Array (Option Value)} {kV doc pm cdv ct : Value} (l : K.lookup f = some ⟨oc, od, .func (PySem.W.fnOf x qual (defArgs st) (defBody st) (defScope st) .none kV doc pm an cdv ct), osl⟩)
    (c : PySem.W.codeIn K cdv qual = true) (k : PySem.W.keepIn K (.ref f) = true) : Fun K x qual st f (PySem.W.fnOf x qual (defArgs st) (defBody st) (defScope st) .none kV doc pm an cdv ct) := ⟨⟨oc, od, kV, doc, pm, an, cdv, ct, osl, rfl, l, c⟩, k⟩
end
theorem small1000 {n : Nat} (h : n ≤ 1000) : n < sizeLine := Nat.lt_of_le_of_lt h (by decide)

/-! ### expressions in short: the name that stands in the i-th slot -/
section
variable {X : Cx}
theorem pv (i : Nat) {x : Str} {pos : Pos} (hN : X.N[i]? = some x := by rfl) (hv : Vis X.env.scope x := by first | exact Or.inl rfl | exact Or.inr (Or.inl rfl) | exact Or.inr (Or.inr rfl)) (hd : (x == ("__debug__" : Str)) = false := by decide)
    (hcd : (x == ("__classdict__" : Str)) = false := by decide) : PE X (.Name x pos) (tVar i) := pe_var hN hv hd hcd
end

/-! ### tests -/

/-! ### heaps -/

/-! ### a dict's pairs: keys that differ -/
section
variable {κ : Type} [DecidableEq κ]
end
end L2

set_option maxHeartbeats 8000000

namespace L2
open PySem PySem.Spec PyProof.Rows
/-! ### one rule for each sign of the language, by what stands there -/
section
variable {X : Cx}
def uAdd : R2 := fun x y H Q => match x, y with
  | .int i, .int j => Q (.int (i + j)) H
  | .str a, .str b => a.length + b.length ≤ sizeLine ∧ Q (.str (a ++ b)) H
  | .ref l, .ref b => ∃ xs zs, H l = some (.lst xs) ∧ H b = some (.lst zs) ∧ xs.length + zs.length ≤ sizeLine ∧ ∀ p, H p = none → Q (.ref p) (upd H p (.lst (xs ++ zs)))
  | _, _ => False
theorem op_uAdd : OpR X (binaryOp .Add) uAdd := by
  intro pins s σ H x y v u Q I rx ry h
  cases x <;> cases y <;> first
    | exact False.elim h
    | exact op_add pins s σ H _ _ v u Q I rx ry ⟨_, _, rfl, rfl, h⟩
    | exact op_add_str pins s σ H _ _ v u Q I rx ry ⟨_, _, rfl, rfl, h.1, h.2⟩
    | (obtain ⟨xs, zs, h1, h2, h3, h4⟩ := h; exact op_cat pins s σ H _ _ v u Q I rx ry ⟨_, _, xs, zs, rfl, rfl, h1, h2, h3, h4⟩)

/-- a dict of the module's top -/
def KD (K : PySem.W.Frag) (P : Program) (w : World) (a : Addr) (kvs : List (Key × V)) : Prop :=
  (a == sysModules) = false ∧ kvs.length ≤ sizeLine ∧ ∀ h : Heap, K.In h → ∃ vs, KV kvs vs ∧ h.DictOf (mixKind P w) a vs
/-- x[y]: a text, a list, a tuple by a place; a dict by a key -/
def uIx (K : PySem.W.Frag) (P : Program) (w : World) : R2 := fun x y H Q => match x, y with
  | .str z, .int i => z.length ≤ sizeLine ∧ ∃ c, atI z.cps.toList i = some c ∧ Q (.str ⟨#[c]⟩) H
  | .ref p, .int i => ∃ xs v, (SqL K H p xs ∨ SqT K H p xs) ∧ atI xs i = some v ∧ Q v H
  | .ref p, .str k => ∃ kvs v, (Rd H p (.dK kvs) ∨ KD K P w p kvs) ∧ valV kvs (Sum.inr k) = some v ∧ Q v H
  | _, _ => False
theorem d_tail {value slice : Expr} {pins : List (Addr × Obj)} {s : Shared} {σ : St} {H : Hp} {a : Addr} {u : Value} {vs : List (Key × Value)} {k : Key} {w' : Value} {v : V} {Q : VK} (I : Inv X pins σ H s) (dd : s.heap.DictOf (mixKind X.prog X.w) a vs) (hk : keyIs k u = true)
    (hw : valueAt vs k = some w') (r : RelV v w') (q : Q v H) (hs : subscripted slice false (.ref a) u = operate [.ref a, u] (getItem (.ref a) u)) : wpAny (model X.prog X.w) X.A (subscriptTail value slice (.ref a) u) (EP X pins σ Q) X.xe s :=
  tail_any dd.typeIs PySem.F.slot_dict_getitem.lookup (wpAny_getItem_of hk dd.mapOf hw ⟨v, H, I.tok _, r, q⟩) hs
theorem ix_u : IxR X (uIx X.K X.prog X.w) := by
  intro value slice pins s σ H x y v u Q I rx ry q hs
  cases x with
  | str z =>
    cases y with
    | int i =>
      obtain ⟨h1, c, h2, h3⟩ := q
      exact ix_str value slice pins s σ H _ _ v u Q I rx ry ⟨z, i, c, rfl, rfl, h1, h2, h3⟩ hs
    | _ => exact q.elim
  | ref p =>
    cases y with
    | int i =>
      obtain ⟨xs, w', h1, h2, h3⟩ := q
      rcases h1 with h1 | h1
      · exact ix_list value slice pins s σ H _ _ v u Q I rx ry ⟨p, xs, i, w', rfl, rfl, h1, h2, h3⟩ hs
      · exact ix_tup value slice pins s σ H _ _ v u Q I rx ry ⟨p, xs, i, w', rfl, rfl, h1, h2, h3⟩ hs
    | str k =>
      obtain ⟨kvs, w', h1, h2, h3⟩ := q
      have ry' : RelV (kV (Sum.inr k)) u := ry
      cases (show v = Value.ref p from rx)
      rcases h1 with h1 | h1
      · obtain ⟨z, hd, vs, rel, dd⟩ := dk_rd I.hok h1
        obtain ⟨w2, hw, rw'⟩ := RelO.some_of (v := w') (o := valueAt vs (Sum.inr k)) (by rw [← h2]; exact rel.val _)
        exact d_tail I dd (kV_is (P := X.prog) (w := X.w) ry') hw rw' h3 hs
      · obtain ⟨hd, z, dd⟩ := h1
        obtain ⟨vs, rel, dd⟩ := dd s.heap I.kIn
        obtain ⟨w2, hw, rw'⟩ := RelO.some_of (v := w') (o := valueAt vs (Sum.inr k)) (by rw [← h2]; exact rel.val _)
        exact d_tail I dd (kV_is (P := X.prog) (w := X.w) ry') hw rw' h3 hs
    | _ => exact q.elim
  | _ => cases y <;> exact q.elim

/-- len -/
def uLen (K : PySem.W.Frag) : List V → Hp → VK → Prop := fun xs H Q => match xs with
  | [.str z] => z.length ≤ sizeLine ∧ Q (.int z.length) H
  | [.ref p] => ∃ ys, (SqL K H p ys ∨ SqT K H p ys) ∧ Q (.int ys.length) H
  | _ => False
theorem call_uLen : CallR X (.builtin "len") (uLen X.K) := by
  intro pins s σ H xs us Q I r h
  match xs, h with
  | [.str z], h => exact call_len_str pins s σ H _ us Q I r ⟨z, rfl, h.1, h.2⟩
  | [.ref p], h =>
    obtain ⟨ys, h1, h2⟩ := h
    exact call_len_seq pins s σ H _ us Q I r ⟨p, ys, rfl, h1, h2⟩


/-! ### data, and == of it -/
inductive Da where
  | s (v : V)
  | tup (xs : List Da)
  | lst (xs : List Da)
mutual
def Da.eq : Da → Da → Bool
  | .s v, .s w => eqV v w
  | .tup xs, .tup ys => Da.eqs xs ys
  | .lst xs, .lst ys => Da.eqs xs ys
  | _, _ => false
def Da.eqs : List Da → List Da → Bool
  | [], [] => true
  | x :: xs, y :: ys => Da.eq x y && Da.eqs xs ys
  | _, _ => false
end
def RepN (K : PySem.W.Frag) (H : Hp) : Nat → V → Da → Prop
  | 0, v, d => d = .s v ∧ flatV v = true
  | n + 1, v, d => (d = .s v ∧ flatV v = true) ∨ (∃ a xs ds, v = .ref a ∧ d = .tup ds ∧ SqT K H a xs ∧ Paired (RepN K H n) xs ds) ∨ (∃ a xs ds, v = .ref a ∧ d = .lst ds ∧ SqL K H a xs ∧ Paired (RepN K H n) xs ds)
theorem Da.eqs_range : ∀ (ds es : List Da), ((List.range (min ds.length es.length)).all (fun j => Da.eq (ds.getD j (.s .non)) (es.getD j (.s .non))) && ds.length == es.length) = Da.eqs ds es
  | [], [] => by simp [Da.eqs]
  | [], e :: es => by simp [Da.eqs]
  | d :: ds, [] => by simp [Da.eqs]
  | d :: ds, e :: es => by
    have ih := Da.eqs_range ds es
    rw [Da.eqs, ← ih]
    have : min (d :: ds).length (e :: es).length = min ds.length es.length + 1 := by simp only [List.length_cons]; omega
    rw [this, List.range_succ_eq_map, List.all_cons, List.all_map]
    have h2 : ((d :: ds).length == (e :: es).length) = (ds.length == es.length) := by simp
    rw [h2, Bool.and_assoc]
    rfl
theorem Paired.at {α β : Type} {F : α → β → Prop} : ∀ {xs : List α} {ys : List β} {j : Nat} {x : α} {y : β}, Paired F xs ys → xs[j]? = some x → ys[j]? = some y → F x y
  | _, _, _, _, _, .nil, h, _ => by simp at h
  | _, _, 0, _, _, .cons r _, h1, h2 => by simp at h1 h2; subst h1 h2; exact r
  | _, _, j + 1, _, _, .cons _ t, h1, h2 => Paired.at (j := j) t (by simpa using h1) (by simpa using h2)
theorem eqV_refl : ∀ {v : V}, flatV v = true → eqV v v = true
  | .non, _ => rfl
  | .bl _, _ => by simp [eqV]
  | .int _, _ => by simp [eqV]
  | .str _, _ => by simp [eqV]
section
variable {pins : List (Addr × Obj)} {σ : St} {H : Hp} {s : Shared}
theorem flat_noref {a : Addr} (h : flatV (.ref a) = true) : False := by simp [flatV] at h
theorem Inv.notBoth (I : Inv X pins σ H s) {a : Addr} {xs ys : List V} (h : SqT X.K H a xs) (h' : SqL X.K H a ys) : False := by
  obtain ⟨its, _, ⟨o, e, c, _⟩, _⟩ := I.tuple h
  obtain ⟨its', _, ⟨o', n', e', c', _⟩, _⟩ := I.list h'
  rw [e] at e'; cases e'
  rw [c] at c'
  injection c' with c'
  exact absurd c' (by decide)
/-- equal to itself -/
theorem eq_self (I : Inv X pins σ H s) : ∀ (n : Nat) {m : Nat} {x : V} {d e : Da}, RepN X.K H n x d → RepN X.K H m x e → Da.eq d e = true
  | 0, m, x, d, e, h1, h2 => by
    obtain ⟨rfl, f⟩ := h1
    cases m with
    | zero => obtain ⟨rfl, _⟩ := h2; exact eqV_refl f
    | succ m =>
      rcases h2 with ⟨rfl, _⟩ | ⟨a, xs, ds, rfl, _⟩ | ⟨a, xs, ds, rfl, _⟩
      · exact eqV_refl f
      · exact (flat_noref f).elim
      · exact (flat_noref f).elim
  | n + 1, m, x, d, e, h1, h2 => by
    have both : ∀ {xs : List V} {ds es : List Da} {m : Nat}, Paired (RepN X.K H n) xs ds → Paired (RepN X.K H m) xs es → Da.eqs ds es = true := by
      intro xs ds es m p
      induction p generalizing es with
      | nil => intro q; cases q; rfl
      | cons r t ih =>
        intro q
        cases q with
        | cons r' t' => rw [Da.eqs, eq_self I n r r', ih t']; rfl
    rcases h1 with ⟨rfl, f⟩ | ⟨a, xs, ds, rfl, rfl, hs, hp⟩ | ⟨a, xs, ds, rfl, rfl, hs, hp⟩
    · cases m with
      | zero => obtain ⟨rfl, _⟩ := h2; exact eqV_refl f
      | succ m =>
        rcases h2 with ⟨rfl, _⟩ | ⟨a, xs, ds, rfl, _⟩ | ⟨a, xs, ds, rfl, _⟩
        · exact eqV_refl f
        · exact (flat_noref f).elim
        · exact (flat_noref f).elim
    · cases m with
      | zero => exact (flat_noref h2.2).elim
      | succ m =>
        rcases h2 with ⟨_, f⟩ | ⟨a', ys, es, e1, rfl, hs', hp'⟩ | ⟨a', ys, es, e1, rfl, hs', hp'⟩
        · exact (flat_noref f).elim
        · cases e1
          cases I.tuple_inj hs hs'
          exact both hp hp'
        · cases e1
          exact (I.notBoth hs hs').elim
    · cases m with
      | zero => exact (flat_noref h2.2).elim
      | succ m =>
        rcases h2 with ⟨_, f⟩ | ⟨a', ys, es, e1, rfl, hs', hp'⟩ | ⟨a', ys, es, e1, rfl, hs', hp'⟩
        · exact (flat_noref f).elim
        · cases e1
          exact (I.notBoth hs' hs).elim
        · cases e1
          cases I.list_inj hs hs'
          exact both hp hp'
theorem plain_list {h : Heap} {a : Addr} {its : Array Value} (p : PlainL h a its) : h.IsList a its := let ⟨o, n, e, c, _, d⟩ := p; ⟨o, e, c, n, d⟩
/-- the items' comparisons -/
theorem items_eq {A : Around} {n m : Nat} {xs ys : List V} {ds es : List Da} {us vs : List Value} (px : Paired (RepN X.K H n) xs ds) (py : Paired (RepN X.K H m) ys es) (vx : Vals xs us) (vy : Vals ys vs)
    (ih : ∀ {x y : V} {d e : Da} {u v : Value}, RepN X.K H n x d → RepN X.K H m y e → RelV x u → RelV y v → SeqAt.EqAt A.in1 s u v (Da.eq d e)) :
    ∀ j (h1 : j < us.toArray.size) (h2 : j < vs.toArray.size), SeqAt.EqAt A.in1 s us.toArray[j] vs.toArray[j] (Da.eq (ds.getD j (.s .non)) (es.getD j (.s .non))) := by
  intro j h1 h2
  have l1 := px.length; have l2 := py.length; have l3 := vx.length; have l4 := vy.length
  rw [List.size_toArray] at h1 h2
  have q1 : xs[j]? = some xs[j] := List.getElem?_eq_getElem (by omega)
  have q2 : ys[j]? = some ys[j] := List.getElem?_eq_getElem (by omega)
  have q3 : ds[j]? = some ds[j] := List.getElem?_eq_getElem (by omega)
  have q4 : es[j]? = some es[j] := List.getElem?_eq_getElem (by omega)
  have q5 : us[j]? = some us[j] := List.getElem?_eq_getElem (by omega)
  have q6 : vs[j]? = some vs[j] := List.getElem?_eq_getElem (by omega)
  rw [List.getD_eq_getElem?_getD, List.getD_eq_getElem?_getD, q3, q4]
  exact ih (Paired.at px q1 q3) (Paired.at py q2 q4) (Paired.at vx q1 q5) (Paired.at vy q2 q6)
theorem rc_tuples {A : Around} {n m : Nat} {a b : Addr} {xs ys : List V} {ds es : List Da} (I : Inv X pins σ H s) (hu : A.units < cLine) (sx : SqT X.K H a xs) (sy : SqT X.K H b ys) (px : Paired (RepN X.K H n) xs ds) (py : Paired (RepN X.K H m) ys es)
    (ih : ∀ {x y : V} {d e : Da} {u v : Value}, RepN X.K H n x d → RepN X.K H m y e → RelV x u → RelV y v → SeqAt.EqAt A.in1 s u v (Da.eq d e)) : SeqAt.RcAt A s (.ref a) (.ref b) (Da.eqs ds es) := by
  obtain ⟨us, vx, tx, _⟩ := I.tuple sx
  obtain ⟨vs, vy, ty, _⟩ := I.tuple sy
  have q := SeqAt.RcAt.tuples tx ty hu (items_eq px py vx vy ih)
  rw [List.size_toArray, List.size_toArray, ← vx.length, ← vy.length, px.length, py.length, Da.eqs_range] at q
  exact q
theorem rc_lists {A : Around} {n m : Nat} {a b : Addr} {xs ys : List V} {ds es : List Da} (I : Inv X pins σ H s) (hu : A.units < cLine) (sx : SqL X.K H a xs) (sy : SqL X.K H b ys) (px : Paired (RepN X.K H n) xs ds) (py : Paired (RepN X.K H m) ys es)
    (ih : ∀ {x y : V} {d e : Da} {u v : Value}, RepN X.K H n x d → RepN X.K H m y e → RelV x u → RelV y v → SeqAt.EqAt A.in1 s u v (Da.eq d e)) : SeqAt.RcAt A s (.ref a) (.ref b) (Da.eqs ds es) := by
  obtain ⟨us, vx, tx, _⟩ := I.list sx
  obtain ⟨vs, vy, ty, _⟩ := I.list sy
  by_cases hz : us.toArray.size = vs.toArray.size
  · have q := SeqAt.RcAt.lists (plain_list tx) (plain_list ty) hz hu (items_eq px py vx vy ih)
    have hz' : ds.length = es.length := by rw [← px.length, ← py.length, vx.length, vy.length]; simpa using hz
    have e := Da.eqs_range ds es
    rw [hz', Nat.min_self] at e
    rw [← hz'] at e
    rw [List.size_toArray, ← vx.length, px.length] at q
    simp only [beq_self_eq_true, Bool.and_true] at e
    rw [e] at q
    exact q
  · have q := SeqAt.RcAt.lists_lengths (plain_list tx) (plain_list ty) (by simpa using hz) hu
    have hz' : ds.length ≠ es.length := by
      rw [← px.length, ← py.length, vx.length, vy.length]
      intro z; exact hz (by simpa using z)
    have e := Da.eqs_range ds es
    have f : (ds.length == es.length) = false := by simpa using hz'
    rw [f, Bool.and_false] at e
    rw [← e]
    exact q
theorem eqAt_D (I : Inv X pins σ H s) : ∀ (n : Nat) {m : Nat} {A : Around} {x y : V} {d e : Da} {u v : Value}, A.units + n < cLine → RepN X.K H n x d → RepN X.K H m y e → RelV x u → RelV y v → SeqAt.EqAt A s u v (Da.eq d e) := by
  have flatRef : ∀ {A : Around} {x : V} {u : Value} {b : Addr} {ys : List V}, A.units < cLine → flatV x = true → RelV x u → (SqT X.K H b ys ∨ SqL X.K H b ys) → SeqAt.EqAt A s u (.ref b) false ∧ SeqAt.EqAt A s (.ref b) u false := by
    intro A x u b ys hu f r h
    have h' : (∃ its, s.heap.IsTuple b its) ∨ ∃ its, s.heap.IsList b its := by
      rcases h with h | h
      · obtain ⟨its, _, t, _⟩ := I.tuple h; exact .inl ⟨_, t⟩
      · obtain ⟨its, _, t, _⟩ := I.list h; exact .inr ⟨_, plain_list t⟩
    cases x with
    | non => cases r; rcases h' with ⟨_, t⟩ | ⟨_, t⟩; exact ⟨.none_tuple t hu, .tuple_none t hu⟩; exact ⟨.none_list t hu, .list_none t hu⟩
    | bl k => cases r; rcases h' with ⟨_, t⟩ | ⟨_, t⟩; exact ⟨.bool_tuple k t hu, .tuple_bool k t hu⟩; exact ⟨.bool_list k t hu, .list_bool k t hu⟩
    | int k => obtain ⟨tk, rfl⟩ := r; rcases h' with ⟨_, t⟩ | ⟨_, t⟩; exact ⟨.int_tuple k tk t hu, .tuple_int k tk t hu⟩; exact ⟨.int_list k tk t hu, .list_int k tk t hu⟩
    | str k => obtain ⟨tk, rfl⟩ := r; rcases h' with ⟨_, t⟩ | ⟨_, t⟩; exact ⟨.str_tuple k tk t hu, .tuple_str k tk t hu⟩; exact ⟨.str_list k tk t hu, .list_str k tk t hu⟩
    | _ => simp [flatV] at f
  intro n
  induction n with
  | zero =>
    intro m A x y d e u v hu h1 h2 rx ry
    obtain ⟨rfl, f⟩ := h1
    cases m with
    | zero => obtain ⟨rfl, f'⟩ := h2; exact eqAt_V rx ry f f'
    | succ m =>
      rcases h2 with ⟨rfl, f'⟩ | ⟨b, ys, es, rfl, rfl, sy, py⟩ | ⟨b, ys, es, rfl, rfl, sy, py⟩
      · exact eqAt_V rx ry f f'
      · cases ry; exact (flatRef (by omega) f rx (.inl sy)).1
      · cases ry; exact (flatRef (by omega) f rx (.inr sy)).1
  | succ n ih =>
    intro m A x y d e u v hu h1 h2 rx ry
    have hin : A.in1.units + n < cLine := by show A.units + 1 + n < cLine; omega
    rcases h1 with ⟨rfl, f⟩ | ⟨a, xs, ds, rfl, rfl, sx, px⟩ | ⟨a, xs, ds, rfl, rfl, sx, px⟩
    · cases m with
      | zero => obtain ⟨rfl, f'⟩ := h2; exact eqAt_V rx ry f f'
      | succ m =>
        rcases h2 with ⟨rfl, f'⟩ | ⟨b, ys, es, rfl, rfl, sy, py⟩ | ⟨b, ys, es, rfl, rfl, sy, py⟩
        · exact eqAt_V rx ry f f'
        · cases ry; exact (flatRef (by omega) f rx (.inl sy)).1
        · cases ry; exact (flatRef (by omega) f rx (.inr sy)).1
    · cases rx
      cases m with
      | zero => obtain ⟨rfl, f'⟩ := h2; exact (flatRef (by omega) f' ry (.inl sx)).2
      | succ m =>
        rcases h2 with ⟨rfl, f'⟩ | ⟨b, ys, es, rfl, rfl, sy, py⟩ | ⟨b, ys, es, rfl, rfl, sy, py⟩
        · exact (flatRef (by omega) f' ry (.inl sx)).2
        · cases ry
          by_cases hab : a = b
          · subst hab
            cases I.tuple_inj sx sy
            have e : Da.eq (.tup ds) (.tup es) = true := eq_self I (n + 1) (m := m + 1) (x := .ref a) (.inr (.inl ⟨a, xs, ds, rfl, rfl, sx, px⟩)) (.inr (.inl ⟨a, xs, es, rfl, rfl, sy, py⟩))
            rw [e]; exact .same _
          · exact .of_refs hab (rc_tuples I (by omega) sx sy px py fun h1 h2 r1 r2 => ih hin h1 h2 r1 r2)
        · cases ry
          obtain ⟨us, vx, tx, _⟩ := I.tuple sx
          obtain ⟨vs, vy, ty, _⟩ := I.list sy
          exact .tuple_list tx (plain_list ty) (by omega)
    · cases rx
      cases m with
      | zero => obtain ⟨rfl, f'⟩ := h2; exact (flatRef (by omega) f' ry (.inr sx)).2
      | succ m =>
        rcases h2 with ⟨rfl, f'⟩ | ⟨b, ys, es, rfl, rfl, sy, py⟩ | ⟨b, ys, es, rfl, rfl, sy, py⟩
        · exact (flatRef (by omega) f' ry (.inr sx)).2
        · cases ry
          obtain ⟨us, vx, tx, _⟩ := I.list sx
          obtain ⟨vs, vy, ty, _⟩ := I.tuple sy
          exact .list_tuple (plain_list tx) ty (by omega)
        · cases ry
          by_cases hab : a = b
          · subst hab
            cases I.list_inj sx sy
            have e : Da.eq (.lst ds) (.lst es) = true := eq_self I (n + 1) (m := m + 1) (x := .ref a) (.inr (.inr ⟨a, xs, ds, rfl, rfl, sx, px⟩)) (.inr (.inr ⟨a, xs, es, rfl, rfl, sy, py⟩))
            rw [e]; exact .same _
          · exact .of_refs hab (rc_lists I (by omega) sx sy px py fun h1 h2 r1 r2 => ih hin h1 h2 r1 r2)
end
/-- ==: scalars; data of at most k steps down -/
def uEq (K : PySem.W.Frag) (k : Nat) : R2 := fun x y H Q => match x, y with
  | .ref a, .ref b => ∃ n m d e, n ≤ k ∧ RepN K H n (.ref a) d ∧ RepN K H m (.ref b) e ∧ Q (.bl (Da.eq d e)) H
  | x, y => scal x y = true ∧ Q (.bl (decide (x = y))) H
theorem op_uEq {k : Nat} (hu : X.A.units + k < cLine) : OpR X (compareOp .Eq) (uEq X.K k) := by
  intro pins s σ H x y v u Q I rx ry h
  cases x with
  | ref a =>
    cases y with
    | ref b =>
      obtain ⟨n, m, d, e, hn, h1, h2, q⟩ := h
      cases rx; cases ry
      have fin : ∀ {k : Bool}, k = Da.eq d e → SeqAt.RcAt X.A s (.ref a) (.ref b) k → wpAny (model X.prog X.w) X.A (compareOp .Eq (.ref a) (.ref b)) (EP X pins σ Q) X.xe s := fun {k} e' r =>
        r X.prog X.w X.xe (EP X pins σ Q) (by rw [e']; exact ⟨.bl _, H, I, rfl, q⟩)
      cases n with
      | zero => exact (flat_noref h1.2).elim
      | succ n =>
        cases m with
        | zero => exact (flat_noref h2.2).elim
        | succ m =>
          have hin : X.A.in1.units + n < cLine := by show X.A.units + 1 + n < cLine; omega
          rcases h1 with ⟨_, f⟩ | ⟨a', xs, ds, e1, rfl, sx, px⟩ | ⟨a', xs, ds, e1, rfl, sx, px⟩
          · exact (flat_noref f).elim
          · cases e1
            rcases h2 with ⟨_, f⟩ | ⟨b', ys, es, e2, rfl, sy, py⟩ | ⟨b', ys, es, e2, rfl, sy, py⟩
            · exact (flat_noref f).elim
            · cases e2
              exact fin rfl (rc_tuples I (by omega) sx sy px py fun h1 h2 r1 r2 => eqAt_D I n hin h1 h2 r1 r2)
            · cases e2
              obtain ⟨us, vx, tx, _⟩ := I.tuple sx
              obtain ⟨vs, vy, ty, _⟩ := I.list sy
              exact fin rfl (.tuple_list tx (plain_list ty) (by omega))
          · cases e1
            rcases h2 with ⟨_, f⟩ | ⟨b', ys, es, e2, rfl, sy, py⟩ | ⟨b', ys, es, e2, rfl, sy, py⟩
            · exact (flat_noref f).elim
            · cases e2
              obtain ⟨us, vx, tx, _⟩ := I.list sx
              obtain ⟨vs, vy, ty, _⟩ := I.tuple sy
              exact fin rfl (.list_tuple (plain_list tx) ty (by omega))
            · cases e2
              exact fin rfl (rc_lists I (by omega) sx sy px py fun h1 h2 r1 r2 => eqAt_D I n hin h1 h2 r1 r2)
    | _ => exact op_eq pins s σ H _ _ v u Q I rx ry h
  | _ => cases y <;> exact op_eq pins s σ H _ _ v u Q I rx ry h
end

/-- a list, a tuple, a dict of the top by its name; a type's name -/
theorem pe_gr {X : Cx} {x : Str} {c : Addr} {pos : Pos} (hg : Gl X x) (hm : X.mg x = some (.ref c)) (hd : (x == ("__debug__" : Str)) = false := by decide) : PE X (.Name x pos) (tC (.ref c)) := pe_glob hg hm (v := .ref c) rfl hd
theorem pe_ty {X : Cx} {x : Str} {T : String} {pos : Pos} (hg : Gl X x) (hm : X.mg x = none) (hv : bootBuiltins x = some (.type T)) (hn : x ≠ "__name__" := by decide) (hd : (x == ("__debug__" : Str)) = false := by decide) : PE X (.Name x pos) (tC (.ty T)) := pe_bltn hg hm hv (v := .ty T) rfl hn hd
/-! ### a def of the text, as its callers see it -/
structure Cal (P : Program) (w : World) (K : PySem.W.Frag) (mg : Str → Option Value) (base : Heap) (k : Nat) (x : Str) (ps : List Str) (sp : Sp) : Prop where
  ex : ∃ f fd, FnOk P w K mg base CX0 k f fd ps sp ∧ Binds K fd ps [] ∧ PySem.W.keepIn K (.ref f) = true ∧ mg x = some (.ref f)
theorem pe_c {X : Cx} {k : Nat} {x : Str} {ps : List Str} {sp : Sp} {e : Expr} {es : List Expr} {t : TA} {p pos : Pos} (c : Cal X.prog X.w X.K X.mg X.base k x ps sp) (hr : Room k X.A) (hg : Gl X x) (ha : PA X (e :: es) t) (hdb : (x == ("__debug__" : Str)) = false := by decide)
    (he : starEach (e :: es) X.env = (false, eval e X.env) :: starEach es X.env := by rfl) (hpl : (backTo pos (starEach es X.env)).any (·.1) = false := by rfl) : PE X (.Call (.Name x p) (e :: es) [] pos) (tCall sp [] E0 t) := by
  obtain ⟨f, fd, F, b, kp, m⟩ := c.ex
  exact pe_call F hr hg m kp b .nil pass0 ha hdb he hpl
theorem Cal.mono {P : Program} {w : World} {K : PySem.W.Frag} {mg : Str → Option Value} {base : Heap} {j k : Nat} {x : Str} {ps : List Str} {sp : Sp} (c : Cal P w K mg base j x ps sp) (h : j ≤ k) : Cal P w K mg base k x ps sp := by
  obtain ⟨f, fd, F, b, kp, m⟩ := c.ex
  exact ⟨f, fd, F.mono h, b, kp, m⟩
end L2

namespace L2
open PySem PySem.Spec PyProof.Rows

/-! ### list comprehensions -/
def clGo (env : Env) : List (Str × NameKind) → List (Str × Addr) → List (Str × Addr)
  | [], cs => cs
  | (n, k) :: r, cs => clGo env r (if k == .free then (n, (env.cells.lookup n).getD 0) :: cs else cs)
def clOf (scope : Scope) (env : Env) : List (Str × Addr) := clGo env scope.names []
theorem clGo_mem {env : Env} : ∀ {names : List (Str × NameKind)} {cs : List (Str × Addr)} {p : Str × Addr}, p ∈ clGo env names cs → p ∈ cs ∨ ((p.1, NameKind.free) ∈ names ∧ p.2 = (env.cells.lookup p.1).getD 0)
  | [], _, _, h => .inl h
  | (n, k) :: r, cs, p, h => by
    rcases clGo_mem (names := r) h with q | ⟨q, e⟩
    · by_cases hk : (k == NameKind.free) = true
      · rw [if_pos hk] at q
        rcases List.mem_cons.mp q with rfl | q
        · have : k = .free := by simpa using hk
          exact .inr ⟨by rw [this]; exact List.mem_cons_self, rfl⟩
        · exact .inl q
      · rw [if_neg hk] at q; exact .inl q
    · exact .inr ⟨List.mem_cons_of_mem _ q, e⟩
theorem clGo_has {env : Env} {x : Str} : ∀ {names : List (Str × NameKind)} {cs : List (Str × Addr)}, ((∃ c, (x, c) ∈ cs) ∨ (x, NameKind.free) ∈ names) → ∃ c, (x, c) ∈ clGo env names cs
  | [], _, .inl h => h
  | [], _, .inr h => by simp at h
  | (n, k) :: r, cs, h => by
    refine clGo_has (names := r) ?_
    rcases h with ⟨c, h⟩ | h
    · left
      by_cases hk : (k == NameKind.free) = true
      · rw [if_pos hk]; exact ⟨c, List.mem_cons_of_mem _ h⟩
      · rw [if_neg hk]; exact ⟨c, h⟩
    · rcases List.mem_cons.mp h with e | h
      · left
        injection e with e1 e2
        subst e1; subst e2
        exact ⟨_, List.mem_cons_self⟩
      · exact .inr h
theorem lookup_of_key {x : Str} : ∀ {l : List (Str × Addr)} {c : Addr}, (x, c) ∈ l → ∃ c', l.lookup x = some c'
  | (n, d) :: r, c, h => by
    rw [List.lookup_cons]
    cases hx : x == n with
    | true => exact ⟨d, rfl⟩
    | false =>
      rcases List.mem_cons.mp h with e | h
      · injection e with e1 _; subst e1; simp at hx
      · exact lookup_of_key h
theorem closureFor_clOf {scope : Scope} {env : Env} (h : ∀ n, (n, NameKind.free) ∈ scope.names → ∃ c, env.cells.lookup n = some c) : closureFor scope env = pure (clOf scope env) := by
  unfold closureFor clOf
  have key : ∀ (names : List (Str × NameKind)) (cs : List (Str × Addr)), (∀ n, (n, NameKind.free) ∈ names → ∃ c, env.cells.lookup n = some c) →
      (forIn names cs fun x (r : List (Str × Addr)) => (match x with | (name, kind) => if kind == NameKind.free then do let a ← cellOf env name; pure (ForInStep.yield ((name, a) :: r)) else pure (ForInStep.yield r) : Sem (ForInStep (List (Str × Addr))))) = pure (clGo env names cs) := by
    intro names
    induction names with
    | nil => intro cs _; rfl
    | cons p r ih =>
      intro cs hf
      obtain ⟨n, k⟩ := p
      rw [List.forIn_cons]
      cases hk : k == NameKind.free with
      | true =>
        have hk' : k = .free := by simpa using hk
        subst hk'
        obtain ⟨c, hc⟩ := hf n List.mem_cons_self
        have e : cellOf env n = pure c := by unfold cellOf; rw [hc]
        simp only [beq_self_eq_true, if_true, e]
        have e2 : clGo env ((n, NameKind.free) :: r) cs = clGo env r ((n, c) :: cs) := by show clGo env r _ = _; rw [hc]; rfl
        rw [e2]
        exact ih ((n, c) :: cs) fun m hm => hf m (List.mem_cons_of_mem _ hm)
      | false =>
        simp only [hk, Bool.false_eq_true, if_false]
        have e2 : clGo env ((n, k) :: r) cs = clGo env r cs := by show clGo env r (if (k == NameKind.free) = true then _ else _) = _; rw [hk]; rfl
        rw [e2]
        exact ih cs fun m hm => hf m (List.mem_cons_of_mem _ hm)
  exact (congrArg (· >>= pure) (key scope.names [] h))
theorem lookup_relabel {env : Env} {x : Str} : ∀ {names : List (Str × NameKind)},
    (names.map fun (n, k) => if (k == NameKind.free && env.scope.kind == .function && env.kindOf n == some .cell) then (n, NameKind.cell) else (n, k)).lookup x
      = (names.lookup x).map fun k => if (k == NameKind.free && env.scope.kind == .function && env.kindOf x == some .cell) then NameKind.cell else k
  | [] => rfl
  | (n, k) :: r => by
    have ih := @lookup_relabel env x r
    show List.lookup x ((if (k == NameKind.free && env.scope.kind == .function && env.kindOf n == some .cell) = true then (n, NameKind.cell) else (n, k)) :: _) = _
    cases hx : x == n with
    | true =>
      have hx' : x = n := by simpa using hx
      subst hx'
      by_cases hc : (k == NameKind.free && env.scope.kind == .function && env.kindOf x == some .cell) = true
      · rw [if_pos hc]; simp only [List.lookup_cons, beq_self_eq_true, Option.map_some]; rw [if_pos hc]
      · rw [if_neg hc]; simp only [List.lookup_cons, beq_self_eq_true, Option.map_some]; rw [if_neg hc]
    | false =>
      by_cases hc : (k == NameKind.free && env.scope.kind == .function && env.kindOf n == some .cell) = true
      · rw [if_pos hc]; simp only [List.lookup_cons, hx]; exact ih
      · rw [if_neg hc]; simp only [List.lookup_cons, hx]; exact ih

/-- the block's own context -/
def Cx.comp (X : Cx) (scope : Scope) (T : List Str) (C : Addr) (fp : List Addr) (s₀ : Shared) (H₀ : Hp) : Cx :=
  { X with N := X.N ++ T, s₀ := s₀, H₀ := H₀, env := compEnvC scope (clOf scope X.env) C X.env, outer := X.stack, ex := fp, fn := fun _ => false, xe := fun _ _ => False }

structure CompScope (X : Cx) (scope : Scope) : Prop where
  kind : scope.kind = .function
  nocell : ∀ y ∈ scope.names, y.2 ≠ .cell
  names : ∀ y ∈ scope.names, y.2 = .local → scope.names.lookup y.1 = some .local
  free : ∀ n, scope.names.lookup n = some .free → X.env.kindOf n = some .cell ∨ X.env.kindOf n = some .free
  freeM : ∀ n, (n, NameKind.free) ∈ scope.names → X.env.kindOf n = some .cell ∨ X.env.kindOf n = some .free
  apart : ∀ x ∈ X.N, scope.names.lookup x ≠ some .local

section
variable {X : Cx} {scope : Scope} {pins : List (Addr × Obj)} {σ : St} {H : Hp} {s : Shared}
theorem CompScope.clo (S : CompScope X scope) (I : Inv X pins σ H s) : closureFor scope X.env = pure (clOf scope X.env) :=
  closureFor_clOf fun n h => I.ok.has n (S.freeM n h)
theorem CompScope.cl_old (S : CompScope X scope) (I : Inv X pins σ H s) {x : Str} {c : Addr} (h : (clOf scope X.env).lookup x = some c) : X.env.cells.lookup x = some c := by
  rcases clGo_mem (PySem.mem_of_lookup h) with q | ⟨q, e⟩
  · simp at q
  · obtain ⟨d, hd⟩ := I.ok.has x (S.freeM x q)
    have e' : c = (X.env.cells.lookup x).getD 0 := e
    rw [hd] at e' ⊢
    rw [e']; rfl
theorem CompScope.cl_has (_ : CompScope X scope) {x : Str} (h : scope.names.lookup x = some .free) : ∃ c, (clOf scope X.env).lookup x = some c := by
  obtain ⟨c, hc⟩ := clGo_has (env := X.env) (names := scope.names) (cs := []) (x := x) (.inr (PySem.mem_of_lookup h))
  exact lookup_of_key hc
theorem CompScope.kindOf (S : CompScope X scope) {C : Addr} {x : Str} (h : (compEnvC scope (clOf scope X.env) C X.env).kindOf x = some .cell ∨ (compEnvC scope (clOf scope X.env) C X.env).kindOf x = some .free) : scope.names.lookup x = some .free := by
  have e : (compEnvC scope (clOf scope X.env) C X.env).kindOf x = (scope.names.lookup x).map fun k => if (k == NameKind.free && X.env.scope.kind == .function && X.env.kindOf x == some .cell) then NameKind.cell else k := lookup_relabel
  rw [e] at h
  cases hl : scope.names.lookup x with
  | none => rw [hl] at h; rcases h with h | h <;> cases h
  | some k =>
    rw [hl] at h
    cases k with
    | free => rfl
    | cell => exact absurd rfl (S.nocell _ (PySem.mem_of_lookup hl))
    | _ => rcases h with h | h <;> cases h
theorem CompScope.vis (S : CompScope X scope) {C : Addr} {x : Str} (hx : x ∈ X.N) (h : Vis (compEnvC scope (clOf scope X.env) C X.env).scope x) : scope.names.lookup x = some .free := by
  rcases h with h | h | h
  · exfalso
    have e : (compEnvC scope (clOf scope X.env) C X.env).kindOf x = (scope.names.lookup x).map fun k => if (k == NameKind.free && X.env.scope.kind == .function && X.env.kindOf x == some .cell) then NameKind.cell else k := lookup_relabel
    have h' : (compEnvC scope (clOf scope X.env) C X.env).kindOf x = some .local := h
    rw [e] at h'
    cases hl : scope.names.lookup x with
    | none => rw [hl] at h'; cases h'
    | some k =>
      rw [hl] at h'
      have h' : (if (k == NameKind.free && X.env.scope.kind == .function && X.env.kindOf x == some .cell) = true then NameKind.cell else k) = .local := Option.some.inj h'
      split at h'
      · cases h'
      · subst h'
        exact S.apart x hx hl
  · exact S.kindOf (C := C) (.inl h)
  · exact S.kindOf (C := C) (.inr h)
theorem CompScope.back (S : CompScope X scope) {C : Addr} {x : Str} (h : scope.names.lookup x = some .free) : (compEnvC scope (clOf scope X.env) C X.env).kindOf x = some .cell ∨ (compEnvC scope (clOf scope X.env) C X.env).kindOf x = some .free := by
  have e : (compEnvC scope (clOf scope X.env) C X.env).kindOf x = (scope.names.lookup x).map fun k => if (k == NameKind.free && X.env.scope.kind == .function && X.env.kindOf x == some .cell) then NameKind.cell else k := lookup_relabel
  rw [e, h]
  show some (if _ then _ else _) = _ ∨ some (if _ then _ else _) = _
  split
  · exact .inl rfl
  · exact .inr rfl
end

/-- the tests of a comprehension -/
def PF (X : Cx) (ifs : List Expr) (t : TT) : Prop :=
  ∀ (pins : List (Addr × Obj)) (s : Shared) (σ : St) (H : Hp) (Q : Bool → Hp → Prop), Inv X pins σ H s → t σ H Q →
    wpAny (model X.prog X.w) X.A (forIn ifs true fun c r => if r = true then do let ok ← isTrue c X.env (eval c X.env); pure (ForInStep.yield ok) else pure (ForInStep.yield r)) (TP X pins σ Q) X.xe s
def tYes : TT := fun _ H Q => Q true H
theorem pf_nil {X : Cx} : PF X [] tYes := fun _ _ _ H _ I h => wpAny_pure ⟨H, I, h⟩
theorem pf_one {X : Cx} {c : Expr} {t : TT} (hc : PT X c t) : PF X [c] t := by
  intro pins s σ H Q I h
  rw [List.forIn_cons]
  simp only [if_true]
  refine wpAny_bind (wpAny_bind (thn (hc pins s σ H Q I h) fun b s1 q => wpAny_pure ?_))
  exact wpAny_pure q

theorem codeAny_compLoop_go {prog : Program} {w : World} {A : Around} {R : Result → Shared → Prop} {s : Shared} {elt target iter : Expr} {ifs : List Expr} {scope : Scope} {pos : Pos} {it acc : Value} {env : Env} (I : Nat → Shared → Prop)
    (turn : ∀ n s, I n s → wpAny (model prog w) A (pyNext it) (fun r s₁ => match r with
      | none => R (.ok .next) s₁
      | some v => wpAny (model prog w) A (letOwnedTupleGo target it v) (fun _ s₁ => wpAny (model prog w) A (assign target env v) (fun _ s₂ =>
          wpAny (model prog w) A (forIn ifs true fun c r => if r = true then do let ok ← isTrue c env (eval c env); pure (ForInStep.yield ok) else pure (ForInStep.yield r)) (fun ok s₃ =>
            if ok = true then wpAny (model prog w) A (eval elt env) (fun x s₄ =>
              wpAny (model prog w) A (call (.builtin "list.append") [acc, x]) (fun _ s₅ => ∃ m, m < n ∧ I m s₅) (fun _ _ => False) s₄) (fun _ _ => False) s₃
            else ∃ m, m < n ∧ I m s₃) (fun _ _ => False) s₂) (fun _ _ => False) s₁) (fun _ _ => False) s₁) (fun _ _ => False) s)
    (n : Nat) (h : I n s) :
    codeAny (model prog w) A (.compLoop (.ListComp elt [⟨target, iter, ifs, 0⟩] scope pos) 0 it acc env) R s := by
  refine codeAny_loop rfl I (fun n s hI => ?_) n h
  show wpAny _ A ((compTurn (.ListComp elt [⟨target, iter, ifs, 0⟩] scope pos) 0 it acc env).onRaise (fun x => do noteFrame x env; theTreesLotGoes x)) _ _ s
  refine wpAny_noted ?_
  rw [compTurn_list]
  refine wpAny_bind (wpAny_standAt (wpAny_bind (wpAny_mono (turn n s hI) (fun r s₁ h₁ => ?_) fun _ _ h' => h'.elim)))
  cases r with
  | none => exact wpAny_pure h₁
  | some v =>
    refine wpAny_bind (wpAny_mono h₁ (fun _ s₁ h₁ => ?_) fun _ _ h' => h'.elim)
    refine wpAny_bind (wpAny_mono h₁ (fun _ s₂ h₂ => wpAny_bind (wpAny_mono h₂ (fun ok s₃ h₃ => ?_) fun _ _ h' => h'.elim)) fun _ _ h' => h'.elim)
    cases ok with
    | false => exact wpAny_pure ⟨rfl, h₃⟩
    | true =>
      exact wpAny_bind (wpAny_bind (wpAny_mono h₃ (fun x s₄ h₄ => wpAny_bind (wpAny_mono h₄ (fun _ s₅ h₅ => wpAny_pure (wpAny_pure ⟨rfl, h₅⟩)) fun _ _ h' => h'.elim)) fun _ _ h' => h'.elim))
end L2

namespace L2
open PySem PySem.Spec PyProof.Rows
/-- W: the invariant by the turn, a measure, what has been gathered -/
def tLC (n : Nat) (wi : TI) (g : TG) (tc : TT) (te : TE) : TE := fun σ H Q => wi σ H fun J H1 => ∃ W : Nat → Nat → List V → Hp → Prop, (∃ m, W 0 m [] H1) ∧ ∀ i m ys H, W i m ys H →
  (J.stop i H ∧ ys.length ≤ sizeLine ∧ ∀ D, H D = none → Q (.ref D) (upd H D (.lst ys))) ∨
  (J.go i H ∧ ys.length < sizeLine ∧ ∀ x H', J.yld i H x H' → g x (σ ++ List.replicate n none) H' fun σ2 H2 => tc σ2 H2 fun b H3 =>
    if b = true then te σ2 H3 fun y H4 => ∃ m', m' < m ∧ W (i + 1) m' (ys ++ [y]) H4 else ∃ m', m' < m ∧ W (i + 1) m' ys H3)
/-- a target that leaves the outer slots -/
def Outer (g : TG) (n k : Nat) : Prop := ∀ (σ : St), σ.length = n → ∀ x H Q, g x (σ ++ List.replicate k none) H Q →
  g x (σ ++ List.replicate k none) H fun σ2 H2 => ((σ2.length = n + k ∧ ∀ (i : Nat) v, (σ ++ List.replicate k none)[i]? = some (some v) → σ2[i]? = some (some v)) ∧ Q σ2 H2)

section
variable {X : Cx} {scope : Scope} {T : List Str} {elt target iter : Expr} {ifs : List Expr} {wi : TI} {g : TG} {tc : TT} {te : TE}
theorem ltN {h : Heap} {b : Addr} {o : Obj} (e : h.get? b = some o) : @LT.lt Nat instLTNat b h.objs.size := Heap.lt_size e
theorem neN {a b : Addr} (h : @Ne Nat a b) : a ≠ b := h
theorem leN {a b : Addr} (h : @LE.le Nat instLENat a b) : a ≤ b := h
theorem lst_push (its : List Value) (n : Nat) (u : Value) : ∃ n', Obj.mapSeq (·.push u) { cls := .type "list", data := .seq its.toArray n } = ({ cls := .type "list", data := .seq (its ++ [u]).toArray n' } : Obj) :=
  ⟨_, by simp [Obj.mapSeq]; rfl⟩
theorem append_acc {prog : Program} {w : World} {A : Around} {E : Value → Shared → Prop} {s : Shared} {D : Addr} {its : List Value} {n : Nat} {u : Value} {Q : Value → Shared → Prop} (hD : s.heap.get? D = some { cls := .type "list", data := .seq its.toArray n })
    (hz : its.length ≤ sizeLine) (h : ∀ h' n', Heap.SameBut D s.heap h' → h'.get? D = some { cls := .type "list", data := .seq (its ++ [u]).toArray n' } → Q .none { s with heap := h' }) :
    wpAny (model prog w) A (call (.builtin "list.append") [.ref D, u]) Q E s := by
  have hl : s.heap.IsList D its.toArray := ⟨_, hD, rfl, n, rfl⟩
  refine wpAny_call_entry slot_list_append hl.typeIs entry_list_append ?_ (args_list_append _ _)
  show wpAny _ _ (updateSeq D (·.push u) >>= fun _ => ret .none) _ _ s
  refine wpAny_bind ?_
  obtain ⟨n', e'⟩ := lst_push its n u
  refine wpAny_updateSeq (f := (·.push u)) hD rfl (wpAny_pure ⟨.none, rfl, h _ n' (Heap.SameBut.update ..) ?_⟩) (by rw [List.size_toArray]; exact hz) (by rw [Array.size_push, List.size_toArray]; exact Nat.succ_le_succ hz)
  rw [← e']
  exact Heap.get?_update_self _ hD (by rw [e']; rfl)

theorem comp_block {pins : List (Addr × Obj)} {σ : St} {Q : VK} {E : Value → Shared → Prop} {pos : Pos} {itv : Value} {s₂ : Shared} {RR : Value → Addr → Result → Shared → Prop}
    (S : CompScope X scope) (hc : X.calm = true)
    (hg : ∀ C fp s₀ H₀, PG (X.comp scope T C fp s₀ H₀) target g) (hgo : Outer g X.N.length T.length) (hf : ∀ C fp s₀ H₀, PF (X.comp scope T C fp s₀ H₀) ifs tc) (he : ∀ C fp s₀ H₀, PE (X.comp scope T C fp s₀ H₀) elt te)
    (h : PIE X pins σ target (fun J H1 => ∃ W : Nat → Nat → List V → Hp → Prop, (∃ m, W 0 m [] H1) ∧ ∀ i m ys H, W i m ys H →
      (J.stop i H ∧ ys.length ≤ sizeLine ∧ ∀ D, H D = none → Q (.ref D) (upd H D (.lst ys))) ∨
      (J.go i H ∧ ys.length < sizeLine ∧ ∀ x H', J.yld i H x H' → g x (σ ++ List.replicate T.length none) H' fun σ2 H2 => tc σ2 H2 fun b H3 =>
        if b = true then te σ2 H3 fun y H4 => ∃ m', m' < m ∧ W (i + 1) m' (ys ++ [y]) H4 else ∃ m', m' < m ∧ W (i + 1) m' ys H3)) itv s₂)
    (hRR : ∀ D C s' H' m', Inv X pins σ H' s' → FpOk X pins H' C → s'.heap.Ns C m' → Q (.ref D) H' → RR (.ref D) C (.ok .next) s') :
    wpAny (model X.prog X.w) X.A (newList []) (fun acc s₃ => wpAny (model X.prog X.w) X.A (newFunctionEnv scope X.env.globals (clOf scope X.env) [] X.env.qual none .none (some X.env)) (fun cenv s₄ =>
      codeAny (model X.prog X.w) X.A (.compStart (.ListComp elt [⟨target, iter, ifs, 0⟩] scope pos) 0 itv acc { cenv with scope := relabel scope X.env }) (RR acc cenv.locals) s₄) E s₃) E s₂ := by
  obtain ⟨it, fp, tn, J, H2, rfl, I2, Tn, st2, f2, W, ⟨m0, w0⟩, turn⟩ := h
  refine wpAny_newObj_type (wpAny_newFunctionEnv S.nocell (by intro y hy; simp at hy) (fun h₁ hns₁ hsb₁ => ?_) S.kind)
  dsimp only at hns₁ hsb₁ ⊢
  generalize hH2 : s₂.heap.push { cls := .type "list", dict := none, data := .seq ([] : List Value).toArray } = G at hns₁ hsb₁ ⊢
  have hC : G.objs.size = s₂.heap.objs.size + 1 := by rw [← hH2, Heap.size_push]
  obtain ⟨D, eD⟩ : ∃ D, s₂.heap.objs.size = D := ⟨_, rfl⟩
  obtain ⟨C, eC⟩ : ∃ C, G.objs.size = C := ⟨_, rfl⟩
  rw [eD] at hC ⊢
  rw [eC] at hC hns₁ hsb₁ ⊢
  have hDC : D ≠ C := by omega
  have old : ∀ b o, s₂.heap.get? b = some o → h₁.get? b = some o := fun b o e => by
    have hb := ltN e
    exact hsb₁.extBut b o (neN (by omega)) (Heap.get?_push_of_some _ (hH2 ▸ Heap.get?_push_of_some _ e))
  have hacc : h₁.get? D = some { cls := .type "list", data := .seq ([] : List Value).toArray 0 } := by
    refine hsb₁.extBut _ _ hDC (Heap.get?_push_of_some _ ?_)
    rw [← hH2, ← eD]
    exact Heap.get?_push_size _ rfl
  have fpo : ∀ b ∈ fp, @LT.lt Nat instLTNat b s₂.heap.objs.size := fun b hb => by
    obtain ⟨o, e, _⟩ := Tn.obj _ _ st2 b hb
    exact ltN e
  have ilt : @LT.lt Nat instLTNat X.env.locals s₂.heap.objs.size := I2.lt
  have isz : X.s₀.heap.objs.size ≤ s₂.heap.objs.size := I2.sz
  have HD : H2 D = none := I2.hok.fresh (leN (by omega))
  have HC : H2 C = none := I2.hok.fresh (leN (by omega))
  have nfs : ∀ b : Addr, @LE.le Nat instLENat s₂.heap.objs.size b → b ∉ frs X.stack := fun b hb z => by
    have q := I2.stkSub b z
    rcases List.mem_cons.mp q with q | q
    · rw [← q] at ilt; exact absurd ilt (Nat.not_lt.mpr hb)
    · exact I2.nofs hb q
  have cellLt : ∀ x c, X.env.cells.lookup x = some c → @LT.lt Nat instLTNat c s₂.heap.objs.size := fun x c e => by
    obtain ⟨v, q⟩ := I2.cell x c e
    exact q.lt
  let X' : Cx := X.comp scope T C fp s₂ H2
  have ok' : X'.Ok := {
    mod := I2.ok.mod, kind := S.kind, glob := I2.ok.glob, blt := I2.ok.blt
    above := leN (by show @LE.le Nat instLENat s₂.heap.objs.size C; omega)
    inj := fun x y c h1 h2 => I2.ok.inj x y c (S.cl_old I2 h1) (S.cl_old I2 h2)
    has := fun x hx => S.cl_has (S.kindOf hx)
    cab := fun x c hx => absurd (show false = true from hx) (by simp)
    hd := I2.ok.hd, frames := I2.ok.frames, stk := .inl rfl
    exf := fun b hb => ⟨neN (by have := fpo b hb; show @Ne Nat b C; omega), fun x c e => (f2 b hb).2.2.2.2.1 x c (S.cl_old I2 e)⟩
    bs := I2.bs, bsz := Nat.le_trans I2.ok.bsz I2.sz
    noex := fun b o e hb => by
      obtain ⟨e0, n0⟩ := I2.ok.bs b o e
      rcases (f2 b hb).2.2.2.1 with q | q
      · exact I2.ok.noex b o e q
      · have q' : @LE.le Nat instLENat X.s₀.heap.objs.size b := q
        have := ltN e0; omega
    exfs := fun b hb z => by
      rcases List.mem_cons.mp (I2.stkSub b z) with q | q
      · exact (f2 b hb).2.1 q
      · exact (f2 b hb).2.2.1 q
    funs := I2.stack, frf := I2.stkFree }
  have I4 : ∀ tk, 0 < tk → Inv X' pins (σ ++ List.replicate T.length none) H2 { s₂ with heap := h₁, toks := tk } := fun tk htk => {
    tk := htk, ok := ok', os := rfl, bare := I2.bare, base := Un.kept old
    loc := ⟨_, hns₁, fun i x v e1 e2 e3 => by
      have hi : i < σ.length := by
        by_cases hi : i < σ.length
        · exact hi
        · rw [List.getElem?_append_right (by omega), List.getElem?_replicate] at e2
          split at e2 <;> cases e2
      rw [List.getElem?_append_left hi] at e2
      have hi' : i < X.N.length := by rw [← I2.len]; exact hi
      have e1' : X.N[i]? = some x := by
        have : (X.N ++ T)[i]? = some x := e1
        rw [List.getElem?_append_left hi'] at this; exact this
      have hfr := S.vis (List.mem_of_getElem? e1') e3
      obtain ⟨m, hn, hl⟩ := I2.loc
      have hk := S.free x hfr
      obtain ⟨u, r, l⟩ := hl i x v e1' e2 (.inr hk)
      refine ⟨u, r, .inr ⟨S.back hfr, ?_⟩⟩
      rcases l with ⟨l, _⟩ | ⟨_, c, e, z⟩
      · rw [l] at hk; rcases hk with q | q <;> cases q
      · obtain ⟨c', e'⟩ := S.cl_has hfr
        have e'' := S.cl_old I2 e'
        rw [e] at e''; cases e''
        exact ⟨c, e', z.keeps old⟩⟩
    cell := fun x c e => by
      obtain ⟨v, z⟩ := I2.cell x c (S.cl_old I2 e)
      exact ⟨v, z.keeps old⟩
    free := HC, freeC := fun x c e => I2.freeC x c (S.cl_old I2 e)
    pin := fun p hp => by
      obtain ⟨a, b, c, d, e⟩ := I2.pin p hp
      have hlt := ltN a
      refine ⟨old _ _ a, b, neN (by show @Ne Nat p.1 C; omega), fun z => ?_, e⟩
      rcases List.mem_cons.mp (I2.stkSub _ z) with q | q
      · exact c q
      · exact d q
    hok := I2.hok.kept old
    len := by show (σ ++ _).length = (X.N ++ T).length; rw [List.length_append, List.length_append, List.length_replicate, I2.len] }
  have fpk : ∀ (pins' : List (Addr × Obj)) (H' : Hp), (∀ p ∈ pins', p ∈ pins ∨ p.1 = D) → (∀ b ∈ fp, H' b = none) → ∀ b ∈ fp, FpOk X' pins' H' b := fun pins' H' hp hn b hb => by
    obtain ⟨_, q1, q2, q3, q4, q5⟩ := f2 b hb
    have hlt := fpo b hb
    refine ⟨hn b hb, neN (by show @Ne Nat b C; omega), ok'.exfs b hb, .inl hb, (ok'.exf b hb).2, fun p hpp => ?_⟩
    rcases List.mem_append.mp hpp with z | z
    · exact q5 p (List.mem_append_left _ z)
    · rcases hp p z with z | z
      · exact q5 p (List.mem_append_right _ z)
      · rw [z]; exact neN (by omega)
  have stay : Tn.keep = Tn.keep := rfl
  have loop : ∀ s₃ : Shared, s₃ = { s₂ with heap := h₁, toks := s₂.toks + ([] : List (Str × Value)).length } →
      codeAny (model X.prog X.w) X.A (.compLoop (.ListComp elt [⟨target, iter, ifs, 0⟩] scope pos) 0 (.ref it) (.ref D) X'.env) (RR (.ref D) C) s₃ := by
    rintro s₃ rfl
    refine codeAny_compLoop_go (fun n s' => ∃ i σ' H' ys its k, Inv X' pins σ' H' s' ∧ (σ'.length = X.N.length + T.length ∧ ∀ (i : Nat) v, (σ ++ List.replicate T.length none)[i]? = some (some v) → σ'[i]? = some (some v)) ∧
      s'.heap.get? D = some { cls := .type "list", data := .seq (its : List Value).toArray k } ∧ Vals ys its ∧ H' D = none ∧ tn i s'.heap ∧ (∀ b ∈ fp, H' b = none) ∧ W i n ys H') ?_ m0
      ⟨0, _, H2, [], [], 0, I4 _ I2.tk, ⟨by rw [List.length_append, List.length_replicate, I2.len], fun _ _ e => e⟩, hacc, .nil, HD, Tn.keep _ _ _ st2 fun b _ o e => old b o e, fun b hb => (f2 b hb).1, w0⟩
    rintro n s3 ⟨i, σ3, H3, ys, its, k, I3, ⟨hl3, hs3⟩, hD3, hv3, hH3, st3, fr3, w3⟩
    have hlen : its.length = ys.length := hv3.length.symm
    have D_fs : D ∉ X'.fs := nfs D (by omega)
    have DC' : D ≠ X'.env.locals := hDC
    -- D is pinned while the block runs
    have I3p : Inv X' (pins ++ [(D, { cls := .type "list", data := .seq its.toArray k })]) (σ ++ List.replicate T.length none) H3 s3 :=
      (I3.weak (by rw [hl3, List.length_append, List.length_replicate, I2.len]) hs3).pins_of fun p hp => by
        rcases List.mem_append.mp hp with z | z
        · exact I3.pin p (List.mem_append_right _ z)
        · have e := List.mem_singleton.mp z
          subst e
          exact ⟨hD3, hH3, DC', D_fs, fun v z => by cases z⟩
    have pinsD : ∀ p ∈ pins ++ [(D, ({ cls := .type "list", data := .seq its.toArray k } : Obj))], p ∈ pins ∨ p.1 = D := fun p hp => by
      rcases List.mem_append.mp hp with z | z
      · exact .inl z
      · exact .inr (by rw [List.mem_singleton.mp z])
    rcases turn i n ys H3 w3 with ⟨stop, hz, qn⟩ | ⟨go, hz, step⟩
    · refine thn (Tn.done X' rfl rfl rfl hc i _ s3 _ H3 _ I3p (fpk _ H3 pinsD fr3) st3 stop) fun r s4 ⟨hr, I4'⟩ => ?_
      subst hr
      obtain ⟨hD4, hH4, _⟩ := I4'.pin (D, _) (List.mem_append_right _ (List.mem_append_right _ List.mem_cons_self))
      obtain ⟨m', hn', _⟩ := I4'.loc
      have un : Un (frs X.stack) fp H2 (upd H3 D (.lst ys)) s₂.heap s4.heap := {
        keep := I4'.base.keep, slot := I4'.base.slot
        free := fun b o e n hx => by
          have := ltN e
          rw [upd_ne (neN (by omega))]
          exact I4'.base.free b o e n hx
        there := I4'.base.there
        tups := fun b xs e => by rw [upd_ne (fun z => by rw [z, HD] at e; cases e)]; exact I4'.base.tups b xs e
        frzs := fun b o u e => by rw [upd_ne (fun z => by rw [z, HD] at e; cases e)]; exact I4'.base.frzs b o u e
        tbls := fun b ps e => by rw [upd_ne (fun z => by rw [z, HD] at e; cases e)]; exact I4'.base.tbls b ps e }
      have hok : HOk X.prog X.w (upd H3 D (.lst ys)) s4.heap := fun b u e => by
        by_cases hb : b = D
        · subst hb
          rw [upd_same] at e; cases e
          exact ⟨hz, its, k, hv3, hD4⟩
        · rw [upd_ne hb] at e
          refine (I4'.hok b u e).stay (fun _ _ _ q => q) (fun c q => ?_) fun c xs q => ?_
          · rw [upd_ne (ne_of_none q hH3)]; exact q
          · rw [upd_ne (ne_of_none q hH3)]; exact q
      have I5 : Inv X pins σ (upd H3 D (.lst ys)) s4 := I2.call' (ch := fp) I4'.os un hok I4'.bare fun b hb => ⟨(f2 b hb).2.2.2.1, (f2 b hb).2.1, (f2 b hb).2.2.2.2.1, (f2 b hb).2.2.2.2.2⟩
      refine hRR D C s4 _ m' I5 ?_ hn' (qn D hH3)
      refine ⟨by rw [upd_ne (Ne.symm hDC)]; exact I4'.free, ?_, ?_, .inr ?_, fun x c e => ?_, fun p hp => ?_⟩
      · exact neN (by omega)
      · exact I2.nofs (leN (by omega))
      · exact leN (by omega)
      · exact neN (by have := cellLt x c e; omega)
      · exact neN (by have := ltN (I2.pin p hp).1; omega)
    · refine thn (Tn.item X' rfl rfl rfl hc i _ s3 _ H3 _ I3p (fpk _ H3 pinsD fr3) st3 go) fun r s4 ⟨u, hr, h4⟩ => ?_
      subst hr
      refine thn h4 fun _ s5 ⟨x, H5, I5, r5, y5, st5, fr5⟩ => ?_
      have I5' := I5.pinned (fpk _ H5 pinsD fr5) (Tn.obj _ _ st5)
      refine wpAny_mono ((hg C fp s₂ H2) _ s5 _ H5 x u _ I5' r5 (hgo σ I2.len x H5 _ (step x H5 y5))) (fun _ s6 ⟨σ6, H6, I6, ⟨hl6, hs6⟩, q6⟩ => ?_) fun _ _ z => z
      refine wpAny_mono ((hf C fp s₂ H2) _ s6 σ6 H6 _ I6 q6) (fun b s7 ⟨H7, I7, q7⟩ => ?_) fun _ _ z => z
      have fin : ∀ {s8 : Shared} {H8 : Hp} (I8 : Inv X' ((pins ++ [(D, { cls := .type "list", data := .seq its.toArray k })]) ++ pinsAt fp s5.heap) σ6 H8 s8), tn (i + 1) s8.heap ∧ (∀ b ∈ fp, H8 b = none) ∧ s8.heap.get? D = some { cls := .type "list", data := .seq its.toArray k } ∧ H8 D = none ∧ Inv X' pins σ6 H8 s8 := fun {s8 H8} I8 => by
        refine ⟨Tn.keep _ _ _ st5 fun b hb o e => (I8.pin (b, o) (List.mem_append_right _ (List.mem_append_right _ (mem_pinsAt hb e)))).1, fun b hb => ?_, ?_, ?_, I8.unpinned.unpinned⟩
        · obtain ⟨o, e, d⟩ := Tn.obj _ _ st5 b hb
          exact (I8.pin (b, o) (List.mem_append_right _ (List.mem_append_right _ (mem_pinsAt hb e)))).2.1
        · exact (I8.pin (D, _) (List.mem_append_right _ (List.mem_append_left _ (List.mem_append_right _ List.mem_cons_self)))).1
        · exact (I8.pin (D, _) (List.mem_append_right _ (List.mem_append_left _ (List.mem_append_right _ List.mem_cons_self)))).2.1
      cases b with
      | false =>
        rw [if_neg Bool.false_ne_true] at q7 ⊢
        obtain ⟨m', hm, w7⟩ := q7
        obtain ⟨a1, a2, a3, a4, a5⟩ := fin I7
        exact ⟨m', hm, i + 1, σ6, H7, ys, its, k, a5, ⟨hl6, hs6⟩, a3, hv3, a4, a1, a2, w7⟩
      | true =>
        rw [if_pos rfl] at q7 ⊢
        refine wpAny_mono ((he C fp s₂ H2) _ s7 σ6 H7 _ I7 q7) (fun v s8 ⟨y, H8, I8, r8, m', hm, w8⟩ => ?_) fun _ _ z => z
        obtain ⟨a1, a2, a3, a4, a5⟩ := fin I8
        refine append_acc a3 (by omega) fun h9 k9 hs9 hD9 => ?_
        have nD : ∀ b ∈ fp, b ≠ D := fun b hb => neN (by have := fpo b hb; omega)
        refine ⟨m', hm, i + 1, σ6, H8, ys ++ [y], its ++ [v], k9, ?_, ⟨hl6, hs6⟩, hD9, hv3.append (.cons r8 .nil), a4, Tn.keep _ _ _ a1 fun b hb o e => (hs9.2 b (nD b hb)).trans e, a2, w8⟩
        exact a5.turned (t' := s8.toks) (it := D) (fun b o hb e => (hs9.2 b hb).trans e) a4 DC' (.inr (leN (by show @LE.le Nat instLENat s₂.heap.objs.size D; omega))) (fun x c e => neN (by have := cellLt x c (S.cl_old I2 e); omega)) fun p hp => neN (by
          have := ltN (I2.pin p hp).1; omega)
  exact codeAny_compStart_list (loop _ rfl) (Tn.self _ _ _ _ _ (Tn.keep _ _ _ st2 fun b _ o e => old b o e) (loop _ rfl))
end
end L2
namespace L2
open PySem PySem.Spec PyProof.Rows
section
variable {X : Cx} {scope : Scope} {T : List Str} {elt target iter : Expr} {ifs : List Expr} {wi : TI} {g : TG} {tc : TT} {te : TE}
theorem pe_lc (T : List Str) {pos : Pos} (S : CompScope X scope) (hc : X.calm = true) (hi : PI X target iter wi) (hg : ∀ C fp s₀ H₀, PG (X.comp scope T C fp s₀ H₀) target g) (hgo : Outer g X.N.length T.length)
    (hf : ∀ C fp s₀ H₀, PF (X.comp scope T C fp s₀ H₀) ifs tc) (he : ∀ C fp s₀ H₀, PE (X.comp scope T C fp s₀ H₀) elt te)
    (hs : ∀ x, foldedSetIterable iter X.env x = pure x := by intro _; rfl) : PE X (.ListComp elt [⟨target, iter, ifs, 0⟩] scope pos) (tLC T.length wi g tc te) := by
  intro pins s σ H Q I h
  rw [eval_ListComp]
  refine wpAny_comprehension_free (use := none) rfl hs (S.clo I) S.kind S.names (thn (hi pins s σ H _ I h) fun v s1 h1 => thn h1 fun itv s2 h2 => ?_)
  refine comp_block (RR := fun acc C => compPost (model X.prog X.w) X.A X.xe none (EP X pins σ Q) acc C) S hc hg hgo hf he h2 ?_
  intro D C s' H' m' I' f' hn q
  exact ⟨m', hn, fun h' hs' => ⟨.ref D, H', I'.turned (t' := s'.toks) (it := C) (fun b o hb e => (hs'.2 b hb).trans e) f'.1 (Ne.symm (Ne.symm f'.2.1)) f'.2.2.2.1 f'.2.2.2.2.1 f'.2.2.2.2.2, rfl, q⟩⟩
theorem ps_setLC (T : List Str) {i : Nat} {x : Str} {px lp pos : Pos} (hN : X.N.Nodup) (hix : X.N[i]? = some x) (hx : Loc X.env.scope x) (S : CompScope X scope) (hc : X.calm = true) (hi : PI X target iter wi)
    (hg : ∀ C fp s₀ H₀, PG (X.comp scope T C fp s₀ H₀) target g) (hgo : Outer g X.N.length T.length)
    (hf : ∀ C fp s₀ H₀, PF (X.comp scope T C fp s₀ H₀) ifs tc) (he : ∀ C fp s₀ H₀, PE (X.comp scope T C fp s₀ H₀) elt te)
    (hsw : swapsWith (.ListComp elt [⟨target, iter, ifs, 0⟩] scope lp) (some (.Name x px)) pos.line X.env = pure true := by rfl)
    (hfn : X.fn x = true ∨ X.env.scope.names.lookup x = some .local := by first | exact .inl rfl | exact .inr rfl | assumption)
    (hs : ∀ x, foldedSetIterable iter X.env x = pure x := by intro _; rfl) : PS X (.Assign [.Name x px] (.ListComp elt [⟨target, iter, ifs, 0⟩] scope lp) pos) (tAsg (tLC T.length wi g tc te) (gName i)) := by
  intro pins s σ H D I h
  rw [exec_Assign_Name_used _ _ _ _ hsw]
  refine wpAny_bind (wpAny_standAt (wpAny_bind ?_))
  show wpAny _ X.A (do let _ ← comprehension (.ListComp elt [⟨target, iter, ifs, 0⟩] scope lp) scope X.env _ (newList []) false (eval iter X.env) (some (assign (.Name x px) X.env))) _ _ s
  refine wpAny_bind (wpAny_mono (wpAny_comprehension_free (use := some (assign (.Name x px) X.env)) (Q := fun _ s' => SP X pins D .next s') rfl hs (S.clo I) S.kind S.names
    (thn (hi pins s σ H _ I h) fun v s1 h1 => thn h1 fun itv s2 h2 => ?_)) (fun _ s' hq => wpAny_pure (wpAny_pure hq)) fun _ _ e => e)
  refine comp_block (RR := fun acc C => compPost (model X.prog X.w) X.A X.xe (some (assign (.Name x px) X.env)) (fun _ s' => SP X pins D .next s') acc C) (pins := pins) (σ := σ) (Q := fun x H1 => gName i x σ H1 D.nx) S hc hg hgo hf he h2 ?_
  intro A C s' H' m' I' f' hn q
  show wpAny _ X.A (assign (.Name x px) X.env (.ref A)) _ _ s'
  refine wpAny_assign_Name (store_ok2 I' hN hix hx (v := .ref A) rfl (fun s'' I'' ⟨a, hs, ha⟩ _ => ?_) hfn)
  have hCa : C ≠ a := by
    rcases ha with z | z
    · rw [z]; exact f'.2.1
    · exact fun e => f'.2.2.2.2.1 x a z e.symm
  exact ⟨m', hn.sameBut hs hCa, fun h' hs' => ⟨_, H', I''.turned (t' := s''.toks) (it := C) (fun b o hb e => (hs'.2 b hb).trans e) f'.1 f'.2.1 f'.2.2.2.1 f'.2.2.2.2.1 f'.2.2.2.2.2, q⟩⟩
end
/-- the comprehension's scope is in order, decided -/
def compOk (outer : Scope) (N : List Str) (sc : Scope) : Bool :=
  decide (sc.kind = .function) && sc.names.all (fun p => decide (p.2 ≠ .cell) && (decide (p.2 ≠ .local) || decide (sc.names.lookup p.1 = some .local)) && (decide (p.2 ≠ .free) || (decide (outer.names.lookup p.1 = some .cell) || decide (outer.names.lookup p.1 = some .free))))
    && N.all (fun x => decide (sc.names.lookup x ≠ some .local))
theorem compOk.mk {X : Cx} {sc : Scope} (h : compOk X.env.scope X.N sc = true) : CompScope X sc := by
  unfold compOk at h
  rw [Bool.and_eq_true, Bool.and_eq_true, List.all_eq_true, List.all_eq_true] at h
  obtain ⟨⟨h1, h2⟩, h3⟩ := h
  have fm : ∀ n, (n, NameKind.free) ∈ sc.names → X.env.kindOf n = some .cell ∨ X.env.kindOf n = some .free := fun n hn => by
    have q := h2 _ hn
    simp only [Bool.and_eq_true, Bool.or_eq_true, decide_eq_true_eq] at q
    rcases q.2 with z | z
    · exact absurd rfl z
    · exact z
  refine ⟨of_decide_eq_true h1, fun y hy => ?_, fun y hy e => ?_, fun n hn => fm n (PySem.mem_of_lookup hn), fm, fun x hx => of_decide_eq_true (h3 x hx)⟩
  · have q := h2 _ hy
    simp only [Bool.and_eq_true, Bool.or_eq_true, decide_eq_true_eq] at q
    exact q.1.1
  · have q := h2 _ hy
    simp only [Bool.and_eq_true, Bool.or_eq_true, decide_eq_true_eq] at q
    rcases q.1.2 with z | z
    · exact absurd e z
    · exact z
/-- one name -/
theorem outer_name (n : Nat) : Outer (gName n) n 1 := by
  intro σ hl x H Q h
  refine ⟨⟨by simp [hl], fun i v e => ?_⟩, h⟩
  by_cases hi : i = n
  · subst hi
    rw [List.getElem?_append_right (by omega)] at e
    simp [hl] at e
  · rw [List.getElem?_set_ne (Ne.symm hi)]; exact e
end L2

namespace L2
open PySem PySem.Spec PyProof.Rows
theorem bt_isinstance : bootBuiltins "isinstance" = some (.builtin "isinstance") := by decide +kernel
theorem bt_int : bootBuiltins "int" = some (.type "int") := by decide +kernel
theorem bt_list : bootBuiltins "list" = some (.type "list") := by decide +kernel
theorem bt_len : bootBuiltins "len" = some (.builtin "len") := by decide +kernel
theorem huK {A : Around} {k : Nat} (hr : Room k A) : A.units + 128 < cLine := by have := hr.un; omega
theorem small {n : Nat} (h : n ≤ 1000) : n ≤ sizeLine := Nat.le_of_lt (small1000 h)
/-- a def that keeps its promise at every depth -/
theorem Cal.of {P : Program} {w : World} {K : PySem.W.Frag} {mg : Str → Option Value} {base : Heap} {k : Nat} {x : Str} {ps : List Str} {sp : Sp} {f : Addr} {fd : FuncData} (F : FnOk P w K mg base CX0 k f fd ps sp) (b : Binds K fd ps []) (kp : PySem.W.keepIn K (.ref f) = true) (m : mg x = some (.ref f)) :
    Cal P w K mg base k x ps sp := ⟨f, fd, F, b, kp, m⟩
/-- nothing is promised -/
theorem FnOk.never {P : Program} {w : World} {K : PySem.W.Frag} {mg : Str → Option Value} {base : Heap} {k : Nat} {ps : List Str} {sp : Sp} {f : Addr} {fd : FuncData} (no : ∀ vs H Q E, ¬ sp vs H Q E) : FnOk P w K mg base CX0 k f fd ps sp :=
  ⟨fun vs H Q E h => absurd h (no vs H Q E), fun A outer s H args us vs Q E _ _ _ _ h => absurd h (no vs H Q E)⟩
/-! ### the same with the part of the top, the program and the world by name (within comprehensions) -/
section
variable {X : Cx} (K : PySem.W.Frag) (P : Program) (w : World)
end
end L2

namespace L2
open PySem PySem.Spec PyProof.Rows
/-! ### what stands at the top -/
structure DefIn (K : PySem.W.Frag) (x : Str) (st : Stmt) : Prop where
  ex : ∃ (f : Addr) (kV doc pm : Value) (an : Option Addr) (cdv ct : Value), PySem.W.nsIn K mainGlobals x = some (some (.ref f)) ∧ Fun K x x st f (PySem.W.fnOf x x (defArgs st) (defBody st) (defScope st) .none kV doc pm an cdv ct)
theorem def_in {K : PySem.W.Frag} {x : Str} {st : Stmt} {f : Addr} {oc : Value} {od an : Option Addr} {osl : Array (Option Value)} {kV doc pm cdv ct : Value} (a : PySem.W.nsIn K mainGlobals x = some (some (.ref f)))
    (l : K.lookup f = some ⟨oc, od, .func (PySem.W.fnOf x x (defArgs st) (defBody st) (defScope st) .none kV doc pm an cdv ct), osl⟩) (c : PySem.W.codeIn K cdv x = true) (k : PySem.W.keepIn K (.ref f) = true) : DefIn K x st :=
  ⟨f, kV, doc, pm, an, cdv, ct, a, fun_mk (st := st) l c k⟩
theorem DefIn.use {K : PySem.W.Frag} {x : Str} {st : Stmt} {ps : List Str} {h : Heap} {mg : Str → Option Value} (D : DefIn K x st) (X : K.In h) (G : h.Ns mainGlobals mg)
    (hb : ∀ (kV doc pm : Value) (an : Option Addr) (cdv ct : Value) (us : List Value), us.length = ps.length → bindArgs (PySem.W.fnOf x x (defArgs st) (defBody st) (defScope st) .none kV doc pm an cdv ct) ⟨us, []⟩ = pure (ps.zip us)) :
    ∃ f fd, Fun K x x st f fd ∧ Binds K fd ps [] ∧ mg x = some (.ref f) := by
  obtain ⟨f, kV, doc, pm, an, cdv, ct, a, F⟩ := D.ex
  exact ⟨f, _, F, Binds.all (hb kV doc pm an cdv ct), PySem.W.mg_of X G a⟩
/-- a dict of texts by texts -/
def rowOf (w : World) (r : Str × Tok × Str × Tok) : DictEntry := ⟨hashStr w r.1, .str r.1 r.2.1, .str r.2.2.1 r.2.2.2⟩
theorem kd_in {K : PySem.W.Frag} {P : Program} {w : World} {c : Addr} {ep : Nat} (rows : List (Str × Tok × Str × Tok)) (l : K.lookup c = some ⟨.type "dict", none, .dict (rows.map (rowOf w)).toArray ep, #[]⟩) (hs : (c == sysModules) = false) (hz : rows.length ≤ 1000) (nd : (rows.map fun r => (Sum.inr r.1 : Key)).Nodup) :
    KD K P w c (rows.map fun r => (Sum.inr r.1, .str r.2.2.1)) := by
  refine ⟨hs, by rw [List.length_map]; exact small hz, fun h X => ⟨rows.map fun r => (Sum.inr r.1, .str r.2.2.1 r.2.2.2), ?_, _, _, ep, X c _ l, ⟨rfl, rfl, rfl⟩, rfl, ?_, ?_, ?_⟩⟩
  · unfold KV
    clear l hz nd
    induction rows with
    | nil => exact .nil
    | cons r t ih => exact .cons ⟨rfl, _, rfl⟩ ih
  · intro e he
    have he' : e ∈ rows.map (rowOf w) := by simpa using he
    obtain ⟨r, _, rfl⟩ := List.mem_map.mp he'
    exact ⟨Sum.inr r.1, keyIs_str r.1 r.2.1, rfl⟩
  · show Pairs _ (rows.map (rowOf w)).toArray.toList _
    rw [List.toList_toArray]
    clear l hz nd
    induction rows with
    | nil => exact .nil
    | cons r t ih => exact .cons (keyIs_str r.1 r.2.1) rfl ih
  · rw [List.map_map]; exact nd
end L2
namespace Words
open PySem L2
/-! ### words as data -/
inductive Wd where
  | leaf (t : Bool) (n : Str)
  | node (e : Bool) (l r : Wd)
def kL : Bool → Str
  | false => "plain"
  | true => "turned"
def kN : Bool → Str
  | false => "both"
  | true => "either"
def Wd.turn : Wd → Wd
  | .leaf t n => .leaf (!t) n
  | .node e l r => .node (!e) l.turn r.turn
def Wd.depth : Wd → Nat
  | .leaf _ _ => 1
  | .node _ l r => max l.depth r.depth + 1
def Wd.leaves : Wd → Nat
  | .leaf _ _ => 1
  | .node _ l r => l.leaves + r.leaves
def enc : Wd → Da
  | .leaf t n => .tup [.s (.str (kL t)), .s (.str n)]
  | .node e l r => .tup [.s (.str (kN e)), enc l, enc r]
/-- a NAME -/
def NameOk (x : Str) : Prop := 1 ≤ x.length ∧ x.length ≤ 8 ∧ ∀ c ∈ x.cps.toList, 97 ≤ c ∧ c ≤ 122
def Wd.ok : Wd → Prop
  | .leaf _ n => NameOk n
  | .node _ l r => l.ok ∧ r.ok
theorem Paired.getP {α β : Type} {F : α → β → Prop} : ∀ {xs : List α} {ys : List β} {i : Nat} {x : α}, Paired F xs ys → xs[i]? = some x → ∃ y, ys[i]? = some y ∧ F x y
  | _, _, _, _, .nil, h => by simp at h
  | _, _, 0, _, .cons (b := y) r _, h => by simp at h; subst h; exact ⟨y, rfl, r⟩
  | _, _, i + 1, _, .cons _ t, h => by
    obtain ⟨y, e, q⟩ := Paired.getP (i := i) t (by simpa using h)
    exact ⟨y, by simpa using e, q⟩
end Words

namespace L2
open PySem PySem.Spec PyProof.Rows
section
variable {X : Cx} {pins : List (Addr × Obj)} {σ : St} {H : Hp} {s : Shared}
theorem rn_tuples {A : Around} {n m : Nat} {a b : Addr} {xs ys : List V} {ds es : List Da} (I : Inv X pins σ H s) (hu : A.units < cLine) (sx : SqT X.K H a xs) (sy : SqT X.K H b ys) (px : Paired (RepN X.K H n) xs ds) (py : Paired (RepN X.K H m) ys es)
    (ih : ∀ {x y : V} {d e : Da} {u v : Value}, RepN X.K H n x d → RepN X.K H m y e → RelV x u → RelV y v → SeqAt.EqAt A.in1 s u v (Da.eq d e)) : SeqAt.RcNeAt A s (.ref a) (.ref b) (!Da.eqs ds es) := by
  obtain ⟨us, vx, tx, _⟩ := I.tuple sx
  obtain ⟨vs, vy, ty, _⟩ := I.tuple sy
  have q := SeqAt.RcNeAt.tuples tx ty hu (items_eq px py vx vy ih)
  rw [List.size_toArray, List.size_toArray, ← vx.length, ← vy.length, px.length, py.length, Da.eqs_range] at q
  exact q
theorem rn_lists {A : Around} {n m : Nat} {a b : Addr} {xs ys : List V} {ds es : List Da} (I : Inv X pins σ H s) (hu : A.units < cLine) (sx : SqL X.K H a xs) (sy : SqL X.K H b ys) (px : Paired (RepN X.K H n) xs ds) (py : Paired (RepN X.K H m) ys es)
    (ih : ∀ {x y : V} {d e : Da} {u v : Value}, RepN X.K H n x d → RepN X.K H m y e → RelV x u → RelV y v → SeqAt.EqAt A.in1 s u v (Da.eq d e)) : SeqAt.RcNeAt A s (.ref a) (.ref b) (!Da.eqs ds es) := by
  obtain ⟨us, vx, tx, _⟩ := I.list sx
  obtain ⟨vs, vy, ty, _⟩ := I.list sy
  by_cases hz : us.toArray.size = vs.toArray.size
  · have q := SeqAt.RcNeAt.lists (plain_list tx) (plain_list ty) hz hu (items_eq px py vx vy ih)
    have hz' : ds.length = es.length := by rw [← px.length, ← py.length, vx.length, vy.length]; simpa using hz
    have e := Da.eqs_range ds es
    rw [hz', Nat.min_self] at e
    rw [← hz'] at e
    rw [List.size_toArray, ← vx.length, px.length] at q
    simp only [beq_self_eq_true, Bool.and_true] at e
    rw [e] at q
    exact q
  · have q := SeqAt.RcNeAt.lists_lengths (plain_list tx) (plain_list ty) (by simpa using hz) hu
    have hz' : ds.length ≠ es.length := by
      rw [← px.length, ← py.length, vx.length, vy.length]
      intro z; exact hz (by simpa using z)
    have e := Da.eqs_range ds es
    have f : (ds.length == es.length) = false := by simpa using hz'
    rw [f, Bool.and_false] at e
    rw [← e]
    exact q
end
section
variable {X : Cx}
/-- != -/
def uNe (K : PySem.W.Frag) (k : Nat) : R2 := fun x y H Q => match x, y with
  | .ref a, .ref b => ∃ n m d e, n ≤ k ∧ RepN K H n (.ref a) d ∧ RepN K H m (.ref b) e ∧ Q (.bl (!Da.eq d e)) H
  | x, y => scal x y = true ∧ Q (.bl (!decide (x = y))) H
theorem op_uNe {k : Nat} (hu : X.A.units + k < cLine) : OpR X (compareOp .NotEq) (uNe X.K k) := by
  intro pins s σ H x y v u Q I rx ry h
  cases x with
  | ref a =>
    cases y with
    | ref b =>
      obtain ⟨n, m, d, e, hn, h1, h2, q⟩ := h
      cases rx; cases ry
      have fin : ∀ {k : Bool}, k = (!Da.eq d e) → SeqAt.RcNeAt X.A s (.ref a) (.ref b) k → wpAny (model X.prog X.w) X.A (compareOp .NotEq (.ref a) (.ref b)) (EP X pins σ Q) X.xe s := fun {k} e' r =>
        r X.prog X.w X.xe (EP X pins σ Q) (by rw [e']; exact ⟨.bl _, H, I, rfl, q⟩)
      cases n with
      | zero => exact (flat_noref h1.2).elim
      | succ n =>
        cases m with
        | zero => exact (flat_noref h2.2).elim
        | succ m =>
          have hin : X.A.in1.units + n < cLine := by show X.A.units + 1 + n < cLine; omega
          rcases h1 with ⟨_, f⟩ | ⟨a', xs, ds, e1, rfl, sx, px⟩ | ⟨a', xs, ds, e1, rfl, sx, px⟩
          · exact (flat_noref f).elim
          · cases e1
            rcases h2 with ⟨_, f⟩ | ⟨b', ys, es, e2, rfl, sy, py⟩ | ⟨b', ys, es, e2, rfl, sy, py⟩
            · exact (flat_noref f).elim
            · cases e2
              exact fin rfl (rn_tuples I (by omega) sx sy px py fun h1 h2 r1 r2 => eqAt_D I n hin h1 h2 r1 r2)
            · cases e2
              obtain ⟨us, vx, tx, _⟩ := I.tuple sx
              obtain ⟨vs, vy, ty, _⟩ := I.list sy
              exact fin rfl (.tuple_list tx (plain_list ty) (by omega))
          · cases e1
            rcases h2 with ⟨_, f⟩ | ⟨b', ys, es, e2, rfl, sy, py⟩ | ⟨b', ys, es, e2, rfl, sy, py⟩
            · exact (flat_noref f).elim
            · cases e2
              obtain ⟨us, vx, tx, _⟩ := I.list sx
              obtain ⟨vs, vy, ty, _⟩ := I.tuple sy
              exact fin rfl (.list_tuple (plain_list tx) ty (by omega))
            · cases e2
              exact fin rfl (rn_lists I (by omega) sx sy px py fun h1 h2 r1 r2 => eqAt_D I n hin h1 h2 r1 r2)
    | _ => exact op_ne pins s σ H _ _ v u Q I rx ry h
  | _ => cases y <;> exact op_ne pins s σ H _ _ v u Q I rx ry h
end
theorem bt_bool : bootBuiltins "bool" = some (.type "bool") := by decide +kernel
end L2

namespace Words
open PySem L2
def Wd.leafL : Wd → List Wd
  | .leaf t n => [.leaf t n]
  | .node _ l r => l.leafL ++ r.leafL
theorem Wd.leafL_len : ∀ w : Wd, w.leafL.length = w.leaves
  | .leaf _ _ => rfl
  | .node _ l r => by show (l.leafL ++ r.leafL).length = l.leaves + r.leaves; rw [List.length_append, Wd.leafL_len l, Wd.leafL_len r]
theorem Wd.leafL_leaf : ∀ {w : Wd} {x : Wd}, x ∈ w.leafL → ∃ t n, x = .leaf t n
  | .leaf t n, x, h => ⟨t, n, List.mem_singleton.mp h⟩
  | .node _ l r, x, h => by
    rcases List.mem_append.mp h with h | h
    · exact Wd.leafL_leaf h
    · exact Wd.leafL_leaf h
end Words

namespace L2
open PySem PySem.Spec PyProof.Rows
/-! ### exceptions of one's own classes -/
section
variable {X : Cx} {pins : List (Addr × Obj)} {σ : St} {H : Hp} {s : Shared} {a C : Addr} {tr : Option Addr}
end
end L2

namespace L2
open PySem PySem.Spec PyProof.Rows
section
variable {X : Cx} {pins : List (Addr × Obj)} {σ : St} {H H' : Hp} {s s' : Shared} {a b C T : Addr} {tr : Option Addr} {E1 : X1}
end
section
variable {X : Cx} {k : Nat} {f C : Addr} {fd : FuncData} {ps : List Str} {sp : Sp} {E1 : X1} {x : Str} {p pos : Pos} {e : Expr} {es : List Expr} {t : TA}
end
end L2

namespace L2
open PySem PySem.Spec PyProof.Rows
section
variable {X : Cx} {pins : List (Addr × Obj)} {σ : St} {H : Hp} {s : Shared} {a C T : Addr} {tr : Option Addr} {h' : Heap}
end
end L2

namespace L2
open PySem PySem.Spec PyProof.Rows
section
variable {X : Cx} {pins : List (Addr × Obj)} {σ : St} {H : Hp} {s : Shared} {a C T : Addr}
end
end L2

namespace L2
open PySem PySem.Spec PyProof.Rows
end L2

namespace L2
open PySem PySem.Spec PyProof.Rows PySem.W
open Builtin.ObjectAttr in
section
variable {prog : Program} {w : World} {A : Around} {E : Value → Shared → Prop} {s : Shared} {K : Frag} {a C : Addr}
open Builtin Builtin.ObjectAttr Builtin.Getset_descriptor in
end
end L2

namespace L2
open PySem PySem.Spec PyProof.Rows
def HeldX (K : PySem.W.Frag) (H : Hp) (a C : Addr) : Prop := ∃ oe, H a = some (.frz oe (.own 0)) ∧ oe.cls = .ref C
end L2

namespace L3
open PySem L2
/-! ### values with their tuples inside; a heap of what can be changed -/
inductive Y where
  | non | bl (b : Bool) | int (i : Int) | str (x : Str) | ref (a : Addr) | ty (n : String) | cd (kvs : List (Str × Str)) | tup (ys : List Y) | sq (ys : List Y)
inductive LO where
  | lst (ys : List Y) | dct (kvs : List (Key × Y)) | ins (C : Addr) (fs : List (Str × Y)) | exc (C : Addr)
abbrev LHp := Addr → Option LO
def updL (L : LHp) (a : Addr) (o : LO) : LHp := fun b => if b = a then some o else L b
theorem updL_same {L : LHp} {a : Addr} {o : LO} : updL L a o a = some o := by unfold updL; rw [if_pos rfl]
theorem updL_ne {L : LHp} {a b : Addr} {o : LO} (h : b ≠ a) : updL L a o b = L b := by unfold updL; rw [if_neg h]
theorem updL_updL {L : LHp} {a : Addr} {o u : LO} : updL (updL L a o) a u = updL L a u := by
  funext b; unfold updL; split <;> rfl
theorem neL {L : LHp} {a b : Addr} {o : LO} (h : L a = some o) (h' : L b = none) : a ≠ b := by
  intro e; subst e; rw [h] at h'; cases h'
structure G3 where
  K : PySem.W.Frag
  P : Program
  w : World
abbrev _root_.L2.Cx.g3 (X : Cx) : G3 := ⟨X.K, X.prog, X.w⟩
/-- a list that nobody changes: the script, a list of the top -/
def SqF (K : PySem.W.Frag) (H : Hp) (a : Addr) (xs : List V) : Prop := (∃ o, H a = some (.frz o (.lst xs))) ∨
  ∃ (o : Obj) (its : Array Value) (n : Nat), K.lookup a = some o ∧ o.cls = .type "list" ∧ o.dict = none ∧ o.data = .seq its n ∧ its.size ≤ sizeLine ∧ Vals xs its.toList
theorem SqF.sq {K : PySem.W.Frag} {H : Hp} {a : Addr} {xs : List V} (h : SqF K H a xs) : SqL K H a xs := by
  rcases h with ⟨o, h⟩ | h
  · exact .inl (.inr ⟨o, h⟩)
  · exact .inr h
mutual
def RV (G : G3) (H : Hp) : Y → V → Prop
  | .non, v => v = .non
  | .bl b, v => v = .bl b
  | .int i, v => v = .int i
  | .str x, v => v = .str x
  | .ref a, v => v = .ref a
  | .ty n, v => v = .ty n
  | .cd kvs, v => ∃ a, v = .ref a ∧ KD G.K G.P G.w a (kvs.map fun p => (Sum.inr p.1, V.str p.2))
  | .tup ys, v => ∃ a xs, v = .ref a ∧ SqT G.K H a xs ∧ RVs G H ys xs
  | .sq ys, v => ∃ a xs, v = .ref a ∧ SqF G.K H a xs ∧ RVs G H ys xs
def RVs (G : G3) (H : Hp) : List Y → List V → Prop
  | [], xs => xs = []
  | y :: ys, xs => ∃ x xs', xs = x :: xs' ∧ RV G H y x ∧ RVs G H ys xs'
end
/-- what never changes stays -/
def Imm : HO → Bool
  | .tup _ => true
  | .frz _ _ => true
  | _ => false
def TSt (H H' : Hp) : Prop := ∀ a u, Imm u = true → H a = some u → H' a = some u
theorem TSt.refl (H : Hp) : TSt H H := fun _ _ _ h => h
theorem TSt.trans {H H1 H2 : Hp} (a : TSt H H1) (b : TSt H1 H2) : TSt H H2 := fun c u i h => b c u i (a c u i h)
theorem TSt.new {H : Hp} {p : Addr} {o : HO} (h : H p = none) : TSt H (upd H p o) := fun _ _ _ q => by rw [upd_ne (ne_of_none q h)]; exact q
theorem TSt.lst {H : Hp} {p : Addr} {zs : List V} {o : HO} (h : H p = some (.lst zs)) : TSt H (upd H p o) := fun a u i q => by
  rw [upd_ne ?_]; exact q
  rintro rfl
  rw [h] at q; cases q; cases i
theorem SqT.ts {K : PySem.W.Frag} {H H' : Hp} {a : Addr} {xs : List V} (h : SqT K H a xs) (t : TSt H H') : SqT K H' a xs := by
  rcases h with (h | ⟨o, h⟩) | h
  · exact .inl (.inl (t _ _ rfl h))
  · exact .inl (.inr ⟨o, t _ _ rfl h⟩)
  · exact .inr h
theorem SqF.ts {K : PySem.W.Frag} {H H' : Hp} {a : Addr} {xs : List V} (h : SqF K H a xs) (t : TSt H H') : SqF K H' a xs := by
  rcases h with ⟨o, h⟩ | h
  · exact .inl ⟨o, t _ _ rfl h⟩
  · exact .inr h
mutual
theorem RV.ts {G : G3} {H H' : Hp} (t : TSt H H') : ∀ {y : Y} {v : V}, RV G H y v → RV G H' y v
  | .non, _, h => h
  | .bl _, _, h => h
  | .int _, _, h => h
  | .str _, _, h => h
  | .ref _, _, h => h
  | .ty _, _, h => h
  | .cd _, _, h => h
  | .tup _, _, ⟨a, xs, e, s, r⟩ => ⟨a, xs, e, SqT.ts s t, RVs.ts t r⟩
  | .sq _, _, ⟨a, xs, e, s, r⟩ => ⟨a, xs, e, s.ts t, RVs.ts t r⟩
theorem RVs.ts {G : G3} {H H' : Hp} (t : TSt H H') : ∀ {ys : List Y} {xs : List V}, RVs G H ys xs → RVs G H' ys xs
  | [], _, h => h
  | _ :: _, _, ⟨x, xs', e, r, s⟩ => ⟨x, xs', e, RV.ts t r, RVs.ts t s⟩
end
theorem RVs.length {G : G3} {H : Hp} : ∀ {ys : List Y} {xs : List V}, RVs G H ys xs → ys.length = xs.length
  | [], _, h => by cases h; rfl
  | _ :: _, _, ⟨x, xs', e, _, s⟩ => by subst e; simp [RVs.length s]
theorem RVs.get {G : G3} {H : Hp} : ∀ {ys : List Y} {xs : List V} {i : Nat} {y : Y}, RVs G H ys xs → ys[i]? = some y → ∃ x, xs[i]? = some x ∧ RV G H y x
  | [], _, _, _, _, h => by simp at h
  | _ :: _, _, 0, _, ⟨x, xs', e, r, _⟩, h => by subst e; simp at h; subst h; exact ⟨x, rfl, r⟩
  | _ :: _, _, i + 1, _, ⟨x, xs', e, _, s⟩, h => by
    subst e
    obtain ⟨x', q, r⟩ := RVs.get (i := i) s (by simpa using h)
    exact ⟨x', by simpa using q, r⟩
theorem RVs.app {G : G3} {H : Hp} : ∀ {ys zs : List Y} {xs us : List V}, RVs G H ys xs → RVs G H zs us → RVs G H (ys ++ zs) (xs ++ us)
  | [], _, _, _, h, q => by cases h; exact q
  | _ :: _, _, _, _, ⟨x, xs', e, r, s⟩, q => by subst e; exact ⟨x, xs' ++ _, rfl, r, RVs.app s q⟩
theorem RVs.one {G : G3} {H : Hp} {y : Y} {x : V} (r : RV G H y x) : RVs G H [y] [x] := ⟨x, [], rfl, r, rfl⟩
theorem RVs.take {G : G3} {H : Hp} : ∀ {ys : List Y} {xs : List V} (n : Nat), RVs G H ys xs → RVs G H (ys.take n) (xs.take n)
  | [], _, n, h => by cases h; simp [RVs]
  | _ :: _, _, 0, _ => by simp [RVs]
  | _ :: _, _, n + 1, ⟨x, xs', e, r, s⟩ => by subst e; exact ⟨x, xs'.take n, rfl, r, RVs.take n s⟩
theorem RVs.drop {G : G3} {H : Hp} : ∀ {ys : List Y} {xs : List V} (n : Nat), RVs G H ys xs → RVs G H (ys.drop n) (xs.drop n)
  | [], _, n, h => by cases h; simp [RVs]
  | _ :: _, _, 0, h => h
  | _ :: _, _, n + 1, ⟨x, xs', e, r, s⟩ => by subst e; exact RVs.drop n s
theorem RVs.eraseIdx {G : G3} {H : Hp} : ∀ {ys : List Y} {xs : List V} (n : Nat), RVs G H ys xs → RVs G H (ys.eraseIdx n) (xs.eraseIdx n)
  | [], _, n, h => by cases h; simp [RVs]
  | _ :: _, _, 0, ⟨x, xs', e, r, s⟩ => by subst e; exact s
  | _ :: _, _, n + 1, ⟨x, xs', e, r, s⟩ => by subst e; exact ⟨x, xs'.eraseIdx n, rfl, r, RVs.eraseIdx n s⟩
/-- what stands in the heap -/
def RO (G : G3) (H : Hp) (a : Addr) : LO → Prop
  | .lst ys => ∃ xs, H a = some (.lst xs) ∧ RVs G H ys xs
  | .dct kvs => ∃ xs, H a = some (.dK xs) ∧ Paired (fun (p : Key × Y) (q : Key × V) => p.1 = q.1 ∧ RV G H p.2 q.2) kvs xs
  | .ins C fs => ∃ dx xs, H a = some (.ins C dx xs) ∧ Paired (fun (p : Str × Y) (q : Str × V) => p.1 = q.1 ∧ RV G H p.2 q.2) fs xs
  | .exc C => HeldX G.K H a C
def RelH (G : G3) (H : Hp) (L : LHp) : Prop := ∀ a o, L a = some o → RO G H a o
theorem RO.ex {G : G3} {H : Hp} {a : Addr} : ∀ {o : LO}, RO G H a o → ∃ u, H a = some u
  | .lst _, ⟨_, h, _⟩ => ⟨_, h⟩
  | .dct _, ⟨_, h, _⟩ => ⟨_, h⟩
  | .ins _ _, ⟨_, _, h, _⟩ => ⟨_, h⟩
  | .exc _, ⟨_, h, _⟩ => ⟨_, h⟩
theorem RelH.none {G : G3} {H : Hp} {L : LHp} (h : RelH G H L) {p : Addr} (hp : H p = none) : L p = none := by
  cases e : L p with
  | none => rfl
  | some o => obtain ⟨u, q⟩ := (h p o e).ex; rw [hp] at q; cases q
theorem RO.keep {G : G3} {H H' : Hp} (t : TSt H H') {a : Addr} (e : H' a = H a) : ∀ {o : LO}, RO G H a o → RO G H' a o
  | .lst _, ⟨xs, h, r⟩ => ⟨xs, e.trans h, r.ts t⟩
  | .dct _, ⟨xs, h, r⟩ => ⟨xs, e.trans h, Paired.mapP r fun _ _ ⟨a, b⟩ => ⟨a, b.ts t⟩⟩
  | .ins _ _, ⟨dx, xs, h, r⟩ => ⟨dx, xs, e.trans h, Paired.mapP r fun _ _ ⟨a, b⟩ => ⟨a, b.ts t⟩⟩
  | .exc _, ⟨o, h, c⟩ => ⟨o, e.trans h, c⟩
/-- a new thing that is not told -/
theorem RelH.skip {G : G3} {H : Hp} {L : LHp} (h : RelH G H L) {p : Addr} {o : HO} (hp : H p = .none) : RelH G (upd H p o) L := fun a u e => by
  obtain ⟨x, q⟩ := (h a u e).ex
  exact (h a u e).keep (TSt.new hp) (upd_ne (ne_of_none q hp))
/-- a new list -/
theorem RelH.newL {G : G3} {H : Hp} {L : LHp} (h : RelH G H L) {p : Addr} {ys : List Y} {xs : List V} (hp : H p = .none) (r : RVs G H ys xs) : RelH G (upd H p (.lst xs)) (updL L p (.lst ys)) := fun a u e => by
  by_cases c : a = p
  · subst c
    rw [updL_same] at e; cases e
    exact ⟨xs, upd_same, r.ts (TSt.new hp)⟩
  · rw [updL_ne c] at e
    exact (h a u e).keep (TSt.new hp) (upd_ne c)
/-- a list changed -/
theorem RelH.setL {G : G3} {H : Hp} {L : LHp} (h : RelH G H L) {p : Addr} {ys : List Y} {xs zs : List V} (hp : H p = some (.lst zs)) (r : RVs G H ys xs) : RelH G (upd H p (.lst xs)) (updL L p (.lst ys)) := fun a u e => by
  by_cases c : a = p
  · subst c
    rw [updL_same] at e; cases e
    exact ⟨xs, upd_same, r.ts (TSt.lst hp)⟩
  · rw [updL_ne c] at e
    exact (h a u e).keep (TSt.lst hp) (upd_ne c)
def LSub (L L' : LHp) : Prop := ∀ a o, L a = some o → L' a = some o
theorem LSub.refl (L : LHp) : LSub L L := fun _ _ h => h
theorem LSub.trans {L L1 L2 : LHp} (a : LSub L L1) (b : LSub L1 L2) : LSub L L2 := fun c o h => b c o (a c o h)
theorem LSub.new {L : LHp} {p : Addr} {o : LO} (h : L p = none) : LSub L (updL L p o) := fun a u e => by rw [updL_ne (neL e h)]; exact e
theorem RelH.sub {G : G3} {H : Hp} {L L' : LHp} (h : RelH G H L') (s : LSub L L') : RelH G H L := fun a o e => h a o (s a o e)
/-! ### frames -/
abbrev St3 := List (Option Y)
structure RelS (G : G3) (H : Hp) (σ : St) (τ : St3) : Prop where
  len : σ.length = τ.length
  get : ∀ (i : Nat) y, τ[i]? = some (some y) → ∃ v, σ[i]? = some (some v) ∧ RV G H y v
theorem RelS.ts {G : G3} {H H' : Hp} {σ : St} {τ : St3} (h : RelS G H σ τ) (t : TSt H H') : RelS G H' σ τ :=
  ⟨h.len, fun i y e => let ⟨v, a, b⟩ := h.get i y e; ⟨v, a, b.ts t⟩⟩
theorem RelS.set {G : G3} {H : Hp} {σ : St} {τ : St3} (h : RelS G H σ τ) {i : Nat} {v : V} {y : Y} (r : RV G H y v) : RelS G H (σ.set i (some v)) (τ.set i (some y)) := by
  refine ⟨by simp [h.len], fun j z e => ?_⟩
  by_cases c : i = j
  · subst c
    have hi : i < τ.length := by
      by_cases q : i < τ.length
      · exact q
      · rw [List.getElem?_eq_none (by simp; omega)] at e; cases e
    rw [List.getElem?_set_self hi] at e
    cases e
    exact ⟨v, List.getElem?_set_self (by rw [h.len]; exact hi), r⟩
  · rw [List.getElem?_set_ne c] at e ⊢
    exact h.get j z e
theorem RelS.more {G : G3} {H : Hp} {σ : St} {τ : St3} (h : RelS G H σ τ) (n : Nat) : RelS G H (σ ++ List.replicate n none) (τ ++ List.replicate n none) := by
  refine ⟨by simp [h.len], fun j z e => ?_⟩
  by_cases c : j < τ.length
  · rw [List.getElem?_append_left c] at e
    rw [List.getElem?_append_left (by rw [h.len]; exact c)]
    exact h.get j z e
  · rw [List.getElem?_append_right (by omega), List.getElem?_replicate] at e
    split at e <;> cases e
/-- what the reader knows of a slot may be forgotten -/
def get3 : St3 → Nat → Option Y
  | [], _ => none
  | o :: _, 0 => o
  | _ :: r, i + 1 => get3 r i
theorem get3_eq : ∀ (τ : St3) (i : Nat) {y : Y}, get3 τ i = some y → τ[i]? = some (some y)
  | [], _, _, h => by cases h
  | o :: _, 0, _, h => by simp [get3] at h; simp [h]
  | _ :: r, i + 1, _, h => by simp only [List.getElem?_cons_succ]; exact get3_eq r i h
/-! ### readings -/
abbrev YK := Y → LHp → Prop
abbrev TE3 := St3 → LHp → YK → Prop
abbrev TT3 := St3 → LHp → (Bool → LHp → Prop) → Prop
abbrev TA3 := St3 → LHp → (List Y → LHp → Prop) → Prop
structure Ends3 where
  nx : St3 → LHp → Prop
  rt : YK
  bk : St3 → LHp → Prop := fun _ _ => False
  ct : St3 → LHp → Prop := fun _ _ => False
abbrev TS3 := Ends3 → St3 → LHp → Prop
abbrev TG3 := Y → St3 → LHp → (St3 → LHp → Prop) → Prop
abbrev TGs3 := List Y → St3 → LHp → (St3 → LHp → Prop) → Prop
abbrev TI3 := St3 → LHp → (List Y → (LHp → Prop) → LHp → Prop) → Prop
abbrev R23 := Y → Y → LHp → YK → Prop
/-- behind a step -/
def Aft (G : G3) (H : Hp) (Q3 : YK) (Q : VK) : Prop := ∀ v H' y L', TSt H H' → RelH G H' L' → RV G H' y v → Q3 y L' → Q v H'
def AftB (G : G3) (H : Hp) (Q3 : Bool → LHp → Prop) (Q : Bool → Hp → Prop) : Prop := ∀ b H' L', TSt H H' → RelH G H' L' → Q3 b L' → Q b H'
def AftA (G : G3) (H : Hp) (Q3 : List Y → LHp → Prop) (Q : List V → Hp → Prop) : Prop := ∀ vs H' ys L', TSt H H' → RelH G H' L' → RVs G H' ys vs → Q3 ys L' → Q vs H'
def AftS (G : G3) (H : Hp) (Q3 : St3 → LHp → Prop) (Q : St → Hp → Prop) : Prop := ∀ σ H' τ L', TSt H H' → RelS G H' σ τ → RelH G H' L' → Q3 τ L' → Q σ H'
theorem Aft.ts {G : G3} {H H' : Hp} {Q3 : YK} {Q : VK} (h : Aft G H Q3 Q) (t : TSt H H') : Aft G H' Q3 Q := fun v H2 y L' t2 => h v H2 y L' (t.trans t2)
theorem AftB.ts {G : G3} {H H' : Hp} {Q3 : Bool → LHp → Prop} {Q : Bool → Hp → Prop} (h : AftB G H Q3 Q) (t : TSt H H') : AftB G H' Q3 Q := fun v H2 L' t2 => h v H2 L' (t.trans t2)
theorem AftS.ts {G : G3} {H H' : Hp} {Q3 : St3 → LHp → Prop} {Q : St → Hp → Prop} (h : AftS G H Q3 Q) (t : TSt H H') : AftS G H' Q3 Q := fun v H2 y L' t2 => h v H2 y L' (t.trans t2)
structure AftD (G : G3) (H : Hp) (D3 : Ends3) (D : Ends) : Prop where
  nx : AftS G H D3.nx D.nx
  rt : Aft G H D3.rt D.rt
  bk : AftS G H D3.bk D.bk
  ct : AftS G H D3.ct D.ct
theorem AftD.ts {G : G3} {H H' : Hp} {D3 : Ends3} {D : Ends} (h : AftD G H D3 D) (t : TSt H H') : AftD G H' D3 D := ⟨h.nx.ts t, h.rt.ts t, h.bk.ts t, h.ct.ts t⟩
def upE (G : G3) (t : TE3) : TE := fun σ H Q => ∃ τ L Q3, RelS G H σ τ ∧ RelH G H L ∧ t τ L Q3 ∧ Aft G H Q3 Q
def upT (G : G3) (t : TT3) : TT := fun σ H Q => ∃ τ L Q3, RelS G H σ τ ∧ RelH G H L ∧ t τ L Q3 ∧ AftB G H Q3 Q
def upA (G : G3) (t : TA3) : TA := fun σ H Q => ∃ τ L Q3, RelS G H σ τ ∧ RelH G H L ∧ t τ L Q3 ∧ AftA G H Q3 Q
def upS (G : G3) (t : TS3) : L2.TS := fun D σ H => ∃ τ L D3, RelS G H σ τ ∧ RelH G H L ∧ t D3 τ L ∧ AftD G H D3 D
def upG (G : G3) (g : TG3) : TG := fun v σ H Q => ∃ y τ L Q3, RV G H y v ∧ RelS G H σ τ ∧ RelH G H L ∧ g y τ L Q3 ∧ AftS G H Q3 Q
def upGs (G : G3) (g : TGs3) : TGs := fun vs σ H Q => ∃ ys τ L Q3, RVs G H ys vs ∧ RelS G H σ τ ∧ RelH G H L ∧ g ys τ L Q3 ∧ AftS G H Q3 Q
/-- what an iterator yields, one by one, as long as keep holds -/
structure Yields (G : G3) (H₀ : Hp) (J : It) (ys : List Y) (keep : LHp → Prop) : Prop where
  go : ∀ i H L, TSt H₀ H → RelH G H L → keep L → i < ys.length → J.go i H
  yld : ∀ i H L x H' y, TSt H₀ H → RelH G H L → keep L → ys[i]? = some y → J.yld i H x H' → TSt H H' ∧ RelH G H' L ∧ RV G H' y x
  stop : ∀ H L, TSt H₀ H → RelH G H L → keep L → J.stop ys.length H
def upI (G : G3) (wi : TI3) : TI := fun σ H R => ∃ τ L R3, RelS G H σ τ ∧ RelH G H L ∧ wi τ L R3 ∧ ∀ J H' ys keep L', TSt H H' → RelH G H' L' → Yields G H' J ys keep → R3 ys keep L' → R J H'
def upR (G : G3) (r3 : R23) : R2 := fun x y H Q => ∃ x3 y3 L Q3, RV G H x3 x ∧ RV G H y3 y ∧ RelH G H L ∧ r3 x3 y3 L Q3 ∧ Aft G H Q3 Q
def upL (G : G3) (r3 : List Y → LHp → YK → Prop) : List V → Hp → VK → Prop := fun xs H Q => ∃ ys L Q3, RVs G H ys xs ∧ RelH G H L ∧ r3 ys L Q3 ∧ Aft G H Q3 Q
theorem PE.imp {X : Cx} {e : Expr} {t u : TE} (h : PE X e t) (q : ∀ σ H Q, u σ H Q → t σ H Q) : PE X e u := fun pins s σ H Q I z => h pins s σ H Q I (q σ H Q z)
theorem PT.imp {X : Cx} {e : Expr} {t u : TT} (h : PT X e t) (q : ∀ σ H Q, u σ H Q → t σ H Q) : PT X e u := fun pins s σ H Q I z => h pins s σ H Q I (q σ H Q z)
theorem PW.imp {X : Cx} {e : Expr} {t u : TT} (h : PW X e t) (q : ∀ σ H Q, u σ H Q → t σ H Q) : PW X e u := fun wh pins s σ H Q I z => h wh pins s σ H Q I (q σ H Q z)
theorem PA.imp {X : Cx} {e : List Expr} {t u : TA} (h : PA X e t) (q : ∀ σ H Q, u σ H Q → t σ H Q) : PA X e u := fun pos pins s σ H Q I z => h pos pins s σ H Q I (q σ H Q z)
theorem PS.imp {X : Cx} {e : Stmt} {t u : L2.TS} (h : PS X e t) (q : ∀ D σ H, u D σ H → t D σ H) : PS X e u := fun pins s σ H Q I z => h pins s σ H Q I (q _ σ H z)
theorem PSs.imp {X : Cx} {e : List Stmt} {t u : L2.TS} (h : PSs X e t) (q : ∀ D σ H, u D σ H → t D σ H) : PSs X e u := fun pins s σ H Q I z => h pins s σ H Q I (q _ σ H z)
theorem PF.imp {X : Cx} {e : List Expr} {t u : TT} (h : PF X e t) (q : ∀ σ H Q, u σ H Q → t σ H Q) : PF X e u := fun pins s σ H Q I z => h pins s σ H Q I (q σ H Q z)
end L3

namespace L3
open PySem L2
/-! ### the readings -/
def yite (b : Bool) (A B : Prop) : Prop := match b with
  | true => A
  | false => B
theorem yite_T {b : Bool} {A B : Prop} (e : b = true) (h : A) : yite b A B := by rw [e]; exact h
theorem yite_F {b : Bool} {A B : Prop} (e : b = false) (h : B) : yite b A B := by rw [e]; exact h
theorem yite_dec {p : Prop} [Decidable p] {A B : Prop} (h : p → A) (k : ¬p → B) : yite (decide p) A B := by
  by_cases c : p
  · rw [decide_eq_true c]; exact h c
  · rw [decide_eq_false c]; exact k c
/-- turned or not -/
def nb (neg b : Bool) : Bool := match neg with
  | true => !b
  | false => b
def yVar (i : Nat) (τ : St3) (L : LHp) (Q : YK) : Prop := match get3 τ i with
  | some y => Q y L
  | none => False
def yC (y : Y) (_ : St3) (L : LHp) (Q : YK) : Prop := Q y L
def yOp (r : R23) (ta tb : TE3) (τ : St3) (L : LHp) (Q : YK) : Prop := ta τ L fun x L1 => tb τ L1 fun y L2 => r x y L2 Q
def yI (C : Int → Int → Prop) (g : Int → Int → Y) (x y : Y) (L : LHp) (Q : YK) : Prop := match x, y with
  | .int i, .int j => C i j ∧ Q (g i j) L
  | _, _ => False
def yI0 (g : Int → Int → Y) (x y : Y) (L : LHp) (Q : YK) : Prop := match x, y with
  | .int i, .int j => Q (g i j) L
  | _, _ => False
/-- the items of a list or a tuple -/
def seqOf (L : LHp) : Y → Option (List Y)
  | .tup ys => some ys
  | .sq ys => some ys
  | .ref a => match L a with
    | some (.lst ys) => some ys
    | _ => none
  | _ => none
@[irreducible] def lstK (L : LHp) (a : Addr) (k : List Y → Prop) : Prop := match L a with
  | some (.lst ys) => k ys
  | _ => False
theorem lstK_inv {L : LHp} {a : Addr} {k : List Y → Prop} (h : lstK L a k) : ∃ ys, L a = some (.lst ys) ∧ k ys := by
  unfold lstK at h
  split at h
  · rename_i ys e; exact ⟨ys, e, h⟩
  · exact h.elim
theorem lstK_of {L : LHp} {a : Addr} {k : List Y → Prop} {ys : List Y} (e : L a = some (.lst ys)) (h : k ys) : lstK L a k := by
  unfold lstK; rw [e]; exact h
def seqK (L : LHp) (x : Y) (k : List Y → Prop) : Prop := match x with
  | .tup ys => k ys
  | .sq ys => k ys
  | .ref a => lstK L a k
  | _ => False
theorem seqOf_lst {L : LHp} {a : Addr} {ys : List Y} (h : L a = some (.lst ys)) : seqOf L (.ref a) = some ys := by
  show (match L a with | some (.lst ys) => some ys | _ => none) = some ys
  rw [h]
theorem seqK_inv {L : LHp} {x : Y} {k : List Y → Prop} (h : seqK L x k) : ∃ ys, seqOf L x = some ys ∧ k ys := by
  cases x with
  | tup ys => exact ⟨ys, rfl, h⟩
  | sq ys => exact ⟨ys, rfl, h⟩
  | ref a => obtain ⟨ys, e, q⟩ := lstK_inv h; exact ⟨ys, seqOf_lst e, q⟩
  | _ => exact h.elim
theorem seqOf_inv {L : LHp} {a : Addr} {ys : List Y} (h : seqOf L (.ref a) = some ys) : L a = some (.lst ys) := by
  have h' : (match L a with | some (.lst ys) => some ys | _ => none) = some ys := h
  split at h'
  · rename_i e; cases h'; exact e
  · cases h'
theorem seqK_of {L : LHp} {x : Y} {k : List Y → Prop} {ys : List Y} (e : seqOf L x = some ys) (h : k ys) : seqK L x k := by
  cases x with
  | tup zs => cases e; exact h
  | sq zs => cases e; exact h
  | ref a => exact lstK_of (seqOf_inv e) h
  | _ => cases e
theorem seqL_of {L : LHp} {a : Addr} {k : List Y → Prop} {ys : List Y} (e : L a = some (.lst ys)) (h : k ys) : seqK L (.ref a) k := seqK_of (seqOf_lst e) h
def yAdd (x y : Y) (L : LHp) (Q : YK) : Prop := match x, y with
  | .int i, .int j => Q (.int (i + j)) L
  | .str a, .str b => a.length + b.length ≤ sizeLine ∧ Q (.str (a ++ b)) L
  | .ref a, .ref b => ∃ ys zs, L a = some (.lst ys) ∧ L b = some (.lst zs) ∧ ys.length + zs.length ≤ sizeLine ∧ ∀ p, L p = none → Q (.ref p) (updL L p (.lst (ys ++ zs)))
  | _, _ => False
def atK {α : Type} (L : LHp) (Q : α → LHp → Prop) : Option α → Prop
  | some v => Q v L
  | none => False
def valY (kvs : List (Key × Y)) (k : Key) : Option Y := (kvs.find? fun p => decide (p.1 = k)).map (·.2)
@[irreducible] def dctK (L : LHp) (a : Addr) (k : List (Key × Y) → Prop) : Prop := match L a with
  | some (.dct kvs) => k kvs
  | _ => False
theorem dctK_inv {L : LHp} {a : Addr} {k : List (Key × Y) → Prop} (h : dctK L a k) : ∃ kvs, L a = some (.dct kvs) ∧ k kvs := by
  unfold dctK at h
  split at h
  · rename_i ys e; exact ⟨ys, e, h⟩
  · exact h.elim
theorem dctK_of {L : LHp} {a : Addr} {k : List (Key × Y) → Prop} {kvs : List (Key × Y)} (e : L a = some (.dct kvs)) (h : k kvs) : dctK L a k := by
  unfold dctK; rw [e]; exact h
def yIx (x y : Y) (L : LHp) (Q : YK) : Prop := match x, y with
  | .str z, .int i => z.length ≤ sizeLine ∧ atK L (fun c L => Q (.str ⟨#[c]⟩) L) (atI z.cps.toList i)
  | .cd kvs, .str k => atK L (fun s L => Q (.str s) L) (kvs.lookup k)
  | .ref a, .str k => dctK L a fun kvs => atK L Q (valY kvs (.inr k))
  | x, .int i => seqK L x fun ys => atK L Q (atI ys i)
  | _, _ => False
def yLen (xs : List Y) (L : LHp) (Q : YK) : Prop := match xs with
  | [.str z] => z.length ≤ sizeLine ∧ Q (.int z.length) L
  | [x] => seqK L x fun ys => Q (.int ys.length) L
  | _ => False
/-- isinstance: the type of a value; bool is an int -/
inductive Ty3 where
  | non | bool | int | str | tuple | list | dict
def Ty3.nm : Ty3 → String
  | .non => "NoneType"
  | .bool => "bool"
  | .int => "int"
  | .str => "str"
  | .tuple => "tuple"
  | .list => "list"
  | .dict => "dict"
def tyY (L : LHp) : Y → Option Ty3
  | .non => some .non
  | .bl _ => some .bool
  | .int _ => some .int
  | .str _ => some .str
  | .tup _ => some .tuple
  | .sq _ => some .list
  | .ref a => match L a with
    | some (.lst _) => some .list
    | some (.dct _) => some .dict
    | _ => none
  | _ => none
def instB : Ty3 → Ty3 → Bool
  | .bool, .int => true
  | .bool, .bool => true
  | .int, .int => true
  | .str, .str => true
  | .tuple, .tuple => true
  | .list, .list => true
  | .dict, .dict => true
  | .non, .non => true
  | _, _ => false
@[irreducible] def tyK (L : LHp) (a : Addr) (k : Ty3 → Prop) : Prop := match tyY L (.ref a) with
  | some T => k T
  | none => False
theorem tyK_inv {L : LHp} {a : Addr} {k : Ty3 → Prop} (h : tyK L a k) : ∃ T, tyY L (.ref a) = some T ∧ k T := by
  unfold tyK at h
  split at h
  · rename_i T e; exact ⟨T, e, h⟩
  · exact h.elim
def tyKY (L : LHp) (x : Y) (k : Ty3 → Prop) : Prop := match x with
  | .non => k .non
  | .bl _ => k .bool
  | .int _ => k .int
  | .str _ => k .str
  | .tup _ => k .tuple
  | .sq _ => k .list
  | .ref a => tyK L a k
  | _ => False
theorem tyKY_inv {L : LHp} {x : Y} {k : Ty3 → Prop} (h : tyKY L x k) : ∃ T, tyY L x = some T ∧ k T := by
  cases x with
  | ref a => exact tyK_inv h
  | ty n => exact h.elim
  | cd k => exact h.elim
  | _ => exact ⟨_, rfl, h⟩
def yInst (S : Ty3) (te : TE3) (τ : St3) (L : LHp) (Q : YK) : Prop := te τ L fun x L1 => tyKY L1 x fun T => Q (.bl (instB T S)) L1
/-! flat values -/
def flatY : Y → Bool
  | .non => true
  | .bl _ => true
  | .int _ => true
  | .str _ => true
  | _ => false
def toV : Y → V
  | .non => .non
  | .bl b => .bl b
  | .int i => .int i
  | .str x => .str x
  | _ => .ty "?"
theorem RV.flat {G : G3} {H : Hp} : ∀ {y : Y} {v : V}, flatY y = true → RV G H y v → v = toV y
  | .non, _, _, h => h
  | .bl _, _, _, h => h
  | .int _, _, _, h => h
  | .str _, _, _, h => h
theorem toV_flat : ∀ {y : Y}, flatY y = true → flatV (toV y) = true
  | .non, _ => rfl
  | .bl _, _ => rfl
  | .int _, _ => rfl
  | .str _, _ => rfl
theorem RVs.flat {G : G3} {H : Hp} : ∀ {ys : List Y} {xs : List V}, ys.all flatY = true → RVs G H ys xs → xs = ys.map toV
  | [], _, _, h => h
  | y :: ys, _, f, ⟨x, xs', e, r, s⟩ => by
    rw [List.all_cons, Bool.and_eq_true] at f
    rw [e, r.flat f.1, s.flat f.2]; rfl
def listY : Y → Bool
  | .ref _ => true
  | .sq _ => true
  | _ => false
def DatN (L : LHp) : Nat → Y → Da → Prop
  | 0, y, d => flatY y = true ∧ d = .s (toV y)
  | n + 1, y, d => (flatY y = true ∧ d = .s (toV y)) ∨ (∃ ys ds, y = .tup ys ∧ d = .tup ds ∧ Paired (DatN L n) ys ds) ∨ (∃ ys ds, listY y = true ∧ d = .lst ds ∧ seqOf L y = some ys ∧ Paired (DatN L n) ys ds)
def refY : Y → Bool
  | .ref _ => true
  | .tup _ => true
  | .sq _ => true
  | _ => false
def yEq (neg : Bool) (x y : Y) (L : LHp) (Q : YK) : Prop := match x, y with
  | .int i, .int j => Q (.bl (nb neg (decide (i = j)))) L
  | .str i, .str j => Q (.bl (nb neg (decide (i = j)))) L
  | .bl i, .bl j => Q (.bl (nb neg (decide (i = j)))) L
  | x, y => refY x = true ∧ refY y = true ∧ ∃ n m d e, n ≤ 128 ∧ DatN L n x d ∧ DatN L m y e ∧ Q (.bl (nb neg (Da.eq d e))) L
def yIsN (neg : Bool) (ta : TE3) (τ : St3) (L : LHp) (Q : YK) : Prop := ta τ L fun x L1 => match x with
  | .non => Q (.bl (!neg)) L1
  | _ => Q (.bl neg) L1
def yB (t : TE3) (τ : St3) (L : LHp) (Q : Bool → LHp → Prop) : Prop := t τ L fun x L1 => match x with
  | .bl c => Q c L1
  | _ => False
def yAnd (t u : TT3) (τ : St3) (L : LHp) (Q : Bool → LHp → Prop) : Prop := t τ L fun c L1 => yite c (u τ L1 Q) (Q false L1)
def yAndV (ta tb : TE3) (τ : St3) (L : LHp) (Q : YK) : Prop := ta τ L fun x L1 => match x with
  | .bl c => yite c (tb τ L1 Q) (Q (.bl false) L1)
  | _ => False
def yNotV (ta : TE3) (τ : St3) (L : LHp) (Q : YK) : Prop := ta τ L fun x L1 => match x with
  | .bl c => Q (.bl (!c)) L1
  | _ => False
def yNil (_ : St3) (L : LHp) (Q : List Y → LHp → Prop) : Prop := Q [] L
def yCons (ta : TE3) (tr : TA3) (τ : St3) (L : LHp) (Q : List Y → LHp → Prop) : Prop := ta τ L fun x L1 => tr τ L1 fun xs L2 => Q (x :: xs) L2
def yTup (t : TA3) (τ : St3) (L : LHp) (Q : YK) : Prop := t τ L fun ys L1 => match Nat.ble ys.length 1000 with
  | true => Q (.tup ys) L1
  | false => False
def yLst (t : TA3) (τ : St3) (L : LHp) (Q : YK) : Prop := t τ L fun ys L1 => match Nat.ble ys.length 1000 with
  | true => ∀ p, L1 p = none → Q (.ref p) (updL L1 p (.lst ys))
  | false => False
def yCB (r : List Y → LHp → YK → Prop) (t : TA3) (τ : St3) (L : LHp) (Q : YK) : Prop := t τ L fun vs L1 => r vs L1 Q
/-- a slice's end -/
abbrev TO3 := St3 → LHp → (Option Int → LHp → Prop) → Prop
def yNoPart (_ : St3) (L : LHp) (Q : Option Int → LHp → Prop) : Prop := Q none L
def yPart (t : TE3) (τ : St3) (L : LHp) (Q : Option Int → LHp → Prop) : Prop := t τ L fun x L1 => match x with
  | .int i => Q (some i) L1
  | _ => False
def cutY (xs : List Y) (lo hi : Option Int) : List Y := (xs.drop (HT.sIx xs.length 0 lo)).take (HT.sIx xs.length xs.length hi - HT.sIx xs.length 0 lo)
def ySlL (x : Y) (lo hi : Option Int) (L : LHp) (Q : YK) : Prop := match x with
  | .ref a => lstK L a fun ys => ∀ p, L p = none → Q (.ref p) (updL L p (.lst (cutY ys lo hi)))
  | .sq ys => ∀ p, L p = none → Q (.ref p) (updL L p (.lst (cutY ys lo hi)))
  | _ => False
def ySl (r : Y → Option Int → Option Int → LHp → YK → Prop) (te : TE3) (tl th : TO3) (τ : St3) (L : LHp) (Q : YK) : Prop := te τ L fun x L1 => tl τ L1 fun l L2 => th τ L2 fun u L3 => r x l u L3 Q
/-! statements -/
def ySeq (t u : TS3) (D : Ends3) (τ : St3) (L : LHp) : Prop := t { D with nx := u D } τ L
def yNext (D : Ends3) (τ : St3) (L : LHp) : Prop := D.nx τ L
def yDrop (te : TE3) (D : Ends3) (τ : St3) (L : LHp) : Prop := te τ L fun _ L1 => D.nx τ L1
def yRet (te : TE3) (D : Ends3) (τ : St3) (L : LHp) : Prop := te τ L D.rt
def yIfS (c : TT3) (t u : TS3) (D : Ends3) (τ : St3) (L : LHp) : Prop := c τ L fun b L1 => yite b (t D τ L1) (u D τ L1)
def yAsg (te : TE3) (g : TG3) (D : Ends3) (τ : St3) (L : LHp) : Prop := te τ L fun x L1 => g x τ L1 D.nx
def set3 : St3 → Nat → Y → St3
  | [], _, _ => []
  | _ :: r, 0, y => some y :: r
  | o :: r, i + 1, y => o :: set3 r i y
theorem set3_eq : ∀ (τ : St3) (i : Nat) (y : Y), set3 τ i y = τ.set i (some y)
  | [], _, _ => rfl
  | _ :: _, 0, _ => rfl
  | o :: r, i + 1, y => by rw [set3, set3_eq r i y]; rfl
def gyName (i : Nat) (y : Y) (τ : St3) (L : LHp) (Q : St3 → LHp → Prop) : Prop := Q (set3 τ i y) L
def gyNil (ys : List Y) (τ : St3) (L : LHp) (Q : St3 → LHp → Prop) : Prop := match ys with
  | [] => Q τ L
  | _ => False
def gyCons (t : TG3) (u : TGs3) (ys : List Y) (τ : St3) (L : LHp) (Q : St3 → LHp → Prop) : Prop := match ys with
  | [] => False
  | y :: r => t y τ L fun τ' L' => u r τ' L' Q
def gyTup (n : Nat) (t : TGs3) (y : Y) (τ : St3) (L : LHp) (Q : St3 → LHp → Prop) : Prop := match y with
  | .tup ys => match ys.length == n with
    | true => t ys τ L Q
    | false => False
  | _ => False
/-- what is of no use behind a turn may be forgotten -/
def Frg {α : Type} (W : α → LHp → Prop) (x : α) (L : LHp) : Prop := ∃ L', LSub L' L ∧ W x L'
theorem frg {α : Type} {W : α → LHp → Prop} {x : α} {L : LHp} (h : W x L) : Frg W x L := ⟨L, LSub.refl L, h⟩
/-- a for over these items -/
@[irreducible] def forK (ys : List Y) (keep : LHp → Prop) (g : TG3) (tb : TS3) (D : Ends3) (τ : St3) (L1 : LHp) : Prop := ∃ W : Nat → St3 → LHp → Prop, W 0 τ L1 ∧ (∀ i τ L, W i τ L → keep L) ∧
  (∀ i y τ L, ys[i]? = some y → W i τ L → g y τ L fun τ2 L2 => tb { D with nx := Frg (W (i + 1)), ct := Frg (W (i + 1)), bk := D.nx } τ2 L2) ∧ ∀ τ L, W ys.length τ L → D.nx τ L
theorem forK_mk {ys : List Y} {keep : LHp → Prop} {g : TG3} {tb : TS3} {D : Ends3} {τ : St3} {L1 : LHp} (h : ∃ W : Nat → St3 → LHp → Prop, W 0 τ L1 ∧ (∀ i τ L, W i τ L → keep L) ∧
  (∀ i y τ L, ys[i]? = some y → W i τ L → g y τ L fun τ2 L2 => tb { D with nx := Frg (W (i + 1)), ct := Frg (W (i + 1)), bk := D.nx } τ2 L2) ∧ ∀ τ L, W ys.length τ L → D.nx τ L) : forK ys keep g tb D τ L1 := by unfold forK; exact h
theorem forK_inv {ys : List Y} {keep : LHp → Prop} {g : TG3} {tb : TS3} {D : Ends3} {τ : St3} {L1 : LHp} (h : forK ys keep g tb D τ L1) : ∃ W : Nat → St3 → LHp → Prop, W 0 τ L1 ∧ (∀ i τ L, W i τ L → keep L) ∧
  (∀ i y τ L, ys[i]? = some y → W i τ L → g y τ L fun τ2 L2 => tb { D with nx := Frg (W (i + 1)), ct := Frg (W (i + 1)), bk := D.nx } τ2 L2) ∧ ∀ τ L, W ys.length τ L → D.nx τ L := by unfold forK at h; exact h
def yFor (wi : TI3) (g : TG3) (tb : TS3) (D : Ends3) (τ : St3) (L : LHp) : Prop := wi τ L fun ys keep L1 => forK ys keep g tb D τ L1
@[irreducible] def lisK (L : LHp) (a : Addr) (R : List Y → (LHp → Prop) → LHp → Prop) : Prop := match L a with
  | some (.lst ys) => R ys (fun L => L a = some (.lst ys)) L
  | _ => False
theorem lisK_of {L : LHp} {a : Addr} {R : List Y → (LHp → Prop) → LHp → Prop} {ys : List Y} (h : L a = some (.lst ys)) (q : ∀ keep : LHp → Prop, (∀ L', L' a = L a → keep L') → R ys keep L) : lisK L a R := by
  unfold lisK
  rw [h]
  exact q _ fun L' e' => e'.trans h
theorem lisK_inv {L : LHp} {a : Addr} {R : List Y → (LHp → Prop) → LHp → Prop} (h : lisK L a R) : ∃ ys keep, seqOf L (.ref a) = some ys ∧ keep L ∧ (∀ L', keep L' → seqOf L' (.ref a) = some ys) ∧ R ys keep L := by
  unfold lisK at h
  split at h
  · rename_i ys e; exact ⟨ys, _, seqOf_lst e, e, fun L' e' => seqOf_lst e', h⟩
  · exact h.elim
def iyList (tl : TE3) (τ : St3) (L : LHp) (R : List Y → (LHp → Prop) → LHp → Prop) : Prop := tl τ L fun x L1 => match x with
  | .ref a => lisK L1 a R
  | .sq ys => R ys (fun _ => True) L1
  | _ => False
def intsY (lo : Int) (n : Nat) : List Y := (List.range n).map fun k => .int (lo + (k : Nat))
def iyRng1 (ta : TA3) (τ : St3) (L : LHp) (R : List Y → (LHp → Prop) → LHp → Prop) : Prop := ta τ L fun vs L1 => match vs with
  | [.int j] => (-(2 ^ 62) ≤ j ∧ j < 2 ^ 62) ∧ R (intsY 0 j.toNat) (fun _ => True) L1
  | _ => False
def yYes (_ : St3) (L : LHp) (Q : Bool → LHp → Prop) : Prop := Q true L
@[irreducible] def lcK (ys : List Y) (keep : LHp → Prop) (n : Nat) (g : TG3) (tc : TT3) (te : TE3) (τ : St3) (L1 : LHp) (Q : YK) : Prop := ys.length < sizeLine ∧ ∃ W : Nat → List Y → LHp → Prop, W 0 [] L1 ∧ (∀ i zs L, W i zs L → keep L) ∧
  (∀ i y zs L, ys[i]? = some y → W i zs L → g y (τ ++ List.replicate n none) L fun τ2 L2 => tc τ2 L2 fun b L3 => yite b (te τ2 L3 fun z L4 => Frg (W (i + 1)) (zs ++ [z]) L4) (Frg (W (i + 1)) zs L3)) ∧
  ∀ zs L, W ys.length zs L → ∀ p, L p = none → Q (.ref p) (updL L p (.lst zs))
theorem lcK_mk {ys : List Y} {keep : LHp → Prop} {n : Nat} {g : TG3} {tc : TT3} {te : TE3} {τ : St3} {L1 : LHp} {Q : YK} (h : ys.length < sizeLine ∧ ∃ W : Nat → List Y → LHp → Prop, W 0 [] L1 ∧ (∀ i zs L, W i zs L → keep L) ∧
  (∀ i y zs L, ys[i]? = some y → W i zs L → g y (τ ++ List.replicate n none) L fun τ2 L2 => tc τ2 L2 fun b L3 => yite b (te τ2 L3 fun z L4 => Frg (W (i + 1)) (zs ++ [z]) L4) (Frg (W (i + 1)) zs L3)) ∧
  ∀ zs L, W ys.length zs L → ∀ p, L p = none → Q (.ref p) (updL L p (.lst zs))) : lcK ys keep n g tc te τ L1 Q := by unfold lcK; exact h
theorem lcK_inv {ys : List Y} {keep : LHp → Prop} {n : Nat} {g : TG3} {tc : TT3} {te : TE3} {τ : St3} {L1 : LHp} {Q : YK} (h : lcK ys keep n g tc te τ L1 Q) : ys.length < sizeLine ∧ ∃ W : Nat → List Y → LHp → Prop, W 0 [] L1 ∧ (∀ i zs L, W i zs L → keep L) ∧
  (∀ i y zs L, ys[i]? = some y → W i zs L → g y (τ ++ List.replicate n none) L fun τ2 L2 => tc τ2 L2 fun b L3 => yite b (te τ2 L3 fun z L4 => Frg (W (i + 1)) (zs ++ [z]) L4) (Frg (W (i + 1)) zs L3)) ∧
  ∀ zs L, W ys.length zs L → ∀ p, L p = none → Q (.ref p) (updL L p (.lst zs)) := by unfold lcK at h; exact h
def yLC (n : Nat) (wi : TI3) (g : TG3) (tc : TT3) (te : TE3) (τ : St3) (L : LHp) (Q : YK) : Prop := wi τ L fun ys keep L1 => lcK ys keep n g tc te τ L1 Q
abbrev Sp3 := List Y → LHp → YK → Prop
def yCall (sp : Sp3) (t : TA3) (τ : St3) (L : LHp) (Q : YK) : Prop := t τ L fun ys L1 => sp ys L1 Q
def yExtend (x : Y) (vs : List Y) (L : LHp) (Q : YK) : Prop := match x, vs with
  | .ref a, [.ref b] => lstK L a fun ys => lstK L b fun zs => ys.length + zs.length ≤ sizeLine ∧ Q .non (updL L a (.lst (ys ++ zs)))
  | _, _ => False
end L3

namespace L3
open PySem L2
section
variable {G : G3} {H : Hp} {L : LHp}
theorem OpR.imp {X : Cx} {f : Value → Value → Sem Value} {r r' : R2} (h : OpR X f r) (q : ∀ x y H Q, r' x y H Q → r x y H Q) : OpR X f r' := fun pins s σ H x y v u Q I rx ry z => h pins s σ H x y v u Q I rx ry (q x y H Q z)
theorem CallR.imp {X : Cx} {f : Value} {r r' : List V → Hp → VK → Prop} (h : CallR X f r) (q : ∀ x H Q, r' x H Q → r x H Q) : CallR X f r' := fun pins s σ H x v Q I rx z => h pins s σ H x v Q I rx (q x H Q z)
theorem IxR.imp {X : Cx} {r r' : R2} (h : IxR X r) (q : ∀ x y H Q, r' x y H Q → r x y H Q) : IxR X r' := fun value slice pins s σ H x y v u Q I rx ry z => h value slice pins s σ H x y v u Q I rx ry (q x y H Q z)
theorem MtM.imp {X : Cx} {id : String} {r r' : V → List V → Hp → VK → Prop} (h : MtM X id r) (q : ∀ x xs H Q, r' x xs H Q → r x xs H Q) : MtM X id r' := fun pins s σ H x xs v us Q I rx ry z => h pins s σ H x xs v us Q I rx ry (q x xs H Q z)
/-- a sequence, as the layer reads it -/
theorem seq_sq {y : Y} {v : V} {ys : List Y} (rl : RelH G H L) (r : RV G H y v) (h : seqOf L y = some ys) : ∃ p xs, v = .ref p ∧ (SqL G.K H p xs ∨ SqT G.K H p xs) ∧ RVs G H ys xs := by
  cases y with
  | tup zs =>
    obtain ⟨a, xs, e, s, q⟩ := r
    cases h
    exact ⟨a, xs, e, .inr s, q⟩
  | sq zs =>
    obtain ⟨a, xs, e, s, q⟩ := r
    cases h
    exact ⟨a, xs, e, .inl s.sq, q⟩
  | ref a =>
    cases (show v = .ref a from r)
    have h' : (match L a with | some (.lst ys) => some ys | _ => none) = some ys := h
    split at h'
    · rename_i zs e
      cases h'
      obtain ⟨xs, e2, q⟩ := rl a _ e
      exact ⟨a, xs, rfl, .inl (SqL.of e2), q⟩
    · cases h'
  | _ => cases h
theorem atI_rv {ys : List Y} {xs : List V} {i : Int} {y : Y} (s : RVs G H ys xs) (h : atI ys i = some y) : ∃ x, atI xs i = some x ∧ RV G H y x := by
  unfold atI at h ⊢
  rw [← s.length]
  cases e : ixN ys.length i with
  | none => rw [e] at h; cases h
  | some j =>
    rw [e] at h
    exact s.get (i := j) h
end
section
variable {X : Cx} {a b c e : Expr} {ta tb tc te : TE3} {pos : Pos}
abbrev QE (X : Cx) (e : Expr) (t : TE3) : Prop := PE X e (upE X.g3 t)
abbrev QT (X : Cx) (e : Expr) (t : TT3) : Prop := PT X e (upT X.g3 t)
abbrev QW (X : Cx) (e : Expr) (t : TT3) : Prop := PW X e (upT X.g3 t)
abbrev QA (X : Cx) (es : List Expr) (t : TA3) : Prop := PA X es (upA X.g3 t)
abbrev QS (X : Cx) (st : Stmt) (t : TS3) : Prop := PS X st (upS X.g3 t)
abbrev QSs (X : Cx) (st : List Stmt) (t : TS3) : Prop := PSs X st (upS X.g3 t)
abbrev QG (X : Cx) (e : Expr) (g : TG3) : Prop := PG X e (upG X.g3 g)
abbrev QGs (X : Cx) (es : List Expr) (g : TGs3) : Prop := PGs X es (upGs X.g3 g)
abbrev QI (X : Cx) (tg it : Expr) (w : TI3) : Prop := PI X tg it (upI X.g3 w)
abbrev QF (X : Cx) (es : List Expr) (t : TT3) : Prop := PF X es (upT X.g3 t)
theorem QE.of_var {i : Nat} (h : PE X e (tVar i)) : QE X e (yVar i) := PE.imp h fun σ H Q ⟨τ, L, Q3, rs, rl, z, k⟩ => by
  unfold yVar at z
  split at z
  · rename_i y ey
    obtain ⟨v, ev, rv⟩ := rs.get i y (get3_eq _ _ ey)
    exact ⟨v, ev, k v H y L (TSt.refl _) rl rv z⟩
  · exact z.elim
theorem QE.of_c {v : V} {y : Y} (h : PE X e (tC v)) (q : ∀ H, RV X.g3 H y v) : QE X e (yC y) := PE.imp h fun σ H Q ⟨τ, L, Q3, rs, rl, z, k⟩ => k v H y L (TSt.refl _) rl (q H) z
theorem qv (i : Nat) {x : Str} {pos : Pos} (hN : X.N[i]? = some x := by rfl) (hv : Vis X.env.scope x := by first | exact Or.inl rfl | exact Or.inr (Or.inl rfl) | exact Or.inr (Or.inr rfl)) (hd : (x == ("__debug__" : Str)) = false := by decide)
    (hcd : (x == ("__classdict__" : Str)) = false := by decide) : QE X (.Name x pos) (yVar i) := QE.of_var (pv i hN hv hd hcd)
theorem qe_non {j : Nat} : QE X (.Constant .none j pos) (yC .non) := QE.of_c pe_non fun _ => rfl
theorem qe_int {i : Int} {j : Nat} : QE X (.Constant (.int i) j pos) (yC (.int i)) := QE.of_c pe_int fun _ => rfl
theorem qe_str {x : Str} {j : Nat} : QE X (.Constant (.str x) j pos) (yC (.str x)) := QE.of_c pe_str fun _ => rfl
theorem qe_gr {x : Str} {c : Addr} {y : Y} (hg : Gl X x) (hm : X.mg x = some (.ref c)) (q : ∀ H, RV X.g3 H y (.ref c)) (hd : (x == ("__debug__" : Str)) = false := by decide) : QE X (.Name x pos) (yC y) := QE.of_c (pe_gr hg hm hd) q
theorem up_op {G : G3} {r : R23} {ta tb : TE3} (σ : St) (H : Hp) (Q : VK) : upE G (yOp r ta tb) σ H Q → tOp (upR G r) (upE G ta) (upE G tb) σ H Q := fun ⟨τ, L, Q3, rs, rl, z, k⟩ =>
  ⟨τ, L, _, rs, rl, z, fun v H1 y L1 t1 rl1 rv1 z1 => ⟨τ, L1, _, rs.ts t1, rl1, z1, fun v2 H2 y2 L2 t2 rl2 rv2 z2 => ⟨y, y2, L2, Q3, rv1.ts t2, rv2, rl2, z2, k.ts (t1.trans t2)⟩⟩⟩
theorem qe_op {op : Operator} {r : R23} (h : OpR X (binaryOp op) (upR X.g3 r)) (ha : QE X a ta) (hb : QE X b tb) : QE X (.BinOp a op b pos) (yOp r ta tb) := PE.imp (pe_op h ha hb) up_op
theorem qe_ix {r : R23} (h : IxR X (upR X.g3 r)) (ha : QE X a ta) (hb : QE X b tb) (hp : PlainIx b) : QE X (.Subscript a b pos) (yOp r ta tb) := PE.imp (pe_ix h ha hb hp) up_op
theorem qe_cmpR {op : CmpOp} {r : R23} (h : OpR X (compareOp op) (upR X.g3 r)) (ha : QE X a ta) (hb : QE X b tb) (hm : behindInMarks op b = false) : QE X (.Compare a [op] [b] pos) (yOp r ta tb) := PE.imp (pe_cmpR h ha hb hm) up_op
theorem up_B {G : G3} {t : TE3} (σ : St) (H : Hp) (Q : Bool → Hp → Prop) : upT G (yB t) σ H Q → tTest (upE G t) σ H Q := fun ⟨τ, L, Q3, rs, rl, z, k⟩ =>
  ⟨τ, L, _, rs, rl, z, fun v H1 y L1 t1 rl1 rv1 z1 => by
    cases y with
    | bl b => exact ⟨b, rv1, k b H1 L1 t1 rl1 z1⟩
    | _ => exact z1.elim⟩
theorem up_tB {G : G3} {t : TE3} (σ : St) (H : Hp) (Q : Bool → Hp → Prop) : upT G (yB t) σ H Q → L2.tB (upE G t) σ H Q := up_B σ H Q
theorem qt_cmpR {op : CmpOp} {r : R23} (h : OpR X (compareOp op) (upR X.g3 r)) (ha : QE X a ta) (hb : QE X b tb) (hm : behindInMarks op b = false) : QT X (.Compare a [op] [b] pos) (yB (yOp r ta tb)) :=
  PT.imp (pt_cmpR h ha hb hm) fun σ H Q q => by
    have q' := up_B σ H Q q
    obtain ⟨τ, L, Q3, rs, rl, z, k⟩ := q'
    exact up_op σ H _ ⟨τ, L, Q3, rs, rl, z, k⟩
theorem qt_val (h : QE X e te) (he : ∀ whole, isTrue e X.env whole = (do let v ← whole; standAt e.pos; holding [v] (truthy v)) := by intro _; rfl) : QT X e (yB te) := PT.imp (pt_val h he) up_tB
theorem OpI {f : Value → Value → Sem Value} {C : Int → Int → Prop} {g : Int → Int → V} {g3 : Int → Int → Y} (h : OpR X f (rI C g)) (e : ∀ i j H, RV X.g3 H (g3 i j) (g i j)) : OpR X f (upR X.g3 (yI C g3)) := OpR.imp h fun x y H Q ⟨x3, y3, L, Q3, rx, ry, rl, z, k⟩ => by
  cases x3 with
  | int i =>
    cases y3 with
    | int j => exact ⟨i, j, rx, ry, z.1, k _ H _ L (TSt.refl _) rl (e i j H) z.2⟩
    | _ => exact z.elim
  | _ => cases y3 <;> exact z.elim
theorem OpI0 {f : Value → Value → Sem Value} {g : Int → Int → V} {g3 : Int → Int → Y} (h : OpR X f (rI0 g)) (e : ∀ i j H, RV X.g3 H (g3 i j) (g i j)) : OpR X f (upR X.g3 (yI0 g3)) := OpR.imp h fun x y H Q ⟨x3, y3, L, Q3, rx, ry, rl, z, k⟩ => by
  cases x3 with
  | int i =>
    cases y3 with
    | int j => exact ⟨i, j, rx, ry, k _ H _ L (TSt.refl _) rl (e i j H) z⟩
    | _ => exact z.elim
  | _ => cases y3 <;> exact z.elim
theorem q_mul : OpR X (binaryOp .Mult) (upR X.g3 (yI CMul fun i j => .int (i * j))) := OpI op_mul fun _ _ _ => rfl
theorem q_fdiv : OpR X (binaryOp .FloorDiv) (upR X.g3 (yI CDiv fun i j => .int (i / j))) := OpI op_fdiv fun _ _ _ => rfl
theorem q_mod : OpR X (binaryOp .Mod) (upR X.g3 (yI (fun _ j => 0 < j) fun i j => .int (i % j))) := OpI op_mod fun _ _ _ => rfl
theorem q_pow : OpR X (binaryOp .Pow) (upR X.g3 (yI CPow fun i j => .int (i ^ j.toNat))) := OpI op_pow fun _ _ _ => rfl
theorem q_gt : OpR X (compareOp .Gt) (upR X.g3 (yI0 fun i j => .bl (decide (j < i)))) := OpI0 op_gt fun _ _ _ => rfl
theorem q_add : OpR X (binaryOp .Add) (upR X.g3 yAdd) := OpR.imp op_uAdd fun x y H Q ⟨x3, y3, L, Q3, rx, ry, rl, z, k⟩ => by
  cases x3 with
  | int i =>
    cases y3 with
    | int j => cases rx; cases ry; exact k _ H _ L (TSt.refl _) rl (by rfl) z
    | _ => exact z.elim
  | str i =>
    cases y3 with
    | str j => cases rx; cases ry; exact ⟨z.1, k _ H _ L (TSt.refl _) rl (by rfl) z.2⟩
    | _ => exact z.elim
  | ref a =>
    cases y3 with
    | ref b =>
      cases rx; cases ry
      obtain ⟨ys, zs, e1, e2, hz, q⟩ := z
      obtain ⟨xs, h1, r1⟩ := rl a _ e1
      obtain ⟨us, h2, r2⟩ := rl b _ e2
      refine ⟨xs, us, h1, h2, by rw [← r1.length, ← r2.length]; exact hz, fun p hp => ?_⟩
      exact k _ _ _ _ (TSt.new hp) (rl.newL hp (r1.app r2)) (by rfl) (q p (rl.none hp))
    | _ => exact z.elim
  | _ => cases y3 <;> exact z.elim
theorem lookup_valV {kvs : List (Str × Str)} {k x : Str} (h : kvs.lookup k = some x) : valV (kvs.map fun p => ((Sum.inr p.1 : Key), V.str p.2)) (Sum.inr k) = some (V.str x) := by
  induction kvs with
  | nil => simp at h
  | cons p r ih =>
    obtain ⟨a, b⟩ := p
    unfold valV
    rw [List.map_cons, List.find?_cons]
    rw [List.lookup_cons] at h
    by_cases c : k = a
    · subst c
      simp at h
      simp [h]
    · have c1 : (k == a) = false := by simpa using c
      rw [c1] at h
      have c2 : decide ((Sum.inr a : Key) = Sum.inr k) = false := decide_eq_false fun z => c (Sum.inr.inj z).symm
      simp only [c2]
      exact ih h
theorem pair_valY {G : G3} {H : Hp} {kvs : List (Key × Y)} {xs : List (Key × V)} {k : Key} {y : Y} (p : Paired (fun (p : Key × Y) (q : Key × V) => p.1 = q.1 ∧ RV G H p.2 q.2) kvs xs) (h : valY kvs k = some y) : ∃ x, valV xs k = some x ∧ RV G H y x := by
  induction p with
  | nil => cases h
  | @cons a b _ _ r t ih =>
    obtain ⟨ka, ya⟩ := a
    obtain ⟨kb, vb⟩ := b
    obtain ⟨e, r⟩ := r
    cases (show ka = kb from e)
    unfold valY at h
    unfold valV
    rw [List.find?_cons] at h ⊢
    by_cases c : ka = k
    · have c' : decide (ka = k) = true := decide_eq_true c
      simp only [c'] at h ⊢
      cases h
      exact ⟨vb, rfl, r⟩
    · have c' : decide (ka = k) = false := decide_eq_false c
      simp only [c'] at h ⊢
      exact ih h
theorem q_ixK (K : PySem.W.Frag) (P : Program) (w : World) (hK : X.K = K := by rfl) (hP : X.prog = P := by rfl) (hw : X.w = w := by rfl) : IxR X (upR ⟨K, P, w⟩ yIx) := by
  subst hK hP hw
  refine IxR.imp ix_u fun x y H Q ⟨x3, y3, L, Q3, rx, ry, rl, z, k⟩ => ?_
  have seq : ∀ {i : Int} {x3 : Y}, RV X.g3 H x3 x → y = .int i → (seqK L x3 fun ys => atK L Q3 (atI ys i)) → uIx X.K X.prog X.w x y H Q := by
    intro i x3 rx ey z
    subst ey
    obtain ⟨ys, es, z⟩ := seqK_inv z
    obtain ⟨p, xs, e, sq, rv⟩ := seq_sq rl rx es
    subst e
    cases ea : atI ys i with
    | none => rw [ea] at z; exact z.elim
    | some y =>
      rw [ea] at z
      obtain ⟨x, ex, rvx⟩ := atI_rv rv ea
      exact ⟨xs, x, sq, ex, k _ H _ L (TSt.refl _) rl rvx z⟩
  cases x3 with
  | str s =>
    cases y3 with
    | int i =>
      cases rx; cases ry
      obtain ⟨z1, z2⟩ := z
      cases ea : atI s.cps.toList i with
      | none => rw [ea] at z2; exact z2.elim
      | some c => rw [ea] at z2; exact ⟨z1, c, ea, k _ H _ L (TSt.refl _) rl (by rfl) z2⟩
    | _ => exact z.elim
  | cd kvs =>
    cases y3 with
    | str s =>
      obtain ⟨a, ea, kd⟩ := rx
      cases ea; cases ry
      have z' : atK L (fun s L => Q3 (.str s) L) (kvs.lookup s) := z
      cases el : kvs.lookup s with
      | none => rw [el] at z'; exact z'.elim
      | some t => rw [el] at z'; exact ⟨_, _, .inr kd, lookup_valV el, k _ H _ L (TSt.refl _) rl (by rfl) z'⟩
    | int i => exact z.elim
    | _ => exact z.elim
  | ref a =>
    cases y3 with
    | int i => exact seq (x3 := .ref a) rx ry z
    | str s =>
      cases rx; cases ry
      obtain ⟨kvs, e, z'⟩ := dctK_inv z
      obtain ⟨xs, e2, pr⟩ := rl a _ e
      cases ev : valY kvs (Sum.inr s) with
      | none => rw [ev] at z'; exact z'.elim
      | some y =>
        rw [ev] at z'
        obtain ⟨x, ex, rx⟩ := pair_valY pr ev
        exact ⟨xs, x, .inl (.inl e2), ex, k _ H _ L (TSt.refl _) rl rx z'⟩
    | _ => exact z.elim
  | tup ys =>
    cases y3 with
    | int i => exact seq (x3 := .tup ys) rx ry z
    | _ => exact z.elim
  | sq ys =>
    cases y3 with
    | int i => exact seq (x3 := .sq ys) rx ry z
    | _ => exact z.elim
  | _ => cases y3 <;> exact z.elim
theorem RVs.inv1 {G : G3} {H : Hp} {y : Y} {xs : List V} (h : RVs G H [y] xs) : ∃ x, xs = [x] ∧ RV G H y x := by
  obtain ⟨x, xs', e, r, s⟩ := h
  cases (show xs' = [] from s)
  exact ⟨x, e, r⟩
theorem RVs.inv2 {G : G3} {H : Hp} {y y' : Y} {xs : List V} (h : RVs G H [y, y'] xs) : ∃ x x', xs = [x, x'] ∧ RV G H y x ∧ RV G H y' x' := by
  obtain ⟨x, xs', e, r, s⟩ := h
  obtain ⟨x', e', r'⟩ := s.inv1
  exact ⟨x, x', by rw [e, e'], r, r'⟩
theorem q_lenK (K : PySem.W.Frag) (P : Program) (w : World) (hK : X.K = K := by rfl) (hP : X.prog = P := by rfl) (hw : X.w = w := by rfl) : CallR X (.builtin "len") (upL ⟨K, P, w⟩ yLen) := by
  subst hK hP hw
  refine CallR.imp call_uLen fun xs H Q ⟨ys, L, Q3, rv, rl, z, k⟩ => ?_
  unfold yLen at z
  split at z
  · obtain ⟨x, rfl, r⟩ := rv.inv1
    cases r
    exact ⟨z.1, k _ H _ L (TSt.refl _) rl (by rfl) z.2⟩
  · rename_i y _
    obtain ⟨x, rfl, r⟩ := rv.inv1
    obtain ⟨ys, es, z⟩ := seqK_inv z
    obtain ⟨p, us, e, sq, rw'⟩ := seq_sq rl r es
    subst e
    refine ⟨us, sq, ?_⟩
    rw [← rw'.length]
    exact k _ H _ L (TSt.refl _) rl (by rfl) z
  · exact z.elim
end
end L3

namespace L3
open PySem L2
section
variable {X : Cx} {a b c e : Expr} {ta tb tc te : TE3} {pos : Pos}
theorem seq_list {G : G3} {H : Hp} {L : LHp} {a : Addr} {ys : List Y} (rl : RelH G H L) (h : seqOf L (.ref a) = some ys) : ∃ xs, SqL G.K H a xs ∧ RVs G H ys xs := by
  have h' : (match L a with | some (.lst ys) => some ys | _ => none) = some ys := h
  split at h'
  · rename_i e
    cases h'
    obtain ⟨xs, e2, q⟩ := rl a _ e
    exact ⟨xs, SqL.of e2, q⟩
  · cases h'
/-- a list, changed or not -/
theorem seq_listY {G : G3} {H : Hp} {L : LHp} {y : Y} {v : V} {ys : List Y} (rl : RelH G H L) (r : RV G H y v) (hy : listY y = true) (h : seqOf L y = some ys) : ∃ a xs, v = .ref a ∧ SqL G.K H a xs ∧ RVs G H ys xs := by
  cases y with
  | ref a => obtain ⟨xs, s, q⟩ := seq_list rl h; exact ⟨a, xs, r, s, q⟩
  | sq zs => obtain ⟨a, xs, e, s, q⟩ := r; cases h; exact ⟨a, xs, e, s.sq, q⟩
  | _ => cases hy
/-! ### isinstance -/
theorem tup_types {G : G3} {H : Hp} {L : LHp} {y : Y} {v : V} {u : Value} {T : Ty3} {pins : List (Addr × Obj)} {σ : L2.St} {s : Shared} (I : Inv X pins σ H s) (rl : RelH X.g3 H L) (r : RV X.g3 H y v) (ru : RelV v u) (h : tyY L y = some T)
    {A : Around} {E : Value → Shared → Prop} {Q : Value → Shared → Prop} {c : Value} {b : Bool} (e : PySem.W.kitOne X.K (.type T.nm) c = some b) (hq : ∀ tk, Q (.bool b) { s with toks := tk }) :
    wpAny (model X.prog X.w) A (call (.builtin "isinstance") [u, c]) Q E s := by
  cases y with
  | non => cases h; cases r; exact isinst_ok I ru .non e hq
  | bl b => cases h; cases r; exact isinst_ok I ru (.bl _) e hq
  | int i => cases h; cases r; exact isinst_ok I ru (.int _) e hq
  | str x => cases h; cases r; exact isinst_ok I ru (.str _) e hq
  | tup ys =>
    cases h
    obtain ⟨a, xs, rfl, sq, _⟩ := r
    cases (show u = Value.ref a from ru)
    obtain ⟨its, _, ⟨o, h1, h2, _⟩, _⟩ := I.tuple sq
    exact PySem.W.kia_one PySem.W.kitx_tuple I.kIn ⟨o, h1, h2⟩ e (fun z => nomatch z) hq
  | sq ys =>
    cases h
    obtain ⟨a, xs, rfl, sq, _⟩ := r
    cases (show u = Value.ref a from ru)
    obtain ⟨its, _, ⟨o, n, h1, h2, _⟩, _⟩ := I.list sq.sq
    exact PySem.W.kia_one PySem.W.kitx_list I.kIn ⟨o, h1, h2⟩ e (fun z => nomatch z) hq
  | ref a =>
    cases (show v = .ref a from r)
    have h' : (match L a with | some (.lst _) => some Ty3.list | some (.dct _) => some .dict | _ => none) = some T := h
    split at h'
    · rename_i ys el
      cases h'
      obtain ⟨xs, e2, _⟩ := rl a _ el
      exact isinst_ok I ru (.lst e2) e hq
    · rename_i kvs el
      cases h'
      obtain ⟨xs, e2, _⟩ := rl a _ el
      exact isinst_ok I ru (.dK e2) e hq
    · cases h'
  | _ => cases h
theorem kit_tys (K : PySem.W.Frag) : ∀ T S : Ty3, PySem.W.kitOne K (.type T.nm) (.type S.nm) = some (instB T S) := by
  intro T S
  cases T <;> cases S <;> rfl
def uInst3 (G : G3) (S : Ty3) : List V → Hp → VK → Prop := fun xs H Q => ∃ y v L Q3 T, xs = [v, .ty S.nm] ∧ RV G H y v ∧ RelH G H L ∧ tyY L y = some T ∧ Q3 (.bl (instB T S)) L ∧ Aft G H Q3 Q
theorem q_inst (S : Ty3) : CallR X (.builtin "isinstance") (uInst3 X.g3 S) := by
  intro pins s σ H xs us Q I r h
  obtain ⟨y, v, L, Q3, T, rfl, rv, rl, ty, q, k⟩ := h
  obtain ⟨u, c, rfl, r1, r2⟩ := Vals.two r
  cases (show c = Value.type S.nm from r2)
  exact wpAny_pos I.tk (tup_types (G := X.g3) I rl rv r1 ty (kit_tys _ T S) fun tk ht => ⟨.bl _, H, I.tok _, rfl, k _ H _ L (TSt.refl _) rl (by rfl) q⟩)
theorem qe_inst {p p1 : Pos} {xT : Str} (S : Ty3) (hg : Gl X "isinstance") (hm : X.mg "isinstance" = none) (hgT : Gl X xT) (hmT : X.mg xT = none) (hvT : bootBuiltins xT = some (.type S.nm)) (ha : QE X a ta)
    (hn : xT ≠ "__name__" := by decide) (hd : (xT == ("__debug__" : Str)) = false := by decide)
    (hs : starEach [a, .Name xT p1] X.env = (false, eval a X.env) :: starEach [.Name xT p1] X.env := by rfl) (hs2 : starEach [.Name xT p1] X.env = (false, eval (.Name xT p1) X.env) :: starEach [] X.env := by rfl)
    (hp : (backTo pos (starEach [.Name xT p1] X.env)).any (·.1) = false := by rfl) :
    QE X (.Call (.Name "isinstance" p) [a, .Name xT p1] [] pos) (yInst S ta) := by
  refine PE.imp (pe_callB (q_inst S) hg hm bt_isinstance (pa_cons ha (pa_cons (pe_ty hgT hmT hvT hn hd) pa_nil hs2) hs) (by decide) (by decide) hs hp) ?_
  rintro σ H Q ⟨τ, L, Q3, rs, rl, z, k⟩
  refine ⟨τ, L, _, rs, rl, z, fun v H1 y L1 t1 rl1 rv1 z1 => ?_⟩
  obtain ⟨T, et, z1⟩ := tyKY_inv z1
  exact ⟨y, v, L1, Q3, T, rfl, rv1, rl1, et, z1, k.ts t1⟩
/-! ### in -/
def yInS (neg : Bool) (x y : Y) (L : LHp) (Q : YK) : Prop := seqK L y fun ys => flatY x = true ∧ ys.all flatY = true ∧ Q (.bl (nb neg (inV (toV x) (ys.map toV)))) L
theorem q_in (neg : Bool) {op : CmpOp} (h : OpR X (compareOp op) (rIn X.K neg)) : OpR X (compareOp op) (upR X.g3 (yInS neg)) := OpR.imp h fun x y H Q ⟨x3, y3, L, Q3, rx, ry, rl, z, k⟩ => by
  obtain ⟨ys, es, f1, f2, q⟩ := seqK_inv z
  obtain ⟨p, xs, e, sq, rv⟩ := seq_sq rl ry es
  rw [rx.flat f1]
  rw [rv.flat f2] at sq
  refine ⟨p, _, e, sq, toV_flat f1, ?_, ?_⟩
  · rw [List.all_map, List.all_eq_true]
    intro y hy
    exact toV_flat (List.all_eq_true.mp f2 y hy)
  · have : (if neg = true then !inV (toV x3) (ys.map toV) else inV (toV x3) (ys.map toV)) = (nb neg (inV (toV x3) (ys.map toV))) := by cases neg <;> simp [nb]
    rw [this]
    exact k _ H _ L (TSt.refl _) rl (by rfl) q
theorem q_inS (K : PySem.W.Frag) (P : Program) (w : World) (hK : X.K = K := by rfl) (hP : X.prog = P := by rfl) (hw : X.w = w := by rfl) : OpR X (compareOp .In) (upR ⟨K, P, w⟩ (yInS false)) := by subst hK hP hw; exact q_in false op_in_seq
/-! ### == -/
theorem DatN.rep {G : G3} {H : Hp} {L : LHp} (rl : RelH G H L) : ∀ {n : Nat} {y : Y} {d : Da} {v : V}, DatN L n y d → RV G H y v → RepN G.K H n v d
  | 0, y, d, v, ⟨f, e⟩, r => by
    rw [r.flat f]; exact ⟨e, toV_flat f⟩
  | n + 1, y, d, v, h, r => by
    have both : ∀ {ys : List Y} {ds : List Da} {xs : List V}, Paired (DatN L n) ys ds → RVs G H ys xs → Paired (RepN G.K H n) xs ds := by
      intro ys ds xs p
      induction p generalizing xs with
      | nil => intro r; cases (show xs = [] from r); exact .nil
      | cons q t ih =>
        rintro ⟨x, xs', rfl, r1, r2⟩
        exact .cons (DatN.rep rl q r1) (ih r2)
    rcases h with ⟨f, e⟩ | ⟨ys, ds, rfl, rfl, p⟩ | ⟨ys, ds, hy, rfl, es, p⟩
    · rw [r.flat f]; exact .inl ⟨e, toV_flat f⟩
    · obtain ⟨a, xs, rfl, sq, rv⟩ := r
      exact .inr (.inl ⟨a, xs, ds, rfl, rfl, sq, both p rv⟩)
    · obtain ⟨a, xs, rfl, sq, rv⟩ := seq_listY rl r hy es
      exact .inr (.inr ⟨a, xs, ds, rfl, rfl, sq, both p rv⟩)
theorem eq_refs {G : G3} {H : Hp} {y : Y} {v : V} (h : refY y = true) (r : RV G H y v) : ∃ a, v = .ref a := by
  cases y with
  | ref a => exact ⟨a, r⟩
  | tup ys => obtain ⟨a, xs, e, _⟩ := r; exact ⟨a, e⟩
  | sq ys => obtain ⟨a, xs, e, _⟩ := r; exact ⟨a, e⟩
  | _ => cases h
theorem q_eqK (K : PySem.W.Frag) (P : Program) (w : World) (hu : X.A.units + 128 < cLine) (hK : X.K = K := by rfl) (hP : X.prog = P := by rfl) (hw : X.w = w := by rfl) : OpR X (compareOp .Eq) (upR ⟨K, P, w⟩ (yEq false)) := by
  subst hK hP hw
  refine OpR.imp (op_uEq hu) fun x y H Q ⟨x3, y3, L, Q3, rx, ry, rl, z, k⟩ => ?_
  unfold yEq at z
  split at z
  · rename_i i j
    cases rx; cases ry
    refine ⟨rfl, ?_⟩
    have : decide (V.int i = V.int j) = nb false (decide (i = j)) := by rw [Bool.eq_iff_iff]; simp [nb]
    rw [this]
    exact k _ H _ L (TSt.refl _) rl (by rfl) z
  · rename_i i j
    cases rx; cases ry
    refine ⟨rfl, ?_⟩
    have : decide (V.str i = V.str j) = nb false (decide (i = j)) := by rw [Bool.eq_iff_iff]; simp [nb]
    rw [this]
    exact k _ H _ L (TSt.refl _) rl (by rfl) z
  · rename_i i j
    cases rx; cases ry
    refine ⟨rfl, ?_⟩
    have : decide (V.bl i = V.bl j) = nb false (decide (i = j)) := by rw [Bool.eq_iff_iff]; simp [nb]
    rw [this]
    exact k _ H _ L (TSt.refl _) rl (by rfl) z
  · obtain ⟨f1, f2, n, m, d, e, hn, h1, h2, q⟩ := z
    obtain ⟨a, rfl⟩ := eq_refs f1 rx
    obtain ⟨b, rfl⟩ := eq_refs f2 ry
    have q : Q3 (.bl (Da.eq d e)) L := q
    exact ⟨n, m, d, e, hn, h1.rep rl rx, h2.rep rl ry, k _ H _ L (TSt.refl _) rl (by rfl) q⟩
theorem q_neK (K : PySem.W.Frag) (P : Program) (w : World) (hu : X.A.units + 128 < cLine) (hK : X.K = K := by rfl) (hP : X.prog = P := by rfl) (hw : X.w = w := by rfl) : OpR X (compareOp .NotEq) (upR ⟨K, P, w⟩ (yEq true)) := by
  subst hK hP hw
  refine OpR.imp (op_uNe hu) fun x y H Q ⟨x3, y3, L, Q3, rx, ry, rl, z, k⟩ => ?_
  unfold yEq at z
  split at z
  · rename_i i j
    cases rx; cases ry
    refine ⟨rfl, ?_⟩
    have : (!decide (V.int i = V.int j)) = nb true (decide (i = j)) := by show _ = !_; congr 1; rw [Bool.eq_iff_iff]; simp
    rw [this]
    exact k _ H _ L (TSt.refl _) rl (by rfl) z
  · rename_i i j
    cases rx; cases ry
    refine ⟨rfl, ?_⟩
    have : (!decide (V.str i = V.str j)) = nb true (decide (i = j)) := by show _ = !_; congr 1; rw [Bool.eq_iff_iff]; simp
    rw [this]
    exact k _ H _ L (TSt.refl _) rl (by rfl) z
  · rename_i i j
    cases rx; cases ry
    refine ⟨rfl, ?_⟩
    have : (!decide (V.bl i = V.bl j)) = nb true (decide (i = j)) := by show _ = !_; congr 1; rw [Bool.eq_iff_iff]; simp
    rw [this]
    exact k _ H _ L (TSt.refl _) rl (by rfl) z
  · obtain ⟨f1, f2, n, m, d, e, hn, h1, h2, q⟩ := z
    obtain ⟨a, rfl⟩ := eq_refs f1 rx
    obtain ⟨b, rfl⟩ := eq_refs f2 ry
    have q : Q3 (.bl (!Da.eq d e)) L := q
    exact ⟨n, m, d, e, hn, h1.rep rl rx, h2.rep rl ry, k _ H _ L (TSt.refl _) rl (by rfl) q⟩
/-! ### None -/
theorem RV.non_iff {G : G3} {H : Hp} {y : Y} {v : V} (r : RV G H y v) : decide (v = .non) = (match y with | .non => true | _ => false) := by
  cases y with
  | non => cases r; rfl
  | cd kvs => obtain ⟨a, rfl, _⟩ := r; rfl
  | tup ys => obtain ⟨a, xs, rfl, _⟩ := r; rfl
  | sq ys => obtain ⟨a, xs, rfl, _⟩ := r; rfl
  | _ => cases r; rfl
theorem up_notN {G : G3} (σ : L2.St) (H : Hp) (Q : VK) : upE G (yIsN true ta) σ H Q → tNotN (upE G ta) σ H Q := fun ⟨τ, L, Q3, rs, rl, z, k⟩ =>
  ⟨τ, L, _, rs, rl, z, fun v H1 y L1 t1 rl1 rv1 z1 => by
    dsimp only
    rw [rv1.non_iff]
    cases y <;> exact k _ H1 _ L1 t1 rl1 (by rfl) z1⟩
theorem up_B' {G : G3} {t : TE} (h : ∀ σ H Q, upE G te σ H Q → t σ H Q) (σ : L2.St) (H : Hp) (Q : Bool → Hp → Prop) : upT G (yB te) σ H Q → L2.tB t σ H Q := fun q => h σ H _ (up_tB σ H Q q)
theorem qt_notN {j : Nat} {pos' : Pos} (h : QE X a ta) : QT X (.Compare a [.IsNot] [.Constant .none j pos'] pos) (yB (yIsN true ta)) := PT.imp (pt_cmp (pc_notN h)) (up_B' up_notN)
end
end L3

namespace L3
open PySem L2
section
variable {X : Cx} {a b c e : Expr} {es rest : List Expr} {ta tb tc te : TE3} {tA tB : TT3} {tr : TA3} {pos : Pos}
theorem qw_and1 (h : QT X a tA) : QW X (.BoolOp .And [a] pos) tA := pw_and1 h
theorem qw_and (h : QT X a tA) (k : QW X (.BoolOp .And (b :: rest) pos) tB) : QW X (.BoolOp .And (a :: b :: rest) pos) (yAnd tA tB) := PW.imp (pw_and h k) fun σ H Q ⟨τ, L, Q3, rs, rl, z, k⟩ =>
  ⟨τ, L, _, rs, rl, z, fun c H1 L1 t1 rl1 z1 => by
    cases c with
    | true => rw [if_pos rfl]; exact ⟨τ, L1, Q3, rs.ts t1, rl1, z1, k.ts t1⟩
    | false => rw [if_neg Bool.false_ne_true]; exact k _ H1 L1 t1 rl1 z1⟩
theorem qw_pt (h : QW X a tA) : QT X a tA := PW.pt h
theorem qe_one {op : BoolOp} (h : QE X a ta) : QE X (.BoolOp op [a] pos) ta := pe_one h
theorem qe_and (h : QE X a ta) (k : QE X (.BoolOp .And (b :: rest) pos) tb) : QE X (.BoolOp .And (a :: b :: rest) pos) (yAndV ta tb) := PE.imp (pe_and h k) fun σ H Q ⟨τ, L, Q3, rs, rl, z, k⟩ =>
  ⟨τ, L, _, rs, rl, z, fun v H1 y L1 t1 rl1 rv1 z1 => by
    cases y with
    | bl c =>
      refine ⟨c, rv1, ?_⟩
      have z2 : yite c (tb τ L1 Q3) (Q3 (.bl false) L1) := z1
      cases c with
      | true => rw [if_pos rfl]; exact ⟨τ, L1, Q3, rs.ts t1, rl1, z2, k.ts t1⟩
      | false => rw [if_neg Bool.false_ne_true]; exact k _ H1 _ L1 t1 rl1 (by rfl) z2
    | _ => exact z1.elim⟩
theorem qe_not (h : QE X a ta) : QE X (.UnaryOp .Not a pos) (yNotV ta) := PE.imp (pe_not h) fun σ H Q ⟨τ, L, Q3, rs, rl, z, k⟩ =>
  ⟨τ, L, _, rs, rl, z, fun v H1 y L1 t1 rl1 rv1 z1 => by
    cases y with
    | bl c => exact ⟨c, rv1, k _ H1 _ L1 t1 rl1 (by rfl) z1⟩
    | _ => exact z1.elim⟩
theorem qa_nil : QA X [] yNil := PA.imp pa_nil fun σ H Q ⟨τ, L, Q3, rs, rl, z, k⟩ => k _ H _ L (TSt.refl _) rl (by rfl) z
theorem qa_cons (h : QE X e te) (ht : QA X es tr) (hs : starEach (e :: es) X.env = (false, eval e X.env) :: starEach es X.env := by rfl) : QA X (e :: es) (yCons te tr) := PA.imp (pa_cons h ht hs) fun σ H Q ⟨τ, L, Q3, rs, rl, z, k⟩ =>
  ⟨τ, L, _, rs, rl, z, fun v H1 y L1 t1 rl1 rv1 z1 => ⟨τ, L1, _, rs.ts t1, rl1, z1, fun vs H2 ys L2 t2 rl2 rv2 z2 => k (v :: vs) H2 (y :: ys) L2 (t1.trans t2) rl2 ⟨v, vs, rfl, rv1.ts t2, rv2⟩ z2⟩⟩
theorem qe_tup {x1 : Nat} (h : QA X es tr) : QE X (.Tuple es x1 pos) (yTup tr) := PE.imp (pe_tup h) fun σ H Q ⟨τ, L, Q3, rs, rl, z, k⟩ =>
  ⟨τ, L, _, rs, rl, z, fun vs H1 ys L1 t1 rl1 rv1 z1 => by
    cases e : Nat.ble ys.length 1000 with
    | false => rw [e] at z1; exact z1.elim
    | true =>
      rw [e] at z1
      have := Nat.le_of_ble_eq_true e
      refine ⟨small (by rw [← rv1.length]; exact this), fun p hp => ?_⟩
      exact k _ _ (.tup ys) L1 (t1.trans (TSt.new hp)) (rl1.skip hp) ⟨p, vs, rfl, SqT.of upd_same, rv1.ts (TSt.new hp)⟩ z1⟩
theorem qe_lst (h : QA X es tr) : QE X (.List es pos) (yLst tr) := PE.imp (pe_lst h) fun σ H Q ⟨τ, L, Q3, rs, rl, z, k⟩ =>
  ⟨τ, L, _, rs, rl, z, fun vs H1 ys L1 t1 rl1 rv1 z1 => by
    cases e : Nat.ble ys.length 1000 with
    | false => rw [e] at z1; exact z1.elim
    | true =>
      rw [e] at z1
      have := Nat.le_of_ble_eq_true e
      refine ⟨small (by rw [← rv1.length]; exact this), fun p hp => ?_⟩
      exact k _ _ _ _ (t1.trans (TSt.new hp)) (rl1.newL hp rv1) (by rfl) (z1 p (rl1.none hp))⟩
theorem qe_callB {x : Str} {p : Pos} {id : String} {r : List Y → LHp → YK → Prop} (hc : CallR X (.builtin id) (upL X.g3 r)) (hg : Gl X x) (hm : X.mg x = none) (hv : bootBuiltins x = some (.builtin id)) (h : QA X (e :: es) tr)
    (hn : x ≠ "__name__" := by decide) (hd : (x == ("__debug__" : Str)) = false := by decide) (hs : starEach (e :: es) X.env = (false, eval e X.env) :: starEach es X.env := by rfl) (hp : (backTo pos (starEach es X.env)).any (·.1) = false := by rfl) :
    QE X (.Call (.Name x p) (e :: es) [] pos) (yCB r tr) := PE.imp (pe_callB hc hg hm hv h hn hd hs hp) fun σ H Q ⟨τ, L, Q3, rs, rl, z, k⟩ =>
  ⟨τ, L, _, rs, rl, z, fun vs H1 ys L1 t1 rl1 rv1 z1 => ⟨ys, L1, Q3, rv1, rl1, z1, k.ts t1⟩⟩
/-! ### slices -/
def upO (G : G3) (t : TO3) : TO := fun σ H Q => ∃ τ L Q3, RelS G H σ τ ∧ RelH G H L ∧ t τ L Q3 ∧ ∀ (o : Option Int) H' L', TSt H H' → RelH G H' L' → Q3 o L' → Q o H'
abbrev QO (X : Cx) (e : Option Expr) (t : TO3) : Prop := PO X e (upO X.g3 t)
theorem PO.imp {X : Cx} {e : Option Expr} {t u : TO} (h : PO X e t) (q : ∀ σ H Q, u σ H Q → t σ H Q) : PO X e u := fun pins s σ H Q I z => h pins s σ H Q I (q σ H Q z)
theorem SlR.imp {X : Cx} {r r' : V → Option Int → Option Int → Hp → VK → Prop} (h : SlR X r) (q : ∀ x lo hi H Q, r' x lo hi H Q → r x lo hi H Q) : SlR X r' := by
  intro pins s σ H x v vl vu lo hi sl Q I rx hs pl pu z
  exact h pins s σ H x v vl vu lo hi sl Q I rx hs pl pu (q _ _ _ _ _ z)
theorem qo_none : QO X none yNoPart := PO.imp po_none fun σ H Q ⟨τ, L, Q3, rs, rl, z, k⟩ => k _ H L (TSt.refl _) rl z
theorem qo_some (h : QE X e te) : QO X (some e) (yPart te) := PO.imp (po_some h) fun σ H Q ⟨τ, L, Q3, rs, rl, z, k⟩ =>
  ⟨τ, L, _, rs, rl, z, fun v H1 y L1 t1 rl1 rv1 z1 => by
    cases y with
    | int i => exact ⟨i, rv1, k _ H1 L1 t1 rl1 z1⟩
    | _ => exact z1.elim⟩
def upSl (G : G3) (r : Y → Option Int → Option Int → LHp → YK → Prop) : V → Option Int → Option Int → Hp → VK → Prop := fun x lo hi H Q => ∃ y L Q3, RV G H y x ∧ RelH G H L ∧ r y lo hi L Q3 ∧ Aft G H Q3 Q
theorem qe_slice {lo hi : Option Expr} {tl th : TO3} {p2 : Pos} {r : Y → Option Int → Option Int → LHp → YK → Prop} (h : SlR X (upSl X.g3 r)) (ha : QE X a ta) (hl : QO X lo tl) (hh : QO X hi th) : QE X (.Subscript a (.Slice lo hi none p2) pos) (ySl r ta tl th) :=
  PE.imp (pe_slice h ha hl hh) fun σ H Q ⟨τ, L, Q3, rs, rl, z, k⟩ =>
  ⟨τ, L, _, rs, rl, z, fun v H1 y L1 t1 rl1 rv1 z1 => ⟨τ, L1, _, rs.ts t1, rl1, z1, fun o H2 L2 t2 rl2 z2 => ⟨τ, L2, _, rs.ts (t1.trans t2), rl2, z2, fun o' H3 L3 t3 rl3 z3 => ⟨y, L3, Q3, rv1.ts (t2.trans t3), rl3, z3, k.ts (t1.trans (t2.trans t3))⟩⟩⟩⟩
theorem cutY_rv {G : G3} {H : Hp} {ys : List Y} {xs : List V} (r : RVs G H ys xs) (lo hi : Option Int) : RVs G H (cutY ys lo hi) (cutV xs lo hi) := by
  unfold cutY cutV
  rw [r.length]
  exact (r.drop _).take _
theorem q_slL (K : PySem.W.Frag) (P : Program) (w : World) (hK : X.K = K := by rfl) (hP : X.prog = P := by rfl) (hw : X.w = w := by rfl) : SlR X (upSl ⟨K, P, w⟩ ySlL) := by
  subst hK hP hw
  refine SlR.imp sl_list fun x lo hi H Q ⟨y, L, Q3, rv, rl, z, k⟩ => ?_
  cases y with
  | ref a =>
    obtain ⟨ys, es, z'⟩ := lstK_inv z
    obtain ⟨xs, sq, r⟩ := seq_list rl (seqOf_lst es)
    exact ⟨a, xs, rv, sq, fun p hp => k _ _ _ _ (TSt.new hp) (rl.newL hp (cutY_rv r lo hi)) (by rfl) (z' p (rl.none hp))⟩
  | sq ys =>
    obtain ⟨a, xs, e, sf, r⟩ := rv
    exact ⟨a, xs, e, sf.sq, fun p hp => k _ _ _ _ (TSt.new hp) (rl.newL hp (cutY_rv r lo hi)) (by rfl) (z p (rl.none hp))⟩
  | _ => exact z.elim
end
section
variable {X : Cx} {a b c e tg iter : Expr} {es : List Expr} {ta tb tc te : TE3} {tA tB : TT3} {tr : TA3} {pos : Pos} {st : Stmt} {rest body orelse : List Stmt} {t u : TS3}
theorem qss_nil : QSs X [] yNext := PSs.imp pss_nil fun D σ H ⟨τ, L, D3, rs, rl, z, k⟩ => k.nx _ H _ L (TSt.refl _) rs rl z
theorem qss_one (h : QS X st t) : QSs X [st] t := pss_one h
theorem qss_cons (h : QS X st t) (k : QSs X rest u) : QSs X (st :: rest) (ySeq t u) := PSs.imp (pss_cons h k) fun D σ H ⟨τ, L, D3, rs, rl, z, k⟩ =>
  ⟨τ, L, { D3 with nx := u D3 }, rs, rl, z, fun σ1 H1 τ1 L1 t1 rs1 rl1 z1 => ⟨τ1, L1, D3, rs1, rl1, z1, k.ts t1⟩, k.rt, k.bk, k.ct⟩
theorem qs_expr (h : QE X e te) (hs : swapsWith e none pos.line X.env = pure false := by rfl) : QS X (.Expr e pos) (yDrop te) := PS.imp (ps_expr h hs) fun D σ H ⟨τ, L, D3, rs, rl, z, k⟩ =>
  ⟨τ, L, _, rs, rl, z, fun v H1 y L1 t1 rl1 rv1 z1 => k.nx _ H1 _ L1 t1 (rs.ts t1) rl1 z1⟩
theorem qs_ret (h : QE X e te) : QS X (.Return (some e) pos) (yRet te) := PS.imp (ps_ret h) fun D σ H ⟨τ, L, D3, rs, rl, z, k⟩ => ⟨τ, L, _, rs, rl, z, k.rt⟩
theorem qs_if (h : QT X c tA) (ha : QSs X body t) (hb : QSs X orelse u) : QS X (.If c body orelse pos) (yIfS tA t u) := PS.imp (ps_if h ha hb) fun D σ H ⟨τ, L, D3, rs, rl, z, k⟩ =>
  ⟨τ, L, _, rs, rl, z, fun c H1 L1 t1 rl1 z1 => by
    cases c with
    | true => rw [if_pos rfl]; exact ⟨τ, L1, D3, rs.ts t1, rl1, z1, k.ts t1⟩
    | false => rw [if_neg Bool.false_ne_true]; exact ⟨τ, L1, D3, rs.ts t1, rl1, z1, k.ts t1⟩⟩
theorem qs_set {i : Nat} {x : Str} {pos' : Pos} (hN : X.N.Nodup) (hix : X.N[i]? = some x) (hx : Loc X.env.scope x) (h : QE X e te) (hsw : swapsWith e (some (.Name x pos')) pos.line X.env = pure false := by rfl)
    (hfn : X.fn x = true ∨ X.env.scope.names.lookup x = some .local := by first | exact .inl rfl | exact .inr rfl | assumption) : QS X (.Assign [.Name x pos'] e pos) (yAsg te (gyName i)) := PS.imp (ps_set hN hix hx h hsw hfn) fun D σ H ⟨τ, L, D3, rs, rl, z, k⟩ =>
  ⟨τ, L, _, rs, rl, z, fun v H1 y L1 t1 rl1 rv1 z1 => k.nx _ H1 _ L1 t1 (show RelS _ _ _ (set3 τ i y) by rw [set3_eq]; exact (rs.ts t1).set rv1) rl1 z1⟩
theorem PG.imp {X : Cx} {e : Expr} {t u : TG} (h : PG X e t) (q : ∀ v σ H Q, u v σ H Q → t v σ H Q) : PG X e u := fun pins s σ H x v Q I r z => h pins s σ H x v Q I r (q _ _ _ _ z)
theorem PGs.imp {X : Cx} {e : List Expr} {t u : TGs} (h : PGs X e t) (q : ∀ v σ H Q, u v σ H Q → t v σ H Q) : PGs X e u := fun pins s σ H x v Q I r z => h pins s σ H x v Q I r (q _ _ _ _ z)
theorem qg_name {i : Nat} {x : Str} (hN : X.N.Nodup) (hix : X.N[i]? = some x) (hx : Loc X.env.scope x) (hfn : X.fn x = true ∨ X.env.scope.names.lookup x = some .local := by first | exact .inl rfl | exact .inr rfl | assumption) : QG X (.Name x pos) (gyName i) :=
  PG.imp (pg_name hN hix hx hfn) fun v σ H Q ⟨y, τ, L, Q3, rv, rs, rl, z, k⟩ => k _ H _ L (TSt.refl _) (show RelS _ _ _ (set3 τ i y) by rw [set3_eq]; exact rs.set rv) rl z
theorem qgs_nil : QGs X [] gyNil := PGs.imp pgs_nil fun vs σ H Q ⟨ys, τ, L, Q3, rv, rs, rl, z, k⟩ => by
  cases ys with
  | nil => exact ⟨rv, k _ H _ L (TSt.refl _) rs rl z⟩
  | cons y r => exact z.elim
theorem qgs_cons {g : TG3} {gs : TGs3} (h : QG X e g) (hs : QGs X es gs) (he : (assignEach (e :: es) X.env).map (·.2) = assign e X.env :: (assignEach es X.env).map (·.2) := by rfl) : QGs X (e :: es) (gyCons g gs) :=
  PGs.imp (pgs_cons h hs he) fun vs σ H Q ⟨ys, τ, L, Q3, rv, rs, rl, z, k⟩ => by
  cases ys with
  | nil => exact z.elim
  | cons y r =>
    obtain ⟨x, xs, rfl, r1, r2⟩ := rv
    exact ⟨x, xs, rfl, y, τ, L, _, r1, rs, rl, z, fun σ1 H1 τ1 L1 t1 rs1 rl1 z1 => ⟨r, τ1, L1, Q3, r2.ts t1, rs1, rl1, z1, k.ts t1⟩⟩
theorem qg_tup {gs : TGs3} {kk n : Nat} (hc : X.calm = true) (h : QGs X es gs) (h1 : (assignEach es X.env).length = n := by rfl) (h2 : (assignEach es X.env).findIdx? (·.1) = none := by rfl) : QG X (.Tuple es kk pos) (gyTup n gs) :=
  PG.imp (pg_tup hc h h1 h2) fun v σ H Q ⟨y, τ, L, Q3, rv, rs, rl, z, k⟩ => by
  cases y with
  | tup ys =>
    obtain ⟨a, xs, rfl, sq, r⟩ := rv
    have z' : (match ys.length == n with | true => gs ys τ L Q3 | false => False) := z
    split at z'
    · rename_i e
      exact ⟨a, xs, rfl, sq, by rw [← r.length]; exact beq_iff_eq.mp e, ys, τ, L, Q3, r, rs, rl, z', k⟩
    · exact z'.elim
  | _ => exact z.elim
/-! ### loops -/
theorem qs_for {g : TG3} {wi : TI3} (hp : PassesOwn (model X.prog X.w) X.A X.env X.xe) (hc : X.calm = true) (hi : QI X tg iter wi) (hg : QG X tg g) (hb : QSs X body t) (hs : ∀ x, foldedSetIterable iter X.env x = pure x := by intro _; rfl) :
    QS X (.For tg iter body [] pos) (yFor wi g t) := PS.imp (ps_for hp hc hi hg hb hs) fun D σ H ⟨τ, L, D3, rs, rl, z, k⟩ => by
  refine ⟨τ, L, _, rs, rl, z, fun J H1 ys keep L1 t1 rl1 yl zz => ?_⟩
  obtain ⟨W, w0, wk, turn, fin⟩ := forK_inv zz
  refine ⟨fun i m σ' H' => ∃ τ' L', i + m = ys.length ∧ TSt H1 H' ∧ RelS X.g3 H' σ' τ' ∧ RelH X.g3 H' L' ∧ W i τ' L', ⟨ys.length, τ, L1, by omega, TSt.refl _, rs.ts t1, rl1, w0⟩, ?_⟩
  rintro i m σ2 H2 ⟨τ2, L2, him, t2, rs2, rl2, w2⟩
  by_cases hlt : i < ys.length
  · refine .inr ⟨yl.go i H2 L2 t2 rl2 (wk i τ2 L2 w2) hlt, fun σ' H' => ∃ τ' L', TSt H1 H' ∧ RelS X.g3 H' σ' τ' ∧ RelH X.g3 H' L' ∧ W (i + 1) τ' L', ?_, ?_⟩
    · rintro σ' H' ⟨τ', L', t', rs', rl', w'⟩
      exact ⟨m - 1, by omega, τ', L', by omega, t', rs', rl', w'⟩
    · intro x H3 y3
      have ey : ys[i]? = some ys[i] := List.getElem?_eq_getElem hlt
      obtain ⟨t3, rl3, rv3⟩ := yl.yld i H2 L2 x H3 _ t2 rl2 (wk i τ2 L2 w2) ey y3
      refine ⟨ys[i], τ2, L2, _, rv3, rs2.ts t3, rl3, turn i _ τ2 L2 ey w2, fun σ4 H4 τ4 L4 t4 rs4 rl4 z4 => ?_⟩
      have nx : AftS X.g3 H4 (Frg (W (i + 1))) (fun σ' H' => ∃ τ' L', TSt H1 H' ∧ RelS X.g3 H' σ' τ' ∧ RelH X.g3 H' L' ∧ W (i + 1) τ' L') := fun σ' H' τ' L' t' rs' rl' ⟨L5, s5, n'⟩ => ⟨τ', L5, ((t2.trans t3).trans t4).trans t', rs', rl'.sub s5, n'⟩
      have k2 := k.ts (t1.trans ((t2.trans t3).trans t4))
      exact ⟨τ4, L4, _, rs4, rl4, z4, nx, k2.rt, k2.nx, nx⟩
  · have e : i = ys.length := by omega
    subst e
    exact .inl ⟨yl.stop H2 L2 t2 rl2 (wk _ τ2 L2 w2), k.nx _ H2 _ L2 (t1.trans t2) rs2 rl2 (fin τ2 L2 w2)⟩
theorem PI.imp {X : Cx} {tg e : Expr} {t u : TI} (h : PI X tg e t) (q : ∀ σ H Q, u σ H Q → t σ H Q) : PI X tg e u := fun pins s σ H Q I z => h pins s σ H Q I (q σ H Q z)
theorem yields_list {G : G3} {H₀ : Hp} {a : Addr} {ys : List Y} {keep : LHp → Prop} (h : ∀ H L, TSt H₀ H → RelH G H L → keep L → ∃ xs, SqL G.K H a xs ∧ RVs G H ys xs) : Yields G H₀ (Itl G.K a) ys keep where
  go := fun i H L t rl kp hi => by
    obtain ⟨xs, sq, r⟩ := h H L t rl kp
    have : i < xs.length := by rw [← r.length]; exact hi
    exact ⟨xs, xs[i], sq, List.getElem?_eq_getElem this⟩
  yld := fun i H L x H' y t rl kp hy ⟨e, f⟩ => by
    subst e
    obtain ⟨xs, sq, r⟩ := h _ L t rl kp
    obtain ⟨x', e', rv⟩ := r.get hy
    have := f xs sq
    rw [e'] at this; cases this
    exact ⟨TSt.refl _, rl, rv⟩
  stop := fun H L t rl kp => by
    obtain ⟨xs, sq, r⟩ := h H L t rl kp
    exact ⟨xs, sq, by rw [r.length]; exact Nat.le_refl _⟩
theorem qi_list (h : QE X e te) : QI X tg e (iyList te) := PI.imp (pi_list h) fun σ H R ⟨τ, L, R3, rs, rl, z, k⟩ => by
  refine ⟨τ, L, _, rs, rl, z, fun v H1 y L1 t1 rl1 rv1 z1 => ?_⟩
  cases y with
  | ref a =>
    obtain ⟨ys, keep, es, kp, hk, z2⟩ := lisK_inv z1
    have hy : ∀ H L, TSt H1 H → RelH X.g3 H L → keep L → ∃ xs, SqL X.K H a xs ∧ RVs X.g3 H ys xs := fun H L _ rl e => seq_list rl (hk L e)
    obtain ⟨xs, sq, _⟩ := hy H1 L1 (TSt.refl _) rl1 kp
    exact ⟨a, rv1, ⟨xs, sq⟩, k _ H1 ys _ L1 t1 rl1 (yields_list hy) z2⟩
  | sq ys =>
    obtain ⟨a, xs, e, sf, r⟩ := rv1
    exact ⟨a, e, ⟨xs, sf.sq⟩, k _ H1 ys (fun _ => True) L1 t1 rl1 (yields_list fun H L t _ _ => ⟨xs, (sf.ts t).sq, r.ts t⟩) z1⟩
  | _ => exact z1.elim
theorem yields_ints {G : G3} {H₀ : Hp} (lo : Int) (n : Nat) : Yields G H₀ (Itr lo n) (intsY lo n) (fun _ => True) where
  go := fun i H L t rl kp hi => show i < n by simpa [intsY] using hi
  yld := fun i H L x H' y t rl kp hy ⟨e, f⟩ => by
    subst e f
    refine ⟨TSt.refl _, rl, ?_⟩
    unfold intsY at hy
    rw [List.getElem?_map] at hy
    obtain ⟨z, ez, e⟩ := Option.map_eq_some_iff.mp hy
    have := List.getElem?_range (i := i) (n := n) (by
      by_cases c : i < n
      · exact c
      · rw [List.getElem?_eq_none (by simp; omega)] at ez; cases ez)
    rw [this] at ez; cases ez
    subst e
    rfl
  stop := fun H L t rl kp => by simp [intsY, Itr]
theorem qi_range1 {p : Pos} (hg : Gl X "range") (hm : X.mg "range" = none) (h : QA X [a] tr) (hs : starEach [a] X.env = [(false, eval a X.env)] := by rfl) : QI X tg (.Call (.Name "range" p) [a] [] pos) (iyRng1 tr) :=
  PI.imp (pi_range1 hg hm h hs) fun σ H R ⟨τ, L, R3, rs, rl, z, k⟩ => by
  refine ⟨τ, L, _, rs, rl, z, fun vs H1 ys L1 t1 rl1 rv1 z1 => ?_⟩
  split at z1
  · rename_i j
    obtain ⟨x, rfl, r⟩ := rv1.inv1
    cases r
    exact ⟨j, rfl, z1.1.1, z1.1.2, k _ H1 _ _ L1 t1 rl1 (yields_ints 0 _) z1.2⟩
  · exact z1.elim
end
end L3

namespace L3
open PySem L2
section
variable {X : Cx} {scope : Scope} {T : List Str} {elt target iter c e o : Expr} {ifs es : List Expr} {wi : TI3} {g : TG3} {tA : TT3} {te to : TE3} {tr : TA3} {pos : Pos}
theorem qf_nil : QF X [] yYes := PF.imp pf_nil fun σ H Q ⟨τ, L, Q3, rs, rl, z, k⟩ => k _ H L (TSt.refl _) rl z
theorem qf_one (h : QT X c tA) : QF X [c] tA := pf_one h
theorem up_lc {G : G3} {n : Nat} {g2 : TG} (hg2 : ∀ v σ H Q, upG G g v σ H Q → g2 v σ H Q) (σ : L2.St) (H : Hp) (Q : VK) : upE G (yLC n wi g tA te) σ H Q → tLC n (upI G wi) g2 (upT G tA) (upE G te) σ H Q := fun ⟨τ, L, Q3, rs, rl, z, k⟩ => by
  refine ⟨τ, L, _, rs, rl, z, fun J H1 ys keep L1 t1 rl1 yl zz => ?_⟩
  obtain ⟨hz, W, w0, wk, turn, fin⟩ := lcK_inv zz
  refine ⟨fun i m vs H' => ∃ zs L', i + m = ys.length ∧ zs.length ≤ i ∧ TSt H1 H' ∧ RVs G H' zs vs ∧ RelH G H' L' ∧ W i zs L', ⟨ys.length, [], L1, by omega, Nat.le_refl _, TSt.refl _, rfl, rl1, w0⟩, ?_⟩
  rintro i m vs H2 ⟨zs, L2, him, hzi, t2, rv2, rl2, w2⟩
  by_cases hlt : i < ys.length
  · refine .inr ⟨yl.go i H2 L2 t2 rl2 (wk i zs L2 w2) hlt, by rw [← rv2.length]; omega, ?_⟩
    intro x H3 y3
    have ey : ys[i]? = some ys[i] := List.getElem?_eq_getElem hlt
    obtain ⟨t3, rl3, rv3⟩ := yl.yld i H2 L2 x H3 _ t2 rl2 (wk i zs L2 w2) ey y3
    refine hg2 _ _ _ _ ⟨ys[i], _, L2, _, rv3, (rs.ts ((t1.trans t2).trans t3)).more n, rl3, turn i _ zs L2 ey w2, fun σ4 H4 τ4 L4 t4 rs4 rl4 z4 => ?_⟩
    refine ⟨τ4, L4, _, rs4, rl4, z4, fun b H5 L5 t5 rl5 z5 => ?_⟩
    cases b with
    | true =>
      rw [if_pos rfl]
      refine ⟨τ4, L5, _, rs4.ts t5, rl5, z5, fun v6 H6 y6 L6 t6 rl6 rv6 ⟨L7, s7, z6⟩ => ?_⟩
      have tt := ((t3.trans t4).trans t5).trans t6
      exact ⟨m - 1, by omega, zs ++ [y6], L7, by omega, by rw [List.length_append, List.length_singleton]; omega, t2.trans tt, (rv2.ts tt).app (RVs.one rv6), rl6.sub s7, z6⟩
    | false =>
      rw [if_neg Bool.false_ne_true]
      have tt := (t3.trans t4).trans t5
      obtain ⟨L7, s7, z6⟩ := z5
      exact ⟨m - 1, by omega, zs, L7, by omega, by omega, t2.trans tt, rv2.ts tt, rl5.sub s7, z6⟩
  · have ei : i = ys.length := by omega
    subst ei
    refine .inl ⟨yl.stop H2 L2 t2 rl2 (wk _ zs L2 w2), by rw [← rv2.length]; omega, fun D hD => ?_⟩
    exact k _ _ _ _ ((t1.trans t2).trans (TSt.new hD)) (rl2.newL hD rv2) (by rfl) (fin zs L2 w2 D (rl2.none hD))
/-- a comprehension's target -/
structure TGx (X : Cx) (scope : Scope) (T : List Str) (target : Expr) (g : TG3) : Prop where
  ex : ∃ g2 : TG, (∀ C fp s₀ H₀, PG (X.comp scope T C fp s₀ H₀) target g2) ∧ Outer g2 X.N.length T.length ∧ ∀ v σ H Q, upG X.g3 g v σ H Q → g2 v σ H Q
theorem up_name {G : G3} (i : Nat) (v : V) (σ : L2.St) (H : Hp) (Q : L2.St → Hp → Prop) : upG G (gyName i) v σ H Q → gName i v σ H Q := fun ⟨y, τ, L, Q3, rv, rs, rl, z, k⟩ =>
  k _ H _ L (TSt.refl _) (show RelS _ _ _ (set3 τ i y) by rw [set3_eq]; exact rs.set rv) rl z
theorem tgx_name {x : Str} {p : Pos} (hN : (X.N ++ [x]).Nodup) (hl : ∀ C fp s₀ H₀, Loc (X.comp scope [x] C fp s₀ H₀).env.scope x) (hfn : ∀ C fp s₀ H₀, (X.comp scope [x] C fp s₀ H₀).env.scope.names.lookup x = some .local) : TGx X scope [x] (.Name x p) (gyName X.N.length) :=
  ⟨gName X.N.length, fun C fp s₀ H₀ => pg_name (X := X.comp scope [x] C fp s₀ H₀) hN (by show (X.N ++ [x])[X.N.length]? = some x; simp) (hl C fp s₀ H₀) (.inr (hfn C fp s₀ H₀)), outer_name _, up_name _⟩
theorem qe_lc (T : List Str) (S : CompScope X scope) (hc : X.calm = true) (hi : QI X target iter wi) (hg : TGx X scope T target g)
    (hf : ∀ C fp s₀ H₀, QF (X.comp scope T C fp s₀ H₀) ifs tA) (he : ∀ C fp s₀ H₀, QE (X.comp scope T C fp s₀ H₀) elt te)
    (hs : ∀ x, foldedSetIterable iter X.env x = pure x := by intro _; rfl) : QE X (.ListComp elt [⟨target, iter, ifs, 0⟩] scope pos) (yLC T.length wi g tA te) := by
  obtain ⟨g2, h1, h2, h3⟩ := hg.ex
  exact PE.imp (pe_lc T S hc hi h1 h2 hf he hs) (up_lc h3)
theorem qs_setLC (T : List Str) {i : Nat} {x : Str} {px lp : Pos} (hN : X.N.Nodup) (hix : X.N[i]? = some x) (hx : Loc X.env.scope x) (S : CompScope X scope) (hc : X.calm = true) (hi : QI X target iter wi)
    (hg : TGx X scope T target g) (hf : ∀ C fp s₀ H₀, QF (X.comp scope T C fp s₀ H₀) ifs tA) (he : ∀ C fp s₀ H₀, QE (X.comp scope T C fp s₀ H₀) elt te)
    (hsw : swapsWith (.ListComp elt [⟨target, iter, ifs, 0⟩] scope lp) (some (.Name x px)) pos.line X.env = pure true := by rfl)
    (hfn : X.fn x = true ∨ X.env.scope.names.lookup x = some .local := by first | exact .inl rfl | exact .inr rfl | assumption)
    (hs : ∀ x, foldedSetIterable iter X.env x = pure x := by intro _; rfl) : QS X (.Assign [.Name x px] (.ListComp elt [⟨target, iter, ifs, 0⟩] scope lp) pos) (yAsg (yLC T.length wi g tA te) (gyName i)) := by
  obtain ⟨g2, h1, h2, h3⟩ := hg.ex
  refine PS.imp (ps_setLC (tc := upT X.g3 tA) (te := upE X.g3 te) T hN hix hx S hc hi h1 h2 hf he hsw hfn hs) fun D σ H ⟨τ, L, D3, rs, rl, z, k⟩ => ?_
  refine up_lc h3 σ H _ ⟨τ, L, _, rs, rl, z, fun v H1 y L1 t1 rl1 rv1 z1 => ?_⟩
  exact k.nx _ H1 _ L1 t1 (show RelS _ _ _ (set3 τ i y) by rw [set3_eq]; exact (rs.ts t1).set rv1) rl1 z1
/-! ### calls of defs -/
def dn (G : G3) (sp : Sp3) : Sp := fun vs H Q _ => ∃ ys L Q3, RVs G H ys vs ∧ RelH G H L ∧ sp ys L Q3 ∧ Aft G H Q3 Q
abbrev Cal3 (P : Program) (w : World) (K : PySem.W.Frag) (mg : Str → Option Value) (base : Heap) (k : Nat) (x : Str) (ps : List Str) (sp : Sp3) : Prop := Cal P w K mg base k x ps (dn ⟨K, P, w⟩ sp)
abbrev Fn3 (P : Program) (w : World) (K : PySem.W.Frag) (mg : Str → Option Value) (base : Heap) (k : Nat) (f : Addr) (fd : FuncData) (ps : List Str) (sp : Sp3) : Prop := FnOk P w K mg base CX0 k f fd ps (dn ⟨K, P, w⟩ sp)
theorem qe_c {k : Nat} {x : Str} {ps : List Str} {sp : Sp3} {p : Pos} (c : Cal3 X.prog X.w X.K X.mg X.base k x ps sp) (hr : Room k X.A) (hg : Gl X x) (ha : QA X (e :: es) tr) (hdb : (x == ("__debug__" : Str)) = false := by decide)
    (he : starEach (e :: es) X.env = (false, eval e X.env) :: starEach es X.env := by rfl) (hpl : (backTo pos (starEach es X.env)).any (·.1) = false := by rfl) : QE X (.Call (.Name x p) (e :: es) [] pos) (yCall sp tr) :=
  PE.imp (pe_c c hr hg ha hdb he hpl) fun σ H Q ⟨τ, L, Q3, rs, rl, z, k⟩ =>
  ⟨τ, L, _, rs, rl, z, fun vs H1 ys L1 t1 rl1 rv1 z1 => ⟨ys, L1, Q3, by rw [List.append_nil]; exact rv1, rl1, z1, k.ts t1⟩⟩
/-- what is told behind a def: what it made besides may be forgotten -/
def Fin3 (Q : YK) : YK := fun y L => ∃ L2, LSub L2 L ∧ Q y L2
def start3 (N : List Str) (ys : List Y) : St3 := ys.map some ++ List.replicate (N.length - ys.length) none
theorem start_rel {G : G3} {H : Hp} {N : List Str} {ys : List Y} {vs : List V} (r : RVs G H ys vs) : RelS G H (L2.start N vs) (start3 N ys) := by
  unfold L2.start start3
  rw [← r.length]
  refine RelS.more ⟨by simp [r.length], fun i y e => ?_⟩ _
  rw [List.getElem?_map] at e
  obtain ⟨y', e1, e2⟩ := Option.map_eq_some_iff.mp e
  cases e2
  obtain ⟨x, ex, rx⟩ := r.get e1
  exact ⟨x, by rw [List.getElem?_map, ex]; rfl, rx⟩
theorem ok3 {P : Program} {w : World} {K : PySem.W.Frag} {mg : Str → Option Value} {base : Heap} {x qual : Str} {st : Stmt} {f : Addr} {fd : FuncData} {N ps : List Str} {k : Nat} {sp : Sp3} (F : Fun K x qual st f fd) (S : FnScope N ps (defScope st)) (len : ∀ ys L Q, sp ys L Q → ys.length = ps.length)
    (hbody : ∀ (cdv : Value) (A : Around) (outer : List Env) (s : Shared) (H : Hp) (E : XK), Room k (A.deeper (PyProof.Rows.envOfC qual (defScope st) s.heap.objs.size f cdv)) →
      ∃ t, QSs (cxOf CX0 P w K mg base N qual (defScope st) f cdv A outer s H E).nox (defBody st) t ∧ ∀ ys L Q, sp ys L Q → t { nx := fun _ L' => Fin3 Q .non L', rt := Fin3 Q } (start3 N ys) L) : Fn3 P w K mg base (k + 1) f fd ps sp := by
  refine F.ok S (fun vs H Q E ⟨ys, L, Q3, rv, rl, z, _⟩ => by rw [← rv.length]; exact len ys L Q3 z) fun cdv A outer s H vs Q E hr ⟨ys, L, Q3, rv, rl, z, k⟩ => ?_
  obtain ⟨t, ht, q⟩ := hbody cdv A outer s H E hr
  refine ⟨_, ht, start3 N ys, L, _, start_rel rv, rl, q ys L Q3 z, ?_⟩
  refine ⟨fun σ H' τ L' t' rs' rl' ⟨L2, s2, q2⟩ => k .non H' .non L2 t' (rl'.sub s2) (by rfl) q2, fun v H' y L' t' rl' rv' ⟨L2, s2, q2⟩ => k v H' y L2 t' (rl'.sub s2) rv' q2, fun _ _ _ _ _ _ _ z => z.elim, fun _ _ _ _ _ _ _ z => z.elim⟩
/-! ### methods of lists -/
def upM (G : G3) (r : Y → List Y → LHp → YK → Prop) : V → List V → Hp → VK → Prop := fun x xs H Q => ∃ y ys L Q3, RV G H y x ∧ RVs G H ys xs ∧ RelH G H L ∧ r y ys L Q3 ∧ Aft G H Q3 Q
theorem q_extend : MtM X "list.extend" (upM X.g3 yExtend) := MtM.imp mt_extend fun x xs H Q ⟨y, ys, L, Q3, r1, r2, rl, z, k⟩ => by
  unfold yExtend at z
  split at z
  · rename_i a b
    obtain ⟨zs, e, z⟩ := lstK_inv z
    obtain ⟨us, e', z⟩ := lstK_inv z
    obtain ⟨vs, e2, r⟩ := rl a _ e
    obtain ⟨ws, e3, r'⟩ := rl b _ e'
    obtain ⟨v', rfl, rv⟩ := r2.inv1
    cases rv
    exact ⟨a, b, vs, ws, r1, rfl, e2, e3, by rw [← r.length, ← r'.length]; exact z.1, k _ _ _ _ (TSt.lst e2) (rl.setL e2 (r.app r')) (by rfl) z.2⟩
  · exact z.elim
theorem tyV_seq {G : G3} {H : Hp} {L : LHp} {a : Addr} {ys : List Y} (rl : RelH G H L) (h : seqOf L (.ref a) = some ys) : tyV G.K "list" (.ref a) H := by
  obtain ⟨xs, sq, _⟩ := seq_list rl h
  exact .inl ⟨rfl, xs, sq⟩
def yBL (r : Y → List Y → LHp → YK → Prop) (to : TE3) (t : TA3) (τ : St3) (L : LHp) (Q : YK) : Prop := to τ L fun x L1 => match x with
  | .ref a => seqK L1 (.ref a) fun _ => t τ L1 fun xs L2 => r (.ref a) xs L2 Q
  | _ => False
theorem qe_bl1 {id : String} {name : Str} {apos cpos : Pos} {r : Y → List Y → LHp → YK → Prop} (h2 : Slot "list" name id) (h3 : typeOf (.builtin id) = pure (.type "method_descriptor")) (hm : MtM X id (upM X.g3 r)) (ho : QE X o to) (ha : QA X (e :: es) tr)
    (h4 : attributeBase o name X.env (eval o X.env) = eval o X.env := by rfl)
    (h5 : ((backTo cpos (starEach (e :: es) X.env)).all (fun x => !x.1) && (backToKw cpos (keywordEach [] X.env)).all (fun x => x.1.isSome) && decide ((e :: es).length + ([] : List Keyword).length + (if ([] : List Keyword).isEmpty = true then 0 else 1) < 30)) = true := by rfl)
    (h6 : (apos.endLine == cpos.line) = true := by rfl) (h7 : starEach (e :: es) X.env = (false, eval e X.env) :: starEach es X.env := by rfl) (h8 : (backTo cpos (starEach es X.env)).any (·.1) = false := by rfl) :
    QE X (.Call (.Attribute o name apos) (e :: es) [] cpos) (yBL r to tr) := PE.imp (pe_bm PySem.F.plainAttrs_list h2 h3 hm ho ha h4 h5 h6 h7 h8) fun σ H Q ⟨τ, L, Q3, rs, rl, z, k⟩ =>
  ⟨τ, L, _, rs, rl, z, fun v H1 y L1 t1 rl1 rv1 z1 => by
    split at z1
    · rename_i a
      obtain ⟨ys, es, z1⟩ := seqK_inv z1
      exact ⟨by cases rv1; exact tyV_seq rl1 es, τ, L1, _, rs.ts t1, rl1, z1, fun vs H2 ys L2 t2 rl2 rv2 z2 => ⟨.ref a, ys, L2, Q3, rv1.ts t2, rv2, rl2, z2, k.ts (t1.trans t2)⟩⟩
    · exact z1.elim⟩
theorem qe_extend {apos cpos : Pos} (ho : QE X o to) (ha : QA X (e :: es) tr) (h4 : attributeBase o "extend" X.env (eval o X.env) = eval o X.env := by rfl)
    (h5 : ((backTo cpos (starEach (e :: es) X.env)).all (fun x => !x.1) && (backToKw cpos (keywordEach [] X.env)).all (fun x => x.1.isSome) && decide ((e :: es).length + ([] : List Keyword).length + (if ([] : List Keyword).isEmpty = true then 0 else 1) < 30)) = true := by rfl)
    (h6 : (apos.endLine == cpos.line) = true := by rfl) (h7 : starEach (e :: es) X.env = (false, eval e X.env) :: starEach es X.env := by rfl) (h8 : (backTo cpos (starEach es X.env)).any (·.1) = false := by rfl) :
    QE X (.Call (.Attribute o "extend" apos) (e :: es) [] cpos) (yBL yExtend to tr) := qe_bl1 PySem.F.slot_list_extend PySem.F.type_list_extend q_extend ho ha h4 h5 h6 h7 h8
end
end L3

namespace L3
open PySem L2
abbrev yMul : R23 := yI CMul fun i j => .int (i * j)
abbrev yFdiv : R23 := yI CDiv fun i j => .int (i / j)
abbrev yMod : R23 := yI (fun _ j => 0 < j) fun i j => .int (i % j)
abbrev yPow : R23 := yI CPow fun i j => .int (i ^ j.toNat)
abbrev yGt : R23 := yI0 fun i j => .bl (decide (j < i))
/-- a constant of the top -/
structure TopC (G : G3) (mg : Str → Option Value) (x : Str) (y : Y) : Prop where
  ex : ∃ c, mg x = some (.ref c) ∧ ∀ H, RV G H y (.ref c)
theorem qe_top {X : Cx} {x : Str} {y : Y} {pos : Pos} (t : TopC X.g3 X.mg x y) (hg : Gl X x) (hd : (x == ("__debug__" : Str)) = false := by decide) : QE X (.Name x pos) (yC y) := by
  obtain ⟨c, hm, q⟩ := t.ex
  exact qe_gr hg hm q hd
/-! ### a dict of written texts -/
def dctOf (kvs : List (Str × Str)) : LO := .dct (kvs.map fun p => (Sum.inr p.1, Y.str p.2))
def yDict (kvs : List (Str × Str)) (_ : St3) (L : LHp) (Q : YK) : Prop := ∀ p, L p = none → Q (.ref p) (updL L p (dctOf kvs))
def kvV (kvs : List (Str × Str)) : List (Key × V) := kvs.map fun p => (Sum.inr p.1, V.str p.2)
theorem tPairs_c {σ : L2.St} {H : Hp} {Q : List (V × V) → Hp → Prop} : ∀ {kvs : List (Str × Str)}, Q (kvs.map fun p => (V.str p.1, V.str p.2)) H → tPairs (kvs.map fun p => (tC (.str p.1), tC (.str p.2))) σ H Q
  | [], h => h
  | _ :: r, h => tPairs_c (kvs := r) h
theorem kvV_rel {G : G3} {H : Hp} : ∀ kvs : List (Str × Str), Paired (fun (p : Key × Y) (q : Key × V) => p.1 = q.1 ∧ RV G H p.2 q.2) (kvs.map fun p => (Sum.inr p.1, Y.str p.2)) (kvV kvs)
  | [] => .nil
  | _ :: r => .cons ⟨rfl, rfl⟩ (kvV_rel r)
theorem qe_dict {X : Cx} {pos : Pos} {keys : List (Option Expr)} {values : List Expr} (kvs : List (Str × Str)) (h : PPs X pos keys values (kvs.map fun p => (tC (.str p.1), tC (.str p.2)))) (h1 : (keys.all fun x => x.isSome) = true) (h2 : keys.length = values.length) (h3 : keys ≠ []) (h4 : keys.length ≤ 15)
    (h5 : kvs.length ≤ 15 := by decide) (nd : mergeK [] (kvV kvs) = kvV kvs := by decide +kernel) : QE X (.Dict keys values pos) (yDict kvs) := PE.imp (pe_disp h h1 h2 h3 h4) fun σ H Q ⟨τ, L, Q3, rs, rl, z, k⟩ => by
  intro p hp
  refine tPairs_c ⟨upd_same, kvV kvs, by simp [kvV, kV], by simpa [kvV] using h5, ?_⟩
  rw [nd, upd_upd]
  refine k _ _ _ (updL L p (dctOf kvs)) (TSt.new hp) ?_ (by rfl) (z p (rl.none hp))
  intro a u e
  by_cases c : a = p
  · subst c
    rw [updL_same] at e; cases e
    exact ⟨kvV kvs, upd_same, kvV_rel kvs⟩
  · rw [updL_ne c] at e
    exact (rl a u e).keep (TSt.new hp) (upd_ne c)
/-! ### an item of a written list, of a written dict -/
def Pure3 (t : TE3) : Prop := ∀ τ L Q, t τ L Q → ∃ v, Q v L ∧ ∀ L' Q', LSub L L' → Q' v L' → t τ L' Q'
theorem pu_var (i : Nat) : Pure3 (yVar i) := fun τ L Q h => by
  unfold yVar at h ⊢
  split at h
  · rename_i y e; exact ⟨y, h, fun L' Q' _ q => q⟩
  · exact h.elim
theorem pu_c (y : Y) : Pure3 (yC y) := fun _ _ _ h => ⟨y, h, fun _ _ _ q => q⟩
theorem pu_I {C : Int → Int → Prop} {g : Int → Int → Y} {ta tb : TE3} (ha : Pure3 ta) (hb : Pure3 tb) : Pure3 (yOp (yI C g) ta tb) := fun τ L Q h => by
  obtain ⟨x, h1, k1⟩ := ha τ L _ h
  obtain ⟨y, h2, k2⟩ := hb τ L _ h1
  cases x with
  | int i =>
    cases y with
    | int j => exact ⟨g i j, h2.2, fun L' Q' s q => k1 L' _ s (k2 L' _ s ⟨h2.1, q⟩)⟩
    | _ => exact h2.elim
  | _ => cases y <;> exact h2.elim
theorem atK_inv {α : Type} {L : LHp} {Q : α → LHp → Prop} {o : Option α} (h : atK L Q o) : ∃ v, o = some v ∧ Q v L := by
  cases o with
  | none => exact h.elim
  | some v => exact ⟨v, rfl, h⟩
def yPick (t : TA3) (ti : TE3) (τ : St3) (L : LHp) (Q : YK) : Prop := t τ L fun ys L1 => match Nat.ble ys.length 1000 with
  | true => ti τ L1 fun i L2 => match i with
    | .int i => atK L2 Q (atI ys i)
    | _ => False
  | false => False
theorem qe_pick {X : Cx} {es : List Expr} {b : Expr} {tr : TA3} {tb : TE3} {pos lp : Pos} (h : QA X es tr) (hb : QE X b tb) (pu : Pure3 tb) (hp : PlainIx b) : QE X (.Subscript (.List es lp) b pos) (yPick tr tb) := PE.imp (pe_ix (q_ixK X.K X.prog X.w) (pe_lst h) hb hp) fun σ H Q ⟨τ, L, Q3, rs, rl, z, k⟩ => by
  refine ⟨τ, L, _, rs, rl, z, fun vs H1 ys L1 t1 rl1 rv1 z1 => ?_⟩
  cases e : Nat.ble ys.length 1000 with
  | false => rw [e] at z1; exact z1.elim
  | true =>
    rw [e] at z1
    have := Nat.le_of_ble_eq_true e
    refine ⟨small (by rw [← rv1.length]; exact this), fun p hp => ?_⟩
    obtain ⟨v, zv, kv⟩ := pu τ L1 _ z1
    have sb : LSub L1 (updL L1 p (.lst ys)) := LSub.new (rl1.none hp)
    refine ⟨τ, updL L1 p (.lst ys), fun v' L' => v' = v ∧ L' = updL L1 p (.lst ys), rs.ts (t1.trans (TSt.new hp)), rl1.newL hp rv1, kv _ _ sb ⟨rfl, rfl⟩, ?_⟩
    rintro v2 H2 y2 L2 t2 rl2 rv2 ⟨rfl, rfl⟩
    refine ⟨.ref p, y2, _, fun y L' => L' = updL L1 p (.lst ys) ∧ Q3 y L1, rfl, rv2, rl2, ?_, ?_⟩
    · cases y2 with
      | int i =>
        obtain ⟨u, eu, qu⟩ := atK_inv zv
        refine seqL_of updL_same ?_
        rw [eu]
        exact ⟨rfl, qu⟩
      | _ => exact zv.elim
    · rintro v3 H3 y3 L3 t3 rl3 rv3 ⟨rfl, q3⟩
      exact k v3 H3 y3 L1 (t1.trans ((TSt.new hp).trans (t2.trans t3))) (rl3.sub sb) rv3 q3
theorem lookup_valY {kvs : List (Str × Str)} {k x : Str} (h : kvs.lookup k = some x) : valY (kvs.map fun p => ((Sum.inr p.1 : Key), Y.str p.2)) (Sum.inr k) = some (Y.str x) := by
  induction kvs with
  | nil => simp at h
  | cons p r ih =>
    obtain ⟨a, b⟩ := p
    unfold valY
    rw [List.map_cons, List.find?_cons]
    rw [List.lookup_cons] at h
    by_cases c : k = a
    · subst c
      simp at h
      simp [h]
    · have c1 : (k == a) = false := by simpa using c
      rw [c1] at h
      have c2 : decide ((Sum.inr a : Key) = Sum.inr k) = false := decide_eq_false fun z => c (Sum.inr.inj z).symm
      simp only [c2]
      exact ih h
/-! ### the forms one uses -/
theorem ints_at {lo : Int} {n i : Nat} {y : Y} (h : (intsY lo n)[i]? = some y) : i < n ∧ y = .int (lo + i) := by
  unfold intsY at h
  rw [List.getElem?_map] at h
  obtain ⟨z, ez, e⟩ := Option.map_eq_some_iff.mp h
  have hi : i < n := by
    by_cases c : i < n
    · exact c
    · rw [List.getElem?_eq_none (by simp; omega)] at ez; cases ez
  rw [List.getElem?_range hi] at ez; cases ez
  exact ⟨hi, e.symm⟩
theorem ints_len (lo : Int) (n : Nat) : (intsY lo n).length = n := by simp [intsY]
theorem for_rng {lo : Int} {n : Nat} {g : TG3} {tb : TS3} {D : Ends3} {τ : St3} {L : LHp} (W : Nat → St3 → LHp → Prop) (h0 : W 0 τ L)
    (hs : ∀ i τ L, i < n → W i τ L → g (.int (lo + i)) τ L fun τ2 L2 => tb { D with nx := Frg (W (i + 1)), ct := Frg (W (i + 1)), bk := D.nx } τ2 L2) (hd : ∀ τ L, W n τ L → D.nx τ L) : forK (intsY lo n) (fun _ => True) g tb D τ L := by
  refine forK_mk ⟨W, h0, fun _ _ _ _ => trivial, fun i y τ L e w => ?_, fun τ L w => hd τ L (by rw [ints_len] at w; exact w)⟩
  obtain ⟨hi, rfl⟩ := ints_at e
  exact hs i τ L hi w
/-- over a list that the body leaves as it is -/
theorem for_lst {g : TG3} {tb : TS3} {D : Ends3} {τ : St3} {L : LHp} {a : Addr} {ys : List Y} (h : seqOf L (.ref a) = some ys) (W : Nat → St3 → LHp → Prop) (h0 : W 0 τ L) (hk : ∀ i τ L', W i τ L' → L' a = L a)
    (hs : ∀ i y τ L, ys[i]? = some y → W i τ L → g y τ L fun τ2 L2 => tb { D with nx := Frg (W (i + 1)), ct := Frg (W (i + 1)), bk := D.nx } τ2 L2) (hd : ∀ τ L, W ys.length τ L → D.nx τ L) :
    lisK L a fun ys keep L1 => forK ys keep g tb D τ L1 := lisK_of (seqOf_inv h) fun keep kp => forK_mk ⟨W, h0, fun i τ L' w => kp L' (hk i τ L' w), hs, hd⟩
/-- a comprehension that changes nothing, by an invariant of what it gathers -/
theorem lc_inv {ys : List Y} {keep : LHp → Prop} {L : LHp} {n : Nat} {g : TG3} {tc : TT3} {te : TE3} {τ : St3} {Q : YK} (I : Nat → List Y → Prop) (hz : ys.length < sizeLine) (hk : keep L) (h0 : I 0 [])
    (turn : ∀ (i : Nat) y zs, ys[i]? = some y → I i zs → g y (τ ++ List.replicate n none) L fun τ2 L2 => tc τ2 L2 fun b L3 => yite b (te τ2 L3 fun z L4 => Frg (fun zs L' => L' = L ∧ I (i + 1) zs) (zs ++ [z]) L4) (Frg (fun zs L' => L' = L ∧ I (i + 1) zs) zs L3))
    (hq : ∀ zs, I ys.length zs → ∀ p, L p = none → Q (.ref p) (updL L p (.lst zs))) : lcK ys keep n g tc te τ L Q := by
  refine lcK_mk ⟨hz, fun i zs L' => L' = L ∧ I i zs, ⟨rfl, h0⟩, ?_, ?_, ?_⟩
  · rintro i zs L' ⟨rfl, _⟩; exact hk
  · rintro i y zs L' ey ⟨rfl, hI⟩
    exact turn i y zs ey hI
  · rintro zs L' ⟨rfl, hI⟩ p hp
    exact hq zs hI p hp
theorem lc_rng {lo : Int} {m : Nat} {L : LHp} {n : Nat} {g : TG3} {tc : TT3} {te : TE3} {τ : St3} {Q : YK} (I : Nat → List Y → Prop) (hz : m < sizeLine) (h0 : I 0 [])
    (turn : ∀ (i : Nat) zs, i < m → I i zs → g (.int (lo + i)) (τ ++ List.replicate n none) L fun τ2 L2 => tc τ2 L2 fun b L3 => yite b (te τ2 L3 fun z L4 => Frg (fun zs L' => L' = L ∧ I (i + 1) zs) (zs ++ [z]) L4) (Frg (fun zs L' => L' = L ∧ I (i + 1) zs) zs L3))
    (hq : ∀ zs, I m zs → ∀ p, L p = none → Q (.ref p) (updL L p (.lst zs))) : lcK (intsY lo m) (fun _ => True) n g tc te τ L Q := by
  refine lc_inv (keep := fun _ => True) I (by rw [ints_len]; exact hz) trivial h0 (fun i y zs e hI => ?_) fun zs hI => hq zs (by rw [ints_len] at hI; exact hI)
  obtain ⟨hi, rfl⟩ := ints_at e
  exact turn i zs hi hI
theorem cutY_from (ys : List Y) (n : Nat) : cutY ys (some ((n : Nat) : Int)) none = ys.drop n := by
  unfold cutY
  rw [HT.sIx_nat, HT.sIx_none]
  by_cases h : n ≤ ys.length
  · rw [Nat.min_eq_left h, List.take_of_length_le (by rw [List.length_drop]; omega)]
  · rw [Nat.min_eq_right (by omega), List.drop_of_length_le (Nat.le_refl _), List.drop_of_length_le (by omega), List.take_nil]
theorem atI_map {ws : List α} {f : α → Y} {i : Nat} {w : α} (h : ws[i]? = some w) : atI (ws.map f) (i : Int) = some (f w) := atI_nat (by rw [List.getElem?_map, h]; rfl)
/-- a body's run -/
def run3 (t : TS3) (n : Nat) (ys : List Y) (L : LHp) (Q : YK) : Prop := t { nx := fun _ L' => Fin3 Q .non L', rt := Fin3 Q } (ys.map some ++ List.replicate (n - ys.length) none) L
theorem fin {Q : YK} {y : Y} {L : LHp} (h : Q y L) : Fin3 Q y L := ⟨L, LSub.refl L, h⟩
theorem finS {Q : YK} {y : Y} {L L' : LHp} (s : LSub L L') (h : Q y L) : Fin3 Q y L' := ⟨L, s, h⟩
theorem Fn3.never {P : Program} {w : World} {K : PySem.W.Frag} {mg : Str → Option Value} {base : Heap} {k : Nat} {ps : List Str} {sp : Sp3} {f : Addr} {fd : FuncData} (no : ∀ ys L Q, ¬ sp ys L Q) : Fn3 P w K mg base k f fd ps sp :=
  FnOk.never fun vs H Q E ⟨ys, L, Q3, _, _, z, _⟩ => no ys L Q3 z
end L3
namespace L3
open PySem L2
theorem LSub.put {L L' : LHp} {a : Addr} {o : LO} (s : LSub L L') (h : L' a = some o) : LSub (updL L a o) L' := fun b u e => by
  by_cases c : b = a
  · subst c; rw [updL_same] at e; cases e; exact h
  · rw [updL_ne c] at e; exact s b u e
/-! ### the law itself -/
def sp_law : Sp3 := fun ys L Q => ∃ ns : List Int, ys = [.sq (ns.map Y.int)] ∧ ns.length ≤ 63 ∧ L = (fun _ => none) ∧ ∀ L', Q (.bl true) L'
def spTop (K : PySem.W.Frag) : Sp := fun vs H Q _ => ∃ (a : Addr) (ns : List Int), vs = [.ref a] ∧ SqF K H a (ns.map V.int) ∧ ns.length ≤ 63 ∧ ∀ H', Q (.bl true) H'
theorem rvs_ints {G : G3} {H : Hp} : ∀ ns : List Int, RVs G H (ns.map Y.int) (ns.map V.int)
  | [] => rfl
  | _ :: r => ⟨_, _, rfl, rfl, rvs_ints r⟩
theorem top_dn {G : G3} {vs : List V} {H : Hp} {Q : VK} {E : XK} (h : spTop G.K vs H Q E) : dn G sp_law vs H Q E := by
  obtain ⟨a, ns, rfl, hs, hl, q⟩ := h
  refine ⟨[.sq (ns.map Y.int)], fun _ => none, fun y _ => y = .bl true, RVs.one ⟨a, _, rfl, hs, rvs_ints ns⟩, (fun _ _ e => by cases e), ⟨ns, rfl, hl, rfl, fun _ => rfl⟩, ?_⟩
  rintro v H' y L' _ _ rv rfl
  cases rv
  exact q H'
theorem top_start : ∀ (K : PySem.W.Frag) (H : Hp) (a : Addr) (ns : List Int), ns.length ≤ 63 → Only H → SqL K H a (ns.map V.int) → spTop K [.ref a] H (fun v _ => v = .bl true) fun _ _ _ => False := by
  intro K H a ns hl hO hS
  refine ⟨a, ns, rfl, ?_, hl, fun _ => rfl⟩
  rcases hS with (h | ⟨o, h⟩) | h
  · rcases hO a with z | ⟨o, xs, z⟩ <;> rw [h] at z <;> cases z
  · exact .inl ⟨o, h⟩
  · exact .inr h
end L3

namespace L2
open PySem PySem.Spec PyProof.Rows
/-! ### records of one's own that turn, several at once; with a new thing laid -/
section
variable {X : Cx} {pins : List (Addr × Obj)} {σ : L2.St} {H : Hp} {s : Shared} {h' : Heap}
theorem hok_turned (I : Inv X pins σ H s) {fp : List Addr} (hf : ∀ b ∈ fp, H b = none) (k : ∀ b o, b ∉ fp → s.heap.get? b = some o → h'.get? b = some o) : HOk X.prog X.w H h' := fun b u e => by
  refine (I.hok b u e).stay (fun c v hc q => k c v (fun z => ?_) q) (fun _ q => q) fun _ _ q => q
  have hn := hf c z
  rcases hc with w | w
  · rw [w, e] at hn; cases hn
  · rw [w] at hn; cases hn
theorem un_turned {fs fp : List Addr} {h : Heap} (k : ∀ b o, b ∉ fp → h.get? b = some o → h'.get? b = some o) : Un fs fp H H h h' :=
  ⟨fun b o q _ _ x => k b o x q, fun b o q _ _ x => ⟨o.slots, k b o x q⟩, fun _ _ _ n _ => n, fun b o q x => ⟨o, k b o x q⟩, fun _ _ q => q, fun _ _ _ q => q, fun b ps q => ⟨#[], by rw [q]; simp⟩⟩
theorem Inv.turnedL {t' : Nat} {fp : List Addr} (I : Inv X pins σ H s) (k : ∀ b o, b ∉ fp → s.heap.get? b = some o → h'.get? b = some o) (hf : ∀ b ∈ fp, FpOk X pins H b) (ht : 0 < t' := by (first | assumption | exact Nat.succ_pos _ | exact Inv.tk (by assumption) | exact Nat.lt_of_lt_of_le (Inv.tk (by assumption)) (Nat.le_add_right _ _) | exact Nat.lt_of_lt_of_le (Inv.tk (by assumption)) (by assumption))) : Inv X pins σ H { s with heap := h', toks := t' } :=
  I.call' (s' := { s with heap := h', toks := t' }) (ch := fp) rfl (un_turned k) (hok_turned I (fun b hb => (hf b hb).1) k) I.bare fun b hb => ⟨(hf b hb).2.2.2.1, (hf b hb).2.1, (hf b hb).2.2.2.2.1, (hf b hb).2.2.2.2.2⟩
theorem Inv.turnedN {t' : Nat} {fp : List Addr} {a : Addr} {o : HO} (I : Inv X pins σ H s) (k : ∀ b o, b ∉ fp → s.heap.get? b = some o → h'.get? b = some o) (hf : ∀ b ∈ fp, FpOk X pins H b) (ha : s.heap.objs.size ≤ a)
    (new : ObjOk X.prog X.w (upd H a o) h' a o) (ht : 0 < t' := by (first | assumption | exact Nat.succ_pos _ | exact Inv.tk (by assumption) | exact Nat.lt_of_lt_of_le (Inv.tk (by assumption)) (Nat.le_add_right _ _) | exact Nat.lt_of_lt_of_le (Inv.tk (by assumption)) (by assumption))) : Inv X pins σ (upd H a o) { s with heap := h', toks := t' } := by
  have hn : H a = none := I.hok.fresh ha
  have lt : ∀ b ob, s.heap.get? b = some ob → b ≠ a := fun b ob q => Nat.ne_of_lt (Nat.lt_of_lt_of_le (Heap.lt_size q) ha)
  refine I.call' (s' := { s with heap := h', toks := t' }) (ch := fp) rfl ?_ ?_ I.bare fun b hb => ⟨(hf b hb).2.2.2.1, (hf b hb).2.1, (hf b hb).2.2.2.2.1, (hf b hb).2.2.2.2.2⟩
  · exact ⟨fun b ob q _ _ x => k b ob x q, fun b ob q _ _ x => ⟨ob.slots, k b ob x q⟩, fun b ob q n _ => by rw [upd_ne (lt b ob q)]; exact n, fun b ob q x => ⟨ob, k b ob x q⟩,
      fun b xs q => by rw [upd_ne (ne_of_none q hn)]; exact q, fun b ob u q => by rw [upd_ne (ne_of_none q hn)]; exact q, fun b ps q => ⟨#[], by rw [upd_ne (ne_of_none q hn), q]; simp⟩⟩
  · intro b u e
    by_cases hb : b = a
    · subst hb; rw [upd_same] at e; cases e; exact new
    · rw [upd_ne hb] at e
      have ok := hok_turned I (h' := h') (fun b hb => (hf b hb).1) k b u e
      exact ok.stay (fun _ _ _ q => q) (fun c q => by rw [upd_ne (ne_of_none q hn)]; exact q) fun c xs q => by rw [upd_ne (ne_of_none q hn)]; exact q
end
/-! ### enumerate over a list -/
def Ite (K : PySem.W.Frag) (a : Addr) : It :=
  ⟨fun i H => ∃ xs x, SqL K H a xs ∧ xs[i]? = some x, fun i H v H' => ∃ p x, H p = none ∧ v = .ref p ∧ H' = upd H p (.tup [.int i, x]) ∧ ∀ xs, SqL K H a xs → xs[i]? = some x, fun i H => ∃ xs, SqL K H a xs ∧ xs.length ≤ i⟩
theorem turn_enum {P : Program} {w : World} {K : PySem.W.Frag} {elts : List Expr} {x1 : Nat} {tp : Pos} (a e it : Addr) (hne : e ≠ it) : Turn P w K (.Tuple elts x1 tp) (Ite K a) [e, it] e (fun i h => (∃ old, IsEnum h e it i old) ∧ h.IsListIter it a i) where
  mem := by simp
  obj := fun i h ⟨⟨old, he⟩, hi⟩ b hb => by
    rcases List.mem_cons.mp hb with rfl | hb
    · exact ⟨_, he, fun v z => by cases z⟩
    · cases List.mem_singleton.mp hb
      obtain ⟨o, ho, hc, hd⟩ := hi
      exact ⟨o, ho, fun v z => by rw [hd] at z; cases z⟩
  keep := fun i h h' ⟨⟨old, he⟩, hi⟩ k => ⟨⟨old, k e (by simp) _ he⟩, hi.at fun o q => k it (by simp) o q⟩
  item := by
    intro X hP hw hK hc i pins s σ H E I hf ⟨⟨old, he⟩, hi⟩ hg
    subst hP hw hK
    obtain ⟨xs, x, hq, hx⟩ := hg
    obtain ⟨its, rv, p, hz⟩ := I.list hq
    obtain ⟨u, hu, ru⟩ := rv.get hx
    refine wpAny_pyNext_enum_item he hi p.isList (x := u) (by simpa using hu) hne fun h1 heo hi1 ht hz1 hk => ⟨.ref s.heap.objs.size, rfl, wpAny_letOwnedTupleGo_enum heo fun h2 he2 hs2 => ?_⟩
    have el : e < s.heap.objs.size := Heap.lt_size he
    have il : it < s.heap.objs.size := by obtain ⟨o, ho, _⟩ := hi; exact Heap.lt_size ho
    have kk : ∀ b o, b ∉ [e, it] → s.heap.get? b = some o → h2.get? b = some o := fun b o nb q => by
      have n1 : b ≠ e := fun z => nb (by simp [z])
      have n2 : b ≠ it := fun z => nb (by simp [z])
      exact hs2.extBut b o n1 (hk b o n1 n2 q)
    have tg : h2.get? s.heap.objs.size = some { cls := .type "tuple", data := .seq #[.int i s.toks, u] } := hs2.extBut _ _ (Nat.ne_of_gt el) ht
    refine ⟨.ref s.heap.objs.size, upd H s.heap.objs.size (.tup [.int i, x]), ?_, rfl, ⟨_, x, I.hok.fresh (Nat.le_refl _), rfl, rfl, fun ys hy => by rw [I.list_inj hy hq]; exact hx⟩, ⟨⟨_, he2⟩, hi1.at fun o q => hs2.extBut _ _ (Ne.symm hne) q⟩, fun b hb => ?_⟩
    · exact I.turnedN (t' := s.toks + 1) kk hf (Nat.le_refl _) ⟨by show 2 ≤ sizeLine; decide, [.int i s.toks, u], .cons ⟨_, rfl⟩ (.cons ru .nil), ⟨_, tg, rfl, _, rfl⟩⟩
    · have hb' : b < s.heap.objs.size := by rcases List.mem_cons.mp hb with rfl | hb; exact el; cases List.mem_singleton.mp hb; exact il
      rw [upd_ne (Nat.ne_of_lt hb')]
      exact (hf b hb).1
  done := by
    intro X hP hw hK hc i pins s σ H E I hf ⟨⟨old, he⟩, hi⟩ hg
    subst hP hw hK
    obtain ⟨xs, hq, hx⟩ := hg
    obtain ⟨its, rv, p, hz⟩ := I.list hq
    have hl := rv.length
    exact wpAny_pyNext_enum_end (I.ok.hd hc) he hi p.isList (by simp; omega) fun h1 eb => ⟨rfl, I.turnedL (t' := s.toks) (fp := [e, it]) (fun b o nb q => eb b o (fun z => nb (by simp [z])) q) hf⟩
  self := fun _ _ _ _ _ ⟨⟨_, he⟩, _⟩ h => wpAny_pyIter_enum he h
def iEnum (K : PySem.W.Frag) (ta : TA) : TI := fun σ H R => ta σ H fun vs H1 => ∃ a, vs = [.ref a] ∧ (∃ xs, SqL K H1 a xs) ∧ R (Ite K a) H1
theorem bt_enumerate : bootBuiltins "enumerate" = some (.type "enumerate") := by decide +kernel
theorem pi_enum {X : Cx} {a : Expr} {ta : TA} {elts : List Expr} {x1 : Nat} {tp p pos : Pos} (hg : Gl X "enumerate") (hm : X.mg "enumerate" = none) (ha : PA X [a] ta) (hs : starEach [a] X.env = [(false, eval a X.env)] := by rfl) :
    PI X (.Tuple elts x1 tp) (.Call (.Name "enumerate" p) [a] [] pos) (iEnum X.K ta) := by
  intro pins s σ H R I h
  refine Call_ (ld_blt I hg hm bt_enumerate (PyProof.Rows.callWith_type1 (thn (ha pos pins s σ H _ I h) fun us s1 ⟨vs, H1, I1, r1, q1⟩ => ?_) hs rfl))
  obtain ⟨l, e, ⟨xs, hq⟩, q⟩ := q1
  subst e
  obtain ⟨u, rfl, ru⟩ := vals1 r1
  cases ru
  obtain ⟨its, rv, pl, hz⟩ := I1.list hq
  refine call_enumerate_list pl.isList fun h1 he hi hsz hk => ?_
  have I2 : Inv X pins σ H1 { s1 with heap := h1 } := I1.kept (t' := s1.toks) hk
  refine wpAny_pyIter_enum (s := { s1 with heap := h1 }) he ?_
  refine ⟨s1.heap.objs.size + 1, [s1.heap.objs.size + 1, s1.heap.objs.size], _, _, H1, rfl, I2, turn_enum l _ _ (Nat.succ_ne_self _), ⟨⟨_, he⟩, hi⟩, fun b hb => ?_, q⟩
  have hb' : s1.heap.objs.size ≤ b := by rcases List.mem_cons.mp hb with rfl | hb; exact Nat.le_succ _; cases List.mem_singleton.mp hb; exact Nat.le_refl _
  exact I1.fpOk hb' (I1.hok.fresh hb')
end L2
namespace L3
open PySem L2
theorem yields_enum {G : G3} {H₀ : Hp} {a : Addr} {ys : List Y} {keep : LHp → Prop} (h : ∀ H L, TSt H₀ H → RelH G H L → keep L → ∃ xs, SqL G.K H a xs ∧ RVs G H ys xs) : Yields G H₀ (Ite G.K a) (ys.zipIdx.map fun p => Y.tup [.int (p.2 : Nat), p.1]) keep where
  go := fun i H L t rl kp hi => by
    obtain ⟨xs, sq, r⟩ := h H L t rl kp
    have : i < xs.length := by rw [← r.length]; simpa using hi
    exact ⟨xs, xs[i], sq, List.getElem?_eq_getElem this⟩
  yld := fun i H L x H' y t rl kp hy ⟨p, z, hp, e1, e2, f⟩ => by
    subst e1 e2
    obtain ⟨xs, sq, r⟩ := h H L t rl kp
    rw [List.getElem?_map, List.getElem?_zipIdx] at hy
    obtain ⟨⟨y', j⟩, ey, e3⟩ := Option.map_eq_some_iff.mp hy
    obtain ⟨y'', ey', e4⟩ := Option.map_eq_some_iff.mp ey
    cases e4
    subst e3
    obtain ⟨x', e', rv⟩ := r.get ey'
    have := f xs sq
    rw [e'] at this; cases this
    refine ⟨TSt.new hp, rl.skip hp, p, _, rfl, SqT.of upd_same, ⟨_, _, rfl, ?_, _, _, rfl, rv.ts (TSt.new hp), rfl⟩⟩
    show V.int _ = V.int _
    congr 1; simp
  stop := fun H L t rl kp => by
    obtain ⟨xs, sq, r⟩ := h H L t rl kp
    exact ⟨xs, sq, by rw [List.length_map, List.length_zipIdx, r.length]; exact Nat.le_refl _⟩
/-- the pairs of enumerate -/
def enumY (ys : List Y) : List Y := ys.zipIdx.map fun p => Y.tup [.int (p.2 : Nat), p.1]
theorem enumY_at {ys : List Y} {i : Nat} {y : Y} (h : (enumY ys)[i]? = some y) : ∃ z, ys[i]? = some z ∧ y = .tup [.int i, z] := by
  unfold enumY at h
  rw [List.getElem?_map, List.getElem?_zipIdx] at h
  obtain ⟨⟨y', j⟩, ey, e3⟩ := Option.map_eq_some_iff.mp h
  obtain ⟨y'', ey', e4⟩ := Option.map_eq_some_iff.mp ey
  cases e4
  exact ⟨y', ey', by rw [← e3]; simp⟩
theorem enumY_len (ys : List Y) : (enumY ys).length = ys.length := by simp [enumY]
def iyEnum (tl : TE3) (τ : St3) (L : LHp) (R : List Y → (LHp → Prop) → LHp → Prop) : Prop := tl τ L fun x L1 => match x with
  | .ref a => lisK L1 a fun ys keep L => R (enumY ys) keep L
  | .sq ys => R (enumY ys) (fun _ => True) L1
  | _ => False
theorem qi_enum {X : Cx} {a : Expr} {te : TE3} {elts : List Expr} {x1 : Nat} {tp p pos : Pos} (hg : Gl X "enumerate") (hm : X.mg "enumerate" = none) (ha : QE X a te) (hs : starEach [a] X.env = [(false, eval a X.env)] := by rfl)
    (hs2 : starEach [a] X.env = (false, eval a X.env) :: starEach [] X.env := by rfl) : QI X (.Tuple elts x1 tp) (.Call (.Name "enumerate" p) [a] [] pos) (iyEnum te) := PI.imp (pi_enum hg hm (pa_cons ha pa_nil hs2) hs) fun σ H R ⟨τ, L, R3, rs, rl, z, k⟩ => by
  refine ⟨τ, L, _, rs, rl, z, fun v H1 y L1 t1 rl1 rv1 z1 => ?_⟩
  cases y with
  | ref a =>
    obtain ⟨ys, keep, es, kp, hk, z2⟩ := lisK_inv z1
    have hy : ∀ H L, TSt H1 H → RelH X.g3 H L → keep L → ∃ xs, SqL X.K H a xs ∧ RVs X.g3 H ys xs := fun H L _ rl e => seq_list rl (hk L e)
    obtain ⟨xs, sq, _⟩ := hy H1 L1 (TSt.refl _) rl1 kp
    cases rv1
    exact ⟨a, rfl, ⟨xs, sq⟩, k _ H1 _ _ L1 t1 rl1 (yields_enum hy) z2⟩
  | sq ys =>
    obtain ⟨a, xs, e, sf, r⟩ := rv1
    subst e
    exact ⟨a, rfl, ⟨xs, sf.sq⟩, k _ H1 _ (fun _ => True) L1 t1 rl1 (yields_enum fun H L t _ _ => ⟨xs, (sf.ts t).sq, r.ts t⟩) z1⟩
  | _ => exact z1.elim
end L3

namespace L2
open PySem PySem.Spec PyProof.Rows
/-! ### zip over two lists or tuples -/
section
variable {prog : Program} {w : World} {A : Around} {E : Value → Shared → Prop} {s : Shared}
end
end L2

namespace L2
open PySem PySem.Spec PyProof.Rows
section
variable {prog : Program} {w : World} {A : Around} {E : Value → Shared → Prop} {s : Shared}
end
section
variable {X : Cx} {pins : List (Addr × Obj)} {σ : L2.St} {H : Hp} {s : Shared}
end
end L2
namespace L3
open PySem L2
end L3

namespace L3
open PySem L2
/-! ### list(x) -/
def yListOf (xs : List Y) (L : LHp) (Q : YK) : Prop := match xs with
  | [x] => seqK L x fun ys => ∀ p, L p = none → Q (.ref p) (updL L p (.lst ys))
  | _ => False
theorem q_listOf {X : Cx} : CallR X (.type "list") (upL X.g3 yListOf) := CallR.imp call_list_of fun xs H Q ⟨ys, L, Q3, rv, rl, z, k⟩ => by
  unfold yListOf at z
  split at z
  · rename_i x
    obtain ⟨u, rfl, ru⟩ := rv.inv1
    obtain ⟨zs, ez, z⟩ := seqK_inv z
    obtain ⟨p, us, e, sq, r⟩ := seq_sq rl ru ez
    subst e
    exact ⟨p, us, rfl, sq, fun l hl => k _ _ _ _ (TSt.new hl) (rl.newL hl r) (by rfl) (z l (rl.none hl))⟩
  · exact z.elim
theorem qe_callT {X : Cx} {x : Str} {T : String} {e : Expr} {es : List Expr} {tr : TA3} {p pos : Pos} {r : List Y → LHp → YK → Prop} (hc : CallR X (.type T) (upL X.g3 r)) (hg : Gl X x) (hm : X.mg x = none) (hv : bootBuiltins x = some (.type T)) (h : QA X (e :: es) tr)
    (hn : x ≠ "__name__" := by decide) (hd : (x == ("__debug__" : Str)) = false := by decide) (hs : starEach (e :: es) X.env = (false, eval e X.env) :: starEach es X.env := by rfl) (hp : (backTo pos (starEach es X.env)).any (·.1) = false := by rfl) :
    QE X (.Call (.Name x p) (e :: es) [] pos) (yCB r tr) := PE.imp (pe_callTy hc hg hm hv h hn hd hs hp) fun σ H Q ⟨τ, L, Q3, rs, rl, z, k⟩ =>
  ⟨τ, L, _, rs, rl, z, fun vs H1 ys L1 t1 rl1 rv1 z1 => ⟨ys, L1, Q3, rv1, rl1, z1, k.ts t1⟩⟩
/-! ### pop at a place -/
def yPopAt (x : Y) (vs : List Y) (L : LHp) (Q : YK) : Prop := match x, vs with
  | .ref a, [.int i] => lstK L a fun ys => 0 ≤ i ∧ i < ys.length ∧ atK L (fun v L => Q v (updL L a (.lst (ys.eraseIdx i.toNat)))) (ys[i.toNat]?)
  | _, _ => False
theorem q_popAt {X : Cx} : MtM X "list.pop" (upM X.g3 yPopAt) := fun pins s σ H x xs v us Q I rx ry ⟨y, ys, L, Q3, r1, r2, rl, z, k⟩ => by
  unfold yPopAt at z
  split at z
  · rename_i a i
    obtain ⟨zs, e, h0, h1, z⟩ := lstK_inv z
    obtain ⟨ws, e2, r⟩ := rl a _ e
    obtain ⟨i', rfl, ri⟩ := r2.inv1
    cases ri
    cases el : zs[i.toNat]? with
    | none => rw [el] at z; exact z.elim
    | some w =>
      rw [el] at z
      obtain ⟨u, eu, ru⟩ := r.get el
      obtain ⟨_, _, _, hz⟩ := I.list (SqL.of e2)
      have hl := r.length
      have hs : sizeLine < 2 ^ 62 := by decide
      refine mt_popAt pins s σ H x _ v us Q I rx ry ⟨a, ws, i, i.toNat, u, r1, rfl, e2, by omega, by omega, ?_, eu, k _ _ _ _ (TSt.lst e2) (rl.setL e2 (r.eraseIdx _)) (ru.ts (TSt.lst e2)) z⟩
      unfold seqIndex?
      rw [if_neg (show ¬ i < 0 by omega), if_pos (by simp; omega)]
  · exact z.elim
theorem qe_popAt {X : Cx} {o e : Expr} {es : List Expr} {to : TE3} {tr : TA3} {apos cpos : Pos} (ho : QE X o to) (ha : QA X (e :: es) tr) (h4 : attributeBase o "pop" X.env (eval o X.env) = eval o X.env := by rfl)
    (h5 : ((backTo cpos (starEach (e :: es) X.env)).all (fun x => !x.1) && (backToKw cpos (keywordEach [] X.env)).all (fun x => x.1.isSome) && decide ((e :: es).length + ([] : List Keyword).length + (if ([] : List Keyword).isEmpty = true then 0 else 1) < 30)) = true := by rfl)
    (h6 : (apos.endLine == cpos.line) = true := by rfl) (h7 : starEach (e :: es) X.env = (false, eval e X.env) :: starEach es X.env := by rfl) (h8 : (backTo cpos (starEach es X.env)).any (·.1) = false := by rfl) :
    QE X (.Call (.Attribute o "pop" apos) (e :: es) [] cpos) (yBL yPopAt to tr) := qe_bl1 PySem.F.slot_list_pop PySem.F.type_list_pop q_popAt ho ha h4 h5 h6 h7 h8
end L3

namespace L2
open PySem PySem.Spec PyProof.Rows
section
variable {X : Cx}
/-! ### slices of texts -/
theorem clipS (i : Int) (n d : Nat) : max 0 (min (if i < 0 then i + (n : Int) else i) n) = ((HT.sIx n d (some i) : Nat) : Int) := by
  simp only [HT.sIx]
  by_cases h : i < 0
  · simp only [h, if_true] <;> omega
  · simp only [h, if_false] <;> omega
theorem slice_idx (l u : Option Int) (n : Nat) : Builtin.Str.strSliceIndices l u 1 n = (List.range (HT.sIx n n u - HT.sIx n 0 l)).map (HT.sIx n 0 l + ·) := by
  have z : (0 : Int) = ((HT.sIx n 0 none : Nat) : Int) := rfl
  have y : (n : Int) = ((HT.sIx n n none : Nat) : Int) := rfl
  unfold Builtin.Str.strSliceIndices
  cases l with
  | none =>
    cases u with
    | none => exact sliceRange_one 0 n
    | some j =>
      show sliceRange 0 (max 0 (min (if j < 0 then j + (n : Int) else j) n)) 1 = _
      rw [clipS j n n]
      exact sliceRange_one 0 _
  | some i =>
    cases u with
    | none =>
      show sliceRange (max 0 (min (if i < 0 then i + (n : Int) else i) n)) n 1 = _
      rw [clipS i n 0]
      exact sliceRange_one _ n
    | some j =>
      show sliceRange (max 0 (min (if i < 0 then i + (n : Int) else i) n)) (max 0 (min (if j < 0 then j + (n : Int) else j) n)) 1 = _
      rw [clipS i n 0, clipS j n n]
      exact sliceRange_one _ _
theorem slice_cps (x : Str) (l u : Option Int) : (Txt.slice x l u).cps.toList = (x.cps.toList.drop (HT.sIx x.length 0 l)).take (HT.sIx x.length x.length u - HT.sIx x.length 0 l) := by
  have hn : x.length = x.cps.toList.length := by simp [Str.length]
  have pick := pick_run x.cps (HT.sIx x.length 0 l) (HT.sIx x.length x.length u - HT.sIx x.length 0 l)
  unfold Txt.slice
  rw [slice_idx]
  split
  · rename_i h
    simp only [beq_self_eq_true, Bool.true_and, List.length_map, List.length_range, beq_iff_eq] at h
    have h1 := HT.sIx_le x.length 0 (Nat.zero_le _) l
    have h2 := HT.sIx_le x.length x.length (Nat.le_refl _) u
    have a0 : HT.sIx x.length 0 l = 0 := by omega
    rw [h, a0, List.drop_zero, List.take_of_length_le (by omega)]
  · show (List.filterMap (fun i => x.cps[i]?) _).toArray.toList = _
    rw [List.toList_toArray]
    exact pick
def rSlS : V → Option Int → Option Int → Hp → VK → Prop := fun x lo hi H Q => ∃ z, x = .str z ∧ z.length ≤ sizeLine ∧ Q (.str (Txt.slice z lo hi)) H
theorem sl_str : SlR X rSlS := by
  intro pins s σ H x v vl vu lo hi sl Q I rx hs pl pu h
  obtain ⟨z, rfl, hz, q⟩ := h
  obtain ⟨t, rfl⟩ := rx
  obtain ⟨l, rfl, hl⟩ : ∃ l : Option (Int × Tok), vl = partValue l ∧ l.map (·.1) = lo := by
    cases pl with
    | none => exact ⟨none, rfl, rfl⟩
    | int i t => exact ⟨some (i, t), rfl, rfl⟩
  obtain ⟨u, rfl, hu⟩ : ∃ u : Option (Int × Tok), vu = partValue u ∧ u.map (·.1) = hi := by
    cases pu with
    | none => exact ⟨none, rfl, rfl⟩
    | int i t => exact ⟨some (i, t), rfl, rfl⟩
  subst hl hu
  refine ⟨"str", _, F.slot_str_getitem.lookup, typeIs_str _ _ _, wpAny_pos I.tk (wpAny_getItem_str_slice (l := l) (u := u) (st := none) hs rfl ?_)⟩
  exact post_val_or_str ⟨Nat.le_trans (Txt.slice_le z _ _) hz, fun t' k ht => ⟨.str _, H, I.tok _, ⟨t', rfl⟩, q⟩⟩
/-! ### join -/
theorem strsAre_of {zs : List Str} : ∀ {us : List Value}, Vals (zs.map V.str) us → StrsAre us zs := by
  induction zs with
  | nil => intro us r; rw [List.map_nil] at r; cases r; exact .nil
  | cons z zs ih =>
    intro us r
    rw [List.map_cons] at r
    cases r with
    | cons r1 r2 =>
      obtain ⟨t, e⟩ := r1
      subst e
      exact .cons z t (ih r2)
def rJoin (K : PySem.W.Frag) : V → List V → Hp → VK → Prop := fun x vs H Q => ∃ z a zs, x = .str z ∧ vs = [.ref a] ∧ SqL K H a ((zs : List Str).map V.str) ∧ (zs.map (·.length)).sum + zs.length * z.length ≤ 16777216 ∧ Q (.str (Txt.join z zs)) H
theorem mt_join : MtM X "str.join" (rJoin X.K) := by
  intro pins s σ H x vs v us Q I rx rv h
  obtain ⟨z, a, zs, rfl, rfl, hq, hz, q⟩ := h
  obtain ⟨t, rfl⟩ := rx
  obtain ⟨u, rfl, ru⟩ := rv.one
  cases ru
  obtain ⟨its, r, p, _⟩ := I.list hq
  exact wpAny_pos I.tk (PyProof.Rows.join_list p.isList (by simpa using strsAre_of r) hz fun t' k ht => ⟨.str _, H, I.tok _, ⟨t', rfl⟩, q⟩)
end
end L2

namespace L3
open PySem L2
/-- x[lo:hi]: a text, a list -/
def ySlU (x : Y) (lo hi : Option Int) (L : LHp) (Q : YK) : Prop := match x with
  | .str z => z.length ≤ sizeLine ∧ Q (.str (Txt.slice z lo hi)) L
  | x => ySlL x lo hi L Q
theorem q_slU {X : Cx} (K : PySem.W.Frag) (P : Program) (w : World) (hK : X.K = K := by rfl) (hP : X.prog = P := by rfl) (hw : X.w = w := by rfl) : SlR X (upSl ⟨K, P, w⟩ ySlU) := by
  refine SlR.imp (sl_str.or (q_slL K P w hK hP hw)) fun x lo hi H Q ⟨y, L, Q3, rv, rl, z, k⟩ => ?_
  cases y with
  | str s => exact .inl ⟨s, rv, z.1, k _ H _ L (TSt.refl _) rl (by rfl) z.2⟩
  | _ => exact .inr ⟨_, L, Q3, rv, rl, z, k⟩
/-! ### methods of texts -/
def yBS (r : Y → List Y → LHp → YK → Prop) (to : TE3) (t : TA3) (τ : St3) (L : LHp) (Q : YK) : Prop := to τ L fun x L1 => match x with
  | .str z => t τ L1 fun xs L2 => r (.str z) xs L2 Q
  | _ => False
theorem qe_bs1 {X : Cx} {o e : Expr} {es : List Expr} {to : TE3} {tr : TA3} {id : String} {name : Str} {apos cpos : Pos} {r : Y → List Y → LHp → YK → Prop} (h2 : Slot "str" name id) (h3 : typeOf (.builtin id) = pure (.type "method_descriptor")) (hm : MtM X id (upM X.g3 r)) (ho : QE X o to) (ha : QA X (e :: es) tr)
    (h4 : attributeBase o name X.env (eval o X.env) = eval o X.env := by rfl)
    (h5 : ((backTo cpos (starEach (e :: es) X.env)).all (fun x => !x.1) && (backToKw cpos (keywordEach [] X.env)).all (fun x => x.1.isSome) && decide ((e :: es).length + ([] : List Keyword).length + (if ([] : List Keyword).isEmpty = true then 0 else 1) < 30)) = true := by rfl)
    (h6 : (apos.endLine == cpos.line) = true := by rfl) (h7 : starEach (e :: es) X.env = (false, eval e X.env) :: starEach es X.env := by rfl) (h8 : (backTo cpos (starEach es X.env)).any (·.1) = false := by rfl) :
    QE X (.Call (.Attribute o name apos) (e :: es) [] cpos) (yBS r to tr) := PE.imp (pe_bm PySem.F.plainAttrs_str h2 h3 hm ho ha h4 h5 h6 h7 h8) fun σ H Q ⟨τ, L, Q3, rs, rl, z, k⟩ =>
  ⟨τ, L, _, rs, rl, z, fun v H1 y L1 t1 rl1 rv1 z1 => by
    split at z1
    · rename_i s
      cases rv1
      exact ⟨rfl, τ, L1, _, rs.ts t1, rl1, z1, fun vs H2 ys L2 t2 rl2 rv2 z2 => ⟨.str s, ys, L2, Q3, rfl, rv2, rl2, z2, k.ts (t1.trans t2)⟩⟩
    · exact z1.elim⟩
theorem rvs_strs {G : G3} {H : Hp} : ∀ {zs : List Str} {xs : List V}, RVs G H (zs.map Y.str) xs → xs = zs.map V.str
  | [], _, h => h
  | z :: r, _, ⟨x, xs', e, q, s⟩ => by rw [e, show x = V.str z from q, rvs_strs s]; rfl
def yJoin (x : Y) (vs : List Y) (L : LHp) (Q : YK) : Prop := match x, vs with
  | .str z, [.ref a] => lstK L a fun ys => ∃ zs, ys = zs.map Y.str ∧ (zs.map (·.length)).sum + zs.length * z.length ≤ 16777216 ∧ Q (.str (Txt.join z zs)) L
  | _, _ => False
theorem q_join {X : Cx} : MtM X "str.join" (upM X.g3 yJoin) := MtM.imp mt_join fun x xs H Q ⟨y, ys, L, Q3, r1, r2, rl, z, k⟩ => by
  unfold yJoin at z
  split at z
  · rename_i s a
    obtain ⟨us, e, zs, rfl, hz, z⟩ := lstK_inv z
    obtain ⟨ws, e2, r⟩ := rl a _ e
    obtain ⟨u, rfl, ru⟩ := r2.inv1
    cases ru
    rw [rvs_strs r] at e2
    exact ⟨s, a, zs, r1, rfl, SqL.of e2, hz, k _ H _ L (TSt.refl _) rl (by rfl) z⟩
  · exact z.elim
theorem qe_join {X : Cx} {o e : Expr} {es : List Expr} {to : TE3} {tr : TA3} {apos cpos : Pos} (ho : QE X o to) (ha : QA X (e :: es) tr) (h4 : attributeBase o "join" X.env (eval o X.env) = eval o X.env := by rfl)
    (h5 : ((backTo cpos (starEach (e :: es) X.env)).all (fun x => !x.1) && (backToKw cpos (keywordEach [] X.env)).all (fun x => x.1.isSome) && decide ((e :: es).length + ([] : List Keyword).length + (if ([] : List Keyword).isEmpty = true then 0 else 1) < 30)) = true := by rfl)
    (h6 : (apos.endLine == cpos.line) = true := by rfl) (h7 : starEach (e :: es) X.env = (false, eval e X.env) :: starEach es X.env := by rfl) (h8 : (backTo cpos (starEach es X.env)).any (·.1) = false := by rfl) :
    QE X (.Call (.Attribute o "join" apos) (e :: es) [] cpos) (yBS yJoin to tr) := qe_bs1 PySem.F.slot_str_join PySem.F.type_str_join q_join ho ha h4 h5 h6 h7 h8
theorem join_nil_cps (zs : List Str) : (Txt.join "" zs).cps.toList = zs.flatMap fun z => z.cps.toList := by
  have e : ∀ zs : List Str, (Str.join "" zs).cps.toList = zs.flatMap fun z => z.cps.toList := by
    intro zs
    induction zs with
    | nil => rfl
    | cons z r ih =>
      cases r with
      | nil => simp [Str.join]
      | cons y r =>
        show (z ++ "" ++ Str.join "" (y :: r)).cps.toList = _
        have : (z ++ "" ++ Str.join "" (y :: r)).cps = z.cps ++ #[] ++ (Str.join "" (y :: r)).cps := rfl
        rw [this]
        simp only [Array.toList_append, ih, List.flatMap_cons, Array.append_empty]
  exact (congrArg (fun x : Str => x.cps.toList) (StrLaws.glued_eq_join "" zs)).trans (e zs)
/-! ### isinstance with two types -/
/-! ### a statement behind which ways meet -/
def ySeqJ (t u : TS3) (D : Ends3) (τ : St3) (L : LHp) : Prop := ∃ J : St3 → LHp → Prop, t { D with nx := J } τ L ∧ ∀ τ' L', J τ' L' → u D τ' L'
theorem qss_consJ {X : Cx} {st : Stmt} {rest : List Stmt} {t u : TS3} (h : QS X st t) (k : QSs X rest u) : QSs X (st :: rest) (ySeqJ t u) := PSs.imp (pss_cons h k) fun D σ H ⟨τ, L, D3, rs, rl, ⟨J, z, q⟩, k⟩ =>
  ⟨τ, L, { D3 with nx := J }, rs, rl, z, fun σ1 H1 τ1 L1 t1 rs1 rl1 z1 => ⟨τ1, L1, D3, rs1, rl1, q τ1 L1 z1, k.ts t1⟩, k.rt, k.bk, k.ct⟩
theorem updL_comm {L : LHp} {a b : Addr} {o u : LO} (h : a ≠ b) : updL (updL L a o) b u = updL (updL L b u) a o := by
  funext c
  by_cases h1 : c = a
  · subst h1; rw [updL_ne h, updL_same, updL_same]
  · by_cases h2 : c = b
    · subst h2; rw [updL_same, updL_ne h1, updL_same]
    · rw [updL_ne h2, updL_ne h1, updL_ne h1, updL_ne h2]
end L3

namespace L3
open PySem L2
/-! ### exceptions, by classes and the heap of lists -/
section
variable {X : Cx} {e : Expr} {es : List Expr} {tr : TA3} {pos : Pos} {E3 : X3}
end
end L3

namespace L3
open PySem L2
section
variable {X : Cx} {e : Expr} {es : List Expr} {tr : TA3} {pos cp : Pos}
end
end L3

namespace L3
open PySem L2
section
variable {X : Cx} {a e : Expr} {es : List Expr} {ta : TE3} {pos p pt : Pos} {v : V} {vs : List V}
end
end L3

namespace L3
open PySem L2
end L3
namespace L3
open PySem L2 PySem.W
section
variable {K : Frag} {C D : Addr} {t c : Value} {b : Bool}
end
end L3

namespace L2
open PySem PySem.Spec PyProof.Rows
/-! ### chains of comparisons, of any length -/
section
variable {X : Cx} {a b c : Expr} {es : List Expr} {ta tb : TE} {op op' : CmpOp} {ops : List CmpOp} {r : R2} {u : V → TE} {pos : Pos}
end
end L2
namespace L3
open PySem L2
section
variable {X : Cx} {a b c : Expr} {es : List Expr} {ta tb : TE3} {op op' : CmpOp} {ops : List CmpOp} {r : R23} {u : Y → TE3} {pos : Pos}
end
end L3

namespace L2
open PySem PySem.Spec PyProof.Rows
section
variable {X : Cx}
end
end L2
namespace L3
open PySem L2
end L3

namespace L3
open PySem L2
/-! ### dicts by ints or texts that are filled step by step -/
def keyY : Y → Option Key
  | .int i => some (.inl i)
  | .str x => some (.inr x)
  | _ => none
theorem keyY_rel {G : G3} {H : Hp} {y : Y} {v : V} {k : Key} (h : keyY y = some k) (r : RV G H y v) : v = kV k := by
  cases y with
  | int i => cases h; exact r
  | str x => cases h; exact r
  | _ => cases h
def putY (kvs : List (Key × Y)) (k : Key) (y : Y) : List (Key × Y) :=
  if (kvs.any fun kv => decide (kv.1 = k)) = true then kvs.map (fun kv => if kv.1 = k then (kv.1, y) else kv) else kvs ++ [(k, y)]
theorem TSt.dct {H : Hp} {p : Addr} {zs : List (Key × V)} {o : HO} (h : H p = some (.dK zs)) : TSt H (upd H p o) := fun a u i q => by
  rw [upd_ne ?_]; exact q
  rintro rfl
  rw [h] at q; cases q; cases i
theorem pair_any {G : G3} {H : Hp} {kvs : List (Key × Y)} {xs : List (Key × V)} (p : Paired (fun (p : Key × Y) (q : Key × V) => p.1 = q.1 ∧ RV G H p.2 q.2) kvs xs) (k : Key) : (kvs.any fun kv => decide (kv.1 = k)) = xs.any fun kv => decide (kv.1 = k) := by
  induction p with
  | nil => rfl
  | cons r t ih => rw [List.any_cons, List.any_cons, ih, r.1]
theorem pair_map {G : G3} {H : Hp} {kvs : List (Key × Y)} {xs : List (Key × V)} {y : Y} {v : V} (p : Paired (fun (p : Key × Y) (q : Key × V) => p.1 = q.1 ∧ RV G H p.2 q.2) kvs xs) (k : Key) (r : RV G H y v) :
    Paired (fun (p : Key × Y) (q : Key × V) => p.1 = q.1 ∧ RV G H p.2 q.2) (kvs.map fun kv => if kv.1 = k then (kv.1, y) else kv) (xs.map fun kv => if kv.1 = k then (kv.1, v) else kv) := by
  induction p with
  | nil => exact .nil
  | @cons a b _ _ r' t ih =>
    refine .cons ?_ ih
    obtain ⟨e, q⟩ := r'
    dsimp only
    by_cases c : a.1 = k
    · rw [if_pos c, if_pos (e ▸ c)]; exact ⟨e, r⟩
    · rw [if_neg c, if_neg (fun z => c (e.trans z))]; exact ⟨e, q⟩
theorem pair_snoc {G : G3} {H : Hp} {kvs : List (Key × Y)} {xs : List (Key × V)} {y : Y} {v : V} (p : Paired (fun (p : Key × Y) (q : Key × V) => p.1 = q.1 ∧ RV G H p.2 q.2) kvs xs) (k : Key) (r : RV G H y v) :
    Paired (fun (p : Key × Y) (q : Key × V) => p.1 = q.1 ∧ RV G H p.2 q.2) (kvs ++ [(k, y)]) (xs ++ [(k, v)]) := by
  induction p with
  | nil => exact .cons ⟨rfl, r⟩ .nil
  | cons r' t ih => exact .cons r' ih
theorem pair_put {G : G3} {H : Hp} {kvs : List (Key × Y)} {xs : List (Key × V)} {y : Y} {v : V} (p : Paired (fun (p : Key × Y) (q : Key × V) => p.1 = q.1 ∧ RV G H p.2 q.2) kvs xs) (k : Key) (r : RV G H y v) :
    Paired (fun (p : Key × Y) (q : Key × V) => p.1 = q.1 ∧ RV G H p.2 q.2) (putY kvs k y) (putK xs k v) := by
  unfold putY putK
  rw [pair_any p k]
  by_cases c : (xs.any fun kv => decide (kv.1 = k)) = true
  · rw [if_pos c, if_pos c]; exact pair_map p k r
  · rw [if_neg c, if_neg c]; exact pair_snoc p k r
theorem pair_len {α β : Type} {R : α → β → Prop} {l : List α} {m : List β} (p : Paired R l m) : l.length = m.length := by
  induction p with
  | nil => rfl
  | cons _ _ ih => rw [List.length_cons, List.length_cons, ih]
def yDNew (_ : St3) (L : LHp) (Q : YK) : Prop := ∀ p, L p = none → Q (.ref p) (updL L p (.dct []))
def yDGet (td ti : TE3) (τ : St3) (L : LHp) (Q : YK) : Prop := td τ L fun x L1 => ti τ L1 fun y L2 => match x, keyY y with
  | .ref a, some k => dctK L2 a fun kvs => atK L2 Q (valY kvs k)
  | _, _ => False
def yDPut (td ti tv : TE3) (D : Ends3) (τ : St3) (L : LHp) : Prop := tv τ L fun v L1 => td τ L1 fun x L2 => ti τ L2 fun y L3 => match x, keyY y with
  | .ref a, some k => dctK L3 a fun kvs => kvs.length < sizeLine ∧ D.nx τ (updL L3 a (.dct (putY kvs k v)))
  | _, _ => False
section
variable {X : Cx} {o i value : Expr} {td ti tv : TE3} {pos pos' : Pos}
theorem qe_dnew : QE X (.Dict [] [] pos) yDNew := PE.imp pe_dnewK fun σ H Q ⟨τ, L, Q3, rs, rl, z, k⟩ => fun p hp => by
  refine k _ _ _ (updL L p (.dct [])) (TSt.new hp) (fun a u e => ?_) (by rfl) (z p (rl.none hp))
  by_cases c : a = p
  · subst c
    rw [updL_same] at e; cases e
    exact ⟨[], upd_same, .nil⟩
  · rw [updL_ne c] at e
    exact (rl a u e).keep (TSt.new hp) (upd_ne c)
theorem qe_dget (hu : X.A.units + 128 < cLine) (ho : QE X o td) (hi : QE X i ti) (hs : NoSl i) : QE X (.Subscript o i pos) (yDGet td ti) := PE.imp (pe_dget (by omega) ho hi hs) fun σ H Q ⟨τ, L, Q3, rs, rl, z, k⟩ =>
  ⟨τ, L, _, rs, rl, z, fun v H1 x L1 t1 rl1 rv1 z1 => ⟨τ, L1, _, rs.ts t1, rl1, z1, fun w H2 y L2 t2 rl2 rv2 z2 => by
    split at z2
    · rename_i a kk ek
      obtain ⟨kvs, e, z3⟩ := dctK_inv z2
      obtain ⟨yv, ev, q⟩ := atK_inv z3
      obtain ⟨xs, e2, pr⟩ := rl2 a _ e
      obtain ⟨xv, ex, rx⟩ := pair_valY pr ev
      exact ⟨a, xv, rv1, .inl ⟨xs, kk, .inl e2, keyY_rel ek rv2, ex.symm⟩, k _ H2 _ L2 (t1.trans t2) rl2 rx q⟩
    · exact z2.elim⟩⟩
theorem qs_dput (hu : X.A.units + 128 < cLine) (ho : QE X o td) (hi : QE X i ti) (hv : QE X value tv) (hs : swapsWith value (some (.Subscript o i pos')) pos.line X.env = pure false := by rfl) : QS X (.Assign [.Subscript o i pos'] value pos) (yDPut td ti tv) :=
  PS.imp (ps_dput (by omega) ho hi hv hs) fun D σ H ⟨τ, L, D3, rs, rl, z, k⟩ =>
  ⟨τ, L, _, rs, rl, z, fun v H1 vy L1 t1 rl1 rv1 z1 => ⟨τ, L1, _, rs.ts t1, rl1, z1, fun x H2 xy L2 t2 rl2 rv2 z2 => ⟨τ, L2, _, rs.ts (t1.trans t2), rl2, z2, fun w H3 y L3 t3 rl3 rv3 z3 => by
    split at z3
    · rename_i a kk ek
      obtain ⟨kvs, e, hl, q⟩ := dctK_inv z3
      obtain ⟨xs, e2, pr⟩ := rl3 a _ e
      have tt : TSt H3 (upd H3 a (.dK (putK xs kk v))) := TSt.dct e2
      cases (show x = V.ref a from rv2)
      refine ⟨a, _, rfl, .inl ⟨xs, kk, e2, keyY_rel ek rv3, by rw [← pair_len pr]; exact hl, rfl⟩, ?_⟩
      refine k.nx _ _ _ _ (((t1.trans t2).trans t3).trans tt) (rs.ts (((t1.trans t2).trans t3).trans tt)) (fun b u eb => ?_) q
      by_cases c : b = a
      · subst c
        rw [updL_same] at eb; cases eb
        exact ⟨_, upd_same, Paired.mapP (pair_put pr kk (rv1.ts (t2.trans t3))) fun _ _ ⟨h1, h2⟩ => ⟨h1, h2.ts tt⟩⟩
      · rw [updL_ne c] at eb
        exact (rl3 b u eb).keep tt (upd_ne c)
    · exact z3.elim⟩⟩⟩
end
end L3

namespace L3
open PySem L2
/-! ### an item of a list is stored; a list is unpacked -/
section
variable {X : Cx} {o i value : Expr} {to ti tv : TE3} {pos pos' : Pos}
end
end L3

namespace L2
open PySem PySem.Spec PyProof.Rows
/-! ### f-strings of texts -/
section
variable {X : Cx} {e v₁ v₂ : Expr} {es : List Expr} {te : TE} {u : Str → TE} {pos : Pos}
end
end L2
namespace L3
open PySem L2
section
variable {X : Cx} {e v₁ v₂ : Expr} {es : List Expr} {te : TE3} {u : Str → TE3} {pos : Pos}
end
end L3

namespace L3
open PySem L2
/-! ### instances of the text's own classes -/
section
variable {X : Cx} {o e value : Expr} {es : List Expr} {to te tv : TE3} {tr : TA3} {pos pos' apos p : Pos} {f m x : Str} {C g : Addr}
end
end L3

namespace L3
open PySem L2
end L3

namespace L3
open PySem L2
/-! ### `<` of two lists of whole numbers -/
open PySem.AutoSeq1 (wpAny_loadPart')
open MeetsSeq MeetsSeq2 MeetsSeq3 SeqRoads2
/-- + of two lists, also of one that nobody changes -/
def yAddQ (x y : Y) (L : LHp) (Q : YK) : Prop := seqK L x fun xs => seqK L y fun ys => listY x = true ∧ listY y = true ∧ xs.length + ys.length ≤ sizeLine ∧ ∀ p, L p = none → Q (.ref p) (updL L p (.lst (xs ++ ys)))
theorem q_addQ {X : Cx} (K : PySem.W.Frag) (P : Program) (w : World) (hK : X.K = K := by rfl) (hP : X.prog = P := by rfl) (hw : X.w = w := by rfl) : OpR X (binaryOp .Add) (upR ⟨K, P, w⟩ yAddQ) := by
  subst hK hP hw
  intro pins s σ H x y v u Q I rx ry ⟨x3, y3, L, Q3, r1, r2, rl, z, k⟩
  obtain ⟨xs, ex, z⟩ := seqK_inv z
  obtain ⟨ys, ey, z⟩ := seqK_inv z
  obtain ⟨lx, ly, hz, q⟩ := z
  obtain ⟨a, ws, rfl, s1, rv1⟩ := seq_listY rl r1 lx ex
  obtain ⟨b, ws', rfl, s2, rv2⟩ := seq_listY rl r2 ly ey
  cases rx; cases ry
  obtain ⟨is1, vx, tx, _⟩ := I.list s1
  obtain ⟨is2, vy, ty, _⟩ := I.list s2
  obtain ⟨⟨cls, dd, data, sl⟩, ho, hc, n, hd⟩ := id (plain_list tx)
  obtain ⟨⟨cls2, dd2, data2, sl2⟩, ho2, hc2, n2, hd2⟩ := id (plain_list ty)
  simp only at hc hd hc2 hd2
  subst hc hd hc2 hd2
  have l1 := vx.length; have l2 := vy.length; have l3 := rv1.length; have l4 := rv2.length
  have hsz : is1.toArray.size + is2.toArray.size ≤ sizeLine := by rw [List.size_toArray, List.size_toArray]; omega
  refine concat_meets ⟨_, ho, rfl⟩ ⟨_, ho2, rfl⟩ noFill_list_add seq_list_add PySem.F.slot_list_add PySem.F.entry_list_add (PySem.F.args_list_add_2 _ _) (PyProof.Rows.list_addW a b is1.toArray is2.toArray n n2 dd dd2 sl sl2 hsz) ⟨ho, ho2, ?_⟩
  have e : is1.toArray ++ is2.toArray = (is1 ++ is2).toArray := by simp
  rw [e]
  exact ⟨.ref _, _, I.lnew (t' := s.toks) (vx.append vy) (by rw [List.length_append]; omega), rfl, k _ _ _ _ (TSt.new I.fresh) (rl.newL I.fresh (rv1.app rv2)) (by rfl) (q _ (rl.none I.fresh))⟩
end L3

namespace L2
open PySem PySem.Spec PyProof.Rows
/-! ### over the signs of a text (ASCII) -/
/-! ### split at a text -/
end L2

namespace Txs
open PySem PySem.Builtin.Str
/-! ### texts as lists of signs: cut at a sign, a sign replaced -/
theorem len_list (x : Str) : x.cps.toList.length = x.length := by simp [Str.length]
/-! ### words between blanks; signs spread -/
end Txs

namespace L2
open PySem PySem.Spec PyProof.Rows
section
variable {X : Cx} {pins : List (Addr × Obj)} {σ : St} {H : Hp} {s : Shared} {isp imk c j1 j2 : Nat} {sp mk : Str} {x : Str} {u : Tok} {m : Str → Option Value} {p1 p3 p4 p5 p6 p7 p8 p9 p10 apos cpos pos : Pos} {Q : Flow → Shared → Prop}
end
end L2
namespace L3
open PySem L2
/-! ### the same in layer 3 -/
end L3

namespace L2
open PySem PySem.Spec PyProof.Rows
section
variable {X : Cx}
end
end L2
namespace L3
open PySem L2
end L3

namespace L3
open PySem L2
/-! ### methods and makers as their callers see them -/
section
variable {X : Cx} {o e : Expr} {es : List Expr} {to : TE3} {tr : TA3} {pos apos p : Pos} {m x : Str} {C : Addr} {k : Nat} {ps : List Str} {sp : Sp3}
end
end L3

namespace L2
open PySem PySem.Spec PyProof.Rows
/-! ### a text so many times -/
end L2
namespace L3
open PySem L2
end L3

namespace L2
open PySem PySem.Spec PyProof.Rows
/-! ### f-strings: !r of a text, an int -/
section
variable {X : Cx} {e : Expr} {te : TE} {pos : Pos}
end
end L2
namespace L3
open PySem L2
section
variable {X : Cx} {e : Expr} {te : TE3} {pos : Pos}
end
end L3

namespace L2
open PySem PySem.Spec PyProof.Rows
/-! ### isalpha -/
/-! ### a text in a text -/
end L2
namespace L3
open PySem L2 PySem.Spec PyProof.Rows
end L3

namespace L2
open PySem PySem.Spec PyProof.Rows
/-! ### an exception out of a comprehension -/
section
variable {X : Cx} {pins : List (Addr × Obj)} {σ : St} {H : Hp} {s : Shared} {a C T : Addr} {tr : Option Addr}
end
/-! ### the comprehension's own end -/
section
variable {X : Cx} {scope : Scope} {T : List Str} {elt target iter : Expr} {ifs : List Expr} {wi : TI} {g : TG} {tc : TT} {te : TE}
end
section
variable {X : Cx} {pins : List (Addr × Obj)} {σ : St} {H H' : Hp} {s s' : Shared} {a b C T : Addr} {tr : Option Addr} {E1 : X1}
end
section
variable {X : Cx} {k : Nat} {f C : Addr} {fd : FuncData} {ps : List Str} {sp : Sp} {E1 : X1} {x : Str} {p pos : Pos} {e : Expr} {es : List Expr} {t : TA}
end
/-! ### the sum of a list of whole numbers -/
end L2
namespace L3
open PySem L2
section
variable {X : Cx} {scope : Scope} {T : List Str} {elt target iter c e o : Expr} {ifs es : List Expr} {wi : TI3} {g : TG3} {tA : TT3} {te to : TE3} {tr : TA3} {pos : Pos} {E3 : X3} {Ea : Addr → LHp → Prop}
end
/-! ### sum -/
end L3

namespace L2
open PySem PySem.Spec PyProof.Rows
/-! ### list.insert -/
theorem Vals.takeN : ∀ {xs : List V} {us : List Value} (n : Nat), Vals xs us → Vals (xs.take n) (us.take n)
  | [], _, n, .nil => by simp; exact .nil
  | _ :: _, _, 0, .cons _ _ => .nil
  | _ :: _, _, n + 1, .cons r t => .cons r (Vals.takeN n t)
theorem Vals.dropN : ∀ {xs : List V} {us : List Value} (n : Nat), Vals xs us → Vals (xs.drop n) (us.drop n)
  | [], _, n, .nil => by simp; exact .nil
  | _ :: _, _, 0, .cons r t => .cons r t
  | _ :: _, _, n + 1, .cons _ t => Vals.dropN n t
section
variable {X : Cx}
def rInsert : V → List V → Hp → VK → Prop := fun x vs H Q => ∃ l xs, ∃ i : Int, ∃ y, x = .ref l ∧ vs = [.int i, y] ∧ H l = some (.lst xs) ∧ 0 ≤ i ∧ i.toNat ≤ xs.length ∧ xs.length ≤ 100000 ∧ Q .non (upd H l (.lst (xs.take i.toNat ++ y :: xs.drop i.toNat)))
theorem mt_insert : MtM X "list.insert" rInsert := by
  intro pins s σ H x vs v us Q I rx rv h
  obtain ⟨l, xs, i, y, rfl, rfl, hH, h0, hk, hz, q⟩ := h
  cases rx
  obtain ⟨u0, u, rfl, r0, ru⟩ := rv.two
  obtain ⟨t, rfl⟩ := (show ∃ t, u0 = Value.int i t from r0)
  obtain ⟨z, its, n, r, hl, e⟩ := I.lstM hH
  have hlen : its.length = xs.length := r.length.symm
  have hb : (100000 : Nat) < sizeLine := by decide
  have fits : ¬ (!Builtin.List.listFitsIndex i) = true := by
    unfold Builtin.List.listFitsIndex
    simp
    omega
  obtain ⟨arr, harr⟩ : ∃ arr : Array Value, arr = its.toArray := ⟨_, rfl⟩
  have hzz : arr.size ≤ sizeLine := by rw [harr, List.size_toArray]; omega
  have M := PySem.AutoListH.list_insert_list_int_val_1 l arr n i t u fits hzz
  rw [harr] at M
  refine call_meets F.slot_list_insert ⟨_, e, rfl⟩ F.entry_list_insert (F.args_list_insert_3 _ _ _) M ⟨e, ?_⟩
  refine ⟨.non, _, I.lset (its' := its.take i.toNat ++ u :: its.drop i.toNat) hH e ?_ ((r.takeN i.toNat).append (.cons ru (r.dropN i.toNat))) ?_, rfl, q⟩
  · have h1 : ¬ (i < 0) := by omega
    have h2 : min i.toNat its.length = i.toNat := by omega
    simp [h1, h2]
    exact List.take_of_length_le (by rw [List.length_drop]; omega)
  · simp; omega
end
end L2
namespace L3
open PySem L2
def yInsert (x : Y) (vs : List Y) (L : LHp) (Q : YK) : Prop := match x, vs with
  | .ref a, [.int i, v] => lstK L a fun ys => (0 ≤ i ∧ i ≤ ys.length ∧ ys.length ≤ 100000) ∧ Q .non (updL L a (.lst (ys.take i.toNat ++ v :: ys.drop i.toNat)))
  | _, _ => False
theorem q_insert {X : Cx} : MtM X "list.insert" (upM X.g3 yInsert) := MtM.imp mt_insert fun x xs H Q ⟨y, ys, L, Q3, r1, r2, rl, z, k⟩ => by
  unfold yInsert at z
  split at z
  · rename_i a i v
    obtain ⟨zs, e, ⟨h0, h1, h2⟩, z⟩ := lstK_inv z
    obtain ⟨us, e2, r⟩ := rl a _ e
    obtain ⟨v0, v', rfl, rv0, rv⟩ := r2.inv2
    cases rv0
    refine ⟨a, us, i, v', r1, rfl, e2, h0, by rw [← r.length]; omega, by rw [← r.length]; exact h2, ?_⟩
    exact k _ _ _ _ (TSt.lst e2) (rl.setL e2 ((r.take _).app (show RVs X.g3 H (v :: _) _ from ⟨v', _, rfl, rv, r.drop _⟩))) (by rfl) z
  · exact z.elim
theorem qe_insert {X : Cx} {o e : Expr} {es : List Expr} {to : TE3} {tr : TA3} {apos cpos : Pos} (ho : QE X o to) (ha : QA X (e :: es) tr) (h4 : attributeBase o "insert" X.env (eval o X.env) = eval o X.env := by rfl)
    (h5 : ((backTo cpos (starEach (e :: es) X.env)).all (fun x => !x.1) && (backToKw cpos (keywordEach [] X.env)).all (fun x => x.1.isSome) && decide ((e :: es).length + ([] : List Keyword).length + (if ([] : List Keyword).isEmpty = true then 0 else 1) < 30)) = true := by rfl)
    (h6 : (apos.endLine == cpos.line) = true := by rfl) (h7 : starEach (e :: es) X.env = (false, eval e X.env) :: starEach es X.env := by rfl) (h8 : (backTo cpos (starEach es X.env)).any (·.1) = false := by rfl) :
    QE X (.Call (.Attribute o "insert" apos) (e :: es) [] cpos) (yBL yInsert to tr) := qe_bl1 PySem.F.slot_list_insert PySem.F.type_list_insert q_insert ho ha h4 h5 h6 h7 h8
end L3

namespace L3
open PySem L2 Words
local macro_rules | `(tactic| walk_at "w") => `(tactic| conv => whnf)
def encY : Wd → Y
  | .leaf t n => .tup [.str (kL t), .str n]
  | .node e l r => .tup [.str (kN e), encY l, encY r]
def cs_LEAF_KINDS : Y := (.tup [(.str "plain"), (.str "turned")])
def cs_TURNED_KINDS : Y := (.cd [("plain", "turned"), ("turned", "plain"), ("both", "either"), ("either", "both")])
/-! ### oncewise.words -/
theorem atK_some {α : Type} {L : LHp} {Q : α → LHp → Prop} {o : Option α} {v : α} (e : o = some v) (h : Q v L) : atK L Q o := by rw [e]; exact h
def t_is_leaf : TS3 := (yRet (yOp (yInS false) (yOp yIx (yVar 0) (yC (.int 0))) (yC cs_LEAF_KINDS)))
def kX : Bool → Bool → Str
  | true, t => kL t
  | false, e => kN e
def sp_is_leaf : Sp3 := fun ys L Q => ∃ lf b rest, ys = [.tup (.str (kX lf b) :: rest)] ∧ Q (.bl lf) L
theorem isLeaf_in (t : Bool) : inV (.str (kL t)) [.str "plain", .str "turned"] = true := by cases t <;> decide +kernel
theorem isNode_in (t : Bool) : inV (.str (kN t)) [.str "plain", .str "turned"] = false := by cases t <;> decide +kernel
theorem vc_is_leaf : ∀ ys L Q, sp_is_leaf ys L Q → run3 t_is_leaf 1 ys L Q := by
  rintro ys L Q ⟨lf, b, rest, rfl, q⟩
  have e0 : atI (Y.str (kX lf b) :: rest) 0 = some (Y.str (kX lf b)) := atI_nat (xs := Y.str (kX lf b) :: rest) (j := 0) rfl
  walk_at "w"
  rw [e0]
  refine ⟨rfl, rfl, fin ?_⟩
  cases lf with
  | true =>
    rw [show nb false (inV (toV (.str (kX true b))) ([Y.str "plain", .str "turned"].map toV)) = true from isLeaf_in b]
    exact q
  | false =>
    rw [show nb false (inV (toV (.str (kX false b))) ([Y.str "plain", .str "turned"].map toV)) = false from isNode_in b]
    exact q
def t_turned (p_is_leaf p_turned : Sp3) : TS3 := (ySeq (yAsg (yOp yIx (yC cs_TURNED_KINDS) (yOp yIx (yVar 0) (yC (.int 0)))) (gyName 1))
  (ySeq (yIfS (yB (yCall p_is_leaf (yCons (yVar 0) yNil))) (yRet (yTup (yCons (yVar 1) (yCons (yOp yIx (yVar 0) (yC (.int 1))) yNil)))) yNext)
  (yRet (yTup (yCons (yVar 1) (yCons (yCall p_turned (yCons (yOp yIx (yVar 0) (yC (.int 1))) yNil)) (yCons (yCall p_turned (yCons (yOp yIx (yVar 0) (yC (.int 2))) yNil)) yNil)))))))
def sp_turned (n : Nat) : Sp3 := fun ys L Q => ∃ wd, ys = [encY wd] ∧ wd.depth ≤ n ∧ Q (encY wd.turn) L
theorem side_leaf (t : Bool) : List.lookup (kL t) [(("plain" : Str), ("turned" : Str)), ("turned", "plain"), ("both", "either"), ("either", "both")] = some (kL (!t)) := by cases t <;> decide +kernel
theorem side_node (t : Bool) : List.lookup (kN t) [(("plain" : Str), ("turned" : Str)), ("turned", "plain"), ("both", "either"), ("either", "both")] = some (kN (!t)) := by cases t <;> decide +kernel
theorem vc_turned (n : Nat) : ∀ ys L Q, sp_turned (n + 1) ys L Q → run3 (t_turned sp_is_leaf (sp_turned n)) 2 ys L Q := by
  rintro ys L Q ⟨wd, rfl, hd, q⟩
  cases wd with
  | leaf t nm =>
    exact atK_some (side_leaf t) ⟨true, t, _, rfl, fin q⟩
  | node e l r =>
    have hd' : max l.depth r.depth + 1 ≤ n + 1 := hd
    refine atK_some (side_node e) ⟨false, e, _, rfl, l, rfl, by omega, r, rfl, by omega, ?_⟩
    exact fin q
def t_leaves_of (p_is_leaf p_leaves_of : Sp3) : TS3 := (ySeq (yIfS (yB (yCall p_is_leaf (yCons (yVar 0) yNil))) (yRet (yLst (yCons (yVar 0) yNil))) yNext)
  (yRet (yOp yAdd (yCall p_leaves_of (yCons (yOp yIx (yVar 0) (yC (.int 1))) yNil)) (yCall p_leaves_of (yCons (yOp yIx (yVar 0) (yC (.int 2))) yNil)))))
def sp_leaves_of (n : Nat) : Sp3 := fun ys L Q => ∃ wd, ys = [encY wd] ∧ wd.depth ≤ n ∧ wd.leaves ≤ 63 ∧ ∀ p, L p = none → Q (.ref p) (updL L p (.lst (wd.leafL.map encY)))
theorem sub_two {L : LHp} {p q r : Addr} {o u v : LO} (hp : L p = none) (hq : updL L p o q = none) (hr : updL (updL L p o) q u r = none) : LSub (updL L r v) (updL (updL (updL L p o) q u) r v) := fun a z e => by
  by_cases c : a = r
  · subst c; rw [updL_same] at e ⊢; exact e
  · rw [updL_ne c] at e ⊢
    exact ((LSub.new hp).trans (LSub.new hq)) a z e
theorem none_sub {L L' : LHp} (s : LSub L L') {p : Addr} (h : L' p = none) : L p = none := by
  cases e : L p with
  | none => rfl
  | some o => rw [s _ _ e] at h; cases h
theorem vc_leaves_of (n : Nat) : ∀ ys L Q, sp_leaves_of (n + 1) ys L Q → run3 (t_leaves_of sp_is_leaf (sp_leaves_of n)) 1 ys L Q := by
  rintro ys L Q ⟨wd, rfl, hd, h63, q⟩
  cases wd with
  | leaf t n => exact ⟨true, t, _, rfl, fun p hp => fin (q p hp)⟩
  | node e l r =>
    have hd' : max l.depth r.depth + 1 ≤ n + 1 := hd
    have h63' : l.leaves + r.leaves ≤ 63 := h63
    refine ⟨false, e, _, rfl, l, rfl, by omega, by omega, fun p1 h1 => ⟨r, rfl, by omega, by omega, fun p2 h2 => ?_⟩⟩
    have n1 : p1 ≠ p2 := neL updL_same h2
    refine ⟨_, _, (updL_ne n1).trans updL_same, updL_same, small ?_, fun p3 h3 => ?_⟩
    · rw [List.length_map, List.length_map, Wd.leafL_len, Wd.leafL_len]; omega
    · refine finS (sub_two h1 h2 h3) ?_
      have := q p3 (none_sub (LSub.new h1) (none_sub (LSub.new h2) h3))
      rw [show (Wd.node e l r).leafL = l.leafL ++ r.leafL from rfl, List.map_append] at this
      exact this
/-! ### == of words -/
theorem DatN.str {L : LHp} {n : Nat} (x : Str) : DatN L n (.str x) (.s (.str x)) := by
  cases n with
  | zero => exact ⟨rfl, rfl⟩
  | succ n => exact .inl ⟨rfl, rfl⟩
theorem datN_enc {L : LHp} : ∀ {wd : Wd} {n : Nat}, wd.depth ≤ n → DatN L n (encY wd) (enc wd)
  | .leaf t nm, n + 1, _ => .inr (.inl ⟨_, _, rfl, rfl, .cons (DatN.str _) (.cons (DatN.str _) .nil)⟩)
  | .node e l r, n + 1, h => by
    have h' : max l.depth r.depth + 1 ≤ n + 1 := h
    exact .inr (.inl ⟨_, _, rfl, rfl, .cons (DatN.str _) (.cons (datN_enc (by omega)) (.cons (datN_enc (by omega)) .nil))⟩)
theorem datN_encs {L : LHp} {n : Nat} : ∀ {ws : List Wd}, (∀ w ∈ ws, w.depth ≤ n) → Paired (DatN L n) (ws.map encY) (ws.map enc)
  | [], _ => .nil
  | w :: r, h => .cons (datN_enc (h w (by simp))) (datN_encs fun x hx => h x (by simp [hx]))
theorem datN_list {L : LHp} {n : Nat} {a : Addr} {ys : List Y} {ds : List Da} (e : L a = some (.lst ys)) (p : Paired (DatN L n) ys ds) : DatN L (n + 1) (.ref a) (.lst ds) := .inr (.inr ⟨ys, ds, rfl, rfl, seqOf_lst e, p⟩)
/-- two words, compared -/
theorem yEq_word {L : LHp} {neg : Bool} {u v : Wd} {Q : YK} (hu : u.depth ≤ 128) (q : Q (.bl (nb neg (Da.eq (enc u) (enc v)))) L) : yEq neg (encY u) (encY v) L Q := by
  have hr : ∀ w : Wd, refY (encY w) = true := fun w => by cases w <;> rfl
  have : refY (encY u) = true ∧ refY (encY v) = true ∧ ∃ n m d e, n ≤ 128 ∧ DatN L n (encY u) d ∧ DatN L m (encY v) e ∧ Q (.bl (nb neg (Da.eq d e))) L :=
    ⟨hr u, hr v, u.depth, v.depth, enc u, enc v, hu, datN_enc (Nat.le_refl _), datN_enc (Nat.le_refl _), q⟩
  cases u <;> cases v <;> exact this
theorem no_turned : ∀ ys L Q, ¬ sp_turned 0 ys L Q := fun ys L Q ⟨wd, _, hd, _⟩ => by cases wd <;> simp [Wd.depth] at hd
theorem no_leaves_of : ∀ ys L Q, ¬ sp_leaves_of 0 ys L Q := fun ys L Q ⟨wd, _, hd, _⟩ => by cases wd <;> simp [Wd.depth] at hd
end L3

namespace L3
open PySem L2 Words
local macro_rules | `(tactic| walk_at "w") => `(tactic| conv => whnf)
/-- one of two written texts -/
theorem two_at3 (x y : Y) (m : Int) : ∃ b : Bool, atI [x, y] (m % 2) = some (if b then y else x) := by
  have : m % 2 = 0 ∨ m % 2 = 1 := by omega
  rcases this with h | h
  · rw [h]; exact ⟨false, rfl⟩
  · rw [h]; exact ⟨true, rfl⟩
theorem pick_leaf (m : Int) : ∃ b : Bool, atI [.str "plain", .str "turned"] (m % 2) = some (Y.str (kL b)) := by
  obtain ⟨b, e⟩ := two_at3 (.str "plain") (.str "turned") m
  exact ⟨b, by rw [e]; cases b <;> rfl⟩
theorem pick_node (m : Int) : ∃ b : Bool, atI [.str "both", .str "either"] (m % 2) = some (Y.str (kN b)) := by
  obtain ⟨b, e⟩ := two_at3 (.str "both") (.str "either") m
  exact ⟨b, by rw [e]; cases b <;> rfl⟩
end L3

namespace L3
open PySem L2 Words
local macro_rules | `(tactic| walk_at "w") => `(tactic| conv => whnf)
def t__law_mix : TS3 := (yRet (yOp yFdiv (yOp yMod (yOp yMul (yOp yAdd (yOp yAdd (yOp yMul (yOp yMod (yVar 0) (yC (.int 1000003))) (yC (.int 7))) (yOp yMul (yVar 1) (yVar 1))) (yC (.int 1))) (yVar 2)) (yC (.int 2147483647))) (yC (.int 16))))
def sp_mix : Sp3 := fun ys L Q => ∃ c k f : Int, ys = [.int c, .int k, .int f] ∧ 0 ≤ k ∧ k < 1000000 ∧ 0 < f ∧ f < 1000000 ∧ ∀ v, 0 ≤ v → v < 134217728 → Q (.int v) L
theorem vc_mix : ∀ ys L Q, sp_mix ys L Q → run3 t__law_mix 3 ys L Q := by
  rintro ys L Q ⟨c, k, f, rfl, h0, h1, h2, h3, q⟩
  refine ⟨(by decide : (0 : Int) < 1000003), .inr ⟨by decide, by decide⟩, .inl ⟨by omega, by omega⟩, .inr ⟨by omega, by omega⟩, (by decide : (0 : Int) < 2147483647), ⟨by decide, by decide⟩, fin (q _ ?_ ?_)⟩
  all_goals
    generalize ((c % 1000003 * 7 + k * k + 1) * f) = z
    omega
/-! names -/
theorem join_one (cs : List Nat) : (Txt.join "" (cs.map fun c => (⟨#[c]⟩ : Str))).cps.toList = cs := by
  rw [join_nil_cps]
  induction cs with
  | nil => rfl
  | cons c r ih => rw [List.map_cons, List.flatMap_cons, ih]; rfl
/-! weights -/
/-! the same, kind by kind -/
/-! a word that stands in knots -/
end L3

namespace L3
open PySem L2 Words
/-! words of the generator, with their depths -/
end L3

namespace L3
open PySem L2 Words
local macro_rules | `(tactic| walk_at "w") => `(tactic| conv => whnf)
/-! ### names -/
/-! ### the walk over tokens -/
/-! ### tokens -/
def mkS (l : List Nat) : Str := ⟨l.toArray⟩
theorem mkS_cps (x : Str) : mkS x.cps.toList = x := by cases x; rfl
end L3

namespace L3
open PySem L2 Words
local macro_rules | `(tactic| walk_at "w") => `(tactic| conv => whnf)
/-! ### what is written, as a tree of tokens -/
end L3

namespace L3
open PySem L2 Words
local macro_rules | `(tactic| walk_at "w") => `(tactic| conv => whnf)
/-! ### the reader as a function -/
/-! ### the program reads so -/
end L3

namespace L3
open PySem L2 Words
local macro_rules | `(tactic| walk_at "w") => `(tactic| conv => whnf)
/-! ### a word as it is shown -/
/-! tokens of lists of signs -/
/-! the two writers -/
end L3

namespace L3
open PySem L2 Words
/-! ### what the reader takes is a tree of tokens, and each such tree is taken -/
/-! ### what can be counted in a line that is read -/
/-! signs and tokens -/
/-! a run of nine letters -/
end L3

namespace L3
open PySem L2 Words
local macro_rules | `(tactic| walk_at "w") => `(tactic| conv => whnf)
/-! ### refused -/
/-! ### slices -/
/-! ### a sign less -/
/-! ### deep texts -/
/-! ### spoilt lines -/
end L3

namespace L3
open PySem L2 Words
/-! ### rows as texts -/
/-! the row -/
/-! lengths and signs -/
end L3

namespace L3
open PySem L2 Words
local macro_rules | `(tactic| walk_at "w") => `(tactic| conv => whnf)
def t_name71 : TS3 := (ySeq (yAsg (yC (.str "abcdefghijklmnopqrstuvwxyz")) (gyName 2))
  (ySeq (yAsg (yOp yAdd (yC (.int 1)) (yOp yMod (yVar 0) (yC (.int 8)))) (gyName 3))
  (ySeq (yAsg (yOp yMod (yOp yFdiv (yVar 0) (yC (.int 8))) (yVar 3)) (gyName 4))
  (ySeq (yAsg (yBS yJoin (yC (.str "")) (yCons (yLC 1 (iyRng1 (yCons (yC (.int 8)) yNil)) (gyName 7) yYes (yOp yIx (yVar 2) (yOp yMod (yOp yAdd (yOp yFdiv (yVar 0) (yC (.int 64))) (yOp yMul (yC (.int 3)) (yVar 7))) (yC (.int 26))))) yNil)) (gyName 5))
  (ySeq (yIfS (yB (yOp (yEq false) (yOp yMod (yOp yFdiv (yVar 0) (yC (.int 64))) (yC (.int 3))) (yC (.int 1)))) (yRet (ySl ySlU (yVar 5) yNoPart (yPart (yOp yAdd (yC (.int 1)) (yOp yMod (yOp yAdd (yVar 1) (yVar 0)) (yC (.int 3))))))) yNext)
  (ySeq (yAsg (yOp yIx (yVar 2) (yOp yMod (yOp yAdd (yOp yAdd (yOp yFdiv (yVar 0) (yC (.int 64))) (yOp yMul (yC (.int 3)) (yVar 4))) (yVar 1)) (yC (.int 26)))) (gyName 6))
  (yRet (yOp yAdd (yOp yAdd (ySl ySlU (yVar 5) yNoPart (yPart (yVar 4))) (yVar 6)) (ySl ySlU (yVar 5) (yPart (yOp yAdd (yVar 4) (yC (.int 1)))) (yPart (yVar 3)))))))))))
/-! ### a name told by its numbers -/
def chr26 (i : Int) : Nat := 97 + (i % 26).toNat
theorem abc_chr (i : Int) : atI ("abcdefghijklmnopqrstuvwxyz" : Str).cps.toList (i % 26) = some (chr26 i) := by
  obtain ⟨n, hn⟩ : ∃ n : Nat, i % 26 = n := ⟨(i % 26).toNat, by omega⟩
  have h : n < 26 := by omega
  unfold chr26
  rw [hn]
  have key : ∀ n, n < 26 → ("abcdefghijklmnopqrstuvwxyz" : Str).cps.toList[n]? = some (97 + n) := by decide +kernel
  exact atI_nat (key n h)
theorem chr_low (i : Int) : 97 ≤ chr26 i ∧ chr26 i ≤ 122 := by unfold chr26; omega
def baseL (s : Int) : List Nat := (List.range 8).map fun k : Nat => chr26 (s / 64 + 3 * (k : Int))
theorem base_len (s : Int) : (baseL s).length = 8 := by unfold baseL; simp
theorem base_low (s : Int) : ∀ c ∈ baseL s, 97 ≤ c ∧ c ≤ 122 := fun c hc => by
  obtain ⟨k, _, rfl⟩ := List.mem_map.mp hc
  exact chr_low _
def plN (s : Int) : Nat := (s / 8 % (1 + s % 8)).toNat
def szN (s : Int) : Nat := (1 + s % 8).toNat
theorem pl_lt (s : Int) : plN s < szN s ∧ szN s ≤ 8 ∧ s / 8 % (1 + s % 8) = (plN s : Int) ∧ 1 + s % 8 = (szN s : Int) := by
  have h0 : 0 < 1 + s % 8 := by omega
  have h1 : 0 ≤ s / 8 % (1 + s % 8) := Int.emod_nonneg _ (by omega)
  have h2 : s / 8 % (1 + s % 8) < 1 + s % 8 := Int.emod_lt_of_pos _ h0
  unfold plN szN
  omega
def nameL (s w : Int) : List Nat :=
  if s / 64 % 3 = 1 then (baseL s).take (1 + (w + s) % 3).toNat
  else ((baseL s).take (plN s) ++ [chr26 (s / 64 + 3 * (plN s : Int) + w)]) ++ ((baseL s).drop (plN s + 1)).take (szN s - (plN s + 1))
theorem nameL_ok (s w : Int) : NameOk (mkS (nameL s w)) := by
  have hl : (mkS (nameL s w)).length = (nameL s w).length := by rw [← Txs.len_list]; show (nameL s w).toArray.toList.length = _; simp
  have hc : (mkS (nameL s w)).cps.toList = nameL s w := by show (nameL s w).toArray.toList = _; simp
  have hb := base_len s
  obtain ⟨p1, p2, _, _⟩ := pl_lt s
  refine ⟨?_, ?_, ?_⟩
  · rw [hl]; unfold nameL; split
    · rw [List.length_take]; omega
    · rw [List.length_append, List.length_append]; simp; omega
  · rw [hl]; unfold nameL; split
    · rw [List.length_take]; omega
    · rw [List.length_append, List.length_append, List.length_take, List.length_take, List.length_drop]; simp; omega
  · rw [hc]
    intro c h
    unfold nameL at h
    split at h
    · exact base_low s c (List.mem_of_mem_take h)
    · rcases List.mem_append.mp h with h | h
      · rcases List.mem_append.mp h with h | h
        · exact base_low s c (List.mem_of_mem_take h)
        · rw [List.mem_singleton.mp h]; exact chr_low _
      · exact base_low s c (List.mem_of_mem_drop (List.mem_of_mem_take h))
/-- three unlike names -/
theorem nameL_inj {s : Int} {v w : Nat} (hv : v < 3) (hw : w < 3) (h : nameL s v = nameL s w) : v = w := by
  have hb := base_len s
  obtain ⟨p1, p2, _, _⟩ := pl_lt s
  unfold nameL at h
  split at h
  · have := congrArg List.length h
    rw [List.length_take, List.length_take] at this
    omega
  · have h1 := congrArg (fun l => l[plN s]?) h
    have hl : ((baseL s).take (plN s)).length = plN s := by rw [List.length_take]; omega
    have at_ : ∀ (c : Nat) (r : List Nat), (((baseL s).take (plN s) ++ [c]) ++ r)[plN s]? = some c := fun c r => by
      rw [List.append_assoc, List.getElem?_append_right (by omega), hl, Nat.sub_self]; rfl
    have h1 : (((baseL s).take (plN s) ++ [chr26 (s / 64 + 3 * (plN s : Int) + v)]) ++ _)[plN s]? = (((baseL s).take (plN s) ++ [chr26 (s / 64 + 3 * (plN s : Int) + w)]) ++ _)[plN s]? := h1
    rw [at_, at_] at h1
    have h2 := Option.some.inj h1
    unfold chr26 at h2
    omega
def sp_nameE : Sp3 := fun ys L Q => ∃ s w : Int, ys = [.int s, .int w] ∧ Q (.str (mkS (nameL s w))) L
theorem slice_mid {x : Str} {m n : Nat} (h : m ≤ n) (h2 : n ≤ x.length) : (Txt.slice x (some (m : Int)) (some (n : Int))).cps.toList = (x.cps.toList.drop m).take (n - m) := by
  have e := slice_cps x (some (m : Int)) (some (n : Int))
  rw [HT.sIx_nat, HT.sIx_nat, Nat.min_eq_left h2, Nat.min_eq_left (Nat.le_trans h h2)] at e
  exact e
theorem slice_fst {x : Str} {n : Nat} (h : n ≤ x.length) : (Txt.slice x none (some (n : Int))).cps.toList = x.cps.toList.take n := by
  have e := slice_cps x none (some (n : Int))
  rw [HT.sIx_nat, HT.sIx_none, List.drop_zero, Nat.sub_zero, Nat.min_eq_left h] at e
  exact e
theorem vc_nameE : ∀ ys L Q, sp_nameE ys L Q → run3 t_name71 7 ys L Q := by
  rintro ys L Q ⟨s, w, rfl, q⟩
  have hsz : 0 < 1 + s % 8 := by omega
  refine ⟨(by decide : (0 : Int) < 8), ⟨by decide, by decide⟩, hsz, ⟨by decide, by decide⟩, ?_⟩
  show lcK (intsY 0 8) _ _ _ _ _ _ _ _
  refine lc_rng (m := 8) (fun i zs => zs = ((List.range i).map fun k : Nat => Y.str ⟨#[chr26 (s / 64 + 3 * (k : Int))]⟩)) (by decide) rfl ?_ ?_
  · rintro i _ hi rfl
    have hat := abc_chr (s / 64 + 3 * (0 + (i : Int)))
    refine ⟨⟨by decide, by decide⟩, .inl ⟨by decide, by decide⟩, (by decide : (0 : Int) < 26), by decide +kernel, ?_⟩
    walk_at "w"
    rw [hat]
    refine ⟨_, LSub.refl _, rfl, ?_⟩
    rw [List.range_succ, List.map_append, show (0 : Int) + (i : Int) = (i : Int) by omega]; rfl
  · rintro _ rfl p hp
    have e0 : ((List.range 8).map fun k : Nat => Y.str ⟨#[chr26 (s / 64 + 3 * (k : Int))]⟩) = ((baseL s).map fun c => (⟨#[c]⟩ : Str)).map Y.str := by
      unfold baseL; rw [List.map_map, List.map_map]; rfl
    rw [e0]
    refine lstK_of updL_same ⟨(baseL s).map fun c => (⟨#[c]⟩ : Str), rfl, ?_, ?_⟩
    · have e1 : ∀ cs : List Nat, ((cs.map fun c => (⟨#[c]⟩ : Str)).map (·.length)).sum = cs.length := fun cs => by
        induction cs with
        | nil => rfl
        | cons c r ih => rw [List.map_cons, List.map_cons, List.sum_cons, ih, List.length_cons]; show 1 + r.length = _; omega
      rw [e1, base_len]; show 8 + _ * 0 ≤ _; rw [Nat.mul_zero]; decide
    · have hb := join_one (baseL s)
      have hbl : (Txt.join "" ((baseL s).map fun c => (⟨#[c]⟩ : Str))).length = 8 := by rw [← Txs.len_list, hb, base_len]
      generalize Txt.join "" ((baseL s).map fun c => (⟨#[c]⟩ : Str)) = base at hbl hb
      obtain ⟨p1, p2, hn, hk⟩ := pl_lt s
      refine ⟨⟨by decide, by decide⟩, (by decide : (0 : Int) < 3), ?_⟩
      refine yite_dec (fun c => ?_) fun c => ?_
      · have e : 1 + (w + s) % 3 = ((1 + (w + s) % 3).toNat : Int) := by omega
        refine ⟨(by decide : (0 : Int) < 3), small (by omega), finS (LSub.new hp) ?_⟩
        have es := slice_fst (x := base) (n := (1 + (w + s) % 3).toNat) (by omega)
        have eq : Txt.slice base none (some (1 + (w + s) % 3)) = mkS (nameL s w) := by
          rw [e]
          refine (mkS_cps _).symm.trans ?_
          rw [es, hb]; unfold nameL; rw [if_pos c]
        rw [← eq] at q
        exact q
      · have hat := abc_chr (s / 64 + 3 * (s / 8 % (1 + s % 8)) + w)
        refine ⟨⟨by decide, by decide⟩, .inl ⟨by decide, by decide⟩, (by decide : (0 : Int) < 26), by decide +kernel, ?_⟩
        walk_at "w"
        rw [hat]
        have s1 := slice_fst (x := base) (n := plN s) (by omega)
        have s2 := slice_mid (x := base) (m := plN s + 1) (n := szN s) (by omega) (by omega)
        have l1 : (Txt.slice base none (some (plN s : Int))).length = plN s := by rw [← Txs.len_list, s1, List.length_take, Txs.len_list]; omega
        have l2 : (Txt.slice base (some ((plN s + 1 : Nat) : Int)) (some (szN s : Int))).length ≤ 8 := by rw [← Txs.len_list, s2, List.length_take]; omega
        refine ⟨small (by omega), ?_⟩
        refine ⟨small (by rw [hn, l1]; show plN s + 1 ≤ 1000; omega), ?_⟩
        refine ⟨small (by omega), ?_⟩
        have e1 : ((plN s : Int) + 1) = ((plN s + 1 : Nat) : Int) := by omega
        have l3 : (Txt.slice base none (some (plN s : Int)) ++ (⟨#[chr26 (s / 64 + 3 * (s / 8 % (1 + s % 8)) + w)]⟩ : Str)).length = plN s + 1 := by rw [PySem.Str.length_append, l1]; rfl
        refine ⟨small ?_, finS (LSub.new hp) ?_⟩
        · rw [hn] at l3 ⊢
          rw [l3, e1, hk]; omega
        · have eq : (Txt.slice base none (some (plN s : Int)) ++ (⟨#[chr26 (s / 64 + 3 * (plN s : Int) + w)]⟩ : Str)) ++ Txt.slice base (some ((plN s + 1 : Nat) : Int)) (some (szN s : Int)) = mkS (nameL s w) := by
            refine (mkS_cps _).symm.trans ?_
            have ca : ∀ a b : Str, (a ++ b).cps.toList = a.cps.toList ++ b.cps.toList := fun a b => by show (a.cps ++ b.cps).toList = _; simp
            rw [ca, ca, s1, s2, hb]; unfold nameL; rw [if_neg c]
          rw [hn, e1, hk, eq]
          exact q
end L3

namespace L3
open PySem L2 Words
local macro_rules | `(tactic| walk_at "w") => `(tactic| conv => whnf)
def t_leaves71 (p__law_mix : Sp3) (p__law_name : Sp3) : TS3 := (ySeq (yAsg (yDict [("plain", "turned"), ("turned", "plain")]) (gyName 3))
  (ySeq (yAsg (yLst yNil) (gyName 4))
  (ySeq (yFor (iyEnum (yVar 0)) (gyTup 2 (gyCons (gyName 5) (gyCons (gyName 6) gyNil))) (ySeq (yAsg (yCall p__law_mix (yCons (yVar 6) (yCons (yVar 5) (yCons (yC (.int 48271)) yNil)))) (gyName 7))
  (ySeq (yAsg (yTup (yCons (yPick (yCons (yC (.str "plain")) (yCons (yC (.str "turned")) yNil)) (yOp yMod (yVar 7) (yC (.int 2)))) (yCons (yCall p__law_name (yCons (yVar 1) (yCons (yOp yMod (yOp yFdiv (yVar 7) (yC (.int 2))) (yC (.int 3))) yNil))) yNil))) (gyName 8))
  (ySeq (yDrop (yBL yInsert (yVar 4) (yCons (yOp yMod (yOp yFdiv (yVar 7) (yC (.int 8))) (yOp yAdd (yCB yLen (yCons (yVar 4) yNil)) (yC (.int 1)))) (yCons (yVar 8) yNil))))
  (yIfS (yB (yVar 2)) (yDrop (yBL yInsert (yVar 4) (yCons (yOp yMod (yOp yFdiv (yVar 7) (yC (.int 512))) (yOp yAdd (yCB yLen (yCons (yVar 4) yNil)) (yC (.int 1)))) (yCons (yTup (yCons (yOp yIx (yVar 3) (yOp yIx (yVar 8) (yC (.int 0)))) (yCons (yOp yIx (yVar 8) (yC (.int 1))) yNil))) yNil)))) yNext)))))
  (yRet (yVar 4)))))
/-! ### leaves of three names -/
def lfW (s : Int) (x : Bool × Nat) : Wd := .leaf x.1 (mkS (nameL s (x.2 : Int)))
def lfY (s : Int) (x : Bool × Nat) : Y := encY (lfW s x)
def sidesD : List (Str × Str) := [("plain", "turned"), ("turned", "plain")]
theorem sides_at (t : Bool) : valY (sidesD.map fun p => ((Sum.inr p.1 : Key), Y.str p.2)) (Sum.inr (kL t)) = some (.str (kL (!t))) := by
  cases t <;> exact lookup_valY (by decide +kernel)
def sp_leaves71 : Sp3 := fun ys L Q => ∃ a, ∃ ns : List Int, ∃ s : Int, ∃ e : Bool, ys = [.ref a, .int s, .bl e] ∧ L a = some (.lst (ns.map Y.int)) ∧ ns.length ≤ 62 ∧
  ∀ (p : Addr) (lvs : List (Bool × Nat)), L p = none → lvs.length ≤ 124 → (∀ x ∈ lvs, x.2 < 3) → Q (.ref p) (updL L p (.lst (lvs.map (lfY s))))
theorem ins_map {α β : Type} (f : α → β) (l : List α) (x : α) (n : Nat) : (l.map f).take n ++ f x :: (l.map f).drop n = (l.take n ++ x :: l.drop n).map f := by
  rw [List.map_append, List.map_cons, List.map_take, List.map_drop]
theorem ins_mem {α : Type} {l : List α} {x y : α} {n : Nat} (h : y ∈ l.take n ++ x :: l.drop n) : y = x ∨ y ∈ l := by
  rcases List.mem_append.mp h with h | h
  · exact .inr (List.mem_of_mem_take h)
  · rcases List.mem_cons.mp h with h | h
    · exact .inl h
    · exact .inr (List.mem_of_mem_drop h)
theorem ins_len {α : Type} (l : List α) (x : α) (n : Nat) : (l.take n ++ x :: l.drop n).length = l.length + 1 := by
  rw [List.length_append, List.length_cons, List.length_take, List.length_drop]; omega
theorem vc_leaves71 : ∀ ys L Q, sp_leaves71 ys L Q → run3 (t_leaves71 sp_mix sp_nameE) 9 ys L Q := by
  rintro ys L Q ⟨a, ns, s, e, rfl, ha, h62, q⟩
  intro pd hpd p hp
  have np : L p = none := none_sub (LSub.new hpd) hp
  have nd : pd ≠ p := neL updL_same hp
  have ap : a ≠ p := neL ha np
  have ad : a ≠ pd := neL ha hpd
  have hpd' : ∀ o, updL (updL L pd (dctOf sidesD)) p o pd = some (dctOf sidesD) := fun o => by rw [updL_ne nd]; exact updL_same
  have ha' : ∀ o, updL (updL L pd (dctOf sidesD)) p o a = some (.lst (ns.map Y.int)) := fun o => by rw [updL_ne ap, updL_ne ad]; exact ha
  refine lisK_of (ha' _) fun keep kp => forK_mk ⟨fun i τ L' => ∃ c5 c6 c7 c8, ∃ lvs : List (Bool × Nat), τ = [some (.ref a), some (.int s), some (.bl e), some (.ref pd), some (.ref p), c5, c6, c7, c8] ∧ L' = updL (updL L pd (dctOf sidesD)) p (.lst (lvs.map (lfY s))) ∧ lvs.length ≤ 2 * i ∧ ∀ x ∈ lvs, x.2 < 3, ?_, ?_, ?_, ?_⟩
  · exact ⟨_, _, _, _, [], rfl, rfl, Nat.le_refl _, by simp⟩
  · rintro i τ L' ⟨c5, c6, c7, c8, lvs, rfl, rfl, _⟩
    exact kp _ ((ha' _).trans (ha' _).symm)
  · rintro i y τ L' hy ⟨c5, c6, c7, c8, lvs, rfl, rfl, hl, h3⟩
    obtain ⟨z, ez, rfl⟩ := enumY_at hy
    have hi : i < ns.length := by have := (List.getElem?_eq_some_iff.mp ez).1; rw [List.length_map] at this; exact this
    obtain ⟨c, rfl⟩ : ∃ c, z = Y.int c := by
      rw [List.getElem?_map] at ez
      obtain ⟨w, e1, e2⟩ := Option.map_eq_some_iff.mp ez
      exact ⟨w, e2.symm⟩
    refine ⟨c, (i : Int), 48271, rfl, by omega, by omega, by decide, by decide, fun v h0 h1 => ?_⟩
    obtain ⟨b, eb⟩ := pick_leaf v
    have eb : atI [.str "plain", .str "turned"] (v % 2) = some (Y.str (kL b)) := eb
    refine ⟨(by decide : (0 : Int) < 2), atK_some eb ⟨⟨by decide, by decide⟩, (by decide : (0 : Int) < 3), s, v / 2 % 3, rfl, ?_⟩⟩
    obtain ⟨w, hw⟩ : ∃ w : Nat, v / 2 % 3 = (w : Int) := ⟨(v / 2 % 3).toNat, by omega⟩
    have hw3 : w < 3 := by omega
    have el : Y.tup [.str (kL b), .str (mkS (nameL s (v / 2 % 3)))] = lfY s (b, w) := by rw [hw]; rfl
    have hlen : ((lvs.map (lfY s)).length : Int) = (lvs.length : Int) := by rw [List.length_map]
    refine seqL_of updL_same ⟨⟨by decide, by decide⟩, seqL_of updL_same ⟨(by show (0 : Int) < ((lvs.map (lfY s)).length : Int) + 1; omega), ?_⟩⟩
    have j0 : 0 ≤ v / 8 % (((lvs.map (lfY s)).length : Int) + 1) := Int.emod_nonneg _ (by omega)
    have j1 : v / 8 % (((lvs.map (lfY s)).length : Int) + 1) < ((lvs.map (lfY s)).length : Int) + 1 := Int.emod_lt_of_pos _ (by omega)
    refine lstK_of updL_same ⟨⟨j0, by omega, by rw [List.length_map]; omega⟩, ?_⟩
    rw [updL_updL]
    generalize (v / 8 % (((lvs.map (lfY s)).length : Int) + 1)).toNat = j
    have ei : (lvs.map (lfY s)).take j ++ Y.tup [.str (kL b), .str (mkS (nameL s (v / 2 % 3)))] :: (lvs.map (lfY s)).drop j = (lvs.take j ++ (b, w) :: lvs.drop j).map (lfY s) := by rw [el, ins_map]
    have hl1 := ins_len lvs (b, w) j
    have m1 : ∀ x ∈ lvs.take j ++ (b, w) :: lvs.drop j, x.2 < 3 := fun x hx => by
      rcases ins_mem hx with h | h
      · rw [h]; exact hw3
      · exact h3 x h
    rw [ei]
    generalize hvs : lvs.take j ++ (b, w) :: lvs.drop j = us at hl1 m1
    cases e with
    | false => exact ⟨_, LSub.refl _, _, _, _, _, us, rfl, rfl, by omega, m1⟩
    | true =>
      refine seqL_of updL_same ⟨⟨by decide, by decide⟩, seqL_of updL_same ⟨(by show (0 : Int) < ((us.map (lfY s)).length : Int) + 1; omega), ?_⟩⟩
      have k0 : 0 ≤ v / 512 % (((us.map (lfY s)).length : Int) + 1) := Int.emod_nonneg _ (by omega)
      have k1 : v / 512 % (((us.map (lfY s)).length : Int) + 1) < ((us.map (lfY s)).length : Int) + 1 := Int.emod_lt_of_pos _ (by omega)
      refine dctK_of (hpd' _) (atK_some (sides_at b) ?_)
      refine lstK_of updL_same ⟨⟨k0, by omega, by rw [List.length_map]; omega⟩, ?_⟩
      rw [updL_updL]
      generalize (v / 512 % (((us.map (lfY s)).length : Int) + 1)).toNat = j2
      have el2 : Y.tup [.str (kL (!b)), .str (mkS (nameL s (v / 2 % 3)))] = lfY s (!b, w) := by rw [hw]; rfl
      have ei2 : (us.map (lfY s)).take j2 ++ Y.tup [.str (kL (!b)), .str (mkS (nameL s (v / 2 % 3)))] :: (us.map (lfY s)).drop j2 = (us.take j2 ++ (!b, w) :: us.drop j2).map (lfY s) := by rw [el2, ins_map]
      rw [ei2]
      have hl2 := ins_len us (!b, w) j2
      refine ⟨_, LSub.refl _, _, _, _, _, us.take j2 ++ (!b, w) :: us.drop j2, rfl, rfl, by omega, fun x hx => ?_⟩
      rcases ins_mem hx with h | h
      · rw [h]; exact hw3
      · exact m1 x h
  · rintro τ L' ⟨c5, c6, c7, c8, lvs, rfl, rfl, hl, h3⟩
    rw [enumY_len, List.length_map] at hl
    refine finS ?_ (q p lvs np (by omega) h3)
    exact LSub.put ((LSub.new hpd).trans (LSub.new hp)) updL_same
end L3

namespace L3
open PySem L2 Words
local macro_rules | `(tactic| walk_at "w") => `(tactic| conv => whnf)
def t_due71 (p__law_name : Sp3) : TS3 := (ySeq (yAsg (yC (.int 1)) (gyName 2))
  (ySeq (yFor (iyRng1 (yCons (yC (.int 3)) yNil)) (gyName 3) (ySeq (yAsg (yCall p__law_name (yCons (yVar 1) (yCons (yVar 3) yNil))) (gyName 4))
  (ySeq (yAsg (yCB yLen (yCons (yLC 1 (iyList (yVar 0)) (gyName 8) (yB (yOp (yEq false) (yVar 8) (yTup (yCons (yC (.str "plain")) (yCons (yVar 4) yNil))))) (yVar 8)) yNil)) (gyName 5))
  (ySeq (yAsg (yCB yLen (yCons (yLC 1 (iyList (yVar 0)) (gyName 8) (yB (yOp (yEq false) (yVar 8) (yTup (yCons (yC (.str "turned")) (yCons (yVar 4) yNil))))) (yVar 8)) yNil)) (gyName 6))
  (ySeq (yIfS (yB (yOp (yEq true) (yVar 5) (yVar 6))) (yRet (yC (.int 0))) yNext)
  (yFor (iyRng1 (yCons (yVar 5) yNil)) (gyName 7) (yAsg (yOp yMul (yVar 2) (yOp yAdd (yVar 7) (yC (.int 1)))) (gyName 2))))))))
  (yRet (yVar 2))))
/-! ### what is due -/
def factN : Nat → Nat
  | 0 => 1
  | n + 1 => factN n * (n + 1)
def prodTo (lvs : List (Bool × Nat)) : Nat → Nat
  | 0 => 1
  | i + 1 => prodTo lvs i * factN (lvs.count (false, i))
def EvenTo (lvs : List (Bool × Nat)) (i : Nat) : Prop := ∀ w, w < i → lvs.count (false, w) = lvs.count (true, w)
/-- the number that is due: n -/
def Due (lvs : List (Bool × Nat)) (n : Nat) : Prop := (EvenTo lvs 3 ∧ n = prodTo lvs 3) ∨ (¬ EvenTo lvs 3 ∧ n = 0)
theorem leaf_eq (t t' : Bool) (n n' : Str) : Da.eq (enc (.leaf t n)) (enc (.leaf t' n')) = (decide (t = t') && decide (n = n')) := by
  by_cases h : n = n'
  · subst h; cases t <;> cases t' <;> simp [enc, Da.eq, Da.eqs, eqV, kL] <;> decide +kernel
  · cases t <;> cases t' <;> simp [enc, Da.eq, Da.eqs, eqV, kL, h] <;> decide +kernel
theorem name_eq {s : Int} {v w : Nat} (hv : v < 3) (hw : w < 3) : decide (mkS (nameL s (v : Int)) = mkS (nameL s (w : Int))) = decide (v = w) := by
  by_cases h : v = w
  · subst h; simp
  · rw [decide_eq_false h]
    apply decide_eq_false
    intro e
    refine h (nameL_inj (s := s) hv hw ?_)
    have := congrArg (fun x : Str => x.cps.toList) e
    simpa [mkS] using this
theorem lf_eq {s : Int} {x : Bool × Nat} {t : Bool} {i : Nat} (hx : x.2 < 3) (hi : i < 3) : Da.eq (enc (lfW s x)) (enc (.leaf t (mkS (nameL s (i : Int))))) = decide (x = (t, i)) := by
  obtain ⟨u, v⟩ := x
  show Da.eq (enc (.leaf u _)) _ = _
  rw [leaf_eq, name_eq hx hi]
  by_cases h1 : u = t <;> by_cases h2 : v = i <;> simp [h1, h2]
def sp_due71 : Sp3 := fun ys L Q => ∃ a, ∃ s : Int, ∃ lvs : List (Bool × Nat), ys = [.ref a, .int s] ∧ L a = some (.lst (lvs.map (lfY s))) ∧ lvs.length ≤ 124 ∧ (∀ x ∈ lvs, x.2 < 3) ∧ ∀ n, Due lvs n → Q (.int (n : Int)) L
/-- the leaves that are such a one, counted -/
theorem cnt_lc {L1 : LHp} {a : Addr} {s : Int} {lvs : List (Bool × Nat)} {t : Bool} {i k : Nat} {τ : St3} {Q : YK} {tc : TT3} (ha : L1 a = some (.lst (lvs.map (lfY s)))) (h3 : ∀ x ∈ lvs, x.2 < 3) (hi : i < 3) (hlen : lvs.length ≤ 124)
    (ht : ∀ y (Q' : Bool → LHp → Prop), yEq false y (encY (.leaf t (mkS (nameL s (i : Int))))) L1 (fun x L' => match x with | .bl c => Q' c L' | _ => False) → tc (set3 (τ ++ List.replicate 1 none) k y) L1 Q')
    (hv : ∀ y, get3 (set3 (τ ++ List.replicate 1 none) k y) k = some y)
    (hq : ∀ zs p, zs.length = lvs.count (t, i) → L1 p = none → Q (.ref p) (updL L1 p (.lst zs))) :
    lisK L1 a fun ys keep L2 => lcK ys keep 1 (gyName k) tc (yVar k) τ L2 Q := by
  refine lisK_of ha fun keep kp => lc_inv (fun j zs => zs.length = (lvs.take j).count (t, i)) (by rw [List.length_map]; exact Nat.lt_of_le_of_lt hlen (by decide)) (kp L1 rfl) rfl ?_ ?_
  · rintro j y zs ey hz
    obtain ⟨x, ex, rfl⟩ : ∃ x, lvs[j]? = some x ∧ y = lfY s x := by
      rw [List.getElem?_map] at ey
      obtain ⟨x, e1, e2⟩ := Option.map_eq_some_iff.mp ey
      exact ⟨x, e1, e2.symm⟩
    have hx := h3 x (List.mem_of_getElem? ex)
    refine ht _ _ (yEq_word (u := lfW s x) (by show 1 ≤ 128; decide) ?_)
    show yite (Da.eq (enc (lfW s x)) (enc (.leaf t (mkS (nameL s (i : Int)))))) _ _
    rw [lf_eq hx hi]
    refine yite_dec (fun h => ?_) fun h => ?_
    · unfold yVar
      rw [hv]
      refine frg ⟨rfl, ?_⟩
      rw [List.length_append, hz, List.take_succ, ex, List.count_append, h]; simp
    · refine frg ⟨rfl, ?_⟩
      rw [hz, List.take_succ, ex, List.count_append]
      have : [x].count (t, i) = 0 := by rw [List.count_singleton, if_neg (by simpa using h)]
      show _ = _ + [x].count (t, i)
      rw [this, Nat.add_zero]
  · intro zs hz p hp
    rw [List.length_map, List.take_length] at hz
    exact hq zs p hz hp
theorem vc_due71 : ∀ ys L Q, sp_due71 ys L Q → run3 (t_due71 sp_nameE) 8 ys L Q := by
  rintro ys L Q ⟨a, s, lvs, rfl, ha, hlen, h3, q⟩
  refine ⟨⟨by decide, by decide⟩, ?_⟩
  show forK (intsY 0 3) _ _ _ _ _ _
  refine for_rng (fun i τ L' => ∃ c3 c4 c5 c6 c7, τ = [some (.ref a), some (.int s), some (.int (prodTo lvs i : Nat)), c3, c4, c5, c6, c7] ∧ L' = L ∧ EvenTo lvs i) ⟨_, _, _, _, _, rfl, rfl, fun w h => absurd h (by omega)⟩ ?_ ?_
  · rintro i τ L' hi ⟨c3, c4, c5, c6, c7, rfl, rfl, hev⟩
    have ei : (0 : Int) + (i : Int) = (i : Int) := by omega
    refine ⟨s, 0 + (i : Int), rfl, ?_⟩
    rw [ei]
    refine cnt_lc (t := false) (i := i) (k := 8) ha h3 hi hlen (fun y Q' h => h) (fun y => rfl) fun z1 p1 e1 hp1 => ?_
    refine seqL_of updL_same ?_
    have ha1 := LSub.new (o := .lst z1) hp1 _ _ ha
    refine cnt_lc (t := true) (i := i) (k := 8) ha1 h3 hi hlen (fun y Q' h => h) (fun y => rfl) fun z2 p2 e2 hp2 => ?_
    refine seqL_of updL_same ?_
    have s2 : LSub L' (updL (updL L' p1 (.lst z1)) p2 (.lst z2)) := (LSub.new hp1).trans (LSub.new hp2)
    rw [e1, e2]
    have hc := List.count_le_length (a := (false, i)) (l := lvs)
    by_cases h : lvs.count (false, i) = lvs.count (true, i)
    · refine yite_F (by show (!decide (((lvs.count (false, i) : Nat) : Int) = ((lvs.count (true, i) : Nat) : Int))) = false; rw [h, decide_eq_true rfl]; rfl) ?_
      refine ⟨⟨by omega, by omega⟩, ?_⟩
      rw [show ((lvs.count (false, i) : Nat) : Int).toNat = lvs.count (false, i) from rfl]
      refine for_rng (fun k τ L'' => ∃ c7, τ = [some (.ref a), some (.int s), some (.int ((prodTo lvs i * factN k : Nat) : Int)), some (.int (i : Int)), some (.str (mkS (nameL s (i : Int)))), some (.int ((lvs.count (false, i) : Nat) : Int)), some (.int ((lvs.count (true, i) : Nat) : Int)), c7] ∧ L'' = updL (updL L' p1 (.lst z1)) p2 (.lst z2)) ⟨_, by rw [factN, Nat.mul_one, ← ei]; rfl, rfl⟩ ?_ ?_
      · rintro k τ L'' hk ⟨c7, rfl, rfl⟩
        refine ⟨.inr ⟨by omega, by omega⟩, ?_⟩
        refine ⟨_, LSub.refl _, some (.int (0 + (k : Int))), ?_, rfl⟩
        have e : ((prodTo lvs i * factN k : Nat) : Int) * (0 + (k : Int) + 1) = ((prodTo lvs i * factN (k + 1) : Nat) : Int) := by
          rw [factN, ← Nat.mul_assoc]
          rw [Int.natCast_mul (prodTo lvs i * factN k) (k + 1)]
          congr 1; omega
        rw [← e]; rfl
      · rintro τ L'' ⟨c7, rfl, rfl⟩
        refine ⟨_, s2, _, _, _, _, _, rfl, rfl, fun w hw => ?_⟩
        by_cases e : w = i
        · subst e; exact h
        · exact hev w (by omega)
    · refine yite_T (by show (!decide (((lvs.count (false, i) : Nat) : Int) = ((lvs.count (true, i) : Nat) : Int))) = true; rw [decide_eq_false (by omega)]; rfl) ?_
      refine finS s2 (q 0 (.inr ⟨fun hev3 => h (hev3 i hi), rfl⟩))
  · rintro τ L' ⟨c3, c4, c5, c6, c7, rfl, rfl, hev⟩
    exact fin (q _ (.inl ⟨hev, rfl⟩))
end L3

namespace L3
open PySem L2 Words
local macro_rules | `(tactic| walk_at "w") => `(tactic| conv => whnf)
def t_law71 (p__law_leaves : Sp3) (p__law_name : Sp3) (p_tries_due : Sp3) (p__law_due : Sp3) : TS3 := (ySeq (yAsg (yOp yMod (yOp yIx (yOp yAddQ (yVar 0) (yLst (yCons (yC (.int 0)) yNil))) (yC (.int 0))) (yOp yPow (yC (.int 10)) (yC (.int 9)))) (gyName 1))
  (ySeq (yAsg (yCall p__law_leaves (yCons (ySl ySlU (yVar 0) (yPart (yC (.int 1))) (yPart (yC (.int 63)))) (yCons (yVar 1) (yCons (yOp yGt (yOp yMod (yVar 1) (yC (.int 3))) (yC (.int 0))) yNil)))) (gyName 2))
  (ySeqJ (yIfS (yAnd (yB (yOp (yEq false) (yOp yMod (yVar 1) (yC (.int 3))) (yC (.int 2)))) (yB (yOp (yEq true) (yVar 2) (yLst yNil)))) (yDrop (yBL yPopAt (yVar 2) (yCons (yOp yMod (yOp yFdiv (yVar 1) (yC (.int 9))) (yCB yLen (yCons (yVar 2) yNil))) yNil))) yNext)
  (ySeqJ (yIfS (yB (yOp (yEq false) (yVar 2) (yLst yNil))) (yAsg (yLst (yCons (yTup (yCons (yC (.str "plain")) (yCons (yCall p__law_name (yCons (yVar 1) (yCons (yC (.int 1)) yNil))) yNil))) yNil)) (gyName 2)) yNext)
  (ySeq (yAsg (yCB yListOf (yCons (yVar 2) yNil)) (gyName 3))
  (ySeq (yFor (iyRng1 (yCons (yOp yMod (yOp yFdiv (yVar 1) (yC (.int 3))) (yC (.int 4))) yNil)) (gyName 4) (ySeq (yAsg (yLC 1 (iyRng1 (yCons (yOp yFdiv (yCB yLen (yCons (yVar 3) yNil)) (yC (.int 2))) yNil)) (gyName 7) yYes (yTup (yCons (yOp yIx (yLst (yCons (yC (.str "both")) (yCons (yC (.str "either")) yNil))) (yOp yMod (yOp yAdd (yVar 7) (yVar 4)) (yC (.int 2)))) (yCons (yOp yIx (yVar 3) (yOp yMul (yC (.int 2)) (yVar 7))) (yCons (yOp yIx (yVar 3) (yOp yAdd (yOp yMul (yC (.int 2)) (yVar 7)) (yC (.int 1)))) yNil))))) (gyName 5))
  (yAsg (yOp yAdd (yVar 5) (ySl ySlU (yVar 3) (yPart (yOp yMul (yC (.int 2)) (yCB yLen (yCons (yVar 5) yNil)))) yNoPart)) (gyName 3))))
  (ySeq (yAsg (yCall p_tries_due (yCons (yVar 3) yNil)) (gyName 6))
  (yRet (yAndV (yInst .int (yVar 6)) (yAndV (yNotV (yInst .bool (yVar 6))) (yOp (yEq false) (yVar 6) (yCall p__law_due (yCons (yVar 2) (yCons (yVar 1) yNil))))))))))))))
/-! ### ways to link, by the leaves -/
def isLf (t : Bool) (x : Str) : Wd → Bool
  | .leaf u y => decide (u = t) && decide (y = x)
  | _ => false
def cntL (ls : List Wd) (t : Bool) (x : Str) : Nat := ls.countP (isLf t x)
def nmOf : Wd → Str
  | .leaf _ n => n
  | _ => ""
def EvenAll (ls : List Wd) : Prop := ∀ x, cntL ls false x = cntL ls true x
/-- n ways -/
def TriesR (ls : List Wd) (n : Nat) : Prop :=
  (EvenAll ls ∧ ∀ nms : List Str, nms.Nodup → (∀ w ∈ ls, nmOf w ∈ nms) → n = (nms.map fun x => factN (cntL ls false x)).prod) ∨ (¬ EvenAll ls ∧ n = 0)
def LV (ws : List Wd) : List Wd := ws.flatMap Wd.leafL
theorem LV_app (a b : List Wd) : LV (a ++ b) = LV a ++ LV b := by unfold LV; rw [List.flatMap_append]
theorem LV_leaves (s : Int) (lvs : List (Bool × Nat)) : LV (lvs.map (lfW s)) = lvs.map (lfW s) := by
  induction lvs with
  | nil => rfl
  | cons x r ih => rw [List.map_cons, LV, List.flatMap_cons]; show [lfW s x] ++ LV (r.map (lfW s)) = _; rw [ih]; rfl
theorem cnt_lf {s : Int} {t : Bool} {w : Nat} (hw : w < 3) : ∀ {lvs : List (Bool × Nat)}, (∀ x ∈ lvs, x.2 < 3) → cntL (lvs.map (lfW s)) t (mkS (nameL s (w : Int))) = lvs.count (t, w)
  | [], _ => rfl
  | x :: r, h => by
    have ih := cnt_lf (s := s) (t := t) hw (lvs := r) fun y hy => h y (List.mem_cons_of_mem _ hy)
    have hx := h x (List.mem_cons_self ..)
    obtain ⟨u, v⟩ := x
    have hx : v < 3 := hx
    unfold cntL at ih ⊢
    rw [List.map_cons, List.countP_cons, ih, List.count_cons]
    have e : isLf t (mkS (nameL s (w : Int))) (lfW s (u, v)) = ((u, v) == (t, w)) := by
      show (decide (u = t) && decide (mkS (nameL s (v : Int)) = mkS (nameL s (w : Int)))) = _
      rw [name_eq hx hw]
      by_cases h1 : u = t <;> by_cases h2 : v = w <;> simp [h1, h2]
    rw [e]
theorem cnt_out {s : Int} {t : Bool} {x : Str} : ∀ {lvs : List (Bool × Nat)}, (∀ y ∈ lvs, y.2 < 3) → (∀ w : Nat, w < 3 → x ≠ mkS (nameL s (w : Int))) → cntL (lvs.map (lfW s)) t x = 0
  | [], _, _ => rfl
  | y :: r, h, k => by
    have ih := cnt_out (s := s) (t := t) (lvs := r) (fun z hz => h z (List.mem_cons_of_mem _ hz)) k
    have hy := h y (List.mem_cons_self ..)
    obtain ⟨u, v⟩ := y
    unfold cntL at ih ⊢
    rw [List.map_cons, List.countP_cons, ih]
    have e : isLf t x (lfW s (u, v)) = false := by
      show (decide (u = t) && decide (mkS (nameL s (v : Int)) = x)) = false
      have e2 : decide (mkS (nameL s (v : Int)) = x) = false := decide_eq_false fun z => k v hy z.symm
      rw [e2]; simp
    rw [e]; rfl
theorem even_iff {s : Int} {lvs : List (Bool × Nat)} (h3 : ∀ x ∈ lvs, x.2 < 3) : EvenAll (lvs.map (lfW s)) ↔ EvenTo lvs 3 := by
  constructor
  · intro h w hw
    have := h (mkS (nameL s (w : Int)))
    rwa [cnt_lf hw h3, cnt_lf hw h3] at this
  · intro h x
    by_cases c : ∃ w : Nat, w < 3 ∧ x = mkS (nameL s (w : Int))
    · obtain ⟨w, hw, rfl⟩ := c
      rw [cnt_lf hw h3, cnt_lf hw h3]; exact h w hw
    · have k : ∀ w : Nat, w < 3 → x ≠ mkS (nameL s (w : Int)) := fun w hw e => c ⟨w, hw, e⟩
      rw [cnt_out h3 k, cnt_out h3 k]
theorem mk_inj {s : Int} {v w : Nat} (hv : v < 3) (hw : w < 3) (e : mkS (nameL s (v : Int)) = mkS (nameL s (w : Int))) : v = w := by
  have := name_eq (s := s) hv hw
  rw [decide_eq_true e] at this
  exact of_decide_eq_true this.symm
theorem tries_due_eq {s : Int} {lvs : List (Bool × Nat)} {n m : Nat} (h3 : ∀ x ∈ lvs, x.2 < 3) (h : TriesR (lvs.map (lfW s)) n) (d : Due lvs m) : n = m := by
  rcases h with ⟨he, h⟩ | ⟨he, rfl⟩
  · rw [even_iff h3] at he
    rcases d with ⟨_, rfl⟩ | ⟨ne, _⟩
    · have := h [mkS (nameL s ((0 : Nat) : Int)), mkS (nameL s ((1 : Nat) : Int)), mkS (nameL s ((2 : Nat) : Int))] ?_ ?_
      · rw [this]
        simp only [List.map_cons, List.map_nil, List.prod_cons, List.prod_nil, Nat.mul_one]
        rw [cnt_lf (by decide) h3, cnt_lf (by decide) h3, cnt_lf (by decide) h3]
        show _ = ((1 * _) * _) * _
        rw [Nat.one_mul, Nat.mul_assoc]
      · have i01 : mkS (nameL s ((0 : Nat) : Int)) ≠ mkS (nameL s ((1 : Nat) : Int)) := fun e => absurd (mk_inj (by decide) (by decide) e) (by decide)
        have i02 : mkS (nameL s ((0 : Nat) : Int)) ≠ mkS (nameL s ((2 : Nat) : Int)) := fun e => absurd (mk_inj (by decide) (by decide) e) (by decide)
        have i12 : mkS (nameL s ((1 : Nat) : Int)) ≠ mkS (nameL s ((2 : Nat) : Int)) := fun e => absurd (mk_inj (by decide) (by decide) e) (by decide)
        refine List.nodup_cons.mpr ⟨?_, List.nodup_cons.mpr ⟨?_, List.nodup_cons.mpr ⟨by simp, List.nodup_nil⟩⟩⟩
        · intro z
          rcases List.mem_cons.mp z with z | z
          · exact i01 z
          · exact i02 (List.mem_singleton.mp z)
        · intro z; exact i12 (List.mem_singleton.mp z)
      · intro w hw
        obtain ⟨x, hx, rfl⟩ := List.mem_map.mp hw
        have := h3 x hx
        obtain ⟨u, v⟩ := x
        show mkS (nameL s (v : Int)) ∈ _
        have : v = 0 ∨ v = 1 ∨ v = 2 := by have : v < 3 := this; omega
        rcases this with rfl | rfl | rfl
        · exact List.mem_cons_self ..
        · exact List.mem_cons_of_mem _ (List.mem_cons_self ..)
        · exact List.mem_cons_of_mem _ (List.mem_cons_of_mem _ (List.mem_cons_self ..))
    · exact absurd he ne
  · rcases d with ⟨e, _⟩ | ⟨_, rfl⟩
    · exact absurd ((even_iff h3).mpr e) he
    · rfl
def sp_tries : Sp3 := fun ys L Q => ∃ a, ∃ ws : List Wd, ys = [.ref a] ∧ L a = some (.lst (ws.map encY)) ∧ ws.length ≤ 124 ∧ (∀ w ∈ ws, w.ok ∧ w.depth ≤ 4) ∧ (LV ws).length ≤ 124 ∧ ∀ n, TriesR (LV ws) n → Q (.int ((n : Nat) : Int)) L
theorem cut163 (ns : List Int) (h : ns.length ≤ 63) : ∃ ms : List Int, cutY (ns.map Y.int) (some 1) (some 63) = ms.map Y.int ∧ ms.length ≤ 62 := by
  refine ⟨(ns.drop 1).take 62, ?_, by rw [List.length_take]; omega⟩
  unfold cutY
  have e1 : HT.sIx (ns.map Y.int).length 0 (some 1) = min 1 (ns.map Y.int).length := HT.sIx_nat _ _ 1
  have e2 : HT.sIx (ns.map Y.int).length (ns.map Y.int).length (some 63) = min 63 (ns.map Y.int).length := HT.sIx_nat _ _ 63
  rw [e1, e2, List.map_take, List.map_drop]
  rw [List.length_map]
  by_cases c : 1 ≤ ns.length
  · rw [Nat.min_eq_left c, Nat.min_eq_right (by omega)]
    rw [List.take_of_length_le (by rw [List.length_drop, List.length_map]; omega), List.take_of_length_le (by rw [List.length_drop, List.length_map]; omega)]
  · have : ns = [] := List.length_eq_zero_iff.mp (by omega)
    subst this; rfl
end L3

namespace L3
open PySem L2 Words
local macro_rules | `(tactic| walk_at "w") => `(tactic| conv => whnf)
theorem lf_map (s : Int) (lvs : List (Bool × Nat)) : lvs.map (lfY s) = (lvs.map (lfW s)).map encY := by rw [List.map_map]; rfl
theorem lf_dat {L : LHp} {a : Addr} {s : Int} {lvs : List (Bool × Nat)} (h : L a = some (.lst (lvs.map (lfY s)))) : DatN L 2 (.ref a) (.lst ((lvs.map (lfW s)).map enc)) := by
  rw [lf_map] at h
  exact datN_list h (datN_encs (n := 1) fun w hw => by obtain ⟨x, _, rfl⟩ := List.mem_map.mp hw; exact Nat.le_refl _)
theorem nil_dat {L : LHp} {a : Addr} (h : L a = some (.lst [])) : DatN L 1 (.ref a) (.lst []) := datN_list h (.nil : Paired (DatN _ 0) _ [])
theorem erase_map {α β : Type} (f : α → β) : ∀ (l : List α) (n : Nat), (l.map f).eraseIdx n = (l.eraseIdx n).map f
  | [], n => by simp
  | _ :: _, 0 => rfl
  | x :: r, n + 1 => by rw [List.map_cons, List.eraseIdx_cons_succ, List.eraseIdx_cons_succ, List.map_cons, erase_map f r n]
theorem LV_two (ws : List Wd) (i : Nat) (x y : Wd) (hx : ws[2 * i]? = some x) (hy : ws[2 * i + 1]? = some y) : LV (ws.take (2 * (i + 1))) = LV (ws.take (2 * i)) ++ (x.leafL ++ y.leafL) := by
  have e : 2 * (i + 1) = 2 * i + 1 + 1 := by omega
  rw [e, List.take_succ, hy, List.take_succ, hx, LV_app, LV_app]
  simp [LV]
theorem vc_law71 : ∀ ys L Q, sp_law ys L Q → run3 (t_law71 sp_leaves71 sp_nameE sp_tries sp_due71) 7 ys L Q := by
  rintro ys L Q ⟨ns, rfl, h63, rfl, q⟩
  intro p0 hp0
  refine seqL_of updL_same ⟨rfl, rfl, small (by rw [List.length_map]; show ns.length + 1 ≤ 1000; omega), fun p hp => ?_⟩
  obtain ⟨c, ec⟩ : ∃ c : Int, atI (ns.map Y.int ++ [Y.int 0]) 0 = some (Y.int c) := by
    cases ns with
    | nil => exact ⟨0, rfl⟩
    | cons a r => exact ⟨a, atI_nat (j := 0) rfl⟩
  refine seqL_of updL_same (atK_some ec ⟨⟨by decide, by decide, by decide⟩, (by decide : (0 : Int) < 10 ^ (9 : Int).toNat), ?_⟩)
  show gyName 1 (Y.int (c % (10 : Int) ^ (9 : Int).toNat)) _ _ _
  generalize c % (10 : Int) ^ (9 : Int).toNat = s
  generalize updL (updL _ p0 _) p _ = L1
  clear hp hp0 ec
  obtain ⟨ms, ems, hms⟩ := cut163 ns h63
  intro pm hpm
  rw [ems]
  refine ⟨(by decide : (0 : Int) < 3), pm, ms, s, decide (0 < s % 3), rfl, updL_same, hms, fun p lvs hp hl h3 => ?_⟩
  have hlv : updL (updL L1 pm (.lst (ms.map Y.int))) p (.lst (lvs.map (lfY s))) p = some (.lst (lvs.map (lfY s))) := updL_same
  generalize updL (updL L1 pm (.lst (ms.map Y.int))) p (.lst (lvs.map (lfY s))) = L2 at hlv
  clear hp hpm
  refine ⟨fun τ' L' => ∃ lvs : List (Bool × Nat), τ' = [some (.sq (ns.map Y.int)), some (.int s), some (.ref p), none, none, none, none] ∧ L' p = some (.lst (lvs.map (lfY s))) ∧ lvs.length ≤ 124 ∧ ∀ x ∈ lvs, x.2 < 3, ?_, ?_⟩
  · refine ⟨(by decide : (0 : Int) < 3), ?_⟩
    refine yite_dec (fun h1 => ?_) fun h1 => ⟨lvs, rfl, hlv, hl, h3⟩
    intro pe hpe
    have hlv' := LSub.new (o := .lst []) hpe _ _ hlv
    refine ⟨rfl, rfl, 2, 1, _, _, by decide, lf_dat hlv', nil_dat updL_same, ?_⟩
    cases lvs with
    | nil => exact ⟨[], rfl, hlv', by simp, by simp⟩
    | cons x r =>
      have et : nb true (Da.eq (.lst (((x :: r).map (lfW s)).map enc)) (.lst [])) = true := rfl
      refine yite_T et ?_
      obtain ⟨us, hxr⟩ : ∃ us, us = x :: r := ⟨_, rfl⟩
      rw [← hxr] at hlv' hl h3
      have hpos : 0 < us.length := by rw [hxr]; simp
      refine seqL_of hlv' ⟨⟨by decide, by decide⟩, seqL_of hlv' ⟨(by show (0 : Int) < ((us.map (lfY s)).length : Int); rw [List.length_map]; omega), ?_⟩⟩
      have j0 : 0 ≤ s / 9 % ((us.map (lfY s)).length : Int) := Int.emod_nonneg _ (by rw [List.length_map]; omega)
      have j1 : s / 9 % ((us.map (lfY s)).length : Int) < ((us.map (lfY s)).length : Int) := Int.emod_lt_of_pos _ (by rw [List.length_map]; omega)
      refine lstK_of hlv' ⟨j0, j1, ?_⟩
      generalize hj : (s / 9 % ((us.map (lfY s)).length : Int)).toNat = j
      obtain ⟨y, ey⟩ : ∃ y, (us.map (lfY s))[j]? = some y := ⟨_, List.getElem?_eq_getElem (by omega)⟩
      refine atK_some ey ?_
      refine ⟨us.eraseIdx j, rfl, ?_, ?_, ?_⟩
      · rw [updL_same, erase_map]
      · have := List.length_eraseIdx_le us j; omega
      · exact fun z hz => h3 z (List.mem_of_mem_eraseIdx hz)
  rintro τ' L' ⟨lvs, rfl, hlv, hl, h3⟩
  refine ⟨fun τ' L' => ∃ p2, ∃ lvs : List (Bool × Nat), τ' = [some (.sq (ns.map Y.int)), some (.int s), some (.ref p2), none, none, none, none] ∧ L' p2 = some (.lst (lvs.map (lfY s))) ∧ lvs.length ≤ 124 ∧ ∀ x ∈ lvs, x.2 < 3, ?_, ?_⟩
  · intro pe hpe
    have hlv' := LSub.new (o := .lst []) hpe _ _ hlv
    refine ⟨rfl, rfl, 2, 1, _, _, by decide, lf_dat hlv', nil_dat updL_same, ?_⟩
    cases lvs with
    | nil => exact ⟨s, 1, rfl, fun pn hpn => ⟨pn, [(false, 1)], rfl, updL_same, by simp, by simp⟩⟩
    | cons x r => exact ⟨p, x :: r, rfl, hlv', hl, h3⟩
  rintro τ' L' ⟨p2, lvs, rfl, hlv, hl, h3⟩
  refine seqL_of hlv fun pw hpw => ?_
  have hlv3 := LSub.new (o := .lst (lvs.map (lfY s))) hpw _ _ hlv
  have hw3 : updL L' pw (.lst (lvs.map (lfY s))) pw = some (.lst ((lvs.map (lfW s)).map encY)) := by rw [updL_same, lf_map]
  generalize updL L' pw (.lst (lvs.map (lfY s))) = L3 at hlv3 hw3
  clear hpw
  refine ⟨⟨by decide, by decide⟩, (by decide : (0 : Int) < 4), ⟨by omega, by omega⟩, ?_⟩
  have hm : (s / 3 % 4).toNat ≤ 3 := by omega
  show forK (intsY 0 (s / 3 % 4).toNat) _ _ _ _ _ _
  generalize (s / 3 % 4).toNat = m at hm
  refine for_rng (fun i τ L' => ∃ pw c4 c5, ∃ ws : List Wd, τ = [some (.sq (ns.map Y.int)), some (.int s), some (.ref p2), some (.ref pw), c4, c5, none] ∧ L' p2 = some (.lst (lvs.map (lfY s))) ∧ L' pw = some (.lst (ws.map encY)) ∧ ws.length ≤ 124 ∧ LV ws = lvs.map (lfW s) ∧ ∀ w ∈ ws, w.ok ∧ w.depth ≤ i + 1) ?_ ?_ ?_
  · refine ⟨pw, _, _, lvs.map (lfW s), rfl, hlv3, hw3, by rw [List.length_map]; exact hl, LV_leaves s lvs, fun w hw => ?_⟩
    obtain ⟨x, _, rfl⟩ := List.mem_map.mp hw
    exact ⟨nameL_ok s _, Nat.le_refl _⟩
  · rintro i τ L' hi ⟨pw, c4, c5, ws, rfl, hlv, hw, hwl, hLV, hok⟩
    refine seqL_of hw ⟨⟨by decide, by decide⟩, by rw [List.length_map]; omega, ?_⟩
    have hn : (((ws.map encY).length : Int) / 2).toNat = ws.length / 2 := by rw [List.length_map]; omega
    rw [hn]
    refine lc_rng (m := ws.length / 2) (fun j zs => ∃ us : List Wd, zs = us.map encY ∧ us.length = j ∧ LV us = LV (ws.take (2 * j)) ∧ ∀ w ∈ us, w.ok ∧ w.depth ≤ i + 2) (small1000 (by omega)) ⟨[], rfl, rfl, rfl, by simp⟩ ?_ ?_
    · rintro j _ hlt ⟨us, rfl, hul, huv, huo⟩
      obtain ⟨u0, eu0⟩ : ∃ u0, ws[2 * j]? = some u0 := ⟨_, List.getElem?_eq_getElem (by omega)⟩
      obtain ⟨u1, eu1⟩ : ∃ u1, ws[2 * j + 1]? = some u1 := ⟨_, List.getElem?_eq_getElem (by omega)⟩
      obtain ⟨bb, hbb⟩ := pick_node (0 + (j : Int) + (0 + (i : Int)))
      have hbb : atI [.str "both", .str "either"] ((0 + (j : Int) + (0 + (i : Int))) % 2) = some (Y.str (kN bb)) := hbb
      have e0 : (2 * (0 + (j : Int))) = ((2 * j : Nat) : Int) := by omega
      have e1 : (2 * (0 + (j : Int)) + 1) = ((2 * j + 1 : Nat) : Int) := by omega
      have a0 : atI (ws.map encY) (2 * (0 + (j : Int))) = some (encY u0) := by rw [e0]; exact atI_map eu0
      have a1 : atI (ws.map encY) (2 * (0 + (j : Int)) + 1) = some (encY u1) := by rw [e1]; exact atI_map eu1
      intro pb hpb
      have hw' := LSub.new (o := .lst [.str "both", .str "either"]) hpb _ _ hw
      refine ⟨(by decide : (0 : Int) < 2), seqL_of updL_same (atK_some hbb ⟨.inl ⟨by decide, by decide⟩, seqL_of hw' (atK_some a0 ⟨.inl ⟨by decide, by decide⟩, seqL_of hw' (atK_some a1 ⟨_, LSub.new hpb, rfl, us ++ [.node bb u0 u1], ?_, ?_, ?_, ?_⟩)⟩)⟩)⟩
      · rw [List.map_append]; rfl
      · rw [List.length_append, List.length_singleton, hul]
      · rw [LV_app, LV_two ws j u0 u1 eu0 eu1, huv]
        simp [LV, Wd.leafL]
      · intro w hwm
        rcases List.mem_append.mp hwm with z | z
        · exact huo w z
        · rw [List.mem_singleton.mp z]
          have q0 := hok _ (List.mem_of_getElem? eu0); have q1 := hok _ (List.mem_of_getElem? eu1)
          refine ⟨⟨q0.1, q1.1⟩, ?_⟩
          show max u0.depth u1.depth + 1 ≤ i + 2
          have := q0.2; have := q1.2; omega
    · rintro _ ⟨us, rfl, hul, huv, huo⟩ D hD
      have hwD := LSub.new (o := .lst (us.map encY)) hD _ _ hw
      refine seqL_of updL_same ⟨.inl ⟨by decide, by decide⟩, lstK_of hwD fun p3 hp3 => ?_⟩
      have e2 : (2 * ((us.map encY).length : Int)) = ((2 * (ws.length / 2) : Nat) : Int) := by rw [List.length_map]; omega
      rw [e2, cutY_from]
      refine ⟨_, _, LSub.new hp3 _ _ updL_same, updL_same, small ?_, fun p4 hp4 => ?_⟩
      · rw [List.length_map, List.length_drop, List.length_map]; omega
      · refine ⟨_, LSub.refl _, p4, _, _, us ++ ws.drop (2 * (ws.length / 2)), rfl, ?_, ?_, ?_, ?_, ?_⟩
        · exact ((LSub.new hD).trans ((LSub.new hp3).trans (LSub.new hp4))) _ _ hlv
        · rw [updL_same, List.map_append, List.map_drop]
        · rw [List.length_append, List.length_drop, hul]; omega
        · rw [LV_app, huv, ← LV_app, List.take_append_drop, hLV]
        · intro w hwm
          rcases List.mem_append.mp hwm with z | z
          · exact huo w z
          · have := hok w (List.mem_of_mem_drop z); exact ⟨this.1, by omega⟩
  · rintro τ L' ⟨pw, c4, c5, ws, rfl, hlv, hw, hwl, hLV, hok⟩
    refine ⟨pw, ws, rfl, hw, hwl, fun w hwm => ⟨(hok w hwm).1, by have := (hok w hwm).2; omega⟩, by rw [hLV, List.length_map]; exact hl, fun n hn => ?_⟩
    rw [hLV] at hn
    refine ⟨p2, s, lvs, rfl, hlv, hl, h3, fun k hk => ?_⟩
    have e := tries_due_eq h3 hn hk
    subst e
    show Fin3 Q (.bl (decide (((n : Nat) : Int) = ((n : Nat) : Int)))) L'
    rw [decide_eq_true rfl]
    exact fin (q _)
end L3

namespace L2
open PySem PySem.Spec PyProof.Rows
/-! ### a list is unpacked -/
section
variable {prog : Program} {w : World} {A : Around} {E : Value → Shared → Prop}
end
section
variable {X : Cx} {pos : Pos}
end
/-! ### list.remove -/
section
end
section
variable {X : Cx}
end
end L2
namespace L3
open PySem L2
end L3

namespace L2
open PySem PySem.Spec PyProof.Rows
/-! ### list.count, by places -/
section
/-- how many places from i on are hit -/
def hits (b : Nat → Bool) : Nat → Nat → Nat
  | _, 0 => 0
  | i, k + 1 => (if b i = true then 1 else 0) + hits b (i + 1) k
theorem ct_loop (l : Addr) (its : Array Value) (n : Nat) (x : Value) (b : Nat → Bool) : ∀ (k i : Nat) (c : Int), its.size - i = k →
    Meets (Builtin.«list.count.loop» ⟨[.ref l, x, rawInt i, rawInt c], []⟩) (fun A R s => s.heap.get? l = some { cls := .type "list", dict := none, data := .seq its n, slots := #[] } ∧ (∀ m (hm : m < its.size), SeqAt.EqAt A.in1 s its[m] x (b m)) ∧ R (.ok (.ret (.int (c + ((hits b i k : Nat) : Int)) s.toks))) { s with toks := s.toks + 1 }) := by
  intro k
  induction k with
  | zero =>
    intro i c hk prog w A R s h
    obtain ⟨hp, g, d, tk, os⟩ := s
    obtain ⟨hl, eq, h⟩ := h
    (wp_walk using wpAny_loadPart' hl)
    have none_there : its[((i : Nat) : Int).toNat]? = none := by simp; omega
    rw [none_there]
    wp_walk
    simpa [hits] using h
  | succ k ih =>
    intro i c hk prog w A R s h
    obtain ⟨hp, g, d, tk, os⟩ := s
    obtain ⟨hl, eq, h⟩ := h
    have hlt : i < its.size := by omega
    (wp_walk using wpAny_loadPart' hl)
    have one_there : its[((i : Nat) : Int).toNat]? = some its[i] := by simp [hlt]
    have up : ((i : Int) + 1) = ((i + 1 : Nat) : Int) := by omega
    rw [one_there]
    refine wpAny_bind (eq i hlt prog w _ _ ?_)
    wp_walk
    rw [up]
    refine ⟨plainId_quiet MeetsSeq.plain_count_loop _, codeAny_builtin MeetsSeq.entry_count_loop ?_⟩
    rw [Around.under_plainId MeetsSeq.plain_count_loop _]
    refine ih (i + 1) _ (by omega) prog w A R _ ⟨hl, eq, ?_⟩
    have e : hits b i (k + 1) = (if b i = true then 1 else 0) + hits b (i + 1) k := rfl
    rw [e] at h
    cases hb : b i with
    | false =>
      rw [hb] at h
      have e2 : (((if false = true then 1 else 0) + hits b (i + 1) k : Nat) : Int) = ((hits b (i + 1) k : Nat) : Int) := by simp
      rw [e2] at h
      exact h
    | true =>
      rw [hb] at h
      have e2 : c + (((if true = true then 1 else 0) + hits b (i + 1) k : Nat) : Int) = c + 1 + ((hits b (i + 1) k : Nat) : Int) := by rw [if_pos rfl]; push_cast; omega
      rw [e2] at h
      exact h
theorem ct_meets (l : Addr) (its : Array Value) (n : Nat) (x : Value) (b : Nat → Bool) :
    Meets (Builtin.«list.count» ⟨[.ref l, x], []⟩) (fun A R s => s.heap.get? l = some { cls := .type "list", dict := none, data := .seq its n, slots := #[] } ∧ (∀ m (hm : m < its.size), SeqAt.EqAt A.in1 s its[m] x (b m)) ∧ R (.ok (.ret (.int ((hits b 0 its.size : Nat) : Int) s.toks))) { s with toks := s.toks + 1 }) := by
  intro prog w A R s h
  obtain ⟨hp, g, d, tk, os⟩ := s
  obtain ⟨hl, eq, h⟩ := h
  (wp_walk using wpAny_loadPart' hl)
  refine ⟨plainId_quiet MeetsSeq.plain_count_loop _, codeAny_builtin MeetsSeq.entry_count_loop ?_⟩
  rw [Around.under_plainId MeetsSeq.plain_count_loop _]
  refine ct_loop l its n x b its.size 0 0 (by omega) prog w A R _ ⟨hl, eq, ?_⟩
  rw [Int.zero_add]
  exact h
theorem hits_da {e : Da} : ∀ (ds : List Da) (b : Nat → Bool) (i : Nat), (∀ k d, ds[k]? = some d → b (i + k) = Da.eq d e) → hits b i ds.length = ds.countP fun d => Da.eq d e
  | [], _, _, _ => rfl
  | d :: r, b, i, h => by
    have h0 := h 0 d rfl
    have ih := hits_da (e := e) r b (i + 1) fun k d' hk => by
      have := h (k + 1) d' hk
      rw [show i + 1 + k = i + (k + 1) by omega]; exact this
    rw [List.length_cons, List.countP_cons]
    show (if b i = true then 1 else 0) + hits b (i + 1) r.length = _
    rw [ih]
    have h0 : b i = Da.eq d e := h0
    rw [h0, Nat.add_comm]
end
section
variable {X : Cx}
def rCount (X : Cx) : V → List V → Hp → VK → Prop := fun x vs H Q => ∃ l xs y ds e, ∃ n m : Nat, x = .ref l ∧ vs = [y] ∧ H l = some (.lst xs) ∧ n ≤ 126 ∧ Paired (RepN X.K H n) xs ds ∧ RepN X.K H m y e ∧ Q (.int (((ds.countP fun d => Da.eq d e) : Nat) : Int)) H
theorem mt_count (hu : X.A.units + 128 < cLine) : MtM X "list.count" (rCount X) := by
  intro pins s σ H x vs v us Q I rx rv h
  obtain ⟨l, xs, y, ds, e, n, m, rfl, rfl, hH, hn, pd, ry, q⟩ := h
  cases rx
  obtain ⟨u, rfl, ru⟩ := rv.one
  obtain ⟨z, its, nn, r, hl, eo⟩ := I.lstM hH
  have l1 : xs.length = ds.length := pd.length
  have l2 : its.length = xs.length := r.length.symm
  obtain ⟨arr, harr⟩ : ∃ arr : Array Value, arr = its.toArray := ⟨_, rfl⟩
  have hsz : arr.size = ds.length := by rw [harr, List.size_toArray]; omega
  have M := ct_meets l arr nn u (fun k => ((ds[k]?).map fun d => Da.eq d e).getD false)
  have hc : hits (fun k => ((ds[k]?).map fun d => Da.eq d e).getD false) 0 arr.size = ds.countP fun d => Da.eq d e := by
    rw [hsz]
    refine hits_da ds _ 0 fun k d hk => ?_
    show ((ds[0 + k]?).map fun d => Da.eq d e).getD false = _
    rw [Nat.zero_add, hk]; rfl
  rw [hc, harr] at M
  refine call_meets F.slot_list_count ⟨_, eo, rfl⟩ F.entry_list_count (F.args_list_count_2 _ _) M ⟨eo, fun k hk => ?_, ?_⟩
  · have hk' : k < its.length := by rw [List.size_toArray] at hk; exact hk
    obtain ⟨d, ed, rd⟩ := Words.Paired.getP pd (List.getElem?_eq_getElem (by omega : k < xs.length))
    show SeqAt.EqAt _ s _ u (((ds[k]?).map fun d => Da.eq d e).getD false)
    rw [ed]
    obtain ⟨u', eu', ru'⟩ := Words.Paired.getP r (List.getElem?_eq_getElem (by omega : k < xs.length))
    have eg : its.toArray[k] = u' := by
      have := (List.getElem?_eq_some_iff.mp eu').2
      simpa using this
    rw [eg]
    exact eqAt_D I n (by show X.A.units + 1 + n < cLine; omega) rd ry ru' ru
  · exact ⟨.int _, _, I.tok (s.toks + 1), ⟨_, rfl⟩, q⟩
end
end L2
namespace L3
open PySem L2
def yCount (x : Y) (vs : List Y) (L : LHp) (Q : YK) : Prop := match x, vs with
  | .ref a, [v] => lstK L a fun ys => ∃ ds e, ∃ n m : Nat, n ≤ 126 ∧ Paired (DatN L n) ys ds ∧ DatN L m v e ∧ Q (.int (((ds.countP fun d => Da.eq d e) : Nat) : Int)) L
  | _, _ => False
theorem q_count {X : Cx} (hu : X.A.units + 128 < cLine) : MtM X "list.count" (upM X.g3 yCount) := MtM.imp (mt_count hu) fun x xs H Q ⟨y, ys, L, Q3, r1, r2, rl, z, k⟩ => by
  unfold yCount at z
  split at z
  · rename_i a v
    obtain ⟨zs, e, ds, de, n, m, hn, pd, dv, z⟩ := lstK_inv z
    obtain ⟨us, e2, r⟩ := rl a _ e
    obtain ⟨v', rfl, rv⟩ := r2.inv1
    have both : ∀ {ys : List Y} {ds : List Da} {xs : List V}, Paired (DatN L n) ys ds → RVs X.g3 H ys xs → Paired (RepN X.K H n) xs ds := by
      intro ys ds xs p
      induction p generalizing xs with
      | nil => intro q; cases (show xs = [] from q); exact .nil
      | cons h t ih =>
        rintro ⟨x, xs', rfl, q1, q2⟩
        exact .cons (DatN.rep rl h q1) (ih q2)
    exact ⟨a, us, v', ds, de, n, m, r1, rfl, e2, hn, both pd r, DatN.rep rl dv rv, k _ _ _ _ (TSt.refl _) rl (by rfl) z⟩
  · exact z.elim
theorem qe_count {X : Cx} (hu : X.A.units + 128 < cLine) {o e : Expr} {es : List Expr} {to : TE3} {tr : TA3} {apos cpos : Pos} (ho : QE X o to) (ha : QA X (e :: es) tr) (h4 : attributeBase o "count" X.env (eval o X.env) = eval o X.env := by rfl)
    (h5 : ((backTo cpos (starEach (e :: es) X.env)).all (fun x => !x.1) && (backToKw cpos (keywordEach [] X.env)).all (fun x => x.1.isSome) && decide ((e :: es).length + ([] : List Keyword).length + (if ([] : List Keyword).isEmpty = true then 0 else 1) < 30)) = true := by rfl)
    (h6 : (apos.endLine == cpos.line) = true := by rfl) (h7 : starEach (e :: es) X.env = (false, eval e X.env) :: starEach es X.env := by rfl) (h8 : (backTo cpos (starEach es X.env)).any (·.1) = false := by rfl) :
    QE X (.Call (.Attribute o "count" apos) (e :: es) [] cpos) (yBL yCount to tr) := qe_bl1 PySem.F.slot_list_count PySem.F.type_list_count (q_count hu) ho ha h4 h5 h6 h7 h8
/-! ### dict.get with a default -/
theorem pair_none {G : G3} {H : Hp} {kvs : List (Key × Y)} {xs : List (Key × V)} {k : Key} (p : Paired (fun (p : Key × Y) (q : Key × V) => p.1 = q.1 ∧ RV G H p.2 q.2) kvs xs) (h : valY kvs k = none) : valV xs k = none := by
  induction p with
  | nil => rfl
  | @cons a b _ _ r t ih =>
    obtain ⟨e, _⟩ := r
    unfold valY at h
    rw [List.find?_cons] at h
    by_cases c : a.1 = k
    · rw [decide_eq_true c] at h; cases h
    · rw [decide_eq_false c] at h
      rw [valV_neg (fun z => c (e.trans z))]
      exact ih h
def yDGet2 (td ti tx : TE3) (τ : St3) (L : LHp) (Q : YK) : Prop := td τ L fun x L1 => match x with
  | .ref a => dctK L1 a fun _ => ti τ L1 fun y L2 => tx τ L2 fun z L3 => match keyY y with
    | some k => dctK L3 a fun kvs => Q ((valY kvs k).getD z) L3
    | none => False
  | _ => False
theorem qe_dget2 {X : Cx} {o e f : Expr} {td ti tx : TE3} {apos cpos : Pos} (hu : X.A.units + 128 < cLine) (ho : QE X o td) (hi : QE X e ti) (hf : QE X f tx) (m : M2 X o "get" apos e f cpos := by exact ⟨rfl, rfl, rfl, rfl⟩) : QE X (.Call (.Attribute o "get" apos) [e, f] [] cpos) (yDGet2 td ti tx) := PE.imp (pe_dget2 (by omega) ho hi hf m) fun σ H Q ⟨τ, L, Q3, rs, rl, z, k⟩ =>
  ⟨τ, L, _, rs, rl, z, fun v H1 x L1 t1 rl1 rv1 z1 => by
    split at z1
    · rename_i a
      obtain ⟨kvs0, e0, z1⟩ := dctK_inv z1
      obtain ⟨xs0, e02, _⟩ := rl1 a _ e0
      refine ⟨a, rv1, .inl ⟨xs0, .inl e02⟩, τ, L1, _, rs.ts t1, rl1, z1, fun w H2 y L2 t2 rl2 rv2 z2 => ⟨τ, L2, _, rs.ts (t1.trans t2), rl2, z2, fun u H3 yz L3 t3 rl3 rv3 z3 => ?_⟩⟩
      split at z3
      · rename_i kk ek
        obtain ⟨kvs, e, z3⟩ := dctK_inv z3
        obtain ⟨xs, e2, pr⟩ := rl3 a _ e
        have rk := keyY_rel ek rv2
        cases ev : valY kvs kk with
        | none =>
          rw [ev] at z3
          exact ⟨none, .inl ⟨xs, kk, .inl e2, rk, (pair_none pr ev).symm⟩, k _ H3 _ L3 ((t1.trans t2).trans t3) rl3 rv3 z3⟩
        | some yv =>
          rw [ev] at z3
          obtain ⟨xv, ex, rx⟩ := pair_valY pr ev
          exact ⟨some xv, .inl ⟨xs, kk, .inl e2, rk, ex.symm⟩, k _ H3 _ L3 ((t1.trans t2).trans t3) rl3 rx z3⟩
      · exact z3.elim
    · exact z1.elim⟩
end L3

namespace L3
open PySem L2 Words
local macro_rules | `(tactic| walk_at "w") => `(tactic| conv => whnf)
def t_leaves_in (p_leaves_of : Sp3) : TS3 := (ySeq (yAsg (yLst yNil) (gyName 1))
  (ySeq (yFor (iyList (yVar 0)) (gyName 2) (yDrop (yBL yExtend (yVar 1) (yCons (yCall p_leaves_of (yCons (yVar 2) yNil)) yNil))))
  (yRet (yVar 1))))
def t_first_uneven (p_turned : Sp3) : TS3 := (ySeq (yFor (iyList (yVar 0)) (gyName 1) (yIfS (yB (yOp (yEq true) (yBL yCount (yVar 0) (yCons (yVar 1) yNil)) (yBL yCount (yVar 0) (yCons (yCall p_turned (yCons (yVar 1) yNil)) yNil)))) (yRet (yOp yIx (yVar 1) (yC (.int 1)))) yNext))
  (yRet (yC .non)))
def t_tries_due (p_leaves_in : Sp3) (p_first_uneven : Sp3) : TS3 := (ySeq (yAsg (yCall p_leaves_in (yCons (yVar 0) yNil)) (gyName 1))
  (ySeq (yIfS (yB (yIsN true (yCall p_first_uneven (yCons (yVar 1) yNil)))) (yRet (yC (.int 0))) yNext)
  (ySeq (yAsg (yC (.int 1)) (gyName 2))
  (ySeq (yAsg yDNew (gyName 3))
  (ySeq (yFor (iyList (yVar 1)) (gyTup 2 (gyCons (gyName 4) (gyCons (gyName 5) gyNil))) (yIfS (yB (yOp (yEq false) (yVar 4) (yC (.str "plain")))) (ySeq (yDPut (yVar 3) (yVar 5) (yOp yAdd (yDGet2 (yVar 3) (yVar 5) (yC (.int 0))) (yC (.int 1))))
  (yAsg (yOp yMul (yVar 2) (yDGet (yVar 3) (yVar 5))) (gyName 2))) yNext))
  (yRet (yVar 2)))))))
/-! ### the leaves of a row of words -/
theorem leaves_pow : ∀ w : Wd, 2 * w.leaves ≤ 2 ^ w.depth
  | .leaf _ _ => by show 2 * 1 ≤ 2 ^ 1; decide
  | .node _ l r => by
    have h1 := leaves_pow l; have h2 := leaves_pow r
    show 2 * (l.leaves + r.leaves) ≤ 2 ^ (max l.depth r.depth + 1)
    have h3 : 2 ^ l.depth ≤ 2 ^ (max l.depth r.depth) := Nat.pow_le_pow_right (by decide) (by omega)
    have h4 : 2 ^ r.depth ≤ 2 ^ (max l.depth r.depth) := Nat.pow_le_pow_right (by decide) (by omega)
    rw [Nat.pow_succ]; omega
theorem leaves_four {w : Wd} (h : w.depth ≤ 4) : w.leaves ≤ 63 := by
  have h1 := leaves_pow w
  have h2 : 2 ^ w.depth ≤ 2 ^ 4 := Nat.pow_le_pow_right (by decide) h
  omega
theorem LV_leaf {ws : List Wd} {x : Wd} (h : x ∈ LV ws) : ∃ t n, x = .leaf t n := by
  obtain ⟨w, _, hx⟩ := List.mem_flatMap.mp h
  exact Wd.leafL_leaf hx
theorem LV_one (w : Wd) : LV [w] = w.leafL := by simp [LV]
theorem LV_take_len (ws : List Wd) (i : Nat) : (LV (ws.take i)).length ≤ (LV ws).length := by
  have := LV_app (ws.take i) (ws.drop i)
  rw [List.take_append_drop] at this
  rw [this, List.length_append]; omega
def sp_lvin : Sp3 := fun ys L Q => ∃ a, ∃ ws : List Wd, ys = [.ref a] ∧ L a = some (.lst (ws.map encY)) ∧ (∀ w ∈ ws, w.depth ≤ 63 ∧ w.leaves ≤ 63) ∧ (LV ws).length ≤ 1000 ∧ ∀ p, L p = none → Q (.ref p) (updL L p (.lst ((LV ws).map encY)))
theorem vc_lvin : ∀ ys L Q, sp_lvin ys L Q → run3 (t_leaves_in (sp_leaves_of 63)) 3 ys L Q := by
  rintro ys L Q ⟨a, ws, rfl, ha, hd, hz, q⟩
  intro p hp
  have hap : a ≠ p := neL ha hp
  refine for_lst (ys := ws.map encY) (seqOf_lst ((updL_ne hap).trans ha)) (fun i τ L' => ∃ c, τ = [some (.ref a), some (.ref p), c] ∧ L' = updL L p (.lst ((LV (ws.take i)).map encY))) ⟨_, rfl, rfl⟩ ?_ ?_ ?_
  · rintro i τ L' ⟨c, rfl, rfl⟩
    rw [updL_ne hap, updL_ne hap]
  · rintro i y τ L' hy ⟨c, rfl, rfl⟩
    rw [List.getElem?_map] at hy
    obtain ⟨w, ew, rfl⟩ := Option.map_eq_some_iff.mp hy
    have hw := hd w (List.mem_of_getElem? ew)
    have et : ws.take (i + 1) = ws.take i ++ [w] := by rw [List.take_succ, ew]; rfl
    have hl := LV_take_len ws (i + 1)
    rw [et, LV_app, LV_one, List.length_append] at hl
    refine seqL_of updL_same ⟨w, rfl, hw.1, hw.2, fun p2 hp2 => ?_⟩
    have hpp : p ≠ p2 := neL updL_same hp2
    refine lstK_of ((updL_ne hpp).trans updL_same) (lstK_of updL_same ⟨?_, ?_⟩)
    · rw [List.length_map, List.length_map]
      have hb : (1000 : Nat) ≤ sizeLine := by decide
      omega
    · refine ⟨updL L p (.lst ((LV (ws.take (i + 1))).map encY)), ?_, _, rfl, rfl⟩
      rw [et, LV_app, LV_one, List.map_append, updL_comm (Ne.symm hpp), updL_updL]
      exact LSub.new ((updL_ne (Ne.symm hpp)).trans ((updL_ne (Ne.symm hpp)).symm.trans hp2))
  · rintro τ L' ⟨c, rfl, rfl⟩
    rw [List.length_map, List.take_length]
    exact fin (q p hp)
/-! ### the first uneven name -/
theorem isLf_da (t : Bool) (x : Str) {w : Wd} (h : ∃ u y, w = .leaf u y) : Da.eq (enc w) (enc (.leaf t x)) = isLf t x w := by
  obtain ⟨u, y, rfl⟩ := h
  exact leaf_eq u t y x
theorem cnt_da {ls : List Wd} (h : ∀ w ∈ ls, ∃ u y, w = Wd.leaf u y) (t : Bool) (x : Str) : ((ls.map enc).countP fun d => Da.eq d (enc (.leaf t x))) = cntL ls t x := by
  unfold cntL
  rw [List.countP_map]
  refine List.countP_congr fun w hw => ?_
  rw [Function.comp, isLf_da t x (h w hw)]
def oddAt (ls : List Wd) (w : Wd) : Bool := !decide (cntL ls false (nmOf w) = cntL ls true (nmOf w))
def unev (ls : List Wd) : Option Str := (ls.find? (oddAt ls)).map nmOf
theorem odd_leaf (ls : List Wd) (t : Bool) (x : Str) : oddAt ls (.leaf t x) = !decide (cntL ls t x = cntL ls (!t) x) := by
  show (!decide (cntL ls false x = cntL ls true x)) = _
  cases t
  · rfl
  · show _ = !decide (cntL ls true x = cntL ls false x)
    by_cases h : cntL ls false x = cntL ls true x
    · rw [decide_eq_true h, decide_eq_true h.symm]
    · rw [decide_eq_false h, decide_eq_false (Ne.symm h)]
def sp_unev : Sp3 := fun ys L Q => ∃ a, ∃ ls : List Wd, ys = [.ref a] ∧ L a = some (.lst (ls.map encY)) ∧ (∀ w ∈ ls, ∃ t n, w = Wd.leaf t n) ∧ ls.length ≤ 1000 ∧ (∀ x, unev ls = some x → Q (.str x) L) ∧ (unev ls = none → Q .non L)
theorem vc_unev : ∀ ys L Q, sp_unev ys L Q → run3 (t_first_uneven (sp_turned 63)) 2 ys L Q := by
  rintro ys L Q ⟨a, ls, rfl, ha, hlf, hz, q1, q2⟩
  refine for_lst (ys := ls.map encY) (seqOf_lst ha) (fun i τ L' => ∃ c, τ = [some (.ref a), c] ∧ L' = L ∧ ∀ w ∈ ls.take i, oddAt ls w = false) ⟨_, rfl, rfl, by simp⟩ ?_ ?_ ?_
  · rintro i τ L' ⟨c, rfl, rfl, _⟩; rfl
  · rintro i y τ L' hy ⟨c, rfl, rfl, hno⟩
    rw [List.getElem?_map] at hy
    obtain ⟨w, ew, rfl⟩ := Option.map_eq_some_iff.mp hy
    obtain ⟨t, x, rfl⟩ := hlf w (List.mem_of_getElem? ew)
    have pd : Paired (DatN L' 1) (ls.map encY) (ls.map enc) := datN_encs fun w hw => by obtain ⟨u, z, rfl⟩ := hlf w hw; exact Nat.le_refl _
    refine seqL_of ha (lstK_of ha ⟨_, enc (.leaf t x), 1, 1, by decide, pd, datN_enc (Nat.le_refl 1), seqL_of ha ⟨.leaf t x, rfl, by show 1 ≤ 63; decide, lstK_of ha ⟨_, enc (.leaf (!t) x), 1, 1, by decide, pd, datN_enc (Nat.le_refl 1), ?_⟩⟩⟩)
    rw [cnt_da hlf, cnt_da hlf]
    have ho := odd_leaf ls t x
    have et : ls.take (i + 1) = ls.take i ++ [Wd.leaf t x] := by rw [List.take_succ, ew]; rfl
    by_cases h : cntL ls t x = cntL ls (!t) x
    · refine yite_F (by show (!decide (((cntL ls t x : Nat) : Int) = ((cntL ls (!t) x : Nat) : Int))) = false; rw [h, decide_eq_true rfl]; rfl) ?_
      refine ⟨_, LSub.refl _, _, rfl, rfl, ?_⟩
      rw [et]
      intro w hw
      rcases List.mem_append.mp hw with z | z
      · exact hno w z
      · rw [List.mem_singleton.mp z, ho, decide_eq_true h]; rfl
    · refine yite_T (by show (!decide (((cntL ls t x : Nat) : Int) = ((cntL ls (!t) x : Nat) : Int))) = true; rw [decide_eq_false (by omega)]; rfl) ?_
      refine fin (q1 x ?_)
      unfold unev
      have hod : oddAt ls (.leaf t x) = true := by rw [ho, decide_eq_false h]; rfl
      have es : ls = ls.take i ++ (Wd.leaf t x :: ls.drop (i + 1)) := by
        have := (List.take_append_drop i ls).symm
        rw [List.drop_eq_getElem?_toList_append, ew] at this
        exact this
      have : ls.find? (oddAt ls) = some (.leaf t x) := by
        generalize hp : oddAt ls = P at hno hod
        rw [es, List.find?_append, List.find?_eq_none.mpr (fun w hw => by rw [hno w hw]; exact Bool.false_ne_true), List.find?_cons, hod]
        rfl
      rw [this]; rfl
  · rintro τ L' ⟨c, rfl, rfl, hno⟩
    rw [List.length_map, List.take_length] at hno
    refine fin (q2 ?_)
    unfold unev
    rw [List.find?_eq_none.mpr (fun w hw => by rw [hno w hw]; exact Bool.false_ne_true)]
    rfl
/-! ### what stands in a dict behind a store -/
theorem valY_cons (a : Key) (b : Y) (r : List (Key × Y)) (k : Key) : valY ((a, b) :: r) k = if a = k then some b else valY r k := by
  unfold valY
  rw [List.find?_cons]
  by_cases h : a = k
  · rw [if_pos h, show decide ((a, b).1 = k) = true from decide_eq_true h]; rfl
  · rw [if_neg h, show decide ((a, b).1 = k) = false from decide_eq_false h]
theorem valY_map (k k' : Key) (y : Y) : ∀ kvs : List (Key × Y), valY (kvs.map fun kv => if kv.1 = k then (kv.1, y) else kv) k' = if k' = k then (valY kvs k').map (fun _ => y) else valY kvs k'
  | [] => by rw [List.map_nil]; split <;> rfl
  | (a, b) :: r => by
    have ih := valY_map k k' y r
    rw [List.map_cons, valY_cons]
    by_cases h : a = k
    · rw [if_pos (show (a, b).1 = k from h), valY_cons, ih]
      by_cases h2 : k' = k
      · rw [if_pos h2, if_pos h2, if_pos (h.trans h2.symm), if_pos (h.trans h2.symm)]; rfl
      · rw [if_neg h2, if_neg h2, if_neg (fun z => h2 (z.symm.trans h)), if_neg (fun z => h2 (z.symm.trans h))]
    · rw [if_neg (show ¬ (a, b).1 = k from h), valY_cons, ih]
      by_cases h2 : k' = k
      · rw [if_pos h2, if_pos h2, if_neg (fun z => h (z.trans h2)), if_neg (fun z => h (z.trans h2))]
      · rw [if_neg h2, if_neg h2]
theorem valY_app (k k' : Key) (y : Y) : ∀ kvs : List (Key × Y), valY (kvs ++ [(k, y)]) k' = (valY kvs k').or (if k = k' then some y else none)
  | [] => by
    rw [List.nil_append, valY_cons]
    have : valY [] k' = none := rfl
    rw [this]; split <;> rfl
  | (a, b) :: r => by
    rw [List.cons_append, valY_cons, valY_cons, valY_app k k' y r]
    split <;> rfl
theorem valY_any (k : Key) : ∀ kvs : List (Key × Y), (kvs.any fun kv => decide (kv.1 = k)) = (valY kvs k).isSome
  | [] => rfl
  | (a, b) :: r => by
    rw [List.any_cons, valY_cons, valY_any k r]
    by_cases h : a = k
    · rw [if_pos h, show decide ((a, b).1 = k) = true from decide_eq_true h]; rfl
    · rw [if_neg h, show decide ((a, b).1 = k) = false from decide_eq_false h]; rfl
theorem valY_put (kvs : List (Key × Y)) (k k' : Key) (y : Y) : valY (putY kvs k y) k' = if k' = k then some y else valY kvs k' := by
  unfold putY
  rw [valY_any]
  cases e : valY kvs k with
  | some v =>
    rw [if_pos (show (some v).isSome = true from rfl), valY_map]
    by_cases h : k' = k
    · rw [if_pos h, if_pos h, h, e]; rfl
    · rw [if_neg h, if_neg h]
  | none =>
    rw [if_neg (by simp), valY_app]
    by_cases h : k' = k
    · rw [if_pos h, h, e, if_pos rfl]; rfl
    · rw [if_neg h, if_neg (fun z => h z.symm)]; cases valY kvs k' <;> rfl
theorem putY_len (kvs : List (Key × Y)) (k : Key) (y : Y) : (putY kvs k y).length ≤ kvs.length + 1 := by
  unfold putY
  split
  · rw [List.length_map]; omega
  · rw [List.length_append]; simp
/-! ### the ways, leaf by leaf -/
theorem prod_at {f g : Str → Nat} {x : Str} {k : Nat} (hx : g x = f x * k) (ho : ∀ y, y ≠ x → g y = f y) : ∀ nms : List Str, nms.Nodup → x ∈ nms → (nms.map g).prod = (nms.map f).prod * k
  | [], _, h => by cases h
  | y :: r, hn, h => by
    obtain ⟨hy, hr⟩ := List.nodup_cons.mp hn
    rw [List.map_cons, List.map_cons, List.prod_cons, List.prod_cons]
    by_cases e : y = x
    · subst e
      have : r.map g = r.map f := List.map_congr_left fun z hz => ho z fun q => hy (q ▸ hz)
      rw [this, hx, Nat.mul_assoc, Nat.mul_comm k, ← Nat.mul_assoc]
    · have hm : x ∈ r := by
        rcases List.mem_cons.mp h with z | z
        · exact absurd z.symm e
        · exact z
      rw [prod_at hx ho r hr hm, ho y e, Nat.mul_assoc]
def WayR (ls : List Wd) (n : Nat) : Prop := ∀ nms : List Str, nms.Nodup → (∀ w ∈ ls, nmOf w ∈ nms) → n = (nms.map fun x => factN (cntL ls false x)).prod
theorem prod_ones {f : Str → Nat} (h : ∀ y, f y = 1) : ∀ nms : List Str, (nms.map f).prod = 1
  | [] => rfl
  | y :: r => by rw [List.map_cons, List.prod_cons, h, prod_ones h r]
theorem WayR.nil : WayR [] 1 := fun nms _ _ => (prod_ones (fun y => rfl) nms).symm
theorem cnt_snoc (ls : List Wd) (w : Wd) (t : Bool) (x : Str) : cntL (ls ++ [w]) t x = cntL ls t x + if isLf t x w = true then 1 else 0 := by
  unfold cntL
  rw [List.countP_append, List.countP_singleton]
theorem WayR.other {ls : List Wd} {n : Nat} {x : Str} (h : WayR ls n) : WayR (ls ++ [.leaf true x]) n := fun nms hn hm => by
  have := h nms hn fun w hw => hm w (List.mem_append_left _ hw)
  rw [this]
  refine congrArg List.prod (List.map_congr_left fun y _ => ?_)
  rw [cnt_snoc, if_neg (by simp [isLf]), Nat.add_zero]
theorem WayR.plain {ls : List Wd} {n : Nat} {x : Str} (h : WayR ls n) : WayR (ls ++ [.leaf false x]) (n * (cntL ls false x + 1)) := fun nms hn hm => by
  have := h nms hn fun w hw => hm w (List.mem_append_left _ hw)
  rw [this]
  refine (prod_at (x := x) ?_ ?_ nms hn (hm (.leaf false x) (List.mem_append_right _ (List.mem_singleton.mpr rfl)))).symm
  · show factN (cntL (ls ++ [.leaf false x]) false x) = _
    rw [cnt_snoc, if_pos (by simp [isLf])]; rfl
  · intro y hy
    show factN (cntL (ls ++ [.leaf false x]) false y) = _
    rw [cnt_snoc, if_neg (by simp [isLf]; exact fun z => hy z.symm)]; rfl
theorem even_of_unev {ls : List Wd} (hlf : ∀ w ∈ ls, ∃ t n, w = Wd.leaf t n) (h : unev ls = none) : EvenAll ls := by
  intro x
  unfold unev at h
  have h := List.find?_eq_none.mp (Option.map_eq_none_iff.mp h)
  by_cases c : ∃ t, Wd.leaf t x ∈ ls
  · obtain ⟨t, c⟩ := c
    have := h _ c
    have e : (!decide (cntL ls false x = cntL ls true x)) = false := by
      cases z : (!decide (cntL ls false x = cntL ls true x)) with
      | false => rfl
      | true => exact absurd z this
    exact of_decide_eq_true (by simpa using e)
  · have zero : ∀ t, cntL ls t x = 0 := fun t => by
      unfold cntL
      rw [List.countP_eq_zero]
      intro w hw
      obtain ⟨u, y, rfl⟩ := hlf w hw
      intro z
      have : decide (u = t) = true ∧ decide (y = x) = true := by simpa [isLf] using z
      have e : y = x := of_decide_eq_true this.2
      subst e
      exact c ⟨u, hw⟩
    rw [zero, zero]
theorem odd_of_unev {ls : List Wd} {x : Str} (h : unev ls = some x) : ¬ EvenAll ls := by
  unfold unev at h
  obtain ⟨w, hw, _⟩ := Option.map_eq_some_iff.mp h
  have := List.find?_some hw
  intro e
  have e2 := e (nmOf w)
  unfold oddAt at this
  rw [decide_eq_true e2] at this
  cases this
def cntY (n : Nat) : Option Y := if n = 0 then none else some (.int (n : Int))
theorem vc_tries : ∀ ys L Q, sp_tries ys L Q → run3 (t_tries_due sp_lvin sp_unev) 6 ys L Q := by
  rintro ys L Q ⟨a, ws, rfl, ha, hwl, hok, hlv, q⟩
  refine ⟨a, ws, rfl, ha, fun w hw => ⟨by have := (hok w hw).2; omega, leaves_four (hok w hw).2⟩, by omega, fun p hp => ?_⟩
  have hlf : ∀ w ∈ LV ws, ∃ t n, w = Wd.leaf t n := fun w hw => LV_leaf hw
  refine ⟨p, LV ws, rfl, updL_same, hlf, by omega, fun x hx => ?_, fun hn => ?_⟩
  · exact finS (LSub.new hp) (q 0 (.inr ⟨odd_of_unev hx, rfl⟩))
  intro d hd
  have hpd : p ≠ d := neL updL_same hd
  have sub : ∀ o, LSub L (updL (updL L p (.lst ((LV ws).map encY))) d o) := fun o => (LSub.new hp).trans (LSub.new hd)
  refine for_lst (ys := (LV ws).map encY) (seqOf_lst ((updL_ne hpd).trans updL_same)) (fun i τ L' => ∃ kvs, ∃ n : Nat, ∃ c4 c5, τ = [some (.ref a), some (.ref p), some (.int (n : Int)), some (.ref d), c4, c5] ∧ L' = updL (updL L p (.lst ((LV ws).map encY))) d (.dct kvs) ∧ kvs.length ≤ i ∧ (∀ x, valY kvs (.inr x) = cntY (cntL ((LV ws).take i) false x)) ∧ WayR ((LV ws).take i) n) ⟨[], 1, _, _, rfl, rfl, Nat.le_refl _, fun x => rfl, WayR.nil⟩ ?_ ?_ ?_
  · rintro i τ L' ⟨kvs, n, c4, c5, rfl, rfl, _⟩
    rw [updL_ne hpd, updL_ne hpd]
  · rintro i y τ L' hy ⟨kvs, n, c4, c5, rfl, rfl, hk, hv, hw⟩
    rw [List.getElem?_map] at hy
    obtain ⟨w, ew, rfl⟩ := Option.map_eq_some_iff.mp hy
    obtain ⟨t, x, rfl⟩ := hlf w (List.mem_of_getElem? ew)
    have hi : i < (LV ws).length := (List.getElem?_eq_some_iff.mp ew).1
    have et : (LV ws).take (i + 1) = (LV ws).take i ++ [Wd.leaf t x] := by rw [List.take_succ, ew]; rfl
    cases t with
    | true =>
      refine ⟨_, LSub.refl _, kvs, n, _, _, rfl, rfl, by omega, fun z => ?_, ?_⟩
      · rw [hv, et, cnt_snoc, if_neg (by simp [isLf])]; rfl
      · rw [et]; exact hw.other
    | false =>
      have e : ((valY kvs (.inr x)).getD (Y.int 0)) = .int ((cntL ((LV ws).take i) false x : Nat) : Int) := by
        rw [hv]; unfold cntY
        split
        · rename_i h; rw [h]; rfl
        · rfl
      refine dctK_of updL_same (dctK_of updL_same ?_)
      rw [e]
      refine dctK_of updL_same ⟨?_, ?_⟩
      · have hb : (1000 : Nat) ≤ sizeLine := by decide
        omega
      have ev : valY (putY kvs (.inr x) (.int (((cntL ((LV ws).take i) false x : Nat) : Int) + 1))) (.inr x) = some (.int (((cntL ((LV ws).take i) false x : Nat) : Int) + 1)) := by rw [valY_put, if_pos rfl]
      have hcl : cntL ((LV ws).take i) false x ≤ 124 := by
        have h1 : cntL ((LV ws).take i) false x ≤ ((LV ws).take i).length := List.countP_le_length
        have h2 : ((LV ws).take i).length ≤ (LV ws).length := by rw [List.length_take]; omega
        omega
      refine dctK_of updL_same (atK_some ev ⟨.inr ⟨by omega, by omega⟩, ?_⟩)
      refine ⟨_, LSub.refl _, putY kvs (.inr x) (.int (((cntL ((LV ws).take i) false x : Nat) : Int) + 1)), n * (cntL ((LV ws).take i) false x + 1), some (.str (kL false)), some (.str x), ?_, updL_updL, ?_, fun z => ?_, ?_⟩
      · have e2 : (n : Int) * (((cntL ((LV ws).take i) false x : Nat) : Int) + 1) = ((n * (cntL ((LV ws).take i) false x + 1) : Nat) : Int) := by push_cast; rfl
        rw [← e2]; rfl
      · have := putY_len kvs (.inr x) (.int (((cntL ((LV ws).take i) false x : Nat) : Int) + 1)); omega
      · rw [valY_put, et, cnt_snoc]
        by_cases h : z = x
        · subst h
          rw [if_pos rfl, if_pos (by simp [isLf])]
          unfold cntY
          rw [if_neg (by omega)]
          push_cast; rfl
        · rw [if_neg (fun q => h (Sum.inr.inj q)), if_neg (by simp [isLf]; exact fun q => h q.symm), hv]; rfl
      · rw [et]; exact hw.plain
  · rintro τ L' ⟨kvs, n, c4, c5, rfl, rfl, hk, hv, hw⟩
    rw [List.length_map, List.take_length] at hw
    exact finS (sub _) (q n (.inl ⟨even_of_unev hlf hn, hw⟩))
end L3

namespace K71
open PySem L2 L3 Words
def top (i : Nat) : Stmt := PySem.Challenge.pw_oncewise_k71_ways_to_link.main.body.getD i (.Pass ⟨0, 0, 0, 0⟩)
abbrev s_is_leaf : Stmt := top 3
theorem sc_is_leaf : FnScope ["word"] ["word"] (defScope s_is_leaf) := ⟨rfl, rfl, rfl, by decide +kernel, rfl, by decide +kernel, by decide +kernel⟩
abbrev s_turned : Stmt := top 4
theorem sc_turned : FnScope ["word", "kind"] ["word"] (defScope s_turned) := ⟨rfl, rfl, rfl, by decide +kernel, rfl, by decide +kernel, by decide +kernel⟩
abbrev s_leaves_of : Stmt := top 5
theorem sc_leaves_of : FnScope ["word"] ["word"] (defScope s_leaves_of) := ⟨rfl, rfl, rfl, by decide +kernel, rfl, by decide +kernel, by decide +kernel⟩
abbrev s_leaves_in : Stmt := top 7
theorem sc_leaves_in : FnScope ["words", "leaves", "word"] ["words"] (defScope s_leaves_in) := ⟨rfl, rfl, rfl, by decide +kernel, rfl, by decide +kernel, by decide +kernel⟩
abbrev s_first_uneven : Stmt := top 8
theorem sc_first_uneven : FnScope ["leaves", "leaf"] ["leaves"] (defScope s_first_uneven) := ⟨rfl, rfl, rfl, by decide +kernel, rfl, by decide +kernel, by decide +kernel⟩
abbrev s_tries_due : Stmt := top 9
theorem sc_tries_due : FnScope ["words", "leaves", "ways", "counts", "kind", "name"] ["words"] (defScope s_tries_due) := ⟨rfl, rfl, rfl, by decide +kernel, rfl, by decide +kernel, by decide +kernel⟩
abbrev s__law_mix : Stmt := top 11
theorem sc__law_mix : FnScope ["_law_cell", "_law_k", "_law_factor"] ["_law_cell", "_law_k", "_law_factor"] (defScope s__law_mix) := ⟨rfl, rfl, rfl, by decide +kernel, rfl, by decide +kernel, by decide +kernel⟩
abbrev s__law_name : Stmt := top 12
theorem sc__law_name : FnScope ["_law_seed", "_law_which", "_law_letters", "_law_size", "_law_place", "_law_base", "_law_sign"] ["_law_seed", "_law_which"] (defScope s__law_name) := ⟨rfl, rfl, rfl, by decide +kernel, rfl, by decide +kernel, by decide +kernel⟩
abbrev s__law_leaves : Stmt := top 13
theorem sc__law_leaves : FnScope ["_law_cells", "_law_seed", "_law_even", "_law_sides", "_law_leaves_here", "_law_k", "_law_cell", "_law_number", "_law_leaf"] ["_law_cells", "_law_seed", "_law_even"] (defScope s__law_leaves) := ⟨rfl, rfl, rfl, by decide +kernel, rfl, by decide +kernel, by decide +kernel⟩
abbrev s__law_due : Stmt := top 14
theorem sc__law_due : FnScope ["_law_leaves_here", "_law_seed", "_law_due_here", "_law_which", "_law_name_here", "_law_plain", "_law_other", "_law_k"] ["_law_leaves_here", "_law_seed"] (defScope s__law_due) := ⟨rfl, rfl, rfl, by decide +kernel, rfl, by decide +kernel, by decide +kernel⟩
abbrev s_law : Stmt := top 15
theorem sc_law : FnScope ["_law_script", "_law_seed", "_law_leaves_here", "_law_words", "_law_k", "_law_pairs", "_law_found"] ["_law_script"] (defScope s_law) := ⟨rfl, rfl, rfl, by decide +kernel, rfl, by decide +kernel, by decide +kernel⟩
structure Bt (K : PySem.W.Frag) (P : Program) (w : World) (mg : Str → Option Value) : Prop where
  none_ : True
  b_range : mg "range" = none
  b_enumerate : mg "enumerate" = none
  b_len : mg "len" = none
  b_list : mg "list" = none
  b_isinstance : mg "isinstance" = none
  b_bool : mg "bool" = none
  b_int : mg "int" = none
  k_LEAF_KINDS : TopC ⟨K, P, w⟩ mg "LEAF_KINDS" cs_LEAF_KINDS
  k_TURNED_KINDS : TopC ⟨K, P, w⟩ mg "TURNED_KINDS" cs_TURNED_KINDS
section
variable {P : Program} {w : World} {K : PySem.W.Frag} {mg : Str → Option Value} {base : Heap} {f : Addr} {fd : FuncData} {m : Nat} 
theorem tm_is_leaf (B : Bt K P w mg) {cdv : Value} {A : Around} {outer : List Env} {s : Shared} {H : Hp} {E : XK} (hr : Room m (A.deeper (PyProof.Rows.envOfC "is_leaf" (defScope s_is_leaf) s.heap.objs.size f cdv))) :
    QSs (cxOf CX0 P w K mg base ["word"] "is_leaf" (defScope s_is_leaf) f cdv A outer s H E).nox (defBody s_is_leaf) t_is_leaf := by
  have sc := sc_is_leaf
  have hu := huK hr
  exact (qss_one (qs_ret (qe_cmpR (q_inS K P w) (qe_ix (q_ixK K P w) (qv 0) qe_int (fun _ _ => rfl)) (qe_top B.k_LEAF_KINDS rfl) (by with_unfolding_all rfl))))
theorem all_is_leaf (F : Fun K "is_leaf" "is_leaf" s_is_leaf f fd) (B : Bt K P w mg) : Fn3 P w K mg base 1 f fd ["word"] (sp_is_leaf) :=
  ok3 (k := 0) F sc_is_leaf (by rintro _ _ _ ⟨_, _, _, rfl, _⟩; rfl) fun cdv A outer s H E hr => ⟨_, tm_is_leaf B  hr, vc_is_leaf⟩
theorem tm_turned {p_is_leaf : Sp3} {p_turned : Sp3} (B : Bt K P w mg) (c_is_leaf : Cal3 P w K mg base m "is_leaf" ["word"] p_is_leaf) (c_turned : Cal3 P w K mg base m "turned" ["word"] p_turned) {cdv : Value} {A : Around} {outer : List Env} {s : Shared} {H : Hp} {E : XK} (hr : Room m (A.deeper (PyProof.Rows.envOfC "turned" (defScope s_turned) s.heap.objs.size f cdv))) :
    QSs (cxOf CX0 P w K mg base ["word", "kind"] "turned" (defScope s_turned) f cdv A outer s H E).nox (defBody s_turned) (t_turned p_is_leaf p_turned) := by
  have sc := sc_turned
  have hu := huK hr
  exact (qss_cons (qs_set (i := 1) sc.nd rfl (Or.inl rfl) (qe_ix (q_ixK K P w) (qe_top B.k_TURNED_KINDS rfl) (qe_ix (q_ixK K P w) (qv 0) qe_int (fun _ _ => rfl)) (fun _ _ => rfl)))
    (qss_cons (qs_if (qt_val (qe_c c_is_leaf hr rfl (qa_cons (qv 0) qa_nil))) (qss_one (qs_ret (qe_tup (qa_cons (qv 1) (qa_cons (qe_ix (q_ixK K P w) (qv 0) qe_int (fun _ _ => rfl)) qa_nil))))) qss_nil)
    (qss_one (qs_ret (qe_tup (qa_cons (qv 1) (qa_cons (qe_c c_turned hr rfl (qa_cons (qe_ix (q_ixK K P w) (qv 0) qe_int (fun _ _ => rfl)) qa_nil)) (qa_cons (qe_c c_turned hr rfl (qa_cons (qe_ix (q_ixK K P w) (qv 0) qe_int (fun _ _ => rfl)) qa_nil)) qa_nil))))))))
theorem all_turned (F : Fun K "turned" "turned" s_turned f fd) (b : Binds K fd ["word"] []) (mgx : mg "turned" = some (.ref f)) (B : Bt K P w mg) (c_is_leaf : Cal3 P w K mg base 1 "is_leaf" ["word"] (sp_is_leaf)) : ∀ k, Fn3 P w K mg base (k + 2) f fd ["word"] (sp_turned k)
  | 0 => Fn3.never fun ys L Q h => no_turned ys L Q h
  | k + 1 => ok3 F sc_turned (by rintro _ _ _ ⟨_, rfl, _⟩; rfl) fun cdv A outer s H E hr => ⟨_, tm_turned B (c_is_leaf.mono (by omega)) (Cal.of (all_turned F b mgx B c_is_leaf k) b F.kp mgx) hr, vc_turned k⟩
theorem tm_leaves_of {p_is_leaf : Sp3} {p_leaves_of : Sp3} (B : Bt K P w mg) (c_is_leaf : Cal3 P w K mg base m "is_leaf" ["word"] p_is_leaf) (c_leaves_of : Cal3 P w K mg base m "leaves_of" ["word"] p_leaves_of) {cdv : Value} {A : Around} {outer : List Env} {s : Shared} {H : Hp} {E : XK} (hr : Room m (A.deeper (PyProof.Rows.envOfC "leaves_of" (defScope s_leaves_of) s.heap.objs.size f cdv))) :
    QSs (cxOf CX0 P w K mg base ["word"] "leaves_of" (defScope s_leaves_of) f cdv A outer s H E).nox (defBody s_leaves_of) (t_leaves_of p_is_leaf p_leaves_of) := by
  have sc := sc_leaves_of
  have hu := huK hr
  exact (qss_cons (qs_if (qt_val (qe_c c_is_leaf hr rfl (qa_cons (qv 0) qa_nil))) (qss_one (qs_ret (qe_lst (qa_cons (qv 0) qa_nil)))) qss_nil)
    (qss_one (qs_ret (qe_op q_add (qe_c c_leaves_of hr rfl (qa_cons (qe_ix (q_ixK K P w) (qv 0) qe_int (fun _ _ => rfl)) qa_nil)) (qe_c c_leaves_of hr rfl (qa_cons (qe_ix (q_ixK K P w) (qv 0) qe_int (fun _ _ => rfl)) qa_nil))))))
theorem all_leaves_of (F : Fun K "leaves_of" "leaves_of" s_leaves_of f fd) (b : Binds K fd ["word"] []) (mgx : mg "leaves_of" = some (.ref f)) (B : Bt K P w mg) (c_is_leaf : Cal3 P w K mg base 1 "is_leaf" ["word"] (sp_is_leaf)) : ∀ k, Fn3 P w K mg base (k + 2) f fd ["word"] (sp_leaves_of k)
  | 0 => Fn3.never fun ys L Q h => no_leaves_of ys L Q h
  | k + 1 => ok3 F sc_leaves_of (by rintro _ _ _ ⟨_, rfl, _⟩; rfl) fun cdv A outer s H E hr => ⟨_, tm_leaves_of B (c_is_leaf.mono (by omega)) (Cal.of (all_leaves_of F b mgx B c_is_leaf k) b F.kp mgx) hr, vc_leaves_of k⟩
theorem tm_leaves_in {p_leaves_of : Sp3} (B : Bt K P w mg) (c_leaves_of : Cal3 P w K mg base m "leaves_of" ["word"] p_leaves_of) {cdv : Value} {A : Around} {outer : List Env} {s : Shared} {H : Hp} {E : XK} (hr : Room m (A.deeper (PyProof.Rows.envOfC "leaves_in" (defScope s_leaves_in) s.heap.objs.size f cdv))) :
    QSs (cxOf CX0 P w K mg base ["words", "leaves", "word"] "leaves_in" (defScope s_leaves_in) f cdv A outer s H E).nox (defBody s_leaves_in) (t_leaves_in p_leaves_of) := by
  have sc := sc_leaves_in
  have hu := huK hr
  exact (qss_cons (qs_set (i := 1) sc.nd rfl (Or.inl rfl) (qe_lst qa_nil))
    (qss_cons (qs_for PassesOwn.never rfl (qi_list (qv 0)) (qg_name (i := 2) sc.nd rfl (Or.inl rfl)) (qss_one (qs_expr (qe_extend (qv 1) (qa_cons (qe_c c_leaves_of hr rfl (qa_cons (qv 2) qa_nil)) qa_nil)))))
    (qss_one (qs_ret (qv 1)))))
theorem all_leaves_in (F : Fun K "leaves_in" "leaves_in" s_leaves_in f fd) (B : Bt K P w mg) (c_leaves_of : Cal3 P w K mg base 65 "leaves_of" ["word"] (sp_leaves_of 63)) : Fn3 P w K mg base 66 f fd ["words"] (sp_lvin) :=
  ok3 (k := 65) F sc_leaves_in (by rintro _ _ _ ⟨_, _, rfl, _⟩; rfl) fun cdv A outer s H E hr => ⟨_, tm_leaves_in B (c_leaves_of.mono (by decide)) hr, vc_lvin⟩
theorem tm_first_uneven {p_turned : Sp3} (B : Bt K P w mg) (c_turned : Cal3 P w K mg base m "turned" ["word"] p_turned) {cdv : Value} {A : Around} {outer : List Env} {s : Shared} {H : Hp} {E : XK} (hr : Room m (A.deeper (PyProof.Rows.envOfC "first_uneven" (defScope s_first_uneven) s.heap.objs.size f cdv))) :
    QSs (cxOf CX0 P w K mg base ["leaves", "leaf"] "first_uneven" (defScope s_first_uneven) f cdv A outer s H E).nox (defBody s_first_uneven) (t_first_uneven p_turned) := by
  have sc := sc_first_uneven
  have hu := huK hr
  exact (qss_cons (qs_for PassesOwn.never rfl (qi_list (qv 0)) (qg_name (i := 1) sc.nd rfl (Or.inl rfl)) (qss_one (qs_if (qt_cmpR (q_neK K P w hu) (qe_count hu (qv 0) (qa_cons (qv 1) qa_nil)) (qe_count hu (qv 0) (qa_cons (qe_c c_turned hr rfl (qa_cons (qv 1) qa_nil)) qa_nil)) (nomark _)) (qss_one (qs_ret (qe_ix (q_ixK K P w) (qv 1) qe_int (fun _ _ => rfl)))) qss_nil)))
    (qss_one (qs_ret qe_non)))
theorem all_first_uneven (F : Fun K "first_uneven" "first_uneven" s_first_uneven f fd) (B : Bt K P w mg) (c_turned : Cal3 P w K mg base 65 "turned" ["word"] (sp_turned 63)) : Fn3 P w K mg base 66 f fd ["leaves"] (sp_unev) :=
  ok3 (k := 65) F sc_first_uneven (by rintro _ _ _ ⟨_, _, rfl, _⟩; rfl) fun cdv A outer s H E hr => ⟨_, tm_first_uneven B (c_turned.mono (by decide)) hr, vc_unev⟩
theorem tm_tries_due {p_leaves_in : Sp3} {p_first_uneven : Sp3} (B : Bt K P w mg) (c_leaves_in : Cal3 P w K mg base m "leaves_in" ["words"] p_leaves_in) (c_first_uneven : Cal3 P w K mg base m "first_uneven" ["leaves"] p_first_uneven) {cdv : Value} {A : Around} {outer : List Env} {s : Shared} {H : Hp} {E : XK} (hr : Room m (A.deeper (PyProof.Rows.envOfC "tries_due" (defScope s_tries_due) s.heap.objs.size f cdv))) :
    QSs (cxOf CX0 P w K mg base ["words", "leaves", "ways", "counts", "kind", "name"] "tries_due" (defScope s_tries_due) f cdv A outer s H E).nox (defBody s_tries_due) (t_tries_due p_leaves_in p_first_uneven) := by
  have sc := sc_tries_due
  have hu := huK hr
  exact (qss_cons (qs_set (i := 1) sc.nd rfl (Or.inl rfl) (qe_c c_leaves_in hr rfl (qa_cons (qv 0) qa_nil)))
    (qss_cons (qs_if (qt_notN (qe_c c_first_uneven hr rfl (qa_cons (qv 1) qa_nil))) (qss_one (qs_ret qe_int)) qss_nil)
    (qss_cons (qs_set (i := 2) sc.nd rfl (Or.inl rfl) qe_int)
    (qss_cons (qs_set (i := 3) sc.nd rfl (Or.inl rfl) qe_dnew)
    (qss_cons (qs_for PassesOwn.never rfl (qi_list (qv 1)) (qg_tup rfl (qgs_cons (qg_name (i := 4) sc.nd rfl (Or.inl rfl)) (qgs_cons (qg_name (i := 5) sc.nd rfl (Or.inl rfl)) qgs_nil))) (qss_one (qs_if (qt_cmpR (q_eqK K P w hu) (qv 4) qe_str (nomark _)) (qss_cons (qs_dput hu (qv 3) (qv 5) (qe_op q_add (qe_dget2 hu (qv 3) (qv 5) qe_int) qe_int))
    (qss_one (qs_set (i := 2) sc.nd rfl (Or.inl rfl) (qe_op q_mul (qv 2) (qe_dget hu (qv 3) (qv 5) (fun _ _ => rfl)))))) qss_nil)))
    (qss_one (qs_ret (qv 2))))))))
theorem all_tries_due (F : Fun K "tries_due" "tries_due" s_tries_due f fd) (B : Bt K P w mg) (c_leaves_in : Cal3 P w K mg base 66 "leaves_in" ["words"] (sp_lvin)) (c_first_uneven : Cal3 P w K mg base 66 "first_uneven" ["leaves"] (sp_unev)) : Fn3 P w K mg base 67 f fd ["words"] (sp_tries) :=
  ok3 (k := 66) F sc_tries_due (by rintro _ _ _ ⟨_, _, rfl, _⟩; rfl) fun cdv A outer s H E hr => ⟨_, tm_tries_due B (c_leaves_in.mono (by decide)) (c_first_uneven.mono (by decide)) hr, vc_tries⟩
theorem tm__law_mix (B : Bt K P w mg) {cdv : Value} {A : Around} {outer : List Env} {s : Shared} {H : Hp} {E : XK} (hr : Room m (A.deeper (PyProof.Rows.envOfC "_law_mix" (defScope s__law_mix) s.heap.objs.size f cdv))) :
    QSs (cxOf CX0 P w K mg base ["_law_cell", "_law_k", "_law_factor"] "_law_mix" (defScope s__law_mix) f cdv A outer s H E).nox (defBody s__law_mix) t__law_mix := by
  have sc := sc__law_mix
  have hu := huK hr
  exact (qss_one (qs_ret (qe_op q_fdiv (qe_op q_mod (qe_op q_mul (qe_op q_add (qe_op q_add (qe_op q_mul (qe_op q_mod (qv 0) qe_int) qe_int) (qe_op q_mul (qv 1) (qv 1))) qe_int) (qv 2)) qe_int) qe_int)))
theorem all__law_mix (F : Fun K "_law_mix" "_law_mix" s__law_mix f fd) (B : Bt K P w mg) : Fn3 P w K mg base 1 f fd ["_law_cell", "_law_k", "_law_factor"] (sp_mix) :=
  ok3 (k := 0) F sc__law_mix (by rintro _ _ _ ⟨_, _, _, rfl, _⟩; rfl) fun cdv A outer s H E hr => ⟨_, tm__law_mix B  hr, vc_mix⟩
theorem tm__law_name (B : Bt K P w mg) {cdv : Value} {A : Around} {outer : List Env} {s : Shared} {H : Hp} {E : XK} (hr : Room m (A.deeper (PyProof.Rows.envOfC "_law_name" (defScope s__law_name) s.heap.objs.size f cdv))) :
    QSs (cxOf CX0 P w K mg base ["_law_seed", "_law_which", "_law_letters", "_law_size", "_law_place", "_law_base", "_law_sign"] "_law_name" (defScope s__law_name) f cdv A outer s H E).nox (defBody s__law_name) t_name71 := by
  have sc := sc__law_name
  have hu := huK hr
  exact (qss_cons (qs_set (i := 2) sc.nd rfl (Or.inr rfl) qe_str)
    (qss_cons (qs_set (i := 3) sc.nd rfl (Or.inl rfl) (qe_op q_add qe_int (qe_op q_mod (qv 0) qe_int)))
    (qss_cons (qs_set (i := 4) sc.nd rfl (Or.inl rfl) (qe_op q_mod (qe_op q_fdiv (qv 0) qe_int) (qv 3)))
    (qss_cons (qs_set (i := 5) sc.nd rfl (Or.inl rfl) (qe_join qe_str (qa_cons (qe_lc ["_law_k"] (compOk.mk (by rfl)) rfl (qi_range1 rfl B.b_range (qa_cons qe_int qa_nil)) (tgx_name (by show List.Nodup (["_law_seed", "_law_which", "_law_letters", "_law_size", "_law_place", "_law_base", "_law_sign", "_law_k"] : List Str); decide +kernel) (fun _ _ _ _ => Or.inl rfl) (fun _ _ _ _ => rfl)) (fun _ _ _ _ => qf_nil) (fun _ _ _ _ => (qe_ix (q_ixK K P w) (qv 2) (qe_op q_mod (qe_op q_add (qe_op q_fdiv (qv 0) qe_int) (qe_op q_mul qe_int (qv 7))) qe_int) (fun _ _ => rfl)))) qa_nil)))
    (qss_cons (qs_if (qt_cmpR (q_eqK K P w hu) (qe_op q_mod (qe_op q_fdiv (qv 0) qe_int) qe_int) qe_int (nomark _)) (qss_one (qs_ret (qe_slice (q_slU K P w) (qv 5) qo_none (qo_some (qe_op q_add qe_int (qe_op q_mod (qe_op q_add (qv 1) (qv 0)) qe_int)))))) qss_nil)
    (qss_cons (qs_set (i := 6) sc.nd rfl (Or.inl rfl) (qe_ix (q_ixK K P w) (qv 2) (qe_op q_mod (qe_op q_add (qe_op q_add (qe_op q_fdiv (qv 0) qe_int) (qe_op q_mul qe_int (qv 4))) (qv 1)) qe_int) (fun _ _ => rfl)))
    (qss_one (qs_ret (qe_op q_add (qe_op q_add (qe_slice (q_slU K P w) (qv 5) qo_none (qo_some (qv 4))) (qv 6)) (qe_slice (q_slU K P w) (qv 5) (qo_some (qe_op q_add (qv 4) qe_int)) (qo_some (qv 3))))))))))))
theorem all__law_name (F : Fun K "_law_name" "_law_name" s__law_name f fd) (B : Bt K P w mg) : Fn3 P w K mg base 1 f fd ["_law_seed", "_law_which"] (sp_nameE) :=
  ok3 (k := 0) F sc__law_name (by rintro _ _ _ ⟨_, _, rfl, _⟩; rfl) fun cdv A outer s H E hr => ⟨_, tm__law_name B  hr, vc_nameE⟩
theorem tm__law_leaves {p__law_mix : Sp3} {p__law_name : Sp3} (B : Bt K P w mg) (c__law_mix : Cal3 P w K mg base m "_law_mix" ["_law_cell", "_law_k", "_law_factor"] p__law_mix) (c__law_name : Cal3 P w K mg base m "_law_name" ["_law_seed", "_law_which"] p__law_name) {cdv : Value} {A : Around} {outer : List Env} {s : Shared} {H : Hp} {E : XK} (hr : Room m (A.deeper (PyProof.Rows.envOfC "_law_leaves" (defScope s__law_leaves) s.heap.objs.size f cdv))) :
    QSs (cxOf CX0 P w K mg base ["_law_cells", "_law_seed", "_law_even", "_law_sides", "_law_leaves_here", "_law_k", "_law_cell", "_law_number", "_law_leaf"] "_law_leaves" (defScope s__law_leaves) f cdv A outer s H E).nox (defBody s__law_leaves) (t_leaves71 p__law_mix p__law_name) := by
  have sc := sc__law_leaves
  have hu := huK hr
  exact (qss_cons (qs_set (i := 3) sc.nd rfl (Or.inl rfl) (qe_dict [("plain", "turned"), ("turned", "plain")] (pps_cons pe_str pe_str (pps_cons pe_str pe_str pps_nil)) rfl rfl (List.cons_ne_nil _ _) (Nat.le_of_ble_eq_true rfl)))
    (qss_cons (qs_set (i := 4) sc.nd rfl (Or.inl rfl) (qe_lst qa_nil))
    (qss_cons (qs_for PassesOwn.never rfl (qi_enum rfl B.b_enumerate (qv 0)) (qg_tup rfl (qgs_cons (qg_name (i := 5) sc.nd rfl (Or.inl rfl)) (qgs_cons (qg_name (i := 6) sc.nd rfl (Or.inl rfl)) qgs_nil))) (qss_cons (qs_set (i := 7) sc.nd rfl (Or.inl rfl) (qe_c c__law_mix hr rfl (qa_cons (qv 6) (qa_cons (qv 5) (qa_cons qe_int qa_nil)))))
    (qss_cons (qs_set (i := 8) sc.nd rfl (Or.inl rfl) (qe_tup (qa_cons (qe_pick (qa_cons qe_str (qa_cons qe_str qa_nil)) (qe_op q_mod (qv 7) qe_int) (pu_I (pu_var _) (pu_c _)) (fun _ _ => rfl)) (qa_cons (qe_c c__law_name hr rfl (qa_cons (qv 1) (qa_cons (qe_op q_mod (qe_op q_fdiv (qv 7) qe_int) qe_int) qa_nil))) qa_nil))))
    (qss_cons (qs_expr (qe_insert (qv 4) (qa_cons (qe_op q_mod (qe_op q_fdiv (qv 7) qe_int) (qe_op q_add (qe_callB (q_lenK K P w) rfl B.b_len bt_len (qa_cons (qv 4) qa_nil)) qe_int)) (qa_cons (qv 8) qa_nil))))
    (qss_one (qs_if (qt_val (qv 2)) (qss_one (qs_expr (qe_insert (qv 4) (qa_cons (qe_op q_mod (qe_op q_fdiv (qv 7) qe_int) (qe_op q_add (qe_callB (q_lenK K P w) rfl B.b_len bt_len (qa_cons (qv 4) qa_nil)) qe_int)) (qa_cons (qe_tup (qa_cons (qe_ix (q_ixK K P w) (qv 3) (qe_ix (q_ixK K P w) (qv 8) qe_int (fun _ _ => rfl)) (fun _ _ => rfl)) (qa_cons (qe_ix (q_ixK K P w) (qv 8) qe_int (fun _ _ => rfl)) qa_nil))) qa_nil))))) qss_nil))))))
    (qss_one (qs_ret (qv 4))))))
theorem all__law_leaves (F : Fun K "_law_leaves" "_law_leaves" s__law_leaves f fd) (B : Bt K P w mg) (c__law_mix : Cal3 P w K mg base 1 "_law_mix" ["_law_cell", "_law_k", "_law_factor"] (sp_mix)) (c__law_name : Cal3 P w K mg base 1 "_law_name" ["_law_seed", "_law_which"] (sp_nameE)) : Fn3 P w K mg base 2 f fd ["_law_cells", "_law_seed", "_law_even"] (sp_leaves71) :=
  ok3 (k := 1) F sc__law_leaves (by rintro _ _ _ ⟨_, _, _, _, rfl, _⟩; rfl) fun cdv A outer s H E hr => ⟨_, tm__law_leaves B (c__law_mix.mono (by decide)) (c__law_name.mono (by decide)) hr, vc_leaves71⟩
theorem tm__law_due {p__law_name : Sp3} (B : Bt K P w mg) (c__law_name : Cal3 P w K mg base m "_law_name" ["_law_seed", "_law_which"] p__law_name) {cdv : Value} {A : Around} {outer : List Env} {s : Shared} {H : Hp} {E : XK} (hr : Room m (A.deeper (PyProof.Rows.envOfC "_law_due" (defScope s__law_due) s.heap.objs.size f cdv))) :
    QSs (cxOf CX0 P w K mg base ["_law_leaves_here", "_law_seed", "_law_due_here", "_law_which", "_law_name_here", "_law_plain", "_law_other", "_law_k"] "_law_due" (defScope s__law_due) f cdv A outer s H E).nox (defBody s__law_due) (t_due71 p__law_name) := by
  have sc := sc__law_due
  have hu := huK hr
  exact (qss_cons (qs_set (i := 2) sc.nd rfl (Or.inl rfl) qe_int)
    (qss_cons (qs_for PassesOwn.never rfl (qi_range1 rfl B.b_range (qa_cons qe_int qa_nil)) (qg_name (i := 3) sc.nd rfl (Or.inl rfl)) (qss_cons (qs_set (i := 4) sc.nd rfl (Or.inr rfl) (qe_c c__law_name hr rfl (qa_cons (qv 1) (qa_cons (qv 3) qa_nil))))
    (qss_cons (qs_set (i := 5) sc.nd rfl (Or.inl rfl) (qe_callB (q_lenK K P w) rfl B.b_len bt_len (qa_cons (qe_lc ["_law_leaf"] (compOk.mk (by rfl)) rfl (qi_list (qv 0)) (tgx_name (by show List.Nodup (["_law_leaves_here", "_law_seed", "_law_due_here", "_law_which", "_law_name_here", "_law_plain", "_law_other", "_law_k", "_law_leaf"] : List Str); decide +kernel) (fun _ _ _ _ => Or.inl rfl) (fun _ _ _ _ => rfl)) (fun _ _ _ _ => qf_one (qt_cmpR (q_eqK K P w hu) (qv 8) (qe_tup (qa_cons qe_str (qa_cons (qv 4) qa_nil))) (nomark _))) (fun _ _ _ _ => (qv 8))) qa_nil)))
    (qss_cons (qs_set (i := 6) sc.nd rfl (Or.inl rfl) (qe_callB (q_lenK K P w) rfl B.b_len bt_len (qa_cons (qe_lc ["_law_leaf"] (compOk.mk (by rfl)) rfl (qi_list (qv 0)) (tgx_name (by show List.Nodup (["_law_leaves_here", "_law_seed", "_law_due_here", "_law_which", "_law_name_here", "_law_plain", "_law_other", "_law_k", "_law_leaf"] : List Str); decide +kernel) (fun _ _ _ _ => Or.inl rfl) (fun _ _ _ _ => rfl)) (fun _ _ _ _ => qf_one (qt_cmpR (q_eqK K P w hu) (qv 8) (qe_tup (qa_cons qe_str (qa_cons (qv 4) qa_nil))) (nomark _))) (fun _ _ _ _ => (qv 8))) qa_nil)))
    (qss_cons (qs_if (qt_cmpR (q_neK K P w hu) (qv 5) (qv 6) (nomark _)) (qss_one (qs_ret qe_int)) qss_nil)
    (qss_one (qs_for PassesOwn.never rfl (qi_range1 rfl B.b_range (qa_cons (qv 5) qa_nil)) (qg_name (i := 7) sc.nd rfl (Or.inl rfl)) (qss_one (qs_set (i := 2) sc.nd rfl (Or.inl rfl) (qe_op q_mul (qv 2) (qe_op q_add (qv 7) qe_int)))))))))))
    (qss_one (qs_ret (qv 2)))))
theorem all__law_due (F : Fun K "_law_due" "_law_due" s__law_due f fd) (B : Bt K P w mg) (c__law_name : Cal3 P w K mg base 1 "_law_name" ["_law_seed", "_law_which"] (sp_nameE)) : Fn3 P w K mg base 2 f fd ["_law_leaves_here", "_law_seed"] (sp_due71) :=
  ok3 (k := 1) F sc__law_due (by rintro _ _ _ ⟨_, _, _, rfl, _⟩; rfl) fun cdv A outer s H E hr => ⟨_, tm__law_due B (c__law_name.mono (by decide)) hr, vc_due71⟩
theorem tm_law {p__law_leaves : Sp3} {p__law_name : Sp3} {p_tries_due : Sp3} {p__law_due : Sp3} (B : Bt K P w mg) (c__law_leaves : Cal3 P w K mg base m "_law_leaves" ["_law_cells", "_law_seed", "_law_even"] p__law_leaves) (c__law_name : Cal3 P w K mg base m "_law_name" ["_law_seed", "_law_which"] p__law_name) (c_tries_due : Cal3 P w K mg base m "tries_due" ["words"] p_tries_due) (c__law_due : Cal3 P w K mg base m "_law_due" ["_law_leaves_here", "_law_seed"] p__law_due) {cdv : Value} {A : Around} {outer : List Env} {s : Shared} {H : Hp} {E : XK} (hr : Room m (A.deeper (PyProof.Rows.envOfC "law" (defScope s_law) s.heap.objs.size f cdv))) :
    QSs (cxOf CX0 P w K mg base ["_law_script", "_law_seed", "_law_leaves_here", "_law_words", "_law_k", "_law_pairs", "_law_found"] "law" (defScope s_law) f cdv A outer s H E).nox (defBody s_law) (t_law71 p__law_leaves p__law_name p_tries_due p__law_due) := by
  have sc := sc_law
  have hu := huK hr
  exact (qss_cons (qs_set (i := 1) sc.nd rfl (Or.inl rfl) (qe_op q_mod (qe_ix (q_ixK K P w) (qe_op (q_addQ K P w) (qv 0) (qe_lst (qa_cons qe_int qa_nil))) qe_int (fun _ _ => rfl)) (qe_op q_pow qe_int qe_int)))
    (qss_cons (qs_set (i := 2) sc.nd rfl (Or.inl rfl) (qe_c c__law_leaves hr rfl (qa_cons (qe_slice (q_slU K P w) (qv 0) (qo_some qe_int) (qo_some qe_int)) (qa_cons (qv 1) (qa_cons (qe_cmpR q_gt (qe_op q_mod (qv 1) qe_int) qe_int (nomark _)) qa_nil)))))
    (qss_consJ (qs_if (qw_pt (qw_and (qt_cmpR (q_eqK K P w hu) (qe_op q_mod (qv 1) qe_int) qe_int (nomark _)) (qw_and1 (qt_cmpR (q_neK K P w hu) (qv 2) (qe_lst qa_nil) (nomark _))))) (qss_one (qs_expr (qe_popAt (qv 2) (qa_cons (qe_op q_mod (qe_op q_fdiv (qv 1) qe_int) (qe_callB (q_lenK K P w) rfl B.b_len bt_len (qa_cons (qv 2) qa_nil))) qa_nil)))) qss_nil)
    (qss_consJ (qs_if (qt_cmpR (q_eqK K P w hu) (qv 2) (qe_lst qa_nil) (nomark _)) (qss_one (qs_set (i := 2) sc.nd rfl (Or.inl rfl) (qe_lst (qa_cons (qe_tup (qa_cons qe_str (qa_cons (qe_c c__law_name hr rfl (qa_cons (qv 1) (qa_cons qe_int qa_nil))) qa_nil))) qa_nil)))) qss_nil)
    (qss_cons (qs_set (i := 3) sc.nd rfl (Or.inr rfl) (qe_callT q_listOf rfl B.b_list bt_list (qa_cons (qv 2) qa_nil)))
    (qss_cons (qs_for PassesOwn.never rfl (qi_range1 rfl B.b_range (qa_cons (qe_op q_mod (qe_op q_fdiv (qv 1) qe_int) qe_int) qa_nil)) (qg_name (i := 4) sc.nd rfl (Or.inr rfl)) (qss_cons (qs_setLC ["_law_at"] (i := 5) sc.nd rfl (Or.inl rfl) (compOk.mk (by rfl)) rfl (qi_range1 rfl B.b_range (qa_cons (qe_op q_fdiv (qe_callB (q_lenK K P w) rfl B.b_len bt_len (qa_cons (qv 3) qa_nil)) qe_int) qa_nil)) (tgx_name (by show List.Nodup (["_law_script", "_law_seed", "_law_leaves_here", "_law_words", "_law_k", "_law_pairs", "_law_found", "_law_at"] : List Str); decide +kernel) (fun _ _ _ _ => Or.inl rfl) (fun _ _ _ _ => rfl)) (fun _ _ _ _ => qf_nil) (fun _ _ _ _ => (qe_tup (qa_cons (qe_ix (q_ixK K P w) (qe_lst (qa_cons qe_str (qa_cons qe_str qa_nil))) (qe_op q_mod (qe_op q_add (qv 7) (qv 4)) qe_int) (fun _ _ => rfl)) (qa_cons (qe_ix (q_ixK K P w) (qv 3) (qe_op q_mul qe_int (qv 7)) (fun _ _ => rfl)) (qa_cons (qe_ix (q_ixK K P w) (qv 3) (qe_op q_add (qe_op q_mul qe_int (qv 7)) qe_int) (fun _ _ => rfl)) qa_nil))))))
    (qss_one (qs_set (i := 3) sc.nd rfl (Or.inr rfl) (qe_op q_add (qv 5) (qe_slice (q_slU K P w) (qv 3) (qo_some (qe_op q_mul qe_int (qe_callB (q_lenK K P w) rfl B.b_len bt_len (qa_cons (qv 5) qa_nil)))) qo_none))))))
    (qss_cons (qs_set (i := 6) sc.nd rfl (Or.inl rfl) (qe_c c_tries_due hr rfl (qa_cons (qv 3) qa_nil)))
    (qss_one (qs_ret (qe_and (qe_inst .int rfl B.b_isinstance rfl B.b_int bt_int (qv 6)) (qe_and (qe_not (qe_inst .bool rfl B.b_isinstance rfl B.b_bool bt_bool (qv 6))) (qe_one (qe_cmpR (q_eqK K P w hu) (qv 6) (qe_c c__law_due hr rfl (qa_cons (qv 2) (qa_cons (qv 1) qa_nil))) (nomark _))))))))))))))
theorem all_law (F : Fun K "law" "law" s_law f fd) (B : Bt K P w mg) (c__law_leaves : Cal3 P w K mg base 2 "_law_leaves" ["_law_cells", "_law_seed", "_law_even"] (sp_leaves71)) (c__law_name : Cal3 P w K mg base 1 "_law_name" ["_law_seed", "_law_which"] (sp_nameE)) (c_tries_due : Cal3 P w K mg base 67 "tries_due" ["words"] (sp_tries)) (c__law_due : Cal3 P w K mg base 2 "_law_due" ["_law_leaves_here", "_law_seed"] (sp_due71)) : Fn3 P w K mg base 68 f fd ["_law_script"] (sp_law) :=
  ok3 (k := 67) F sc_law (by rintro _ _ _ ⟨_, rfl, _⟩; rfl) fun cdv A outer s H E hr => ⟨_, tm_law B (c__law_leaves.mono (by decide)) (c__law_name.mono (by decide)) (c_tries_due.mono (by decide)) (c__law_due.mono (by decide)) hr, vc_law71⟩
end
theorem all_mk {l : PySem.W.OpenLaw} {w : World} {K : PySem.W.Frag} {h : Heap} {mg : Str → Option Value} {fa : Addr} {a_LEAF_KINDS : Addr} {o_LEAF_KINDS : Option Addr} {n_LEAF_KINDS : Nat} {l_LEAF_KINDS : Array (Option Value)} {t_LEAF_KINDS0 t_LEAF_KINDS1 : Tok} {a_TURNED_KINDS : Addr} {e_TURNED_KINDS : Nat} {t_TURNED_KINDS0 t_TURNED_KINDS1 t_TURNED_KINDS2 t_TURNED_KINDS3 u_TURNED_KINDS0 u_TURNED_KINDS1 u_TURNED_KINDS2 u_TURNED_KINDS3 : Tok} (X : K.In h) (G : h.Ns mainGlobals mg) (hfa : mg "law" = some (.ref fa))
    (D0 : DefIn K "is_leaf" s_is_leaf)
    (D1 : DefIn K "turned" s_turned)
    (D2 : DefIn K "leaves_of" s_leaves_of)
    (D3 : DefIn K "leaves_in" s_leaves_in)
    (D4 : DefIn K "first_uneven" s_first_uneven)
    (D5 : DefIn K "tries_due" s_tries_due)
    (D6 : DefIn K "_law_mix" s__law_mix)
    (D7 : DefIn K "_law_name" s__law_name)
    (D8 : DefIn K "_law_leaves" s__law_leaves)
    (D9 : DefIn K "_law_due" s__law_due)
    (D10 : DefIn K "law" s_law)
    (aLEAF_KINDS : PySem.W.nsIn K mainGlobals "LEAF_KINDS" = some (some (.ref a_LEAF_KINDS)))
    (lLEAF_KINDS : K.lookup a_LEAF_KINDS = some ⟨.type "tuple", o_LEAF_KINDS, .seq #[.str "plain" t_LEAF_KINDS0, .str "turned" t_LEAF_KINDS1] n_LEAF_KINDS, l_LEAF_KINDS⟩)
    (aTURNED_KINDS : PySem.W.nsIn K mainGlobals "TURNED_KINDS" = some (some (.ref a_TURNED_KINDS)))
    (lTURNED_KINDS : K.lookup a_TURNED_KINDS = some ⟨.type "dict", none, .dict ((([("plain", t_TURNED_KINDS0, "turned", u_TURNED_KINDS0), ("turned", t_TURNED_KINDS1, "plain", u_TURNED_KINDS1), ("both", t_TURNED_KINDS2, "either", u_TURNED_KINDS2), ("either", t_TURNED_KINDS3, "both", u_TURNED_KINDS3)] : List (Str × Tok × Str × Tok)).map (rowOf w)).toArray) e_TURNED_KINDS, #[]⟩)
    (hTURNED_KINDS : (a_TURNED_KINDS == sysModules) = false)
    (zrange : PySem.W.nsIn K mainGlobals "range" = some none)
    (zenumerate : PySem.W.nsIn K mainGlobals "enumerate" = some none)
    (zlen : PySem.W.nsIn K mainGlobals "len" = some none)
    (zlist : PySem.W.nsIn K mainGlobals "list" = some none)
    (zisinstance : PySem.W.nsIn K mainGlobals "isinstance" = some none)
    (zbool : PySem.W.nsIn K mainGlobals "bool" = some none)
    (zint : PySem.W.nsIn K mainGlobals "int" = some none) :
    ∃ fd : FuncData, (∀ (s : Shared) (v : Value), BindsTo s fd ⟨[v], []⟩ [("_law_script", v)]) ∧ ∀ base : Heap, K.In base → base.Ns mainGlobals mg → FnOk l.prog w K mg base CX0 68 fa fd ["_law_script"] (spTop K) := by
  obtain ⟨f0, fd0, F0, b0, m0⟩ := D0.use (ps := ["word"]) X G fun _ _ _ _ _ _ us hl => match us, hl with | [_], _ => rfl
  obtain ⟨f1, fd1, F1, b1, m1⟩ := D1.use (ps := ["word"]) X G fun _ _ _ _ _ _ us hl => match us, hl with | [_], _ => rfl
  obtain ⟨f2, fd2, F2, b2, m2⟩ := D2.use (ps := ["word"]) X G fun _ _ _ _ _ _ us hl => match us, hl with | [_], _ => rfl
  obtain ⟨f3, fd3, F3, b3, m3⟩ := D3.use (ps := ["words"]) X G fun _ _ _ _ _ _ us hl => match us, hl with | [_], _ => rfl
  obtain ⟨f4, fd4, F4, b4, m4⟩ := D4.use (ps := ["leaves"]) X G fun _ _ _ _ _ _ us hl => match us, hl with | [_], _ => rfl
  obtain ⟨f5, fd5, F5, b5, m5⟩ := D5.use (ps := ["words"]) X G fun _ _ _ _ _ _ us hl => match us, hl with | [_], _ => rfl
  obtain ⟨f6, fd6, F6, b6, m6⟩ := D6.use (ps := ["_law_cell", "_law_k", "_law_factor"]) X G fun _ _ _ _ _ _ us hl => match us, hl with | [_, _, _], _ => rfl
  obtain ⟨f7, fd7, F7, b7, m7⟩ := D7.use (ps := ["_law_seed", "_law_which"]) X G fun _ _ _ _ _ _ us hl => match us, hl with | [_, _], _ => rfl
  obtain ⟨f8, fd8, F8, b8, m8⟩ := D8.use (ps := ["_law_cells", "_law_seed", "_law_even"]) X G fun _ _ _ _ _ _ us hl => match us, hl with | [_, _, _], _ => rfl
  obtain ⟨f9, fd9, F9, b9, m9⟩ := D9.use (ps := ["_law_leaves_here", "_law_seed"]) X G fun _ _ _ _ _ _ us hl => match us, hl with | [_, _], _ => rfl
  obtain ⟨fL, kV, doc, pm, an, cdv, ct, aL, FL⟩ := D10.ex
  have e := hfa.symm.trans (PySem.W.mg_of X G aL)
  cases e
  have B : Bt K l.prog w mg := ⟨trivial, PySem.W.mg_none_of X G zrange, PySem.W.mg_none_of X G zenumerate, PySem.W.mg_none_of X G zlen, PySem.W.mg_none_of X G zlist, PySem.W.mg_none_of X G zisinstance, PySem.W.mg_none_of X G zbool, PySem.W.mg_none_of X G zint, ⟨⟨a_LEAF_KINDS, PySem.W.mg_of X G aLEAF_KINDS, fun H => ⟨a_LEAF_KINDS, [V.str "plain", V.str "turned"], rfl, .inr ⟨_, _, _, lLEAF_KINDS, rfl, rfl, by show 2 ≤ sizeLine; decide, .cons ⟨_, rfl⟩ (.cons ⟨_, rfl⟩ (.nil))⟩, ⟨_, _, rfl, rfl, ⟨_, _, rfl, rfl, rfl⟩⟩⟩⟩⟩, ⟨⟨a_TURNED_KINDS, PySem.W.mg_of X G aTURNED_KINDS, fun H => ⟨a_TURNED_KINDS, rfl, kd_in _ lTURNED_KINDS hTURNED_KINDS (by show 4 ≤ 1000; decide) (by show List.Nodup ([Sum.inr "plain", Sum.inr "turned", Sum.inr "both", Sum.inr "either"] : List Key); decide +kernel)⟩⟩⟩⟩
  refine ⟨PySem.W.fnOf "law" "law" (defArgs s_law) (defBody s_law) (defScope s_law) .none kV doc pm an cdv ct, fun s v => .of_eq rfl, fun base _ _ => ?_⟩
  have CA_is_leaf := Cal.of (all_is_leaf (P := l.prog) (w := w) (base := base) F0 B) b0 F0.kp m0
  have CA_turned := Cal.of (all_turned (P := l.prog) (w := w) (base := base) F1 b1 m1 B CA_is_leaf 63) b1 F1.kp m1
  have CA_leaves_of := Cal.of (all_leaves_of (P := l.prog) (w := w) (base := base) F2 b2 m2 B CA_is_leaf 63) b2 F2.kp m2
  have CA_leaves_in := Cal.of (all_leaves_in (P := l.prog) (w := w) (base := base) F3 B CA_leaves_of) b3 F3.kp m3
  have CA_first_uneven := Cal.of (all_first_uneven (P := l.prog) (w := w) (base := base) F4 B CA_turned) b4 F4.kp m4
  have CA_tries_due := Cal.of (all_tries_due (P := l.prog) (w := w) (base := base) F5 B CA_leaves_in CA_first_uneven) b5 F5.kp m5
  have CA__law_mix := Cal.of (all__law_mix (P := l.prog) (w := w) (base := base) F6 B) b6 F6.kp m6
  have CA__law_name := Cal.of (all__law_name (P := l.prog) (w := w) (base := base) F7 B) b7 F7.kp m7
  have CA__law_leaves := Cal.of (all__law_leaves (P := l.prog) (w := w) (base := base) F8 B CA__law_mix CA__law_name) b8 F8.kp m8
  have CA__law_due := Cal.of (all__law_due (P := l.prog) (w := w) (base := base) F9 B CA__law_name) b9 F9.kp m9
  exact FnOk.imp (all_law (P := l.prog) (w := w) (base := base) FL B CA__law_leaves CA__law_name CA_tries_due CA__law_due) fun vs H Q E q => top_dn q
end K71

open PySem PySem.W PyProof.Rows
set_option maxRecDepth 100000 in
set_option maxHeartbeats 0 in
theorem PySem.Challenge.cw_oncewise_k71_ways_to_link_holds : PySem.Challenge.rw_oncewise_k71_ways_to_link.Holds := by
  w_on; o_law; z_head; (case hw => w_witness2)
  k_fill
  refine L2.walk_ofZ (l := PySem.Challenge.rw_oncewise_k71_ways_to_link) (n := 63) (k := 68) (x := "_law_script") (CX := L2.CX0) (sp := L3.spTop) rfl (by decide) rfl ⟨rfl, by decide, by decide⟩ (fun _ => rfl) (by decide) ?F ?S ?C
  case F =>
    intro w mg fa h KX G hmg
    refine' K71.all_mk KX G hmg ?D0 ?D1 ?D2 ?D3 ?D4 ?D5 ?D6 ?D7 ?D8 ?D9 ?D10 ?aLEAF_KINDS ?lLEAF_KINDS ?aTURNED_KINDS ?lTURNED_KINDS ?hTURNED_KINDS ?zrange ?zenumerate ?zlen ?zlist ?zisinstance ?zbool ?zint
    (case D0 => refine' L2.def_in ?a ?l ?c ?k; (case a => k_is); (case l => k_is); (case c => k_is); (case k => k_is))
    (case D1 => refine' L2.def_in ?a ?l ?c ?k; (case a => k_is); (case l => k_is); (case c => k_is); (case k => k_is))
    (case D2 => refine' L2.def_in ?a ?l ?c ?k; (case a => k_is); (case l => k_is); (case c => k_is); (case k => k_is))
    (case D3 => refine' L2.def_in ?a ?l ?c ?k; (case a => k_is); (case l => k_is); (case c => k_is); (case k => k_is))
    (case D4 => refine' L2.def_in ?a ?l ?c ?k; (case a => k_is); (case l => k_is); (case c => k_is); (case k => k_is))
    (case D5 => refine' L2.def_in ?a ?l ?c ?k; (case a => k_is); (case l => k_is); (case c => k_is); (case k => k_is))
    (case D6 => refine' L2.def_in ?a ?l ?c ?k; (case a => k_is); (case l => k_is); (case c => k_is); (case k => k_is))
    (case D7 => refine' L2.def_in ?a ?l ?c ?k; (case a => k_is); (case l => k_is); (case c => k_is); (case k => k_is))
    (case D8 => refine' L2.def_in ?a ?l ?c ?k; (case a => k_is); (case l => k_is); (case c => k_is); (case k => k_is))
    (case D9 => refine' L2.def_in ?a ?l ?c ?k; (case a => k_is); (case l => k_is); (case c => k_is); (case k => k_is))
    (case D10 => refine' L2.def_in ?a ?l ?c ?k; (case a => k_is); (case l => k_is); (case c => k_is); (case k => k_is))
    (case aLEAF_KINDS => k_is)
    (case lLEAF_KINDS => k_is)
    (case aTURNED_KINDS => k_is)
    (case lTURNED_KINDS => k_is)
    (case hTURNED_KINDS => rfl)
    (case zrange => k_is)
    (case zenumerate => k_is)
    (case zlen => k_is)
    (case zlist => k_is)
    (case zisinstance => k_is)
    (case zbool => k_is)
    (case zint => k_is)
  case S => exact L3.top_start
  case C => exact fun _ _ _ _ z => z
#print axioms PySem.Challenge.cw_oncewise_k71_ways_to_link_holds
